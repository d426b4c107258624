/- Contracts and lemmas: S2 -/
import Derived.Test.YtfbmlacklhiecaaS1
import Derived.Lib.SliceRun
import Derived.Shelf.SlicesE.Compact
import Derived.Shelf.SlSortCmp.Kit1
namespace Go.Proofs.Ytfbmlacklhiecaa
set_option linter.unusedVariables false
set_option linter.unusedSimpArgs false
open Go.RowKit Go.ChangeShapes Go.WideShapes
set_option maxRecDepth 20000

/-- words rise -/
def Rising (l : List ByteArray) : Prop := l.Pairwise (fun a b => lessS a b = true)
/-- .. as a Bool -/
def riseB : List ByteArray → Bool
  | [] => true
  | x :: r => r.all (fun y => lessS x y) && riseB r
theorem riseB_iff : ∀ l : List ByteArray, riseB l = true ↔ Rising l
  | [] => by simp [riseB, Rising]
  | x :: r => by
    have ih := riseB_iff r
    unfold Rising at *
    simp [riseB, ih]
/-- a word laid among words that rise -/
def insS (x : ByteArray) : List ByteArray → List ByteArray
  | [] => [x]
  | y :: r => if lessS x y = true then x :: y :: r else if x = y then y :: r else y :: insS x r
/-- words put right: rising, each once -/
def rightS (l : List ByteArray) : List ByteArray := l.foldr insS []
theorem mem_ins (x z : ByteArray) : ∀ l : List ByteArray, z ∈ insS x l ↔ z = x ∨ z ∈ l
  | [] => by simp [insS]
  | y :: r => by
    unfold insS
    split
    · simp
    · split
      · rename_i h; subst h; simp
      · have ih := mem_ins x z r
        simp only [List.mem_cons, ih]
        constructor
        · rintro (h | h | h) <;> simp [h]
        · rintro (h | h | h) <;> simp [h]
theorem rising_ins (x : ByteArray) : ∀ l : List ByteArray, Rising l → Rising (insS x l)
  | [], _ => by simp [insS, Rising]
  | y :: r, h => by
    have h' := h
    unfold Rising at h
    rw [List.pairwise_cons] at h
    unfold insS
    split
    · rename_i hx
      unfold Rising
      rw [List.pairwise_cons]
      refine ⟨fun z hz => ?_, h'⟩
      rcases List.mem_cons.1 hz with rfl | hz
      · exact hx
      · exact lessS_trans hx (h.1 z hz)
    · rename_i hx
      split
      · exact h'
      · rename_i hne
        unfold Rising
        rw [List.pairwise_cons]
        refine ⟨fun z hz => ?_, rising_ins x r h.2⟩
        rcases (mem_ins x z r).1 hz with rfl | hz
        · exact lessS_total hne (by simpa using hx)
        · exact h.1 z hz
theorem mem_right (z : ByteArray) : ∀ l : List ByteArray, z ∈ rightS l ↔ z ∈ l
  | [] => by simp [rightS]
  | y :: r => by
    have ih := mem_right z r
    show z ∈ insS y (rightS r) ↔ _
    rw [mem_ins, ih, List.mem_cons]
theorem rising_right : ∀ l : List ByteArray, Rising (rightS l)
  | [] => by simp [rightS, Rising]
  | y :: r => rising_ins y _ (rising_right r)
theorem Rising.tail {x : ByteArray} {r : List ByteArray} (h : Rising (x :: r)) : Rising r := by
  unfold Rising at *; exact (List.pairwise_cons.1 h).2
theorem Rising.head {x : ByteArray} {r : List ByteArray} (h : Rising (x :: r)) : ∀ z ∈ r, lessS x z = true := by
  unfold Rising at *; exact (List.pairwise_cons.1 h).1
theorem Rising.fresh {x : ByteArray} {r : List ByteArray} (h : Rising (x :: r)) : ¬ x ∈ r := fun hm => by
  have := h.head x hm; rw [lessS_same] at this; cases this
/-- words that rise are known by what is among them -/
theorem rising_ext : ∀ {l m : List ByteArray}, Rising l → Rising m → (∀ z, z ∈ l ↔ z ∈ m) → l = m
  | [], [], _, _, _ => rfl
  | [], y :: r, _, _, h => by have := (h y).2 (by simp); simp at this
  | x :: r, [], _, _, h => by have := (h x).1 (by simp); simp at this
  | x :: r, y :: s, hl, hm, h => by
    have hxy : x = y := by
      rcases List.mem_cons.1 ((h x).1 (by simp)) with e | hx
      · exact e
      · rcases List.mem_cons.1 ((h y).2 (by simp)) with e | hy
        · exact e.symm
        · have a := hl.head y hy
          have b := hm.head x hx
          rw [lessS_asym a] at b; cases b
    subst hxy
    rw [rising_ext hl.tail hm.tail (fun z => ?_)]
    constructor
    · intro hz
      rcases List.mem_cons.1 ((h z).1 (by simp [hz])) with rfl | h2
      · exact absurd hz hl.fresh
      · exact h2
    · intro hz
      rcases List.mem_cons.1 ((h z).2 (by simp [hz])) with rfl | h2
      · exact absurd hz hm.fresh
      · exact h2
theorem right_self {l : List ByteArray} (h : Rising l) : rightS l = l := rising_ext (rising_right l) h (fun z => mem_right z l)
theorem right_same {l m : List ByteArray} (h : ∀ z, z ∈ l ↔ z ∈ m) : rightS l = rightS m :=
  rising_ext (rising_right l) (rising_right m) (fun z => by rw [mem_right, mem_right, h z])
theorem rising_steps : ∀ {l : List ByteArray}, (∀ i x y, l[i]? = some x → l[i + 1]? = some y → lessS x y = true) → Rising l
  | [], _ => by simp [Rising]
  | [x], _ => by simp [Rising]
  | x :: y :: r, h => by
    have ih : Rising (y :: r) := rising_steps (fun i a b ha hb => h (i + 1) a b (by simpa using ha) (by simpa using hb))
    have hxy := h 0 x y rfl rfl
    unfold Rising
    rw [List.pairwise_cons]
    refine ⟨fun z hz => ?_, ih⟩
    rcases List.mem_cons.1 hz with rfl | hz
    · exact hxy
    · exact lessS_trans hxy (ih.head z hz)
theorem rising_at {l : List ByteArray} (h : Rising l) {i j : Nat} {x y : ByteArray} (hij : i < j) (hx : l[i]? = some x) (hy : l[j]? = some y) : lessS x y = true := by
  obtain ⟨h1, rfl⟩ := List.getElem?_eq_some_iff.1 hx
  obtain ⟨h2, rfl⟩ := List.getElem?_eq_some_iff.1 hy
  exact List.pairwise_iff_getElem.1 h i j h1 h2 hij
theorem ins_length (x : ByteArray) : ∀ l : List ByteArray, (insS x l).length ≤ l.length + 1
  | [] => by simp [insS]
  | y :: r => by
    have ih := ins_length x r
    unfold insS
    split
    · simp
    · split
      · simp
      · simp; omega
theorem right_length : ∀ l : List ByteArray, (rightS l).length ≤ l.length
  | [] => by simp [rightS]
  | y :: r => by
    have ih := right_length r
    have := ins_length y (rightS r)
    show (insS y (rightS r)).length ≤ _
    simp; omega
theorem right_small {n : Nat} {l : List ByteArray} (h : Small n l) : Small n (rightS l) := fun s hs => h s ((mem_right s l).1 hs)
/-- a set may be -/
def mayL (l : List ByteArray) : Bool := decide (1 ≤ l.length ∧ l.length ≤ 16) && (l.all mayS && riseB l)
theorem mayL_iff {l : List ByteArray} : mayL l = true ↔ (1 ≤ l.length ∧ l.length ≤ 16) ∧ (∀ x ∈ l, mayS x = true) ∧ Rising l := by
  unfold mayL
  simp only [Bool.and_eq_true, decide_eq_true_eq, List.all_eq_true, riseB_iff]
/-- the first k words are as a set's -/
def Upto (l : List ByteArray) (k : Nat) : Prop := ∀ j x, j < k → l[j]? = some x → mayS x = true ∧ ∀ i y, j = i + 1 → l[i]? = some y → lessS y x = true
theorem mayL_all {l : List ByteArray} (h1 : 1 ≤ l.length) (h2 : l.length ≤ 16) (h : Upto l l.length) : mayL l = true := by
  refine mayL_iff.2 ⟨⟨h1, h2⟩, fun x hx => ?_, rising_steps fun i x y hx hy => ?_⟩
  · obtain ⟨i, hi⟩ := List.mem_iff_getElem?.1 hx
    exact (h i x (List.getElem?_eq_some_iff.1 hi).1 hi).1
  · exact (h (i + 1) y (List.getElem?_eq_some_iff.1 hy).1 hy).2 i x rfl hx
theorem mayL_bad {l : List ByteArray} {k : Nat} {x : ByteArray} (hx : l[k]? = some x) (h : mayS x = false) : mayL l = false := by
  cases e : mayL l
  · rfl
  · have := (mayL_iff.1 e).2.1 x (List.mem_of_getElem? hx)
    rw [h] at this; cases this
theorem mayL_fall {l : List ByteArray} {k : Nat} {x y : ByteArray} (hy : l[k]? = some y) (hx : l[k + 1]? = some x) (h : lessS y x = false) : mayL l = false := by
  cases e : mayL l
  · rfl
  · have := rising_at (mayL_iff.1 e).2.2 (Nat.lt_succ_self k) hy hx
    rw [h] at this; cases this
theorem mayL_count {l : List ByteArray} (h : l.length = 0 ∨ 16 < l.length) : mayL l = false := by
  unfold mayL
  have : decide (1 ≤ l.length ∧ l.length ≤ 16) = false := by simp; omega
  rw [this]; rfl
theorem Upto.step {l : List ByteArray} {k : Nat} {x : ByteArray} (h : Upto l k) (hx : l[k]? = some x) (h1 : mayS x = true) (h2 : ∀ i y, k = i + 1 → l[i]? = some y → lessS y x = true) : Upto l (k + 1) := by
  intro j z hj hz
  rcases Nat.lt_or_ge j k with hlt | hge
  · exact h j z hlt hz
  · obtain rfl : j = k := by omega
    rw [hx] at hz; cases hz
    exact ⟨h1, h2⟩
/-- how many there are is looked at -/
def boundL (s : List ByteArray) : List ByteArray × Int := if s.length = 0 ∨ 16 < s.length then ([], 3) else (s, 0)
/-- Of -/
def ofL (l : List ByteArray) : List ByteArray × Int := if l.all mayS = false then ([], 2) else boundL (rightS l)
/-- And -/
def andL (a b : List ByteArray) : List ByteArray × Int := if (mayL a && mayL b) = false then ([], 2) else boundL (rightS (a ++ b))
/-- each of a, each of b behind it -/
def crossL (a b : List ByteArray) : List ByteArray := a.flatMap (fun x => b.map (fun y => x ++ y))
/-- one of them is too long -/
def longB (l : List ByteArray) : Bool := l.any (fun x => decide (16 < x.size))
/-- Quote -/
def quoteL (a b : List ByteArray) : List ByteArray × Int := if (mayL a && mayL b) = false then ([], 2) else if longB (crossL a b) = true then ([], 4) else boundL (rightS (crossL a b))
/-- As -/
def asL (a : List ByteArray) (r : Int) : List ByteArray × Int := if mayL a = false then ([], 2) else if decide (r / 8192 = 5) = false then ([], 1) else quoteL a [ofS [r]]
/-- For -/
def forL (a b : List ByteArray) : List ByteArray × Int :=
  if decide ((quoteL a b).2 = 0) = false then ([], (quoteL a b).2) else if decide ((quoteL [ofS [1]] b).2 = 0) = false then ([], (quoteL [ofS [1]] b).2) else andL (quoteL a b).1 (quoteL [ofS [1]] b).1
/-- Has -/
def hasL (s : List ByteArray) (x : ByteArray) : Bool := s.any (fun y => decide (y = x))
theorem hasL_iff {s : List ByteArray} {x : ByteArray} : hasL s x = true ↔ x ∈ s := by
  unfold hasL
  simp
/-- Within -/
def withinL (a b : List ByteArray) : Bool := a.all (fun x => hasL b x)
theorem withinL_iff {a b : List ByteArray} : withinL a b = true ↔ ∀ x ∈ a, x ∈ b := by
  unfold withinL
  simp only [List.all_eq_true, hasL_iff]
/-- Same -/
def sameL (a b : List ByteArray) : Bool := withinL a b && withinL b a
/-- Heavy -/
def heavyL (s : List ByteArray) : Nat := (s.map (fun x => x.size / 2)).foldl Nat.max 0
theorem mayS_size {x : ByteArray} (h : mayS x = true) : x.size % 2 = 0 ∧ 2 ≤ x.size ∧ x.size ≤ 16 ∧ tornB x = false := by
  unfold mayS at h
  simp only [Bool.and_eq_true, Bool.not_eq_true', decide_eq_true_eq] at h
  have := tornB_false h.1
  exact ⟨this, by omega, by omega, h.1⟩
/-- two words that may be, laid together, may be if that isn't too long -/
theorem mayS_append {x y : ByteArray} (hx : mayS x = true) (hy : mayS y = true) (h : x.size + y.size ≤ 16) : mayS (x ++ y) = true := by
  have sx := mayS_size hx
  have sy := mayS_size hy
  unfold mayS at *
  simp only [Bool.and_eq_true, Bool.not_eq_true', decide_eq_true_eq] at *
  have hs : (x ++ y).size = x.size + y.size := by simp
  refine ⟨torn_append hx.1 hy.1, by omega, ?_⟩
  rw [bs_append, atoms_append _ _ (by rw [bs_len]; omega), List.all_append, hx.2.2, hy.2.2]
  rfl
theorem cross_mem {a b : List ByteArray} {z : ByteArray} : z ∈ crossL a b ↔ ∃ x ∈ a, ∃ y ∈ b, z = x ++ y := by
  unfold crossL
  simp only [List.mem_flatMap, List.mem_map]
  constructor
  · rintro ⟨x, hx, y, hy, rfl⟩; exact ⟨x, hx, y, hy, rfl⟩
  · rintro ⟨x, hx, y, hy, rfl⟩; exact ⟨x, hx, y, hy, rfl⟩
theorem cross_len (a b : List ByteArray) : (crossL a b).length = a.length * b.length := by
  induction a with
  | nil => simp [crossL]
  | cons x r ih =>
    have : crossL (x :: r) b = b.map (fun y => x ++ y) ++ crossL r b := by simp [crossL]
    rw [this, List.length_append, ih, List.length_map, List.length_cons, Nat.add_mul, Nat.one_mul, Nat.add_comm]
theorem longB_false {l : List ByteArray} (h : longB l = false) : ∀ z ∈ l, z.size ≤ 16 := by
  intro z hz
  unfold longB at h
  rw [List.any_eq_false] at h
  have := h z hz
  simpa using this
theorem mayL_and {a b : List ByteArray} (h : (mayL a && mayL b) = true) : mayL a = true ∧ mayL b = true := by simpa using h
theorem all_append {a b : List ByteArray} (ha : mayL a = true) (hb : mayL b = true) : (a ++ b).all mayS = true := by
  rw [List.all_append, List.all_eq_true.2 (mayL_iff.1 ha).2.1, List.all_eq_true.2 (mayL_iff.1 hb).2.1]; rfl
theorem all_cross {a b : List ByteArray} (ha : mayL a = true) (hb : mayL b = true) (h : longB (crossL a b) = false) : (crossL a b).all mayS = true := by
  rw [List.all_eq_true]
  intro z hz
  have hz' := longB_false h z hz
  obtain ⟨x, hx, y, hy, rfl⟩ := cross_mem.1 hz
  exact mayS_append ((mayL_iff.1 ha).2.1 x hx) ((mayL_iff.1 hb).2.1 y hy) (by simpa using hz')
theorem of_and {a b : List ByteArray} (h : (mayL a && mayL b) = true) : ofL (a ++ b) = andL a b := by
  have hh := mayL_and h
  unfold ofL andL
  rw [if_neg (by rw [all_append hh.1 hh.2]; simp), if_neg (by simp [h])]
theorem of_cross {a b : List ByteArray} (h : (mayL a && mayL b) = true) (h2 : longB (crossL a b) = false) : ofL (crossL a b) = quoteL a b := by
  have hh := mayL_and h
  unfold ofL quoteL
  rw [if_neg (by rw [all_cross hh.1 hh.2 h2]; simp), if_neg (by simp [h]), if_neg (by simp [h2])]
theorem cat_two {x y : ByteArray} (hx : mayS x = true) (hy : mayS y = true) : catS [x, y] = if 16 < (x ++ y).size then (⟨#[]⟩, 4) else (x ++ y, 0) := by
  have tx := (mayS_size hx).2.2.2
  have ty := (mayS_size hy).2.2.2
  have ht : [x, y].any tornB = false := by simp [tx, ty]
  have hs : (flatS [x, y]).length = (x ++ y).size := by rw [len2]; simp
  by_cases h : 16 < (x ++ y).size
  · rw [if_pos h, catS_large ht (by omega)]
  · rw [if_neg h, catS_ok ht (by omega), flat2]

theorem Try.info35 : (Try.prog.info? 35).map (fun i => (i.zero, i.size, i.bytes)) = some (some (.string ⟨#[]⟩), 1, 16) := by kernel_rfl
theorem Try.slice36 : SliceOf Try.prog 36 35 (.string ⟨#[]⟩) 1 16 := slice_of Try.underlying36 Try.info35 rfl (by decide)
theorem Try.slice37 : SliceOf Try.prog 37 35 (.string ⟨#[]⟩) 1 16 := slice_of Try.underlying37 Try.info35 rfl (by decide)
theorem one_str {l : List ByteArray} : ∀ u ∈ wcells l, u.oneCell' = true := fun u hu => by obtain ⟨_, _, rfl⟩ := List.mem_map.1 hu; rfl
theorem wcells_len (l : List ByteArray) : (wcells l).length = l.length := by simp [wcells]
theorem wcells_append (l m : List ByteArray) : wcells (l ++ m) = wcells l ++ wcells m := by simp [wcells]
/-- a row of the call's own that has these words -/
def WordsPost (w : World) (l : List ByteArray) (en : Ending) (w' : World) : Prop :=
  ∃ v, en = .returned v ∧ w'.ownsRow w.heap.size 35 1 v l.length (wcells l) ∧ Kept w w'
theorem reads_none {w : World} {G : Nat → Prop} {l : List ByteArray} (hc : ∀ i x, (wcells l)[i]? = some x → ∃ g off, (none : Option Addr) = some ⟨g, off, none⟩ ∧ G g ∧ w.cell? ⟨g, off + i, none⟩ = some x) : l = [] := by
  cases l with
  | nil => rfl
  | cons x r =>
    obtain ⟨g, off, h, _⟩ := hc 0 (.string x) rfl
    cases h
/-- how two words compare -/
def cmpS (x y : ByteArray) : Int := if lessS x y = true then -1 else if lessS y x = true then 1 else 0
/-- words that are no longer than a string can be -/
abbrev Wd := { s : ByteArray // s.size ≤ maxLen }
instance : Inhabited Wd := ⟨⟨ByteArray.empty, by decide⟩⟩
def encW (x : Wd) : Value := .string x.1
def cmpW (x y : Wd) : Int := cmpS x.1 y.1
theorem lt_cmpW (x y : Wd) : ltOf cmpW x y = lessS x.1 y.1 := by
  unfold ltOf cmpW cmpS
  cases h : lessS x.1 y.1
  · cases h2 : lessS y.1 x.1 <;> simp
  · simp
theorem wd_ext {x y : Wd} (h : x.1 = y.1) : x = y := Subtype.ext h
theorem swoW : Go.Sort.SWO (ltOf cmpW) where
  irrefl x := by rw [lt_cmpW]; exact lessS_same _
  trans x y z h1 h2 := by rw [lt_cmpW] at *; exact lessS_trans h1 h2
  ntrans x y z h1 h2 := by
    rw [lt_cmpW] at *
    cases h : lessS x.1 z.1
    · rfl
    · by_cases e : x.1 = y.1
      · rw [e] at h; rw [h] at h2; cases h2
      · have := lessS_trans (lessS_total e h1) h
        rw [this] at h2; cases h2
/-- words as a row of them -/
theorem wds {l : List ByteArray} (h : Small maxLen l) : ∃ d : Array Wd, d.toList.map (·.1) = l ∧ d.size = l.length ∧ d.toList.map encW = wcells l := by
  refine ⟨(l.attach.map (fun x => (⟨x.1, h x.1 x.2⟩ : Wd))).toArray, ?_, by simp, ?_⟩
  · simp
  · simp [wcells, encW]
theorem one_encW : OneCell encW := fun _ => rfl
theorem eql_encW (P : Program) (T : TypeId) : EqlAt P T encW (fun x y => decide (x = y)) :=
  ⟨fun x y w => by
    rw [show encW x = Value.string x.1 from rfl, show encW y = Value.string y.1 from rfl, (EqlAt.string P T).1 x.1 y.1 w]
    dsimp only
    rw [beq_bs]
    congr 2
    exact decide_eq_decide.2 ⟨fun h => wd_ext h, fun h => by rw [h]⟩, fun op a b x y w => (EqlAt.string P T).2 op a b x.1 y.1 w⟩
theorem neq_encW (P : Program) (T : TypeId) : NeqAt P T encW (fun x y => decide (x = y)) :=
  ⟨fun x y w => by
    rw [show encW x = Value.string x.1 from rfl, show encW y = Value.string y.1 from rfl, (NeqAt.string P T).1 x.1 y.1 w]
    dsimp only
    rw [beq_bs]
    congr 3
    exact decide_eq_decide.2 ⟨fun h => wd_ext h, fun h => by rw [h]⟩, fun op a b x y w => (NeqAt.string P T).2 op a b x.1 y.1 w⟩
theorem frozen_row {w : World} {g i : Nat} {cs : Array Value} {e : TypeId} (h : w.heap[g]? = some (.cells cs e (0, 0))) : w.frozen? ⟨g, i, none⟩ = false := by
  unfold World.frozen?
  rw [h]
  simp
theorem own_holds {w : World} {base g n cap : Nat} {e : TypeId} {d : Array Wd} (h : w.ownsRow base e 1 (.slice (some ⟨g, 0, none⟩) n cap) n (d.toList.map encW)) : Go.Sort.Holds encW w g 0 d := by
  intro j hj
  refine ⟨?_, ?_⟩
  · have := h.cells (g := g) rfl j (encW d[j]!) (by simp [hj, getElem!_pos])
    rwa [Addr.add_lit] at this
  · rcases h.2 with ⟨hv, _⟩ | ⟨g', cap', cur, hv, _, hg, _⟩
    · cases hv
    · cases hv
      exact frozen_row hg
/-- behind a row's change -/
theorem own_put {w : World} {base g n cap q : Nat} {e : TypeId} {xs : List Value} {os : Array Obj} {d : Array Wd} (h : w.ownsRow base e 1 (.slice (some ⟨g, 0, none⟩) n cap) n xs) (hd : d.size = n) :
    (Go.Sort.grow (Go.Sort.putRow encW (Go.Sort.ahead w q) g 0 d) os).ownsRow base e 1 (.slice (some ⟨g, 0, none⟩) n cap) n (d.toList.map encW) ∧ Fr (fun k => k = g) w (Go.Sort.grow (Go.Sort.putRow encW (Go.Sort.ahead w q) g 0 d) os) := by
  rcases h.2 with ⟨hv, _⟩ | ⟨g', cap', cur, hv, hb, hg, hn, hm, hs, ht⟩
  · cases hv
  · cases hv
    have hlt : g < w.heap.size := by
      rcases Nat.lt_or_ge g w.heap.size with hlt | hge
      · exact hlt
      · rw [Array.getElem?_eq_none hge] at hg; cases hg
    have hsz : (Go.Sort.putRow encW (Go.Sort.ahead w q) g 0 d).heap.size = w.heap.size := by
      simp [Go.Sort.putRow, Go.Sort.mapBlock, Go.Sort.ahead]
    have hat : ∀ k, k < w.heap.size → (Go.Sort.grow (Go.Sort.putRow encW (Go.Sort.ahead w q) g 0 d) os).heap[k]? = (w.heap.modify g (Go.Sort.onCells (Go.Sort.putCells encW 0 d)))[k]? := by
      intro k hk
      rw [Go.Sort.heap_grow_old _ _ (by rw [hsz]; exact hk)]
      rfl
    refine ⟨⟨by simp [hd], .inr ⟨g, cap, Go.Sort.putCells encW 0 d cur, rfl, hb, ?_, hn, hm, by simp [Go.Sort.putCells, hs], ?_⟩⟩, ⟨rfl, rfl, rfl, by rw [Go.Sort.size_grow, hsz]; omega, ?_⟩⟩
    · rw [hat g hlt, Array.getElem?_modify, if_pos rfl, hg]
      rfl
    · apply List.ext_getElem?
      intro j
      rw [List.getElem?_take]
      split
      · rename_i hj
        have hj1 : j < cur.size := by omega
        have hj2 : j < d.size := by omega
        simp only [Go.Sort.putCells, Array.getElem?_toList, Array.getElem?_mapIdx, Array.getElem?_eq_getElem hj1, Option.map_some, List.getElem?_map, Array.getElem?_eq_getElem hj2]
        rw [if_pos (by omega)]
        simp [getElem!_pos, hj2]
      · rw [List.getElem?_eq_none]
        simp; omega
    · intro k hk hne
      rw [hat k hk, Array.getElem?_modify, if_neg (fun e => hne e.symm)]
/-- a row cut short -/
theorem own_cut {w : World} {base g n cap k : Nat} {e : TypeId} {xs : List Value} (h : w.ownsRow base e 1 (.slice (some ⟨g, 0, none⟩) n cap) n xs) (hk : k ≤ n) :
    w.ownsRow base e 1 (.slice (some ⟨g, 0, none⟩) k cap) k (xs.take k) := by
  have hl := h.1
  rcases h.2 with ⟨hv, _⟩ | ⟨g', cap', cur, hv, hb, hg, hn, hm, hs, ht⟩
  · cases hv
  · cases hv
    refine ⟨by rw [List.length_take]; omega, .inr ⟨g, cap, cur, rfl, hb, hg, by omega, hm, hs, ?_⟩⟩
    rw [← ht, List.take_take]
    congr 1
    omega
/-- what is kept of words that don't fall is the words put right -/
theorem compact_sorted (d : Array Wd) (hd : d.toList.Pairwise (fun a b => lessS b.1 a.1 = false)) :
    (Go.Lib.compactUpTo d d.size).map (·.1) = rightS (d.toList.map (·.1)) := by
  have hle : ∀ i j : Nat, i < j → j < d.size → lessS d[j]!.1 d[i]!.1 = false := by
    intro i j hij hj
    have := List.pairwise_iff_getElem.1 hd i j (by simp; omega) (by simpa using hj) hij
    simpa [getElem!_pos, hj, show i < d.size by omega] using this
  have key : ∀ m, m ≤ d.size → Rising ((Go.Lib.compactUpTo d m).map (·.1)) ∧ ∀ z, z ∈ (Go.Lib.compactUpTo d m).map (·.1) ↔ ∃ j, j < m ∧ d[j]!.1 = z := by
    intro m
    induction m with
    | zero => intro _; exact ⟨by simp [Go.Lib.compactUpTo, Rising], fun z => by simp [Go.Lib.compactUpTo]⟩
    | succ m ih =>
      intro hm
      obtain ⟨h1, h2⟩ := ih (by omega)
      rw [Go.Lib.compactUpTo_succ]
      cases hk : Go.Lib.keeps d m
      · simp only [Bool.false_eq_true, if_false, List.append_nil]
        refine ⟨h1, fun z => ?_⟩
        rw [h2 z]
        simp only [Go.Lib.keeps, decide_eq_false_iff_not, not_or, Decidable.not_not] at hk
        constructor
        · rintro ⟨j, hj, e⟩; exact ⟨j, by omega, e⟩
        · rintro ⟨j, hj, e⟩
          rcases Nat.lt_or_ge j m with h | h
          · exact ⟨j, h, e⟩
          · obtain rfl : j = m := by omega
            exact ⟨j - 1, by omega, by rw [← hk.2]; exact e⟩
      · simp only [if_true, List.map_append, List.map_cons, List.map_nil]
        simp only [Go.Lib.keeps, decide_eq_true_eq] at hk
        constructor
        · unfold Rising at h1 ⊢
          rw [List.pairwise_append]
          refine ⟨h1, by simp, fun a ha b hb => ?_⟩
          rw [List.mem_singleton] at hb
          subst hb
          obtain ⟨j, hj, rfl⟩ := (h2 a).1 ha
          rcases hk with h0 | hne
          · omega
          · have hlast : lessS d[m - 1]!.1 d[m]!.1 = true := lessS_total (fun e => hne (wd_ext e)) (hle (m - 1) m (by omega) (by omega))
            rcases Nat.lt_or_ge j (m - 1) with h | h
            · by_cases e : d[j]!.1 = d[m - 1]!.1
              · rw [e]; exact hlast
              · exact lessS_trans (lessS_total (fun x => e x.symm) (hle j (m - 1) h (by omega))) hlast
            · obtain rfl : j = m - 1 := by omega
              exact hlast
        · intro z
          rw [List.mem_append, h2 z, List.mem_singleton]
          constructor
          · rintro (⟨j, hj, e⟩ | rfl)
            · exact ⟨j, by omega, e⟩
            · exact ⟨m, by omega, rfl⟩
          · rintro ⟨j, hj, e⟩
            rcases Nat.lt_or_ge j m with h | h
            · exact .inl ⟨j, h, e⟩
            · obtain rfl : j = m := by omega
              exact .inr e.symm
  obtain ⟨h1, h2⟩ := key d.size (Nat.le_refl _)
  refine rising_ext h1 (rising_right _) (fun z => ?_)
  rw [h2 z, mem_right, List.mem_map]
  constructor
  · rintro ⟨j, hj, e⟩
    exact ⟨d[j]!, by rw [getElem!_pos d j hj]; simp, e⟩
  · rintro ⟨x, hx, e⟩
    obtain ⟨j, hj, rfl⟩ := List.getElem_of_mem hx
    exact ⟨j, by simpa using hj, by rw [getElem!_pos d j (by simpa using hj)]; simpa using e⟩

/-- a set of the call's own, and what is wrong -/
def SetPost (r : List ByteArray × Int) (w : World) (en : Ending) (w' : World) : Prop :=
  ∃ v, en = .returned (.tuple #[v, .int .i64 r.2]) ∧ w'.ownsRow w.heap.size 35 1 v r.1.length (wcells r.1) ∧ Kept w w'
theorem set_post {r : List ByteArray × Int} {x : List ByteArray} {y : Int} {v : Value} {w w' : World} (h : r = (x, y)) (ho : w'.ownsRow w.heap.size 35 1 v x.length (wcells x)) (hk : Kept w w') : SetPost r w (.returned (.tuple #[v, .int .i64 y])) w' := by
  subst h; exact ⟨v, rfl, ho, hk⟩
theorem set_later {r : List ByteArray × Int} {w w1 w' : World} {en : Ending} (h : SetPost r w1 en w') (hk : Kept w w1) : SetPost r w en w' := by
  obtain ⟨v, he, ho, hk'⟩ := h
  refine ⟨v, he, own_base ho fun g hg => ?_, hk.trans hk'⟩
  rcases ho.2 with ⟨rfl, _⟩ | ⟨g', cap, cur, rfl, hb, _⟩
  · simp [Value.ownBlock] at hg
  · simp [Value.ownBlock] at hg
    have := hk.size
    omega
theorem boundL_no {s : List ByteArray} (h : s.length = 0 ∨ 16 < s.length) : boundL s = ([], 3) := by unfold boundL; rw [if_pos h]
theorem boundL_ok {s : List ByteArray} (h : ¬ (s.length = 0 ∨ 16 < s.length)) : boundL s = (s, 0) := by unfold boundL; rw [if_neg h]
theorem ofL_bad {l : List ByteArray} {k : Nat} {x : ByteArray} (hx : l[k]? = some x) (h : mayS x = false) : ofL l = ([], 2) := by
  unfold ofL
  rw [if_pos]
  rw [List.all_eq_false]
  exact ⟨x, List.mem_of_getElem? hx, by simp [h]⟩
theorem ofL_ok {l : List ByteArray} (h : ∀ j y, j < l.length → l[j]? = some y → mayS y = true) : ofL l = boundL (rightS l) := by
  unfold ofL
  rw [if_neg]
  simp only [Bool.not_eq_false, List.all_eq_true]
  intro x hx
  obtain ⟨i, hi⟩ := List.mem_iff_getElem?.1 hx
  exact h i x (List.getElem?_eq_some_iff.1 hi).1 hi
theorem get_step {l : List ByteArray} {k : Nat} {x : ByteArray} {p : ByteArray → Prop} (h : ∀ j y, j < k → l[j]? = some y → p y) (hx : l[k]? = some x) (hp : p x) : ∀ j y, j < k + 1 → l[j]? = some y → p y := by
  intro j y hj hy
  rcases Nat.lt_or_ge j k with h1 | h1
  · exact h j y h1 hy
  · obtain rfl : j = k := by omega
    rw [hx] at hy; cases hy; exact hp

theorem quoteL_bad {a b : List ByteArray} (h : (mayL a && mayL b) = false) : quoteL a b = ([], 2) := by unfold quoteL; rw [if_pos h]
theorem quoteL_long {a b : List ByteArray} (h : (mayL a && mayL b) = true) (h2 : longB (crossL a b) = true) : quoteL a b = ([], 4) := by unfold quoteL; rw [if_neg (by simp [h]), if_pos h2]
theorem small_of {n m : Nat} {l : List ByteArray} (h : Small n l) (hn : n ≤ m) : Small m l := fun s hs => Nat.le_trans (h s hs) hn
theorem small_long {l : List ByteArray} (h : longB l = false) : Small maxLen l := fun s hs => by
  have := longB_false h s hs
  unfold maxLen; omega
theorem cross_le {a b : List ByteArray} (ha : mayL a = true) (hb : mayL b = true) : (crossL a b).length ≤ 256 := by
  rw [cross_len]
  exact Nat.mul_le_mul (mayL_iff.1 ha).1.2 (mayL_iff.1 hb).1.2
theorem good_one {x : Int} (h0 : 0 ≤ x) (h1 : x ≤ 65535) : Good [x] := fun y hy => by
  rw [List.mem_singleton] at hy; subst hy; exact ⟨h0, h1⟩
theorem boundL_len (s : List ByteArray) : (boundL s).1.length ≤ 16 := by
  unfold boundL
  split
  · simp
  · simp; omega
theorem boundL_mem {s : List ByteArray} {x : ByteArray} (h : x ∈ (boundL s).1) : x ∈ s := by
  unfold boundL at h
  split at h
  · simp at h
  · exact h
theorem quoteL_len (a b : List ByteArray) : (quoteL a b).1.length ≤ 16 := by
  unfold quoteL
  split
  · simp
  · split
    · simp
    · exact boundL_len _
theorem quoteL_small (a b : List ByteArray) : Small 16 (quoteL a b).1 := by
  intro s hs
  unfold quoteL at hs
  split at hs
  · simp at hs
  · split at hs
    · simp at hs
    · rename_i h
      exact longB_false (by simpa using h) s ((mem_right _ _).1 (boundL_mem hs))
theorem asL_bad {a : List ByteArray} {r : Int} (h : mayL a = false) : asL a r = ([], 2) := by unfold asL; rw [if_pos h]
theorem asL_kind {a : List ByteArray} {r : Int} (h : mayL a = true) (h2 : decide (r / 8192 = 5) = false) : asL a r = ([], 1) := by unfold asL; rw [if_neg (by simp [h]), if_pos h2]
theorem asL_ok {a : List ByteArray} {r : Int} (h : mayL a = true) (h2 : decide (r / 8192 = 5) = true) : asL a r = quoteL a [ofS [r]] := by unfold asL; rw [if_neg (by simp [h]), if_neg (by simp [h2])]
theorem small_one (r : Int) : Small maxLen [ofS [r]] := fun s hs => by
  rw [List.mem_singleton] at hs
  subst hs
  rw [ofS_size]
  unfold maxLen
  simp
theorem forL_one {a b x : List ByteArray} {e : Int} (h : quoteL a b = (x, e)) (he : e ≠ 0) : forL a b = ([], e) := by
  unfold forL
  rw [h, if_pos (by simpa using he)]
theorem forL_two {a b x y : List ByteArray} {e : Int} (h : quoteL a b = (x, 0)) (h2 : quoteL [ofS [1]] b = (y, e)) (he : e ≠ 0) : forL a b = ([], e) := by
  unfold forL
  rw [h, h2, if_neg (by simp), if_pos (by simpa using he)]
theorem forL_ok {a b x y : List ByteArray} (h : quoteL a b = (x, 0)) (h2 : quoteL [ofS [1]] b = (y, 0)) : forL a b = andL x y := by
  unfold forL
  rw [h, h2, if_neg (by simp), if_neg (by simp)]

set_option maxHeartbeats 1000000 in
theorem may_set {w : World} {G : Nat → Prop} {v : Value} {l : List ByteArray} (h : Reads w G v (wcells l)) (hl : l.length ≤ 100000) (hs : Small maxLen l) :
    Calls Try.prog 43 #[v] w (KeptPost (.bool (mayL l)) w) := by
  obtain ⟨ao, c, rfl, _, hc⟩ := h
  rw [wcells_len]
  have HC := Lib.hid hc
  have HS := Lib.hid hs
  clear hc hs
  generalize hn : l.length = n at hl ⊢
  have HN := Lib.hid hn
  by_cases h0 : n = 0
  · have g0 : ((n : Int) == 0) = true := by simp [h0]
    have HA := Lib.hid (mayL_count (l := l) (.inl (by omega)))
    clear hn
    go_enter Try.func43, Try.ntmps43
    go_wp2
    go_ret
    exact ⟨ret_bool HA.out.symm, Fr.refl _ _⟩
  have g0 : ((n : Int) == 0) = false := by simp [h0]
  by_cases h16 : 16 < n
  · have g1 : 16 < (n : Int) := by omega
    have HA := Lib.hid (mayL_count (l := l) (.inr (by omega)))
    clear hn
    go_enter Try.func43, Try.ntmps43
    go_wp2
    go_ret
    exact ⟨ret_bool HA.out.symm, Fr.refl _ _⟩
  have g1 : ¬ 16 < (n : Int) := by omega
  have H16 : Hid (1 ≤ n ∧ n ≤ 16) := Lib.hid (by omega)
  clear hn
  have H0 : Hid (Kept w w) := Lib.hid (Fr.refl _ _)
  go_enter Try.func43, Try.ntmps43
  go_wp2
  clear g0 g1 h0
  go_loopw [15] (fun i wr => ∃ k : Nat, k ≤ n ∧ i = .int .i64 k ∧ Hid (Kept w wr) ∧ Hid (Upto l k)) (fun i _ => n - (intOf i).toNat)
  case atStart => exact ⟨0, by omega, rfl, H0, Lib.hid (fun j y hj => by omega)⟩
  case round =>
    obtain ⟨k, hk, rfl, HK, hall⟩ := hrel
    clear H0
    by_cases hlt : k < n
    · have h1 : (k : Int) < n := by omega
      obtain ⟨x, hx⟩ : ∃ x, l[k]? = some x := ⟨_, List.getElem?_eq_getElem (by have := HN.out; omega)⟩
      obtain ⟨g, off, rfl, _, hcell0⟩ := HC.out k _ (wcells_get hx)
      have hcell := HK.out.cell hcell0 (fun x => x)
      have hsx := Lib.hid (HS.out x (List.mem_of_getElem? hx))
      have HX := Lib.hid hx
      clear hx hcell0
      cases hm : mayS x
      · have HA := Lib.hid (mayL_bad HX.out hm)
        go_wp2_with (go_at_call 39; refine (may_any _ _ hsx.out).mono ?_; rintro e w' ⟨rfl, hk1⟩; rw [hm]; replace HK := Lib.hid (HK.out.trans hk1); clear hk1)
        go_ret
        exact ⟨ret_bool HA.out.symm, HK.out⟩
      · by_cases hk0 : k = 0
        · have e0 : ¬ 0 < (k : Int) := by omega
          clear hk0
          have HA := Lib.hid (hall.out.step HX.out hm (fun i y hi => by omega))
          go_wp2_with (go_at_call 39; refine (may_any _ _ hsx.out).mono ?_; rintro e w' ⟨rfl, hk1⟩; rw [hm]; replace HK := Lib.hid (HK.out.trans hk1); clear hk1)
          go_roundw
          case rel => exact ⟨k + 1, by omega, by go_num, HK, HA⟩
          case measure => simp [intOf]; omega
        · obtain ⟨k, rfl⟩ : ∃ k', k = k' + 1 := ⟨k - 1, by omega⟩
          obtain ⟨y, hy⟩ : ∃ y, l[k]? = some y := ⟨_, List.getElem?_eq_getElem (by have := HN.out; omega)⟩
          obtain ⟨g', off', he, _, hcellp⟩ := HC.out k _ (wcells_get hy)
          cases he
          have hcell2 := HK.out.cell hcellp (fun x => x)
          have hsy := Lib.hid (HS.out y (List.mem_of_getElem? hy))
          have HY := Lib.hid hy
          clear hy hcellp hk0
          have e1 : ((k + 1 : Nat) : Int) - 1 = k := by omega
          have e0 : 0 < ((k + 1 : Nat) : Int) := by omega
          cases hls : lessS y x
          · have HA := Lib.hid (mayL_fall HY.out HX.out hls)
            have hcell3 : ∀ (wx : World), Kept wr wx → wx.cell? ⟨g, off + k, none⟩ = some (.string y) := fun wx hx => hx.cell hcell2 (fun x => x)
            go_wp2_with fail
            refine (may_any _ _ hsx.out).mono ?_
            rintro e w' ⟨rfl, hk1⟩
            rw [hm]
            have hcy := hcell3 w' hk1
            replace HK := Lib.hid (HK.out.trans hk1)
            clear hk1 hcell hcell2 hcell3
            go_wp2_with fail
            refine (less_any y x _ hsy.out hsx.out).mono ?_
            rintro e w' ⟨rfl, rfl⟩
            rw [hls]
            go_wp2
            go_ret
            exact ⟨ret_bool HA.out.symm, HK.out⟩
          · have HA := Lib.hid (hall.out.step HX.out hm (fun i z hi hz => by
              obtain rfl : i = k := by omega
              rw [HY.out] at hz; cases hz; exact hls))
            have hcell3 : ∀ (wx : World), Kept wr wx → wx.cell? ⟨g, off + k, none⟩ = some (.string y) := fun wx hx => hx.cell hcell2 (fun x => x)
            go_wp2_with fail
            refine (may_any _ _ hsx.out).mono ?_
            rintro e w' ⟨rfl, hk1⟩
            rw [hm]
            have hcy := hcell3 w' hk1
            replace HK := Lib.hid (HK.out.trans hk1)
            clear hk1 hcell hcell2 hcell3
            go_wp2_with fail
            refine (less_any y x _ hsy.out hsx.out).mono ?_
            rintro e w' ⟨rfl, rfl⟩
            rw [hls]
            go_wp2
            go_roundw
            case rel => exact ⟨k + 2, by omega, by go_num, HK, HA⟩
            case measure => simp [intOf]; omega
    · have HA := Lib.hid (mayL_all (l := l) (by have := HN.out; have := H16.out; omega) (by have := HN.out; have := H16.out; omega) (fun j y hj hy => hall.out j y (by have := HN.out; omega) hy))
      go_wp2
      go_ret
      exact ⟨ret_bool HA.out.symm, HK.out⟩

theorem eq_str (x y : ByteArray) : (x.toList == y.toList) = decide (x = y) := beq_bs x y
/-- a place is told just if the word is there -/
def IdxPost (l : List ByteArray) (x : ByteArray) (w : World) (e : Ending) (w' : World) : Prop := ∃ i : Int, e = .returned (.int .i64 i) ∧ decide (0 ≤ i) = hasL l x ∧ w = w'
theorem hasL_at {l : List ByteArray} {k : Nat} {x : ByteArray} (h : l[k]? = some x) : hasL l x = true := hasL_iff.2 (List.mem_of_getElem? h)
theorem hasL_not {l : List ByteArray} {x : ByteArray} (h : ∀ j y, j < l.length → l[j]? = some y → y ≠ x) : hasL l x = false := by
  cases e : hasL l x
  · rfl
  · obtain ⟨i, hi⟩ := List.mem_iff_getElem?.1 (hasL_iff.1 e)
    exact absurd rfl (h i x (List.getElem?_eq_some_iff.1 hi).1 hi)
theorem heavy_take {l : List ByteArray} {k : Nat} {x : ByteArray} (h : l[k]? = some x) : heavyL (l.take (k + 1)) = Nat.max (heavyL (l.take k)) (x.size / 2) := by
  unfold heavyL
  rw [List.take_add_one, h]
  simp [List.foldl_append]
theorem heavy_le : ∀ {n : Nat} {l : List ByteArray}, Small n l → heavyL l ≤ n := by
  intro n l
  have : ∀ (m : List Nat) (a : Nat), a ≤ n → (∀ x ∈ m, x ≤ n) → m.foldl Nat.max a ≤ n := by
    intro m
    induction m with
    | nil => intro a ha _; exact ha
    | cons x r ih => intro a ha hm; exact ih _ (Nat.max_le.2 ⟨ha, hm x (by simp)⟩) (fun y hy => hm y (by simp [hy]))
  intro h
  refine this _ 0 (Nat.zero_le _) fun x hx => ?_
  obtain ⟨y, hy, rfl⟩ := List.mem_map.1 hx
  have := h y hy
  omega
theorem max_int (a b : Nat) : max (a : Int) (b : Int) = ((Nat.max a b : Nat) : Int) := by
  rw [show Nat.max a b = max a b from rfl]
  omega

set_option maxHeartbeats 1000000 in
theorem rmay_set {w : World} {G : Nat → Prop} {v : Value} {l : List ByteArray} (h : Reads w G v (wcells l)) (hl : l.length ≤ 100000) (hs : Small 100000 l) :
    Calls Try.prog 45 #[v] w (KeptPost (.bool (mayL l)) w) := by
  obtain ⟨ao, c, rfl, _, hc⟩ := h
  rw [wcells_len]
  have HC := Lib.hid hc
  have HS := Lib.hid hs
  clear hc hs
  generalize hn : l.length = n at hl ⊢
  have HN := Lib.hid hn
  by_cases h0 : n < 1
  · have g0 : (n : Int) < 1 := by omega
    have HA := Lib.hid (mayL_count (l := l) (.inl (by omega)))
    clear hn
    go_enter Try.func45, Try.ntmps45
    go_wp2
    go_ret
    exact ⟨ret_bool HA.out.symm, Fr.refl _ _⟩
  have g0 : ¬ (n : Int) < 1 := by omega
  by_cases h16 : 16 < n
  · have g1 : 16 < (n : Int) := by omega
    have HA := Lib.hid (mayL_count (l := l) (.inr (by omega)))
    clear hn
    go_enter Try.func45, Try.ntmps45
    go_wp2
    go_ret
    exact ⟨ret_bool HA.out.symm, Fr.refl _ _⟩
  have g1 : ¬ 16 < (n : Int) := by omega
  have H16 : Hid (1 ≤ n ∧ n ≤ 16) := Lib.hid (by omega)
  clear hn
  have H0 : Hid (Kept w w) := Lib.hid (Fr.refl _ _)
  go_enter Try.func45, Try.ntmps45
  go_wp2
  clear g0 g1 h0
  go_loopw [3] (fun i wr => ∃ k : Nat, k ≤ n ∧ i = .int .i64 k ∧ Hid (Kept w wr) ∧ Hid (Upto l k)) (fun i _ => n - (intOf i).toNat)
  case atStart => exact ⟨0, by omega, rfl, H0, Lib.hid (fun j y hj => by omega)⟩
  case round =>
    obtain ⟨k, hk, rfl, HK, hall⟩ := hrel
    clear H0
    by_cases hlt : k < n
    · have h1 : (k : Int) < n := by omega
      obtain ⟨x, hx⟩ : ∃ x, l[k]? = some x := ⟨_, List.getElem?_eq_getElem (by have := HN.out; omega)⟩
      obtain ⟨g, off, rfl, _, hcell0⟩ := HC.out k _ (wcells_get hx)
      have hcell1 := HK.out.cell hcell0 (fun x => x)
      have hcell : ∀ p : KeptW wr, p.wd.cell? ⟨g, off + k, none⟩ = some (.string x) := fun p => p.kept.cell hcell1 (fun x => x)
      have hsx := Lib.hid (HS.out x (List.mem_of_getElem? hx))
      have HX := Lib.hid hx
      clear hx hcell0 hcell1
      cases hm : mayS x
      · have HA := Lib.hid (mayL_bad HX.out hm)
        have HM : Hid (∀ W, Calls Try.prog 41 #[.string x] W (KeptPost (.bool false) W)) := Lib.hid (fun W => by rw [← hm]; exact rmay_any x W hsx.out)
        clear hm
        go_wp2
        refine wp_region_kept (by kernel_rfl) (by kernel_rfl) ?_
        repeat (refine qa_step (fun K hK => ?_); go_simp; first | (refine hK _ ?_; clear hK K) | (apply Exists.intro; refine ⟨fun _ => ?_, hK _ ?_⟩; (go_at_call 41; exact kept_call HM.out); clear hK K))
        refine qa_nil ?_
        intro _ hw
        obtain ⟨p9, hw⟩ := hw
        subst hw
        replace HK := Lib.hid (HK.out.trans p9.kept)
        all_goals
          go_wp2
          go_ret
          exact ⟨ret_bool HA.out.symm, HK.out⟩
      · have HM : Hid (∀ W, Calls Try.prog 41 #[.string x] W (KeptPost (.bool true) W)) := Lib.hid (fun W => by rw [← hm]; exact rmay_any x W hsx.out)
        by_cases hk0 : k = 0
        · have e0 : decide (0 < k) = false := by simp [hk0]
          have HA := Lib.hid (hall.out.step HX.out hm (fun i y hi => by omega))
          clear hk0 hm
          go_wp2
          refine wp_region_kept (by kernel_rfl) (by kernel_rfl) ?_
          repeat (refine qa_step (fun K hK => ?_); go_simp; first | (refine hK _ ?_; clear hK K) | (apply Exists.intro; refine ⟨fun _ => ?_, hK _ ?_⟩; (go_at_call 41; exact kept_call HM.out); clear hK K))
          refine qa_nil ?_
          intro _ hw
          obtain ⟨p9, hw⟩ := hw
          subst hw
          replace HK := Lib.hid (HK.out.trans p9.kept)
          all_goals
            go_wp2
            go_roundw
            case rel => exact ⟨k + 1, by omega, by go_num, HK, HA⟩
            case measure => simp [intOf]; omega
        · obtain ⟨k, rfl⟩ : ∃ k', k = k' + 1 := ⟨k - 1, by omega⟩
          obtain ⟨y, hy⟩ : ∃ y, l[k]? = some y := ⟨_, List.getElem?_eq_getElem (by have := HN.out; omega)⟩
          obtain ⟨g', off', he, _, hcellp⟩ := HC.out k _ (wcells_get hy)
          cases he
          have hcell3 := HK.out.cell hcellp (fun x => x)
          have hcell2 : ∀ p : KeptW wr, p.wd.cell? ⟨g, off + k, none⟩ = some (.string y) := fun p => p.kept.cell hcell3 (fun x => x)
          have hsy := Lib.hid (HS.out y (List.mem_of_getElem? hy))
          have HY := Lib.hid hy
          have hF := HN.out
          clear hcellp hcell3 hk0 hF
          have e1 : (k : Int) + 1 - 1 = k := by omega
          have h2 : (k : Int) + 1 < n := by omega
          have h3 : (k : Int) < n := by omega
          have e2 : ((k : Int) + 1).toNat = k + 1 := by omega
          have e3 : 0 ≤ (k : Int) + 1 := by omega
          have e0 : 0 < (k : Int) + 1 := by omega
          have w1 : IntKind.i64.wrap (k : Int) = k := IntWalk.i64_in _ (by omega)
          have w2 : IntKind.i64.wrap ((k : Int) + 1 - 1) = k := by rw [e1]; exact w1
          have HL : Hid (∀ W, Calls Try.prog 54 #[.string y, .string x] W (DrewPost (.bool (lessS y x)) W)) := Lib.hid (fun W => rless_any y x W (by have := hsy.out; unfold maxLen; omega) (by have := hsx.out; unfold maxLen; omega))
          clear hy
          cases hls : lessS y x
          · have HA := Lib.hid (mayL_fall HY.out HX.out hls)
            rw [hls] at HL
            clear hls hm
            go_wp2
            refine wp_region_kept (by kernel_rfl) (by kernel_rfl) ?_
            repeat (refine qa_step (fun K hK => ?_); go_simp; first | (refine hK _ ?_; clear hK K) | (apply Exists.intro; refine ⟨fun _ => ?_, hK _ ?_⟩; (first | (go_at_call 41; exact kept_call HM.out) | (go_at_call 54; exact kept_drew HL.out)); clear hK K))
            refine qa_nil ?_
            intro _ hw
            obtain ⟨p9, hw⟩ := hw
            subst hw
            replace HK := Lib.hid (HK.out.trans p9.kept)
            all_goals
              go_wp2
              go_ret
              exact ⟨ret_bool HA.out.symm, HK.out⟩
          · have HA := Lib.hid (hall.out.step HX.out hm (fun i z hi hz => by
              obtain rfl : i = k := by omega
              rw [HY.out] at hz; cases hz; exact hls))
            rw [hls] at HL
            clear hls hm
            go_wp2
            refine wp_region_kept (by kernel_rfl) (by kernel_rfl) ?_
            repeat (refine qa_step (fun K hK => ?_); go_simp; first | (refine hK _ ?_; clear hK K) | (apply Exists.intro; refine ⟨fun _ => ?_, hK _ ?_⟩; (first | (go_at_call 41; exact kept_call HM.out) | (go_at_call 54; exact kept_drew HL.out)); clear hK K))
            refine qa_nil ?_
            intro _ hw
            obtain ⟨p9, hw⟩ := hw
            subst hw
            replace HK := Lib.hid (HK.out.trans p9.kept)
            all_goals
              go_wp2
              go_roundw
              case rel => exact ⟨k + 2, by omega, by go_num, HK, HA⟩
              case measure => simp [intOf]; omega
    · have HA := Lib.hid (mayL_all (l := l) (by have := HN.out; have := H16.out; omega) (by have := HN.out; have := H16.out; omega) (fun j y hj hy => hall.out j y (by have := HN.out; omega) hy))
      go_wp2
      go_ret
      exact ⟨ret_bool HA.out.symm, HK.out⟩

set_option maxHeartbeats 1000000 in
theorem equal_any {w : World} {G G' : Nat → Prop} {va vb : Value} {a b : List ByteArray} (ha : Reads w G va (wcells a)) (hb : Reads w G' vb (wcells b)) (hla : a.length ≤ 100000) (hlb : b.length ≤ 100000) :
    Calls Try.prog 27 #[va, vb] w (DrewPost (.bool (decide (a = b))) w) := by
  obtain ⟨ao, ca, rfl, _, hca⟩ := ha
  obtain ⟨bo, cb, rfl, _, hcb⟩ := hb
  rw [wcells_len, wcells_len]
  have HCA := Lib.hid hca
  have HCB := Lib.hid hcb
  clear hca hcb
  generalize hna : a.length = na at hla ⊢
  generalize hnb : b.length = nb at hlb ⊢
  have HNA := Lib.hid hna
  have HNB := Lib.hid hnb
  by_cases hlen : na = nb
  · subst hlen
    have g0 : ((na : Int) != (na : Int)) = false := by simp
    clear hna hnb
    go_enter Try.func27, Try.ntmps27
    go_wp2
    go_loopw [5] (fun i wr => ∃ k m : Nat, k ≤ na ∧ i = .int .i64 k ∧ wr = w.drewN m ∧ Hid (∀ j, j < k → a[j]? = b[j]?)) (fun i _ => na - (intOf i).toNat)
    case atStart => exact ⟨0, 0, by omega, rfl, rfl, Lib.hid (fun i hi => by omega)⟩
    case round =>
      obtain ⟨k, m, hk, rfl, rfl, hall⟩ := hrel
      by_cases hlt : k < na
      · have h1 : (k : Int) < na := by omega
        obtain ⟨x, hx⟩ : ∃ x, a[k]? = some x := ⟨_, List.getElem?_eq_getElem (by have := HNA.out; omega)⟩
        obtain ⟨y, hy⟩ : ∃ y, b[k]? = some y := ⟨_, List.getElem?_eq_getElem (by have := HNB.out; omega)⟩
        obtain ⟨g, off, rfl, _, hcx⟩ := HCA.out k _ (wcells_get hx)
        obtain ⟨g', off', rfl, _, hcy⟩ := HCB.out k _ (wcells_get hy)
        have HX := Lib.hid hx
        have HY := Lib.hid hy
        clear hx hy
        by_cases hxy : x = y
        · have hq : (x.toList == y.toList) = true := by rw [eq_str, hxy]; simp
          have HQ : Hid (∀ j, j < k + 1 → a[j]? = b[j]?) := Lib.hid (fun j hj => by
            rcases Nat.lt_or_ge j k with h' | h'
            · exact hall.out j h'
            · obtain rfl : j = k := by omega
              rw [HX.out, HY.out, hxy])
          clear hxy
          go_wp2
          go_quiet (fail)
          go_wp2
          go_roundw
          case rel => exact ⟨k + 1, _, by omega, by go_num, rfl, HQ⟩
          case measure => simp [intOf]; omega
        · have hq : (x.toList == y.toList) = false := by rw [eq_str]; simpa using hxy
          have HF : Hid (decide (a = b) = false) := Lib.hid (by
            rw [decide_eq_false_iff_not]
            intro e
            have h1 := HX.out
            rw [e, HY.out] at h1
            cases h1; exact hxy rfl)
          clear hxy
          go_wp2
          go_quiet (fail)
          go_wp2
          go_ret
          exact ⟨ret_bool HF.out.symm, m + nq, by simp⟩
      · have HF : Hid (decide (a = b) = true) := Lib.hid (by
          rw [decide_eq_true_eq]
          exact eq_of_take (by rw [HNA.out, HNB.out]) (by rw [HNA.out]; omega : k = _) hall.out)
        go_wp2
        go_ret
        exact ⟨ret_bool HF.out.symm, _, rfl⟩
  · have g0 : ((na : Int) != (nb : Int)) = true := by simp; omega
    have HF : Hid (decide (a = b) = false) := Lib.hid (by
      rw [decide_eq_false_iff_not]
      intro e
      rw [e] at hna
      omega)
    clear hlen hna hnb
    go_enter Try.func27, Try.ntmps27
    go_wp2
    go_ret
    exact ⟨ret_bool HF.out.symm, 0, rfl⟩

/-- the value holds a set's words -/
def SetAt (w : World) (v : Value) : Prop := ∃ l, Reads w (fun _ => True) v (wcells l) ∧ Small maxLen l ∧ l.length ≤ maxLen
theorem sets_of {w : World} {v : Value} {r : Reach} {b : Nat} (hval : Value.okWide Try.prog w r b 37 v) (h : Holds Try.prog w 37 v.cells.toList) : SetAt w v := by
  obtain ⟨ao, len, cap, rfl⟩ := okWide_slice Try.underlying37 hval
  have hC : Try.prog.cellsOf 35 = 1 := by kernel_rfl
  have : Inhabited ByteArray := ⟨ByteArray.empty⟩
  obtain ⟨l, h1, h2, h3⟩ := Holds.row (mk := Value.string) (R := fun x => x.size ≤ maxLen) (c := .slice ao len cap) h Try.underlying37 hC (fun cs hcs => by
    obtain ⟨x, hx, hw⟩ := hcs.string Try.underlying35
    exact ⟨x, hx, hw⟩)
  exact ⟨l, h1, h2, h3⟩

end Go.Proofs.Ytfbmlacklhiecaa
