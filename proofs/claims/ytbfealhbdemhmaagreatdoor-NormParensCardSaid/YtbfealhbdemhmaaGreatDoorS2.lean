/- Contracts and lemmas: S2 -/
import Derived.Test.YtbfealhbdemhmaaGreatDoorS1
import Derived.Lib.SliceRun
import Derived.Shelf.SlicesE.Compact
import Derived.Shelf.SlSortCmp.Kit1
namespace Go.Proofs.YtbfealhbdemhmaaGreatDoor
set_option linter.unusedVariables false
set_option linter.unusedSimpArgs false
open Go.RowKit Go.ChangeShapes Go.WideShapes
set_option maxRecDepth 20000

/-- words rise -/
def Rising (l : List ByteArray) : Prop := l.Pairwise (fun a b => lessS a b = true)
/-- .. as a Bool -/
def riseB : List ByteArray → Bool
  | [] => true
  | x :: r => r.all (fun y => lessS x y) && riseB r
theorem riseB_iff : ∀ l : List ByteArray, riseB l = true ↔ Rising l
  | [] => by simp [riseB, Rising]
  | x :: r => by
    have ih := riseB_iff r
    unfold Rising at *
    simp [riseB, ih]
/-- a word laid among words that rise -/
def insS (x : ByteArray) : List ByteArray → List ByteArray
  | [] => [x]
  | y :: r => if lessS x y = true then x :: y :: r else if x = y then y :: r else y :: insS x r
/-- words put right: rising, each once -/
def rightS (l : List ByteArray) : List ByteArray := l.foldr insS []
theorem mem_ins (x z : ByteArray) : ∀ l : List ByteArray, z ∈ insS x l ↔ z = x ∨ z ∈ l
  | [] => by simp [insS]
  | y :: r => by
    unfold insS
    split
    · simp
    · split
      · rename_i h; subst h; simp
      · have ih := mem_ins x z r
        simp only [List.mem_cons, ih]
        constructor
        · rintro (h | h | h) <;> simp [h]
        · rintro (h | h | h) <;> simp [h]
theorem rising_ins (x : ByteArray) : ∀ l : List ByteArray, Rising l → Rising (insS x l)
  | [], _ => by simp [insS, Rising]
  | y :: r, h => by
    have h' := h
    unfold Rising at h
    rw [List.pairwise_cons] at h
    unfold insS
    split
    · rename_i hx
      unfold Rising
      rw [List.pairwise_cons]
      refine ⟨fun z hz => ?_, h'⟩
      rcases List.mem_cons.1 hz with rfl | hz
      · exact hx
      · exact lessS_trans hx (h.1 z hz)
    · rename_i hx
      split
      · exact h'
      · rename_i hne
        unfold Rising
        rw [List.pairwise_cons]
        refine ⟨fun z hz => ?_, rising_ins x r h.2⟩
        rcases (mem_ins x z r).1 hz with rfl | hz
        · exact lessS_total hne (by simpa using hx)
        · exact h.1 z hz
theorem mem_right (z : ByteArray) : ∀ l : List ByteArray, z ∈ rightS l ↔ z ∈ l
  | [] => by simp [rightS]
  | y :: r => by
    have ih := mem_right z r
    show z ∈ insS y (rightS r) ↔ _
    rw [mem_ins, ih, List.mem_cons]
theorem rising_right : ∀ l : List ByteArray, Rising (rightS l)
  | [] => by simp [rightS, Rising]
  | y :: r => rising_ins y _ (rising_right r)
theorem Rising.tail {x : ByteArray} {r : List ByteArray} (h : Rising (x :: r)) : Rising r := by
  unfold Rising at *; exact (List.pairwise_cons.1 h).2
theorem Rising.head {x : ByteArray} {r : List ByteArray} (h : Rising (x :: r)) : ∀ z ∈ r, lessS x z = true := by
  unfold Rising at *; exact (List.pairwise_cons.1 h).1
theorem Rising.fresh {x : ByteArray} {r : List ByteArray} (h : Rising (x :: r)) : ¬ x ∈ r := fun hm => by
  have := h.head x hm; rw [lessS_same] at this; cases this
/-- words that rise are known by what is among them -/
theorem rising_ext : ∀ {l m : List ByteArray}, Rising l → Rising m → (∀ z, z ∈ l ↔ z ∈ m) → l = m
  | [], [], _, _, _ => rfl
  | [], y :: r, _, _, h => by have := (h y).2 (by simp); simp at this
  | x :: r, [], _, _, h => by have := (h x).1 (by simp); simp at this
  | x :: r, y :: s, hl, hm, h => by
    have hxy : x = y := by
      rcases List.mem_cons.1 ((h x).1 (by simp)) with e | hx
      · exact e
      · rcases List.mem_cons.1 ((h y).2 (by simp)) with e | hy
        · exact e.symm
        · have a := hl.head y hy
          have b := hm.head x hx
          rw [lessS_asym a] at b; cases b
    subst hxy
    rw [rising_ext hl.tail hm.tail (fun z => ?_)]
    constructor
    · intro hz
      rcases List.mem_cons.1 ((h z).1 (by simp [hz])) with rfl | h2
      · exact absurd hz hl.fresh
      · exact h2
    · intro hz
      rcases List.mem_cons.1 ((h z).2 (by simp [hz])) with rfl | h2
      · exact absurd hz hm.fresh
      · exact h2
theorem right_self {l : List ByteArray} (h : Rising l) : rightS l = l := rising_ext (rising_right l) h (fun z => mem_right z l)
theorem right_same {l m : List ByteArray} (h : ∀ z, z ∈ l ↔ z ∈ m) : rightS l = rightS m :=
  rising_ext (rising_right l) (rising_right m) (fun z => by rw [mem_right, mem_right, h z])
theorem rising_steps : ∀ {l : List ByteArray}, (∀ i x y, l[i]? = some x → l[i + 1]? = some y → lessS x y = true) → Rising l
  | [], _ => by simp [Rising]
  | [x], _ => by simp [Rising]
  | x :: y :: r, h => by
    have ih : Rising (y :: r) := rising_steps (fun i a b ha hb => h (i + 1) a b (by simpa using ha) (by simpa using hb))
    have hxy := h 0 x y rfl rfl
    unfold Rising
    rw [List.pairwise_cons]
    refine ⟨fun z hz => ?_, ih⟩
    rcases List.mem_cons.1 hz with rfl | hz
    · exact hxy
    · exact lessS_trans hxy (ih.head z hz)
theorem rising_at {l : List ByteArray} (h : Rising l) {i j : Nat} {x y : ByteArray} (hij : i < j) (hx : l[i]? = some x) (hy : l[j]? = some y) : lessS x y = true := by
  obtain ⟨h1, rfl⟩ := List.getElem?_eq_some_iff.1 hx
  obtain ⟨h2, rfl⟩ := List.getElem?_eq_some_iff.1 hy
  exact List.pairwise_iff_getElem.1 h i j h1 h2 hij
theorem ins_length (x : ByteArray) : ∀ l : List ByteArray, (insS x l).length ≤ l.length + 1
  | [] => by simp [insS]
  | y :: r => by
    have ih := ins_length x r
    unfold insS
    split
    · simp
    · split
      · simp
      · simp; omega
theorem right_length : ∀ l : List ByteArray, (rightS l).length ≤ l.length
  | [] => by simp [rightS]
  | y :: r => by
    have ih := right_length r
    have := ins_length y (rightS r)
    show (insS y (rightS r)).length ≤ _
    simp; omega
theorem right_small {n : Nat} {l : List ByteArray} (h : Small n l) : Small n (rightS l) := fun s hs => h s ((mem_right s l).1 hs)
/-- a set may be -/
def mayL (l : List ByteArray) : Bool := decide (1 ≤ l.length ∧ l.length ≤ 16) && (l.all mayS && riseB l)
theorem mayL_iff {l : List ByteArray} : mayL l = true ↔ (1 ≤ l.length ∧ l.length ≤ 16) ∧ (∀ x ∈ l, mayS x = true) ∧ Rising l := by
  unfold mayL
  simp only [Bool.and_eq_true, decide_eq_true_eq, List.all_eq_true, riseB_iff]
/-- the first k words are as a set's -/
def Upto (l : List ByteArray) (k : Nat) : Prop := ∀ j x, j < k → l[j]? = some x → mayS x = true ∧ ∀ i y, j = i + 1 → l[i]? = some y → lessS y x = true
theorem mayL_all {l : List ByteArray} (h1 : 1 ≤ l.length) (h2 : l.length ≤ 16) (h : Upto l l.length) : mayL l = true := by
  refine mayL_iff.2 ⟨⟨h1, h2⟩, fun x hx => ?_, rising_steps fun i x y hx hy => ?_⟩
  · obtain ⟨i, hi⟩ := List.mem_iff_getElem?.1 hx
    exact (h i x (List.getElem?_eq_some_iff.1 hi).1 hi).1
  · exact (h (i + 1) y (List.getElem?_eq_some_iff.1 hy).1 hy).2 i x rfl hx
theorem mayL_bad {l : List ByteArray} {k : Nat} {x : ByteArray} (hx : l[k]? = some x) (h : mayS x = false) : mayL l = false := by
  cases e : mayL l
  · rfl
  · have := (mayL_iff.1 e).2.1 x (List.mem_of_getElem? hx)
    rw [h] at this; cases this
theorem mayL_fall {l : List ByteArray} {k : Nat} {x y : ByteArray} (hy : l[k]? = some y) (hx : l[k + 1]? = some x) (h : lessS y x = false) : mayL l = false := by
  cases e : mayL l
  · rfl
  · have := rising_at (mayL_iff.1 e).2.2 (Nat.lt_succ_self k) hy hx
    rw [h] at this; cases this
theorem mayL_count {l : List ByteArray} (h : l.length = 0 ∨ 16 < l.length) : mayL l = false := by
  unfold mayL
  have : decide (1 ≤ l.length ∧ l.length ≤ 16) = false := by simp; omega
  rw [this]; rfl
theorem Upto.step {l : List ByteArray} {k : Nat} {x : ByteArray} (h : Upto l k) (hx : l[k]? = some x) (h1 : mayS x = true) (h2 : ∀ i y, k = i + 1 → l[i]? = some y → lessS y x = true) : Upto l (k + 1) := by
  intro j z hj hz
  rcases Nat.lt_or_ge j k with hlt | hge
  · exact h j z hlt hz
  · obtain rfl : j = k := by omega
    rw [hx] at hz; cases hz
    exact ⟨h1, h2⟩
/-- how many there are is looked at -/
def boundL (s : List ByteArray) : List ByteArray × Int := if s.length = 0 ∨ 16 < s.length then ([], 3) else (s, 0)
/-- Of -/
def ofL (l : List ByteArray) : List ByteArray × Int := if l.all mayS = false then ([], 2) else boundL (rightS l)
/-- And -/
def andL (a b : List ByteArray) : List ByteArray × Int := if (mayL a && mayL b) = false then ([], 2) else boundL (rightS (a ++ b))
/-- each of a, each of b behind it -/
def crossL (a b : List ByteArray) : List ByteArray := a.flatMap (fun x => b.map (fun y => x ++ y))
/-- one of them is too long -/
def longB (l : List ByteArray) : Bool := l.any (fun x => decide (16 < x.size))
/-- Quote -/
def quoteL (a b : List ByteArray) : List ByteArray × Int := if (mayL a && mayL b) = false then ([], 2) else if longB (crossL a b) = true then ([], 4) else boundL (rightS (crossL a b))
/-- As -/
def asL (a : List ByteArray) (r : Int) : List ByteArray × Int := if mayL a = false then ([], 2) else if decide (r / 8192 = 5) = false then ([], 1) else quoteL a [ofS [r]]
/-- For -/
def forL (a b : List ByteArray) : List ByteArray × Int :=
  if decide ((quoteL a b).2 = 0) = false then ([], (quoteL a b).2) else if decide ((quoteL [ofS [1]] b).2 = 0) = false then ([], (quoteL [ofS [1]] b).2) else andL (quoteL a b).1 (quoteL [ofS [1]] b).1
/-- Has -/
def hasL (s : List ByteArray) (x : ByteArray) : Bool := s.any (fun y => decide (y = x))
theorem hasL_iff {s : List ByteArray} {x : ByteArray} : hasL s x = true ↔ x ∈ s := by
  unfold hasL
  simp
/-- Within -/
def withinL (a b : List ByteArray) : Bool := a.all (fun x => hasL b x)
theorem withinL_iff {a b : List ByteArray} : withinL a b = true ↔ ∀ x ∈ a, x ∈ b := by
  unfold withinL
  simp only [List.all_eq_true, hasL_iff]
/-- Same -/
def sameL (a b : List ByteArray) : Bool := withinL a b && withinL b a
/-- Heavy -/
def heavyL (s : List ByteArray) : Nat := (s.map (fun x => x.size / 2)).foldl Nat.max 0
theorem mayS_size {x : ByteArray} (h : mayS x = true) : x.size % 2 = 0 ∧ 2 ≤ x.size ∧ x.size ≤ 16 ∧ tornB x = false := by
  unfold mayS at h
  simp only [Bool.and_eq_true, Bool.not_eq_true', decide_eq_true_eq] at h
  have := tornB_false h.1
  exact ⟨this, by omega, by omega, h.1⟩
/-- two words that may be, laid together, may be if that isn't too long -/
theorem mayS_append {x y : ByteArray} (hx : mayS x = true) (hy : mayS y = true) (h : x.size + y.size ≤ 16) : mayS (x ++ y) = true := by
  have sx := mayS_size hx
  have sy := mayS_size hy
  unfold mayS at *
  simp only [Bool.and_eq_true, Bool.not_eq_true', decide_eq_true_eq] at *
  have hs : (x ++ y).size = x.size + y.size := by simp
  refine ⟨torn_append hx.1 hy.1, by omega, ?_⟩
  rw [bs_append, atoms_append _ _ (by rw [bs_len]; omega), List.all_append, hx.2.2, hy.2.2]
  rfl
theorem cross_mem {a b : List ByteArray} {z : ByteArray} : z ∈ crossL a b ↔ ∃ x ∈ a, ∃ y ∈ b, z = x ++ y := by
  unfold crossL
  simp only [List.mem_flatMap, List.mem_map]
  constructor
  · rintro ⟨x, hx, y, hy, rfl⟩; exact ⟨x, hx, y, hy, rfl⟩
  · rintro ⟨x, hx, y, hy, rfl⟩; exact ⟨x, hx, y, hy, rfl⟩
theorem cross_len (a b : List ByteArray) : (crossL a b).length = a.length * b.length := by
  induction a with
  | nil => simp [crossL]
  | cons x r ih =>
    have : crossL (x :: r) b = b.map (fun y => x ++ y) ++ crossL r b := by simp [crossL]
    rw [this, List.length_append, ih, List.length_map, List.length_cons, Nat.add_mul, Nat.one_mul, Nat.add_comm]
theorem longB_false {l : List ByteArray} (h : longB l = false) : ∀ z ∈ l, z.size ≤ 16 := by
  intro z hz
  unfold longB at h
  rw [List.any_eq_false] at h
  have := h z hz
  simpa using this
theorem mayL_and {a b : List ByteArray} (h : (mayL a && mayL b) = true) : mayL a = true ∧ mayL b = true := by simpa using h
theorem all_append {a b : List ByteArray} (ha : mayL a = true) (hb : mayL b = true) : (a ++ b).all mayS = true := by
  rw [List.all_append, List.all_eq_true.2 (mayL_iff.1 ha).2.1, List.all_eq_true.2 (mayL_iff.1 hb).2.1]; rfl
theorem all_cross {a b : List ByteArray} (ha : mayL a = true) (hb : mayL b = true) (h : longB (crossL a b) = false) : (crossL a b).all mayS = true := by
  rw [List.all_eq_true]
  intro z hz
  have hz' := longB_false h z hz
  obtain ⟨x, hx, y, hy, rfl⟩ := cross_mem.1 hz
  exact mayS_append ((mayL_iff.1 ha).2.1 x hx) ((mayL_iff.1 hb).2.1 y hy) (by simpa using hz')
theorem of_and {a b : List ByteArray} (h : (mayL a && mayL b) = true) : ofL (a ++ b) = andL a b := by
  have hh := mayL_and h
  unfold ofL andL
  rw [if_neg (by rw [all_append hh.1 hh.2]; simp), if_neg (by simp [h])]
theorem of_cross {a b : List ByteArray} (h : (mayL a && mayL b) = true) (h2 : longB (crossL a b) = false) : ofL (crossL a b) = quoteL a b := by
  have hh := mayL_and h
  unfold ofL quoteL
  rw [if_neg (by rw [all_cross hh.1 hh.2 h2]; simp), if_neg (by simp [h]), if_neg (by simp [h2])]
theorem cat_two {x y : ByteArray} (hx : mayS x = true) (hy : mayS y = true) : catS [x, y] = if 16 < (x ++ y).size then (⟨#[]⟩, 4) else (x ++ y, 0) := by
  have tx := (mayS_size hx).2.2.2
  have ty := (mayS_size hy).2.2.2
  have ht : [x, y].any tornB = false := by simp [tx, ty]
  have hs : (flatS [x, y]).length = (x ++ y).size := by rw [len2]; simp
  by_cases h : 16 < (x ++ y).size
  · rw [if_pos h, catS_large ht (by omega)]
  · rw [if_neg h, catS_ok ht (by omega), flat2]

theorem Tryz.info43 : (Tryz.prog.info? 43).map (fun i => (i.zero, i.size, i.bytes)) = some (some (.string ⟨#[]⟩), 1, 16) := by kernel_rfl
theorem Tryz.slice32 : SliceOf Tryz.prog 32 43 (.string ⟨#[]⟩) 1 16 := slice_of Tryz.underlying32 Tryz.info43 rfl (by decide)
theorem Tryz.slice33 : SliceOf Tryz.prog 33 43 (.string ⟨#[]⟩) 1 16 := slice_of Tryz.underlying33 Tryz.info43 rfl (by decide)
theorem one_str {l : List ByteArray} : ∀ u ∈ wcells l, u.oneCell' = true := fun u hu => by obtain ⟨_, _, rfl⟩ := List.mem_map.1 hu; rfl
theorem wcells_len (l : List ByteArray) : (wcells l).length = l.length := by simp [wcells]
theorem wcells_append (l m : List ByteArray) : wcells (l ++ m) = wcells l ++ wcells m := by simp [wcells]
/-- a row of the call's own that has these words -/
def WordsPost (w : World) (l : List ByteArray) (en : Ending) (w' : World) : Prop :=
  ∃ v, en = .returned v ∧ w'.ownsRow w.heap.size 43 1 v l.length (wcells l) ∧ Kept w w'
theorem reads_none {w : World} {G : Nat → Prop} {l : List ByteArray} (hc : ∀ i x, (wcells l)[i]? = some x → ∃ g off, (none : Option Addr) = some ⟨g, off, none⟩ ∧ G g ∧ w.cell? ⟨g, off + i, none⟩ = some x) : l = [] := by
  cases l with
  | nil => rfl
  | cons x r =>
    obtain ⟨g, off, h, _⟩ := hc 0 (.string x) rfl
    cases h
/-- how two words compare -/
def cmpS (x y : ByteArray) : Int := if lessS x y = true then -1 else if lessS y x = true then 1 else 0
/-- words that are no longer than a string can be -/
abbrev Wd := { s : ByteArray // s.size ≤ maxLen }
instance : Inhabited Wd := ⟨⟨ByteArray.empty, by decide⟩⟩
def encW (x : Wd) : Value := .string x.1
def cmpW (x y : Wd) : Int := cmpS x.1 y.1
theorem lt_cmpW (x y : Wd) : ltOf cmpW x y = lessS x.1 y.1 := by
  unfold ltOf cmpW cmpS
  cases h : lessS x.1 y.1
  · cases h2 : lessS y.1 x.1 <;> simp
  · simp
theorem wd_ext {x y : Wd} (h : x.1 = y.1) : x = y := Subtype.ext h
theorem swoW : Go.Sort.SWO (ltOf cmpW) where
  irrefl x := by rw [lt_cmpW]; exact lessS_same _
  trans x y z h1 h2 := by rw [lt_cmpW] at *; exact lessS_trans h1 h2
  ntrans x y z h1 h2 := by
    rw [lt_cmpW] at *
    cases h : lessS x.1 z.1
    · rfl
    · by_cases e : x.1 = y.1
      · rw [e] at h; rw [h] at h2; cases h2
      · have := lessS_trans (lessS_total e h1) h
        rw [this] at h2; cases h2
/-- words as a row of them -/
theorem wds {l : List ByteArray} (h : Small maxLen l) : ∃ d : Array Wd, d.toList.map (·.1) = l ∧ d.size = l.length ∧ d.toList.map encW = wcells l := by
  refine ⟨(l.attach.map (fun x => (⟨x.1, h x.1 x.2⟩ : Wd))).toArray, ?_, by simp, ?_⟩
  · simp
  · simp [wcells, encW]
theorem one_encW : OneCell encW := fun _ => rfl
theorem eql_encW (P : Program) (T : TypeId) : EqlAt P T encW (fun x y => decide (x = y)) :=
  ⟨fun x y w => by
    rw [show encW x = Value.string x.1 from rfl, show encW y = Value.string y.1 from rfl, (EqlAt.string P T).1 x.1 y.1 w]
    dsimp only
    rw [beq_bs]
    congr 2
    exact decide_eq_decide.2 ⟨fun h => wd_ext h, fun h => by rw [h]⟩, fun op a b x y w => (EqlAt.string P T).2 op a b x.1 y.1 w⟩
theorem neq_encW (P : Program) (T : TypeId) : NeqAt P T encW (fun x y => decide (x = y)) :=
  ⟨fun x y w => by
    rw [show encW x = Value.string x.1 from rfl, show encW y = Value.string y.1 from rfl, (NeqAt.string P T).1 x.1 y.1 w]
    dsimp only
    rw [beq_bs]
    congr 3
    exact decide_eq_decide.2 ⟨fun h => wd_ext h, fun h => by rw [h]⟩, fun op a b x y w => (NeqAt.string P T).2 op a b x.1 y.1 w⟩
theorem frozen_row {w : World} {g i : Nat} {cs : Array Value} {e : TypeId} (h : w.heap[g]? = some (.cells cs e (0, 0))) : w.frozen? ⟨g, i, none⟩ = false := by
  unfold World.frozen?
  rw [h]
  simp
theorem own_holds {w : World} {base g n cap : Nat} {e : TypeId} {d : Array Wd} (h : w.ownsRow base e 1 (.slice (some ⟨g, 0, none⟩) n cap) n (d.toList.map encW)) : Go.Sort.Holds encW w g 0 d := by
  intro j hj
  refine ⟨?_, ?_⟩
  · have := h.cells (g := g) rfl j (encW d[j]!) (by simp [hj, getElem!_pos])
    rwa [Addr.add_lit] at this
  · rcases h.2 with ⟨hv, _⟩ | ⟨g', cap', cur, hv, _, hg, _⟩
    · cases hv
    · cases hv
      exact frozen_row hg
/-- behind a row's change -/
theorem own_put {w : World} {base g n cap q : Nat} {e : TypeId} {xs : List Value} {os : Array Obj} {d : Array Wd} (h : w.ownsRow base e 1 (.slice (some ⟨g, 0, none⟩) n cap) n xs) (hd : d.size = n) :
    (Go.Sort.grow (Go.Sort.putRow encW (Go.Sort.ahead w q) g 0 d) os).ownsRow base e 1 (.slice (some ⟨g, 0, none⟩) n cap) n (d.toList.map encW) ∧ Fr (fun k => k = g) w (Go.Sort.grow (Go.Sort.putRow encW (Go.Sort.ahead w q) g 0 d) os) := by
  rcases h.2 with ⟨hv, _⟩ | ⟨g', cap', cur, hv, hb, hg, hn, hm, hs, ht⟩
  · cases hv
  · cases hv
    have hlt : g < w.heap.size := by
      rcases Nat.lt_or_ge g w.heap.size with hlt | hge
      · exact hlt
      · rw [Array.getElem?_eq_none hge] at hg; cases hg
    have hsz : (Go.Sort.putRow encW (Go.Sort.ahead w q) g 0 d).heap.size = w.heap.size := by
      simp [Go.Sort.putRow, Go.Sort.mapBlock, Go.Sort.ahead]
    have hat : ∀ k, k < w.heap.size → (Go.Sort.grow (Go.Sort.putRow encW (Go.Sort.ahead w q) g 0 d) os).heap[k]? = (w.heap.modify g (Go.Sort.onCells (Go.Sort.putCells encW 0 d)))[k]? := by
      intro k hk
      rw [Go.Sort.heap_grow_old _ _ (by rw [hsz]; exact hk)]
      rfl
    refine ⟨⟨by simp [hd], .inr ⟨g, cap, Go.Sort.putCells encW 0 d cur, rfl, hb, ?_, hn, hm, by simp [Go.Sort.putCells, hs], ?_⟩⟩, ⟨rfl, rfl, rfl, by rw [Go.Sort.size_grow, hsz]; omega, ?_⟩⟩
    · rw [hat g hlt, Array.getElem?_modify, if_pos rfl, hg]
      rfl
    · apply List.ext_getElem?
      intro j
      rw [List.getElem?_take]
      split
      · rename_i hj
        have hj1 : j < cur.size := by omega
        have hj2 : j < d.size := by omega
        simp only [Go.Sort.putCells, Array.getElem?_toList, Array.getElem?_mapIdx, Array.getElem?_eq_getElem hj1, Option.map_some, List.getElem?_map, Array.getElem?_eq_getElem hj2]
        rw [if_pos (by omega)]
        simp [getElem!_pos, hj2]
      · rw [List.getElem?_eq_none]
        simp; omega
    · intro k hk hne
      rw [hat k hk, Array.getElem?_modify, if_neg (fun e => hne e.symm)]
/-- a row cut short -/
theorem own_cut {w : World} {base g n cap k : Nat} {e : TypeId} {xs : List Value} (h : w.ownsRow base e 1 (.slice (some ⟨g, 0, none⟩) n cap) n xs) (hk : k ≤ n) :
    w.ownsRow base e 1 (.slice (some ⟨g, 0, none⟩) k cap) k (xs.take k) := by
  have hl := h.1
  rcases h.2 with ⟨hv, _⟩ | ⟨g', cap', cur, hv, hb, hg, hn, hm, hs, ht⟩
  · cases hv
  · cases hv
    refine ⟨by rw [List.length_take]; omega, .inr ⟨g, cap, cur, rfl, hb, hg, by omega, hm, hs, ?_⟩⟩
    rw [← ht, List.take_take]
    congr 1
    omega
/-- what is kept of words that don't fall is the words put right -/
theorem compact_sorted (d : Array Wd) (hd : d.toList.Pairwise (fun a b => lessS b.1 a.1 = false)) :
    (Go.Lib.compactUpTo d d.size).map (·.1) = rightS (d.toList.map (·.1)) := by
  have hle : ∀ i j : Nat, i < j → j < d.size → lessS d[j]!.1 d[i]!.1 = false := by
    intro i j hij hj
    have := List.pairwise_iff_getElem.1 hd i j (by simp; omega) (by simpa using hj) hij
    simpa [getElem!_pos, hj, show i < d.size by omega] using this
  have key : ∀ m, m ≤ d.size → Rising ((Go.Lib.compactUpTo d m).map (·.1)) ∧ ∀ z, z ∈ (Go.Lib.compactUpTo d m).map (·.1) ↔ ∃ j, j < m ∧ d[j]!.1 = z := by
    intro m
    induction m with
    | zero => intro _; exact ⟨by simp [Go.Lib.compactUpTo, Rising], fun z => by simp [Go.Lib.compactUpTo]⟩
    | succ m ih =>
      intro hm
      obtain ⟨h1, h2⟩ := ih (by omega)
      rw [Go.Lib.compactUpTo_succ]
      cases hk : Go.Lib.keeps d m
      · simp only [Bool.false_eq_true, if_false, List.append_nil]
        refine ⟨h1, fun z => ?_⟩
        rw [h2 z]
        simp only [Go.Lib.keeps, decide_eq_false_iff_not, not_or, Decidable.not_not] at hk
        constructor
        · rintro ⟨j, hj, e⟩; exact ⟨j, by omega, e⟩
        · rintro ⟨j, hj, e⟩
          rcases Nat.lt_or_ge j m with h | h
          · exact ⟨j, h, e⟩
          · obtain rfl : j = m := by omega
            exact ⟨j - 1, by omega, by rw [← hk.2]; exact e⟩
      · simp only [if_true, List.map_append, List.map_cons, List.map_nil]
        simp only [Go.Lib.keeps, decide_eq_true_eq] at hk
        constructor
        · unfold Rising at h1 ⊢
          rw [List.pairwise_append]
          refine ⟨h1, by simp, fun a ha b hb => ?_⟩
          rw [List.mem_singleton] at hb
          subst hb
          obtain ⟨j, hj, rfl⟩ := (h2 a).1 ha
          rcases hk with h0 | hne
          · omega
          · have hlast : lessS d[m - 1]!.1 d[m]!.1 = true := lessS_total (fun e => hne (wd_ext e)) (hle (m - 1) m (by omega) (by omega))
            rcases Nat.lt_or_ge j (m - 1) with h | h
            · by_cases e : d[j]!.1 = d[m - 1]!.1
              · rw [e]; exact hlast
              · exact lessS_trans (lessS_total (fun x => e x.symm) (hle j (m - 1) h (by omega))) hlast
            · obtain rfl : j = m - 1 := by omega
              exact hlast
        · intro z
          rw [List.mem_append, h2 z, List.mem_singleton]
          constructor
          · rintro (⟨j, hj, e⟩ | rfl)
            · exact ⟨j, by omega, e⟩
            · exact ⟨m, by omega, rfl⟩
          · rintro ⟨j, hj, e⟩
            rcases Nat.lt_or_ge j m with h | h
            · exact .inl ⟨j, h, e⟩
            · obtain rfl : j = m := by omega
              exact .inr e.symm
  obtain ⟨h1, h2⟩ := key d.size (Nat.le_refl _)
  refine rising_ext h1 (rising_right _) (fun z => ?_)
  rw [h2 z, mem_right, List.mem_map]
  constructor
  · rintro ⟨j, hj, e⟩
    exact ⟨d[j]!, by rw [getElem!_pos d j hj]; simp, e⟩
  · rintro ⟨x, hx, e⟩
    obtain ⟨j, hj, rfl⟩ := List.getElem_of_mem hx
    exact ⟨j, by simpa using hj, by rw [getElem!_pos d j (by simpa using hj)]; simpa using e⟩

/-- a set of the call's own, and what is wrong -/
def SetPost (r : List ByteArray × Int) (w : World) (en : Ending) (w' : World) : Prop :=
  ∃ v, en = .returned (.tuple #[v, .int .i64 r.2]) ∧ w'.ownsRow w.heap.size 43 1 v r.1.length (wcells r.1) ∧ Kept w w'
theorem set_post {r : List ByteArray × Int} {x : List ByteArray} {y : Int} {v : Value} {w w' : World} (h : r = (x, y)) (ho : w'.ownsRow w.heap.size 43 1 v x.length (wcells x)) (hk : Kept w w') : SetPost r w (.returned (.tuple #[v, .int .i64 y])) w' := by
  subst h; exact ⟨v, rfl, ho, hk⟩
theorem set_later {r : List ByteArray × Int} {w w1 w' : World} {en : Ending} (h : SetPost r w1 en w') (hk : Kept w w1) : SetPost r w en w' := by
  obtain ⟨v, he, ho, hk'⟩ := h
  refine ⟨v, he, own_base ho fun g hg => ?_, hk.trans hk'⟩
  rcases ho.2 with ⟨rfl, _⟩ | ⟨g', cap, cur, rfl, hb, _⟩
  · simp [Value.ownBlock] at hg
  · simp [Value.ownBlock] at hg
    have := hk.size
    omega
theorem boundL_no {s : List ByteArray} (h : s.length = 0 ∨ 16 < s.length) : boundL s = ([], 3) := by unfold boundL; rw [if_pos h]
theorem boundL_ok {s : List ByteArray} (h : ¬ (s.length = 0 ∨ 16 < s.length)) : boundL s = (s, 0) := by unfold boundL; rw [if_neg h]
theorem ofL_bad {l : List ByteArray} {k : Nat} {x : ByteArray} (hx : l[k]? = some x) (h : mayS x = false) : ofL l = ([], 2) := by
  unfold ofL
  rw [if_pos]
  rw [List.all_eq_false]
  exact ⟨x, List.mem_of_getElem? hx, by simp [h]⟩
theorem ofL_ok {l : List ByteArray} (h : ∀ j y, j < l.length → l[j]? = some y → mayS y = true) : ofL l = boundL (rightS l) := by
  unfold ofL
  rw [if_neg]
  simp only [Bool.not_eq_false, List.all_eq_true]
  intro x hx
  obtain ⟨i, hi⟩ := List.mem_iff_getElem?.1 hx
  exact h i x (List.getElem?_eq_some_iff.1 hi).1 hi
theorem get_step {l : List ByteArray} {k : Nat} {x : ByteArray} {p : ByteArray → Prop} (h : ∀ j y, j < k → l[j]? = some y → p y) (hx : l[k]? = some x) (hp : p x) : ∀ j y, j < k + 1 → l[j]? = some y → p y := by
  intro j y hj hy
  rcases Nat.lt_or_ge j k with h1 | h1
  · exact h j y h1 hy
  · obtain rfl : j = k := by omega
    rw [hx] at hy; cases hy; exact hp

theorem quoteL_bad {a b : List ByteArray} (h : (mayL a && mayL b) = false) : quoteL a b = ([], 2) := by unfold quoteL; rw [if_pos h]
theorem quoteL_long {a b : List ByteArray} (h : (mayL a && mayL b) = true) (h2 : longB (crossL a b) = true) : quoteL a b = ([], 4) := by unfold quoteL; rw [if_neg (by simp [h]), if_pos h2]
theorem small_of {n m : Nat} {l : List ByteArray} (h : Small n l) (hn : n ≤ m) : Small m l := fun s hs => Nat.le_trans (h s hs) hn
theorem small_long {l : List ByteArray} (h : longB l = false) : Small maxLen l := fun s hs => by
  have := longB_false h s hs
  unfold maxLen; omega
theorem cross_le {a b : List ByteArray} (ha : mayL a = true) (hb : mayL b = true) : (crossL a b).length ≤ 256 := by
  rw [cross_len]
  exact Nat.mul_le_mul (mayL_iff.1 ha).1.2 (mayL_iff.1 hb).1.2
theorem good_one {x : Int} (h0 : 0 ≤ x) (h1 : x ≤ 65535) : Good [x] := fun y hy => by
  rw [List.mem_singleton] at hy; subst hy; exact ⟨h0, h1⟩
theorem boundL_len (s : List ByteArray) : (boundL s).1.length ≤ 16 := by
  unfold boundL
  split
  · simp
  · simp; omega
theorem boundL_mem {s : List ByteArray} {x : ByteArray} (h : x ∈ (boundL s).1) : x ∈ s := by
  unfold boundL at h
  split at h
  · simp at h
  · exact h
theorem quoteL_len (a b : List ByteArray) : (quoteL a b).1.length ≤ 16 := by
  unfold quoteL
  split
  · simp
  · split
    · simp
    · exact boundL_len _
theorem quoteL_small (a b : List ByteArray) : Small 16 (quoteL a b).1 := by
  intro s hs
  unfold quoteL at hs
  split at hs
  · simp at hs
  · split at hs
    · simp at hs
    · rename_i h
      exact longB_false (by simpa using h) s ((mem_right _ _).1 (boundL_mem hs))
theorem asL_bad {a : List ByteArray} {r : Int} (h : mayL a = false) : asL a r = ([], 2) := by unfold asL; rw [if_pos h]
theorem asL_kind {a : List ByteArray} {r : Int} (h : mayL a = true) (h2 : decide (r / 8192 = 5) = false) : asL a r = ([], 1) := by unfold asL; rw [if_neg (by simp [h]), if_pos h2]
theorem asL_ok {a : List ByteArray} {r : Int} (h : mayL a = true) (h2 : decide (r / 8192 = 5) = true) : asL a r = quoteL a [ofS [r]] := by unfold asL; rw [if_neg (by simp [h]), if_neg (by simp [h2])]
theorem small_one (r : Int) : Small maxLen [ofS [r]] := fun s hs => by
  rw [List.mem_singleton] at hs
  subst hs
  rw [ofS_size]
  unfold maxLen
  simp
theorem forL_one {a b x : List ByteArray} {e : Int} (h : quoteL a b = (x, e)) (he : e ≠ 0) : forL a b = ([], e) := by
  unfold forL
  rw [h, if_pos (by simpa using he)]
theorem forL_two {a b x y : List ByteArray} {e : Int} (h : quoteL a b = (x, 0)) (h2 : quoteL [ofS [1]] b = (y, e)) (he : e ≠ 0) : forL a b = ([], e) := by
  unfold forL
  rw [h, h2, if_neg (by simp), if_pos (by simpa using he)]
theorem forL_ok {a b x y : List ByteArray} (h : quoteL a b = (x, 0)) (h2 : quoteL [ofS [1]] b = (y, 0)) : forL a b = andL x y := by
  unfold forL
  rw [h, h2, if_neg (by simp), if_neg (by simp)]

/-- a row that has words, on the way -/
def JoinPart (w wr : World) (l : List ByteArray) (v : Value) : Prop := wr.ownsRow w.heap.size 43 1 v l.length (wcells l) ∧ Kept w wr
theorem JoinPart.step {w wr w1 : World} {l m : List ByteArray} {v v1 : Value} (h : JoinPart w wr l v)
    (hp : AppPost wr w.heap.size 43 1 v (l.length + (wcells m).length) (wcells l ++ wcells m) v1 w1) : JoinPart w w1 (l ++ m) v1 := by
  have hv : ∀ g, v.ownBlock = some g → w.heap.size ≤ g := by
    intro g hg
    rcases h.1.2 with ⟨rfl, _⟩ | ⟨g', cap, cur, rfl, hb, _⟩
    · simp [Value.ownBlock] at hg
    · simp [Value.ownBlock] at hg; omega
  have hk := hp.kept h.2 hv
  refine ⟨?_, hk.1⟩
  have := hp.1
  rw [wcells_len] at this
  rw [List.length_append, wcells_append]
  exact this

theorem andL_bad {a b : List ByteArray} (h : (mayL a && mayL b) = false) : andL a b = ([], 2) := by unfold andL; rw [if_pos h]
theorem small_append {n : Nat} {a b : List ByteArray} (ha : Small n a) (hb : Small n b) : Small n (a ++ b) := fun s hs => by
  rcases List.mem_append.1 hs with h | h
  · exact ha s h
  · exact hb s h

/-- what is collected, or that one is too long -/
def collL (a b : List ByteArray) : List ByteArray × Int := if longB (crossL a b) = true then ([], 4) else (crossL a b, 0)
theorem collL_long {a b : List ByteArray} (h : longB (crossL a b) = true) : collL a b = ([], 4) := by unfold collL; rw [if_pos h]
theorem collL_ok {a b : List ByteArray} (h : longB (crossL a b) = false) : collL a b = (crossL a b, 0) := by unfold collL; rw [if_neg (by simp [h])]
/-- what is collected so far -/
def partL (a b : List ByteArray) (k m : Nat) (x : ByteArray) : List ByteArray := crossL (a.take k) b ++ (b.take m).map (fun y => x ++ y)
theorem take_one {l : List ByteArray} {k : Nat} {x : ByteArray} (h : l[k]? = some x) : l.take (k + 1) = l.take k ++ [x] := by
  rw [List.take_add_one, h]; rfl
theorem cross_step {a b : List ByteArray} {k : Nat} {x : ByteArray} (h : a[k]? = some x) : crossL (a.take (k + 1)) b = partL a b k b.length x := by
  unfold partL
  rw [take_one h, List.take_length]
  simp [crossL]
theorem part_zero (a b : List ByteArray) (k : Nat) (x : ByteArray) : partL a b k 0 x = crossL (a.take k) b := by unfold partL; simp
theorem part_step {a b : List ByteArray} {k m : Nat} {x y : ByteArray} (h : b[m]? = some y) : partL a b k (m + 1) x = partL a b k m x ++ [x ++ y] := by
  unfold partL
  rw [take_one h]
  simp
theorem longB_append (l m : List ByteArray) : longB (l ++ m) = (longB l || longB m) := by unfold longB; simp
theorem part_len {a b : List ByteArray} {k m : Nat} {x : ByteArray} (ha : a.length ≤ 16) (hb : b.length ≤ 16) : (partL a b k m x).length ≤ 272 := by
  unfold partL
  rw [List.length_append, cross_len, List.length_map, List.length_take, List.length_take]
  have : min k a.length * b.length ≤ 16 * 16 := Nat.mul_le_mul (by omega) hb
  omega
theorem jp_zero {w wr : World} {a b : List ByteArray} {k : Nat} {x : ByteArray} {v : Value} (h : Hid (JoinPart w wr (crossL (a.take k) b) v)) : Hid (JoinPart w wr (partL a b k 0 x) v) := Lib.hid (by rw [part_zero]; exact h.out)
theorem jp_full {w wr : World} {a b : List ByteArray} {k m : Nat} {x : ByteArray} {v : Value} (h : Hid (JoinPart w wr (partL a b k m x) v)) (hm : b.length = m) (hx : a[k]? = some x) : Hid (JoinPart w wr (crossL (a.take (k + 1)) b) v) := Lib.hid (by rw [cross_step hx, hm]; exact h.out)
theorem jp_kept {w wr w1 : World} {l : List ByteArray} {v : Value} (h : Hid (JoinPart w wr l v)) (hk : Kept wr w1) : Hid (JoinPart w w1 l v) := Lib.hid ⟨own_kept h.out.1 hk, h.out.2.trans hk⟩

theorem eq_str (x y : ByteArray) : (x.toList == y.toList) = decide (x = y) := beq_bs x y
/-- a place is told just if the word is there -/
def IdxPost (l : List ByteArray) (x : ByteArray) (w : World) (e : Ending) (w' : World) : Prop := ∃ i : Int, e = .returned (.int .i64 i) ∧ decide (0 ≤ i) = hasL l x ∧ w = w'
theorem hasL_at {l : List ByteArray} {k : Nat} {x : ByteArray} (h : l[k]? = some x) : hasL l x = true := hasL_iff.2 (List.mem_of_getElem? h)
theorem hasL_not {l : List ByteArray} {x : ByteArray} (h : ∀ j y, j < l.length → l[j]? = some y → y ≠ x) : hasL l x = false := by
  cases e : hasL l x
  · rfl
  · obtain ⟨i, hi⟩ := List.mem_iff_getElem?.1 (hasL_iff.1 e)
    exact absurd rfl (h i x (List.getElem?_eq_some_iff.1 hi).1 hi)
theorem heavy_take {l : List ByteArray} {k : Nat} {x : ByteArray} (h : l[k]? = some x) : heavyL (l.take (k + 1)) = Nat.max (heavyL (l.take k)) (x.size / 2) := by
  unfold heavyL
  rw [List.take_add_one, h]
  simp [List.foldl_append]
theorem heavy_le : ∀ {n : Nat} {l : List ByteArray}, Small n l → heavyL l ≤ n := by
  intro n l
  have : ∀ (m : List Nat) (a : Nat), a ≤ n → (∀ x ∈ m, x ≤ n) → m.foldl Nat.max a ≤ n := by
    intro m
    induction m with
    | nil => intro a ha _; exact ha
    | cons x r ih => intro a ha hm; exact ih _ (Nat.max_le.2 ⟨ha, hm x (by simp)⟩) (fun y hy => hm y (by simp [hy]))
  intro h
  refine this _ 0 (Nat.zero_le _) fun x hx => ?_
  obtain ⟨y, hy, rfl⟩ := List.mem_map.1 hx
  have := h y hy
  omega
theorem max_int (a b : Nat) : max (a : Int) (b : Int) = ((Nat.max a b : Nat) : Int) := by
  rw [show Nat.max a b = max a b from rfl]
  omega

/-- a word stands behind the first k -/
def aftB (r : List ByteArray) (k : Nat) (y : ByteArray) : Bool := if k = 0 then true else lessS ((r[k - 1]?).getD ⟨#[]⟩) y
/-- the least of the first i words that stand behind the first k -/
def BestIs (r : List ByteArray) (k : Nat) (l : List ByteArray) (i : Nat) (b : ByteArray) (f : Bool) : Prop :=
  (f = false ∧ ∀ j y, j < i → l[j]? = some y → aftB r k y = false) ∨
  (f = true ∧ b ∈ l ∧ aftB r k b = true ∧ ∀ j y, j < i → l[j]? = some y → aftB r k y = true → lessS y b = false)
theorem aft_iff {r : List ByteArray} (hr : Rising r) {k m : Nat} {y : ByteArray} (hy : r[m]? = some y) (hk : k ≤ r.length) : aftB r k y = true ↔ k ≤ m := by
  unfold aftB
  by_cases h0 : k = 0
  · simp [h0]
  · rw [if_neg h0]
    obtain ⟨t, ht⟩ : ∃ t, r[k - 1]? = some t := ⟨_, List.getElem?_eq_getElem (by omega)⟩
    rw [ht]
    constructor
    · intro h
      rcases Nat.lt_or_ge m k with hlt | hge
      · exfalso
        rcases Nat.lt_or_ge m (k - 1) with h1 | h1
        · have := rising_at hr h1 hy ht
          simp only [Option.getD_some] at h
          rw [lessS_asym h] at this; cases this
        · obtain rfl : m = k - 1 := by omega
          rw [ht] at hy; cases hy
          simp only [Option.getD_some] at h
          rw [lessS_same] at h; cases h
      · exact hge
    · intro h
      exact rising_at hr (by omega) ht hy
theorem best_none {l : List ByteArray} {k : Nat} {b : ByteArray} (hk : k ≤ (rightS l).length) (h : BestIs (rightS l) k l l.length b false) : k = (rightS l).length := by
  rcases h with ⟨_, h⟩ | ⟨h, _⟩
  · rcases Nat.lt_or_ge k (rightS l).length with hlt | hge
    · obtain ⟨c, hc⟩ : ∃ c, (rightS l)[k]? = some c := ⟨_, List.getElem?_eq_getElem hlt⟩
      obtain ⟨j, hj⟩ := List.mem_iff_getElem?.1 ((mem_right c l).1 (List.mem_of_getElem? hc))
      have h1 := h j c (List.getElem?_eq_some_iff.1 hj).1 hj
      have h2 := (aft_iff (rising_right l) hc hk).2 (Nat.le_refl _)
      rw [h1] at h2; cases h2
    · omega
  · cases h
theorem best_found {l : List ByteArray} {k : Nat} {b : ByteArray} (hk : k ≤ (rightS l).length) (h : BestIs (rightS l) k l l.length b true) : (rightS l)[k]? = some b := by
  rcases h with ⟨h, _⟩ | ⟨_, hb, ha, h⟩
  · cases h
  · obtain ⟨m, hm⟩ := List.mem_iff_getElem?.1 ((mem_right b l).2 hb)
    have hkm := (aft_iff (rising_right l) hm hk).1 ha
    rcases Nat.lt_or_ge k m with hlt | hge
    · exfalso
      have hml := (List.getElem?_eq_some_iff.1 hm).1
      obtain ⟨c, hc⟩ : ∃ c, (rightS l)[k]? = some c := ⟨_, List.getElem?_eq_getElem (by omega)⟩
      obtain ⟨j, hj⟩ := List.mem_iff_getElem?.1 ((mem_right c l).1 (List.mem_of_getElem? hc))
      have h1 := h j c (List.getElem?_eq_some_iff.1 hj).1 hj ((aft_iff (rising_right l) hc hk).2 (Nat.le_refl _))
      rw [rising_at (rising_right l) hlt hc hm] at h1; cases h1
    · obtain rfl : m = k := by omega
      exact hm
theorem BestIs.no {r : List ByteArray} {k : Nat} {l : List ByteArray} {i : Nat} {b y : ByteArray} {f : Bool} (h : BestIs r k l i b f) (hy : l[i]? = some y) (ha : aftB r k y = false) : BestIs r k l (i + 1) b f := by
  rcases h with ⟨h1, h2⟩ | ⟨h1, h2, h3, h4⟩
  · exact .inl ⟨h1, get_step h2 hy ha⟩
  · exact .inr ⟨h1, h2, h3, get_step h4 hy (fun e => by rw [ha] at e; cases e)⟩
theorem BestIs.first {r : List ByteArray} {k : Nat} {l : List ByteArray} {i : Nat} {b y : ByteArray} (h : BestIs r k l i b false) (hy : l[i]? = some y) (ha : aftB r k y = true) : BestIs r k l (i + 1) y true := by
  rcases h with ⟨_, h2⟩ | ⟨h1, _⟩
  · refine .inr ⟨rfl, List.mem_of_getElem? hy, ha, ?_⟩
    intro j z hj hz haz
    rcases Nat.lt_or_ge j i with h | h
    · rw [h2 j z h hz] at haz; cases haz
    · obtain rfl : j = i := by omega
      rw [hy] at hz; cases hz
      exact lessS_same _
  · cases h1
theorem BestIs.less {r : List ByteArray} {k : Nat} {l : List ByteArray} {i : Nat} {b y : ByteArray} (h : BestIs r k l i b true) (hy : l[i]? = some y) (ha : aftB r k y = true) (hl : lessS y b = true) : BestIs r k l (i + 1) y true := by
  rcases h with ⟨h1, _⟩ | ⟨_, h2, h3, h4⟩
  · cases h1
  · refine .inr ⟨rfl, List.mem_of_getElem? hy, ha, ?_⟩
    refine get_step (p := fun z => aftB r k z = true → lessS z y = false) ?_ hy (fun _ => lessS_same _)
    intro j z hj hz haz
    cases e : lessS z y
    · rfl
    · have := h4 j z hj hz haz
      rw [lessS_trans e hl] at this; cases this
theorem BestIs.more {r : List ByteArray} {k : Nat} {l : List ByteArray} {i : Nat} {b y : ByteArray} (h : BestIs r k l i b true) (hy : l[i]? = some y) (hl : lessS y b = false) : BestIs r k l (i + 1) b true := by
  rcases h with ⟨h1, _⟩ | ⟨_, h2, h3, h4⟩
  · cases h1
  · exact .inr ⟨rfl, h2, h3, get_step h4 hy (fun _ => hl)⟩
theorem BestIs.size {r : List ByteArray} {k : Nat} {l : List ByteArray} {i n : Nat} {b : ByteArray} (h : BestIs r k l i b true) (hs : Small n l) : b.size ≤ n := by
  rcases h with ⟨h1, _⟩ | ⟨_, h2, _⟩
  · cases h1
  · exact hs b h2
theorem small_le {l : List ByteArray} (h : Small 100000 l) : Small maxLen l := fun s hs => by
  have := h s hs
  unfold maxLen; omega
/-- how long a slice is -/
def lenOf : Value → Nat
  | .slice _ n _ => n
  | _ => 0
/-- the first k of the words put right -/
def OutPart (w wr : World) (r : List ByteArray) (k : Nat) (v : Value) : Prop := wr.ownsRow w.heap.size 43 1 v k (wcells (r.take k)) ∧ Kept w wr
theorem OutPart.kept {w wr w1 : World} {r : List ByteArray} {k : Nat} {v : Value} (h : OutPart w wr r k v) (hk : Kept wr w1) : OutPart w w1 r k v := ⟨own_kept h.1 hk, h.2.trans hk⟩
theorem OutPart.step {w wr w1 : World} {r : List ByteArray} {k : Nat} {v v1 : Value} {x : ByteArray} (h : OutPart w wr r k v) (hx : r[k]? = some x)
    (hp : AppPost wr w.heap.size 43 1 v (k + 1) (wcells (r.take k) ++ [.string x]) v1 w1) : OutPart w w1 r (k + 1) v1 := by
  have hv : ∀ g, v.ownBlock = some g → w.heap.size ≤ g := by
    intro g hg
    rcases h.1.2 with ⟨rfl, _⟩ | ⟨g', cap, cur, rfl, hb, _⟩
    · simp [Value.ownBlock] at hg
    · simp [Value.ownBlock] at hg; omega
  have hk := hp.kept h.2 hv
  refine ⟨?_, hk.1⟩
  rw [List.take_add_one, hx, wcells_append]
  exact hp.1

set_option maxHeartbeats 4000000 in
theorem rright_any {w : World} {G : Nat → Prop} {v : Value} {l : List ByteArray} (h : Reads w G v (wcells l)) (hl : l.length ≤ 100000) (hs : Small 100000 l) :
    Calls Tryz.prog 44 #[v] w (WordsPost w (rightS l)) := by
  obtain ⟨ao, c, rfl, _, hc⟩ := h
  rw [wcells_len]
  have HC := Lib.hid hc
  have HS : Hid (Small maxLen l) := Lib.hid (small_le hs)
  have HS1 := Lib.hid hs
  clear hc hs
  have hrl := right_length l
  generalize hn : l.length = n at hl hrl ⊢
  have HN := Lib.hid hn
  clear hn
  obtain ⟨r, hr⟩ : ∃ r, r = rightS l := ⟨_, rfl⟩
  have HR := Lib.hid hr
  obtain ⟨nr, hnr⟩ : ∃ nr, nr = r.length := ⟨_, rfl⟩
  have HNR := Lib.hid hnr
  have hnn : nr ≤ n := by rw [hnr, hr]; exact hrl
  clear hr hnr hrl
  have H0 : Hid (OutPart w (w.alloc (Obj.cells #[] 43)) r 0 (.slice (some ⟨w.heap.size, 0, none⟩) 0 0)) := Lib.hid ⟨own_new (heap_alloc_new w _) (Nat.le_refl _), Fr.of_alloc _ _ _⟩
  go_enter Tryz.func44, Tryz.ntmps44
  go_wp2
  go_loopw [3] (fun v wr => ∃ k : Nat, k ≤ nr ∧ lenOf v = k ∧ Hid (OutPart w wr r k v)) (fun v _ => nr - lenOf v)
  case atStart => exact ⟨0, by omega, rfl, H0⟩
  case round =>
    obtain ⟨k, hk, hlen, hp⟩ := hrel
    clear H0
    obtain ⟨bo, d, hv, hd⟩ := own_slice hp.out.1
    subst hv
    clear hlen
    have HRD := Lib.hid (Reads.of_row hp.out.1)
    have HB : Hid (BestIs r k l 0 ⟨#[]⟩ false) := Lib.hid (.inl ⟨rfl, fun j y hj => by omega⟩)
    clear HRD
    go_wp2
    go_loopw [4, 5, 6] (fun b f i wr => ∃ (m : Nat) (x : ByteArray) (q : Bool), m ≤ n ∧ b = .string x ∧ f = .bool q ∧ i = .int .i64 m ∧ Hid (OutPart w wr r k (.slice bo k d)) ∧ Hid (BestIs r k l m x q)) (fun _ _ i _ => n - (intOf i).toNat)
    case atStart => exact ⟨0, ⟨#[]⟩, false, by omega, rfl, rfl, rfl, hp, HB⟩
    case round =>
      obtain ⟨m, x, q, hm, rfl, rfl, rfl, hp, hb⟩ := hrel
      clear HB
      by_cases hlt : m < n
      · have h1 : (m : Int) < n := by omega
        obtain ⟨y, hy⟩ : ∃ y, l[m]? = some y := ⟨_, List.getElem?_eq_getElem (by have := HN.out; omega)⟩
        obtain ⟨g, off, rfl, _, hcell0⟩ := HC.out m _ (wcells_get hy)
        have hcell := hp.out.2.cell hcell0 (fun x => x)
        have HCELL := Lib.hid hcell0
        have hsy := Lib.hid (HS.out y (List.mem_of_getElem? hy))
        have HY := Lib.hid hy
        clear hy hcell0
        by_cases h0 : k = 0
        · subst h0
          have haft : aftB r 0 y = true := rfl
          cases q
          · have HA := Lib.hid (hb.out.first HY.out haft)
            clear haft
            go_wp2
            go_quiet (fail)
            go_wp2
            go_roundw
            case rel => exact ⟨m + 1, y, true, by omega, rfl, rfl, by go_num, Lib.hid (hp.out.kept (Fr.of_drewN _ _ _)), HA⟩
            case measure => simp [intOf]; omega
          · have hxs := Lib.hid (hb.out.size HS.out)
            cases hly : lessS y x
            · have HA := Lib.hid (hb.out.more HY.out hly)
              clear haft
              go_wp2
              go_quiet (fail)
              go_wp2_with fail
              refine (rless_any y x _ hsy.out hxs.out).mono ?_
              rintro e w1 ⟨rfl, nd, rfl⟩
              rw [hly]
              go_wp2
              go_roundw
              case rel => exact ⟨m + 1, x, true, by omega, rfl, rfl, by go_num, Lib.hid (hp.out.kept (Fr.of_drewN _ _ _)), HA⟩
              case measure => simp [intOf]; omega
            · have HA := Lib.hid (hb.out.less HY.out haft hly)
              clear haft
              go_wp2
              go_quiet (fail)
              go_wp2_with fail
              refine (rless_any y x _ hsy.out hxs.out).mono ?_
              rintro e w1 ⟨rfl, nd, rfl⟩
              rw [hly]
              go_wp2
              go_roundw
              case rel => exact ⟨m + 1, y, true, by omega, rfl, rfl, by go_num, Lib.hid (hp.out.kept (Fr.of_drewN _ _ _)), HA⟩
              case measure => simp [intOf]; omega
        · have g0 : ((k : Int) == 0) = false := by simp [h0]
          obtain ⟨t, ht⟩ : ∃ t, r[k - 1]? = some t := ⟨_, List.getElem?_eq_getElem (by have := HNR.out; omega)⟩
          have htake : (r.take k)[k - 1]? = some t := by rw [List.getElem?_take, if_pos (by omega)]; exact ht
          obtain ⟨_, _, hbv, _, hbx⟩ := Reads.of_row hp.out.1
          obtain ⟨gb, ob, hbo, _, hbcell⟩ := hbx (k - 1) _ (wcells_get htake)
          rw [wcells_len, List.length_take, show min k r.length = k by have := HNR.out; omega] at hbv
          cases hbv
          cases hbo
          have hts := Lib.hid (HS.out t ((mem_right t l).1 (by rw [← HR.out]; exact List.mem_of_getElem? ht)))
          have hag : aftB r k y = lessS t y := by unfold aftB; rw [if_neg h0, ht]; rfl
          obtain ⟨k', rfl⟩ : ∃ k', k = k' + 1 := ⟨k - 1, by omega⟩
          have e1 : (k' : Int) + 1 - 1 = k' := by omega
          have g1 : ((k' : Int) + 1 == 0) = false := by rw [beq_eq_false_iff_ne]; omega
          have w1 : IntKind.i64.wrap (k' : Int) = k' := IntWalk.i64_in _ (by omega)
          have w2 : IntKind.i64.wrap ((k' : Int) + 1 - 1) = k' := by rw [e1]; exact w1
          have e2 : k' + 1 - 1 = k' := by omega
          rw [e2] at hbcell
          clear htake ht hbx h0 e2
          have HL : Hid (∀ W, Calls Tryz.prog 75 #[.string t, .string y] W (DrewPost (.bool (aftB r (k' + 1) y)) W)) := Lib.hid (fun W => by rw [hag]; exact rless_any t y W hts.out hsy.out)
          clear hag
          cases haft : aftB r (k' + 1) y
          · rw [haft] at HL
            have HA := Lib.hid (hb.out.no HY.out haft)
            clear haft
            go_wp2
            go_quiet ((go_at_call 75; exact quiet_drew HL.out))
            go_wp2
            go_roundw
            case rel => exact ⟨m + 1, x, q, by omega, rfl, rfl, by go_num, Lib.hid (hp.out.kept (Fr.of_drewN _ _ _)), HA⟩
            case measure => simp [intOf]; omega
          · rw [haft] at HL
            cases q
            · have HA := Lib.hid (hb.out.first HY.out haft)
              clear haft
              go_wp2
              go_quiet ((go_at_call 75; exact quiet_drew HL.out))
              go_wp2
              go_roundw
              case rel => exact ⟨m + 1, y, true, by omega, rfl, rfl, by go_num, Lib.hid (hp.out.kept (Fr.of_drewN _ _ _)), HA⟩
              case measure => simp [intOf]; omega
            · have hxs := Lib.hid (hb.out.size HS.out)
              cases hly : lessS y x
              · have HA := Lib.hid (hb.out.more HY.out hly)
                clear haft
                go_wp2
                go_quiet ((go_at_call 75; exact quiet_drew HL.out))
                go_wp2_with fail
                refine (rless_any y x _ hsy.out hxs.out).mono ?_
                rintro e w1 ⟨rfl, nd, rfl⟩
                rw [hly]
                go_wp2
                go_roundw
                case rel => exact ⟨m + 1, x, true, by omega, rfl, rfl, by go_num, Lib.hid (hp.out.kept (Fr.of_drewN _ _ _)), HA⟩
                case measure => simp [intOf]; omega
              · have HA := Lib.hid (hb.out.less HY.out haft hly)
                clear haft
                go_wp2
                go_quiet ((go_at_call 75; exact quiet_drew HL.out))
                go_wp2_with fail
                refine (rless_any y x _ hsy.out hxs.out).mono ?_
                rintro e w1 ⟨rfl, nd, rfl⟩
                rw [hly]
                go_wp2
                go_roundw
                case rel => exact ⟨m + 1, y, true, by omega, rfl, rfl, by go_num, Lib.hid (hp.out.kept (Fr.of_drewN _ _ _)), HA⟩
                case measure => simp [intOf]; omega
      · obtain rfl : m = n := by omega
        rw [← HN.out] at hb
        cases q
        · have HE : Hid (k = nr) := Lib.hid (by rw [HNR.out, HR.out]; rw [HR.out] at hb; exact best_none (by rw [← HR.out, ← HNR.out]; exact hk) hb.out)
          go_wp2
          go_ret
          refine ⟨_, rfl, ?_, hp.out.2⟩
          have ho := hp.out.1
          have e1 : r.take k = rightS l := by rw [HE.out, HNR.out, List.take_length]; exact HR.out
          rw [e1] at ho
          have e2 : (rightS l).length = k := by rw [← HR.out, ← HNR.out]; exact HE.out.symm
          rw [e2]
          exact ho
        · have HF : Hid (r[k]? = some x) := Lib.hid (by rw [HR.out]; rw [HR.out] at hb; exact best_found (by rw [← HR.out, ← HNR.out]; exact hk) hb.out)
          have hk1 : k + 1 ≤ nr := by have := (List.getElem?_eq_some_iff.1 HF.out).1; have := HNR.out; omega
          clear hb
          go_wp2_with (at_builtin; refine list_app rfl (.tmp 51) (.tmp 53) 33 33 rfl Tryz.slice33 rfl (by exact own_kept hp.out.1 (Fr.of_alloc _ _ _)) rfl (by exact src_one Tryz.underlying33 (heap_alloc_new _ _) rfl) (by unfold maxLen; omega) (by omega) (by have := hp.out.2.size; simp; omega) ?_; intro v2 w2 hq; have Hq := Lib.hid (OutPart.step ⟨own_kept hp.out.1 (Fr.of_alloc _ _ _), hp.out.2.trans (Fr.of_alloc _ _ _)⟩ HF.out hq); clear hq)
          obtain ⟨ao2, c2, rfl, _⟩ := own_slice Hq.out.1
          go_roundw
          case rel => exact ⟨k + 1, hk1, rfl, Hq⟩
          case measure => simp [lenOf]; omega

set_option maxHeartbeats 1000000 in
theorem rmay_set {w : World} {G : Nat → Prop} {v : Value} {l : List ByteArray} (h : Reads w G v (wcells l)) (hl : l.length ≤ 100000) (hs : Small 100000 l) :
    Calls Tryz.prog 38 #[v] w (KeptPost (.bool (mayL l)) w) := by
  obtain ⟨ao, c, rfl, _, hc⟩ := h
  rw [wcells_len]
  have HC := Lib.hid hc
  have HS := Lib.hid hs
  clear hc hs
  generalize hn : l.length = n at hl ⊢
  have HN := Lib.hid hn
  by_cases h0 : n < 1
  · have g0 : (n : Int) < 1 := by omega
    have HA := Lib.hid (mayL_count (l := l) (.inl (by omega)))
    clear hn
    go_enter Tryz.func38, Tryz.ntmps38
    go_wp2
    go_ret
    exact ⟨ret_bool HA.out.symm, Fr.refl _ _⟩
  have g0 : ¬ (n : Int) < 1 := by omega
  by_cases h16 : 16 < n
  · have g1 : 16 < (n : Int) := by omega
    have HA := Lib.hid (mayL_count (l := l) (.inr (by omega)))
    clear hn
    go_enter Tryz.func38, Tryz.ntmps38
    go_wp2
    go_ret
    exact ⟨ret_bool HA.out.symm, Fr.refl _ _⟩
  have g1 : ¬ 16 < (n : Int) := by omega
  have H16 : Hid (1 ≤ n ∧ n ≤ 16) := Lib.hid (by omega)
  clear hn
  have H0 : Hid (Kept w w) := Lib.hid (Fr.refl _ _)
  go_enter Tryz.func38, Tryz.ntmps38
  go_wp2
  clear g0 g1 h0
  go_loopw [3] (fun i wr => ∃ k : Nat, k ≤ n ∧ i = .int .i64 k ∧ Hid (Kept w wr) ∧ Hid (Upto l k)) (fun i _ => n - (intOf i).toNat)
  case atStart => exact ⟨0, by omega, rfl, H0, Lib.hid (fun j y hj => by omega)⟩
  case round =>
    obtain ⟨k, hk, rfl, HK, hall⟩ := hrel
    clear H0
    by_cases hlt : k < n
    · have h1 : (k : Int) < n := by omega
      obtain ⟨x, hx⟩ : ∃ x, l[k]? = some x := ⟨_, List.getElem?_eq_getElem (by have := HN.out; omega)⟩
      obtain ⟨g, off, rfl, _, hcell0⟩ := HC.out k _ (wcells_get hx)
      have hcell1 := HK.out.cell hcell0 (fun x => x)
      have hcell : ∀ p : KeptW wr, p.wd.cell? ⟨g, off + k, none⟩ = some (.string x) := fun p => p.kept.cell hcell1 (fun x => x)
      have hsx := Lib.hid (HS.out x (List.mem_of_getElem? hx))
      have HX := Lib.hid hx
      clear hx hcell0 hcell1
      cases hm : mayS x
      · have HA := Lib.hid (mayL_bad HX.out hm)
        have HM : Hid (∀ W, Calls Tryz.prog 74 #[.string x] W (KeptPost (.bool false) W)) := Lib.hid (fun W => by rw [← hm]; exact rmay_any x W hsx.out)
        clear hm
        go_wp2
        refine wp_region_kept (by kernel_rfl) (by kernel_rfl) ?_
        repeat (refine qa_step (fun K hK => ?_); go_simp; first | (refine hK _ ?_; clear hK K) | (apply Exists.intro; refine ⟨fun _ => ?_, hK _ ?_⟩; (go_at_call 74; exact kept_call HM.out); clear hK K))
        refine qa_nil ?_
        intro _ hw
        obtain ⟨p9, hw⟩ := hw
        subst hw
        replace HK := Lib.hid (HK.out.trans p9.kept)
        all_goals
          go_wp2
          go_ret
          exact ⟨ret_bool HA.out.symm, HK.out⟩
      · have HM : Hid (∀ W, Calls Tryz.prog 74 #[.string x] W (KeptPost (.bool true) W)) := Lib.hid (fun W => by rw [← hm]; exact rmay_any x W hsx.out)
        by_cases hk0 : k = 0
        · have e0 : decide (0 < k) = false := by simp [hk0]
          have HA := Lib.hid (hall.out.step HX.out hm (fun i y hi => by omega))
          clear hk0 hm
          go_wp2
          refine wp_region_kept (by kernel_rfl) (by kernel_rfl) ?_
          repeat (refine qa_step (fun K hK => ?_); go_simp; first | (refine hK _ ?_; clear hK K) | (apply Exists.intro; refine ⟨fun _ => ?_, hK _ ?_⟩; (go_at_call 74; exact kept_call HM.out); clear hK K))
          refine qa_nil ?_
          intro _ hw
          obtain ⟨p9, hw⟩ := hw
          subst hw
          replace HK := Lib.hid (HK.out.trans p9.kept)
          all_goals
            go_wp2
            go_roundw
            case rel => exact ⟨k + 1, by omega, by go_num, HK, HA⟩
            case measure => simp [intOf]; omega
        · obtain ⟨k, rfl⟩ : ∃ k', k = k' + 1 := ⟨k - 1, by omega⟩
          obtain ⟨y, hy⟩ : ∃ y, l[k]? = some y := ⟨_, List.getElem?_eq_getElem (by have := HN.out; omega)⟩
          obtain ⟨g', off', he, _, hcellp⟩ := HC.out k _ (wcells_get hy)
          cases he
          have hcell3 := HK.out.cell hcellp (fun x => x)
          have hcell2 : ∀ p : KeptW wr, p.wd.cell? ⟨g, off + k, none⟩ = some (.string y) := fun p => p.kept.cell hcell3 (fun x => x)
          have hsy := Lib.hid (HS.out y (List.mem_of_getElem? hy))
          have HY := Lib.hid hy
          have hF := HN.out
          clear hcellp hcell3 hk0 hF
          have e1 : (k : Int) + 1 - 1 = k := by omega
          have h2 : (k : Int) + 1 < n := by omega
          have h3 : (k : Int) < n := by omega
          have e2 : ((k : Int) + 1).toNat = k + 1 := by omega
          have e3 : 0 ≤ (k : Int) + 1 := by omega
          have e0 : 0 < (k : Int) + 1 := by omega
          have w1 : IntKind.i64.wrap (k : Int) = k := IntWalk.i64_in _ (by omega)
          have w2 : IntKind.i64.wrap ((k : Int) + 1 - 1) = k := by rw [e1]; exact w1
          have HL : Hid (∀ W, Calls Tryz.prog 75 #[.string y, .string x] W (DrewPost (.bool (lessS y x)) W)) := Lib.hid (fun W => rless_any y x W (by have := hsy.out; unfold maxLen; omega) (by have := hsx.out; unfold maxLen; omega))
          clear hy
          cases hls : lessS y x
          · have HA := Lib.hid (mayL_fall HY.out HX.out hls)
            rw [hls] at HL
            clear hls hm
            go_wp2
            refine wp_region_kept (by kernel_rfl) (by kernel_rfl) ?_
            repeat (refine qa_step (fun K hK => ?_); go_simp; first | (refine hK _ ?_; clear hK K) | (apply Exists.intro; refine ⟨fun _ => ?_, hK _ ?_⟩; (first | (go_at_call 74; exact kept_call HM.out) | (go_at_call 75; exact kept_drew HL.out)); clear hK K))
            refine qa_nil ?_
            intro _ hw
            obtain ⟨p9, hw⟩ := hw
            subst hw
            replace HK := Lib.hid (HK.out.trans p9.kept)
            all_goals
              go_wp2
              go_ret
              exact ⟨ret_bool HA.out.symm, HK.out⟩
          · have HA := Lib.hid (hall.out.step HX.out hm (fun i z hi hz => by
              obtain rfl : i = k := by omega
              rw [HY.out] at hz; cases hz; exact hls))
            rw [hls] at HL
            clear hls hm
            go_wp2
            refine wp_region_kept (by kernel_rfl) (by kernel_rfl) ?_
            repeat (refine qa_step (fun K hK => ?_); go_simp; first | (refine hK _ ?_; clear hK K) | (apply Exists.intro; refine ⟨fun _ => ?_, hK _ ?_⟩; (first | (go_at_call 74; exact kept_call HM.out) | (go_at_call 75; exact kept_drew HL.out)); clear hK K))
            refine qa_nil ?_
            intro _ hw
            obtain ⟨p9, hw⟩ := hw
            subst hw
            replace HK := Lib.hid (HK.out.trans p9.kept)
            all_goals
              go_wp2
              go_roundw
              case rel => exact ⟨k + 2, by omega, by go_num, HK, HA⟩
              case measure => simp [intOf]; omega
    · have HA := Lib.hid (mayL_all (l := l) (by have := HN.out; have := H16.out; omega) (by have := HN.out; have := H16.out; omega) (fun j y hj hy => hall.out j y (by have := HN.out; omega) hy))
      go_wp2
      go_ret
      exact ⟨ret_bool HA.out.symm, HK.out⟩

theorem bound_any {w0 w : World} {v : Value} {s : List ByteArray} (ho : w.ownsRow w0.heap.size 43 1 v s.length (wcells s)) (hk : Kept w0 w) :
    Calls Tryz.prog 43 #[v] w (SetPost (boundL s) w0) := by
  obtain ⟨bo, d, rfl, hd⟩ := own_slice ho
  have HO := Lib.hid ho
  have HK := Lib.hid hk
  clear ho hk
  generalize hm : s.length = m at HO hd ⊢
  by_cases h0 : m < 1
  · have HB : Hid (boundL s = ([], 3)) := Lib.hid (boundL_no (.inl (by omega)))
    have g0 : (m : Int) < 1 := by omega
    clear hm
    go_enter Tryz.func43, Tryz.ntmps43
    go_wp2
    go_ret2
    exact set_post HB.out (own_nil _ _ _ _) HK.out
  · have g0 : ¬ (m : Int) < 1 := by omega
    by_cases h16 : 16 < m
    · have HB : Hid (boundL s = ([], 3)) := Lib.hid (boundL_no (.inr (by omega)))
      have g1 : 16 < (m : Int) := by omega
      clear hm h0
      go_enter Tryz.func43, Tryz.ntmps43
      go_wp2
      go_ret2
      exact set_post HB.out (own_nil _ _ _ _) HK.out
    · have HB : Hid (boundL s = (s, 0)) := Lib.hid (boundL_ok (by omega))
      have g1 : ¬ 16 < (m : Int) := by omega
      have HM := Lib.hid hm
      clear hm h0
      go_enter Tryz.func43, Tryz.ntmps43
      go_wp2
      go_ret2
      exact set_post HB.out (by rw [HM.out]; exact HO.out) HK.out

set_option maxHeartbeats 1000000 in
theorem equal_any {w : World} {G G' : Nat → Prop} {va vb : Value} {a b : List ByteArray} (ha : Reads w G va (wcells a)) (hb : Reads w G' vb (wcells b)) (hla : a.length ≤ 100000) (hlb : b.length ≤ 100000) :
    Calls Tryz.prog 14 #[va, vb] w (DrewPost (.bool (decide (a = b))) w) := by
  obtain ⟨ao, ca, rfl, _, hca⟩ := ha
  obtain ⟨bo, cb, rfl, _, hcb⟩ := hb
  rw [wcells_len, wcells_len]
  have HCA := Lib.hid hca
  have HCB := Lib.hid hcb
  clear hca hcb
  generalize hna : a.length = na at hla ⊢
  generalize hnb : b.length = nb at hlb ⊢
  have HNA := Lib.hid hna
  have HNB := Lib.hid hnb
  by_cases hlen : na = nb
  · subst hlen
    have g0 : ((na : Int) != (na : Int)) = false := by simp
    clear hna hnb
    go_enter Tryz.func14, Tryz.ntmps14
    go_wp2
    go_loopw [5] (fun i wr => ∃ k m : Nat, k ≤ na ∧ i = .int .i64 k ∧ wr = w.drewN m ∧ Hid (∀ j, j < k → a[j]? = b[j]?)) (fun i _ => na - (intOf i).toNat)
    case atStart => exact ⟨0, 0, by omega, rfl, rfl, Lib.hid (fun i hi => by omega)⟩
    case round =>
      obtain ⟨k, m, hk, rfl, rfl, hall⟩ := hrel
      by_cases hlt : k < na
      · have h1 : (k : Int) < na := by omega
        obtain ⟨x, hx⟩ : ∃ x, a[k]? = some x := ⟨_, List.getElem?_eq_getElem (by have := HNA.out; omega)⟩
        obtain ⟨y, hy⟩ : ∃ y, b[k]? = some y := ⟨_, List.getElem?_eq_getElem (by have := HNB.out; omega)⟩
        obtain ⟨g, off, rfl, _, hcx⟩ := HCA.out k _ (wcells_get hx)
        obtain ⟨g', off', rfl, _, hcy⟩ := HCB.out k _ (wcells_get hy)
        have HX := Lib.hid hx
        have HY := Lib.hid hy
        clear hx hy
        by_cases hxy : x = y
        · have hq : (x.toList == y.toList) = true := by rw [eq_str, hxy]; simp
          have HQ : Hid (∀ j, j < k + 1 → a[j]? = b[j]?) := Lib.hid (fun j hj => by
            rcases Nat.lt_or_ge j k with h' | h'
            · exact hall.out j h'
            · obtain rfl : j = k := by omega
              rw [HX.out, HY.out, hxy])
          clear hxy
          go_wp2
          go_quiet (fail)
          go_wp2
          go_roundw
          case rel => exact ⟨k + 1, _, by omega, by go_num, rfl, HQ⟩
          case measure => simp [intOf]; omega
        · have hq : (x.toList == y.toList) = false := by rw [eq_str]; simpa using hxy
          have HF : Hid (decide (a = b) = false) := Lib.hid (by
            rw [decide_eq_false_iff_not]
            intro e
            have h1 := HX.out
            rw [e, HY.out] at h1
            cases h1; exact hxy rfl)
          clear hxy
          go_wp2
          go_quiet (fail)
          go_wp2
          go_ret
          exact ⟨ret_bool HF.out.symm, m + nq, by simp⟩
      · have HF : Hid (decide (a = b) = true) := Lib.hid (by
          rw [decide_eq_true_eq]
          exact eq_of_take (by rw [HNA.out, HNB.out]) (by rw [HNA.out]; omega : k = _) hall.out)
        go_wp2
        go_ret
        exact ⟨ret_bool HF.out.symm, _, rfl⟩
  · have g0 : ((na : Int) != (nb : Int)) = true := by simp; omega
    have HF : Hid (decide (a = b) = false) := Lib.hid (by
      rw [decide_eq_false_iff_not]
      intro e
      rw [e] at hna
      omega)
    clear hlen hna hnb
    go_enter Tryz.func14, Tryz.ntmps14
    go_wp2
    go_ret
    exact ⟨ret_bool HF.out.symm, 0, rfl⟩

theorem own_up {w0 w w1 : World} {v : Value} {e : TypeId} {n : Nat} {xs : List Value} (h : w1.ownsRow w.heap.size e 1 v n xs) (hk : Kept w0 w) : w1.ownsRow w0.heap.size e 1 v n xs :=
  own_base h fun g hg => by
    rcases h.2 with ⟨rfl, _⟩ | ⟨g', cap, cur, rfl, hb, _⟩
    · simp [Value.ownBlock] at hg
    · simp [Value.ownBlock] at hg
      have := hk.size
      omega
theorem small_len {l : List ByteArray} (h : mayL l = true) : Small 100000 l := fun s hs => by
  have := (mayS_size ((mayL_iff.1 h).2.1 s hs)).2.2.1
  omega

set_option maxHeartbeats 1000000 in
theorem rand_any {w : World} {G : Nat → Prop} {va vb : Value} {a b : List ByteArray} (ha : Reads w G va (wcells a)) (hb : Reads w G vb (wcells b)) (hla : a.length ≤ 100000) (hlb : b.length ≤ 100000) (hsa : Small 100000 a) (hsb : Small 100000 b) :
    Calls Tryz.prog 20 #[va, vb] w (SetPost (andL a b) w) := by
  have HA := Lib.hid ha
  have HB := Lib.hid hb
  have HSA := Lib.hid hsa
  have HSB := Lib.hid hsb
  clear ha hb hsa hsb
  cases hm : mayL a
  · have HE : Hid (andL a b = ([], 2)) := Lib.hid (andL_bad (by simp [hm]))
    go_enter Tryz.func20, Tryz.ntmps20
    go_wp2_with fail
    refine (rmay_set HA.out hla HSA.out).mono ?_
    rintro e w' ⟨rfl, hk1⟩
    rw [hm]
    have HK := Lib.hid hk1
    clear hk1
    go_wp2
    go_ret2
    exact set_post HE.out (own_nil _ _ _ _) HK.out
  · cases hm2 : mayL b
    · have HE : Hid (andL a b = ([], 2)) := Lib.hid (andL_bad (by simp [hm2]))
      go_enter Tryz.func20, Tryz.ntmps20
      go_wp2_with fail
      refine (rmay_set HA.out hla HSA.out).mono ?_
      rintro e w' ⟨rfl, hk1⟩
      rw [hm]
      have HK := Lib.hid hk1
      clear hk1
      go_wp2_with fail
      refine (rmay_set (HB.out.new HK.out) hlb HSB.out).mono ?_
      rintro e w' ⟨rfl, hk1⟩
      rw [hm2]
      replace HK := Lib.hid (HK.out.trans hk1)
      clear hk1
      go_wp2
      go_ret2
      exact set_post HE.out (own_nil _ _ _ _) HK.out
    · have HE : Hid (andL a b = boundL (rightS (a ++ b))) := Lib.hid (by unfold andL; rw [if_neg (by simp [hm, hm2])])
      have HLA := Lib.hid (mayL_iff.1 hm).1
      have HLB := Lib.hid (mayL_iff.1 hm2).1
      go_enter Tryz.func20, Tryz.ntmps20
      go_wp2_with fail
      refine (rmay_set HA.out hla HSA.out).mono ?_
      rintro e w' ⟨rfl, hk1⟩
      rw [hm]
      have HK := Lib.hid hk1
      clear hk1
      go_wp2_with fail
      refine (rmay_set (HB.out.new HK.out) hlb HSB.out).mono ?_
      rintro e w2 ⟨rfl, hk1⟩
      rw [hm2]
      replace HK := Lib.hid (HK.out.trans hk1)
      clear hk1 hm hm2
      have H0 : Hid (JoinPart w (w2.alloc (Obj.cells #[] 43)) [] (.slice (some ⟨w2.heap.size, 0, none⟩) 0 0)) := Lib.hid ⟨own_up (w := w2) (own_new (heap_alloc_new w2 _) (Nat.le_refl _)) HK.out, HK.out.trans (Fr.of_alloc _ _ _)⟩
      go_wp2_with (first | (at_builtin; refine list_app rfl (.tmp 14) (.tmp 15) 32 33 rfl Tryz.slice32 rfl (by exact H0.out.1) rfl (by exact (HA.out.new H0.out.2).src Tryz.underlying33 one_str) (by rw [wcells_len]; have := HLA.out; unfold maxLen; simp only [List.length_nil]; omega) (by rw [wcells_len]; have := HLA.out; simp only [List.length_nil]; omega) (by exact H0.out.2.size) ?_; intro v3 w3 hp3; have H3 := Lib.hid (H0.out.step hp3); clear hp3 H0) | (at_builtin; refine list_app rfl (.tmp 16) (.tmp 17) 32 33 rfl Tryz.slice32 rfl (by exact H3.out.1) rfl (by exact (HB.out.new H3.out.2).src Tryz.underlying33 one_str) (by rw [wcells_len]; have := HLA.out; have := HLB.out; unfold maxLen; simp only [List.nil_append]; omega) (by rw [wcells_len]; have := HLA.out; have := HLB.out; simp only [List.nil_append]; omega) (by exact H3.out.2.size) ?_; intro v4 w4 hp4; have H4 : Hid (JoinPart w w4 (a ++ b) v4) := Lib.hid (by have := H3.out.step hp4; simpa using this); clear hp4 H3))
      have HR := Lib.hid (Reads.of_row H4.out.1)
      refine (rright_any HR.out (by rw [List.length_append]; have := HLA.out; have := HLB.out; omega) (small_append HSA.out HSB.out)).mono ?_
      rintro e w5 ⟨v5, rfl, ho5, hk5⟩
      have HO := Lib.hid (own_up ho5 H4.out.2)
      have HK5 := Lib.hid (H4.out.2.trans hk5)
      clear ho5 hk5
      go_wp2_with fail
      refine (bound_any HO.out HK5.out).mono ?_
      rintro e w6 ⟨v6, rfl, ho6, hk6⟩
      have HP : Hid (SetPost (andL a b) w (.returned (.tuple #[v6, .int .i64 (boundL (rightS (a ++ b))).2])) w6) := Lib.hid (by rw [HE.out]; exact ⟨v6, rfl, ho6, hk6⟩)
      clear ho6 hk6
      go_wp2
      go_ret2
      exact HP.out

theorem small_two {x y : ByteArray} (hx : x.size ≤ 100000) (hy : y.size ≤ 100000) : Small 100000 [x, y] := fun s hs => by
  rcases List.mem_cons.1 hs with rfl | hs
  · exact hx
  · rcases List.mem_cons.1 hs with rfl | hs
    · exact hy
    · cases hs
theorem quoteL_ok {a b : List ByteArray} (h : (mayL a && mayL b) = true) (h2 : longB (crossL a b) = false) : quoteL a b = boundL (rightS (crossL a b)) := by
  unfold quoteL; rw [if_neg (by simp [h]), if_neg (by simp [h2])]

set_option maxHeartbeats 4000000 in
theorem rquote_any {w : World} {G : Nat → Prop} {va vb : Value} {a b : List ByteArray} (ha : Reads w G va (wcells a)) (hb : Reads w G vb (wcells b)) (hla : a.length ≤ 100000) (hlb : b.length ≤ 100000) (hsa : Small 100000 a) (hsb : Small 100000 b) :
    Calls Tryz.prog 22 #[va, vb] w (SetPost (quoteL a b) w) := by
  have HA := Lib.hid ha
  have HB := Lib.hid hb
  have HSA := Lib.hid hsa
  have HSB := Lib.hid hsb
  clear hsa hsb
  cases hm : mayL a
  · have HE : Hid (quoteL a b = ([], 2)) := Lib.hid (quoteL_bad (by simp [hm]))
    clear ha hb
    go_enter Tryz.func22, Tryz.ntmps22
    go_wp2_with fail
    refine (rmay_set HA.out hla HSA.out).mono ?_
    rintro e w' ⟨rfl, hk1⟩
    rw [hm]
    have HK := Lib.hid hk1
    clear hk1
    go_wp2
    go_ret2
    exact set_post HE.out (own_nil _ _ _ _) HK.out
  · cases hm2 : mayL b
    · have HE : Hid (quoteL a b = ([], 2)) := Lib.hid (quoteL_bad (by simp [hm2]))
      clear ha hb
      go_enter Tryz.func22, Tryz.ntmps22
      go_wp2_with fail
      refine (rmay_set HA.out hla HSA.out).mono ?_
      rintro e w' ⟨rfl, hk1⟩
      rw [hm]
      have HK := Lib.hid hk1
      clear hk1
      go_wp2_with fail
      refine (rmay_set (HB.out.new HK.out) hlb HSB.out).mono ?_
      rintro e w' ⟨rfl, hk1⟩
      rw [hm2]
      replace HK := Lib.hid (HK.out.trans hk1)
      clear hk1
      go_wp2
      go_ret2
      exact set_post HE.out (own_nil _ _ _ _) HK.out
    · have HMM : Hid ((mayL a && mayL b) = true) := Lib.hid (by simp [hm, hm2])
      obtain ⟨⟨_, hla16⟩, hsma, _⟩ := mayL_iff.1 hm
      obtain ⟨⟨_, hlb16⟩, hsmb, _⟩ := mayL_iff.1 hm2
      have HLA := Lib.hid hla16
      have HLB := Lib.hid hlb16
      have HMA := Lib.hid hsma
      have HMB := Lib.hid hsmb
      obtain ⟨ao, ca, rfl, _, hca⟩ := ha
      obtain ⟨bo, cb, rfl, _, hcb⟩ := hb
      rw [wcells_len] at HA ⊢
      rw [wcells_len] at HB ⊢
      have HCA := Lib.hid hca
      have HCB := Lib.hid hcb
      clear hca hcb hsma hsmb
      generalize hna : a.length = na at *
      generalize hnb : b.length = nb at *
      have HNA := Lib.hid hna
      have HNB := Lib.hid hnb
      clear hna hnb
      go_enter Tryz.func22, Tryz.ntmps22
      go_wp2_with fail
      refine (rmay_set HA.out (by rw [HNA.out]; exact hla) HSA.out).mono ?_
      rintro e w1 ⟨rfl, hk1⟩
      rw [hm]
      have HK := Lib.hid hk1
      clear hk1
      go_wp2_with fail
      refine (rmay_set (HB.out.new HK.out) (by rw [HNB.out]; exact hlb) HSB.out).mono ?_
      rintro e w2 ⟨rfl, hk1⟩
      rw [hm2]
      replace HK := Lib.hid (HK.out.trans hk1)
      clear hk1 hm hm2
      have H0 : Hid (JoinPart w (w2.alloc (Obj.cells #[] 43)) (crossL (a.take 0) b) (.slice (some ⟨w2.heap.size, 0, none⟩) 0 0)) := Lib.hid ⟨own_up (w := w2) (own_new (heap_alloc_new w2 _) (Nat.le_refl _)) HK.out, HK.out.trans (Fr.of_alloc _ _ _)⟩
      have H0F : Hid (longB (crossL (a.take 0) b) = false) := Lib.hid rfl
      go_wp2_with fail
      go_loopw [6, 7] (fun v i wr => ∃ k : Nat, k ≤ na ∧ i = .int .i64 k ∧ Hid (JoinPart w wr (crossL (a.take k) b) v) ∧ Hid (longB (crossL (a.take k) b) = false)) (fun _ i _ => na - (intOf i).toNat)
      case atStart => exact ⟨0, by omega, rfl, H0, H0F⟩
      case round =>
        obtain ⟨k, hk, rfl, hp, hf⟩ := hrel
        clear H0 H0F
        by_cases hlt : k < na
        · have h1 : (k : Int) < na := by omega
          obtain ⟨x, hx⟩ : ∃ x, a[k]? = some x := ⟨_, List.getElem?_eq_getElem (by have := HNA.out; omega)⟩
          obtain ⟨g, off, rfl, _, hcell0⟩ := HCA.out k _ (wcells_get hx)
          have HCX := Lib.hid hcell0
          have HX := Lib.hid hx
          have H1 := jp_zero (x := x) hp
          have H1F : Hid (longB (partL a b k 0 x) = false) := Lib.hid (by rw [part_zero]; exact hf.out)
          clear hx hcell0 hp hf
          go_wp2_with fail
          go_loopw [6, 8] (fun v i wr => ∃ m : Nat, m ≤ nb ∧ i = .int .i64 m ∧ Hid (JoinPart w wr (partL a b k m x) v) ∧ Hid (longB (partL a b k m x) = false)) (fun _ i _ => nb - (intOf i).toNat)
          case atStart => exact ⟨0, by omega, rfl, H1, H1F⟩
          case round =>
            obtain ⟨m, hm, rfl, hp, hf⟩ := hrel
            clear H1 H1F
            by_cases hlt2 : m < nb
            · have h2 : (m : Int) < nb := by omega
              obtain ⟨y, hy⟩ : ∃ y, b[m]? = some y := ⟨_, List.getElem?_eq_getElem (by have := HNB.out; omega)⟩
              obtain ⟨g', off', rfl, _, hcell0⟩ := HCB.out m _ (wcells_get hy)
              have hcy := hp.out.2.cell hcell0 (fun x => x)
              have hcx := hp.out.2.cell HCX.out (fun x => x)
              have HY := Lib.hid hy
              have mx := HMA.out x (List.mem_of_getElem? HX.out)
              have my := HMB.out y (List.mem_of_getElem? hy)
              have HC := Lib.hid (cat_two mx my)
              have HSM := Lib.hid (small_two (x := x) (y := y) (by have := mayS_size mx; omega) (by have := mayS_size my; omega))
              clear hy hcell0 mx my
              by_cases h16 : 16 < (x ++ y).size
              · replace HC : Hid (catS [x, y] = (⟨#[]⟩, 4)) := Lib.hid (by rw [HC.out, if_pos h16])
                have HE : Hid (quoteL a b = ([], 4)) := Lib.hid (quoteL_long HMM.out (by
                  unfold longB
                  rw [List.any_eq_true]
                  exact ⟨x ++ y, cross_mem.2 ⟨x, List.mem_of_getElem? HX.out, y, List.mem_of_getElem? HY.out, rfl⟩, by simpa using h16⟩))
                clear h16
                go_upto_region 10 with fail
                go_cut [9, 10] (fun t9 t10 wx => t9 = .string ⟨#[]⟩ ∧ t10 = .int .i64 4 ∧ Hid (Kept wr wx))
                case first =>
                  go_region_with (go_at_call 45; refine (rcat_any (l := [x, y]) (by exact reads_built (cs := #[.string x, .string y]) (heap_alloc_new _ _)) (by simp) HSM.out).mono ?_; rintro e w9 ⟨rfl, hk9⟩; rw [HC.out]; have HK9 := Lib.hid hk9; clear hk9)
                  all_goals
                    go_wp2_with fail
                    go_meet
                    exact ⟨rfl, rfl, Lib.hid (((Fr.of_alloc _ _ _).trans (Fr.of_drew _ _)).trans HK9.out)⟩
                case rest =>
                obtain ⟨rfl, rfl, hkx⟩ := hcut
                have HK9 := Lib.hid (hp.out.2.trans hkx.out)
                clear hkx hcx hcy
                go_wp2_with fail
                go_ret2
                exact set_post HE.out (own_nil _ _ _ _) HK9.out
              · replace HC : Hid (catS [x, y] = (x ++ y, 0)) := Lib.hid (by rw [HC.out, if_neg h16])
                have HF : Hid (longB (partL a b k (m + 1) x) = false) := Lib.hid (by rw [part_step HY.out, longB_append, hf.out]; simp [longB]; simpa using h16)
                have HL : Hid ((partL a b k m x).length ≤ 272) := Lib.hid (part_len (by have := HNA.out; have := HLA.out; omega) (by have := HNB.out; have := HLB.out; omega))
                clear h16
                generalize hz : x ++ y = z at *
                have HZ := Lib.hid hz
                clear hz
                go_upto_region 10 with fail
                go_cut [9, 10] (fun t9 t10 wx => t9 = .string z ∧ t10 = .int .i64 0 ∧ Hid (Kept wr wx))
                case first =>
                  go_region_with (go_at_call 45; refine (rcat_any (l := [x, y]) (by exact reads_built (cs := #[.string x, .string y]) (heap_alloc_new _ _)) (by simp) HSM.out).mono ?_; rintro e w9 ⟨rfl, hk9⟩; rw [HC.out]; have HK9 := Lib.hid hk9; clear hk9)
                  all_goals
                    go_wp2_with fail
                    go_meet
                    exact ⟨rfl, rfl, Lib.hid (((Fr.of_alloc _ _ _).trans (Fr.of_drew _ _)).trans HK9.out)⟩
                case rest =>
                obtain ⟨rfl, rfl, hkx⟩ := hcut
                replace hp := jp_kept hp hkx.out
                clear hkx hcx hcy
                go_wp2_with (at_builtin; refine list_app rfl (.tmp 48) (.tmp 50) 32 32 rfl Tryz.slice32 rfl (by exact own_kept hp.out.1 (Fr.of_alloc _ _ _)) rfl (by exact src_one Tryz.underlying32 (heap_alloc_new _ _) rfl) (by have := HL.out; unfold maxLen; omega) (by have := HL.out; omega) (by have := hp.out.2.size; simp; omega) ?_; intro v2 wq hq; have Hq := Lib.hid (JoinPart.step (m := [z]) ⟨own_kept hp.out.1 (Fr.of_alloc _ _ _), hp.out.2.trans (Fr.of_alloc _ _ _)⟩ hq); clear hq)
                go_roundw
                case rel => exact ⟨m + 1, by omega, by go_num, Lib.hid (by rw [part_step HY.out, HZ.out]; exact Hq.out), HF⟩
                case measure => simp [intOf]; omega
            · obtain rfl : m = nb := by omega
              have H2 := jp_full hp HNB.out HX.out
              have H2F : Hid (longB (crossL (a.take (k + 1)) b) = false) := Lib.hid (by rw [cross_step HX.out, HNB.out]; exact hf.out)
              clear hp hf
              go_wp2_with fail
              go_roundw
              case rel => exact ⟨k + 1, by omega, by go_num, H2, H2F⟩
              case measure => simp [intOf]; omega
        · have hfull : a.take k = a := List.take_of_length_le (by have := HNA.out; omega)
          rw [hfull] at hp hf
          have HE := Lib.hid (quoteL_ok HMM.out hf.out)
          have HR := Lib.hid (Reads.of_row hp.out.1)
          have HS : Hid (Small 100000 (crossL a b)) := Lib.hid (fun s hs => by have := longB_false hf.out s hs; omega)
          have HCL : Hid ((crossL a b).length ≤ 256) := Lib.hid (by have := mayL_and HMM.out; exact cross_le this.1 this.2)
          clear hfull hf
          go_wp2_with fail
          refine (rright_any HR.out (by have := HCL.out; omega) HS.out).mono ?_
          rintro e w5 ⟨v5, rfl, ho5, hk5⟩
          have HO := Lib.hid (own_up ho5 hp.out.2)
          have HK5 := Lib.hid (hp.out.2.trans hk5)
          clear ho5 hk5
          go_wp2_with fail
          refine (bound_any HO.out HK5.out).mono ?_
          rintro e w6 ⟨v6, rfl, ho6, hk6⟩
          have HP : Hid (SetPost (quoteL a b) w (.returned (.tuple #[v6, .int .i64 (boundL (rightS (crossL a b))).2])) w6) := Lib.hid (by rw [HE.out]; exact ⟨v6, rfl, ho6, hk6⟩)
          clear ho6 hk6
          go_wp2
          go_ret2
          exact HP.out

theorem small_one2 (r : Int) : Small 100000 [ofS [r]] := fun s hs => by
  rw [List.mem_singleton] at hs
  subst hs
  rw [ofS_size]
  simp
set_option maxHeartbeats 1000000 in
theorem ras_any {w : World} {G : Nat → Prop} {va : Value} {a : List ByteArray} {r : Int} (ha : Reads w G va (wcells a)) (hla : a.length ≤ 100000) (hsa : Small 100000 a) (h0 : 0 ≤ r) (h1 : r ≤ 65535) :
    Calls Tryz.prog 24 #[va, .int .u16 r] w (SetPost (asL a r) w) := by
  have HA := Lib.hid ha
  have HSA := Lib.hid hsa
  clear ha hsa
  cases hm : mayL a
  · have HE := Lib.hid (asL_bad (r := r) hm)
    go_enter Tryz.func24, Tryz.ntmps24
    go_wp2_with fail
    refine (rmay_set HA.out hla HSA.out).mono ?_
    rintro e w' ⟨rfl, hk1⟩
    rw [hm]
    have HK := Lib.hid hk1
    clear hk1
    go_wp2
    go_ret2
    exact set_post HE.out (own_nil _ _ _ _) HK.out
  · by_cases hr1 : r < 40960
    · have HE := Lib.hid (asL_kind (r := r) hm (by simp; omega))
      go_enter Tryz.func24, Tryz.ntmps24
      go_wp2_with fail
      refine (rmay_set HA.out hla HSA.out).mono ?_
      rintro e w' ⟨rfl, hk1⟩
      rw [hm]
      have HK := Lib.hid hk1
      clear hk1
      go_wp2
      go_ret2
      exact set_post HE.out (own_nil _ _ _ _) HK.out
    · by_cases hr2 : 49152 ≤ r
      · have HE := Lib.hid (asL_kind (r := r) hm (by simp; omega))
        go_enter Tryz.func24, Tryz.ntmps24
        go_wp2_with fail
        refine (rmay_set HA.out hla HSA.out).mono ?_
        rintro e w' ⟨rfl, hk1⟩
        rw [hm]
        have HK := Lib.hid hk1
        clear hk1
        go_wp2
        go_ret2
        exact set_post HE.out (own_nil _ _ _ _) HK.out
      · have HE := Lib.hid (asL_ok (r := r) hm (by simp; omega))
        have HG := Lib.hid (good_one h0 h1)
        go_enter Tryz.func24, Tryz.ntmps24
        go_wp2_with fail
        refine (rmay_set HA.out hla HSA.out).mono ?_
        rintro e w1 ⟨rfl, hk1⟩
        rw [hm]
        have HK := Lib.hid hk1
        clear hk1
        have HR := Lib.hid (reads_built (heap_alloc_new w1 (Obj.cells #[.int .u16 r] 57)))
        go_wp2_with fail
        refine (rof_any (l := [r]) HR.out HG.out (by simp)).mono ?_
        rintro e w2 ⟨rfl, hk2⟩
        replace HK := Lib.hid ((HK.out.trans (Fr.of_alloc _ _ _)).trans hk2)
        clear hk2 HR
        have HR2 := Lib.hid (reads_built (heap_alloc_new w2 (Obj.cells #[.string (ofS [r])] 43))).any
        go_wp2_with fail
        refine (rquote_any (b := [ofS [r]]) ((HA.out.new HK.out).new (Fr.of_alloc _ _ _)).any HR2.out hla (by simp) HSA.out (small_one2 r)).mono ?_
        rintro e w4 ⟨v4, rfl, ho4, hk4⟩
        have HP : Hid (SetPost (quoteL a [ofS [r]]) w (.returned (.tuple #[v4, .int .i64 (quoteL a [ofS [r]]).2])) w4) := Lib.hid (set_later ⟨v4, rfl, ho4, hk4⟩ (HK.out.trans (Fr.of_alloc _ _ _)))
        clear ho4 hk4
        go_wp2
        go_ret2
        rw [HE.out]
        exact HP.out

set_option maxHeartbeats 1000000 in
theorem rfor_any {w : World} {G : Nat → Prop} {va vb : Value} {a b : List ByteArray} (ha : Reads w G va (wcells a)) (hb : Reads w G vb (wcells b)) (hla : a.length ≤ 100000) (hlb : b.length ≤ 100000) (hsa : Small 100000 a) (hsb : Small 100000 b) :
    Calls Tryz.prog 21 #[va, vb] w (SetPost (forL a b) w) := by
  have HA := Lib.hid ha
  have HB := Lib.hid hb
  have HSA := Lib.hid hsa
  have HSB := Lib.hid hsb
  clear ha hb hsa hsb
  obtain ⟨x, e1, hx⟩ : ∃ x e, quoteL a b = (x, e) := ⟨_, _, rfl⟩
  obtain ⟨y, e2, hy⟩ : ∃ y e, quoteL [ofS [1]] b = (y, e) := ⟨_, _, rfl⟩
  have HX := Lib.hid hx
  have HY := Lib.hid hy
  have hlx := quoteL_len a b
  have hly := quoteL_len [ofS [1]] b
  have hsx := quoteL_small a b
  have hsy := quoteL_small [ofS [1]] b
  rw [hx] at hlx hsx
  rw [hy] at hly hsy
  have HLX : Hid (x.length ≤ 16) := Lib.hid hlx
  have HLY : Hid (y.length ≤ 16) := Lib.hid hly
  have HSX : Hid (Small 100000 x) := Lib.hid (small_of hsx (by omega))
  have HSY : Hid (Small 100000 y) := Lib.hid (small_of hsy (by omega))
  have HG := Lib.hid (good_one (x := 1) (by omega) (by omega))
  clear hlx hly hsx hsy hx hy
  by_cases h1 : e1 = 0
  · subst h1
    by_cases h2 : e2 = 0
    · subst h2
      have HE := Lib.hid (forL_ok HX.out HY.out)
      go_enter Tryz.func21, Tryz.ntmps21
      go_wp2_with fail
      refine (rquote_any HA.out HB.out hla hlb HSA.out HSB.out).mono ?_
      rintro e w1 ⟨v1, rfl, ho1, hk1⟩
      rw [HX.out] at ho1 ⊢
      have HK := Lib.hid hk1
      have HR1 := Lib.hid (Reads.of_row ho1).any
      clear hk1 ho1
      have HR := Lib.hid (reads_built (heap_alloc_new w1 (Obj.cells #[.int .u16 1] 57)))
      go_wp2_with fail
      refine (rof_any (l := [1]) HR.out HG.out (by simp)).mono ?_
      rintro e w2 ⟨rfl, hk2⟩
      replace HR1 := Lib.hid ((HR1.out.new (Fr.of_alloc _ _ _)).new hk2)
      replace HK := Lib.hid ((HK.out.trans (Fr.of_alloc _ _ _)).trans hk2)
      clear hk2 HR
      have HR2 := Lib.hid (reads_built (heap_alloc_new w2 (Obj.cells #[.string (ofS [1])] 43))).any
      go_wp2_with fail
      refine (rquote_any (a := [ofS [1]]) HR2.out ((HB.out.new HK.out).new (Fr.of_alloc _ _ _)).any (by simp) hlb (small_one2 1) HSB.out).mono ?_
      rintro e w3 ⟨v3, rfl, ho3, hk3⟩
      rw [HY.out] at ho3 ⊢
      replace HR1 := Lib.hid ((HR1.out.new (Fr.of_alloc _ _ _)).new hk3)
      replace HK := Lib.hid ((HK.out.trans (Fr.of_alloc _ _ _)).trans hk3)
      have HR3 := Lib.hid (Reads.of_row ho3).any
      clear hk3 ho3
      go_wp2_with fail
      refine (rand_any HR1.out HR3.out (by have := HLX.out; omega) (by have := HLY.out; omega) HSX.out HSY.out).mono ?_
      rintro e w4 ⟨v4, rfl, ho4, hk4⟩
      have HP : Hid (SetPost (andL x y) w (.returned (.tuple #[v4, .int .i64 (andL x y).2])) w4) := Lib.hid (set_later ⟨v4, rfl, ho4, hk4⟩ HK.out)
      clear ho4 hk4
      go_wp2
      go_ret2
      rw [HE.out]
      exact HP.out
    · have HE := Lib.hid (forL_two HX.out HY.out h2)
      have g2 : (e2 != 0) = true := by simpa using h2
      clear h2
      go_enter Tryz.func21, Tryz.ntmps21
      go_wp2_with fail
      refine (rquote_any HA.out HB.out hla hlb HSA.out HSB.out).mono ?_
      rintro e w1 ⟨v1, rfl, ho1, hk1⟩
      rw [HX.out] at ho1 ⊢
      have HK := Lib.hid hk1
      clear hk1 ho1
      have HR := Lib.hid (reads_built (heap_alloc_new w1 (Obj.cells #[.int .u16 1] 57)))
      go_wp2_with fail
      refine (rof_any (l := [1]) HR.out HG.out (by simp)).mono ?_
      rintro e w2 ⟨rfl, hk2⟩
      replace HK := Lib.hid ((HK.out.trans (Fr.of_alloc _ _ _)).trans hk2)
      clear hk2 HR
      have HR2 := Lib.hid (reads_built (heap_alloc_new w2 (Obj.cells #[.string (ofS [1])] 43))).any
      go_wp2_with fail
      refine (rquote_any (a := [ofS [1]]) HR2.out ((HB.out.new HK.out).new (Fr.of_alloc _ _ _)).any (by simp) hlb (small_one2 1) HSB.out).mono ?_
      rintro e w3 ⟨v3, rfl, ho3, hk3⟩
      rw [HY.out]
      replace HK := Lib.hid ((HK.out.trans (Fr.of_alloc _ _ _)).trans hk3)
      clear hk3 ho3
      go_wp2
      go_ret2
      exact set_post HE.out (own_nil _ _ _ _) HK.out
  · have HE := Lib.hid (forL_one HX.out h1)
    have g1 : (e1 != 0) = true := by simpa using h1
    clear h1
    go_enter Tryz.func21, Tryz.ntmps21
    go_wp2_with fail
    refine (rquote_any HA.out HB.out hla hlb HSA.out HSB.out).mono ?_
    rintro e w1 ⟨v1, rfl, ho1, hk1⟩
    rw [HX.out]
    have HK := Lib.hid hk1
    clear hk1 ho1
    go_wp2
    go_ret2
    exact set_post HE.out (own_nil _ _ _ _) HK.out

open Go.RowKit Go.ChangeShapes Go.WideShapes
theorem boundL_err {s x : List ByteArray} {e : Int} (h : boundL s = (x, e)) (he : e ≠ 0) : x = [] ∧ e = 3 := by
  unfold boundL at h
  split at h
  · cases h; exact ⟨rfl, rfl⟩
  · cases h; exact absurd rfl he
theorem boundL_zero {s x : List ByteArray} (h : boundL s = (x, 0)) : x = s ∧ 1 ≤ s.length ∧ s.length ≤ 16 := by
  unfold boundL at h
  split at h
  · cases h
  · cases h; exact ⟨rfl, by omega, by omega⟩
theorem andL_may {a b : List ByteArray} (ha : mayL a = true) (hb : mayL b = true) : andL a b = boundL (rightS (a ++ b)) := by
  unfold andL; rw [if_neg (by simp [ha, hb])]
theorem may_right {l : List ByteArray} (h : ∀ x ∈ l, mayS x = true) (h1 : 1 ≤ (rightS l).length) (h2 : (rightS l).length ≤ 16) : mayL (rightS l) = true :=
  mayL_iff.2 ⟨⟨h1, h2⟩, fun x hx => h x ((mem_right x l).1 hx), rising_right l⟩
theorem may_words {a : List ByteArray} (h : mayL a = true) : ∀ x ∈ a, mayS x = true := (mayL_iff.1 h).2.1
theorem may_both {a b : List ByteArray} (ha : mayL a = true) (hb : mayL b = true) : ∀ x ∈ a ++ b, mayS x = true := fun x hx => by
  rcases List.mem_append.1 hx with h | h
  · exact may_words ha x h
  · exact may_words hb x h
theorem and_zero {a b x : List ByteArray} (ha : mayL a = true) (hb : mayL b = true) (h : andL a b = (x, 0)) : x = rightS (a ++ b) ∧ mayL x = true := by
  rw [andL_may ha hb] at h
  obtain ⟨rfl, h1, h2⟩ := boundL_zero h
  exact ⟨rfl, may_right (may_both ha hb) h1 h2⟩
theorem and_err {a b x : List ByteArray} {e : Int} (ha : mayL a = true) (hb : mayL b = true) (h : andL a b = (x, e)) (he : e ≠ 0) : e = 3 := by
  rw [andL_may ha hb] at h
  exact (boundL_err h he).2
theorem and_self_of {a : List ByteArray} (ha : mayL a = true) : andL a a = (a, 0) := by
  rw [andL_may ha ha]
  have e1 : rightS (a ++ a) = a := by
    rw [right_same (m := a) (fun z => by simp)]
    exact right_self (mayL_iff.1 ha).2.2
  rw [e1]
  have := (mayL_iff.1 ha).1
  exact boundL_ok (by omega)
theorem and_comm_of {a b : List ByteArray} (ha : mayL a = true) (hb : mayL b = true) : andL a b = andL b a := by
  rw [andL_may ha hb, andL_may hb ha, right_same (l := a ++ b) (m := b ++ a) (fun z => by simp [or_comm])]
theorem and_assoc_of {a b c x y : List ByteArray} (ha : mayL a = true) (hb : mayL b = true) (hc : mayL c = true) (hx : andL a b = (x, 0)) (hy : andL b c = (y, 0)) : andL x c = andL a y := by
  obtain ⟨rfl, mx⟩ := and_zero ha hb hx
  obtain ⟨rfl, my⟩ := and_zero hb hc hy
  rw [andL_may mx hc, andL_may ha my, right_same (l := rightS (a ++ b) ++ c) (m := a ++ rightS (b ++ c)) (fun z => by simp [mem_right, or_assoc])]
theorem within_left {a b x : List ByteArray} (ha : mayL a = true) (hb : mayL b = true) (hx : andL a b = (x, 0)) : withinL a x = true ∧ withinL b x = true ∧ x.length ≤ a.length + b.length := by
  obtain ⟨rfl, mx⟩ := and_zero ha hb hx
  refine ⟨withinL_iff.2 fun z hz => (mem_right z _).2 (by simp [hz]), withinL_iff.2 fun z hz => (mem_right z _).2 (by simp [hz]), ?_⟩
  have := right_length (a ++ b)
  rwa [List.length_append] at this
theorem quoteL_may {a b : List ByteArray} (ha : mayL a = true) (hb : mayL b = true) : quoteL a b = if longB (crossL a b) = true then ([], 4) else boundL (rightS (crossL a b)) := by
  unfold quoteL; rw [if_neg (by simp [ha, hb])]
theorem quote_zero {a b x : List ByteArray} (ha : mayL a = true) (hb : mayL b = true) (h : quoteL a b = (x, 0)) : x = rightS (crossL a b) ∧ longB (crossL a b) = false ∧ mayL x = true := by
  rw [quoteL_may ha hb] at h
  split at h
  · cases h
  · rename_i hl
    have hl : longB (crossL a b) = false := by simpa using hl
    obtain ⟨rfl, h1, h2⟩ := boundL_zero h
    exact ⟨rfl, hl, may_right (List.all_eq_true.1 (all_cross ha hb hl)) h1 h2⟩
theorem longB_same {l m : List ByteArray} (h : ∀ z, z ∈ l ↔ z ∈ m) : longB l = longB m := by
  unfold longB
  rw [Bool.eq_iff_iff, List.any_eq_true, List.any_eq_true]
  constructor
  · rintro ⟨x, hx, hp⟩; exact ⟨x, (h x).1 hx, hp⟩
  · rintro ⟨x, hx, hp⟩; exact ⟨x, (h x).2 hx, hp⟩
theorem quote_same {a b c d : List ByteArray} (ha : mayL a = true) (hb : mayL b = true) (hc : mayL c = true) (hd : mayL d = true) (h : ∀ z, z ∈ crossL a b ↔ z ∈ crossL c d) : quoteL a b = quoteL c d := by
  rw [quoteL_may ha hb, quoteL_may hc hd, longB_same h, right_same h]
theorem quote_assoc_of {a b c x y : List ByteArray} (ha : mayL a = true) (hb : mayL b = true) (hc : mayL c = true) (hx : quoteL a b = (x, 0)) (hy : quoteL b c = (y, 0)) : quoteL x c = quoteL a y := by
  obtain ⟨rfl, _, mx⟩ := quote_zero ha hb hx
  obtain ⟨rfl, _, my⟩ := quote_zero hb hc hy
  refine quote_same mx hc ha my fun z => ?_
  rw [cross_mem, cross_mem]
  constructor
  · rintro ⟨p, hp, w, hw, rfl⟩
    obtain ⟨u, hu, v, hv, rfl⟩ := cross_mem.1 ((mem_right p _).1 hp)
    exact ⟨u, hu, v ++ w, (mem_right _ _).2 (cross_mem.2 ⟨v, hv, w, hw, rfl⟩), (app_assoc u v w).symm⟩
  · rintro ⟨u, hu, q, hq, rfl⟩
    obtain ⟨v, hv, w, hw, rfl⟩ := cross_mem.1 ((mem_right q _).1 hq)
    exact ⟨u ++ v, (mem_right _ _).2 (cross_mem.2 ⟨u, hu, v, hv, rfl⟩), w, hw, app_assoc u v w⟩
theorem quote_over {a b c x y z : List ByteArray} (ha : mayL a = true) (hb : mayL b = true) (hc : mayL c = true) (hx : quoteL a b = (x, 0)) (hy : quoteL a c = (y, 0)) (hz : andL b c = (z, 0)) : quoteL a z = andL x y := by
  obtain ⟨rfl, lx, mx⟩ := quote_zero ha hb hx
  obtain ⟨rfl, ly, my⟩ := quote_zero ha hc hy
  obtain ⟨rfl, mz⟩ := and_zero hb hc hz
  have hm : ∀ z, z ∈ crossL a (rightS (b ++ c)) ↔ z ∈ crossL a b ++ crossL a c := by
    intro z
    rw [List.mem_append, cross_mem, cross_mem, cross_mem]
    constructor
    · rintro ⟨u, hu, v, hv, rfl⟩
      rcases List.mem_append.1 ((mem_right v _).1 hv) with h | h
      · exact .inl ⟨u, hu, v, h, rfl⟩
      · exact .inr ⟨u, hu, v, h, rfl⟩
    · rintro (⟨u, hu, v, hv, rfl⟩ | ⟨u, hu, v, hv, rfl⟩)
      · exact ⟨u, hu, v, (mem_right v _).2 (by simp [hv]), rfl⟩
      · exact ⟨u, hu, v, (mem_right v _).2 (by simp [hv]), rfl⟩
  rw [quoteL_may ha mz, andL_may mx my, longB_same hm, longB_append, lx, ly, if_neg (by simp)]
  rw [right_same (l := crossL a (rightS (b ++ c))) (m := rightS (crossL a b) ++ rightS (crossL a c)) (fun z => by
    rw [hm z, List.mem_append, List.mem_append, mem_right, mem_right])]
theorem quoteL_err {a b x : List ByteArray} {e : Int} (h : quoteL a b = (x, e)) (he : e ≠ 0) : x = [] := by
  unfold quoteL at h
  split at h
  · cases h; rfl
  · split at h
    · cases h; rfl
    · exact (boundL_err h he).1
theorem andL_err {a b x : List ByteArray} {e : Int} (h : andL a b = (x, e)) (he : e ≠ 0) : x = [] := by
  unfold andL at h
  split at h
  · cases h; rfl
  · exact (boundL_err h he).1
theorem forL_err {a b x : List ByteArray} {e : Int} (h : forL a b = (x, e)) (he : e ≠ 0) : x = [] := by
  unfold forL at h
  split at h
  · cases h; rfl
  · split at h
    · cases h; rfl
    · exact andL_err h he
/-- the word of D -/
theorem may_d : mayL [ofS [1]] = true := by decide +kernel
/-- For that went well -/
structure ForOk (a b s q d : List ByteArray) : Prop where
  fq : quoteL a b = (q, 0)
  fd : quoteL [ofS [1]] b = (d, 0)
  all : andL q d = (s, 0)
  within : withinL q s = true
  count : s.length ≤ q.length + b.length
  has : ∀ y ∈ b, hasL s (ofS [1] ++ y) = true
theorem for_zero {a b s : List ByteArray} (ha : mayL a = true) (hb : mayL b = true) (h : forL a b = (s, 0)) : ∃ q d, ForOk a b s q d := by
  unfold forL at h
  split at h
  · rename_i h1
    exfalso
    have h2 := congrArg Prod.snd h
    simp only at h2
    rw [h2] at h1
    simp at h1
  · rename_i h1
    split at h
    · rename_i h2
      exfalso
      have h3 := congrArg Prod.snd h
      simp only at h3
      rw [h3] at h2
      simp at h2
    · rename_i h2
      obtain ⟨q, e1, hq⟩ : ∃ q e, quoteL a b = (q, e) := ⟨_, _, rfl⟩
      obtain ⟨d, e2, hd⟩ : ∃ d e, quoteL [ofS [1]] b = (d, e) := ⟨_, _, rfl⟩
      rw [hq] at h h1
      rw [hd] at h h2
      obtain rfl : e1 = 0 := by simpa using h1
      obtain rfl : e2 = 0 := by simpa using h2
      obtain ⟨eq, _, mq⟩ := quote_zero ha hb hq
      obtain ⟨ed, _, md⟩ := quote_zero may_d hb hd
      have hw := within_left mq md h
      refine ⟨q, d, hq, hd, h, hw.1, ?_, fun y hy => ?_⟩
      · have := right_length (crossL [ofS [1]] b)
        rw [← ed, cross_len, List.length_singleton] at this
        have := hw.2.2
        omega
      · refine hasL_iff.2 (withinL_iff.1 hw.2.1 _ ?_)
        rw [ed]
        exact (mem_right _ _).2 (cross_mem.2 ⟨ofS [1], by simp, y, hy, rfl⟩)
theorem of_same {l m : List ByteArray} (h : ∀ z, z ∈ l ↔ z ∈ m) : ofL l = ofL m := by
  unfold ofL
  have : l.all mayS = m.all mayS := by
    rw [Bool.eq_iff_iff, List.all_eq_true, List.all_eq_true]
    constructor
    · intro hl x hx; exact hl x ((h x).2 hx)
    · intro hl x hx; exact hl x ((h x).1 hx)
  rw [this, right_same h]
theorem of_zero {l x : List ByteArray} (h : ofL l = (x, 0)) : x = rightS l ∧ mayL x = true ∧ sameL x l = true := by
  unfold ofL at h
  split at h
  · cases h
  · rename_i ha
    have ha : l.all mayS = true := by simpa using ha
    obtain ⟨rfl, h1, h2⟩ := boundL_zero h
    refine ⟨rfl, may_right (List.all_eq_true.1 ha) h1 h2, ?_⟩
    unfold sameL
    rw [withinL_iff.2 (fun z hz => (mem_right z l).1 hz), withinL_iff.2 (fun z hz => (mem_right z l).2 hz)]
    rfl
theorem of_rising {l x : List ByteArray} {e : Int} (h : ofL l = (x, e)) : Rising x := by
  by_cases he : e = 0
  · subst he
    rw [(of_zero h).1]
    exact rising_right l
  · unfold ofL at h
    split at h
    · cases h; simp [Rising]
    · rw [(boundL_err h he).1]; simp [Rising]

end Go.Proofs.YtbfealhbdemhmaaGreatDoor
