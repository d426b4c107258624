/- What sets of words are, as plain functions of lists: put right, whether one may be, and what is made of two. -/
import Derived.Test.YtdapklamemalgaaLib
namespace Go.Proofs.Ytdapklamemalgaa
set_option linter.unusedVariables false
set_option linter.unusedSimpArgs false

/-- words rise -/
def Rising (l : List ByteArray) : Prop := l.Pairwise (fun a b => lessS a b = true)
/-- .. as a Bool -/
def riseB : List ByteArray → Bool
  | [] => true
  | x :: r => r.all (fun y => lessS x y) && riseB r
theorem riseB_iff : ∀ l : List ByteArray, riseB l = true ↔ Rising l
  | [] => by simp [riseB, Rising]
  | x :: r => by
    have ih := riseB_iff r
    unfold Rising at *
    simp [riseB, ih]
/-- a word laid among words that rise -/
def insS (x : ByteArray) : List ByteArray → List ByteArray
  | [] => [x]
  | y :: r => if lessS x y = true then x :: y :: r else if x = y then y :: r else y :: insS x r
/-- words put right: rising, each once -/
def rightS (l : List ByteArray) : List ByteArray := l.foldr insS []
theorem mem_ins (x z : ByteArray) : ∀ l : List ByteArray, z ∈ insS x l ↔ z = x ∨ z ∈ l
  | [] => by simp [insS]
  | y :: r => by
    unfold insS
    split
    · simp
    · split
      · rename_i h; subst h; simp
      · have ih := mem_ins x z r
        simp only [List.mem_cons, ih]
        constructor
        · rintro (h | h | h) <;> simp [h]
        · rintro (h | h | h) <;> simp [h]
theorem rising_ins (x : ByteArray) : ∀ l : List ByteArray, Rising l → Rising (insS x l)
  | [], _ => by simp [insS, Rising]
  | y :: r, h => by
    have h' := h
    unfold Rising at h
    rw [List.pairwise_cons] at h
    unfold insS
    split
    · rename_i hx
      unfold Rising
      rw [List.pairwise_cons]
      refine ⟨fun z hz => ?_, h'⟩
      rcases List.mem_cons.1 hz with rfl | hz
      · exact hx
      · exact lessS_trans hx (h.1 z hz)
    · rename_i hx
      split
      · exact h'
      · rename_i hne
        unfold Rising
        rw [List.pairwise_cons]
        refine ⟨fun z hz => ?_, rising_ins x r h.2⟩
        rcases (mem_ins x z r).1 hz with rfl | hz
        · exact lessS_total hne (by simpa using hx)
        · exact h.1 z hz
theorem mem_right (z : ByteArray) : ∀ l : List ByteArray, z ∈ rightS l ↔ z ∈ l
  | [] => by simp [rightS]
  | y :: r => by
    have ih := mem_right z r
    show z ∈ insS y (rightS r) ↔ _
    rw [mem_ins, ih, List.mem_cons]
theorem rising_right : ∀ l : List ByteArray, Rising (rightS l)
  | [] => by simp [rightS, Rising]
  | y :: r => rising_ins y _ (rising_right r)
theorem Rising.tail {x : ByteArray} {r : List ByteArray} (h : Rising (x :: r)) : Rising r := by
  unfold Rising at *; exact (List.pairwise_cons.1 h).2
theorem Rising.head {x : ByteArray} {r : List ByteArray} (h : Rising (x :: r)) : ∀ z ∈ r, lessS x z = true := by
  unfold Rising at *; exact (List.pairwise_cons.1 h).1
theorem Rising.fresh {x : ByteArray} {r : List ByteArray} (h : Rising (x :: r)) : ¬ x ∈ r := fun hm => by
  have := h.head x hm; rw [lessS_same] at this; cases this
/-- words that rise are known by what is among them -/
theorem rising_ext : ∀ {l m : List ByteArray}, Rising l → Rising m → (∀ z, z ∈ l ↔ z ∈ m) → l = m
  | [], [], _, _, _ => rfl
  | [], y :: r, _, _, h => by have := (h y).2 (by simp); simp at this
  | x :: r, [], _, _, h => by have := (h x).1 (by simp); simp at this
  | x :: r, y :: s, hl, hm, h => by
    have hxy : x = y := by
      rcases List.mem_cons.1 ((h x).1 (by simp)) with e | hx
      · exact e
      · rcases List.mem_cons.1 ((h y).2 (by simp)) with e | hy
        · exact e.symm
        · have a := hl.head y hy
          have b := hm.head x hx
          rw [lessS_asym a] at b; cases b
    subst hxy
    rw [rising_ext hl.tail hm.tail (fun z => ?_)]
    constructor
    · intro hz
      rcases List.mem_cons.1 ((h z).1 (by simp [hz])) with rfl | h2
      · exact absurd hz hl.fresh
      · exact h2
    · intro hz
      rcases List.mem_cons.1 ((h z).2 (by simp [hz])) with rfl | h2
      · exact absurd hz hm.fresh
      · exact h2
theorem right_self {l : List ByteArray} (h : Rising l) : rightS l = l := rising_ext (rising_right l) h (fun z => mem_right z l)
theorem right_same {l m : List ByteArray} (h : ∀ z, z ∈ l ↔ z ∈ m) : rightS l = rightS m :=
  rising_ext (rising_right l) (rising_right m) (fun z => by rw [mem_right, mem_right, h z])
theorem rising_steps : ∀ {l : List ByteArray}, (∀ i x y, l[i]? = some x → l[i + 1]? = some y → lessS x y = true) → Rising l
  | [], _ => by simp [Rising]
  | [x], _ => by simp [Rising]
  | x :: y :: r, h => by
    have ih : Rising (y :: r) := rising_steps (fun i a b ha hb => h (i + 1) a b (by simpa using ha) (by simpa using hb))
    have hxy := h 0 x y rfl rfl
    unfold Rising
    rw [List.pairwise_cons]
    refine ⟨fun z hz => ?_, ih⟩
    rcases List.mem_cons.1 hz with rfl | hz
    · exact hxy
    · exact lessS_trans hxy (ih.head z hz)
theorem rising_at {l : List ByteArray} (h : Rising l) {i j : Nat} {x y : ByteArray} (hij : i < j) (hx : l[i]? = some x) (hy : l[j]? = some y) : lessS x y = true := by
  obtain ⟨h1, rfl⟩ := List.getElem?_eq_some_iff.1 hx
  obtain ⟨h2, rfl⟩ := List.getElem?_eq_some_iff.1 hy
  exact List.pairwise_iff_getElem.1 h i j h1 h2 hij
theorem ins_length (x : ByteArray) : ∀ l : List ByteArray, (insS x l).length ≤ l.length + 1
  | [] => by simp [insS]
  | y :: r => by
    have ih := ins_length x r
    unfold insS
    split
    · simp
    · split
      · simp
      · simp; omega
theorem right_length : ∀ l : List ByteArray, (rightS l).length ≤ l.length
  | [] => by simp [rightS]
  | y :: r => by
    have ih := right_length r
    have := ins_length y (rightS r)
    show (insS y (rightS r)).length ≤ _
    simp; omega
theorem right_small {n : Nat} {l : List ByteArray} (h : Small n l) : Small n (rightS l) := fun s hs => h s ((mem_right s l).1 hs)
/-- a set may be -/
def mayL (l : List ByteArray) : Bool := decide (1 ≤ l.length ∧ l.length ≤ 16) && (l.all mayS && riseB l)
theorem mayL_iff {l : List ByteArray} : mayL l = true ↔ (1 ≤ l.length ∧ l.length ≤ 16) ∧ (∀ x ∈ l, mayS x = true) ∧ Rising l := by
  unfold mayL
  simp only [Bool.and_eq_true, decide_eq_true_eq, List.all_eq_true, riseB_iff]
/-- the first k words are as a set's -/
def Upto (l : List ByteArray) (k : Nat) : Prop := ∀ j x, j < k → l[j]? = some x → mayS x = true ∧ ∀ i y, j = i + 1 → l[i]? = some y → lessS y x = true
theorem mayL_all {l : List ByteArray} (h1 : 1 ≤ l.length) (h2 : l.length ≤ 16) (h : Upto l l.length) : mayL l = true := by
  refine mayL_iff.2 ⟨⟨h1, h2⟩, fun x hx => ?_, rising_steps fun i x y hx hy => ?_⟩
  · obtain ⟨i, hi⟩ := List.mem_iff_getElem?.1 hx
    exact (h i x (List.getElem?_eq_some_iff.1 hi).1 hi).1
  · exact (h (i + 1) y (List.getElem?_eq_some_iff.1 hy).1 hy).2 i x rfl hx
theorem mayL_bad {l : List ByteArray} {k : Nat} {x : ByteArray} (hx : l[k]? = some x) (h : mayS x = false) : mayL l = false := by
  cases e : mayL l
  · rfl
  · have := (mayL_iff.1 e).2.1 x (List.mem_of_getElem? hx)
    rw [h] at this; cases this
theorem mayL_fall {l : List ByteArray} {k : Nat} {x y : ByteArray} (hy : l[k]? = some y) (hx : l[k + 1]? = some x) (h : lessS y x = false) : mayL l = false := by
  cases e : mayL l
  · rfl
  · have := rising_at (mayL_iff.1 e).2.2 (Nat.lt_succ_self k) hy hx
    rw [h] at this; cases this
theorem mayL_count {l : List ByteArray} (h : l.length = 0 ∨ 16 < l.length) : mayL l = false := by
  unfold mayL
  have : decide (1 ≤ l.length ∧ l.length ≤ 16) = false := by simp; omega
  rw [this]; rfl
theorem Upto.step {l : List ByteArray} {k : Nat} {x : ByteArray} (h : Upto l k) (hx : l[k]? = some x) (h1 : mayS x = true) (h2 : ∀ i y, k = i + 1 → l[i]? = some y → lessS y x = true) : Upto l (k + 1) := by
  intro j z hj hz
  rcases Nat.lt_or_ge j k with hlt | hge
  · exact h j z hlt hz
  · obtain rfl : j = k := by omega
    rw [hx] at hz; cases hz
    exact ⟨h1, h2⟩
/-- how many there are is looked at -/
def boundL (s : List ByteArray) : List ByteArray × Int := if s.length = 0 ∨ 16 < s.length then ([], 3) else (s, 0)
/-- Of -/
def ofL (l : List ByteArray) : List ByteArray × Int := if l.all mayS = false then ([], 2) else boundL (rightS l)
/-- And -/
def andL (a b : List ByteArray) : List ByteArray × Int := if (mayL a && mayL b) = false then ([], 2) else boundL (rightS (a ++ b))
/-- each of a, each of b behind it -/
def crossL (a b : List ByteArray) : List ByteArray := a.flatMap (fun x => b.map (fun y => x ++ y))
/-- one of them is too long -/
def longB (l : List ByteArray) : Bool := l.any (fun x => decide (16 < x.size))
/-- Quote -/
def quoteL (a b : List ByteArray) : List ByteArray × Int := if (mayL a && mayL b) = false then ([], 2) else if longB (crossL a b) = true then ([], 4) else boundL (rightS (crossL a b))
/-- As -/
def asL (a : List ByteArray) (r : Int) : List ByteArray × Int := if mayL a = false then ([], 2) else if decide (r / 8192 = 5) = false then ([], 1) else quoteL a [ofS [r]]
/-- For -/
def forL (a b : List ByteArray) : List ByteArray × Int :=
  if decide ((quoteL a b).2 = 0) = false then ([], (quoteL a b).2) else if decide ((quoteL [ofS [1]] b).2 = 0) = false then ([], (quoteL [ofS [1]] b).2) else andL (quoteL a b).1 (quoteL [ofS [1]] b).1
/-- Has -/
def hasL (s : List ByteArray) (x : ByteArray) : Bool := s.any (fun y => decide (y = x))
theorem hasL_iff {s : List ByteArray} {x : ByteArray} : hasL s x = true ↔ x ∈ s := by
  unfold hasL
  simp
/-- Within -/
def withinL (a b : List ByteArray) : Bool := a.all (fun x => hasL b x)
theorem withinL_iff {a b : List ByteArray} : withinL a b = true ↔ ∀ x ∈ a, x ∈ b := by
  unfold withinL
  simp only [List.all_eq_true, hasL_iff]
/-- Same -/
def sameL (a b : List ByteArray) : Bool := withinL a b && withinL b a
/-- Heavy -/
def heavyL (s : List ByteArray) : Nat := (s.map (fun x => x.size / 2)).foldl Nat.max 0
theorem mayS_size {x : ByteArray} (h : mayS x = true) : x.size % 2 = 0 ∧ 2 ≤ x.size ∧ x.size ≤ 16 ∧ tornB x = false := by
  unfold mayS at h
  simp only [Bool.and_eq_true, Bool.not_eq_true', decide_eq_true_eq] at h
  have := tornB_false h.1
  exact ⟨this, by omega, by omega, h.1⟩
/-- two words that may be, laid together, may be if that isn't too long -/
theorem mayS_append {x y : ByteArray} (hx : mayS x = true) (hy : mayS y = true) (h : x.size + y.size ≤ 16) : mayS (x ++ y) = true := by
  have sx := mayS_size hx
  have sy := mayS_size hy
  unfold mayS at *
  simp only [Bool.and_eq_true, Bool.not_eq_true', decide_eq_true_eq] at *
  have hs : (x ++ y).size = x.size + y.size := by simp
  refine ⟨torn_append hx.1 hy.1, by omega, ?_⟩
  rw [bs_append, atoms_append _ _ (by rw [bs_len]; omega), List.all_append, hx.2.2, hy.2.2]
  rfl
theorem cross_mem {a b : List ByteArray} {z : ByteArray} : z ∈ crossL a b ↔ ∃ x ∈ a, ∃ y ∈ b, z = x ++ y := by
  unfold crossL
  simp only [List.mem_flatMap, List.mem_map]
  constructor
  · rintro ⟨x, hx, y, hy, rfl⟩; exact ⟨x, hx, y, hy, rfl⟩
  · rintro ⟨x, hx, y, hy, rfl⟩; exact ⟨x, hx, y, hy, rfl⟩
theorem cross_len (a b : List ByteArray) : (crossL a b).length = a.length * b.length := by
  induction a with
  | nil => simp [crossL]
  | cons x r ih =>
    have : crossL (x :: r) b = b.map (fun y => x ++ y) ++ crossL r b := by simp [crossL]
    rw [this, List.length_append, ih, List.length_map, List.length_cons, Nat.add_mul, Nat.one_mul, Nat.add_comm]
theorem longB_false {l : List ByteArray} (h : longB l = false) : ∀ z ∈ l, z.size ≤ 16 := by
  intro z hz
  unfold longB at h
  rw [List.any_eq_false] at h
  have := h z hz
  simpa using this
theorem mayL_and {a b : List ByteArray} (h : (mayL a && mayL b) = true) : mayL a = true ∧ mayL b = true := by simpa using h
theorem all_append {a b : List ByteArray} (ha : mayL a = true) (hb : mayL b = true) : (a ++ b).all mayS = true := by
  rw [List.all_append, List.all_eq_true.2 (mayL_iff.1 ha).2.1, List.all_eq_true.2 (mayL_iff.1 hb).2.1]; rfl
theorem all_cross {a b : List ByteArray} (ha : mayL a = true) (hb : mayL b = true) (h : longB (crossL a b) = false) : (crossL a b).all mayS = true := by
  rw [List.all_eq_true]
  intro z hz
  have hz' := longB_false h z hz
  obtain ⟨x, hx, y, hy, rfl⟩ := cross_mem.1 hz
  exact mayS_append ((mayL_iff.1 ha).2.1 x hx) ((mayL_iff.1 hb).2.1 y hy) (by simpa using hz')
theorem of_and {a b : List ByteArray} (h : (mayL a && mayL b) = true) : ofL (a ++ b) = andL a b := by
  have hh := mayL_and h
  unfold ofL andL
  rw [if_neg (by rw [all_append hh.1 hh.2]; simp), if_neg (by simp [h])]
theorem of_cross {a b : List ByteArray} (h : (mayL a && mayL b) = true) (h2 : longB (crossL a b) = false) : ofL (crossL a b) = quoteL a b := by
  have hh := mayL_and h
  unfold ofL quoteL
  rw [if_neg (by rw [all_cross hh.1 hh.2 h2]; simp), if_neg (by simp [h]), if_neg (by simp [h2])]
theorem cat_two {x y : ByteArray} (hx : mayS x = true) (hy : mayS y = true) : catS [x, y] = if 16 < (x ++ y).size then (⟨#[]⟩, 4) else (x ++ y, 0) := by
  have tx := (mayS_size hx).2.2.2
  have ty := (mayS_size hy).2.2.2
  have ht : [x, y].any tornB = false := by simp [tx, ty]
  have hs : (flatS [x, y]).length = (x ++ y).size := by rw [len2]; simp
  by_cases h : 16 < (x ++ y).size
  · rw [if_pos h, catS_large ht (by omega)]
  · rw [if_neg h, catS_ok ht (by omega), flat2]
end Go.Proofs.Ytdapklamemalgaa
