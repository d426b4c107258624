/- What follows for sets of words: order, brackets, quoting over And, acting for. -/
import Derived.Test.YtdapklamemalgaaMakes
namespace Go.Proofs.Ytdapklamemalgaa
set_option linter.unusedVariables false
set_option linter.unusedSimpArgs false
open Go.RowKit Go.ChangeShapes Go.WideShapes

theorem boundL_err {s x : List ByteArray} {e : Int} (h : boundL s = (x, e)) (he : e ≠ 0) : x = [] ∧ e = 3 := by
  unfold boundL at h
  split at h
  · cases h; exact ⟨rfl, rfl⟩
  · cases h; exact absurd rfl he
theorem boundL_zero {s x : List ByteArray} (h : boundL s = (x, 0)) : x = s ∧ 1 ≤ s.length ∧ s.length ≤ 16 := by
  unfold boundL at h
  split at h
  · cases h
  · cases h; exact ⟨rfl, by omega, by omega⟩
theorem andL_may {a b : List ByteArray} (ha : mayL a = true) (hb : mayL b = true) : andL a b = boundL (rightS (a ++ b)) := by
  unfold andL; rw [if_neg (by simp [ha, hb])]
theorem may_right {l : List ByteArray} (h : ∀ x ∈ l, mayS x = true) (h1 : 1 ≤ (rightS l).length) (h2 : (rightS l).length ≤ 16) : mayL (rightS l) = true :=
  mayL_iff.2 ⟨⟨h1, h2⟩, fun x hx => h x ((mem_right x l).1 hx), rising_right l⟩
theorem may_words {a : List ByteArray} (h : mayL a = true) : ∀ x ∈ a, mayS x = true := (mayL_iff.1 h).2.1
theorem may_both {a b : List ByteArray} (ha : mayL a = true) (hb : mayL b = true) : ∀ x ∈ a ++ b, mayS x = true := fun x hx => by
  rcases List.mem_append.1 hx with h | h
  · exact may_words ha x h
  · exact may_words hb x h
theorem and_zero {a b x : List ByteArray} (ha : mayL a = true) (hb : mayL b = true) (h : andL a b = (x, 0)) : x = rightS (a ++ b) ∧ mayL x = true := by
  rw [andL_may ha hb] at h
  obtain ⟨rfl, h1, h2⟩ := boundL_zero h
  exact ⟨rfl, may_right (may_both ha hb) h1 h2⟩
theorem and_err {a b x : List ByteArray} {e : Int} (ha : mayL a = true) (hb : mayL b = true) (h : andL a b = (x, e)) (he : e ≠ 0) : e = 3 := by
  rw [andL_may ha hb] at h
  exact (boundL_err h he).2
theorem and_self_of {a : List ByteArray} (ha : mayL a = true) : andL a a = (a, 0) := by
  rw [andL_may ha ha]
  have e1 : rightS (a ++ a) = a := by
    rw [right_same (m := a) (fun z => by simp)]
    exact right_self (mayL_iff.1 ha).2.2
  rw [e1]
  have := (mayL_iff.1 ha).1
  exact boundL_ok (by omega)
theorem and_comm_of {a b : List ByteArray} (ha : mayL a = true) (hb : mayL b = true) : andL a b = andL b a := by
  rw [andL_may ha hb, andL_may hb ha, right_same (l := a ++ b) (m := b ++ a) (fun z => by simp [or_comm])]
theorem and_assoc_of {a b c x y : List ByteArray} (ha : mayL a = true) (hb : mayL b = true) (hc : mayL c = true) (hx : andL a b = (x, 0)) (hy : andL b c = (y, 0)) : andL x c = andL a y := by
  obtain ⟨rfl, mx⟩ := and_zero ha hb hx
  obtain ⟨rfl, my⟩ := and_zero hb hc hy
  rw [andL_may mx hc, andL_may ha my, right_same (l := rightS (a ++ b) ++ c) (m := a ++ rightS (b ++ c)) (fun z => by simp [mem_right, or_assoc])]
theorem within_left {a b x : List ByteArray} (ha : mayL a = true) (hb : mayL b = true) (hx : andL a b = (x, 0)) : withinL a x = true ∧ withinL b x = true ∧ x.length ≤ a.length + b.length := by
  obtain ⟨rfl, mx⟩ := and_zero ha hb hx
  refine ⟨withinL_iff.2 fun z hz => (mem_right z _).2 (by simp [hz]), withinL_iff.2 fun z hz => (mem_right z _).2 (by simp [hz]), ?_⟩
  have := right_length (a ++ b)
  rwa [List.length_append] at this
theorem quoteL_may {a b : List ByteArray} (ha : mayL a = true) (hb : mayL b = true) : quoteL a b = if longB (crossL a b) = true then ([], 4) else boundL (rightS (crossL a b)) := by
  unfold quoteL; rw [if_neg (by simp [ha, hb])]
theorem quote_zero {a b x : List ByteArray} (ha : mayL a = true) (hb : mayL b = true) (h : quoteL a b = (x, 0)) : x = rightS (crossL a b) ∧ longB (crossL a b) = false ∧ mayL x = true := by
  rw [quoteL_may ha hb] at h
  split at h
  · cases h
  · rename_i hl
    have hl : longB (crossL a b) = false := by simpa using hl
    obtain ⟨rfl, h1, h2⟩ := boundL_zero h
    exact ⟨rfl, hl, may_right (List.all_eq_true.1 (all_cross ha hb hl)) h1 h2⟩
theorem longB_same {l m : List ByteArray} (h : ∀ z, z ∈ l ↔ z ∈ m) : longB l = longB m := by
  unfold longB
  rw [Bool.eq_iff_iff, List.any_eq_true, List.any_eq_true]
  constructor
  · rintro ⟨x, hx, hp⟩; exact ⟨x, (h x).1 hx, hp⟩
  · rintro ⟨x, hx, hp⟩; exact ⟨x, (h x).2 hx, hp⟩
theorem quote_same {a b c d : List ByteArray} (ha : mayL a = true) (hb : mayL b = true) (hc : mayL c = true) (hd : mayL d = true) (h : ∀ z, z ∈ crossL a b ↔ z ∈ crossL c d) : quoteL a b = quoteL c d := by
  rw [quoteL_may ha hb, quoteL_may hc hd, longB_same h, right_same h]
theorem quote_assoc_of {a b c x y : List ByteArray} (ha : mayL a = true) (hb : mayL b = true) (hc : mayL c = true) (hx : quoteL a b = (x, 0)) (hy : quoteL b c = (y, 0)) : quoteL x c = quoteL a y := by
  obtain ⟨rfl, _, mx⟩ := quote_zero ha hb hx
  obtain ⟨rfl, _, my⟩ := quote_zero hb hc hy
  refine quote_same mx hc ha my fun z => ?_
  rw [cross_mem, cross_mem]
  constructor
  · rintro ⟨p, hp, w, hw, rfl⟩
    obtain ⟨u, hu, v, hv, rfl⟩ := cross_mem.1 ((mem_right p _).1 hp)
    exact ⟨u, hu, v ++ w, (mem_right _ _).2 (cross_mem.2 ⟨v, hv, w, hw, rfl⟩), (app_assoc u v w).symm⟩
  · rintro ⟨u, hu, q, hq, rfl⟩
    obtain ⟨v, hv, w, hw, rfl⟩ := cross_mem.1 ((mem_right q _).1 hq)
    exact ⟨u ++ v, (mem_right _ _).2 (cross_mem.2 ⟨u, hu, v, hv, rfl⟩), w, hw, app_assoc u v w⟩
theorem quote_over {a b c x y z : List ByteArray} (ha : mayL a = true) (hb : mayL b = true) (hc : mayL c = true) (hx : quoteL a b = (x, 0)) (hy : quoteL a c = (y, 0)) (hz : andL b c = (z, 0)) : quoteL a z = andL x y := by
  obtain ⟨rfl, lx, mx⟩ := quote_zero ha hb hx
  obtain ⟨rfl, ly, my⟩ := quote_zero ha hc hy
  obtain ⟨rfl, mz⟩ := and_zero hb hc hz
  have hm : ∀ z, z ∈ crossL a (rightS (b ++ c)) ↔ z ∈ crossL a b ++ crossL a c := by
    intro z
    rw [List.mem_append, cross_mem, cross_mem, cross_mem]
    constructor
    · rintro ⟨u, hu, v, hv, rfl⟩
      rcases List.mem_append.1 ((mem_right v _).1 hv) with h | h
      · exact .inl ⟨u, hu, v, h, rfl⟩
      · exact .inr ⟨u, hu, v, h, rfl⟩
    · rintro (⟨u, hu, v, hv, rfl⟩ | ⟨u, hu, v, hv, rfl⟩)
      · exact ⟨u, hu, v, (mem_right v _).2 (by simp [hv]), rfl⟩
      · exact ⟨u, hu, v, (mem_right v _).2 (by simp [hv]), rfl⟩
  rw [quoteL_may ha mz, andL_may mx my, longB_same hm, longB_append, lx, ly, if_neg (by simp)]
  rw [right_same (l := crossL a (rightS (b ++ c))) (m := rightS (crossL a b) ++ rightS (crossL a c)) (fun z => by
    rw [hm z, List.mem_append, List.mem_append, mem_right, mem_right])]
theorem quoteL_err {a b x : List ByteArray} {e : Int} (h : quoteL a b = (x, e)) (he : e ≠ 0) : x = [] := by
  unfold quoteL at h
  split at h
  · cases h; rfl
  · split at h
    · cases h; rfl
    · exact (boundL_err h he).1
theorem andL_err {a b x : List ByteArray} {e : Int} (h : andL a b = (x, e)) (he : e ≠ 0) : x = [] := by
  unfold andL at h
  split at h
  · cases h; rfl
  · exact (boundL_err h he).1
theorem forL_err {a b x : List ByteArray} {e : Int} (h : forL a b = (x, e)) (he : e ≠ 0) : x = [] := by
  unfold forL at h
  split at h
  · cases h; rfl
  · split at h
    · cases h; rfl
    · exact andL_err h he
/-- the word of D -/
theorem may_d : mayL [ofS [1]] = true := by decide +kernel
/-- For that went well -/
structure ForOk (a b s q d : List ByteArray) : Prop where
  fq : quoteL a b = (q, 0)
  fd : quoteL [ofS [1]] b = (d, 0)
  all : andL q d = (s, 0)
  within : withinL q s = true
  count : s.length ≤ q.length + b.length
  has : ∀ y ∈ b, hasL s (ofS [1] ++ y) = true
theorem for_zero {a b s : List ByteArray} (ha : mayL a = true) (hb : mayL b = true) (h : forL a b = (s, 0)) : ∃ q d, ForOk a b s q d := by
  unfold forL at h
  split at h
  · rename_i h1
    exfalso
    have h2 := congrArg Prod.snd h
    simp only at h2
    rw [h2] at h1
    simp at h1
  · rename_i h1
    split at h
    · rename_i h2
      exfalso
      have h3 := congrArg Prod.snd h
      simp only at h3
      rw [h3] at h2
      simp at h2
    · rename_i h2
      obtain ⟨q, e1, hq⟩ : ∃ q e, quoteL a b = (q, e) := ⟨_, _, rfl⟩
      obtain ⟨d, e2, hd⟩ : ∃ d e, quoteL [ofS [1]] b = (d, e) := ⟨_, _, rfl⟩
      rw [hq] at h h1
      rw [hd] at h h2
      obtain rfl : e1 = 0 := by simpa using h1
      obtain rfl : e2 = 0 := by simpa using h2
      obtain ⟨eq, _, mq⟩ := quote_zero ha hb hq
      obtain ⟨ed, _, md⟩ := quote_zero may_d hb hd
      have hw := within_left mq md h
      refine ⟨q, d, hq, hd, h, hw.1, ?_, fun y hy => ?_⟩
      · have := right_length (crossL [ofS [1]] b)
        rw [← ed, cross_len, List.length_singleton] at this
        have := hw.2.2
        omega
      · refine hasL_iff.2 (withinL_iff.1 hw.2.1 _ ?_)
        rw [ed]
        exact (mem_right _ _).2 (cross_mem.2 ⟨ofS [1], by simp, y, hy, rfl⟩)
theorem of_same {l m : List ByteArray} (h : ∀ z, z ∈ l ↔ z ∈ m) : ofL l = ofL m := by
  unfold ofL
  have : l.all mayS = m.all mayS := by
    rw [Bool.eq_iff_iff, List.all_eq_true, List.all_eq_true]
    constructor
    · intro hl x hx; exact hl x ((h x).2 hx)
    · intro hl x hx; exact hl x ((h x).1 hx)
  rw [this, right_same h]
theorem of_zero {l x : List ByteArray} (h : ofL l = (x, 0)) : x = rightS l ∧ mayL x = true ∧ sameL x l = true := by
  unfold ofL at h
  split at h
  · cases h
  · rename_i ha
    have ha : l.all mayS = true := by simpa using ha
    obtain ⟨rfl, h1, h2⟩ := boundL_zero h
    refine ⟨rfl, may_right (List.all_eq_true.1 ha) h1 h2, ?_⟩
    unfold sameL
    rw [withinL_iff.2 (fun z hz => (mem_right z l).1 hz), withinL_iff.2 (fun z hz => (mem_right z l).2 hz)]
    rfl
theorem of_rising {l x : List ByteArray} {e : Int} (h : ofL l = (x, e)) : Rising x := by
  by_cases he : e = 0
  · subst he
    rw [(of_zero h).1]
    exact rising_right l
  · unfold ofL at h
    split at h
    · cases h; simp [Rising]
    · rw [(boundL_err h he).1]; simp [Rising]
end Go.Proofs.Ytdapklamemalgaa
