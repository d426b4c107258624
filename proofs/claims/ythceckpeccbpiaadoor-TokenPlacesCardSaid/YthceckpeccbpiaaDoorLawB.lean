/- Contracts and lemmas: LawB -/
import Derived.Test.YthceckpeccbpiaaDoorLawA
namespace Go.Proofs.YthceckpeccbpiaaDoor
set_option linter.unusedVariables false
set_option linter.unusedSimpArgs false
open Go.RowKit Go.ChangeShapes Go.WideShapes
/-- too many, or a name too long -/
def largeT (l : List TokB) : Bool := decide (1100 < l.length) || l.any fun t => decide (100 < t.name.size)
set_option maxHeartbeats 1000000 in
theorem klarge_any {w : World} {v : Value} {l : List TokB} (h : ReadsT w v l) (hl : (l.length : Int) ≤ 9223372036854775807) :
    Calls Tryd.prog 13 #[v] w fun e w' => e = .returned (.bool (largeT l)) ∧ w = w' := by
  obtain ⟨ao, c, rfl, _, hc⟩ := h
  have HC := Lib.hid hc
  clear hc
  have HB : Hid (∀ (k : Nat) (t : TokB), l.length ≤ 1100 → l[k]? = some t → 100 < t.name.size → largeT l = true) := Lib.hid (fun k t h1 h2 h3 => by
    unfold largeT
    have : (l.any fun t => decide (100 < t.name.size)) = true := List.any_eq_true.2 ⟨t, List.mem_of_getElem? h2, by simpa using h3⟩
    rw [this]; simp)
  have HG : Hid (l.length ≤ 1100 → (∀ (k : Nat) (t : TokB), k < l.length → l[k]? = some t → ¬ 100 < t.name.size) → largeT l = false) := Lib.hid (fun h1 h2 => by
    unfold largeT
    have : (l.any fun t => decide (100 < t.name.size)) = false := by
      rw [List.any_eq_false]
      intro t ht
      obtain ⟨k, hk⟩ := List.mem_iff_getElem?.1 ht
      have := h2 k t (List.getElem?_eq_some_iff.1 hk).1 hk
      simpa using this
    rw [this, show decide (1100 < l.length) = false by simp; omega]; rfl)
  generalize hn : l.length = n at *
  have HN := Lib.hid hn
  clear hn
  by_cases h1 : 1100 < n
  · have h1i : (1100 : Int) < n := by omega
    have HA : Hid (largeT l = true) := Lib.hid (by unfold largeT; rw [HN.out, decide_eq_true h1]; rfl)
    clear h1
    go_enter Tryd.func13, Tryd.ntmps13
    go_wp2
    go_ret
    exact ⟨ret_bool HA.out.symm, rfl⟩
  · have h1i : ¬ (1100 : Int) < n := by omega
    go_enter Tryd.func13, Tryd.ntmps13
    go_wp2
    go_loop [9] (fun i => ∃ k : Nat, i = .int .i64 k ∧ k ≤ n ∧ Hid (∀ (j : Nat) (t : TokB), j < k → l[j]? = some t → ¬ 100 < t.name.size)) (fun i => n - (intOf i).toNat)
    case atStart => exact ⟨0, rfl, by omega, Lib.hid (fun j t h => by omega)⟩
    case round =>
      obtain ⟨k, rfl, hk, hall⟩ := hrel
      by_cases hlt : k < n
      · have hlti : (k : Int) < n := by omega
        obtain ⟨t, ht⟩ : ∃ t, l[k]? = some t := ⟨_, List.getElem?_eq_getElem (by have := HN.out; omega)⟩
        obtain ⟨g, off, rfl, d0, d1, d2, d3⟩ := HC.out k t ht
        by_cases hs : 100 < t.name.size
        · have hsi : (100 : Int) < (t.name.size : Int) := by omega
          have HA := Lib.hid (HB.out k t (by omega) ht hs)
          clear hs ht
          go_wp2
          go_ret
          exact ⟨ret_bool HA.out.symm, rfl⟩
        · have hsi : ¬ (100 : Int) < (t.name.size : Int) := by omega
          have HA : Hid (∀ (j : Nat) (t : TokB), j < k + 1 → l[j]? = some t → ¬ 100 < t.name.size) := Lib.hid (fun j t' hj h2 => by
            rcases Nat.lt_or_ge j k with h3 | h3
            · exact hall.out j t' h3 h2
            · obtain rfl : j = k := by omega
              rw [ht] at h2; cases h2; exact hs)
          clear hs ht
          go_wp2
          go_round
          case rel => exact ⟨k + 1, by go_num, by omega, HA⟩
          case measure => simp [intOf]; omega
      · have hlti : ¬ (k : Int) < n := by omega
        have HA := Lib.hid (HG.out (by omega) (fun j t h2 h3 => hall.out j t (by omega) h3))
        go_wp2
        go_ret
        exact ⟨ret_bool HA.out.symm, rfl⟩
/-- what All tells: the tokens, the place, the error -/
def AllIs (l : List UInt8) (m : List (Tok × Nat)) (p : Nat) (q : Int) : Prop := (allS l = .ok m ∧ p = 0 ∧ q = 0) ∨ (allS l = .error (p, q) ∧ m = [])
def toB (m : List (Tok × Nat)) : List TokB := m.map fun x => ⟨x.1.kind, strOf x.1.name, x.1.of, x.2⟩
theorem AllIs.unique {l : List UInt8} {m m' : List (Tok × Nat)} {p p' : Nat} {q q' : Int} (h : AllIs l m p q) (h' : AllIs l m' p' q') : m = m' ∧ p = p' ∧ q = q' := by
  rcases h with ⟨h1, rfl, rfl⟩ | ⟨h1, rfl⟩ <;> rcases h' with ⟨h2, rfl, rfl⟩ | ⟨h2, rfl⟩ <;> rw [h1] at h2 <;> cases h2 <;> exact ⟨rfl, rfl, rfl⟩
theorem tokCells_get : ∀ (m : List (Tok × Nat)) (i : Nat) (x : Tok × Nat), m[i]? = some x → (tokCells m)[i * 4]? = some (.int .i64 x.1.kind) ∧ (tokCells m)[i * 4 + 1]? = some (.string (strOf x.1.name)) ∧ (tokCells m)[i * 4 + 2]? = some (.int .i64 x.1.of) ∧ (tokCells m)[i * 4 + 3]? = some (.int .i64 (x.2 : Int))
  | [], i, x, h => by simp at h
  | y :: m, 0, x, h => by
    simp at h
    subst h
    exact ⟨rfl, rfl, rfl, rfl⟩
  | y :: m, i + 1, x, h => by
    have ih := tokCells_get m i x (by simpa using h)
    have e : ∀ j, (tokCells (y :: m))[(i + 1) * 4 + j]? = (tokCells m)[i * 4 + j]? := fun j => by
      have : (i + 1) * 4 + j = (i * 4 + j) + 4 := by omega
      rw [this]
      rfl
    have e0 := e 0
    simp only [Nat.add_zero] at e0
    rw [e0, e 1, e 2, e 3]
    exact ih
theorem reads_nil (w : World) : ReadsT w (.slice none 0 0) [] := ⟨none, 0, rfl, Nat.le_refl _, fun i t h => by simp at h⟩
theorem part_reads {w wr : World} {m : List (Tok × Nat)} {v : Value} (h : AllPart w wr m v) : ReadsT wr v (toB m) := by
  have hlen : (toB m).length = m.length := by simp [toB]
  obtain ⟨h1, h2⟩ := h.1
  rcases h2 with ⟨rfl, h0⟩ | ⟨g, cap, cur, rfl, hb, h3⟩
  · have : m = [] := List.eq_nil_of_length_eq_zero h0
    subst this
    exact reads_nil _
  · obtain ⟨h4, h5, h6, h7, h8⟩ := h3
    have hcell : ∀ o y, (tokCells m)[o]? = some y → wr.cell? ⟨g, o, none⟩ = some y := by
      intro o y hy
      rw [cell_whole h4]
      rw [← h8, List.getElem?_take] at hy
      split at hy
      · simpa using hy
      · cases hy
    refine ⟨some ⟨g, 0, none⟩, cap, by rw [hlen], by rw [hlen]; exact h5, fun i t ht => ?_⟩
    unfold toB at ht
    rw [List.getElem?_map] at ht
    cases hm : m[i]? with
    | none => rw [hm] at ht; cases ht
    | some x =>
      rw [hm] at ht
      have ht2 : (⟨x.1.kind, strOf x.1.name, x.1.of, (x.2 : Int)⟩ : TokB) = t := by simpa using ht
      subst ht2
      obtain ⟨t0, t1, t2, t3⟩ := tokCells_get m i x hm
      refine ⟨g, 0, rfl, ?_, ?_, ?_, ?_⟩
      · rw [Nat.zero_add]; exact hcell _ _ t0
      · rw [Nat.zero_add]; exact hcell _ _ t1
      · rw [Nat.zero_add]; exact hcell _ _ t2
      · rw [Nat.zero_add]; exact hcell _ _ t3
theorem ReadsT.kept {w w' : World} {v : Value} {l : List TokB} (h : ReadsT w v l) (hk : Kept w w') : ReadsT w' v l := by
  obtain ⟨ao, c, h1, h2, h3⟩ := h
  refine ⟨ao, c, h1, h2, fun i t ht => ?_⟩
  obtain ⟨g, off, h4, c0, c1, c2, c3⟩ := h3 i t ht
  exact ⟨g, off, h4, hk.cell c0 (fun x => x), hk.cell c1 (fun x => x), hk.cell c2 (fun x => x), hk.cell c3 (fun x => x)⟩
theorem ReadsT.form {w : World} {v : Value} {l : List TokB} (h : ReadsT w v l) : ∃ ao c, v = .slice ao l.length c ∧ l.length ≤ c := by
  obtain ⟨ao, c, h1, h2, _⟩ := h
  exact ⟨ao, c, h1, h2⟩
def AllR (l : List UInt8) (w : World) (e : Ending) (w' : World) : Prop :=
  ∃ v m, ∃ (p : Nat) (q : Int), e = .returned (.tuple #[v, .int .i64 p, .int .i64 q]) ∧ ReadsT w' v (toB m) ∧ Kept w w' ∧ AllIs l m p q
theorem all_r {l : List UInt8} {w w' : World} {e : Ending} (h : AllPost l w e w') : AllR l w e w' := by
  unfold AllPost at h
  cases hs : allS l with
  | error x =>
    rw [hs] at h
    exact ⟨_, [], x.1, x.2, h.1, reads_nil _, h.2, .inr ⟨hs, rfl⟩⟩
  | ok m =>
    rw [hs] at h
    obtain ⟨v, h1, h2⟩ := h
    exact ⟨v, m, 0, 0, h1, part_reads h2, h2.2, .inl ⟨hs, rfl, rfl⟩⟩
theorem kallR (s : ByteArray) (w : World) (hs : s.size ≤ 1000000) (hL : LaidT w) : Calls Tryd.prog 10 #[.string s] w (AllR (bs s) w) := (kall_any s w hs hL).mono fun _ _ h => all_r h
theorem rallR (s : ByteArray) (w : World) (hs : s.size ≤ 1000000) : Calls Tryd.prog 11 #[.string s] w (AllR (bs s) w) := (rall_any s w hs).mono fun _ _ h => all_r h
theorem toB_tok (m : List (Tok × Nat)) : (toB m).map TokB.tok = m.map (·.1) := by
  unfold toB TokB.tok
  rw [List.map_map]
  apply List.map_congr_left
  intro x _
  show (⟨x.1.kind, bs (strOf x.1.name), x.1.of⟩ : Tok) = x.1
  rw [bs_strOf]
theorem word_name {t : Tok} (h : wordS t ≠ []) : t.name.length ≤ (wordS t).length := by
  unfold wordS at *
  split
  · rename_i h1
    rw [if_pos h1] at h
    split
    · rename_i h2; rw [h2.2]; exact Nat.le_refl _
    · rename_i h2
      rw [if_neg h2] at h
      split
      · rw [List.length_append]; omega
      · rename_i h3; rw [if_neg h3] at h; exact absurd rfl h
  · rename_i h1
    rw [if_neg h1] at h
    split
    · rename_i h2
      rw [if_pos h2] at h
      split
      · exact Nat.le_refl _
      · rename_i h3; rw [if_neg h3] at h; exact absurd rfl h
    · rename_i h2
      rw [if_neg h2] at h
      split
      · rename_i h3
        rw [if_pos h3] at h
        split
        · exact Nat.le_refl _
        · rename_i h4; rw [if_neg h4] at h; exact absurd rfl h
      · rename_i h3
        rw [if_neg h3] at h
        split
        · rename_i h4; rw [h4.1]; simp
        · rename_i h4; rw [if_neg h4] at h; exact absurd rfl h
theorem AllIs.toks {l : List UInt8} {m : List (Tok × Nat)} {p : Nat} {q : Int} (h : AllIs l m p q) : m.length ≤ 1000 ∧ ∀ t ∈ toB m, wordS t.tok ≠ [] ∧ t.name.size ≤ 40 := by
  have key : ∀ x ∈ m, wordS x.1 ≠ [] := by
    rcases h with ⟨h1, _, _⟩ | ⟨_, rfl⟩
    · obtain ⟨⟨nt, hr⟩, h2, h3⟩ := all_run h1
      obtain ⟨_, _, s3⟩ := run_sum m false nt 0 l hr
      exact fun x hx => s3 x.1 (List.mem_map.2 ⟨x, hx, rfl⟩)
    · intro x hx; cases hx
  refine ⟨?_, ?_⟩
  · rcases h with ⟨h1, _, _⟩ | ⟨_, rfl⟩
    · exact (all_run h1).2.1
    · simp
  · intro t ht
    unfold toB at ht
    obtain ⟨x, hx, rfl⟩ := List.mem_map.1 ht
    have h1 := key x hx
    have h2 := word_name h1
    have h3 := word_len x.1
    refine ⟨?_, by rw [strOf_size]; omega⟩
    unfold TokB.tok
    rw [bs_strOf]
    exact h1

end Go.Proofs.YthceckpeccbpiaaDoor
