/- Contracts and lemmas: La -/
import Derived.Test.YtdapdpmplbifdaaDoorLib
import Derived.Laws.RangeAny
namespace Go.Proofs.YtdapdpmplbifdaaDoor
set_option linter.unusedVariables false
set_option linter.unusedSimpArgs false
open Go.RowKit Go.ChangeShapes Go.WideShapes
/-- how the tokens are written that are always written in one way -/
def fixL (k : Nat) : List UInt8 := if k = 2 then [97, 110, 100] else if k = 3 then [102, 111, 114] else if k = 4 then [124] else if k = 5 then [97, 115] else if k = 6 then [40] else if k = 7 then [41] else []
/-- the two tables of the package lie there -/
structure LaidT (w : World) : Prop where
  pre : ∀ k : Nat, k < 6 → w.cell? ⟨0, k, none⟩ = some (.string (strOf (tPre k)))
  fix : ∀ k : Nat, k < 8 → w.cell? ⟨1, k, none⟩ = some (.string (strOf (fixL k)))
theorem LaidT.kept {w w' : World} (h : LaidT w) (hk : Kept w w') : LaidT w' := ⟨fun k h1 => hk.cell (h.pre k h1) (fun x => x), fun k h1 => hk.cell (h.fix k h1) (fun x => x)⟩

open Go.RowKit Go.ChangeShapes Go.WideShapes
/-- what All tells: the tokens, the place, the error -/
def AllIs (l : List UInt8) (m : List (Tok × Nat)) (p : Nat) (q : Int) : Prop := (allS l = .ok m ∧ p = 0 ∧ q = 0) ∨ (allS l = .error (p, q) ∧ m = [])
def toB (m : List (Tok × Nat)) : List TokB := m.map fun x => ⟨x.1.kind, strOf x.1.name, x.1.of, x.2⟩
theorem AllIs.unique {l : List UInt8} {m m' : List (Tok × Nat)} {p p' : Nat} {q q' : Int} (h : AllIs l m p q) (h' : AllIs l m' p' q') : m = m' ∧ p = p' ∧ q = q' := by
  rcases h with ⟨h1, rfl, rfl⟩ | ⟨h1, rfl⟩ <;> rcases h' with ⟨h2, rfl, rfl⟩ | ⟨h2, rfl⟩ <;> rw [h1] at h2 <;> cases h2 <;> exact ⟨rfl, rfl, rfl⟩
theorem tokCells_get : ∀ (m : List (Tok × Nat)) (i : Nat) (x : Tok × Nat), m[i]? = some x → (tokCells m)[i * 4]? = some (.int .i64 x.1.kind) ∧ (tokCells m)[i * 4 + 1]? = some (.string (strOf x.1.name)) ∧ (tokCells m)[i * 4 + 2]? = some (.int .i64 x.1.of) ∧ (tokCells m)[i * 4 + 3]? = some (.int .i64 (x.2 : Int))
  | [], i, x, h => by simp at h
  | y :: m, 0, x, h => by
    simp at h
    subst h
    exact ⟨rfl, rfl, rfl, rfl⟩
  | y :: m, i + 1, x, h => by
    have ih := tokCells_get m i x (by simpa using h)
    have e : ∀ j, (tokCells (y :: m))[(i + 1) * 4 + j]? = (tokCells m)[i * 4 + j]? := fun j => by
      have : (i + 1) * 4 + j = (i * 4 + j) + 4 := by omega
      rw [this]
      rfl
    have e0 := e 0
    simp only [Nat.add_zero] at e0
    rw [e0, e 1, e 2, e 3]
    exact ih
theorem reads_nil (w : World) : ReadsT w (.slice none 0 0) [] := ⟨none, 0, rfl, Nat.le_refl _, fun i t h => by simp at h⟩
theorem part_reads {w wr : World} {m : List (Tok × Nat)} {v : Value} (h : AllPart w wr m v) : ReadsT wr v (toB m) := by
  have hlen : (toB m).length = m.length := by simp [toB]
  obtain ⟨h1, h2⟩ := h.1
  rcases h2 with ⟨rfl, h0⟩ | ⟨g, cap, cur, rfl, hb, h3⟩
  · have : m = [] := List.eq_nil_of_length_eq_zero h0
    subst this
    exact reads_nil _
  · obtain ⟨h4, h5, h6, h7, h8⟩ := h3
    have hcell : ∀ o y, (tokCells m)[o]? = some y → wr.cell? ⟨g, o, none⟩ = some y := by
      intro o y hy
      rw [cell_whole h4]
      rw [← h8, List.getElem?_take] at hy
      split at hy
      · simpa using hy
      · cases hy
    refine ⟨some ⟨g, 0, none⟩, cap, by rw [hlen], by rw [hlen]; exact h5, fun i t ht => ?_⟩
    unfold toB at ht
    rw [List.getElem?_map] at ht
    cases hm : m[i]? with
    | none => rw [hm] at ht; cases ht
    | some x =>
      rw [hm] at ht
      have ht2 : (⟨x.1.kind, strOf x.1.name, x.1.of, (x.2 : Int)⟩ : TokB) = t := by simpa using ht
      subst ht2
      obtain ⟨t0, t1, t2, t3⟩ := tokCells_get m i x hm
      refine ⟨g, 0, rfl, ?_, ?_, ?_, ?_⟩
      · rw [Nat.zero_add]; exact hcell _ _ t0
      · rw [Nat.zero_add]; exact hcell _ _ t1
      · rw [Nat.zero_add]; exact hcell _ _ t2
      · rw [Nat.zero_add]; exact hcell _ _ t3
theorem ReadsT.kept {w w' : World} {v : Value} {l : List TokB} (h : ReadsT w v l) (hk : Kept w w') : ReadsT w' v l := by
  obtain ⟨ao, c, h1, h2, h3⟩ := h
  refine ⟨ao, c, h1, h2, fun i t ht => ?_⟩
  obtain ⟨g, off, h4, c0, c1, c2, c3⟩ := h3 i t ht
  exact ⟨g, off, h4, hk.cell c0 (fun x => x), hk.cell c1 (fun x => x), hk.cell c2 (fun x => x), hk.cell c3 (fun x => x)⟩
theorem ReadsT.form {w : World} {v : Value} {l : List TokB} (h : ReadsT w v l) : ∃ ao c, v = .slice ao l.length c ∧ l.length ≤ c := by
  obtain ⟨ao, c, h1, h2, _⟩ := h
  exact ⟨ao, c, h1, h2⟩
def AllR (l : List UInt8) (w : World) (e : Ending) (w' : World) : Prop :=
  ∃ v m, ∃ (p : Nat) (q : Int), e = .returned (.tuple #[v, .int .i64 p, .int .i64 q]) ∧ ReadsT w' v (toB m) ∧ Kept w w' ∧ AllIs l m p q
theorem all_r {l : List UInt8} {w w' : World} {e : Ending} (h : AllPost l w e w') : AllR l w e w' := by
  unfold AllPost at h
  cases hs : allS l with
  | error x =>
    rw [hs] at h
    exact ⟨_, [], x.1, x.2, h.1, reads_nil _, h.2, .inr ⟨hs, rfl⟩⟩
  | ok m =>
    rw [hs] at h
    obtain ⟨v, h1, h2⟩ := h
    exact ⟨v, m, 0, 0, h1, part_reads h2, h2.2, .inl ⟨hs, rfl, rfl⟩⟩
theorem rallR (s : ByteArray) (w : World) (hs : s.size ≤ 1000000) : Calls Tryd.prog 24 #[.string s] w (AllR (bs s) w) := (rall_any s w hs).mono fun _ _ h => all_r h
theorem toB_tok (m : List (Tok × Nat)) : (toB m).map TokB.tok = m.map (·.1) := by
  unfold toB TokB.tok
  rw [List.map_map]
  apply List.map_congr_left
  intro x _
  show (⟨x.1.kind, bs (strOf x.1.name), x.1.of⟩ : Tok) = x.1
  rw [bs_strOf]
theorem word_name {t : Tok} (h : wordS t ≠ []) : t.name.length ≤ (wordS t).length := by
  unfold wordS at *
  split
  · rename_i h1
    rw [if_pos h1] at h
    split
    · rename_i h2; rw [h2.2]; exact Nat.le_refl _
    · rename_i h2
      rw [if_neg h2] at h
      split
      · rw [List.length_append]; omega
      · rename_i h3; rw [if_neg h3] at h; exact absurd rfl h
  · rename_i h1
    rw [if_neg h1] at h
    split
    · rename_i h2
      rw [if_pos h2] at h
      split
      · exact Nat.le_refl _
      · rename_i h3; rw [if_neg h3] at h; exact absurd rfl h
    · rename_i h2
      rw [if_neg h2] at h
      split
      · rename_i h3
        rw [if_pos h3] at h
        split
        · exact Nat.le_refl _
        · rename_i h4; rw [if_neg h4] at h; exact absurd rfl h
      · rename_i h3
        rw [if_neg h3] at h
        split
        · rename_i h4; rw [h4.1]; simp
        · rename_i h4; rw [if_neg h4] at h; exact absurd rfl h
theorem AllIs.toks {l : List UInt8} {m : List (Tok × Nat)} {p : Nat} {q : Int} (h : AllIs l m p q) : m.length ≤ 1000 ∧ ∀ t ∈ toB m, wordS t.tok ≠ [] ∧ t.name.size ≤ 40 := by
  have key : ∀ x ∈ m, wordS x.1 ≠ [] := by
    rcases h with ⟨h1, _, _⟩ | ⟨_, rfl⟩
    · obtain ⟨⟨nt, hr⟩, h2, h3⟩ := all_run h1
      obtain ⟨_, _, s3⟩ := run_sum m false nt 0 l hr
      exact fun x hx => s3 x.1 (List.mem_map.2 ⟨x, hx, rfl⟩)
    · intro x hx; cases hx
  refine ⟨?_, ?_⟩
  · rcases h with ⟨h1, _, _⟩ | ⟨_, rfl⟩
    · exact (all_run h1).2.1
    · simp
  · intro t ht
    unfold toB at ht
    obtain ⟨x, hx, rfl⟩ := List.mem_map.1 ht
    have h1 := key x hx
    have h2 := word_name h1
    have h3 := word_len x.1
    refine ⟨?_, by rw [strOf_size]; omega⟩
    unfold TokB.tok
    rw [bs_strOf]
    exact h1
theorem kept_call1 {P : Program} {f : FuncId} {args : Array Value} {w : World} {v : Value} {p : KeptW w} (h : Calls P f args p.wd (KeptPost v p.wd)) : Calls P f args p.wd fun e w'' => e = .returned v ∧ ∃ p' : KeptW w, w'' = p'.wd :=
  h.mono fun _ w'' ⟨he, hk⟩ => ⟨he, ⟨w'', p.kept.trans hk⟩, rfl⟩
/-- the cells of tokens -/
def cellsB : List TokB → List Value
  | [] => []
  | t :: l => .int .i64 t.kind :: .string t.name :: .int .i64 t.of :: .int .i64 t.pos :: cellsB l
theorem cellsB_len : ∀ l, (cellsB l).length = l.length * 4
  | [] => rfl
  | t :: l => by simp [cellsB, cellsB_len l]; omega
theorem cellsB_get : ∀ (m : List TokB) (i : Nat) (x : TokB), m[i]? = some x → (cellsB m)[i * 4]? = some (.int .i64 x.kind) ∧ (cellsB m)[i * 4 + 1]? = some (.string x.name) ∧ (cellsB m)[i * 4 + 2]? = some (.int .i64 x.of) ∧ (cellsB m)[i * 4 + 3]? = some (.int .i64 x.pos)
  | [], i, x, h => by simp at h
  | y :: m, 0, x, h => by
    simp at h
    subst h
    exact ⟨rfl, rfl, rfl, rfl⟩
  | y :: m, i + 1, x, h => by
    have ih := cellsB_get m i x (by simpa using h)
    have e : ∀ j, (cellsB (y :: m))[(i + 1) * 4 + j]? = (cellsB m)[i * 4 + j]? := fun j => by
      have : (i + 1) * 4 + j = (i * 4 + j) + 4 := by omega
      rw [this]
      rfl
    have e0 := e 0
    simp only [Nat.add_zero] at e0
    rw [e0, e 1, e 2, e 3]
    exact ih
theorem cellsB_one : ∀ l, ∀ u ∈ cellsB l, u.oneCell' = true
  | [], u, h => by cases h
  | t :: l, u, h => by
    simp only [cellsB, List.mem_cons] at h
    rcases h with rfl | rfl | rfl | rfl | h
    · rfl
    · rfl
    · rfl
    · rfl
    · exact cellsB_one l u h
theorem cellsB_div {l : List TokB} {j : Nat} {u : Value} (h : (cellsB l)[j]? = some u) : ∃ i x, l[i]? = some x ∧ j = i * 4 + j % 4 := by
  have hj := (List.getElem?_eq_some_iff.1 h).1
  rw [cellsB_len] at hj
  have hi : j / 4 < l.length := by omega
  exact ⟨j / 4, _, List.getElem?_eq_getElem hi, by omega⟩
theorem addr_add (g off j : Nat) : (⟨g, off, none⟩ : Addr).add j = ⟨g, off + j, none⟩ := by unfold Addr.add; split <;> simp_all
theorem reads_src {P : Program} {w : World} {v : Value} {l : List TokB} (h : ReadsT w v l) {tx e' : TypeId} (hk : P.underlying tx = some (.slice e')) : Src P 4 tx v l.length (cellsB l) w := by
  obtain ⟨ao, c, rfl, hc, hx⟩ := h
  rcases l with _ | ⟨y, r⟩
  · refine ⟨.inl ⟨_, hk⟩, fun _ => rfl, ?_, ?_, rfl, fun _ h => by cases h⟩
    · cases ao <;> simp [Builtin.firstCells, loadCells, loadCellsFrom, cellsB]
    · cases ao <;> simp [Builtin.firstCells, loadCells, loadCellsFrom, cellsB]
  · obtain ⟨g, off, rfl, _⟩ := hx 0 y rfl
    refine Src.ofSlice w hk _ _ _ _ (by rw [cellsB_len]) (fun j u hj => ?_) (cellsB_one _)
    obtain ⟨i, x, hi, hji⟩ := cellsB_div hj
    obtain ⟨g', off', he, c0, c1, c2, c3⟩ := hx i x hi
    cases he
    rw [addr_add]
    obtain ⟨t0, t1, t2, t3⟩ := cellsB_get _ i x hi
    have hm : j % 4 = 0 ∨ j % 4 = 1 ∨ j % 4 = 2 ∨ j % 4 = 3 := by omega
    rcases hm with hm | hm | hm | hm <;> rw [hm] at hji
    · simp only [Nat.add_zero] at hji
      subst hji
      rw [t0] at hj; cases hj
      exact c0
    · subst hji
      rw [t1] at hj; cases hj
      exact c1
    · subst hji
      rw [t2] at hj; cases hj
      exact c2
    · subst hji
      rw [t3] at hj; cases hj
      exact c3
theorem own_reads {w : World} {base : Nat} {v : Value} {l : List TokB} (h : w.ownsRow base 31 4 v l.length (cellsB l)) : ReadsT w v l := by
  obtain ⟨h1, h2⟩ := h
  rcases h2 with ⟨rfl, h0⟩ | ⟨g, cap, cur, rfl, hb, h4, h5, h6, h7, h8⟩
  · have : l = [] := List.eq_nil_of_length_eq_zero h0
    subst this
    exact reads_nil _
  · have hcell : ∀ o y, (cellsB l)[o]? = some y → w.cell? ⟨g, o, none⟩ = some y := by
      intro o y hy
      rw [cell_whole h4]
      rw [← h8, List.getElem?_take] at hy
      split at hy
      · simpa using hy
      · cases hy
    refine ⟨some ⟨g, 0, none⟩, cap, rfl, h5, fun i t ht => ?_⟩
    obtain ⟨t0, t1, t2, t3⟩ := cellsB_get l i t ht
    refine ⟨g, 0, rfl, ?_, ?_, ?_, ?_⟩
    · rw [Nat.zero_add]; exact hcell _ _ t0
    · rw [Nat.zero_add]; exact hcell _ _ t1
    · rw [Nat.zero_add]; exact hcell _ _ t2
    · rw [Nat.zero_add]; exact hcell _ _ t3
theorem all_err {l : List UInt8} {p : Nat} {q : Int} (h : allS l = .error (p, q)) : q ≠ 0 := by
  unfold allS at h
  split at h
  · cases h; decide
  · obtain ⟨k, m, hw⟩ := go_wrong l.length false 0 0 l p q (Nat.le_refl _) (by omega) h
    rcases hw.what with ⟨rfl, _⟩ | ⟨rfl, _⟩ <;> decide
theorem text_len {l : List Tok} {x : List UInt8} {q : Int} (h : textS l = (x, q)) : x.length ≤ 4000 := by
  unfold textS at h
  split at h
  · cases h; simp
  · split at h
    · cases h; simp
    · split at h
      · cases h; simp
      · cases h; omega

end Go.Proofs.YtdapdpmplbifdaaDoor
