/- Contracts and lemmas: Mem -/
import Derived.Test.YtdapdpmplbifdaaDoorEx
namespace Go.Proofs.YtdapdpmplbifdaaDoor
set_option linter.unusedVariables false
set_option linter.unusedSimpArgs false
open Go.RowKit Go.ChangeShapes Go.WideShapes
/-- a term as it lies in memory -/
structure TrmB where
  op : Int
  of : Int
  name : ByteArray
def TrmB.tok (t : TrmB) : Tok := ⟨t.op, bs t.name, t.of⟩
/-- a slice of terms -/
def ReadsX (w : World) (v : Value) (l : List TrmB) : Prop :=
  ∃ ao c, v = .slice ao l.length c ∧ l.length ≤ c ∧ ∀ i t, l[i]? = some t → ∃ g off, ao = some ⟨g, off, none⟩ ∧ w.cell? ⟨g, off + i * 3, none⟩ = some (.int .i64 t.op) ∧ w.cell? ⟨g, off + i * 3 + 1, none⟩ = some (.int .i64 t.of) ∧ w.cell? ⟨g, off + i * 3 + 2, none⟩ = some (.string t.name)
theorem readsX_nil (w : World) : ReadsX w (.slice none 0 0) [] := ⟨none, 0, rfl, Nat.le_refl _, fun i t h => by simp at h⟩
theorem ReadsX.kept {w w' : World} {v : Value} {l : List TrmB} (h : ReadsX w v l) (hk : Kept w w') : ReadsX w' v l := by
  obtain ⟨ao, c, h1, h2, h3⟩ := h
  refine ⟨ao, c, h1, h2, fun i t ht => ?_⟩
  obtain ⟨g, off, h4, c0, c1, c2⟩ := h3 i t ht
  exact ⟨g, off, h4, hk.cell c0 (fun x => x), hk.cell c1 (fun x => x), hk.cell c2 (fun x => x)⟩
theorem ReadsX.form {w : World} {v : Value} {l : List TrmB} (h : ReadsX w v l) : ∃ ao c, v = .slice ao l.length c ∧ l.length ≤ c := by
  obtain ⟨ao, c, h1, h2, _⟩ := h
  exact ⟨ao, c, h1, h2⟩
/-- the cells of terms -/
def cellsX : List TrmB → List Value
  | [] => []
  | t :: l => .int .i64 t.op :: .int .i64 t.of :: .string t.name :: cellsX l
theorem cellsX_len : ∀ l, (cellsX l).length = l.length * 3
  | [] => rfl
  | t :: l => by simp [cellsX, cellsX_len l]; omega
theorem cellsX_append : ∀ l m : List TrmB, cellsX (l ++ m) = cellsX l ++ cellsX m
  | [], m => rfl
  | t :: l, m => by simp [cellsX, cellsX_append l m]
theorem cellsX_get : ∀ (m : List TrmB) (i : Nat) (x : TrmB), m[i]? = some x → (cellsX m)[i * 3]? = some (.int .i64 x.op) ∧ (cellsX m)[i * 3 + 1]? = some (.int .i64 x.of) ∧ (cellsX m)[i * 3 + 2]? = some (.string x.name)
  | [], i, x, h => by simp at h
  | y :: m, 0, x, h => by
    simp at h
    subst h
    exact ⟨rfl, rfl, rfl⟩
  | y :: m, i + 1, x, h => by
    have ih := cellsX_get m i x (by simpa using h)
    have e : ∀ j, (cellsX (y :: m))[(i + 1) * 3 + j]? = (cellsX m)[i * 3 + j]? := fun j => by
      have : (i + 1) * 3 + j = (i * 3 + j) + 3 := by omega
      rw [this]
      rfl
    have e0 := e 0
    simp only [Nat.add_zero] at e0
    rw [e0, e 1, e 2]
    exact ih
theorem cellsX_one : ∀ l, ∀ u ∈ cellsX l, u.oneCell' = true
  | [], u, h => by cases h
  | t :: l, u, h => by
    simp only [cellsX, List.mem_cons] at h
    rcases h with rfl | rfl | rfl | h
    · rfl
    · rfl
    · rfl
    · exact cellsX_one l u h
theorem cellsX_div {l : List TrmB} {j : Nat} {u : Value} (h : (cellsX l)[j]? = some u) : ∃ i x, l[i]? = some x ∧ j = i * 3 + j % 3 := by
  have hj := (List.getElem?_eq_some_iff.1 h).1
  rw [cellsX_len] at hj
  have hi : j / 3 < l.length := by omega
  exact ⟨j / 3, _, List.getElem?_eq_getElem hi, by omega⟩
theorem readsX_src {P : Program} {w : World} {v : Value} {l : List TrmB} (h : ReadsX w v l) {tx e' : TypeId} (hk : P.underlying tx = some (.slice e')) : Src P 3 tx v l.length (cellsX l) w := by
  obtain ⟨ao, c, rfl, hc, hx⟩ := h
  rcases l with _ | ⟨y, r⟩
  · refine ⟨.inl ⟨_, hk⟩, fun _ => rfl, ?_, ?_, rfl, fun _ h => by cases h⟩
    · cases ao <;> simp [Builtin.firstCells, loadCells, loadCellsFrom, cellsX]
    · cases ao <;> simp [Builtin.firstCells, loadCells, loadCellsFrom, cellsX]
  · obtain ⟨g, off, rfl, _⟩ := hx 0 y rfl
    refine Src.ofSlice w hk _ _ _ _ (by rw [cellsX_len]) (fun j u hj => ?_) (cellsX_one _)
    obtain ⟨i, x, hi, hji⟩ := cellsX_div hj
    obtain ⟨g', off', he, c0, c1, c2⟩ := hx i x hi
    cases he
    rw [addr_add]
    obtain ⟨t0, t1, t2⟩ := cellsX_get _ i x hi
    have hm : j % 3 = 0 ∨ j % 3 = 1 ∨ j % 3 = 2 := by omega
    rcases hm with hm | hm | hm <;> rw [hm] at hji
    · simp only [Nat.add_zero] at hji
      subst hji
      rw [t0] at hj; cases hj
      exact c0
    · subst hji
      rw [t1] at hj; cases hj
      exact c1
    · subst hji
      rw [t2] at hj; cases hj
      exact c2
theorem own_readsX {w : World} {base : Nat} {v : Value} {l : List TrmB} (h : w.ownsRow base 45 3 v l.length (cellsX l)) : ReadsX w v l := by
  obtain ⟨h1, h2⟩ := h
  rcases h2 with ⟨rfl, h0⟩ | ⟨g, cap, cur, rfl, hb, h4, h5, h6, h7, h8⟩
  · have : l = [] := List.eq_nil_of_length_eq_zero h0
    subst this
    exact readsX_nil _
  · have hcell : ∀ o y, (cellsX l)[o]? = some y → w.cell? ⟨g, o, none⟩ = some y := by
      intro o y hy
      rw [cell_whole h4]
      rw [← h8, List.getElem?_take] at hy
      split at hy
      · simpa using hy
      · cases hy
    refine ⟨some ⟨g, 0, none⟩, cap, rfl, h5, fun i t ht => ?_⟩
    obtain ⟨t0, t1, t2⟩ := cellsX_get l i t ht
    refine ⟨g, 0, rfl, ?_, ?_, ?_⟩
    · rw [Nat.zero_add]; exact hcell _ _ t0
    · rw [Nat.zero_add]; exact hcell _ _ t1
    · rw [Nat.zero_add]; exact hcell _ _ t2
def toX (x : List Tok) : List TrmB := x.map fun t => ⟨t.kind, t.of, strOf t.name⟩
theorem toX_tok (x : List Tok) : (toX x).map TrmB.tok = x := by
  unfold toX
  rw [List.map_map]
  conv => rhs; rw [← List.map_id x]
  apply List.map_congr_left
  intro t _
  show (⟨t.kind, bs (strOf t.name), t.of⟩ : Tok) = t
  rw [bs_strOf]
theorem toX_len (x : List Tok) : (toX x).length = x.length := by simp [toX]
theorem toX_append (x y : List Tok) : toX (x ++ y) = toX x ++ toX y := by simp [toX]
theorem Tryd.infoX : (Tryd.prog.info? 45).map (fun i => (i.zero, i.size, i.bytes)) = some (some (.agg #[.int .i64 0, .int .i64 0, .string ⟨#[]⟩]), 3, 32) := by kernel_rfl
theorem Tryd.sliceX : SliceOf Tryd.prog 23 45 (.agg #[.int .i64 0, .int .i64 0, .string ⟨#[]⟩]) 3 32 := slice_of Tryd.underlying23 Tryd.infoX rfl (by decide)
theorem src_three {P : Program} {w : World} {g : Nat} {a b c : Value} {e tx e' : TypeId} (hk : P.underlying tx = some (.slice e')) (h : w.heap[g]? = some (.cells #[a, b, c] e (0, 0))) (h0 : a.oneCell' = true) (h1 : b.oneCell' = true) (h2 : c.oneCell' = true) :
    Src P 3 tx (.slice (some ⟨g, 0, none⟩) 1 1) 1 [a, b, c] w :=
  Src.ofSlice w hk _ _ _ _ rfl (fun j x hx => by
    match j, hx with
    | 0, hx => simp at hx; subst hx; simp [Addr.add, World.cell?, h]
    | 1, hx => simp at hx; subst hx; simp [Addr.add, World.cell?, h]
    | 2, hx => simp at hx; subst hx; simp [Addr.add, World.cell?, h]) (fun x hx => by simp at hx; rcases hx with rfl | rfl | rfl <;> assumption)
/-- a part of a slice of tokens -/
theorem ReadsT.upto {w : World} {ao : Option Addr} {n c : Nat} {l : List TokB} (h : ReadsT w (.slice ao n c) l) (k : Nat) (hk : k ≤ l.length) : ReadsT w (.slice ao k c) (l.take k) := by
  obtain ⟨ao', c', he, hc, hx⟩ := h
  cases he
  have hl : (l.take k).length = k := by rw [List.length_take]; omega
  refine ⟨ao, c, by rw [hl], by omega, fun i t ht => ?_⟩
  rw [List.getElem?_take] at ht
  split at ht
  · exact hx i t ht
  · cases ht
theorem ReadsT.from {w : World} {g off n c : Nat} {l : List TokB} (h : ReadsT w (.slice (some ⟨g, off, none⟩) n c) l) (k : Nat) (hk : k ≤ l.length) : ReadsT w (.slice (some ⟨g, off + k * 4, none⟩) (n - k) (c - k)) (l.drop k) := by
  obtain ⟨ao', c', he, hc, hx⟩ := h
  cases he
  have hl : (l.drop k).length = l.length - k := List.length_drop
  refine ⟨_, c - k, by rw [hl], by omega, fun i t ht => ?_⟩
  rw [List.getElem?_drop] at ht
  obtain ⟨g', off', he, c0, c1, c2, c3⟩ := hx _ t ht
  cases he
  have e : off + k * 4 + i * 4 = off + (k + i) * 4 := by omega
  refine ⟨g, off + k * 4, rfl, ?_, ?_, ?_, ?_⟩ <;> rw [e] <;> assumption
theorem ReadsX.upto {w : World} {ao : Option Addr} {n c : Nat} {l : List TrmB} (h : ReadsX w (.slice ao n c) l) (k : Nat) (hk : k ≤ l.length) : ReadsX w (.slice ao k c) (l.take k) := by
  obtain ⟨ao', c', he, hc, hx⟩ := h
  cases he
  have hl : (l.take k).length = k := by rw [List.length_take]; omega
  refine ⟨ao, c, by rw [hl], by omega, fun i t ht => ?_⟩
  rw [List.getElem?_take] at ht
  split at ht
  · exact hx i t ht
  · cases ht
theorem rbinds_any (k : Int) (w : World) : Calls Tryd.prog 52 #[.int .i64 k] w fun e w' => e = .returned (.int .i64 (bindS k : Nat)) ∧ w = w' := by
  by_cases h2 : k = 2
  · subst h2
    go_enter Tryd.func52, Tryd.ntmps52
    go_wp2
    go_ret
    exact ⟨rfl, rfl⟩
  by_cases h3 : k = 3
  · subst h3
    go_enter Tryd.func52, Tryd.ntmps52
    go_wp2
    go_ret
    exact ⟨rfl, rfl⟩
  by_cases h4 : k = 4
  · subst h4
    go_enter Tryd.func52, Tryd.ntmps52
    go_wp2
    go_ret
    exact ⟨rfl, rfl⟩
  by_cases h5 : k = 5
  · subst h5
    go_enter Tryd.func52, Tryd.ntmps52
    go_wp2
    go_ret
    exact ⟨rfl, rfl⟩
  have HA : Hid (bindS k = 0) := Lib.hid (by unfold bindS; rw [if_neg h2, if_neg h3, if_neg h4, if_neg h5])
  have g2 : (k == 2) = false := by simp [h2]
  have g3 : (k == 3) = false := by simp [h3]
  have g4 : (k == 4) = false := by simp [h4]
  have g5 : (k == 5) = false := by simp [h5]
  clear h2 h3 h4 h5
  go_enter Tryd.func52, Tryd.ntmps52
  go_wp2
  go_ret
  exact ⟨ret_int (by rw [HA.out]; rfl), rfl⟩

end Go.Proofs.YtdapdpmplbifdaaDoor
