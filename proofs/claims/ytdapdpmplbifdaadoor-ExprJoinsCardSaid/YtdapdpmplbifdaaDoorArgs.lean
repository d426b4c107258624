/- Contracts and lemmas: Args -/
import Derived.Test.YtdapdpmplbifdaaDoorMem
import Derived.OpenShut
import Derived.Deep.Slices
namespace Go.Proofs.YtdapdpmplbifdaaDoor
set_option linter.unusedVariables false
set_option linter.unusedSimpArgs false
open Go.RowKit Go.ChangeShapes Go.WideShapes
set_option maxRecDepth 20000
theorem holds_struct {P : Program} {w : World} {t : TypeId} {cs : List Value} {fs : Array Field} (h : Holds P w t cs) (ht : P.underlying t = some (.struct fs)) :
    cs.length = P.cellsOf t ∧ ∀ (i : Nat) (f : Field), fs[i]? = some f → Holds P w f.type ((cs.drop f.offset).take (P.cellsOf f.type)) := by
  obtain ⟨H, enc, base, spare, held, fuel, x, hf⟩ := h
  obtain ⟨xs, n, _, _, hl, hlen, hx⟩ := DataW.trod_struct ht hf
  refine ⟨hl, fun i f hi => ?_⟩
  have h1 := hx i f hi
  have hi' : i < xs.length := by rw [hlen]; exact (Array.getElem?_eq_some_iff.1 hi).1
  rw [List.getElem?_eq_getElem hi'] at h1
  exact ⟨H, enc, base, spare, held, n, _, h1⟩

open Go.RowKit Go.ChangeShapes Go.WideShapes
/-- a slice of tokens that came in -/
def TokList (w : World) (v : Value) : Prop := ∃ l : List TokB, ReadsT w v l ∧ l.length ≤ maxLen ∧ ∀ t ∈ l, t.name.size ≤ maxLen
theorem toks_of {w : World} {v : Value} {r : Reach} {b : Nat} (hval : Value.okWide Tryd.prog w r b 29 v) (h : Holds Tryd.prog w 29 v.cells.toList) : TokList w v := by
  obtain ⟨ao, len, cap, rfl⟩ := okWide_slice Tryd.underlying29 hval
  rcases h.slice Tryd.underlying29 with h0 | ⟨a, len', cap', h1, hl, hm, hx⟩
  · simp [Value.cells] at h0
    obtain ⟨rfl, rfl, rfl⟩ := h0
    exact ⟨[], reads_nil _, by decide, fun t ht => by cases ht⟩
  · simp [Value.cells] at h1
    obtain ⟨rfl, rfl, rfl⟩ := h1
    have hC : Tryd.prog.cellsOf 31 = 4 := by kernel_rfl
    have h3 : Tryd.prog.cellsOf 3 = 1 := by kernel_rfl
    have h9 : Tryd.prog.cellsOf 9 = 1 := by kernel_rfl
    have key : ∀ i, i < len → ∃ x : TokB, x.name.size ≤ maxLen ∧
      ∃ g off, some a = some ⟨g, off, none⟩ ∧
    w.cell? ⟨g, off + i * 4, none⟩ = some (.int .i64 x.kind) ∧ w.cell? ⟨g, off + i * 4 + 1, none⟩ = some (.string x.name) ∧ w.cell? ⟨g, off + i * 4 + 2, none⟩ = some (.int .i64 x.of) ∧ w.cell? ⟨g, off + i * 4 + 3, none⟩ = some (.int .i64 x.pos) := by
      intro i hi
      have ha : a = ⟨a.block, a.off, none⟩ := by
        obtain ⟨cs0, hl0, hc0, _⟩ := hx 0 (by omega)
        rw [hC] at hl0 hc0
        have h00 := hc0 0 (by omega)
        rw [List.getElem?_eq_getElem (by omega)] at h00
        have := spot_of_cell h00
        simp [Addr.add] at this
        cases a; simp_all
      obtain ⟨cs', hlen, hcell, hh⟩ := hx i hi
      rw [hC] at hlen hcell
      match cs', hlen with
      | [c0, c1, c2, c3], _ =>
        obtain ⟨_, hf⟩ := holds_struct hh Tryd.underlying31
        have f0 := hf 0 _ rfl
        have f1 := hf 1 _ rfl
        have f2 := hf 2 _ rfl
        have f3 := hf 3 _ rfl
        simp [h3, h9] at f0 f1 f2 f3
        obtain ⟨n, e0, _⟩ := f0.int Tryd.underlying3
        obtain ⟨s, e1, ws⟩ := f1.string Tryd.underlying9
        obtain ⟨o, e2, _⟩ := f2.int Tryd.underlying3
        obtain ⟨p, e3, _⟩ := f3.int Tryd.underlying3
        simp at e0 e1 e2 e3
        subst e0 e1 e2 e3
        exact ⟨⟨n, s, o, p⟩, ws, a.block, a.off, ha ▸ rfl, cell_form (hcell 0 (by omega)), cell_form (hcell 1 (by omega)), cell_form (hcell 2 (by omega)), cell_form (hcell 3 (by omega))⟩
    have : Inhabited TokB := ⟨⟨0, ByteArray.empty, 0, 0⟩⟩
    obtain ⟨f, hf⟩ := Deep.choose_lt key
    refine ⟨(List.range len).map f, ⟨some a, cap, by simp, by simpa using hl, fun i x hi => ?_⟩, by simp; omega, fun t ht => ?_⟩
    · obtain ⟨hi', rfl⟩ := List.getElem?_eq_some_iff.1 hi
      simp at hi'
      have := hf i hi'
      simp only [List.getElem_map, List.getElem_range]
      exact this.2
    · obtain ⟨i, hi, rfl⟩ := List.mem_map.1 ht
      exact (hf i (by simpa using hi)).1
theorem u8_bounds {i : Int} (wi : (Lit.int .u8 i).wf = true) : 0 ≤ i ∧ i ≤ 255 := by
  simp [Lit.wf, IntKind.min, IntKind.max, IntKind.signed, IntKind.bits] at wi; exact wi

open Go.RowKit Go.ChangeShapes Go.WideShapes
set_option maxRecDepth 20000
/-- a slice of terms that came in -/
def TrmList (w : World) (v : Value) : Prop := ∃ l : List TrmB, ReadsX w v l ∧ l.length ≤ maxLen ∧ ∀ t ∈ l, t.name.size ≤ maxLen
theorem trms_of {w : World} {v : Value} {r : Reach} {b : Nat} (hval : Value.okWide Tryd.prog w r b 23 v) (h : Holds Tryd.prog w 23 v.cells.toList) : TrmList w v := by
  obtain ⟨ao, len, cap, rfl⟩ := okWide_slice Tryd.underlying23 hval
  rcases h.slice Tryd.underlying23 with h0 | ⟨a, len', cap', h1, hl, hm, hx⟩
  · simp [Value.cells] at h0
    obtain ⟨rfl, rfl, rfl⟩ := h0
    exact ⟨[], readsX_nil _, by decide, fun t ht => by cases ht⟩
  · simp [Value.cells] at h1
    obtain ⟨rfl, rfl, rfl⟩ := h1
    have hC : Tryd.prog.cellsOf 45 = 3 := by kernel_rfl
    have h3 : Tryd.prog.cellsOf 3 = 1 := by kernel_rfl
    have h9 : Tryd.prog.cellsOf 9 = 1 := by kernel_rfl
    have key : ∀ i, i < len → ∃ x : TrmB, x.name.size ≤ maxLen ∧
      ∃ g off, some a = some ⟨g, off, none⟩ ∧
    w.cell? ⟨g, off + i * 3, none⟩ = some (.int .i64 x.op) ∧ w.cell? ⟨g, off + i * 3 + 1, none⟩ = some (.int .i64 x.of) ∧ w.cell? ⟨g, off + i * 3 + 2, none⟩ = some (.string x.name) := by
      intro i hi
      have ha : a = ⟨a.block, a.off, none⟩ := by
        obtain ⟨cs0, hl0, hc0, _⟩ := hx 0 (by omega)
        rw [hC] at hl0 hc0
        have h00 := hc0 0 (by omega)
        rw [List.getElem?_eq_getElem (by omega)] at h00
        have := spot_of_cell h00
        simp [Addr.add] at this
        cases a; simp_all
      obtain ⟨cs', hlen, hcell, hh⟩ := hx i hi
      rw [hC] at hlen hcell
      match cs', hlen with
      | [c0, c1, c2], _ =>
        obtain ⟨_, hf⟩ := holds_struct hh Tryd.underlying45
        have f0 := hf 0 _ rfl
        have f1 := hf 1 _ rfl
        have f2 := hf 2 _ rfl
        simp [h3, h9] at f0 f1 f2
        obtain ⟨n, e0, _⟩ := f0.int Tryd.underlying3
        obtain ⟨o, e1, _⟩ := f1.int Tryd.underlying3
        obtain ⟨s, e2, ws⟩ := f2.string Tryd.underlying9
        simp at e0 e1 e2
        subst e0 e1 e2
        exact ⟨⟨n, o, s⟩, ws, a.block, a.off, ha ▸ rfl, cell_form (hcell 0 (by omega)), cell_form (hcell 1 (by omega)), cell_form (hcell 2 (by omega))⟩
    have : Inhabited TrmB := ⟨⟨0, 0, ByteArray.empty⟩⟩
    obtain ⟨f, hf⟩ := Deep.choose_lt key
    refine ⟨(List.range len).map f, ⟨some a, cap, by simp, by simpa using hl, fun i x hi => ?_⟩, by simp; omega, fun t ht => ?_⟩
    · obtain ⟨hi', rfl⟩ := List.getElem?_eq_some_iff.1 hi
      simp at hi'
      have := hf i hi'
      simp only [List.getElem_map, List.getElem_range]
      exact this.2
    · obtain ⟨i, hi, rfl⟩ := List.mem_map.1 ht
      exact (hf i (by simpa using hi)).1

end Go.Proofs.YtdapdpmplbifdaaDoor
