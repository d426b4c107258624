/- Arguments: what a value that is read as data looks like in memory. -/
import Derived.Test.YtcpgfcpmjalacaaRows
import Derived.WalkKit
import Derived.ProofKit
import Derived.OpenShut
import Derived.Deep.Slices
namespace Go.Proofs.Ytcpgfcpmjalacaa
open Go.RowKit Go.ChangeShapes Go.WideShapes

/-- these cells are read as data of the type t -/
def Holds (P : Program) (w : World) (t : TypeId) (cs : List Value) : Prop :=
  ∃ (H : Type) (enc : TypeId × Value → H) (base : Nat) (spare : Nat → Bool) (held : Bool) (fuel : Nat) (x : DataW H × List MemPlace), DataW.trod enc P w base spare held fuel t cs = some x

section
variable {P : Program} {w : World} {t : TypeId} {cs : List Value}

theorem Holds.of_trod {H : Type} {enc : TypeId × Value → H} {base : Nat} {spare : Nat → Bool} {held : Bool} {v : Value} {d : DataW H} {ps : List MemPlace} (h : DataW.Trod enc P w base spare held t v d ps) : Holds P w t v.cells.toList := by
  obtain ⟨f, hf⟩ := h
  exact ⟨H, enc, base, spare, held, f, _, hf⟩

theorem Holds.int {k : IntKind} (h : Holds P w t cs) (ht : P.underlying t = some (.int k)) : ∃ n, cs = [.int k n] ∧ (Lit.int k n).wf = true := by
  obtain ⟨_, _, _, _, _, _, _, hf⟩ := h
  obtain ⟨n, h1, _, h2⟩ := DataW.trod_int ht hf
  exact ⟨n, h1, h2⟩
theorem Holds.bool (h : Holds P w t cs) (ht : P.underlying t = some .bool) : ∃ b, cs = [.bool b] := by
  obtain ⟨_, _, _, _, _, _, _, hf⟩ := h
  obtain ⟨n, h1, _⟩ := DataW.trod_bool ht hf
  exact ⟨n, h1⟩
theorem Holds.string (h : Holds P w t cs) (ht : P.underlying t = some .string) : ∃ s : ByteArray, cs = [.string s] ∧ s.size ≤ maxLen := by
  obtain ⟨_, _, _, _, _, _, _, hf⟩ := h
  obtain ⟨n, h1, _, h2⟩ := DataW.trod_string ht hf
  exact ⟨n, h1, h2⟩
theorem Holds.struct {fs : Array Field} (h : Holds P w t cs) (ht : P.underlying t = some (.struct fs)) :
    cs.length = P.cellsOf t ∧ ∀ (i : Nat) (f : Field), fs[i]? = some f → Holds P w f.type ((cs.drop f.offset).take (P.cellsOf f.type)) := by
  obtain ⟨H, enc, base, spare, held, fuel, x, hf⟩ := h
  obtain ⟨xs, n, _, _, hl, hlen, hx⟩ := DataW.trod_struct ht hf
  refine ⟨hl, fun i f hi => ?_⟩
  have h1 := hx i f hi
  have hi' : i < xs.length := by rw [hlen]; exact (Array.getElem?_eq_some_iff.1 hi).1
  rw [List.getElem?_eq_getElem hi'] at h1
  exact ⟨H, enc, base, spare, held, n, _, h1⟩
theorem Holds.array {n : Nat} {e : TypeId} (h : Holds P w t cs) (ht : P.underlying t = some (.array n e)) :
    cs.length = P.cellsOf t ∧ ∀ (i : Nat), i < n → Holds P w e ((cs.drop (i * P.cellsOf e)).take (P.cellsOf e)) := by
  obtain ⟨H, enc, base, spare, held, fuel, x, hf⟩ := h
  obtain ⟨xs, m, _, _, hl, hlen, hx⟩ := DataW.trod_array ht hf
  refine ⟨hl, fun i hi => ?_⟩
  have h1 := hx i hi
  rw [List.getElem?_eq_getElem (by omega)] at h1
  exact ⟨H, enc, base, spare, held, m, _, h1⟩
theorem Holds.slice {e : TypeId} (h : Holds P w t cs) (ht : P.underlying t = some (.slice e)) :
    cs = [.slice none 0 0] ∨ ∃ (a : Addr) (len cap : Nat), cs = [.slice (some a) len cap] ∧ len ≤ cap ∧ cap ≤ maxLen ∧
      ∀ i, i < len → ∃ cs', cs'.length = P.cellsOf e ∧ (∀ j, j < P.cellsOf e → w.cell? (a.add (i * P.cellsOf e + j)) = cs'[j]?) ∧ Holds P w e cs' := by
  obtain ⟨H, enc, base, spare, held, fuel, x, hf⟩ := h
  rcases Deep.open_slice ht hf with ⟨h0, _⟩ | ⟨a, len, cap, m, n, D, Pl, h1, hb, hl, hm, hmm, _, hx⟩
  · exact .inl h0
  · refine .inr ⟨a, len, cap, h1, hl, hm, fun i hi => ?_⟩
    have him : i < m := by rw [hmm]; split <;> omega
    obtain ⟨cs', hc, hd⟩ := hx i him
    obtain ⟨_, hlen, hcell⟩ := World.cells?_some hc
    refine ⟨cs', hlen, fun j hj => ?_, H, enc, base, spare, held, n, _, hd⟩
    rw [← hcell j hj, Deep.add_add]
end

theorem spot_of_cell {w : World} {a : Addr} {v : Value} (h : w.cell? a = some v) : a.spot = none := by
  unfold World.cell? at h
  split at h
  · split at h
    · cases h
    · rename_i hs; simpa using hs
  · cases h

theorem add_of_spot {a : Addr} (i : Nat) : a.add i = { a with off := a.off + i, spot := (a.add i).spot } := by
  unfold Addr.add; split <;> simp_all

/-- the cells of a slice, by block and place -/
theorem cell_form {w : World} {a : Addr} {i : Nat} {v : Value} (h : w.cell? (a.add i) = some v) : w.cell? ⟨a.block, a.off + i, none⟩ = some v := by
  have hs := spot_of_cell h
  have : a.add i = ⟨a.block, a.off + i, none⟩ := by
    rw [add_of_spot, hs]
  rw [this] at h
  exact h

/-- an act: its kind, its name, whether it is looked for -/
structure ActD where
  kind : Int
  name : ByteArray
  find : Bool

/-- the slice v holds these acts -/
def ActsAt (w : World) (v : Value) (l : List ActD) : Prop :=
  ∃ ao c, v = .slice ao l.length c ∧ l.length ≤ maxLen ∧ ∀ i x, l[i]? = some x → (Lit.int .i64 x.kind).wf = true ∧ x.name.size ≤ maxLen ∧ ∃ g off, ao = some ⟨g, off, none⟩ ∧
    w.cell? ⟨g, off + i * 3, none⟩ = some (.int .i64 x.kind) ∧ w.cell? ⟨g, off + i * 3 + 1, none⟩ = some (.string x.name) ∧ w.cell? ⟨g, off + i * 3 + 2, none⟩ = some (.bool x.find)

theorem acts_of {w : World} {v : Value} {r : Reach} {b : Nat} (hval : Value.okWide Try.prog w r b 22 v) (h : Holds Try.prog w 22 v.cells.toList) : ∃ l, ActsAt w v l := by
  obtain ⟨ao, len, cap, rfl⟩ := okWide_slice Try.underlying22 hval
  rcases h.slice Try.underlying22 with h0 | ⟨a, len', cap', h1, hl, hm, hx⟩
  · simp [Value.cells] at h0
    obtain ⟨rfl, rfl, rfl⟩ := h0
    exact ⟨[], none, 0, rfl, by decide, fun i x hi => by simp at hi⟩
  · simp [Value.cells] at h1
    obtain ⟨rfl, rfl, rfl⟩ := h1
    have hC : Try.prog.cellsOf 35 = 3 := by kernel_rfl
    have h3 : Try.prog.cellsOf 3 = 1 := by kernel_rfl
    have h9 : Try.prog.cellsOf 9 = 1 := by kernel_rfl
    have h4 : Try.prog.cellsOf 4 = 1 := by kernel_rfl
    have key : ∀ i, i < len → ∃ x : ActD, (Lit.int .i64 x.kind).wf = true ∧ x.name.size ≤ maxLen ∧
      ∃ g off, some a = some ⟨g, off, none⟩ ∧
    w.cell? ⟨g, off + i * 3, none⟩ = some (.int .i64 x.kind) ∧ w.cell? ⟨g, off + i * 3 + 1, none⟩ = some (.string x.name) ∧ w.cell? ⟨g, off + i * 3 + 2, none⟩ = some (.bool x.find) := by
      intro i hi
      have ha : a = ⟨a.block, a.off, none⟩ := by
        obtain ⟨cs0, hl0, hc0, _⟩ := hx 0 (by omega)
        rw [hC] at hl0 hc0
        have h00 := hc0 0 (by omega)
        rw [List.getElem?_eq_getElem (by omega)] at h00
        have := spot_of_cell h00
        simp [Addr.add] at this
        cases a; simp_all
      obtain ⟨cs', hlen, hcell, hh⟩ := hx i hi
      rw [hC] at hlen hcell
      match cs', hlen with
      | [c0, c1, c2], _ =>
        obtain ⟨_, hf⟩ := hh.struct Try.underlying35
        have f0 := hf 0 _ rfl
        have f1 := hf 1 _ rfl
        have f2 := hf 2 _ rfl
        simp [h3, h9, h4] at f0 f1 f2
        obtain ⟨n, e0, wn⟩ := f0.int Try.underlying3
        obtain ⟨s, e1, ws⟩ := f1.string Try.underlying9
        obtain ⟨b, e2⟩ := f2.bool Try.underlying4
        simp at e0 e1 e2
        subst e0 e1 e2
        exact ⟨⟨n, s, b⟩, wn, ws, a.block, a.off, ha ▸ rfl, cell_form (hcell 0 (by omega)), cell_form (hcell 1 (by omega)), cell_form (hcell 2 (by omega))⟩
    have : Inhabited ActD := ⟨⟨0, ByteArray.empty, false⟩⟩
    obtain ⟨f, hf⟩ := Deep.choose_lt key
    refine ⟨(List.range len).map f, some a, cap, by simp, by simp; omega, fun i x hi => ?_⟩
    obtain ⟨hi', rfl⟩ := List.getElem?_eq_some_iff.1 hi
    simp at hi'
    have := hf i hi'
    simp only [List.getElem_map, List.getElem_range]
    exact ⟨this.1, this.2.1, this.2.2⟩
end Go.Proofs.Ytcpgfcpmjalacaa
