/- Contracts and lemmas: K12 -/
import Derived.Test.YtdapdpmplbifdaaDoorK11
import Derived.Shelf.SlicesQ.Reverse
import Derived.Test.YtdapdpmplbifdaaDoorShelf2
namespace Go.Proofs.YtdapdpmplbifdaaDoor
set_option linter.unusedVariables false
set_option linter.unusedSimpArgs false
open Go.RowKit Go.ChangeShapes Go.WideShapes
set_option maxRecDepth 20000
instance : Inhabited Tok := ⟨opT 0⟩
def encT (t : Tok) : List Value := [.int .i64 t.kind, .string (strOf t.name), .int .i64 t.of, .int .i64 0]
theorem encT_get (M : List Tok) (i c : Nat) (hi : i < M.length) (hc : c < 4) : (cellsB (toT M))[i * 4 + c]? = some ((encT M.toArray[i]!)[c]!) := by
  have hm : (toT M)[i]? = some ⟨M[i].kind, strOf M[i].name, M[i].of, 0⟩ := by unfold toT; rw [List.getElem?_map, List.getElem?_eq_getElem hi]; rfl
  obtain ⟨h0, h1, h2, h3⟩ := cellsB_get _ i _ hm
  have ha : M.toArray[i]! = M[i] := by simp [getElem!_pos, hi]
  rw [ha]
  have hc4 : c = 0 ∨ c = 1 ∨ c = 2 ∨ c = 3 := by omega
  rcases hc4 with rfl | rfl | rfl | rfl
  · exact h0
  · exact h1
  · exact h2
  · exact h3
theorem own_holdsT {w : World} {base g n cap : Nat} {e : TypeId} {M : List Tok} (h : w.ownsRow base e 4 (.slice (some ⟨g, 0, none⟩) n cap) n (cellsB (toT M))) : Go.Sort.HoldsK encT 4 w g 0 M.toArray := by
  rcases h.2 with ⟨hv, _⟩ | ⟨g', cap', cur, hv, hb, hg, hn, hm, hs, ht⟩
  · cases hv
  · cases hv
    intro j hj
    rw [Go.Sort.size_flatK] at hj
    have hj2 : j < M.length * 4 := by simpa using hj
    rw [Go.Sort.get_flatK encT 4 M.toArray j hj]
    have hu := encT_get M (j / 4) (j % 4) (by omega) (by omega)
    rw [show j / 4 * 4 + j % 4 = j by omega] at hu
    refine ⟨?_, by simp [World.frozen?, hg]⟩
    rw [cell_whole hg, Nat.zero_add]
    rw [← ht, List.getElem?_take] at hu
    split at hu
    · simpa using hu
    · cases hu
theorem fr_put {w : World} {g q : Nat} {d : Array Tok} : Fr (fun k => k = g) w (Go.Sort.putRowK encT 4 (Go.Sort.ahead w q) g 0 d) := by
  have hat : ∀ k : Nat, (Go.Sort.putRowK encT 4 (Go.Sort.ahead w q) g 0 d).heap[k]? = (w.heap.modify g (Go.Sort.onCells (Go.Sort.putCells id 0 (Go.Sort.flatK encT 4 d))))[k]? := fun k => rfl
  refine ⟨rfl, rfl, rfl, by simp [Go.Sort.putRowK, Go.Sort.putRow, Go.Sort.mapBlock, Go.Sort.ahead], fun k hk hne => ?_⟩
  rw [hat k, Array.getElem?_modify, if_neg (fun e => hne e.symm)]
theorem reads_put {w : World} {g q cap : Nat} {M R : List Tok} (h : Go.Sort.HoldsK encT 4 w g 0 M.toArray) (hl : R.length = M.length) (hc : R.length ≤ cap) :
    ReadsT (Go.Sort.putRowK encT 4 (Go.Sort.ahead w q) g 0 R.toArray) (.slice (some ⟨g, 0, none⟩) R.length cap) (toT R) := by
  have hH := Go.Sort.holdsK_putRowK (enc := encT) (k := 4) (Go.Sort.ahead w q) g 0 M.toArray R.toArray (Go.Sort.holdsK_ahead encT 4 w q g 0 M.toArray h) (by simp [hl])
  refine ⟨some ⟨g, 0, none⟩, cap, by rw [toT_len], by rw [toT_len]; exact hc, fun i t ht => ?_⟩
  have hi : i < R.length := by
    have := (List.getElem?_eq_some_iff.1 ht).1
    rwa [toT_len] at this
  have ht2 : t = ⟨R[i].kind, strOf R[i].name, R[i].of, 0⟩ := by
    unfold toT at ht
    rw [List.getElem?_map, List.getElem?_eq_getElem hi] at ht
    exact (Option.some.inj ht).symm
  have ha : R.toArray[i]! = R[i] := by simp [getElem!_pos, hi]
  subst ht2
  refine ⟨g, 0, rfl, ?_, ?_, ?_, ?_⟩
  · have := (Go.Sort.HoldsK.cell hH (i := i) (c := 0) (by simpa using hi) (by omega)).1
    rw [ha] at this
    exact this
  · have := (Go.Sort.HoldsK.cell hH (i := i) (c := 1) (by simpa using hi) (by omega)).1
    rw [ha] at this
    exact this
  · have := (Go.Sort.HoldsK.cell hH (i := i) (c := 2) (by simpa using hi) (by omega)).1
    rw [ha] at this
    exact this
  · have := (Go.Sort.HoldsK.cell hH (i := i) (c := 3) (by simpa using hi) (by omega)).1
    rw [ha] at this
    exact this
/-- a row of tokens is turned round -/
theorem kreverse_any {w : World} {base : Nat} {v : Value} {M : List Tok} (h : w.ownsRow base 31 4 v M.length (cellsB (toT M))) (hn : M.length ≠ 0) (hs : M.length ≤ 1000000) :
    Calls Tryd.prog 34 #[v] w fun e w' => e = .returned (.tuple #[]) ∧ ReadsT w' v (toT M.reverse) ∧ Fr (fun k => v.ownBlock = some k) w w' := by
  obtain ⟨g, cap, rfl, hcap⟩ := own_some h hn
  have hH := own_holdsT h
  have hR := AnyQ.slices_Reverse Tryd.reverseL 4 Tryd.isAgg31 Tryd.sizeOf31 encT (fun _ => rfl) (fun x v hv => by simp [encT] at hv; rcases hv with rfl | rfl | rfl | rfl <;> rfl) g 0 cap M.toArray w hH (by simp; omega)
  refine hR.mono ?_
  rintro e w' ⟨rfl, q, rfl⟩
  have e1 : M.toArray.reverse = M.reverse.toArray := by simp
  rw [e1]
  refine ⟨rfl, ?_, fr_put.mono (fun k _ e => by subst e; simp [Value.ownBlock])⟩
  have := reads_put (w := w) (g := g) (q := q) (cap := cap) (M := M) (R := M.reverse) hH (by simp) (by simpa using hcap)
  simpa using this

end Go.Proofs.YtdapdpmplbifdaaDoor
