/- Contracts and lemmas: T2 -/
import Derived.Test.YtfbmlacklhiecaaT1
import Derived.Test.YtfbmlacklhiecaaW1
namespace Go.Proofs.Ytfbmlacklhiecaa
set_option linter.unusedVariables false
set_option linter.unusedSimpArgs false
open Go.RowKit Go.ChangeShapes Go.WideShapes
set_option maxRecDepth 20000

open Go.RowKit Go.ChangeShapes Go.WideShapes
set_option maxRecDepth 20000
/-- what an Out has behind an item -/
def stepO (s : Option (List UInt8)) (x : Itm) : Option (List UInt8) := if x.kind = 0 then oNum s x.n else if x.kind = 1 then oText s x.t else if x.kind = 2 then oWord s x.wd else if x.kind = 3 then oSet s x.l else s
/-- an item's bytes -/
def itI (x : Itm) : List UInt8 := if x.kind = 0 then numB x.n.toNat else if x.kind = 1 then numB x.t.size ++ bs x.t else if x.kind = 2 then wordB x.wd else if x.kind = 3 then setB x.l else []
structure OkI (x : Itm) : Prop where
  n : x.kind = 0 → 0 ≤ x.n ∧ x.n ≤ 4611686018427387904
  w : x.kind = 2 → mayS x.wd = true
  s : x.kind = 3 → mayL x.l = true
def flatI : List Itm → List UInt8
  | [] => []
  | x :: r => itI x ++ flatI r
def writes : Option (List UInt8) → List Itm → Option (List UInt8)
  | s, [] => s
  | s, x :: r => writes (stepO s x) r
theorem stepO_none (x : Itm) : stepO none x = none := by
  unfold stepO
  rw [oNum_none, oText_none, oWord_none, oSet_none]
  split <;> (try rfl)
  split <;> (try rfl)
  split <;> (try rfl)
  split <;> rfl
theorem writes_none : ∀ l : List Itm, writes none l = none
  | [] => rfl
  | x :: r => by simp only [writes, stepO_none]; exact writes_none r
theorem writes_snoc : ∀ (s : Option (List UInt8)) (l : List Itm) (x : Itm), writes s (l ++ [x]) = stepO (writes s l) x
  | s, [], x => rfl
  | s, y :: r, x => by simp only [List.cons_append, writes]; exact writes_snoc _ r x
theorem writes_take {s : Option (List UInt8)} {l : List Itm} {k : Nat} {x : Itm} (h : l[k]? = some x) : writes s (l.take (k + 1)) = stepO (writes s (l.take k)) x := by
  rw [List.take_add_one, h]; exact writes_snoc s _ x
theorem map_dem {p z q : List UInt8} {d : Bool} (h : (dem (some p) d).map (· ++ q) = some z) : d = true ∧ z = p ++ q := by
  cases d with
  | false => simp [dem] at h
  | true => simp [dem] at h; exact ⟨rfl, h.symm⟩
theorem stepO_some {p z : List UInt8} {x : Itm} (h : stepO (some p) x = some z) : OkI x ∧ z = p ++ itI x := by
  unfold stepO at h
  unfold itI
  by_cases h0 : x.kind = 0
  · rw [if_pos h0] at h ⊢
    obtain ⟨h1, h2⟩ := map_dem h
    exact ⟨⟨fun _ => by simpa using h1, fun e => by omega, fun e => by omega⟩, h2⟩
  rw [if_neg h0] at h ⊢
  by_cases h1 : x.kind = 1
  · rw [if_pos h1] at h ⊢
    refine ⟨⟨fun e => by omega, fun e => by omega, fun e => by omega⟩, ?_⟩
    unfold oText at h
    cases hq : oNum (some p) x.t.size with
    | none => rw [hq] at h; simp at h
    | some q =>
      rw [hq] at h
      obtain ⟨_, h3⟩ := map_dem hq
      simp at h
      rw [← h, h3]; simp
  rw [if_neg h1] at h ⊢
  by_cases h2 : x.kind = 2
  · rw [if_pos h2] at h ⊢
    obtain ⟨h3, h4⟩ := map_dem h
    exact ⟨⟨fun e => by omega, fun _ => h3, fun e => by omega⟩, h4⟩
  rw [if_neg h2] at h ⊢
  by_cases h3 : x.kind = 3
  · rw [if_pos h3] at h ⊢
    obtain ⟨h4, h5⟩ := map_dem h
    exact ⟨⟨fun e => by omega, fun e => by omega, fun _ => h4⟩, h5⟩
  rw [if_neg h3] at h ⊢
  injection h with h
  exact ⟨⟨fun e => by omega, fun e => by omega, fun e => by omega⟩, by simp [h]⟩
theorem writes_some : ∀ (l : List Itm) (p y : List UInt8), writes (some p) l = some y → (∀ x ∈ l, OkI x) ∧ y = p ++ flatI l
  | [], p, y, h => by
    simp only [writes] at h
    injection h with h
    exact ⟨fun x hx => (by cases hx), by simp [flatI, h]⟩
  | x :: r, p, y, h => by
    simp only [writes] at h
    cases hq : stepO (some p) x with
    | none => rw [hq, writes_none] at h; cases h
    | some z =>
      rw [hq] at h
      obtain ⟨h1, h2⟩ := stepO_some hq
      obtain ⟨h3, h4⟩ := writes_some r z y h
      refine ⟨fun u hu => ?_, ?_⟩
      · rcases List.mem_cons.1 hu with rfl | hu
        · exact h1
        · exact h3 u hu
      · rw [h4, h2]; simp [flatI]
theorem flat_drop {l : List Itm} {m k : Nat} {x : Itm} (hk : k < m) (h : l[k]? = some x) : flatI ((l.take m).drop k) = itI x ++ flatI ((l.take m).drop (k + 1)) := by
  have h1 : (l.take m)[k]? = some x := by rw [List.getElem?_take, if_pos hk]; exact h
  have h2 := List.getElem?_eq_some_iff.1 h1
  rw [List.drop_eq_getElem_cons h2.1, h2.2]; rfl
/-- an Out that the law keeps -/
structure St1 (w0 : World) (bo : Nat) (s : Option (List UInt8)) (w : World) : Prop where
  o : OutAt w0.heap.size bo s w
  k : Kept w0 w
  ho : w0.heap.size ≤ bo
theorem St1.kept {w0 : World} {bo : Nat} {s : Option (List UInt8)} {w w' : World} (h : St1 w0 bo s w) (k : Kept w w') : St1 w0 bo s w' := ⟨h.o.kept k, h.k.trans k, h.ho⟩
theorem St1.step {w0 : World} {bo : Nat} {s s' : Option (List UInt8)} {w w' : World} (h : St1 w0 bo s w) (h1 : OutAt w0.heap.size bo s' w') (t : TurnB w0.heap.size bo w w') : St1 w0 bo s' w' := ⟨h1, t.over h.k h.ho (Nat.le_refl _), h.ho⟩
/-- an In that the law keeps -/
structure St5 (w0 : World) (bi : Nat) (s : Option (List UInt8)) (w : World) : Prop where
  i : InAt bi s w
  k : Kept w0 w
  hi : w0.heap.size ≤ bi
theorem St5.kept {w0 : World} {bi : Nat} {s : Option (List UInt8)} {w w' : World} (h : St5 w0 bi s w) (k : Kept w w') : St5 w0 bi s w' := ⟨h.i.kept k, h.k.trans k, h.hi⟩
theorem St5.step {w0 : World} {bi : Nat} {s s' : Option (List UInt8)} {w w' : World} (h : St5 w0 bi s w) (h1 : InAt bi s' w') (f : Fr (fun k => k = bi) w w') : St5 w0 bi s' w' := ⟨h1, fr_over f h.k h.hi, h.hi⟩
theorem min100 {n k : Nat} (hk : k ≤ n) (hk1 : k ≤ 100) (h : ¬ (k < n ∧ k < 100)) : k = min n 100 := by omega

end Go.Proofs.Ytfbmlacklhiecaa
