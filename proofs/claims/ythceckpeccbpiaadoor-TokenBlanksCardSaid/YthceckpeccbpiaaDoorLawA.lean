/- Contracts and lemmas: LawA -/
import Derived.Test.YthceckpeccbpiaaDoorText
import Derived.RegionTactic
import Derived.BigRegion
namespace Go.Proofs.YthceckpeccbpiaaDoor
set_option linter.unusedVariables false
set_option linter.unusedSimpArgs false
open Go.RowKit Go.ChangeShapes Go.WideShapes
theorem neq_tok (k o p k' o' p' : Int) (x x' : ByteArray) (W : World) :
    (binOp .neq 34 (.agg #[.int .i64 k, .string x, .int .i64 o, .int .i64 p]) (.agg #[.int .i64 k', .string x', .int .i64 o', .int .i64 p'])).run Tryd.prog W = .ok (.bool (!decide (k = k' ∧ bs x = bs x' ∧ o = o' ∧ p = p'))) W := by
  by_cases h1 : k = k'
  · subst h1
    by_cases h2 : bs x = bs x'
    · have := bs_inj h2
      subst this
      by_cases h3 : o = o'
      · subst h3
        by_cases h4 : p = p'
        · subst h4
          go_simp
        · have q : (p == p') = false := by simp [h4]
          go_simp
      · have q : (o == o') = false := by simp [h3]
        go_simp
    · have q : (x.toList == x'.toList) = false := by rw [bs_toList, bs_toList]; simpa using h2
      go_simp
  · have q : (k == k') = false := by simp [h1]
    go_simp
/-- what is looked at of a token -/
def keyT (pl : Bool) (t : TokB) : Int × List UInt8 × Int × Int := (t.kind, bs t.name, t.of, if pl then t.pos else 0)
def sameS (pl : Bool) (a b : List TokB) : Bool := decide (a.map (keyT pl) = b.map (keyT pl))
theorem same_len {pl : Bool} {a b : List TokB} (h : a.length ≠ b.length) : sameS pl a b = false := by
  unfold sameS
  rw [decide_eq_false_iff_not]
  intro e
  have := congrArg List.length e
  simp at this
  exact h this
theorem same_no {pl : Bool} {a b : List TokB} {k : Nat} {x y : TokB} (hx : a[k]? = some x) (hy : b[k]? = some y) (h : keyT pl x ≠ keyT pl y) : sameS pl a b = false := by
  unfold sameS
  rw [decide_eq_false_iff_not]
  intro e
  have := congrArg (fun l => l[k]?) e
  simp [hx, hy] at this
  exact h this
theorem same_yes {pl : Bool} {a b : List TokB} (hl : a.length = b.length) (h : ∀ (k : Nat) (x y : TokB), a[k]? = some x → b[k]? = some y → keyT pl x = keyT pl y) : sameS pl a b = true := by
  unfold sameS
  rw [decide_eq_true_eq]
  apply List.ext_getElem?
  intro k
  rw [List.getElem?_map, List.getElem?_map]
  cases hx : a[k]? with
  | none =>
    have : b[k]? = none := by rw [List.getElem?_eq_none_iff] at hx ⊢; omega
    rw [this]
  | some x =>
    cases hy : b[k]? with
    | none => rw [List.getElem?_eq_none_iff] at hy; have := (List.getElem?_eq_some_iff.1 hx).1; omega
    | some y => exact congrArg some (h k x y hx hy)
theorem key_true (x y : TokB) : decide (x.kind = y.kind ∧ bs x.name = bs y.name ∧ x.of = y.of ∧ x.pos = y.pos) = decide (keyT true x = keyT true y) := by
  rw [decide_eq_decide]; simp [keyT]
theorem key_false (x y : TokB) : decide (x.kind = y.kind ∧ bs x.name = bs y.name ∧ x.of = y.of ∧ (0 : Int) = 0) = decide (keyT false x = keyT false y) := by
  rw [decide_eq_decide]; simp [keyT]
set_option maxHeartbeats 4000000 in
theorem ksame_any {w : World} {va vc : Value} {la lc : List TokB} (ha : ReadsT w va la) (hc : ReadsT w vc lc) (pl : Bool) (hl : la.length ≤ 1000000) (hl2 : lc.length ≤ 1000000) :
    Calls Tryd.prog 12 #[va, vc, .bool pl] w (KeptPost (.bool (sameS pl la lc)) w) := by
  obtain ⟨ao, c, rfl, _, hca⟩ := ha
  obtain ⟨bo, d, rfl, _, hcb⟩ := hc
  have HCA := Lib.hid hca
  have HCB := Lib.hid hcb
  clear hca hcb
  by_cases hne : la.length = lc.length
  · have HE := Lib.hid hne
    rw [← hne] at hl2 ⊢
    generalize hn : la.length = n at *
    have HN := Lib.hid hn
    clear hn hne
    have H0 : Hid (Kept w w) := Lib.hid (Fr.refl _ _)
    go_enter Tryd.func12, Tryd.ntmps12
    go_wp2
    go_loopw [17] (fun i wr => ∃ k : Nat, i = .int .i64 k ∧ k ≤ n ∧ Hid (Kept w wr) ∧ Hid (∀ (j : Nat) (x y : TokB), j < k → la[j]? = some x → lc[j]? = some y → keyT pl x = keyT pl y)) (fun i _ => n - (intOf i).toNat)
    case atStart => exact ⟨0, rfl, by omega, H0, Lib.hid (fun j x y h => by omega)⟩
    case round =>
      obtain ⟨k, rfl, hk, hkp, hall⟩ := hrel
      clear H0
      by_cases hlt : k < n
      · have hlti : (k : Int) < n := by omega
        obtain ⟨x, hx⟩ : ∃ x, la[k]? = some x := ⟨_, List.getElem?_eq_getElem (by have := HN.out; omega)⟩
        obtain ⟨y, hy⟩ : ∃ y, lc[k]? = some y := ⟨_, List.getElem?_eq_getElem (by have := HE.out; have := HN.out; omega)⟩
        obtain ⟨g, off, rfl, d0, d1, d2, d3⟩ := HCA.out k x hx
        obtain ⟨g', off', rfl, e0, e1, e2, e3⟩ := HCB.out k y hy
        have c0 := hkp.out.cell d0 (fun x => x)
        have c1 := hkp.out.cell d1 (fun x => x)
        have c2 := hkp.out.cell d2 (fun x => x)
        have c3 := hkp.out.cell d3 (fun x => x)
        have b0 := hkp.out.cell e0 (fun x => x)
        have b1 := hkp.out.cell e1 (fun x => x)
        have b2 := hkp.out.cell e2 (fun x => x)
        have b3 := hkp.out.cell e3 (fun x => x)
        have c0p := fun o1 => (hkp.out.trans (Fr.of_alloc (fun _ => False) wr o1)).cell d0 (fun x => x)
        have c0q := fun o1 o2 => ((hkp.out.trans (Fr.of_alloc (fun _ => False) wr o1)).trans (Fr.of_alloc (fun _ => False) _ o2)).cell d0 (fun x => x)
        have c1p := fun o1 => (hkp.out.trans (Fr.of_alloc (fun _ => False) wr o1)).cell d1 (fun x => x)
        have c1q := fun o1 o2 => ((hkp.out.trans (Fr.of_alloc (fun _ => False) wr o1)).trans (Fr.of_alloc (fun _ => False) _ o2)).cell d1 (fun x => x)
        have c2p := fun o1 => (hkp.out.trans (Fr.of_alloc (fun _ => False) wr o1)).cell d2 (fun x => x)
        have c2q := fun o1 o2 => ((hkp.out.trans (Fr.of_alloc (fun _ => False) wr o1)).trans (Fr.of_alloc (fun _ => False) _ o2)).cell d2 (fun x => x)
        have c3p := fun o1 => (hkp.out.trans (Fr.of_alloc (fun _ => False) wr o1)).cell d3 (fun x => x)
        have c3q := fun o1 o2 => ((hkp.out.trans (Fr.of_alloc (fun _ => False) wr o1)).trans (Fr.of_alloc (fun _ => False) _ o2)).cell d3 (fun x => x)
        have b0p := fun o1 => (hkp.out.trans (Fr.of_alloc (fun _ => False) wr o1)).cell e0 (fun x => x)
        have b0q := fun o1 o2 => ((hkp.out.trans (Fr.of_alloc (fun _ => False) wr o1)).trans (Fr.of_alloc (fun _ => False) _ o2)).cell e0 (fun x => x)
        have b1p := fun o1 => (hkp.out.trans (Fr.of_alloc (fun _ => False) wr o1)).cell e1 (fun x => x)
        have b1q := fun o1 o2 => ((hkp.out.trans (Fr.of_alloc (fun _ => False) wr o1)).trans (Fr.of_alloc (fun _ => False) _ o2)).cell e1 (fun x => x)
        have b2p := fun o1 => (hkp.out.trans (Fr.of_alloc (fun _ => False) wr o1)).cell e2 (fun x => x)
        have b2q := fun o1 o2 => ((hkp.out.trans (Fr.of_alloc (fun _ => False) wr o1)).trans (Fr.of_alloc (fun _ => False) _ o2)).cell e2 (fun x => x)
        have b3p := fun o1 => (hkp.out.trans (Fr.of_alloc (fun _ => False) wr o1)).cell e3 (fun x => x)
        have b3q := fun o1 o2 => ((hkp.out.trans (Fr.of_alloc (fun _ => False) wr o1)).trans (Fr.of_alloc (fun _ => False) _ o2)).cell e3 (fun x => x)
        have HNO : Hid (keyT pl x ≠ keyT pl y → sameS pl la lc = false) := Lib.hid (same_no hx hy)
        have HYE : Hid (keyT pl x = keyT pl y → ∀ (j : Nat) (x y : TokB), j < k + 1 → la[j]? = some x → lc[j]? = some y → keyT pl x = keyT pl y) := Lib.hid (fun h j x' y' hj h1 h2 => by
          rcases Nat.lt_or_ge j k with h3 | h3
          · exact hall.out j x' y' h3 h1 h2
          · obtain rfl : j = k := by omega
            rw [hx] at h1; rw [hy] at h2
            cases h1; cases h2; exact h)
        clear d0 d1 d2 d3 e0 e1 e2 e3 hx hy hall
        cases pl
        · by_cases hke : keyT false x = keyT false y
          · have hneq : ∀ W, (binOp .neq 34 (.agg #[.int .i64 x.kind, .string x.name, .int .i64 x.of, .int .i64 0]) (.agg #[.int .i64 y.kind, .string y.name, .int .i64 y.of, .int .i64 0])).run Tryd.prog W = .ok (.bool false) W := fun W => by
              rw [neq_tok, key_false, decide_eq_true hke]; rfl
            have HY := Lib.hid (HYE.out hke)
            clear hke HNO HYE
            go_wp2
            go_region
            all_goals
              go_wp2
              go_roundw
              case rel => exact ⟨k + 1, by go_num, by omega, Lib.hid (hkp.out.trans (((Fr.of_alloc _ _ _).trans (Fr.of_alloc _ _ _)).trans (Fr.of_drew _ _))), HY⟩
              case measure => simp [intOf]; omega
          · have hneq : ∀ W, (binOp .neq 34 (.agg #[.int .i64 x.kind, .string x.name, .int .i64 x.of, .int .i64 0]) (.agg #[.int .i64 y.kind, .string y.name, .int .i64 y.of, .int .i64 0])).run Tryd.prog W = .ok (.bool true) W := fun W => by
              rw [neq_tok, key_false, decide_eq_false hke]; rfl
            have HA := Lib.hid (HNO.out hke)
            clear hke HNO HYE
            go_wp2
            go_region
            all_goals
              go_wp2
              go_ret
              exact ⟨ret_bool HA.out.symm, hkp.out.trans (((Fr.of_alloc _ _ _).trans (Fr.of_alloc _ _ _)).trans (Fr.of_drew _ _))⟩
        · by_cases hke : keyT true x = keyT true y
          · have hneq : ∀ W, (binOp .neq 34 (.agg #[.int .i64 x.kind, .string x.name, .int .i64 x.of, .int .i64 x.pos]) (.agg #[.int .i64 y.kind, .string y.name, .int .i64 y.of, .int .i64 y.pos])).run Tryd.prog W = .ok (.bool false) W := fun W => by
              rw [neq_tok, key_true, decide_eq_true hke]; rfl
            have HY := Lib.hid (HYE.out hke)
            clear hke HNO HYE
            go_wp2
            go_region
            all_goals
              go_wp2
              go_roundw
              case rel => exact ⟨k + 1, by go_num, by omega, Lib.hid (hkp.out.trans (((Fr.of_alloc _ _ _).trans (Fr.of_alloc _ _ _)).trans (Fr.of_drew _ _))), HY⟩
              case measure => simp [intOf]; omega
          · have hneq : ∀ W, (binOp .neq 34 (.agg #[.int .i64 x.kind, .string x.name, .int .i64 x.of, .int .i64 x.pos]) (.agg #[.int .i64 y.kind, .string y.name, .int .i64 y.of, .int .i64 y.pos])).run Tryd.prog W = .ok (.bool true) W := fun W => by
              rw [neq_tok, key_true, decide_eq_false hke]; rfl
            have HA := Lib.hid (HNO.out hke)
            clear hke HNO HYE
            go_wp2
            go_region
            all_goals
              go_wp2
              go_ret
              exact ⟨ret_bool HA.out.symm, hkp.out.trans (((Fr.of_alloc _ _ _).trans (Fr.of_alloc _ _ _)).trans (Fr.of_drew _ _))⟩
      · have hlti : ¬ (k : Int) < n := by omega
        have HA : Hid (sameS pl la lc = true) := Lib.hid (same_yes (by rw [HN.out, HE.out]) (fun j x y h1 h2 => hall.out j x y (by have := (List.getElem?_eq_some_iff.1 h1).1; rw [HN.out] at this; omega) h1 h2))
        go_wp2
        go_ret
        exact ⟨ret_bool HA.out.symm, hkp.out⟩
  · have h1 : ((la.length : Int) != (lc.length : Int)) = true := by rw [bne_iff_ne]; omega
    have HA : Hid (sameS pl la lc = false) := Lib.hid (same_len hne)
    go_enter Tryd.func12, Tryd.ntmps12
    go_wp2
    go_ret
    exact ⟨ret_bool HA.out.symm, Fr.refl _ _⟩

end Go.Proofs.YthceckpeccbpiaaDoor
