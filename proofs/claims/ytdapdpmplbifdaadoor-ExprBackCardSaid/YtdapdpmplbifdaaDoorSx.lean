/- Contracts and lemmas: Sx -/
import Derived.Test.YtdapdpmplbifdaaDoorWh
import Derived.RegionTactic
import Derived.BigRegion
namespace Go.Proofs.YtdapdpmplbifdaaDoor
set_option linter.unusedVariables false
set_option linter.unusedSimpArgs false
open Go.RowKit Go.ChangeShapes Go.WideShapes
theorem neq_trm (k o k' o' : Int) (x x' : ByteArray) (W : World) :
    (binOp .neq 45 (.agg #[.int .i64 k, .int .i64 o, .string x]) (.agg #[.int .i64 k', .int .i64 o', .string x'])).run Tryd.prog W = .ok (.bool (!decide (k = k' ∧ bs x = bs x' ∧ o = o'))) W := by
  by_cases h1 : k = k'
  · subst h1
    by_cases h3 : o = o'
    · subst h3
      by_cases h2 : bs x = bs x'
      · have := bs_inj h2
        subst this
        go_simp
      · have q : (x.toList == x'.toList) = false := by rw [bs_toList, bs_toList]; simpa using h2
        go_simp
    · have q : (o == o') = false := by simp [h3]
      go_simp
  · have q : (k == k') = false := by simp [h1]
    go_simp
instance tokDec (a b : Tok) : Decidable (a = b) := decidable_of_iff (a.kind = b.kind ∧ a.name = b.name ∧ a.of = b.of) ⟨fun h => by
  obtain ⟨k, n, o⟩ := a
  obtain ⟨k', n', o'⟩ := b
  obtain ⟨h1, h2, h3⟩ := h
  cases h1; cases h2; cases h3; rfl, fun h => by subst h; exact ⟨rfl, rfl, rfl⟩⟩
theorem trm_key (x y : TrmB) : decide (x.op = y.op ∧ bs x.name = bs y.name ∧ x.of = y.of) = decide (x.tok = y.tok) := by
  rw [decide_eq_decide]; simp [TrmB.tok]
/-- the same terms -/
def sameX (a b : List TrmB) : Bool := decide (a.map TrmB.tok = b.map TrmB.tok)
theorem samex_len {a b : List TrmB} (h : a.length ≠ b.length) : sameX a b = false := by
  unfold sameX
  rw [decide_eq_false_iff_not]
  intro e
  have := congrArg List.length e
  simp at this
  exact h this
theorem samex_no {a b : List TrmB} {k : Nat} {x y : TrmB} (hx : a[k]? = some x) (hy : b[k]? = some y) (h : x.tok ≠ y.tok) : sameX a b = false := by
  unfold sameX
  rw [decide_eq_false_iff_not]
  intro e
  have := congrArg (fun l => l[k]?) e
  simp [hx, hy] at this
  exact h this
theorem samex_yes {a b : List TrmB} (hl : a.length = b.length) (h : ∀ (k : Nat) (x y : TrmB), a[k]? = some x → b[k]? = some y → x.tok = y.tok) : sameX a b = true := by
  unfold sameX
  rw [decide_eq_true_eq]
  apply List.ext_getElem?
  intro k
  rw [List.getElem?_map, List.getElem?_map]
  cases hx : a[k]? with
  | none =>
    have : b[k]? = none := by rw [List.getElem?_eq_none_iff] at hx ⊢; omega
    rw [this]
  | some x =>
    cases hy : b[k]? with
    | none => rw [List.getElem?_eq_none_iff] at hy; have := (List.getElem?_eq_some_iff.1 hx).1; omega
    | some y => exact congrArg some (h k x y hx hy)
set_option maxRecDepth 20000 in
set_option maxHeartbeats 4000000 in
theorem ksamex_any {w : World} {va vc : Value} {la lc : List TrmB} (ha : ReadsX w va la) (hc : ReadsX w vc lc) (hl : la.length ≤ 1000000) (hl2 : lc.length ≤ 1000000) :
    Calls Tryd.prog 13 #[va, vc] w (KeptPost (.bool (sameX la lc)) w) := by
  obtain ⟨ao, c, rfl, _, hca⟩ := ha
  obtain ⟨bo, d, rfl, _, hcb⟩ := hc
  have HCA := Lib.hid hca
  have HCB := Lib.hid hcb
  clear hca hcb
  by_cases hne : la.length = lc.length
  · have HE := Lib.hid hne
    rw [← hne] at hl2 ⊢
    generalize hn : la.length = n at *
    have HN := Lib.hid hn
    clear hn hne
    have H0 : Hid (Kept w w) := Lib.hid (Fr.refl _ _)
    go_enter Tryd.func13, Tryd.ntmps13
    go_wp2
    go_loopw [13] (fun i wr => ∃ k : Nat, i = .int .i64 k ∧ k ≤ n ∧ Hid (Kept w wr) ∧ Hid (∀ (j : Nat) (x y : TrmB), j < k → la[j]? = some x → lc[j]? = some y → x.tok = y.tok)) (fun i _ => n - (intOf i).toNat)
    case atStart => exact ⟨0, rfl, by omega, H0, Lib.hid (fun j x y h => by omega)⟩
    case round =>
      obtain ⟨k, rfl, hk, hkp, hall⟩ := hrel
      clear H0
      by_cases hlt : k < n
      · have hlti : (k : Int) < n := by omega
        obtain ⟨x, hx⟩ : ∃ x, la[k]? = some x := ⟨_, List.getElem?_eq_getElem (by have := HN.out; omega)⟩
        obtain ⟨y, hy⟩ : ∃ y, lc[k]? = some y := ⟨_, List.getElem?_eq_getElem (by have := HE.out; have := HN.out; omega)⟩
        obtain ⟨g, off, rfl, d0, d1, d2⟩ := HCA.out k x hx
        obtain ⟨g', off', rfl, e0, e1, e2⟩ := HCB.out k y hy
        have c0 := hkp.out.cell d0 (fun x => x)
        have c1 := hkp.out.cell d1 (fun x => x)
        have c2 := hkp.out.cell d2 (fun x => x)
        have b0 := hkp.out.cell e0 (fun x => x)
        have b1 := hkp.out.cell e1 (fun x => x)
        have b2 := hkp.out.cell e2 (fun x => x)
        have HNO : Hid (x.tok ≠ y.tok → sameX la lc = false) := Lib.hid (samex_no hx hy)
        have HYE : Hid (x.tok = y.tok → ∀ (j : Nat) (x y : TrmB), j < k + 1 → la[j]? = some x → lc[j]? = some y → x.tok = y.tok) := Lib.hid (fun h j x' y' hj h1 h2 => by
          rcases Nat.lt_or_ge j k with h3 | h3
          · exact hall.out j x' y' h3 h1 h2
          · obtain rfl : j = k := by omega
            rw [hx] at h1; rw [hy] at h2
            cases h1; cases h2; exact h)
        clear d0 d1 d2 e0 e1 e2 hx hy hall
        by_cases hke : x.tok = y.tok
        · have hneq : ∀ W, (binOp .neq 45 (.agg #[.int .i64 x.op, .int .i64 x.of, .string x.name]) (.agg #[.int .i64 y.op, .int .i64 y.of, .string y.name])).run Tryd.prog W = .ok (.bool false) W := fun W => by
            rw [neq_trm, trm_key, decide_eq_true hke]; rfl
          have HY := Lib.hid (HYE.out hke)
          clear hke HNO HYE
          go_wp2
          go_region
          all_goals
            go_wp2
            go_roundw
            case rel => exact ⟨k + 1, by go_num, by omega, Lib.hid (hkp.out.trans (Fr.of_drew _ _)), HY⟩
            case measure => simp [intOf]; omega
        · have hneq : ∀ W, (binOp .neq 45 (.agg #[.int .i64 x.op, .int .i64 x.of, .string x.name]) (.agg #[.int .i64 y.op, .int .i64 y.of, .string y.name])).run Tryd.prog W = .ok (.bool true) W := fun W => by
            rw [neq_trm, trm_key, decide_eq_false hke]; rfl
          have HA := Lib.hid (HNO.out hke)
          clear hke HNO HYE
          go_wp2
          go_region
          all_goals
            go_wp2
            go_ret
            exact ⟨ret_bool HA.out.symm, hkp.out.trans (Fr.of_drew _ _)⟩
      · have hlti : ¬ (k : Int) < n := by omega
        have HA : Hid (sameX la lc = true) := Lib.hid (samex_yes (by rw [← HE.out, HN.out]) (fun j x y h1 h2 => hall.out j x y (by have := (List.getElem?_eq_some_iff.1 h1).1; have := HN.out; omega) h1 h2))
        clear hall
        go_wp2
        go_ret
        exact ⟨ret_bool HA.out.symm, hkp.out⟩
  · have HA := Lib.hid (samex_len hne)
    have hni : ((la.length : Int) == (lc.length : Int)) = false := by rw [beq_eq_false_iff_ne]; omega
    clear hne
    go_enter Tryd.func13, Tryd.ntmps13
    go_wp2
    go_ret
    exact ⟨ret_bool HA.out.symm, Fr.refl _ _⟩
/-- too many, or a name too long -/
def largeX (l : List TrmB) : Bool := decide (300 < l.length) || l.any fun t => decide (100 < t.name.size)
set_option maxHeartbeats 1000000 in
theorem klargex_any {w : World} {v : Value} {l : List TrmB} (h : ReadsX w v l) (hl : (l.length : Int) ≤ 9223372036854775807) :
    Calls Tryd.prog 16 #[v] w fun e w' => e = .returned (.bool (largeX l)) ∧ w = w' := by
  obtain ⟨ao, c, rfl, _, hc⟩ := h
  have HC := Lib.hid hc
  clear hc
  have HB : Hid (∀ (k : Nat) (t : TrmB), l.length ≤ 300 → l[k]? = some t → 100 < t.name.size → largeX l = true) := Lib.hid (fun k t h1 h2 h3 => by
    unfold largeX
    have : (l.any fun t => decide (100 < t.name.size)) = true := List.any_eq_true.2 ⟨t, List.mem_of_getElem? h2, by simpa using h3⟩
    rw [this]; simp)
  have HG : Hid (l.length ≤ 300 → (∀ (k : Nat) (t : TrmB), k < l.length → l[k]? = some t → ¬ 100 < t.name.size) → largeX l = false) := Lib.hid (fun h1 h2 => by
    unfold largeX
    have : (l.any fun t => decide (100 < t.name.size)) = false := by
      rw [List.any_eq_false]
      intro t ht
      obtain ⟨k, hk⟩ := List.mem_iff_getElem?.1 ht
      have := h2 k t (List.getElem?_eq_some_iff.1 hk).1 hk
      simpa using this
    rw [this, show decide (300 < l.length) = false by simp; omega]; rfl)
  generalize hn : l.length = n at *
  have HN := Lib.hid hn
  clear hn
  by_cases h1 : 300 < n
  · have h1i : (300 : Int) < n := by omega
    have HA : Hid (largeX l = true) := Lib.hid (by unfold largeX; rw [HN.out, decide_eq_true h1]; rfl)
    clear h1
    go_enter Tryd.func16, Tryd.ntmps16
    go_wp2
    go_ret
    exact ⟨ret_bool HA.out.symm, rfl⟩
  · have h1i : ¬ (300 : Int) < n := by omega
    go_enter Tryd.func16, Tryd.ntmps16
    go_wp2
    go_loop [9] (fun i => ∃ k : Nat, i = .int .i64 k ∧ k ≤ n ∧ Hid (∀ (j : Nat) (t : TrmB), j < k → l[j]? = some t → ¬ 100 < t.name.size)) (fun i => n - (intOf i).toNat)
    case atStart => exact ⟨0, rfl, by omega, Lib.hid (fun j t h => by omega)⟩
    case round =>
      obtain ⟨k, rfl, hk, hall⟩ := hrel
      by_cases hlt : k < n
      · have hlti : (k : Int) < n := by omega
        obtain ⟨t, ht⟩ : ∃ t, l[k]? = some t := ⟨_, List.getElem?_eq_getElem (by have := HN.out; omega)⟩
        obtain ⟨g, off, rfl, d0, d1, d2⟩ := HC.out k t ht
        by_cases hs : 100 < t.name.size
        · have hsi : (100 : Int) < (t.name.size : Int) := by omega
          have HA := Lib.hid (HB.out k t (by omega) ht hs)
          clear hs ht
          go_wp2
          go_ret
          exact ⟨ret_bool HA.out.symm, rfl⟩
        · have hsi : ¬ (100 : Int) < (t.name.size : Int) := by omega
          have HA : Hid (∀ (j : Nat) (t : TrmB), j < k + 1 → l[j]? = some t → ¬ 100 < t.name.size) := Lib.hid (fun j t' hj h2 => by
            rcases Nat.lt_or_ge j k with h3 | h3
            · exact hall.out j t' h3 h2
            · obtain rfl : j = k := by omega
              rw [ht] at h2; cases h2; exact hs)
          clear hs ht
          go_wp2
          go_round
          case rel => exact ⟨k + 1, by go_num, by omega, HA⟩
          case measure => simp [intOf]; omega
      · have hlti : ¬ (k : Int) < n := by omega
        have HA := Lib.hid (HG.out (by omega) (fun j t h2 h3 => hall.out j t (by omega) h3))
        go_wp2
        go_ret
        exact ⟨ret_bool HA.out.symm, rfl⟩

end Go.Proofs.YtdapdpmplbifdaaDoor
