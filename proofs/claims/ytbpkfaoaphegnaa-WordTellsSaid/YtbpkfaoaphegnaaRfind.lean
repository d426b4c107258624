/- Find of the reference. -/
import Derived.Test.YtbpkfaoaphegnaaFind
import Derived.Deep.DeepCutAuto
import Derived.Deep.CutBlock
namespace Go.Proofs.Ytbpkfaoaphegnaa
set_option linter.unusedVariables false
open Go.RowKit

theorem torn_eq' (s : ByteArray) : ((s.size : Int) % 2 == 1) = tornB s := by
  rw [Bool.eq_iff_iff]; simp [tornB]; omega

theorem stands_atoms {w v : ByteArray} {i : Nat} (hv : tornB v = false) (h0 : v.size ≠ 0) : standsB w v i = true ↔ ∀ k, k < v.size / 2 → (atoms (bs w))[i + k]? = (atoms (bs v))[k]? := by
  have hte := tornB_false hv
  simp only [standsB, decide_eq_true_eq]
  constructor
  · intro h k hk
    have := congrArg (fun l => (atoms l)[k]?) h
    rw [show v.size = 2 * (v.size / 2) by omega, atoms_take, atoms_drop, List.getElem?_take, if_pos hk, List.getElem?_drop] at this
    exact this
  · intro h
    have hl := h (v.size / 2 - 1) (by omega)
    have hsome : ((atoms (bs v))[v.size / 2 - 1]?).isSome = true := by
      rw [List.getElem?_eq_getElem (by rw [atoms_len, bs_len]; omega)]; rfl
    rw [← hl] at hsome
    have hlt : i + (v.size / 2 - 1) < w.size / 2 := by
      obtain ⟨x, hx⟩ := Option.isSome_iff_exists.1 hsome
      have := (List.getElem?_eq_some_iff.1 hx).1
      rwa [atoms_len, bs_len] at this
    have hlen : (((bs w).drop (2 * i)).take v.size).length = v.size := by simp [bs_len]; omega
    refine atoms_inj (by rw [hlen]; exact hte) (by rw [bs_len]; exact hte) ?_
    apply List.ext_getElem?
    intro k
    rw [show v.size = 2 * (v.size / 2) by omega, atoms_take, atoms_drop, List.getElem?_take]
    split
    · rename_i hk
      rw [List.getElem?_drop]; exact h k hk
    · rename_i hk
      rw [List.getElem?_eq_none (by rw [atoms_len, bs_len]; omega)]

set_option maxHeartbeats 4000000 in
theorem rfind_any (w v : ByteArray) (i : Int) (W : World) (hw : w.size ≤ 100000) (hv : v.size ≤ 100000) (wi : (Lit.int .i64 i).wf = true) :
    Calls Try.prog 22 #[.string w, .string v, .int .i64 i] W (FindPost w v i W) := by
  obtain ⟨hi0, hi1⟩ := i64_bounds wi
  clear wi
  have t1 := torn_eq' v
  cases ht : tornB v
  · rw [ht] at t1
    by_cases h0 : v.size = 0
    · have HA := Lib.hid (find_none (w := w) (i := i) (.inr h0))
      have h1 : ((v.size : Int) == 0) = true := by simp [h0]
      clear h0
      go_enter Try.func22, Try.ntmps22
      go_wp2_with fail
      go_ret
      exact ⟨_, rfl, HA.out, Fr.refl _ _⟩
    · have h1 : ((v.size : Int) == 0) = false := by rw [beq_eq_false_iff_ne]; omega
      have HS := fun k => Lib.hid (stands_atoms (w := w) (i := k) ht h0)
      obtain ⟨m, hm⟩ : ∃ m, m = w.size / 2 := ⟨_, rfl⟩
      obtain ⟨q, hq⟩ : ∃ q, q = v.size / 2 := ⟨_, rfl⟩
      have HL : Hid ((cellsOf (atoms (bs w))).length = m) := Lib.hid (by simp [cellsOf, atoms_len, bs_len, hm])
      have HL2 : Hid ((cellsOf (atoms (bs v))).length = q) := Lib.hid (by simp [cellsOf, atoms_len, bs_len, hq])
      have hmb : m ≤ 50000 := by omega
      have hqb : q ≤ 50000 := by omega
      have HM := Lib.hid hm
      have HQ := Lib.hid hq
      have HT := Lib.hid ht
      have H0 := Lib.hid h0
      have HS' := Lib.hid HS
      clear hm hq ht h0 HS
      go_enter Try.func22, Try.ntmps22
      go_wp2_with fail
      refine (ratoms_any w _ hw).mono ?_
      rintro e w1 ⟨v1, rfl, hrow1, hk1⟩
      have HK1 := Lib.hid hk1
      have hr1 := (Reads.of_row hrow1).any
      clear hk1 hrow1
      go_wp2_with fail
      refine (ratoms_any v _ hv).mono ?_
      rintro e w2 ⟨v2, rfl, hrow2, hk2⟩
      have HK2 := Lib.hid (HK1.out.trans hk2)
      have HR1 := Lib.hid (hr1.new hk2)
      have HR2 := Lib.hid (Reads.of_row hrow2).any
      obtain ⟨a1, c1, hv1, _, hx1⟩ := HR1.out
      obtain ⟨a2, c2, hv2, _, hx2⟩ := HR2.out
      rw [HL.out] at hv1
      rw [HL2.out] at hv2
      subst hv1 hv2
      have HX1 := Lib.hid hx1
      have HX2 := Lib.hid hx2
      clear hk2 hrow2 hr1 HK1 hx1 hx2 HR1 HR2
      go_wp2_with fail
      clear h1 t1
      go_loopw [9] (fun p wr => ∃ k n : Nat, k ≤ m ∧ p = .int .i64 k ∧ wr = w2.drewN n ∧ Hid (∀ j : Nat, j < k → i ≤ j → standsB w v j = false)) (fun p _ => m - (intOf p).toNat)
      case atStart => exact ⟨0, 0, by omega, rfl, rfl, Lib.hid (fun j hj => by omega)⟩
      case round =>
        obtain ⟨k, n, hk, rfl, rfl, hall⟩ := hrel
        by_cases hlt : k < m
        · have h1 : (k : Int) < m := by omega
          by_cases hf : (k : Int) < i
          · have HA : Hid (∀ j : Nat, j < k + 1 → i ≤ j → standsB w v j = false) := Lib.hid (fun j hj hij => by omega)
            go_wp2_with fail
            go_roundw
            case rel => exact ⟨k + 1, n, by omega, by go_num, rfl, HA⟩
            case measure => simp [intOf]; omega
          · have hf2 : i ≤ (k : Int) := by omega
            have hf3 : decide ((k : Int) < i) = false := by simpa using hf
            clear hf
            go_upto_block 2 with (fail)
            go_cut [10] (fun t10 wr => t10 = .bool (standsB w v k) ∧ ∃ n', wr = w2.drewN n')
            case first =>
              go_wp2_with fail
              go_loopw [10, 11] (fun t p wr => ∃ kk n' : Nat, kk ≤ q ∧ t = .bool true ∧ p = .int .i64 kk ∧ wr = w2.drewN n' ∧ Hid (∀ j : Nat, j < kk → (atoms (bs w))[k + j]? = (atoms (bs v))[j]?)) (fun _ p _ => q - (intOf p).toNat)
              case atStart => exact ⟨0, n, by omega, rfl, rfl, rfl, Lib.hid (fun j hj => by omega)⟩
              case round =>
                obtain ⟨kk, n', hkk, rfl, rfl, rfl, hin⟩ := hrel
                by_cases hlk : kk < q
                · have h2 : (kk : Int) < q := by omega
                  obtain ⟨y, hy⟩ : ∃ y, (atoms (bs v))[kk]? = some y := ⟨_, List.getElem?_eq_getElem (by have := HL2.out; simp [cellsOf] at this; omega)⟩
                  obtain ⟨g2, o2, rfl, _, hcy⟩ := HX2.out kk _ (cells_get hy)
                  have HY := Lib.hid hy
                  clear hy
                  by_cases hout : m ≤ k + kk
                  · have d1 : decide ((m : Int) ≤ (k : Int) + (kk : Int)) = true := by simp; omega
                    have hst : standsB w v k = false := by
                      cases hs : standsB w v k with
                      | false => rfl
                      | true =>
                        have := ((HS'.out k).out.1 hs) kk (by have := HQ.out; omega)
                        rw [HY.out, List.getElem?_eq_none (by have := HL.out; simp [cellsOf] at this; omega)] at this
                        cases this
                    have e1 : IntKind.i64.wrap ((k : Int) + (kk : Int)) = (k : Int) + (kk : Int) := IntWalk.i64_in _ (by omega)
                    clear hout
                    go_wp2
                    go_quiet (fail)
                    go_wp2
                    go_meet
                    exact ⟨by rw [hst], n' + nq, by simp⟩
                  · have d1 : decide ((m : Int) ≤ (k : Int) + (kk : Int)) = false := by simp; omega
                    obtain ⟨x, hx⟩ : ∃ x, (atoms (bs w))[k + kk]? = some x := ⟨_, List.getElem?_eq_getElem (by have := HL.out; simp [cellsOf] at this; omega)⟩
                    obtain ⟨g1, o1, rfl, _, hcx⟩ := HX1.out (k + kk) _ (cells_get hx)
                    have HX := Lib.hid hx
                    have e1 : IntKind.i64.wrap ((k : Int) + (kk : Int)) = (k : Int) + (kk : Int) := IntWalk.i64_in _ (by omega)
                    have e2 : ((k : Int) + (kk : Int)).toNat = k + kk := by omega
                    have e3 : 0 ≤ (k : Int) + (kk : Int) := by omega
                    have e4 : (k : Int) + (kk : Int) < m := by omega
                    clear hx hout
                    by_cases hxy : x = y
                    · have hn : (x != y) = false := by simp [hxy]
                      have HA : Hid (∀ j : Nat, j < kk + 1 → (atoms (bs w))[k + j]? = (atoms (bs v))[j]?) := Lib.hid (fun j hj => by
                        rcases Nat.lt_or_ge j kk with h | h
                        · exact hin.out j h
                        · obtain rfl : j = kk := by omega
                          rw [HX.out, HY.out, hxy])
                      clear hxy
                      go_wp2
                      go_quiet (fail)
                      go_wp2
                      go_roundw
                      case rel => exact ⟨kk + 1, _, by omega, rfl, by go_num, rfl, HA⟩
                      case measure => simp [intOf]; omega
                    · have hn : (x != y) = true := by simpa using hxy
                      have hst : standsB w v k = false := by
                        cases hs : standsB w v k with
                        | false => rfl
                        | true =>
                          have := ((HS'.out k).out.1 hs) kk (by have := HQ.out; omega)
                          rw [HY.out, HX.out] at this
                          exact absurd (Option.some.inj this) hxy
                      clear hxy
                      go_wp2
                      go_quiet (fail)
                      go_wp2
                      go_meet
                      exact ⟨by rw [hst], n' + nq, by simp⟩
                · have h2 : ¬ (kk : Int) < q := by omega
                  have hst : standsB w v k = true := (HS'.out k).out.2 (fun j hj => hin.out j (by have := HQ.out; omega))
                  go_wp2
                  go_meet
                  exact ⟨by rw [hst], _, rfl⟩
            case rest =>
              obtain ⟨rfl, n', rfl⟩ := hcut
              cases hst : standsB w v k
              · have HA : Hid (∀ j : Nat, j < k + 1 → i ≤ j → standsB w v j = false) := Lib.hid (fun j hj hij => by
                  rcases Nat.lt_or_ge j k with h | h
                  · exact hall.out j h hij
                  · obtain rfl : j = k := by omega
                    exact hst)
                go_wp2
                go_roundw
                case rel => exact ⟨k + 1, n', by omega, by go_num, rfl, HA⟩
                case measure => simp [intOf]; omega
              · have HA := Lib.hid (find_at HT.out H0.out hf2 hst hall.out)
                go_wp2
                go_ret
                exact ⟨_, rfl, HA.out, HK2.out.trans (Fr.of_drewN _ _ _)⟩
        · have h1 : ¬ (k : Int) < m := by omega
          have HA := Lib.hid (find_not (w := w) (v := v) (i := i) HT.out H0.out (fun j hj => by
            rcases Nat.lt_or_ge j k with h | h
            · exact hall.out j h hj
            · have := H0.out
              have := HM.out
              have := tornB_false HT.out
              exact stands_far H0.out (by omega)))
          go_wp2
          go_ret
          exact ⟨_, rfl, HA.out, HK2.out.trans (Fr.of_drewN _ _ _)⟩
  · have HA := Lib.hid (find_none (w := w) (i := i) (.inl ht))
    have h1 : ((v.size : Int) == 0) = false := by have := tornB_true ht; rw [beq_eq_false_iff_ne]; omega
    rw [ht] at t1
    go_enter Try.func22, Try.ntmps22
    go_wp2_with fail
    go_ret
    exact ⟨_, rfl, HA.out, Fr.refl _ _⟩
end Go.Proofs.Ytbpkfaoaphegnaa
