/- What looking whether a set may be does. -/
import Derived.Test.YtdapklamemalgaaOfS
namespace Go.Proofs.Ytdapklamemalgaa
set_option linter.unusedVariables false
set_option linter.unusedSimpArgs false
open Go.RowKit Go.ChangeShapes Go.WideShapes

set_option maxHeartbeats 1000000 in
theorem may_set {w : World} {G : Nat → Prop} {v : Value} {l : List ByteArray} (h : Reads w G v (wcells l)) (hl : l.length ≤ 100000) (hs : Small maxLen l) :
    Calls Try.prog 15 #[v] w (KeptPost (.bool (mayL l)) w) := by
  obtain ⟨ao, c, rfl, _, hc⟩ := h
  rw [wcells_len]
  have HC := Lib.hid hc
  have HS := Lib.hid hs
  clear hc hs
  generalize hn : l.length = n at hl ⊢
  have HN := Lib.hid hn
  by_cases h0 : n = 0
  · have g0 : ((n : Int) == 0) = true := by simp [h0]
    have HA := Lib.hid (mayL_count (l := l) (.inl (by omega)))
    clear hn
    go_enter Try.func15, Try.ntmps15
    go_wp2
    go_ret
    exact ⟨ret_bool HA.out.symm, Fr.refl _ _⟩
  have g0 : ((n : Int) == 0) = false := by simp [h0]
  by_cases h16 : 16 < n
  · have g1 : 16 < (n : Int) := by omega
    have HA := Lib.hid (mayL_count (l := l) (.inr (by omega)))
    clear hn
    go_enter Try.func15, Try.ntmps15
    go_wp2
    go_ret
    exact ⟨ret_bool HA.out.symm, Fr.refl _ _⟩
  have g1 : ¬ 16 < (n : Int) := by omega
  have H16 : Hid (1 ≤ n ∧ n ≤ 16) := Lib.hid (by omega)
  clear hn
  have H0 : Hid (Kept w w) := Lib.hid (Fr.refl _ _)
  go_enter Try.func15, Try.ntmps15
  go_wp2
  clear g0 g1 h0
  go_loopw [15] (fun i wr => ∃ k : Nat, k ≤ n ∧ i = .int .i64 k ∧ Hid (Kept w wr) ∧ Hid (Upto l k)) (fun i _ => n - (intOf i).toNat)
  case atStart => exact ⟨0, by omega, rfl, H0, Lib.hid (fun j y hj => by omega)⟩
  case round =>
    obtain ⟨k, hk, rfl, HK, hall⟩ := hrel
    clear H0
    by_cases hlt : k < n
    · have h1 : (k : Int) < n := by omega
      obtain ⟨x, hx⟩ : ∃ x, l[k]? = some x := ⟨_, List.getElem?_eq_getElem (by have := HN.out; omega)⟩
      obtain ⟨g, off, rfl, _, hcell0⟩ := HC.out k _ (wcells_get hx)
      have hcell := HK.out.cell hcell0 (fun x => x)
      have hsx := Lib.hid (HS.out x (List.mem_of_getElem? hx))
      have HX := Lib.hid hx
      clear hx hcell0
      cases hm : mayS x
      · have HA := Lib.hid (mayL_bad HX.out hm)
        go_wp2_with (go_at_call 35; refine (may_any _ _ hsx.out).mono ?_; rintro e w' ⟨rfl, hk1⟩; rw [hm]; replace HK := Lib.hid (HK.out.trans hk1); clear hk1)
        go_ret
        exact ⟨ret_bool HA.out.symm, HK.out⟩
      · by_cases hk0 : k = 0
        · have e0 : ¬ 0 < (k : Int) := by omega
          clear hk0
          have HA := Lib.hid (hall.out.step HX.out hm (fun i y hi => by omega))
          go_wp2_with (go_at_call 35; refine (may_any _ _ hsx.out).mono ?_; rintro e w' ⟨rfl, hk1⟩; rw [hm]; replace HK := Lib.hid (HK.out.trans hk1); clear hk1)
          go_roundw
          case rel => exact ⟨k + 1, by omega, by go_num, HK, HA⟩
          case measure => simp [intOf]; omega
        · obtain ⟨k, rfl⟩ : ∃ k', k = k' + 1 := ⟨k - 1, by omega⟩
          obtain ⟨y, hy⟩ : ∃ y, l[k]? = some y := ⟨_, List.getElem?_eq_getElem (by have := HN.out; omega)⟩
          obtain ⟨g', off', he, _, hcellp⟩ := HC.out k _ (wcells_get hy)
          cases he
          have hcell2 := HK.out.cell hcellp (fun x => x)
          have hsy := Lib.hid (HS.out y (List.mem_of_getElem? hy))
          have HY := Lib.hid hy
          clear hy hcellp hk0
          have e1 : ((k + 1 : Nat) : Int) - 1 = k := by omega
          have e0 : 0 < ((k + 1 : Nat) : Int) := by omega
          cases hls : lessS y x
          · have HA := Lib.hid (mayL_fall HY.out HX.out hls)
            have hcell3 : ∀ (wx : World), Kept wr wx → wx.cell? ⟨g, off + k, none⟩ = some (.string y) := fun wx hx => hx.cell hcell2 (fun x => x)
            go_wp2_with fail
            refine (may_any _ _ hsx.out).mono ?_
            rintro e w' ⟨rfl, hk1⟩
            rw [hm]
            have hcy := hcell3 w' hk1
            replace HK := Lib.hid (HK.out.trans hk1)
            clear hk1 hcell hcell2 hcell3
            go_wp2_with fail
            refine (less_any y x _ hsy.out hsx.out).mono ?_
            rintro e w' ⟨rfl, rfl⟩
            rw [hls]
            go_wp2
            go_ret
            exact ⟨ret_bool HA.out.symm, HK.out⟩
          · have HA := Lib.hid (hall.out.step HX.out hm (fun i z hi hz => by
              obtain rfl : i = k := by omega
              rw [HY.out] at hz; cases hz; exact hls))
            have hcell3 : ∀ (wx : World), Kept wr wx → wx.cell? ⟨g, off + k, none⟩ = some (.string y) := fun wx hx => hx.cell hcell2 (fun x => x)
            go_wp2_with fail
            refine (may_any _ _ hsx.out).mono ?_
            rintro e w' ⟨rfl, hk1⟩
            rw [hm]
            have hcy := hcell3 w' hk1
            replace HK := Lib.hid (HK.out.trans hk1)
            clear hk1 hcell hcell2 hcell3
            go_wp2_with fail
            refine (less_any y x _ hsy.out hsx.out).mono ?_
            rintro e w' ⟨rfl, rfl⟩
            rw [hls]
            go_wp2
            go_roundw
            case rel => exact ⟨k + 2, by omega, by go_num, HK, HA⟩
            case measure => simp [intOf]; omega
    · have HA := Lib.hid (mayL_all (l := l) (by have := HN.out; have := H16.out; omega) (by have := HN.out; have := H16.out; omega) (fun j y hj hy => hall.out j y (by have := HN.out; omega) hy))
      go_wp2
      go_ret
      exact ⟨ret_bool HA.out.symm, HK.out⟩
end Go.Proofs.Ytdapklamemalgaa
