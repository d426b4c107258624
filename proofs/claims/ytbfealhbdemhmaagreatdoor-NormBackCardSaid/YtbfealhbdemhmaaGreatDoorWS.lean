/- Contracts and lemmas: WS -/
import Derived.Test.YtbfealhbdemhmaaGreatDoorWR
namespace Go.Proofs.YtbfealhbdemhmaaGreatDoor
set_option linter.unusedVariables false
set_option linter.unusedSimpArgs false
open Go.RowKit Go.ChangeShapes Go.WideShapes
set_option maxRecDepth 20000
set_option maxHeartbeats 4000000 in
theorem normshows_walk {w : World} {x : Value} (hx : Atm.Rows6At w x) {va0 : Value} {s : List ByteArray} (hxl : Reads w (fun _ => True) va0 (wcells s)) (hlm : (s.length : Int) ≤ 9223372036854775807) (hN : Norm6 w) : Calls Tryz.prog 5 #[x, va0] w (KeptPost (.bool true) w) := by
  have HX := Lib.hid hx
  have HN := Lib.hid hN
  have HXL := Lib.hid hxl
  have HWN : Hid ((wcells s).length = s.length) := Lib.hid (wcells_len s)
  obtain ⟨aol, cl, rfl, _, hcl⟩ := hxl
  have HCL := Lib.hid hcl
  clear hcl
  obtain ⟨v, src, rfl, _⟩ := hx
  clear hN
  have HW : Hid (Kept w (w.alloc (.cells #[v 0, v 1, v 2, v 3, v 4, v 5] 24))) := Lib.hid (Fr.of_alloc _ _ _)
  go_enter Tryz.func5, Tryz.ntmps5
  go_wp2_with fail
  refine (kawake6_any _ (HN.out.later HW.out)).mono ?_
  rintro e w1 ⟨rfl, hk1⟩
  have HK1 := Lib.hid (HW.out.trans hk1)
  have hc1 : ∀ k, k < 6 → w1.cell? ⟨w.heap.size, k, none⟩ = some (v k) := fun k hk6 => hk1.cell (Atm.box_cell w v _ hk6) (fun x => x)
  have d0 := hc1 0 (by omega)
  have d1 := hc1 1 (by omega)
  have d2 := hc1 2 (by omega)
  have d3 := hc1 3 (by omega)
  have d4 := hc1 4 (by omega)
  have d5 := hc1 5 (by omega)
  clear hc1 hk1
  go_wp2_with fail
  refine (Atm.tables_any (HX.out.later HK1.out)).mono ?_
  rintro e w2 ⟨hk2, h2⟩
  have HK2 := Lib.hid (HK1.out.trans hk2)
  clear hk2 d0 d1 d2 d3 d4 d5
  rcases h2 with ⟨B, F, B', F', L, rfl, ht, hr, hg, hnm⟩ | rfl
  rotate_left
  · go_wp2
    go_ret
    exact ⟨rfl, HK2.out⟩
  have HT := Lib.hid ht
  have HR := Lib.hid hr
  have HG := Lib.hid hg
  have HNM := Lib.hid hnm
  clear ht hr hg hnm
  have HL2 := Lib.hid (HXL.out.new HK2.out)
  generalize hn : (wcells s).length = n at *
  have HNW := Lib.hid hn
  have HNN : Hid (s.length = n) := Lib.hid HWN.out.symm
  clear hn
  by_cases hsl : 60 < n
  · have hsi : (60 : Int) < (n : Int) := by omega
    go_wp2
    go_ret
    exact ⟨rfl, HK2.out⟩
  have hsi : ¬ (60 : Int) < (n : Int) := by omega
  go_wp2
  go_loop [29] (fun i => ∃ k : Nat, i = .int .i64 k ∧ k ≤ n ∧ Hid (∀ (j : Nat) (y : ByteArray), j < k → s[j]? = some y → y.size ≤ 100)) (fun i => n - (intOf i).toNat)
  case atStart => exact ⟨0, rfl, by omega, Lib.hid (fun j t h => by omega)⟩
  case round =>
    obtain ⟨k, rfl, hk, hall⟩ := hrel
    by_cases hlt : k < n
    · have hlti : (k : Int) < n := by omega
      obtain ⟨y, hy⟩ : ∃ y, s[k]? = some y := ⟨_, List.getElem?_eq_getElem (by rw [HNN.out]; exact hlt)⟩
      obtain ⟨g, off, rfl, _, hcell0⟩ := HCL.out k _ (wcells_get hy)
      have hcell := HK2.out.cell hcell0 (fun x => x)
      clear hcell0
      by_cases hys : 100 < y.size
      · have hysi : (100 : Int) < (y.size : Int) := by omega
        go_wp2
        go_ret
        exact ⟨rfl, HK2.out⟩
      · have hysi : ¬ (100 : Int) < (y.size : Int) := by omega
        have HA : Hid (∀ (j : Nat) (t : ByteArray), j < k + 1 → s[j]? = some t → t.size ≤ 100) := Lib.hid (fun j t' hj h2 => by
          rcases Nat.lt_or_ge j k with h3 | h3
          · exact hall.out j t' h3 h2
          · obtain rfl : j = k := by omega
            rw [hy] at h2; cases h2; omega)
        clear hy
        go_wp2
        go_round
        case rel => exact ⟨k + 1, by go_num, by omega, HA⟩
        case measure => simp [intOf]; omega
    · have hlti : ¬ (k : Int) < n := by omega
      have HS1 : Hid (Small 100000 s) := Lib.hid (fun y hy => by
        obtain ⟨j, hj⟩ := List.mem_iff_getElem?.1 hy
        have := hall.out j y (by have := (List.getElem?_eq_some_iff.1 hj).1; rw [HNN.out] at this; omega) hj
        omega)
      clear hall
      have H0 : Hid (JoinPart w2 (w2.alloc (Obj.cells #[] 43)) [] (.slice (some ⟨w2.heap.size, 0, none⟩) 0 0)) := Lib.hid ⟨own_new (heap_alloc_new w2 _) (Nat.le_refl _), Fr.of_alloc _ _ _⟩
      have HSR := Lib.hid ((HL2.out.new H0.out.2).src Tryz.underlying33 one_str)
      rw [HNW.out] at HSR
      go_wp2_with (at_builtin; refine list_app rfl (.tmp 39) (.tmp 40) 33 33 rfl Tryz.slice33 rfl (by exact H0.out.1) rfl (by exact HSR.out) (by unfold maxLen; simp only [List.length_nil]; omega) (by simp only [List.length_nil]; omega) (by exact H0.out.2.size) ?_; intro v3 w3 hp3; rw [← HNW.out] at hp3; have H3 := Lib.hid (H0.out.step hp3); clear hp3)
      rw [List.nil_append] at H3
      have HK3 := Lib.hid (HK2.out.trans H3.out.2)
      have HV3 := Lib.hid ((Reads.of_row H3.out.1).any)
      refine (HN.out.show6 w3 HK3.out F B L _ s (HT.out.later H3.out.2) HV3.out (by rw [HNN.out]; omega) HS1.out).mono ?_
      rintro e w4 ⟨rfl, hk4⟩
      have HK4 := Lib.hid (HK3.out.trans hk4)
      have HK24 := Lib.hid (H3.out.2.trans hk4)
      have HV4 := Lib.hid (HV3.out.new hk4)
      clear hk4
      go_wp2_with fail
      have HSH := Lib.hid (rshow_any (HR.out.later HK24.out) HG.out (fun a x hx => by have := HNM.out a x hx; omega) (HL2.out.new HK24.out) (by rw [HNN.out]; omega) HS1.out)
      refine HSH.out.mono ?_
      rintro e w5 ⟨rfl, hk5⟩
      have HK5 := Lib.hid (HK4.out.trans hk5)
      have HV5 := Lib.hid (HV4.out.new hk5)
      have HL5 := Lib.hid (HL2.out.new (HK24.out.trans hk5))
      clear hk5 HSH
      generalize (showL L s).1 = rx at *
      generalize (showL L s).2 = rq at *
      go_wp2_with fail
      refine (equal_any HV5.out HL5.out (by rw [HNN.out]; omega) (by rw [HNN.out]; omega)).mono ?_
      rintro e w6 ⟨rfl, m, rfl⟩
      rw [decide_eq_true rfl]
      have HK6 := Lib.hid (HK5.out.trans (Fr.of_drewN (fun _ => False) w5 m))
      go_wp2
      go_ret
      exact ⟨rfl, HK6.out⟩

end Go.Proofs.YtbfealhbdemhmaaGreatDoor
