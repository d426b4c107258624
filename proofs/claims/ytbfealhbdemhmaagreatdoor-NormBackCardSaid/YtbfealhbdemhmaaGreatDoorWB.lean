/- Contracts and lemmas: WB -/
import Derived.Test.YtbfealhbdemhmaaGreatDoorWS
import Derived.Test.YtbfealhbdemhmaaGreatDoorN3
namespace Go.Proofs.YtbfealhbdemhmaaGreatDoor
set_option linter.unusedVariables false
set_option linter.unusedSimpArgs false
open Go.RowKit Go.ChangeShapes Go.WideShapes
set_option maxRecDepth 20000
theorem read6_err {L : Nat → List ByteArray} {t : List UInt8} {x : List ByteArray} {n : Nat} {q : Int} (h : Read6 L t (x, n, q)) (hq : q ≠ 0) : x = [] := by
  obtain ⟨y, n', q', _, ⟨_, h2⟩ | ⟨_, r', hr, h2⟩⟩ := h
  · exact congrArg (fun z => z.1) h2
  · have e1 : x = r'.1 := congrArg (fun z => z.1) h2
    have e2 : q = r'.2.2 := congrArg (fun z => z.2.2) h2
    rcases hr with ⟨e, hm, rfl⟩ | ⟨_, rfl⟩
    · cases he : evalE L e with
      | ok s => rw [he] at e2; exact absurd e2 hq
      | error p => rw [he] at e1; exact e1
    · exact e1
theorem show_may {L : Nat → List ByteArray} {s : List ByteArray} {x : List UInt8} (h : showL L s = (x, 0)) : mayL s = true := by
  unfold showL at h
  by_cases hm : mayL s = false
  · rw [if_pos hm] at h
    have h2 : (2 : Int) = 0 := congrArg (fun z => z.2) h
    exact absurd h2 (by decide)
  · simpa using hm
theorem sayW_len {L : Nat → List ByteArray} : ∀ (l : List Int) (only first : Bool) (x : List UInt8), sayW L only first l = some x → x.length ≤ 44 * l.length
  | [], _, _, x, h => by rw [sayW] at h; cases h; simp
  | a :: r, only, first, x, h => by
    rw [sayW] at h
    split at h
    · cases h
    · obtain ⟨y, hy, rfl⟩ := Option.map_eq_some_iff.1 h
      have h1 := sayW_len r _ _ y hy
      have h2 : (sayA L a).length ≤ 40 := word_len _
      simp only [List.length_append, List.length_cons]
      split
      · simp only [List.length_nil]; omega
      · split <;> simp only [List.length_cons, List.length_nil] <;> omega
theorem sayL_len {L : Nat → List ByteArray} : ∀ (s : List ByteArray) (first : Bool) (x : List UInt8), (∀ w ∈ s, mayS w = true) → sayL L first s = some x → x.length ≤ 400 * s.length
  | [], _, x, _, h => by rw [sayL] at h; cases h; simp
  | w :: r, first, x, hm, h => by
    rw [sayL] at h
    split at h
    · cases h
    · rename_i y hy
      obtain ⟨z, hz, rfl⟩ := Option.map_eq_some_iff.1 h
      have h1 := sayL_len r false z (fun v hv => hm v (by simp [hv])) hz
      have h2 := sayW_len _ _ _ y hy
      have h3 : (atoms (bs w)).length ≤ 8 := by rw [atoms_len, bs_len]; have := (mayS_size (hm w (by simp))).2.2.1; omega
      simp only [List.length_append, List.length_cons]
      split <;> simp only [List.length_cons, List.length_nil] <;> omega
theorem show_len {L : Nat → List ByteArray} {s : List ByteArray} {x : List UInt8} {q : Int} (hm : mayL s = true) (h : showL L s = (x, q)) : x.length ≤ 6400 := by
  unfold showL at h
  rw [if_neg (by simp [hm])] at h
  have h0 := mayL_iff.1 hm
  split at h
  · rename_i y hy
    have := sayL_len s true y h0.2.1 hy
    have e : y = x := congrArg (fun z => z.1) h
    rw [← e]
    have := h0.1.2
    omega
  · have e : [] = x := congrArg (fun z => z.1) h
    rw [← e]; simp
set_option maxHeartbeats 16000000 in
theorem normback_walk {w : World} {x : Value} (hx : Atm.Rows6At w x) {va0 : Value} {s : List ByteArray} (hxl : Reads w (fun _ => True) va0 (wcells s)) (hlm : (s.length : Int) ≤ 9223372036854775807) (tx : ByteArray) (hN : Norm6 w) : Calls Tryz.prog 6 #[x, va0, .string tx] w (KeptPost (.bool true) w) := by
  have HX := Lib.hid hx
  have HN := Lib.hid hN
  have HXL := Lib.hid hxl
  have HWN : Hid ((wcells s).length = s.length) := Lib.hid (wcells_len s)
  obtain ⟨aol, cl, rfl, _, hcl⟩ := hxl
  have HCL := Lib.hid hcl
  clear hcl
  obtain ⟨v, src, rfl, _⟩ := hx
  clear hN
  have HW : Hid (Kept w (w.alloc (.cells #[v 0, v 1, v 2, v 3, v 4, v 5] 24))) := Lib.hid (Fr.of_alloc _ _ _)
  go_enter Tryz.func6, Tryz.ntmps6
  go_wp2_with fail
  refine (kawake6_any _ (HN.out.later HW.out)).mono ?_
  rintro e w1 ⟨rfl, hk1⟩
  have HK1 := Lib.hid (HW.out.trans hk1)
  have hc1 : ∀ k, k < 6 → w1.cell? ⟨w.heap.size, k, none⟩ = some (v k) := fun k hk6 => hk1.cell (Atm.box_cell w v _ hk6) (fun x => x)
  have d0 := hc1 0 (by omega)
  have d1 := hc1 1 (by omega)
  have d2 := hc1 2 (by omega)
  have d3 := hc1 3 (by omega)
  have d4 := hc1 4 (by omega)
  have d5 := hc1 5 (by omega)
  clear hc1 hk1
  go_wp2_with fail
  refine (Atm.tables_any (HX.out.later HK1.out)).mono ?_
  rintro e w2 ⟨hk2, h2⟩
  have HK2 := Lib.hid (HK1.out.trans hk2)
  clear hk2 d0 d1 d2 d3 d4 d5
  rcases h2 with ⟨B, F, B', F', L, rfl, ht, hr, hg, hnm⟩ | rfl
  rotate_left
  · go_wp2
    go_ret
    exact ⟨rfl, HK2.out⟩
  have HT := Lib.hid ht
  have HR := Lib.hid hr
  have HG := Lib.hid hg
  have HNM := Lib.hid hnm
  clear ht hr hg hnm
  have HL2 := Lib.hid (HXL.out.new HK2.out)
  generalize hn : (wcells s).length = n at *
  have HNW := Lib.hid hn
  have HNN : Hid (s.length = n) := Lib.hid HWN.out.symm
  clear hn
  by_cases htl : 4096 < tx.size
  · have hti : (4096 : Int) < (tx.size : Int) := by omega
    go_wp2
    go_ret
    exact ⟨rfl, HK2.out⟩
  have hti : ¬ (4096 : Int) < (tx.size : Int) := by omega
  by_cases hsl : 60 < n
  · have hsi : (60 : Int) < (n : Int) := by omega
    go_wp2
    go_ret
    exact ⟨rfl, HK2.out⟩
  have hsi : ¬ (60 : Int) < (n : Int) := by omega
  go_wp2
  go_loop [44] (fun i => ∃ k : Nat, i = .int .i64 k ∧ k ≤ n ∧ Hid (∀ (j : Nat) (y : ByteArray), j < k → s[j]? = some y → y.size ≤ 100)) (fun i => n - (intOf i).toNat)
  case atStart => exact ⟨0, rfl, by omega, Lib.hid (fun j t h => by omega)⟩
  case round =>
    obtain ⟨k, rfl, hk, hall⟩ := hrel
    by_cases hlt : k < n
    · have hlti : (k : Int) < n := by omega
      obtain ⟨y, hy⟩ : ∃ y, s[k]? = some y := ⟨_, List.getElem?_eq_getElem (by rw [HNN.out]; exact hlt)⟩
      obtain ⟨g, off, rfl, _, hcell0⟩ := HCL.out k _ (wcells_get hy)
      have hcell := HK2.out.cell hcell0 (fun x => x)
      clear hcell0
      by_cases hys : 100 < y.size
      · have hysi : (100 : Int) < (y.size : Int) := by omega
        go_wp2
        go_ret
        exact ⟨rfl, HK2.out⟩
      · have hysi : ¬ (100 : Int) < (y.size : Int) := by omega
        have HA : Hid (∀ (j : Nat) (t : ByteArray), j < k + 1 → s[j]? = some t → t.size ≤ 100) := Lib.hid (fun j t' hj h2 => by
          rcases Nat.lt_or_ge j k with h3 | h3
          · exact hall.out j t' h3 h2
          · obtain rfl : j = k := by omega
            rw [hy] at h2; cases h2; omega)
        clear hy
        go_wp2
        go_round
        case rel => exact ⟨k + 1, by go_num, by omega, HA⟩
        case measure => simp [intOf]; omega
    · have hlti : ¬ (k : Int) < n := by omega
      have HS1 : Hid (Small 100000 s) := Lib.hid (fun y hy => by
        obtain ⟨j, hj⟩ := List.mem_iff_getElem?.1 hy
        have := hall.out j y (by have := (List.getElem?_eq_some_iff.1 hj).1; rw [HNN.out] at this; omega) hj
        omega)
      have HALL := hall
      clear hall
      have HS2 : Hid (∀ y ∈ s, y.size ≤ 100) := Lib.hid (fun y hy => by
        obtain ⟨j, hj⟩ := List.mem_iff_getElem?.1 hy
        exact HALL.out j y (by have := (List.getElem?_eq_some_iff.1 hj).1; rw [HNN.out] at this; omega) hj)
      clear HALL
      have hn60 : n ≤ 60 := by omega
      go_wp2_with fail
      refine (HN.out.show6 w2 HK2.out F B L _ s HT.out HL2.out (by rw [HNN.out]; omega) HS1.out).mono ?_
      rintro e w4 ⟨rfl, hk4⟩
      have HC4 := Lib.hid hk4
      have HL4 := Lib.hid (HL2.out.new hk4)
      clear hk4
      cases hsh : showL L s with
      | mk sx sq =>
      have HSH := Lib.hid hsh
      clear hsh
      simp only []
      by_cases hsq : sq = 0
      · subst hsq
        have hmS : mayL s = true := show_may HSH.out
        have hsl2 := show_len hmS HSH.out
        have hg0 : ((0 : Int) == 0) = true := rfl
        clear hmS
        go_wp2_with fail
        refine (nsmall_any HL4.out (by rw [HNN.out]; exact hn60) HS2.out).mono ?_
        rintro e w5 ⟨rfl, hk5⟩
        have HC5 := Lib.hid (HC4.out.trans hk5)
        have HL5 := Lib.hid (HL4.out.new hk5)
        clear hk5
        by_cases hsm : atomsN s ≤ 90
        · rw [decide_eq_true hsm]
          go_wp2_with fail
          refine (HN.out.read _ (HK2.out.trans HC5.out) F B L (strOf sx) (HT.out.later HC5.out) (by rw [strOf_size]; omega)).mono ?_
          rintro e w6 ⟨va, xa, na, qa, rfl, hra, hrda, hk6⟩
          have hz := hra.unique (by rw [bs_strOf]; exact show_back HG.out HSH.out hsm)
          simp only [Prod.mk.injEq] at hz
          obtain ⟨rfl, rfl, rfl⟩ := hz
          have HVA := Lib.hid hrda
          have HL6 := Lib.hid (HL5.out.new hk6)
          have HC6 := Lib.hid (HC5.out.trans hk6)
          clear hra hrda hk6 hsm
          go_wp2_with fail
          refine (equal_any HVA.out HL6.out (by rw [HNN.out]; omega) (by rw [HNN.out]; omega)).mono ?_
          rintro e w7 ⟨rfl, m7, rfl⟩
          rw [decide_eq_true rfl]
          have HC2 := Lib.hid (HC6.out.trans (Fr.of_drewN (fun _ => False) w6 m7))
          go_wp2_with fail
          refine (HN.out.read _ (HK2.out.trans HC2.out) F B L tx (HT.out.later HC2.out) (by omega)).mono ?_
          rintro e t1 ⟨vu, u, nu, qu, rfl, hru, hrdu, hkt1⟩
          have HD1 := Lib.hid (HC2.out.trans hkt1)
          have HVU := Lib.hid hrdu
          obtain ⟨au, cu, rfl, _⟩ := hrdu
          clear hkt1
          by_cases hqu : qu = 0
          · subst hqu
            obtain ⟨hmu, y, hy⟩ := read_shows HG.out hru
            have HMU := Lib.hid hmu
            have HY := Lib.hid hy
            have hyl := show_len hmu hy
            clear hru hmu hy
            go_wp2_with fail
            refine (HN.out.show6 _ (HK2.out.trans HD1.out) F B L _ u (HT.out.later HD1.out) HVU.out (may_bounds HMU.out).1 (may_bounds HMU.out).2).mono ?_
            rintro e t2 ⟨rfl, hkt2⟩
            rw [HY.out]
            have HD2 := Lib.hid (HD1.out.trans hkt2)
            have HVU2 := Lib.hid (HVU.out.new hkt2)
            clear hkt2 HVU
            go_wp2_with fail
            refine (HN.out.read _ (HK2.out.trans HD2.out) F B L (strOf y) (HT.out.later HD2.out) (by rw [strOf_size]; omega)).mono ?_
            rintro e t3 ⟨vv, z, nz, qz, rfl, hrz, hrdz, hkt3⟩
            have HD3 := Lib.hid (HD2.out.trans hkt3)
            have HVU3 := Lib.hid (HVU2.out.new hkt3)
            have HRZ := Lib.hid hrz
            have HVZ := Lib.hid hrdz
            clear hkt3 hrz hrdz HVU2
            go_wp2_with fail
            refine (nsmall_any HVU3.out (by have := (mayL_iff.1 HMU.out).1; omega) (fun y hy => by have := (mayS_size ((mayL_iff.1 HMU.out).2.1 y hy)).2.2.1; omega)).mono ?_
            rintro e t4 ⟨rfl, hkt4⟩
            have HD4 := Lib.hid (HD3.out.trans hkt4)
            have HVU4 := Lib.hid (HVU3.out.new hkt4)
            have HVZ4 := Lib.hid (HVZ.out.new hkt4)
            clear hkt4
            by_cases hsu : atomsN u ≤ 90
            · rw [decide_eq_true hsu]
              have hz := HRZ.out.unique (by rw [bs_strOf]; exact show_back HG.out HY.out hsu)
              simp only [Prod.mk.injEq] at hz
              obtain ⟨rfl, rfl, rfl⟩ := hz
              clear hsu
              go_wp2_with fail
              refine (equal_any HVU4.out HVZ4.out (may_bounds HMU.out).1 (may_bounds HMU.out).1).mono ?_
              rintro e t5 ⟨rfl, m5, rfl⟩
              rw [decide_eq_true rfl]
              have HD5 := Lib.hid (HK2.out.trans (HD4.out.trans (Fr.of_drewN (fun _ => False) t4 m5)))
              go_wp2
              go_ret
              exact ⟨rfl, HD5.out⟩
            · rw [decide_eq_false hsu]
              clear hsu
              go_wp2
              go_ret
              exact ⟨rfl, HK2.out.trans HD4.out⟩
          · have hx := read6_err hru hqu
            subst hx
            have gq : (qu != 0) = true := by simp [hqu]
            have hw0 : (wcells ([] : List ByteArray)).length = 0 := rfl
            rw [hw0]
            clear hqu hru
            go_wp2
            go_ret
            exact ⟨rfl, HK2.out.trans HD1.out⟩
        · rw [decide_eq_false hsm]
          clear hsm
          have HC2 := HC5
          go_wp2_with fail
          refine (HN.out.read _ (HK2.out.trans HC2.out) F B L tx (HT.out.later HC2.out) (by omega)).mono ?_
          rintro e t1 ⟨vu, u, nu, qu, rfl, hru, hrdu, hkt1⟩
          have HD1 := Lib.hid (HC2.out.trans hkt1)
          have HVU := Lib.hid hrdu
          obtain ⟨au, cu, rfl, _⟩ := hrdu
          clear hkt1
          by_cases hqu : qu = 0
          · subst hqu
            obtain ⟨hmu, y, hy⟩ := read_shows HG.out hru
            have HMU := Lib.hid hmu
            have HY := Lib.hid hy
            have hyl := show_len hmu hy
            clear hru hmu hy
            go_wp2_with fail
            refine (HN.out.show6 _ (HK2.out.trans HD1.out) F B L _ u (HT.out.later HD1.out) HVU.out (may_bounds HMU.out).1 (may_bounds HMU.out).2).mono ?_
            rintro e t2 ⟨rfl, hkt2⟩
            rw [HY.out]
            have HD2 := Lib.hid (HD1.out.trans hkt2)
            have HVU2 := Lib.hid (HVU.out.new hkt2)
            clear hkt2 HVU
            go_wp2_with fail
            refine (HN.out.read _ (HK2.out.trans HD2.out) F B L (strOf y) (HT.out.later HD2.out) (by rw [strOf_size]; omega)).mono ?_
            rintro e t3 ⟨vv, z, nz, qz, rfl, hrz, hrdz, hkt3⟩
            have HD3 := Lib.hid (HD2.out.trans hkt3)
            have HVU3 := Lib.hid (HVU2.out.new hkt3)
            have HRZ := Lib.hid hrz
            have HVZ := Lib.hid hrdz
            clear hkt3 hrz hrdz HVU2
            go_wp2_with fail
            refine (nsmall_any HVU3.out (by have := (mayL_iff.1 HMU.out).1; omega) (fun y hy => by have := (mayS_size ((mayL_iff.1 HMU.out).2.1 y hy)).2.2.1; omega)).mono ?_
            rintro e t4 ⟨rfl, hkt4⟩
            have HD4 := Lib.hid (HD3.out.trans hkt4)
            have HVU4 := Lib.hid (HVU3.out.new hkt4)
            have HVZ4 := Lib.hid (HVZ.out.new hkt4)
            clear hkt4
            by_cases hsu : atomsN u ≤ 90
            · rw [decide_eq_true hsu]
              have hz := HRZ.out.unique (by rw [bs_strOf]; exact show_back HG.out HY.out hsu)
              simp only [Prod.mk.injEq] at hz
              obtain ⟨rfl, rfl, rfl⟩ := hz
              clear hsu
              go_wp2_with fail
              refine (equal_any HVU4.out HVZ4.out (may_bounds HMU.out).1 (may_bounds HMU.out).1).mono ?_
              rintro e t5 ⟨rfl, m5, rfl⟩
              rw [decide_eq_true rfl]
              have HD5 := Lib.hid (HK2.out.trans (HD4.out.trans (Fr.of_drewN (fun _ => False) t4 m5)))
              go_wp2
              go_ret
              exact ⟨rfl, HD5.out⟩
            · rw [decide_eq_false hsu]
              clear hsu
              go_wp2
              go_ret
              exact ⟨rfl, HK2.out.trans HD4.out⟩
          · have hx := read6_err hru hqu
            subst hx
            have gq : (qu != 0) = true := by simp [hqu]
            have hw0 : (wcells ([] : List ByteArray)).length = 0 := rfl
            rw [hw0]
            clear hqu hru
            go_wp2
            go_ret
            exact ⟨rfl, HK2.out.trans HD1.out⟩
      · have gq2 : (sq == 0) = false := by simp [hsq]
        clear hsq
        have HC2 := HC4
        go_wp2_with fail
        refine (HN.out.read _ (HK2.out.trans HC2.out) F B L tx (HT.out.later HC2.out) (by omega)).mono ?_
        rintro e t1 ⟨vu, u, nu, qu, rfl, hru, hrdu, hkt1⟩
        have HD1 := Lib.hid (HC2.out.trans hkt1)
        have HVU := Lib.hid hrdu
        obtain ⟨au, cu, rfl, _⟩ := hrdu
        clear hkt1
        by_cases hqu : qu = 0
        · subst hqu
          obtain ⟨hmu, y, hy⟩ := read_shows HG.out hru
          have HMU := Lib.hid hmu
          have HY := Lib.hid hy
          have hyl := show_len hmu hy
          clear hru hmu hy
          go_wp2_with fail
          refine (HN.out.show6 _ (HK2.out.trans HD1.out) F B L _ u (HT.out.later HD1.out) HVU.out (may_bounds HMU.out).1 (may_bounds HMU.out).2).mono ?_
          rintro e t2 ⟨rfl, hkt2⟩
          rw [HY.out]
          have HD2 := Lib.hid (HD1.out.trans hkt2)
          have HVU2 := Lib.hid (HVU.out.new hkt2)
          clear hkt2 HVU
          go_wp2_with fail
          refine (HN.out.read _ (HK2.out.trans HD2.out) F B L (strOf y) (HT.out.later HD2.out) (by rw [strOf_size]; omega)).mono ?_
          rintro e t3 ⟨vv, z, nz, qz, rfl, hrz, hrdz, hkt3⟩
          have HD3 := Lib.hid (HD2.out.trans hkt3)
          have HVU3 := Lib.hid (HVU2.out.new hkt3)
          have HRZ := Lib.hid hrz
          have HVZ := Lib.hid hrdz
          clear hkt3 hrz hrdz HVU2
          go_wp2_with fail
          refine (nsmall_any HVU3.out (by have := (mayL_iff.1 HMU.out).1; omega) (fun y hy => by have := (mayS_size ((mayL_iff.1 HMU.out).2.1 y hy)).2.2.1; omega)).mono ?_
          rintro e t4 ⟨rfl, hkt4⟩
          have HD4 := Lib.hid (HD3.out.trans hkt4)
          have HVU4 := Lib.hid (HVU3.out.new hkt4)
          have HVZ4 := Lib.hid (HVZ.out.new hkt4)
          clear hkt4
          by_cases hsu : atomsN u ≤ 90
          · rw [decide_eq_true hsu]
            have hz := HRZ.out.unique (by rw [bs_strOf]; exact show_back HG.out HY.out hsu)
            simp only [Prod.mk.injEq] at hz
            obtain ⟨rfl, rfl, rfl⟩ := hz
            clear hsu
            go_wp2_with fail
            refine (equal_any HVU4.out HVZ4.out (may_bounds HMU.out).1 (may_bounds HMU.out).1).mono ?_
            rintro e t5 ⟨rfl, m5, rfl⟩
            rw [decide_eq_true rfl]
            have HD5 := Lib.hid (HK2.out.trans (HD4.out.trans (Fr.of_drewN (fun _ => False) t4 m5)))
            go_wp2
            go_ret
            exact ⟨rfl, HD5.out⟩
          · rw [decide_eq_false hsu]
            clear hsu
            go_wp2
            go_ret
            exact ⟨rfl, HK2.out.trans HD4.out⟩
        · have hx := read6_err hru hqu
          subst hx
          have gq : (qu != 0) = true := by simp [hqu]
          have hw0 : (wcells ([] : List ByteArray)).length = 0 := rfl
          rw [hw0]
          clear hqu hru
          go_wp2
          go_ret
          exact ⟨rfl, HK2.out.trans HD1.out⟩

end Go.Proofs.YtbfealhbdemhmaaGreatDoor
