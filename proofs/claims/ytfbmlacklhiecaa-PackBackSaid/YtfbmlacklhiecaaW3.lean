/- Contracts and lemmas: W3 -/
import Derived.Test.YtfbmlacklhiecaaT2
namespace Go.Proofs.Ytfbmlacklhiecaa
set_option linter.unusedVariables false
set_option linter.unusedSimpArgs false
open Go.RowKit Go.ChangeShapes Go.WideShapes
set_option maxRecDepth 20000

open Go.RowKit Go.ChangeShapes Go.WideShapes
set_option maxRecDepth 20000
set_option maxHeartbeats 16000000 in
theorem packBack_walk {w : World} (v : Value) (hv : ItemsIn w v) :
    Calls Try.prog 5 #[v] w fun e w' => e = .returned (.bool true) ∧ Fr (fun _ => False) w w' := by
  obtain ⟨l, hl⟩ := hv
  have HLG : Hid (∀ W, Kept w W → Calls Try.prog 9 #[v] W (KeptPost (.bool (largeB l)) W)) := Lib.hid (fun W hk => large_any (hl.kept hk))
  obtain ⟨ao, cap, rfl, hcap, hmax, hc, hok⟩ := hl
  unfold maxLen at hmax
  have HC := Lib.hid hc
  have HOK := Lib.hid hok
  obtain ⟨big, hbig⟩ : ∃ b, b = largeB l := ⟨_, rfl⟩
  rw [← hbig] at HLG
  have HBG := Lib.hid hbig
  clear hc hok hbig
  generalize hn : l.length = n at *
  have HN := Lib.hid hn
  clear hn
  go_enter Try.func5, Try.ntmps5
  go_wp2_with fail
  refine (awake_any _).mono ?_
  rintro e w1 ⟨rfl, hk1⟩
  have K1 := Lib.hid hk1
  clear hk1
  go_wp2_with fail
  refine (HLG.out _ K1.out).mono ?_
  rintro e w2 ⟨rfl, hk2⟩
  have K2 := Lib.hid (K1.out.trans hk2)
  clear hk2 HLG
  cases big with
  | true =>
    go_wp2
    go_ret
    exact ⟨rfl, K2.out⟩
  | false =>
    have HS0 : Hid (St1 w w2.heap.size (some []) (w2.alloc (Obj.cells #[.int .i64 0, .slice none 0 0] 31))) := Lib.hid ⟨out_new w2 w.heap.size, K2.out.trans (Fr.of_alloc _ _ _), K2.out.size⟩
    go_wp2_with fail
    generalize w2.alloc (Obj.cells #[.int .i64 0, .slice none 0 0] 31) = wl at *
    generalize w2.heap.size = bo at *
    go_loopw [4] (fun i wr => ∃ (k : Nat) (s : Option (List UInt8)), k ≤ n ∧ k ≤ 100 ∧ i = .int .i64 k ∧ Hid (St1 w bo s wr) ∧ Hid (olen s ≤ 2000 * k) ∧ Hid (s = writes (some []) (l.take k))) (fun i _ => n - (intOf i).toNat)
    case atStart => exact ⟨0, some [], by omega, by omega, rfl, HS0, Lib.hid (Nat.le_refl _), Lib.hid rfl⟩
    case round =>
      obtain ⟨k, s, hk, hk1, rfl, hs, hol, hws⟩ := hrel
      clear HS0
      by_cases hlt : k < n ∧ k < 100
      · obtain ⟨h1, h2⟩ := hlt
        have g1 : (k : Int) < n := by omega
        have g2 : (k : Int) < 100 := by omega
        obtain ⟨x, hx⟩ : ∃ x, l[k]? = some x := ⟨_, List.getElem?_eq_getElem (by have := HN.out; omega)⟩
        obtain ⟨g, off, ha, hat⟩ := HC.out k x hx
        subst ha
        have HAT := Lib.hid hat
        have HX := Lib.hid (HOK.out x (List.mem_of_getElem? hx))
        have HSm := Lib.hid (large_of HBG.out.symm hx h2)
        have HWT := Lib.hid (writes_take (s := some []) hx)
        rw [← hws.out] at HWT
        have HA := Lib.hid (hat.kept hs.out.k)
        have c0 := HA.out.c0
        have c1 := HA.out.c1
        have c2 := HA.out.c2
        have c3 := HA.out.c3
        have c4 := HA.out.c4
        obtain ⟨so, sc, hsv, hscc, _⟩ := hat.rd
        rw [wcells_len] at hsv hscc
        have HSV := Lib.hid hsv
        rw [hsv] at c4
        have HST := Lib.hid (hs.out.kept (Fr.of_alloc _ wr (Obj.cells #[.int .i64 x.kind, .int .i64 x.n, .string x.t, .string x.wd, .slice so x.l.length sc] 39)))
        have HOL : Hid (olen s ≤ 200000) := Lib.hid (by have := hol.out; omega)
        clear hx hat hsv
        obtain ⟨kd, hkd⟩ : ∃ kd, kd = x.kind := ⟨_, rfl⟩
        have HKD := Lib.hid hkd
        rw [← hkd] at c0 HST
        have hkind : kd = 0 ∨ kd = 1 ∨ kd = 2 ∨ kd = 3 ∨ ((kd == 0) = false ∧ (kd == 1) = false ∧ (kd == 2) = false ∧ (kd == 3) = false) := by
          by_cases q0 : kd = 0
          · exact .inl q0
          by_cases q1 : kd = 1
          · exact .inr (.inl q1)
          by_cases q2 : kd = 2
          · exact .inr (.inr (.inl q2))
          by_cases q3 : kd = 3
          · exact .inr (.inr (.inr (.inl q3)))
          exact .inr (.inr (.inr (.inr ⟨by simpa using q0, by simpa using q1, by simpa using q2, by simpa using q3⟩)))
        clear hkd
        rcases hkind with rfl | rfl | rfl | rfl | ⟨q0, q1, q2, q3⟩
        · have HSE : Hid (stepO s x = oNum s x.n) := Lib.hid (by have := HKD.out; simp [stepO, ← this])
          go_wp2_with fail
          generalize hWA : wr.alloc _ = WA at *
          clear hWA c0 c1 c2 c3 c4
          refine (onum_any x.n HX.out.n0 HX.out.n1 HST.out.o (by have := HOL.out; omega) HST.out.k.size).mono ?_
          rintro e w3 ⟨rfl, h3, t3⟩
          have HSN := Lib.hid (HST.out.step h3 t3)
          have HLN : Hid (olen (oNum s x.n) ≤ 2000 * (k + 1)) := Lib.hid (by have h8 := hol.out; have h9 := HSm.out; have := oNum_len s x.n; omega)
          have HWN : Hid (oNum s x.n = writes (some []) (l.take (k + 1))) := Lib.hid (by rw [HWT.out, HSE.out])
          clear h3 t3
          go_wp2_with fail
          go_roundw
          case rel => exact ⟨k + 1, _, by omega, by omega, by go_num, HSN, HLN, HWN⟩
          case measure => simp [intOf]; omega
        · have HSE : Hid (stepO s x = oText s x.t) := Lib.hid (by have := HKD.out; simp [stepO, ← this])
          go_wp2_with fail
          generalize hWA : wr.alloc _ = WA at *
          clear hWA c0 c1 c2 c3 c4
          refine (otext_any x.t (by have := HSm.out; omega) HST.out.o (by have := HOL.out; omega) HST.out.k.size).mono ?_
          rintro e w3 ⟨rfl, h3, t3⟩
          have HSN := Lib.hid (HST.out.step h3 t3)
          have HLN : Hid (olen (oText s x.t) ≤ 2000 * (k + 1)) := Lib.hid (by have h8 := hol.out; have h9 := HSm.out; have := oText_len s x.t; omega)
          have HWN : Hid (oText s x.t = writes (some []) (l.take (k + 1))) := Lib.hid (by rw [HWT.out, HSE.out])
          clear h3 t3
          go_wp2_with fail
          go_roundw
          case rel => exact ⟨k + 1, _, by omega, by omega, by go_num, HSN, HLN, HWN⟩
          case measure => simp [intOf]; omega
        · have HSE : Hid (stepO s x = oWord s x.wd) := Lib.hid (by have := HKD.out; simp [stepO, ← this])
          go_wp2_with fail
          generalize hWA : wr.alloc _ = WA at *
          clear hWA c0 c1 c2 c3 c4
          refine (oword_any x.wd (by have := HSm.out; omega) HST.out.o (by have := HOL.out; omega) HST.out.k.size).mono ?_
          rintro e w3 ⟨rfl, h3, t3⟩
          have HSN := Lib.hid (HST.out.step h3 t3)
          have HLN : Hid (olen (oWord s x.wd) ≤ 2000 * (k + 1)) := Lib.hid (by have h8 := hol.out; have h9 := HSm.out; have := oWord_len s x.wd; omega)
          have HWN : Hid (oWord s x.wd = writes (some []) (l.take (k + 1))) := Lib.hid (by rw [HWT.out, HSE.out])
          clear h3 t3
          go_wp2_with fail
          go_roundw
          case rel => exact ⟨k + 1, _, by omega, by omega, by go_num, HSN, HLN, HWN⟩
          case measure => simp [intOf]; omega
        · have HSE : Hid (stepO s x = oSet s x.l) := Lib.hid (by have := HKD.out; simp [stepO, ← this])
          go_wp2_with fail
          generalize hWA : wr.alloc _ = WA at *
          clear hWA c0 c1 c2 c3 c4
          refine (oset_any (fun W hW => by rw [← HSV.out]; exact (HAT.out.kept (hW.over HST.out.k HST.out.ho (Nat.le_refl _))).rd) (by have := HSm.out; omega) (fun y hy => by have := HSm.out.2.2.2 y hy; omega) HST.out.o (by have := HOL.out; omega) HST.out.k.size).mono ?_
          rintro e w3 ⟨rfl, h3, t3⟩
          have HSN := Lib.hid (HST.out.step h3 t3)
          have HLN : Hid (olen (oSet s x.l) ≤ 2000 * (k + 1)) := Lib.hid (by have h8 := hol.out; have h9 := HSm.out; have := set_len s x.l; omega)
          have HWN : Hid (oSet s x.l = writes (some []) (l.take (k + 1))) := Lib.hid (by rw [HWT.out, HSE.out])
          clear h3 t3
          go_wp2_with fail
          go_roundw
          case rel => exact ⟨k + 1, _, by omega, by omega, by go_num, HSN, HLN, HWN⟩
          case measure => simp [intOf]; omega
        · have HSE : Hid (stepO s x = s) := Lib.hid (by
            have := HKD.out
            simp at q0 q1 q2 q3
            simp [stepO, ← this, q0, q1, q2, q3])
          go_wp2_with fail
          generalize hWA : wr.alloc _ = WA at *
          clear hWA c0 c1 c2 c3 c4
          have HLN : Hid (olen s ≤ 2000 * (k + 1)) := Lib.hid (by have h8 := hol.out; omega)
          have HWN : Hid (s = writes (some []) (l.take (k + 1))) := Lib.hid (by rw [HWT.out, HSE.out])
          go_roundw
          case rel => exact ⟨k + 1, s, by omega, by omega, by go_num, HST, HLN, HWN⟩
          case measure => simp [intOf]; omega
      · have HM : Hid (s = writes (some []) (l.take (min n 100))) := Lib.hid (by rw [← min100 hk hk1 hlt]; exact hws.out)
        have HMI : Hid (min n 100 ≤ n ∧ min n 100 ≤ 100) := Lib.hid (by omega)
        have HMC : Hid (∀ j : Nat, (j < n ∧ j < 100) ↔ j < min n 100) := Lib.hid (fun j => by omega)
        generalize min n 100 = m at *
        have HO2 : Hid (olen s ≤ 200000) := Lib.hid (by have := hol.out; omega)
        have hend : ((k : Int) < n ∧ ¬ (k : Int) < 100) ∨ ¬ (k : Int) < n := by omega
        clear hws hol
        cases s with
        | none =>
          rcases hend with ⟨g3, g4⟩ | g3
          all_goals
            go_wp2_with fail
            refine (odone_any hs.out.o).mono ?_
            rintro e w8 ⟨rfl, hk8⟩
            have S8 := Lib.hid (hs.out.kept hk8)
            clear hk8
            have eD : oDone none = (⟨#[]⟩, 2) := rfl
            rw [eD]
            go_wp2
            go_ret
            exact ⟨rfl, S8.out.k⟩
        | some y =>
          have HWS := Lib.hid (writes_some _ _ _ HM.out.symm)
          have HFL : Hid (y = flatI ((l.take m).drop 0)) := Lib.hid (by rw [HWS.out.2]; simp)
          rcases hend with ⟨g3, g4⟩ | g3
          all_goals
            go_wp2_with fail
            refine (odone_any hs.out.o).mono ?_
            rintro e w8 ⟨rfl, hk8⟩
            have S8 := Lib.hid (hs.out.kept hk8)
            clear hk8
            have eD : oDone (some y) = (⟨y.toArray⟩, 0) := rfl
            rw [eD]
            go_wp2_with fail
            refine (from_any ⟨y.toArray⟩ w8 (by have := HO2.out; show y.toArray.size ≤ 1000000; simp [olen] at this; simp; omega)).mono ?_
            rintro e w9 ⟨rfl, h9, k9, _⟩
            have h9' : InAt w8.heap.size (some y) w9 := h9
            rw [HFL.out] at h9'
            have HS0 : Hid (St5 w w8.heap.size (some (flatI ((l.take m).drop 0))) w9) := Lib.hid ⟨h9', S8.out.k.trans k9, S8.out.k.size⟩
            clear h9 h9' k9
            generalize w8.heap.size = bi at *
            go_wp2_with fail
            go_loopw [9] (fun i wr => ∃ (k : Nat), k ≤ m ∧ i = .int .i64 k ∧ Hid (St5 w bi (some (flatI ((l.take m).drop k))) wr)) (fun i _ => m - (intOf i).toNat)
            case atStart => exact ⟨0, by omega, rfl, HS0⟩
            case round =>
              obtain ⟨j, hj, rfl, hi⟩ := hrel
              clear HS0 S8
              by_cases hlt2 : j < m
              · obtain ⟨h1, h2⟩ := (HMC.out j).2 hlt2
                have q1 : (j : Int) < n := by omega
                have q2 : (j : Int) < 100 := by omega
                obtain ⟨x, hx⟩ : ∃ x, l[j]? = some x := ⟨_, List.getElem?_eq_getElem (by have := HN.out; omega)⟩
                obtain ⟨g, off, ha, hat⟩ := HC.out j x hx
                try subst ha
                try (obtain ⟨rfl, rfl⟩ : g = _ ∧ off = _ := by simpa using ha.symm)
                have HX := Lib.hid (HOK.out x (List.mem_of_getElem? hx))
                have HSm := Lib.hid (large_of HBG.out.symm hx h2)
                have HFD := Lib.hid (flat_drop hlt2 hx)
                have HOKI := Lib.hid (HWS.out.1 x (by
                  have h9 : (l.take m)[j]? = some x := by rw [List.getElem?_take, if_pos hlt2]; exact hx
                  exact List.mem_of_getElem? h9))
                have HAT := Lib.hid hat
                have HA := Lib.hid (hat.kept hi.out.k)
                have c0 := HA.out.c0
                have c1 := HA.out.c1
                have c2 := HA.out.c2
                have c3 := HA.out.c3
                have c4 := HA.out.c4
                obtain ⟨so, sc, hsv, hscc, _⟩ := hat.rd
                rw [wcells_len] at hsv hscc
                have HSV := Lib.hid hsv
                rw [hsv] at c4
                have HCP : Hid (Cop wr.heap.size x (wr.alloc (Obj.cells #[.int .i64 x.kind, .int .i64 x.n, .string x.t, .string x.wd, .slice so x.l.length sc] 39))) := Lib.hid (by unfold Cop; rw [hsv]; exact heap_alloc_new _ _)
                have HST := Lib.hid (hi.out.kept (Fr.of_alloc _ wr (Obj.cells #[.int .i64 x.kind, .int .i64 x.n, .string x.t, .string x.wd, .slice so x.l.length sc] 39)))
                have HNE : Hid (wr.heap.size ≠ bi) := Lib.hid (by have := hi.out.i.lt; omega)
                clear hx hat hsv
                obtain ⟨R, hR⟩ : ∃ R, R = flatI ((l.take m).drop (j + 1)) := ⟨_, rfl⟩
                have HRR := Lib.hid hR
                rw [← hR] at HFD
                rw [HFD.out] at HST
                clear hR HFD
                obtain ⟨kd, hkd⟩ : ∃ kd, kd = x.kind := ⟨_, rfl⟩
                have HKD := Lib.hid hkd
                rw [← hkd] at c0 HCP HST
                have hkind : kd = 0 ∨ kd = 1 ∨ kd = 2 ∨ kd = 3 ∨ ((kd == 0) = false ∧ (kd == 1) = false ∧ (kd == 2) = false ∧ (kd == 3) = false) := by
                  by_cases q0 : kd = 0
                  · exact .inl q0
                  by_cases q1 : kd = 1
                  · exact .inr (.inl q1)
                  by_cases q2 : kd = 2
                  · exact .inr (.inr (.inl q2))
                  by_cases q3 : kd = 3
                  · exact .inr (.inr (.inr (.inl q3)))
                  exact .inr (.inr (.inr (.inr ⟨by simpa using q0, by simpa using q1, by simpa using q2, by simpa using q3⟩)))
                clear hkd
                rcases hkind with rfl | rfl | rfl | rfl | ⟨q5, q6, q7, q8⟩
                · have HIT : Hid (itI x = numB x.n.toNat) := Lib.hid (by have := HKD.out; simp [itI, ← this])
                  rw [HIT.out] at HST
                  have HBK : Hid (iNum (some (numB x.n.toNat ++ R)) x.n = (x.n, some R)) := Lib.hid (iNum_back (HOKI.out.n HKD.out.symm).1 (HOKI.out.n HKD.out.symm).2 (Int.le_refl _))
                  go_wp2_with fail
                  generalize hWA : wr.alloc _ = WA at *
                  clear hWA c0 c1 c2 c3 c4
                  have HSD := Lib.hid (HST.out.kept (Fr.of_drew _ WA))
                  have HCD : Hid (Cop wr.heap.size x WA.drew) := Lib.hid HCP.out
                  have d1 := HCP.out.c1
                  have dd : WA.drew.cell? ⟨wr.heap.size, 1, none⟩ = _ := d1
                  have HCL := Lib.hid (inum_any x.n HX.out.n0 HX.out.n1 HSD.out.i)
                  rw [HBK.out] at HCL
                  go_region_held3 (fun W' => W'.cell? ⟨wr.heap.size, 1, none⟩ = some (.int .i64 x.n)) (first | exact d1 | exact dd | exact d3) (first
                    | (go_at_call 21; refine HCL.out.mono ?_; rintro e w3 ⟨rfl, h3, f3⟩; have HSN := Lib.hid (HSD.out.step h3 f3); have d3 := (HCD.out.fr f3 HNE.out).c1; clear h3 f3))
                  all_goals
                    have HSE : Hid (St5 w bi (some (flatI ((l.take m).drop (j + 1)))) w3) := Lib.hid (by rw [← HRR.out]; exact HSN.out)
                    clear HSN d1 dd d3 HCD HSD
                    go_wp2_with fail
                    go_roundw
                    case rel => exact ⟨j + 1, by omega, by go_num, HSE⟩
                    case measure => simp [intOf]; omega
                · have HIT : Hid (itI x = numB x.t.size ++ bs x.t) := Lib.hid (by have := HKD.out; simp [itI, ← this])
                  rw [HIT.out] at HST
                  have HBK : Hid (iText (some (numB x.t.size ++ bs x.t ++ R)) x.t.size = (x.t, some R)) := Lib.hid (iText_back (by have := HSm.out; omega))
                  go_wp2_with fail
                  generalize hWA : wr.alloc _ = WA at *
                  clear hWA c0 c1 c2 c3 c4
                  have HSD := Lib.hid (HST.out.kept (Fr.of_drew _ WA))
                  have HCD : Hid (Cop wr.heap.size x WA.drew) := Lib.hid HCP.out
                  have d1 := HCP.out.c2
                  have dd : WA.drew.cell? ⟨wr.heap.size, 2, none⟩ = _ := d1
                  have HCL := Lib.hid (itext_any (x.t.size : Int) (by have := HSm.out; omega) (by have := HSm.out; omega) HSD.out.i)
                  rw [HBK.out] at HCL
                  go_region_held3 (fun W' => W'.cell? ⟨wr.heap.size, 2, none⟩ = some (.string x.t)) (first | exact d1 | exact dd | exact d3) (first
                    | (go_at_call 23; refine HCL.out.mono ?_; rintro e w3 ⟨rfl, h3, f3⟩; have HSN := Lib.hid (HSD.out.step h3 f3); have d3 := (HCD.out.fr f3 HNE.out).c2; clear h3 f3))
                  all_goals
                    have HSE : Hid (St5 w bi (some (flatI ((l.take m).drop (j + 1)))) w3) := Lib.hid (by rw [← HRR.out]; exact HSN.out)
                    clear HSN d1 dd d3 HCD HSD
                    go_wp2_with fail
                    go_roundw
                    case rel => exact ⟨j + 1, by omega, by go_num, HSE⟩
                    case measure => simp [intOf]; omega
                · have HIT : Hid (itI x = wordB x.wd) := Lib.hid (by have := HKD.out; simp [itI, ← this])
                  rw [HIT.out] at HST
                  have HBK : Hid (iWord (some (wordB x.wd ++ R)) = (x.wd, some R)) := Lib.hid (iWord_back (HOKI.out.w HKD.out.symm))
                  go_wp2_with fail
                  generalize hWA : wr.alloc _ = WA at *
                  clear hWA c0 c1 c2 c3 c4
                  have HSD := Lib.hid (HST.out.kept (Fr.of_drew _ WA))
                  have HCD : Hid (Cop wr.heap.size x WA.drew) := Lib.hid HCP.out
                  have d1 := HCP.out.c3
                  have dd : WA.drew.cell? ⟨wr.heap.size, 3, none⟩ = _ := d1
                  have HCL := Lib.hid (iword_any HSD.out.i)
                  rw [HBK.out] at HCL
                  go_region_held3 (fun W' => W'.cell? ⟨wr.heap.size, 3, none⟩ = some (.string x.wd)) (first | exact d1 | exact dd | exact d3) (first
                    | (go_at_call 25; refine HCL.out.mono ?_; rintro e w3 ⟨rfl, h3, f3⟩; have HSN := Lib.hid (HSD.out.step h3 f3); have d3 := (HCD.out.fr f3 HNE.out).c3; clear h3 f3))
                  all_goals
                    have HSE : Hid (St5 w bi (some (flatI ((l.take m).drop (j + 1)))) w3) := Lib.hid (by rw [← HRR.out]; exact HSN.out)
                    clear HSN d1 dd d3 HCD HSD
                    go_wp2_with fail
                    go_roundw
                    case rel => exact ⟨j + 1, by omega, by go_num, HSE⟩
                    case measure => simp [intOf]; omega
                · have HIT : Hid (itI x = setB x.l) := Lib.hid (by have := HKD.out; simp [itI, ← this])
                  rw [HIT.out] at HST
                  have HBK : Hid (iSet (some (setB x.l ++ R)) = (x.l, some R)) := Lib.hid (iSet_back (HOKI.out.s HKD.out.symm))
                  go_wp2_with fail
                  generalize hWA : wr.alloc _ = WA at *
                  clear hWA c0 c1 c2 c3 c4
                  have HSD := Lib.hid (HST.out.kept (Fr.of_drew _ WA))
                  have HCD : Hid (Cop wr.heap.size x WA.drew) := Lib.hid HCP.out
                  have d1 := HCP.out.c4
                  rw [HSV.out] at d1
                  have dd : WA.drew.cell? ⟨wr.heap.size, 4, none⟩ = some (.slice so x.l.length sc) := d1
                  have HCL := Lib.hid (iset_any HSD.out.i)
                  rw [HBK.out] at HCL
                  have HRS : Hid (∀ W, Kept w W → Reads W (fun _ => True) (.slice so x.l.length sc) (wcells x.l)) := Lib.hid (fun W hW => by rw [← HSV.out]; exact (HAT.out.kept hW).rd)
                  have edd : decide (x.l = x.l) = true := by simp
                  go_region_held3 (fun W' => W'.cell? ⟨wr.heap.size, 4, none⟩ = some (.slice so x.l.length sc)) (first | exact d1 | exact dd | exact d3 | exact d4) (first
                    | (go_at_call 28; refine HCL.out.mono ?_; rintro e w3 ⟨u, rfl, ho3, h3, f3⟩; have HSN := Lib.hid (HSD.out.step h3 f3); have HO := Lib.hid ho3; have d3 : w3.cell? ⟨wr.heap.size, 4, none⟩ = some (.slice so x.l.length sc) := (by have h9 := (HCD.out.fr f3 HNE.out).c4; rw [HSV.out] at h9; exact h9); clear h3 f3 ho3)
                    | (go_at_call 27; refine (equal_any (Reads.of_row HO.out) (HRS.out w3 HSN.out.k) (by have := HSm.out; omega) (by have := HSm.out; omega)).mono ?_; rintro e w5 ⟨rfl, m5, rfl⟩; have d4 : (w3.drewN m5).cell? ⟨wr.heap.size, 4, none⟩ = some (.slice so x.l.length sc) := d3))
                  all_goals
                    have HSE : Hid (St5 w bi (some (flatI ((l.take m).drop (j + 1)))) (w3.drewN m5)) := Lib.hid (by rw [← HRR.out]; exact HSN.out.kept (Fr.of_drewN _ _ m5))
                    clear HSN d1 dd d3 d4 HCD HSD HO
                    generalize w3.drewN m5 = w6 at *
                    go_wp2_with fail
                    go_roundw
                    case rel => exact ⟨j + 1, by omega, by go_num, HSE⟩
                    case measure => simp [intOf]; omega
                · have HIT : Hid (itI x = []) := Lib.hid (by
                    have := HKD.out
                    simp at q5 q6 q7 q8
                    simp [itI, ← this, q5, q6, q7, q8])
                  rw [HIT.out] at HST
                  go_wp2_with fail
                  generalize hWA : wr.alloc _ = WA at *
                  clear hWA c0 c1 c2 c3 c4
                  have HSE : Hid (St5 w bi (some (flatI ((l.take m).drop (j + 1)))) WA) := Lib.hid (by rw [← HRR.out]; exact HST.out)
                  go_roundw
                  case rel => exact ⟨j + 1, by omega, by go_num, HSE⟩
                  case measure => simp [intOf]; omega
              · have hend2 : ((j : Int) < n ∧ ¬ (j : Int) < 100) ∨ ¬ (j : Int) < n := by have := HMC.out j; omega
                have HE0 : Hid ((l.take m).drop j = []) := Lib.hid (List.drop_eq_nil_of_le (by rw [List.length_take]; omega))
                rw [HE0.out] at hi
                rcases hend2 with ⟨q1, q2⟩ | q1
                all_goals
                  go_wp2_with fail
                  refine (ileft_any hi.out.i).mono ?_
                  rintro e w3 ⟨rfl, rfl⟩
                  have eL : iLeft (some (flatI [])) = 0 := rfl
                  rw [eL]
                  go_wp2_with fail
                  refine (idone_any hi.out.i).mono ?_
                  rintro e w4 ⟨rfl, h4, f4⟩
                  have eI : (iDone (some (flatI []))).1 = 0 := rfl
                  rw [eI]
                  have HSN := Lib.hid (hi.out.step h4 f4)
                  clear h4 f4
                  go_wp2
                  go_ret
                  exact ⟨rfl, HSN.out.k⟩

end Go.Proofs.Ytfbmlacklhiecaa
