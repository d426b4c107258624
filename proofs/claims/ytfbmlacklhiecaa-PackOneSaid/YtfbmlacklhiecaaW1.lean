/- Contracts and lemmas: W1 -/
import Derived.Test.YtfbmlacklhiecaaL3
namespace Go.Proofs.Ytfbmlacklhiecaa
set_option linter.unusedVariables false
set_option linter.unusedSimpArgs false
open Go.RowKit Go.ChangeShapes Go.WideShapes
set_option maxRecDepth 20000

open Go.RowKit Go.ChangeShapes Go.WideShapes
set_option maxRecDepth 20000
theorem set_len (s : Option (List UInt8)) (l : List ByteArray) : olen (oSet s l) ≤ olen s + 300 := by
  unfold oSet
  cases hm : mayL l
  · simp [dem, olen]
  · have h1 := olen_map s (setB l)
    have h2 := setW_len l (mayL_iff.1 hm).2.1
    have h3 := (mayL_iff.1 hm).1
    have h4 : (setB l).length = (setW l).length + 1 := by simp [setB]
    simp only [dem_true]
    omega
set_option maxHeartbeats 8000000 in
theorem packWrites_walk {w : World} (v : Value) (hv : ItemsIn w v) :
    Calls Try.prog 3 #[v] w fun e w' => e = .returned (.bool true) ∧ Fr (fun _ => False) w w' := by
  obtain ⟨l, hl⟩ := hv
  have HLG : Hid (∀ W, Kept w W → Calls Try.prog 9 #[v] W (KeptPost (.bool (largeB l)) W)) := Lib.hid (fun W hk => large_any (hl.kept hk))
  obtain ⟨ao, cap, rfl, hcap, hmax, hc, hok⟩ := hl
  unfold maxLen at hmax
  have HC := Lib.hid hc
  have HOK := Lib.hid hok
  obtain ⟨big, hbig⟩ : ∃ b, b = largeB l := ⟨_, rfl⟩
  rw [← hbig] at HLG
  have HBG := Lib.hid hbig
  clear hc hok hbig
  generalize hn : l.length = n at *
  have HN := Lib.hid hn
  clear hn
  go_enter Try.func3, Try.ntmps3
  go_wp2_with fail
  refine (awake_any _).mono ?_
  rintro e w1 ⟨rfl, hk1⟩
  have K1 := Lib.hid hk1
  clear hk1
  go_wp2_with fail
  refine (HLG.out _ K1.out).mono ?_
  rintro e w2 ⟨rfl, hk2⟩
  have K2 := Lib.hid (K1.out.trans hk2)
  clear hk2 HLG
  cases big with
  | true =>
    go_wp2
    go_ret
    exact ⟨rfl, K2.out⟩
  | false =>
    have HS0 := Lib.hid (st2_new K2.out)
    go_wp2_with fail
    generalize (w2.alloc (Obj.cells #[.int .i64 0, .slice none 0 0] 31)).alloc (Obj.cells #[.string ⟨#[]⟩, .bool false] 34) = wl at *
    generalize w2.heap.size + 1 = br at *
    generalize w2.heap.size = bo at *
    go_loopw [5] (fun i wr => ∃ (k : Nat) (s : Option (List UInt8)), k ≤ n ∧ k ≤ 100 ∧ i = .int .i64 k ∧ Hid (St2 w bo br s wr) ∧ Hid (olen s ≤ 2000 * k)) (fun i _ => n - (intOf i).toNat)
    case atStart => exact ⟨0, some [], by omega, by omega, rfl, HS0, Lib.hid (Nat.le_refl _)⟩
    case round =>
      obtain ⟨k, s, hk, hk1, rfl, hs, hol⟩ := hrel
      clear HS0
      by_cases hlt : k < n ∧ k < 100
      · obtain ⟨h1, h2⟩ := hlt
        have g1 : (k : Int) < n := by omega
        have g2 : (k : Int) < 100 := by omega
        obtain ⟨x, hx⟩ : ∃ x, l[k]? = some x := ⟨_, List.getElem?_eq_getElem (by have := HN.out; omega)⟩
        obtain ⟨g, off, ha, hat⟩ := HC.out k x hx
        subst ha
        have HAT := Lib.hid hat
        have HX := Lib.hid (HOK.out x (List.mem_of_getElem? hx))
        have HSm := Lib.hid (large_of HBG.out.symm hx h2)
        have HA := Lib.hid (hat.kept hs.out.k)
        have c0 := HA.out.c0
        have c1 := HA.out.c1
        have c2 := HA.out.c2
        have c3 := HA.out.c3
        have c4 := HA.out.c4
        obtain ⟨so, sc, hsv, hscc, _⟩ := hat.rd
        rw [wcells_len] at hsv hscc
        have HSV := Lib.hid hsv
        rw [hsv] at c4
        have HCP : Hid (Cop wr.heap.size x (wr.alloc (Obj.cells #[.int .i64 x.kind, .int .i64 x.n, .string x.t, .string x.wd, .slice so x.l.length sc] 39))) := Lib.hid (by unfold Cop; rw [hsv]; exact heap_alloc_new _ _)
        have HST := Lib.hid (hs.out.kept (Fr.of_alloc _ wr (Obj.cells #[.int .i64 x.kind, .int .i64 x.n, .string x.t, .string x.wd, .slice so x.l.length sc] 39)))
        have HNE : Hid (wr.heap.size ≠ bo ∧ wr.heap.size ≠ br) := Lib.hid (by have := hs.out.o.lt; have := hs.out.r.lt; omega)
        have HOL : Hid (olen s ≤ 200000) := Lib.hid (by have := hol.out; omega)
        have HLX : Hid (x.l.length ≤ maxLen) := Lib.hid HX.out.ll
        clear hx hat hsv
        obtain ⟨kd, hkd⟩ : ∃ kd, kd = x.kind := ⟨_, rfl⟩
        have HKD := Lib.hid hkd
        rw [← hkd] at c0 HCP HST
        have hkind : kd = 0 ∨ kd = 1 ∨ kd = 2 ∨ kd = 3 ∨ ((kd == 0) = false ∧ (kd == 1) = false ∧ (kd == 2) = false ∧ (kd == 3) = false) := by
          by_cases q0 : kd = 0
          · exact .inl q0
          by_cases q1 : kd = 1
          · exact .inr (.inl q1)
          by_cases q2 : kd = 2
          · exact .inr (.inr (.inl q2))
          by_cases q3 : kd = 3
          · exact .inr (.inr (.inr (.inl q3)))
          exact .inr (.inr (.inr (.inr ⟨by simpa using q0, by simpa using q1, by simpa using q2, by simpa using q3⟩)))
        clear hkd
        rcases hkind with rfl | rfl | rfl | rfl | ⟨q0, q1, q2, q3⟩
        · go_wp2_with fail
          generalize hWA : wr.alloc _ = WA at *
          clear hWA c0 c1 c2 c3 c4
          refine (onum_any x.n HX.out.n0 HX.out.n1 HST.out.o (by have := HOL.out; omega) HST.out.k.size).mono ?_
          rintro e w3 ⟨rfl, h3, t3⟩
          have H3 := Lib.hid h3
          have T3 := Lib.hid t3
          have HR3 := Lib.hid (HST.out.half h3 t3)
          have HC3 := Lib.hid (HCP.out.turnB t3 HNE.out.1)
          clear h3 t3
          have d1 := HC3.out.c1
          go_wp2_with fail
          refine (ronum_any x.n HX.out.n0 HX.out.n1 HR3.out.1 (by have := HOL.out; omega)).mono ?_
          rintro e w4 ⟨rfl, h4, f4⟩
          have HSN := Lib.hid (HST.out.step H3.out T3.out h4 f4)
          have HLN : Hid (olen (oNum s x.n) ≤ 2000 * (k + 1)) := Lib.hid (by have h8 := hol.out; have h9 := HSm.out; have := oNum_len s x.n; omega)
          clear h4 f4 d1
          generalize oNum s x.n = s2 at *
          clear H3 T3 HR3 HC3
          go_wp2_with fail
          refine (odone_any HSN.out.o).mono ?_
          rintro e w5 ⟨rfl, hk5⟩
          have HSO := Lib.hid (HSN.out.kept hk5)
          clear hk5
          go_wp2_with fail
          refine (rodone_any HSO.out.r).mono ?_
          rintro e w6 ⟨rfl, hk6⟩
          have HSP := Lib.hid (HSO.out.kept hk6)
          clear hk6
          generalize (oDone s2).1 = r1
          generalize (oDone s2).2 = r2
          go_wp2_with fail
          go_roundw
          case rel => exact ⟨k + 1, s2, by omega, by omega, by go_num, HSP, HLN⟩
          case measure => simp [intOf]; omega
        · go_wp2_with fail
          generalize hWA : wr.alloc _ = WA at *
          clear hWA c0 c1 c2 c3 c4
          refine (otext_any x.t (by have := HSm.out; omega) HST.out.o (by have := HOL.out; omega) HST.out.k.size).mono ?_
          rintro e w3 ⟨rfl, h3, t3⟩
          have H3 := Lib.hid h3
          have T3 := Lib.hid t3
          have HR3 := Lib.hid (HST.out.half h3 t3)
          have HC3 := Lib.hid (HCP.out.turnB t3 HNE.out.1)
          clear h3 t3
          have d1 := HC3.out.c2
          go_wp2_with fail
          refine (rotext_any x.t (by have := HSm.out; omega) HR3.out.1 (by have := HOL.out; omega)).mono ?_
          rintro e w4 ⟨rfl, h4, f4⟩
          have HSN := Lib.hid (HST.out.step H3.out T3.out h4 f4)
          have HLN : Hid (olen (oText s x.t) ≤ 2000 * (k + 1)) := Lib.hid (by have h8 := hol.out; have h9 := HSm.out; have := oText_len s x.t; omega)
          clear h4 f4 d1
          generalize oText s x.t = s2 at *
          clear H3 T3 HR3 HC3
          go_wp2_with fail
          refine (odone_any HSN.out.o).mono ?_
          rintro e w5 ⟨rfl, hk5⟩
          have HSO := Lib.hid (HSN.out.kept hk5)
          clear hk5
          go_wp2_with fail
          refine (rodone_any HSO.out.r).mono ?_
          rintro e w6 ⟨rfl, hk6⟩
          have HSP := Lib.hid (HSO.out.kept hk6)
          clear hk6
          generalize (oDone s2).1 = r1
          generalize (oDone s2).2 = r2
          go_wp2_with fail
          go_roundw
          case rel => exact ⟨k + 1, s2, by omega, by omega, by go_num, HSP, HLN⟩
          case measure => simp [intOf]; omega
        · go_wp2_with fail
          generalize hWA : wr.alloc _ = WA at *
          clear hWA c0 c1 c2 c3 c4
          refine (oword_any x.wd (by have := HSm.out; omega) HST.out.o (by have := HOL.out; omega) HST.out.k.size).mono ?_
          rintro e w3 ⟨rfl, h3, t3⟩
          have H3 := Lib.hid h3
          have T3 := Lib.hid t3
          have HR3 := Lib.hid (HST.out.half h3 t3)
          have HC3 := Lib.hid (HCP.out.turnB t3 HNE.out.1)
          clear h3 t3
          have d1 := HC3.out.c3
          go_wp2_with fail
          refine (roword_any x.wd (by have := HSm.out; omega) HR3.out.1 (by have := HOL.out; omega)).mono ?_
          rintro e w4 ⟨rfl, h4, f4⟩
          have HSN := Lib.hid (HST.out.step H3.out T3.out h4 f4)
          have HLN : Hid (olen (oWord s x.wd) ≤ 2000 * (k + 1)) := Lib.hid (by have h8 := hol.out; have h9 := HSm.out; have := oWord_len s x.wd; omega)
          clear h4 f4 d1
          generalize oWord s x.wd = s2 at *
          clear H3 T3 HR3 HC3
          go_wp2_with fail
          refine (odone_any HSN.out.o).mono ?_
          rintro e w5 ⟨rfl, hk5⟩
          have HSO := Lib.hid (HSN.out.kept hk5)
          clear hk5
          go_wp2_with fail
          refine (rodone_any HSO.out.r).mono ?_
          rintro e w6 ⟨rfl, hk6⟩
          have HSP := Lib.hid (HSO.out.kept hk6)
          clear hk6
          generalize (oDone s2).1 = r1
          generalize (oDone s2).2 = r2
          go_wp2_with fail
          go_roundw
          case rel => exact ⟨k + 1, s2, by omega, by omega, by go_num, HSP, HLN⟩
          case measure => simp [intOf]; omega
        · go_wp2_with fail
          generalize hWA : wr.alloc _ = WA at *
          clear hWA c0 c1 c2 c3 c4
          refine (oset_any (fun W hW => by rw [← HSV.out]; exact (HAT.out.kept (hW.over HST.out.k HST.out.ho (Nat.le_refl _))).rd) (by have := HSm.out; omega) (fun y hy => by have := HSm.out.2.2.2 y hy; omega) HST.out.o (by have := HOL.out; omega) HST.out.k.size).mono ?_
          rintro e w3 ⟨rfl, h3, t3⟩
          have H3 := Lib.hid h3
          have T3 := Lib.hid t3
          have HR3 := Lib.hid (HST.out.half h3 t3)
          have HC3 := Lib.hid (HCP.out.turnB t3 HNE.out.1)
          clear h3 t3
          have d1 := HC3.out.c4
          rw [HSV.out] at d1
          go_wp2_with fail
          refine (roset_any (fun W hW => by rw [← HSV.out]; exact (HAT.out.kept (fr_over hW HR3.out.2 HST.out.hr)).rd) (by have := HSm.out; omega) (fun y hy => by have := HSm.out.2.2.2 y hy; omega) HR3.out.1 (by have := HOL.out; omega)).mono ?_
          rintro e w4 ⟨rfl, h4, f4⟩
          have HSN := Lib.hid (HST.out.step H3.out T3.out h4 f4)
          have HLN : Hid (olen (oSet s x.l) ≤ 2000 * (k + 1)) := Lib.hid (by have h8 := hol.out; have h9 := HSm.out; have := set_len s x.l; omega)
          clear h4 f4 d1
          generalize oSet s x.l = s2 at *
          clear H3 T3 HR3 HC3
          go_wp2_with fail
          refine (odone_any HSN.out.o).mono ?_
          rintro e w5 ⟨rfl, hk5⟩
          have HSO := Lib.hid (HSN.out.kept hk5)
          clear hk5
          go_wp2_with fail
          refine (rodone_any HSO.out.r).mono ?_
          rintro e w6 ⟨rfl, hk6⟩
          have HSP := Lib.hid (HSO.out.kept hk6)
          clear hk6
          generalize (oDone s2).1 = r1
          generalize (oDone s2).2 = r2
          go_wp2_with fail
          go_roundw
          case rel => exact ⟨k + 1, s2, by omega, by omega, by go_num, HSP, HLN⟩
          case measure => simp [intOf]; omega
        · go_wp2_with fail
          generalize hWA : wr.alloc _ = WA at *
          clear hWA c0 c1 c2 c3 c4
          have HSN := HST
          have HLN : Hid (olen s ≤ 2000 * (k + 1)) := Lib.hid (by have h8 := hol.out; omega)
          generalize s = s2 at *
          refine (odone_any HSN.out.o).mono ?_
          rintro e w5 ⟨rfl, hk5⟩
          have HSO := Lib.hid (HSN.out.kept hk5)
          clear hk5
          go_wp2_with fail
          refine (rodone_any HSO.out.r).mono ?_
          rintro e w6 ⟨rfl, hk6⟩
          have HSP := Lib.hid (HSO.out.kept hk6)
          clear hk6
          generalize (oDone s2).1 = r1
          generalize (oDone s2).2 = r2
          go_wp2_with fail
          go_roundw
          case rel => exact ⟨k + 1, s2, by omega, by omega, by go_num, HSP, HLN⟩
          case measure => simp [intOf]; omega
      · by_cases h1 : k < n
        · have g1 : (k : Int) < n := by omega
          have g2 : ¬ (k : Int) < 100 := by omega
          go_wp2
          go_ret
          exact ⟨rfl, hs.out.k⟩
        · have g1 : ¬ (k : Int) < n := by omega
          go_wp2
          go_ret
          exact ⟨rfl, hs.out.k⟩

end Go.Proofs.Ytfbmlacklhiecaa
