/- Contracts and lemmas: W5 -/
import Derived.Test.YtfbmlacklhiecaaL3
namespace Go.Proofs.Ytfbmlacklhiecaa
set_option linter.unusedVariables false
set_option linter.unusedSimpArgs false
open Go.RowKit Go.ChangeShapes Go.WideShapes
set_option maxRecDepth 20000

open Go.RowKit Go.ChangeShapes Go.WideShapes
set_option maxRecDepth 20000
theorem numR_pos : ∀ (f p n : Nat) (l : List UInt8) (m : Nat) (r : List UInt8), p ≠ 0 → numR f p n l = some (m, r) → 0 < m
  | 0, _, _, _, _, _, _, h => by simp [numR] at h
  | _ + 1, _, _, [], _, _, _, h => by simp [numR] at h
  | f + 1, p, n, c :: t, m, r, hp, h => by
    rw [numR_succ] at h
    split at h
    · cases h
    · rename_i hc
      have hc0 : c ≠ 0 := fun e => hc ⟨hp, e⟩
      have hcp : 0 < c.toNat := by
        rcases Nat.eq_zero_or_pos c.toNat with h0 | h0
        · exact absurd (UInt8.toNat_inj.1 (by simpa using h0)) hc0
        · exact h0
      split at h
      · injection h with h; injection h with h1 h2
        have : 0 < c.toNat * 128 ^ p := Nat.mul_pos hcp (Nat.pow_pos (by decide))
        omega
      · exact numR_pos f (p + 1) _ t m r (by omega) h
theorem stops_num (r : List UInt8) : iNum (some (128 :: r)) 0 = (0, none) := by
  have e : numR 9 0 0 (128 :: r) = numR 8 1 0 r := by rw [numR_succ]; simp
  cases h : numR 8 1 0 r with
  | none => exact iNum_not (by rw [e, h])
  | some q =>
    obtain ⟨m, t⟩ := q
    have := numR_pos 8 1 0 r m t (by decide) h
    exact iNum_over (by rw [e, h]) (by omega)
theorem stops_out : oNum (some []) (-1) = none := by decide +kernel
/-- an Out and an In that both stopped -/
structure St4 (w0 : World) (bo bi : Nat) (w : World) : Prop where
  o : OutAt w0.heap.size bo none w
  i : InAt bi none w
  k : Kept w0 w
  ho : w0.heap.size ≤ bo
  hi : w0.heap.size ≤ bi
  ne : bi ≠ bo
theorem St4.kept {w0 : World} {bo bi : Nat} {w w' : World} (h : St4 w0 bo bi w) (k : Kept w w') : St4 w0 bo bi w' := ⟨h.o.kept k, h.i.kept k, h.k.trans k, h.ho, h.hi, h.ne⟩
theorem St4.byO {w0 : World} {bo bi : Nat} {w w' : World} (h : St4 w0 bo bi w) (h1 : OutAt w0.heap.size bo none w') (t : TurnB w0.heap.size bo w w') : St4 w0 bo bi w' :=
  ⟨h1, h.i.turnB t h.ne, t.over h.k h.ho (Nat.le_refl _), h.ho, h.hi, h.ne⟩
theorem St4.byI {w0 : World} {bo bi : Nat} {w w' : World} (h : St4 w0 bo bi w) (h1 : InAt bi none w') (f : Fr (fun k => k = bi) w w') : St4 w0 bo bi w' :=
  ⟨h.o.byI h.i f (fun e => h.ne e.symm), h1, fr_over f h.k h.hi, h.ho, h.hi, h.ne⟩
set_option maxHeartbeats 8000000 in
theorem packStops_walk {w : World} (v : Value) (hv : ItemsIn w v) (x0 : ByteArray) (hx0 : x0.size ≤ maxLen) :
    Calls Try.prog 7 #[v, .string x0] w fun e w' => e = .returned (.bool true) ∧ Fr (fun _ => False) w w' := by
  obtain ⟨l, hl⟩ := hv
  have HLG : Hid (∀ W, Kept w W → Calls Try.prog 9 #[v] W (KeptPost (.bool (largeB l)) W)) := Lib.hid (fun W hk => large_any (hl.kept hk))
  obtain ⟨ao, cap, rfl, hcap, hmax, hc, hok⟩ := hl
  unfold maxLen at hmax hx0
  have HC := Lib.hid hc
  have HOK := Lib.hid hok
  obtain ⟨big, hbig⟩ : ∃ b, b = largeB l := ⟨_, rfl⟩
  rw [← hbig] at HLG
  have HBG := Lib.hid hbig
  clear hc hok hbig
  generalize hn : l.length = n at *
  have HN := Lib.hid hn
  clear hn
  go_enter Try.func7, Try.ntmps7
  go_wp2_with fail
  refine (awake_any _).mono ?_
  rintro e w1 ⟨rfl, hk1⟩
  have K1 := Lib.hid hk1
  clear hk1
  go_wp2_with fail
  refine (HLG.out _ K1.out).mono ?_
  rintro e w2 ⟨rfl, hk2⟩
  have K2 := Lib.hid (K1.out.trans hk2)
  clear hk2 HLG
  cases big with
  | true =>
    go_wp2
    go_ret
    exact ⟨rfl, K2.out⟩
  | false =>
    by_cases hsz : 4096 < x0.size
    · have g0 : decide (4096 < x0.size) = true := by simpa using hsz
      go_wp2
      go_ret
      exact ⟨rfl, K2.out⟩
    · have g0 : decide (4096 < x0.size) = false := by simpa using hsz
      have H0 := Lib.hid (out_new w2 w.heap.size)
      have K3 := Lib.hid (K2.out.trans (Fr.of_alloc _ w2 (Obj.cells #[.int .i64 0, .slice none 0 0] 31)))
      have HBO := Lib.hid K2.out.size
      go_wp2_with fail
      generalize w2.alloc (Obj.cells #[.int .i64 0, .slice none 0 0] 31) = w3 at *
      generalize w2.heap.size = bo at *
      refine (onum_any (-1) (by decide) (by decide) H0.out (by decide) K3.out.size).mono ?_
      rintro e w4 ⟨rfl, h4, t4⟩
      rw [stops_out] at h4
      have H4 := Lib.hid h4
      have K4 := Lib.hid (t4.over K3.out HBO.out (Nat.le_refl _))
      clear h4 t4
      obtain ⟨q, HQ, hcat⟩ := str_add ⟨#[128]⟩ x0 (by show 1 + x0.size ≤ _; omega)
      have hq2 : bs q = 128 :: bs x0 := by rw [HQ.out]; rfl
      have HQS : Hid (q.size ≤ 1000000) := Lib.hid (by rw [bs_size hq2]; simp [bs_len]; omega)
      go_wp2_with fail
      refine (from_any q _ HQS.out).mono ?_
      rintro e w5 ⟨rfl, h5, k5, _⟩
      rw [hq2] at h5
      have H5 := Lib.hid h5
      have H5o := Lib.hid (H4.out.kept k5)
      have K5 := Lib.hid (K4.out.trans k5)
      have HBI : Hid (w.heap.size ≤ w4.heap.size ∧ w4.heap.size ≠ bo) := Lib.hid (by have h1 := K4.out.size; have h2 := H4.out.lt; omega)
      clear h5 k5 hq2 HQ hcat
      generalize w4.heap.size = bi at *
      go_wp2_with fail
      refine (inum_any 0 (by decide) (by decide) H5.out).mono ?_
      rintro e w6 ⟨rfl, h6, f6⟩
      rw [stops_num] at h6 ⊢
      have HS0 : Hid (St4 w bo bi w6) := Lib.hid ⟨H5o.out.byI H5.out f6 (fun e => HBI.out.2 e.symm), h6, fr_over f6 K5.out HBI.out.1, HBO.out, HBI.out.1, HBI.out.2⟩
      clear h6 f6 H0 H4 H5 H5o K3 K4 K5
      have hend : (x0.size = 0) ∨ (∃ h : 0 < x0.size, x0[0] = 0) ∨ ∃ h : 0 < x0.size, x0[0] ≠ 0 := by
        by_cases h : 0 < x0.size
        · by_cases h2 : x0[0] = 0
          · exact .inr (.inl ⟨h, h2⟩)
          · exact .inr (.inr ⟨h, h2⟩)
        · exact .inl (by omega)
      have HLf := Lib.hid (ileft_any HS0.out.i)
      have eL : iLeft none = 0 := rfl
      rw [eL] at HLf
      rcases hend with hz | ⟨hz, hc⟩ | ⟨hz, hc⟩
      rotate_left
      · have x1 : ∀ wx, (Instr.index 9 (.string x0) (.int .i64 0)).run Try.prog wx = .ok (.int .u8 0) wx := fun wx => by
          rw [run_index_string wx 9 x0 _ _ Try.underlying9, dif_pos ⟨by omega, by omega⟩]
          have : x0[(0 : Int).toNat] = 0 := hc
          rw [this]; rfl
        have g1 : 0 < (x0.size : Int) := by omega
        clear hc
        go_wp2_with fail
        refine HLf.out.mono ?_
        rintro e w7 ⟨rfl, rfl⟩
        go_wp2
        go_ret
        exact ⟨rfl, HS0.out.k⟩
      rotate_left
      · have g1 : ¬ 0 < (x0.size : Int) := by omega
        go_wp2_with fail
        refine HLf.out.mono ?_
        rintro e w7 ⟨rfl, rfl⟩
        go_wp2_with fail
        go_loopw [7] (fun i wr => ∃ (k : Nat), k ≤ n ∧ k ≤ 100 ∧ i = .int .i64 k ∧ Hid (St4 w bo bi wr)) (fun i _ => n - (intOf i).toNat)
        case atStart => exact ⟨0, by omega, by omega, rfl, HS0⟩
        case round =>
          obtain ⟨k, hk, hk1, rfl, hs⟩ := hrel
          clear HS0 HLf
          by_cases hlt : k < n ∧ k < 100
          · obtain ⟨h1, h2⟩ := hlt
            have g3 : (k : Int) < n := by omega
            have g4 : (k : Int) < 100 := by omega
            obtain ⟨x, hx⟩ : ∃ x, l[k]? = some x := ⟨_, List.getElem?_eq_getElem (by have := HN.out; omega)⟩
            obtain ⟨g, off, ha, hat⟩ := HC.out k x hx
            subst ha
            have HAT := Lib.hid hat
            have HSm := Lib.hid (large_of HBG.out.symm hx h2)
            obtain ⟨so, sc, hsv, hscc, _⟩ := hat.rd
            rw [wcells_len] at hsv hscc
            have HSV := Lib.hid hsv
            clear hx hat hsv
            go_wp2_with fail
            refine (onum_any 1 (by decide) (by decide) hs.out.o (by decide) hs.out.k.size).mono ?_
            rintro e w8 ⟨rfl, h8, t8⟩
            rw [oNum_none] at h8
            have S8 := Lib.hid (hs.out.byO h8 t8)
            clear h8 t8
            have c2 := (HAT.out.kept S8.out.k).c2
            go_wp2_with fail
            refine (otext_any x.t (by have := HSm.out; omega) S8.out.o (by decide) S8.out.k.size).mono ?_
            rintro e w9 ⟨rfl, h8, t8⟩
            rw [oText_none] at h8
            have S9 := Lib.hid (S8.out.byO h8 t8)
            clear h8 t8 c2
            have c3 := (HAT.out.kept S9.out.k).c3
            go_wp2_with fail
            refine (oword_any x.wd (by have := HSm.out; omega) S9.out.o (by decide) S9.out.k.size).mono ?_
            rintro e w10 ⟨rfl, h8, t8⟩
            rw [oWord_none] at h8
            have S10 := Lib.hid (S9.out.byO h8 t8)
            clear h8 t8 c3
            have c4 := (HAT.out.kept S10.out.k).c4
            rw [HSV.out] at c4
            go_wp2_with fail
            refine (oset_any (fun W hW => by rw [← HSV.out]; exact (HAT.out.kept (hW.over S10.out.k S10.out.ho (Nat.le_refl _))).rd) (by have := HSm.out; omega) (fun y hy => by have := HSm.out.2.2.2 y hy; omega) S10.out.o (by decide) S10.out.k.size).mono ?_
            rintro e w11 ⟨rfl, h8, t8⟩
            rw [oSet_none] at h8
            have S11 := Lib.hid (S10.out.byO h8 t8)
            clear h8 t8 c4
            go_wp2_with fail
            refine (inum_any 4611686018427387904 (by decide) (by decide) S11.out.i).mono ?_
            rintro e w12 ⟨rfl, h8, t8⟩
            rw [iNum_none] at h8 ⊢
            have S12 := Lib.hid (S11.out.byI h8 t8)
            clear h8 t8
            go_wp2_with fail
            refine (itext_any 100 (by decide) (by decide) S12.out.i).mono ?_
            rintro e w13 ⟨rfl, h8, t8⟩
            rw [iText_none] at h8 ⊢
            have S13 := Lib.hid (S12.out.byI h8 t8)
            clear h8 t8
            go_wp2_with fail
            refine (iword_any S13.out.i).mono ?_
            rintro e w14 ⟨rfl, h8, t8⟩
            rw [iWord_none] at h8 ⊢
            have S14 := Lib.hid (S13.out.byI h8 t8)
            clear h8 t8
            go_wp2_with fail
            refine (iset_any S14.out.i).mono ?_
            rintro e w15 ⟨u, rfl, hu, h8, t8⟩
            rw [iSet_none] at h8 hu
            obtain ⟨uo, uc, hv, _⟩ := own_slice hu
            subst hv
            have S15 := Lib.hid (S14.out.byI h8 t8)
            clear h8 t8 hu
            go_wp2_with fail
            refine (ileft_any S15.out.i).mono ?_
            rintro e w16 ⟨rfl, rfl⟩
            rw [eL]
            go_wp2_with fail
            go_roundw
            case rel => exact ⟨k + 1, by omega, by omega, by go_num, S15⟩
            case measure => simp [intOf]; omega
          · have hend : ((k : Int) < n ∧ ¬ (k : Int) < 100) ∨ ¬ (k : Int) < n := by omega
            rcases hend with ⟨g3, g4⟩ | g3
            all_goals
              go_wp2_with fail
              refine (odone_any hs.out.o).mono ?_
              rintro e w8 ⟨rfl, hk8⟩
              have S8 := Lib.hid (hs.out.kept hk8)
              clear hk8
              have eD : oDone none = (⟨#[]⟩, 2) := rfl
              rw [eD]
              go_wp2_with fail
              refine (idone_any S8.out.i).mono ?_
              rintro e w9 ⟨rfl, h8, t8⟩
              have eI : iDone none = (2, none) := rfl
              rw [eI] at h8 ⊢
              have S9 := Lib.hid (S8.out.byI h8 t8)
              clear h8 t8
              go_wp2
              go_ret
              exact ⟨rfl, S9.out.k⟩
      · obtain ⟨c, hcc⟩ : ∃ c, c = x0[0] := ⟨_, rfl⟩
        rw [← hcc] at hc
        have hcp : 0 < c.toNat := by
          rcases Nat.eq_zero_or_pos c.toNat with h0 | h0
          · exact absurd (UInt8.toNat_inj.1 (by simpa using h0)) hc
          · exact h0
        have x1 : ∀ wx, (Instr.index 9 (.string x0) (.int .i64 0)).run Try.prog wx = .ok (.int .u8 (c.toNat : Int)) wx := fun wx => by
          rw [run_index_string wx 9 x0 _ _ Try.underlying9, dif_pos ⟨by omega, by omega⟩]
          have : x0[(0 : Int).toNat] = c := hcc.symm
          rw [this]
        have g1 : 0 < (x0.size : Int) := by omega
        have hcl := c.toNat_lt
        have hc9 : ((c.toNat : Int) == 0) = false := by simp; omega
        clear hc hcc
        go_wp2_with fail
        refine HLf.out.mono ?_
        rintro e w7 ⟨rfl, rfl⟩
        go_wp2_with fail
        clear x1
        go_loopw [7] (fun i wr => ∃ (k : Nat), k ≤ n ∧ k ≤ 100 ∧ i = .int .i64 k ∧ Hid (St4 w bo bi wr)) (fun i _ => n - (intOf i).toNat)
        case atStart => exact ⟨0, by omega, by omega, rfl, HS0⟩
        case round =>
          obtain ⟨k, hk, hk1, rfl, hs⟩ := hrel
          clear HS0 HLf
          by_cases hlt : k < n ∧ k < 100
          · obtain ⟨h1, h2⟩ := hlt
            have g3 : (k : Int) < n := by omega
            have g4 : (k : Int) < 100 := by omega
            obtain ⟨x, hx⟩ : ∃ x, l[k]? = some x := ⟨_, List.getElem?_eq_getElem (by have := HN.out; omega)⟩
            obtain ⟨g, off, ha, hat⟩ := HC.out k x hx
            subst ha
            have HAT := Lib.hid hat
            have HSm := Lib.hid (large_of HBG.out.symm hx h2)
            obtain ⟨so, sc, hsv, hscc, _⟩ := hat.rd
            rw [wcells_len] at hsv hscc
            have HSV := Lib.hid hsv
            clear hx hat hsv
            go_wp2_with fail
            refine (onum_any 1 (by decide) (by decide) hs.out.o (by decide) hs.out.k.size).mono ?_
            rintro e w8 ⟨rfl, h8, t8⟩
            rw [oNum_none] at h8
            have S8 := Lib.hid (hs.out.byO h8 t8)
            clear h8 t8
            have c2 := (HAT.out.kept S8.out.k).c2
            go_wp2_with fail
            refine (otext_any x.t (by have := HSm.out; omega) S8.out.o (by decide) S8.out.k.size).mono ?_
            rintro e w9 ⟨rfl, h8, t8⟩
            rw [oText_none] at h8
            have S9 := Lib.hid (S8.out.byO h8 t8)
            clear h8 t8 c2
            have c3 := (HAT.out.kept S9.out.k).c3
            go_wp2_with fail
            refine (oword_any x.wd (by have := HSm.out; omega) S9.out.o (by decide) S9.out.k.size).mono ?_
            rintro e w10 ⟨rfl, h8, t8⟩
            rw [oWord_none] at h8
            have S10 := Lib.hid (S9.out.byO h8 t8)
            clear h8 t8 c3
            have c4 := (HAT.out.kept S10.out.k).c4
            rw [HSV.out] at c4
            go_wp2_with fail
            refine (oset_any (fun W hW => by rw [← HSV.out]; exact (HAT.out.kept (hW.over S10.out.k S10.out.ho (Nat.le_refl _))).rd) (by have := HSm.out; omega) (fun y hy => by have := HSm.out.2.2.2 y hy; omega) S10.out.o (by decide) S10.out.k.size).mono ?_
            rintro e w11 ⟨rfl, h8, t8⟩
            rw [oSet_none] at h8
            have S11 := Lib.hid (S10.out.byO h8 t8)
            clear h8 t8 c4
            go_wp2_with fail
            refine (inum_any 4611686018427387904 (by decide) (by decide) S11.out.i).mono ?_
            rintro e w12 ⟨rfl, h8, t8⟩
            rw [iNum_none] at h8 ⊢
            have S12 := Lib.hid (S11.out.byI h8 t8)
            clear h8 t8
            go_wp2_with fail
            refine (itext_any 100 (by decide) (by decide) S12.out.i).mono ?_
            rintro e w13 ⟨rfl, h8, t8⟩
            rw [iText_none] at h8 ⊢
            have S13 := Lib.hid (S12.out.byI h8 t8)
            clear h8 t8
            go_wp2_with fail
            refine (iword_any S13.out.i).mono ?_
            rintro e w14 ⟨rfl, h8, t8⟩
            rw [iWord_none] at h8 ⊢
            have S14 := Lib.hid (S13.out.byI h8 t8)
            clear h8 t8
            go_wp2_with fail
            refine (iset_any S14.out.i).mono ?_
            rintro e w15 ⟨u, rfl, hu, h8, t8⟩
            rw [iSet_none] at h8 hu
            obtain ⟨uo, uc, hv, _⟩ := own_slice hu
            subst hv
            have S15 := Lib.hid (S14.out.byI h8 t8)
            clear h8 t8 hu
            go_wp2_with fail
            refine (ileft_any S15.out.i).mono ?_
            rintro e w16 ⟨rfl, rfl⟩
            rw [eL]
            go_wp2_with fail
            go_roundw
            case rel => exact ⟨k + 1, by omega, by omega, by go_num, S15⟩
            case measure => simp [intOf]; omega
          · have hend : ((k : Int) < n ∧ ¬ (k : Int) < 100) ∨ ¬ (k : Int) < n := by omega
            rcases hend with ⟨g3, g4⟩ | g3
            all_goals
              go_wp2_with fail
              refine (odone_any hs.out.o).mono ?_
              rintro e w8 ⟨rfl, hk8⟩
              have S8 := Lib.hid (hs.out.kept hk8)
              clear hk8
              have eD : oDone none = (⟨#[]⟩, 2) := rfl
              rw [eD]
              go_wp2_with fail
              refine (idone_any S8.out.i).mono ?_
              rintro e w9 ⟨rfl, h8, t8⟩
              have eI : iDone none = (2, none) := rfl
              rw [eI] at h8 ⊢
              have S9 := Lib.hid (S8.out.byI h8 t8)
              clear h8 t8
              go_wp2
              go_ret
              exact ⟨rfl, S9.out.k⟩

end Go.Proofs.Ytfbmlacklhiecaa
