/- Contracts and lemmas: First2 -/
import Derived.Test.YtdapdpmplbifdaaDoorNamed
import Derived.Laws.ResultCell
namespace Go.Proofs.YtdapdpmplbifdaaDoor
set_option linter.unusedVariables false
set_option linter.unusedSimpArgs false
open Go.RowKit Go.ChangeShapes Go.WideShapes
theorem first_ret {W : World} {g : Nat} {a b c d : Value} {tmps : Array Value} (h : Four W g a b c d) (h4 : tmps.getD 2 undef = .pointer (some ⟨g, 0, none⟩)) :
    (results Tryd.f45 tmps).run Tryd.prog W = .ok (.agg #[a, b, c, d]) W := by
  have c0 := h.c0
  have c1 := h.c1
  have c2 := h.c2
  have c3 := h.c3
  rw [results_one_cell rfl, h4]
  go_simp
theorem bs_from {s : ByteArray} {a : Nat} (h : a ≤ s.size) : bs (s.extract a s.size) = (bs s).drop a := by
  rw [bs_extract, List.take_of_length_le]
  rw [List.length_drop, bs_len]; exact Nat.le_refl _
theorem bs_to {s : ByteArray} {a : Nat} : bs (s.extract 0 a) = (bs s).take a := by
  rw [bs_extract]; simp
set_option maxHeartbeats 2000000 in
theorem kfirst_any (s : ByteArray) (w : World) (hs : s.size ≤ 1000000) (h0 : 0 < s.size) (hL : LaidT w) :
    Calls Tryd.prog 45 #[.string s] w (KeptPost (tokV (firstS (bs s)) 0) w) := by
  have H0 := Lib.hid (res_new hL)
  clear hL
  have hpl := (lead_prefix (bs s)).length_le
  rw [bs_len] at hpl
  have HN : Hid (∀ W, Calls Tryd.prog 69 #[.string s] W (KeptPost (.string (strOf (leadS (bs s)))) W)) := Lib.hid (fun W => kname_any s W hs)
  by_cases hl : leadS (bs s) = []
  · have hE : (strOf (leadS (bs s))).toList = [] := by rw [bs_toList, bs_strOf]; exact hl
    have hE1 : (strOf (leadS (bs s))).toList.isEmpty = true := by rw [hE]; rfl
    have hE2 : ((strOf (leadS (bs s))).toList == []) = true := by rw [hE]; rfl
    have HV : Hid (firstS (bs s) = _) := Lib.hid (by unfold firstS; rw [if_neg (by simp [hl])])
    have HD : Hid (∀ W, Calls Tryd.prog 71 #[.string s, .func (.func 72) #[] #[]] W (KeptPost (.int .i64 (((bs s).takeWhile tDig).length : Nat)) W)) :=
      Lib.hid (fun W => klead_any 72 rDig tDig (fun args w => by kernel_rfl) kdig_any dig_byte (fun r h => rdig_far h) s W hs)
    clear hl hpl
    generalize strOf (leadS (bs s)) = nm at *
    by_cases hd : (bs s).takeWhile tDig = []
    · have HV2 : Hid (firstS (bs s) = if (bs s).take 1 = [68] then ⟨1, [68], 0⟩ else if fixK ((bs s).take 1) ≠ 0 then ⟨fixK ((bs s).take 1), [], 0⟩ else ⟨9, (bs s).take 1, 0⟩) := Lib.hid (by rw [HV.out, if_neg (by simp [hd])])
      rw [hd] at HD
      clear hd HV
      have h1i : (1 : Int) ≤ (s.size : Int) := by omega
      have HB : Hid (bs (s.extract 0 1) = (bs s).take 1) := Lib.hid bs_to
      rw [← HB.out] at HV2
      generalize hy : s.extract 0 1 = y at *
      have HY := Lib.hid hy
      clear hy HB
      by_cases e68 : bs y = [68]
      · have q68 : (y.toList == [68]) = true := str_yes e68
        have HA : Hid (tokV (firstS (bs s)) 0 = .agg #[.int .i64 1, .string y, .int .i64 0, .int .i64 0]) := Lib.hid (by
          rw [HV2.out, if_pos e68]; unfold tokV; rw [← e68, strOf_bs]; rfl)
        clear e68 HV2
        go_enter Tryd.func45, Tryd.ntmps45
        go_wp2_with fail
        generalize w.alloc _ = w0 at H0 ⊢
        generalize w.heap.size = g0 at H0 ⊢
        refine (HN.out _).mono ?_
        rintro e w1 ⟨rfl, hk1⟩
        have H1 := Lib.hid (H0.out.later hk1)
        clear hk1
        go_wp2_with fail
        refine (HD.out _).mono ?_
        rintro e w2 ⟨rfl, hk2⟩
        have H2 := Lib.hid (H1.out.later hk2)
        clear hk2
        have r0 := H2.out.r.c0
        have r1 := H2.out.r.c1
        have r2 := H2.out.r.c2
        have r3 := H2.out.r.c3
        have f0 := H2.out.r.fz 0
        have f1 := H2.out.r.fz 1
        have f2 := H2.out.r.fz 2
        have f3 := H2.out.r.fz 3
        have HYY := HY.out
        go_wp2
        clear r0 r1 r2 r3 f0 f1 f2 f3
        refine bodyPost_ret (first_ret H2.out.r.put rfl) rfl ⟨?_, put_kept H2.out.kept H2.out.n0⟩
        rw [HA.out]
      · have q68 : (y.toList == [68]) = false := str_no e68
        by_cases hf : fixK (bs y) = 0
        · have HA : Hid (tokV (firstS (bs s)) 0 = .agg #[.int .i64 9, .string y, .int .i64 0, .int .i64 0]) := Lib.hid (by
            rw [HV2.out, if_neg e68, if_neg (by simp [hf])]; unfold tokV; rw [strOf_bs]; rfl)
          have HF : Hid (∀ W, LaidT W → Calls Tryd.prog 73 #[.string y] W fun e w' => e = .returned (.int .i64 0) ∧ W = w') := Lib.hid (fun W h => by rw [← hf]; exact kfixed_any y W h)
          clear e68 HV2 hf
          go_enter Tryd.func45, Tryd.ntmps45
          go_wp2_with fail
          generalize w.alloc _ = w0 at H0 ⊢
          generalize w.heap.size = g0 at H0 ⊢
          refine (HN.out _).mono ?_
          rintro e w1 ⟨rfl, hk1⟩
          have H1 := Lib.hid (H0.out.later hk1)
          clear hk1
          go_wp2_with fail
          refine (HD.out _).mono ?_
          rintro e w2 ⟨rfl, hk2⟩
          have H2 := Lib.hid (H1.out.later hk2)
          clear hk2
          have HYY := HY.out
          go_wp2_with fail
          refine (HF.out _ H2.out.laid).mono ?_
          rintro e w3 ⟨rfl, rfl⟩
          have r0 := H2.out.r.c0
          have r1 := H2.out.r.c1
          have r2 := H2.out.r.c2
          have r3 := H2.out.r.c3
          have f0 := H2.out.r.fz 0
          have f1 := H2.out.r.fz 1
          have f2 := H2.out.r.fz 2
          have f3 := H2.out.r.fz 3
          go_wp2
          clear r0 r1 r2 r3 f0 f1 f2 f3
          refine bodyPost_ret (first_ret H2.out.r.put rfl) rfl ⟨?_, put_kept H2.out.kept H2.out.n0⟩
          rw [HA.out]
        · have HA : Hid (tokV (firstS (bs s)) 0 = .agg #[.int .i64 (fixK (bs y)), .string ⟨#[]⟩, .int .i64 0, .int .i64 0]) := Lib.hid (by
            rw [HV2.out, if_neg e68, if_pos hf]; rfl)
          have HF : Hid (∀ W, LaidT W → Calls Tryd.prog 73 #[.string y] W fun e w' => e = .returned (.int .i64 (fixK (bs y))) ∧ W = w') := Lib.hid (fun W h => kfixed_any y W h)
          have hfb : (fixK (bs y) != 0) = true := by simp [hf]
          clear e68 HV2 hf
          generalize fixK (bs y) = q at *
          go_enter Tryd.func45, Tryd.ntmps45
          go_wp2_with fail
          generalize w.alloc _ = w0 at H0 ⊢
          generalize w.heap.size = g0 at H0 ⊢
          refine (HN.out _).mono ?_
          rintro e w1 ⟨rfl, hk1⟩
          have H1 := Lib.hid (H0.out.later hk1)
          clear hk1
          go_wp2_with fail
          refine (HD.out _).mono ?_
          rintro e w2 ⟨rfl, hk2⟩
          have H2 := Lib.hid (H1.out.later hk2)
          clear hk2
          have HYY := HY.out
          go_wp2_with fail
          refine (HF.out _ H2.out.laid).mono ?_
          rintro e w3 ⟨rfl, rfl⟩
          have r0 := H2.out.r.c0
          have r1 := H2.out.r.c1
          have r2 := H2.out.r.c2
          have r3 := H2.out.r.c3
          have f0 := H2.out.r.fz 0
          have f1 := H2.out.r.fz 1
          have f2 := H2.out.r.fz 2
          have f3 := H2.out.r.fz 3
          go_wp2
          clear r0 r1 r2 r3 f0 f1 f2 f3
          refine bodyPost_ret (first_ret H2.out.r.put rfl) rfl ⟨?_, put_kept H2.out.kept H2.out.n0⟩
          rw [HA.out]
    · have hn0 : 0 < ((bs s).takeWhile tDig).length := List.length_pos_iff.2 hd
      have hn1 : ((bs s).takeWhile tDig).length ≤ s.size := by
        have := (List.takeWhile_prefix (l := bs s) tDig).length_le
        rwa [bs_len] at this
      have HX : Hid (strOf ((bs s).takeWhile tDig) = s.extract 0 ((bs s).takeWhile tDig).length) := Lib.hid (bs_inj (by
        rw [bs_strOf, bs_to]
        exact List.prefix_iff_eq_take.1 (List.takeWhile_prefix tDig)))
      have HA : Hid (tokV (firstS (bs s)) 0 = .agg #[.int .i64 8, .string (s.extract 0 ((bs s).takeWhile tDig).length), .int .i64 0, .int .i64 0]) := Lib.hid (by
        rw [HV.out, if_pos (by simpa using hd)]; unfold tokV; simp only; rw [HX.out]; rfl)
      clear hd HV HX
      generalize ((bs s).takeWhile tDig).length = m at *
      have hni : (0 : Int) < (m : Int) := by omega
      have hnl : (m : Int) ≤ (s.size : Int) := by omega
      go_enter Tryd.func45, Tryd.ntmps45
      go_wp2_with fail
      generalize w.alloc _ = w0 at H0 ⊢
      generalize w.heap.size = g0 at H0 ⊢
      refine (HN.out _).mono ?_
      rintro e w1 ⟨rfl, hk1⟩
      have H1 := Lib.hid (H0.out.later hk1)
      clear hk1
      go_wp2_with fail
      refine (HD.out _).mono ?_
      rintro e w2 ⟨rfl, hk2⟩
      have H2 := Lib.hid (H1.out.later hk2)
      clear hk2
      have r0 := H2.out.r.c0
      have r1 := H2.out.r.c1
      have r2 := H2.out.r.c2
      have r3 := H2.out.r.c3
      have f0 := H2.out.r.fz 0
      have f1 := H2.out.r.fz 1
      have f2 := H2.out.r.fz 2
      have f3 := H2.out.r.fz 3
      go_wp2
      clear r0 r1 r2 r3 f0 f1 f2 f3
      refine bodyPost_ret (first_ret H2.out.r.put rfl) rfl ⟨?_, put_kept H2.out.kept H2.out.n0⟩
      rw [HA.out]
  · have hE : ¬ (strOf (leadS (bs s))).toList = [] := by rw [bs_toList, bs_strOf]; exact hl
    have hE1 : (strOf (leadS (bs s))).toList.isEmpty = false := by rw [bs_toList, bs_strOf]; simpa using hl
    have hE2 : ((strOf (leadS (bs s))).toList == []) = false := by rw [bs_toList, bs_strOf]; simpa using hl
    have hsz : (strOf (leadS (bs s))).size = (leadS (bs s)).length := strOf_size _
    have HNM : Hid (∀ W, LaidT W → Calls Tryd.prog 70 #[.string (strOf (leadS (bs s))), .string (s.extract (strOf (leadS (bs s))).size s.size)] W (KeptPost (tokV (firstS (bs s)) 0) W)) := Lib.hid (fun W hW => by
      have h1 := knamed_any (strOf (leadS (bs s))) (s.extract (strOf (leadS (bs s))).size s.size) W (by omega) (by rw [ByteArray.size_extract]; omega) hW
      rw [bs_strOf, bs_from (by omega), hsz] at h1
      have e : firstS (bs s) = namedS (leadS (bs s)) ((bs s).drop (leadS (bs s)).length) := by unfold firstS; rw [if_pos (by simpa using hl)]
      rw [e, hsz]
      exact h1)
    have hle : ((strOf (leadS (bs s))).size : Int) ≤ (s.size : Int) := by omega
    clear hl hpl hsz
    generalize strOf (leadS (bs s)) = nm at *
    unfold tokV at *
    generalize firstS (bs s) = t at *
    go_enter Tryd.func45, Tryd.ntmps45
    go_wp2_with fail
    generalize w.alloc _ = w0 at H0 ⊢
    generalize w.heap.size = g0 at H0 ⊢
    refine (HN.out _).mono ?_
    rintro e w1 ⟨rfl, hk1⟩
    have H1 := Lib.hid (H0.out.later hk1)
    clear hk1
    go_wp2_with fail
    refine (HNM.out _ H1.out.laid).mono ?_
    rintro e w2 ⟨rfl, hk2⟩
    have H2 := Lib.hid (H1.out.later hk2)
    clear hk2
    have r0 := H2.out.r.c0
    have r1 := H2.out.r.c1
    have r2 := H2.out.r.c2
    have r3 := H2.out.r.c3
    have f0 := H2.out.r.fz 0
    have f1 := H2.out.r.fz 1
    have f2 := H2.out.r.fz 2
    have f3 := H2.out.r.fz 3
    go_wp2
    clear r0 r1 r2 r3 f0 f1 f2 f3
    exact bodyPost_ret (first_ret H2.out.r.put rfl) rfl ⟨rfl, put_kept H2.out.kept H2.out.n0⟩

end Go.Proofs.YtdapdpmplbifdaaDoor
