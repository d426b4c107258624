/- Contracts and lemmas: All -/
import Derived.Test.YtdapdpmplbifdaaDoorFirst2
namespace Go.Proofs.YtdapdpmplbifdaaDoor
set_option linter.unusedVariables false
set_option linter.unusedSimpArgs false
open Go.RowKit Go.ChangeShapes Go.WideShapes
theorem first_name (l : List UInt8) : (firstS l).name.length ≤ l.length + 1 := by
  have h1 := (lead_prefix l).length_le
  have h2 := (List.takeWhile_prefix (l := l) tDig).length_le
  have h3 := (lead_prefix ((l.drop (leadS l).length).drop 1)).length_le
  unfold firstS
  split
  · unfold namedS
    split
    · simp
    · split
      · simp only [List.length_drop] at h3 ⊢; omega
      · simp only; omega
  · split
    · simp only; omega
    · split
      · simp
      · split
        · simp
        · simp only [List.length_take]; omega
/-- the tokens up to a place, behind what is passed over -/
def AllAt (s : ByteArray) (k : Nat) (toks : List (Tok × Nat)) : Prop := ∃ nt, AllTo s k nt toks ∧ ∀ c, ((bs s).drop k).head? = some c → passB nt c = false
theorem AllTo.bl {s : ByteArray} {k : Nat} {nt : Bool} {toks : List (Tok × Nat)} (h : AllTo s k nt toks) : AllAt s (k + blS nt ((bs s).drop k)) toks := by
  obtain ⟨nt', h1, h2⟩ := go_bl ((bs s).drop k) nt k toks.length
  rw [List.drop_drop] at h1 h2
  refine ⟨nt', ?_, h2⟩
  unfold AllTo at h ⊢
  rw [h, h1]
theorem AllAt.to {s : ByteArray} {k : Nat} {toks : List (Tok × Nat)} (h : AllAt s k toks) (hk : k < s.size) : AllTo s k false toks ∧ passB false (s.get! k) = false := by
  obtain ⟨nt, h1, h2⟩ := h
  have h3 := h2 (s.get! k) (by rw [drop_at hk]; rfl)
  obtain ⟨h4, rfl⟩ := pass_false (by rw [h3]; decide)
  exact ⟨h1, h4⟩
theorem AllAt.done {s : ByteArray} {k : Nat} {toks : List (Tok × Nat)} (h : AllAt s k toks) (hk : ¬ k < s.size) (h4 : s.size ≤ 4000) : allS (bs s) = .ok toks := by
  obtain ⟨nt, h1, _⟩ := h
  exact h1.done hk h4
theorem word_in (l : List UInt8) : (wordS (firstS l)).length ≤ l.length := by
  by_cases h : wordS (firstS l) = []
  · rw [h]; simp
  · have := congrArg List.length (first_pre h)
    rw [List.length_append] at this
    omega
theorem sign_no {l : List UInt8} (h : wordS (firstS l) = [] ∨ (sepB (firstS l) = true ∧ tFine (l.drop (wordS (firstS l)).length) = false)) : signS l = none := by rw [sign_first, if_pos h]
theorem sign_yes {l : List UInt8} (h1 : wordS (firstS l) ≠ []) (h2 : sepB (firstS l) = true → tFine (l.drop (wordS (firstS l)).length) = true) : signS l = some (firstS l, (wordS (firstS l)).length) := by
  rw [sign_first, if_neg]
  rintro (h | ⟨h3, h4⟩)
  · exact h1 h
  · rw [h2 h3] at h4; cases h4
set_option maxHeartbeats 4000000 in
theorem kall_any (s : ByteArray) (w : World) (hs : s.size ≤ 1000000) (hL : LaidT w) : Calls Tryd.prog 26 #[.string s] w (AllPost (bs s) w) := by
  by_cases h4 : s.size ≤ 4000
  · have h4i : ¬ (4000 : Int) < s.size := by omega
    have HB0 : Hid (∀ W, Calls Tryd.prog 44 #[.string s] W (KeptPost (.int .i64 (blS false (bs s) : Nat)) W)) := Lib.hid (fun W => kblanks_any s W hs)
    have HA0 : Hid (AllAt s (blS false (bs s)) []) := Lib.hid (by have := (AllTo.first s).bl; simpa using this)
    have hb0 : blS false (bs s) ≤ s.size := by have := bl_le (bs s) false; rwa [bs_len] at this
    have HL := Lib.hid hL
    clear hL
    generalize blS false (bs s) = k0 at *
    go_enter Tryd.func26, Tryd.ntmps26
    go_wp2_with fail
    refine (HB0.out _).mono ?_
    rintro e w1 ⟨rfl, hk1⟩
    have H0 : Hid (AllPart w w1 [] (.slice none 0 0) ∧ LaidT w1) := Lib.hid ⟨⟨own_nil _ _ _ _, hk1⟩, HL.out.kept hk1⟩
    clear hk1 HB0
    go_wp2
    go_loopw [5, 6] (fun v i wr => ∃ (k : Nat) (toks : List (Tok × Nat)) (n : Nat), i = .int .i64 k ∧ toks.length = n ∧ n ≤ 1000 ∧ k ≤ s.size ∧ Hid (AllAt s k toks) ∧ Hid (AllPart w wr toks v ∧ LaidT wr)) (fun _ i _ => s.size - (intOf i).toNat)
    case atStart => exact ⟨k0, [], 0, rfl, rfl, by omega, hb0, HA0, H0⟩
    case round =>
      obtain ⟨k, toks, n, rfl, hn, hn1, hk, hto, hp⟩ := hrel
      clear H0 HA0 hb0
      obtain ⟨bo, d, hv, hd⟩ := own_slice hp.out.1.1
      rw [hn] at hv hd
      subst hv
      have HNL := Lib.hid hn
      clear hn
      by_cases hlt : k < s.size
      · have hlti : (k : Int) < s.size := by omega
        have hle : (k : Int) ≤ s.size := by omega
        have HTO := Lib.hid (hto.out.to hlt)
        have hbk : bs (s.extract k s.size) = (bs s).drop k := bs_from (by omega)
        have hxs : (s.extract k s.size).size = s.size - k := by rw [ByteArray.size_extract]; omega
        have HF : Hid (∀ W, LaidT W → Calls Tryd.prog 45 #[.string (s.extract k s.size)] W (KeptPost (tokV (firstS ((bs s).drop k)) 0) W)) := Lib.hid (fun W hW => by
          rw [← hbk]
          exact kfirst_any _ W (by omega) (by omega) hW)
        have hwi := word_in ((bs s).drop k)
        have hfn := first_name ((bs s).drop k)
        rw [List.length_drop, bs_len] at hwi hfn
        have HW : Hid (∀ W, LaidT W → Calls Tryd.prog 37 #[tokV (firstS ((bs s).drop k)) 0] W (KeptPost (.string (strOf (wordS (firstS ((bs s).drop k))))) W)) := Lib.hid (fun W hW => by
          have := kword_any (firstS ((bs s).drop k)).kind (strOf (firstS ((bs s).drop k)).name) (firstS ((bs s).drop k)).of 0 W (by rw [strOf_size]; omega) hW
          rw [bs_strOf] at this
          exact this)
        have HNO : Hid (_ → signS ((bs s).drop k) = none) := Lib.hid (sign_no (l := (bs s).drop k))
        have HYE : Hid (_ → _ → signS ((bs s).drop k) = some (firstS ((bs s).drop k), (wordS (firstS ((bs s).drop k))).length)) := Lib.hid (sign_yes (l := (bs s).drop k))
        have HST : Hid (∀ W, Calls Tryd.prog 47 #[.string (s.extract (k + (wordS (firstS ((bs s).drop k))).length) s.size)] W (KeptPost (.bool (!tFine (((bs s).drop k).drop (wordS (firstS ((bs s).drop k))).length))) W)) := Lib.hid (fun W => by
          have := ksticks_any (s.extract (k + (wordS (firstS ((bs s).drop k))).length) s.size) W (by rw [ByteArray.size_extract]; omega)
          rw [bs_from (by omega)] at this
          rw [List.drop_drop]
          exact this)
        have HBL : Hid (∀ W, Calls Tryd.prog 44 #[.string (s.extract (k + (wordS (firstS ((bs s).drop k))).length) s.size)] W (KeptPost (.int .i64 (blS false ((bs s).drop (k + (wordS (firstS ((bs s).drop k))).length)) : Nat)) W)) := Lib.hid (fun W => by
          have := kblanks_any (s.extract (k + (wordS (firstS ((bs s).drop k))).length) s.size) W (by rw [ByteArray.size_extract]; omega)
          rwa [bs_from (by omega)] at this)
        have hsep : sepB (firstS ((bs s).drop k)) = tightB (firstS ((bs s).drop k)).kind := rfl
        have hws : (strOf (wordS (firstS ((bs s).drop k)))).size = (wordS (firstS ((bs s).drop k))).length := strOf_size _
        have hbl2 := bl_le ((bs s).drop (k + (wordS (firstS ((bs s).drop k))).length)) false
        rw [List.length_drop, bs_len] at hbl2
        rw [hsep] at HNO HYE
        have HE1 : Hid (wordS (firstS ((bs s).drop k)) = [] → (strOf (wordS (firstS ((bs s).drop k)))).toList = []) := Lib.hid (fun h => by rw [bs_toList, bs_strOf, h])
        have HE2 : Hid (wordS (firstS ((bs s).drop k)) ≠ [] → ¬ (strOf (wordS (firstS ((bs s).drop k)))).toList = []) := Lib.hid (fun h => by rw [bs_toList, bs_strOf]; exact h)
        have HBT : Hid (AllTo s (k + (wordS (firstS ((bs s).drop k))).length) false (toks ++ [(firstS ((bs s).drop k), k)]) → AllAt s (k + (wordS (firstS ((bs s).drop k))).length + blS false ((bs s).drop (k + (wordS (firstS ((bs s).drop k))).length))) (toks ++ [(firstS ((bs s).drop k), k)])) := Lib.hid (fun h => h.bl)
        clear hbk hxs hsep hfn
        generalize blS false ((bs s).drop (k + (wordS (firstS ((bs s).drop k))).length)) = bn at *
        generalize wordS (firstS ((bs s).drop k)) = wd at *
        generalize firstS ((bs s).drop k) = t at *
        go_wp2_with fail
        refine (HF.out _ hp.out.2).mono ?_
        rintro e w2 ⟨rfl, hk2⟩
        have H2 : Hid (AllPart w w2 toks (.slice bo n d) ∧ LaidT w2) := Lib.hid ⟨hp.out.1.kept hk2, hp.out.2.kept hk2⟩
        clear hk2
        unfold tokV at *
        have H3 : Hid (Kept w2 (w2.alloc (.cells #[.int .i64 t.kind, .string (strOf t.name), .int .i64 t.of, .int .i64 0] 31)) ∧ LaidT (w2.alloc (.cells #[.int .i64 t.kind, .string (strOf t.name), .int .i64 t.of, .int .i64 0] 31)) ∧ Four (w2.alloc (.cells #[.int .i64 t.kind, .string (strOf t.name), .int .i64 t.of, .int .i64 0] 31)) w2.heap.size (.int .i64 t.kind) (.string (strOf t.name)) (.int .i64 t.of) (.int .i64 0)) := Lib.hid ⟨Fr.of_alloc _ _ _, H2.out.2.kept (Fr.of_alloc _ _ _), four_new _ _ _ _ _ _⟩
        go_wp2_with fail
        generalize hg : w2.heap.size = g at H3 ⊢
        have HG := Lib.hid hg
        clear hg
        generalize w2.alloc _ = w3 at H3 ⊢
        refine (HW.out _ H3.out.2.1).mono ?_
        rintro e w4 ⟨rfl, hk4⟩
        have H4 : Hid (Kept w2 w4 ∧ LaidT w4 ∧ Four w4 g (.int .i64 t.kind) (.string (strOf t.name)) (.int .i64 t.of) (.int .i64 0)) := Lib.hid ⟨H3.out.1.trans hk4, H3.out.2.1.kept hk4, H3.out.2.2.kept hk4⟩
        clear hk4 H3 HF HW
        have c0 := H4.out.2.2.c0
        have hki : (k : Int) + (wd.length : Int) ≤ (s.size : Int) := by omega
        have hki0 : (0 : Int) ≤ (k : Int) + (wd.length : Int) := by omega
        have hkn : ((k : Int) + (wd.length : Int)).toNat = k + wd.length := by omega
        by_cases hwd : wd = []
        · have q1 := HE1.out hwd
          have q2 : (strOf wd).toList.isEmpty = true := by rw [q1]; rfl
          have q3 : ((strOf wd).toList == []) = true := by rw [q1]; rfl
          have HA := Lib.hid (HTO.out.1.none hlt h4 HTO.out.2 (HNO.out (.inl hwd)))
          clear hwd HNO HYE HE1 HE2 HBT HST HBL
          go_wp2
          go_ret3
          exact all_error HA.out rfl (H2.out.1.2.trans H4.out.1)
        · have q1 := HE2.out hwd
          have q2 : (strOf wd).toList.isEmpty = false := by simpa using q1
          have q3 : ((strOf wd).toList == []) = false := by simpa using q1
          cases ht : tightB t.kind
          · clear HST
            have HS := Lib.hid (HYE.out hwd (fun e => by rw [ht] at e; cases e))
            clear HNO HYE HE1 HE2
            by_cases h1000 : n = 1000
            · have HA := Lib.hid (HTO.out.1.full hlt h4 HTO.out.2 HS.out (by rw [HNL.out]; exact h1000))
              have gn : ((n : Int) == 1000) = true := by subst h1000; rfl
              clear hwd h1000 HBT HBL
              go_wp2_with (go_at_call 46; refine (ktight_any _ _).mono ?_; rintro e w' ⟨rfl, rfl⟩; rw [ht])
              go_ret3
              exact all_error HA.out rfl (H2.out.1.2.trans H4.out.1)
            · have hO := HTO.out.1.one hlt HTO.out.2 HS.out (by rw [HNL.out]; exact h1000)
              have HBT2 := Lib.hid (HBT.out hO.1)
              have hj1 := hO.2.1
              have hj2 := hO.2.2
              have gn : ((n : Int) == 1000) = false := by rw [beq_eq_false_iff_ne]; omega
              have hn999 : n + 1 ≤ 1000 := by omega
              clear hwd h1000 HBT hO
              have H6 : Hid (AllPart w (w4.setCell ⟨g, 3, none⟩ (.int .i64 (k : Int))) toks (.slice bo n d)) := Lib.hid (H2.out.1.kept (one_kept H4.out.1 (by rw [HG.out]; exact Nat.le_refl _)))
              have HSR : Hid (Src Tryd.prog 4 29 (.slice (some ⟨w4.heap.size, 0, none⟩) 1 1) 1 [.int .i64 t.kind, .string (strOf t.name), .int .i64 t.of, .int .i64 (k : Int)] ((w4.setCell ⟨g, 3, none⟩ (.int .i64 (k : Int))).alloc (.cells #[.int .i64 t.kind, .string (strOf t.name), .int .i64 t.of, .int .i64 (k : Int)] 31))) := Lib.hid (src_four Tryd.underlying29 (by have := heap_alloc_new (w4.setCell ⟨g, 3, none⟩ (.int .i64 (k : Int))) (.cells #[.int .i64 t.kind, .string (strOf t.name), .int .i64 t.of, .int .i64 (k : Int)] 31); rwa [show (w4.setCell ⟨g, 3, none⟩ (.int .i64 (k : Int))).heap.size = w4.heap.size from by simp [World.setCell]] at this) rfl rfl rfl rfl)
              have d0 := H4.out.2.2.c0
              have d1 := H4.out.2.2.c1
              have d2 := H4.out.2.2.c2
              have d3 := H4.out.2.2.c3
              have f3 := H4.out.2.2.fz 3
              go_wp2_with (first | (go_at_call 46; refine (ktight_any _ _).mono ?_; rintro e w' ⟨rfl, rfl⟩; rw [ht]) | (at_builtin; refine list_app rfl (.tmp 49) (.tmp 51) 29 29 rfl Tryd.slice29 rfl (by exact own_kept H6.out.1 (Fr.of_alloc _ _ _)) rfl (by exact HSR.out) (by rw [HNL.out]; unfold maxLen; omega) (by rw [HNL.out]; omega) (by have := H6.out.2.size; simp at this ⊢; omega) ?_; intro v2 w7 hq; have H7 := Lib.hid (AllPart.step ⟨own_kept H6.out.1 (Fr.of_alloc _ _ _), H6.out.2.trans (Fr.of_alloc _ _ _)⟩ hq); clear hq))
              refine (HBL.out _).mono ?_
              rintro e w8 ⟨rfl, hk8⟩
              have H8 := Lib.hid (H7.out.kept hk8)
              have HL8 := Lib.hid (HL.out.kept H8.out.2)
              clear hk8
              go_wp2
              go_roundw
              case rel => exact ⟨k + wd.length + bn, toks ++ [(t, k)], n + 1, by go_num, by simp [HNL.out], hn999, by omega, HBT2, Lib.hid ⟨H8.out, HL8.out⟩⟩
              case measure => simp [intOf]; omega
          · cases hf : tFine (((bs s).drop k).drop wd.length)
            · have HA := Lib.hid (HTO.out.1.none hlt h4 HTO.out.2 (HNO.out (.inr ⟨ht, hf⟩)))
              clear hwd HNO HYE HE1 HE2 HBT HBL
              go_wp2_with (go_at_call 46; refine (ktight_any _ _).mono ?_; rintro e w' ⟨rfl, rfl⟩; rw [ht])
              refine (HST.out _).mono ?_
              rintro e w5 ⟨rfl, hk5⟩
              rw [hf]
              have H5 : Hid (Kept w2 w5 ∧ LaidT w5 ∧ Four w5 g (.int .i64 t.kind) (.string (strOf t.name)) (.int .i64 t.of) (.int .i64 0)) := Lib.hid ⟨H4.out.1.trans hk5, H4.out.2.1.kept hk5, H4.out.2.2.kept hk5⟩
              clear hk5
              go_wp2
              go_ret3
              exact all_error HA.out rfl (H2.out.1.2.trans H5.out.1)
            · have HS := Lib.hid (HYE.out hwd (fun _ => hf))
              clear HNO HYE HE1 HE2
              by_cases h1000 : n = 1000
              · have HA := Lib.hid (HTO.out.1.full hlt h4 HTO.out.2 HS.out (by rw [HNL.out]; exact h1000))
                have gn : ((n : Int) == 1000) = true := by subst h1000; rfl
                clear hwd h1000 HBT HBL
                go_wp2_with (go_at_call 46; refine (ktight_any _ _).mono ?_; rintro e w' ⟨rfl, rfl⟩; rw [ht])
                refine (HST.out _).mono ?_
                rintro e w5 ⟨rfl, hk5⟩
                rw [hf]
                have H5 : Hid (Kept w2 w5 ∧ LaidT w5 ∧ Four w5 g (.int .i64 t.kind) (.string (strOf t.name)) (.int .i64 t.of) (.int .i64 0)) := Lib.hid ⟨H4.out.1.trans hk5, H4.out.2.1.kept hk5, H4.out.2.2.kept hk5⟩
                clear hk5
                go_wp2_with fail
                go_ret3
                exact all_error HA.out rfl (H2.out.1.2.trans H5.out.1)
              · have hO := HTO.out.1.one hlt HTO.out.2 HS.out (by rw [HNL.out]; exact h1000)
                have HBT2 := Lib.hid (HBT.out hO.1)
                have hj1 := hO.2.1
                have hj2 := hO.2.2
                have gn : ((n : Int) == 1000) = false := by rw [beq_eq_false_iff_ne]; omega
                have hn999 : n + 1 ≤ 1000 := by omega
                clear hwd h1000 HBT hO
                go_wp2_with (go_at_call 46; refine (ktight_any _ _).mono ?_; rintro e w' ⟨rfl, rfl⟩; rw [ht])
                refine (HST.out _).mono ?_
                rintro e w5 ⟨rfl, hk5⟩
                rw [hf]
                have H5 : Hid (Kept w2 w5 ∧ LaidT w5 ∧ Four w5 g (.int .i64 t.kind) (.string (strOf t.name)) (.int .i64 t.of) (.int .i64 0)) := Lib.hid ⟨H4.out.1.trans hk5, H4.out.2.1.kept hk5, H4.out.2.2.kept hk5⟩
                clear hk5
                have H6 : Hid (AllPart w (w5.setCell ⟨g, 3, none⟩ (.int .i64 (k : Int))) toks (.slice bo n d)) := Lib.hid (H2.out.1.kept (one_kept H5.out.1 (by rw [HG.out]; exact Nat.le_refl _)))
                have HSR : Hid (Src Tryd.prog 4 29 (.slice (some ⟨w5.heap.size, 0, none⟩) 1 1) 1 [.int .i64 t.kind, .string (strOf t.name), .int .i64 t.of, .int .i64 (k : Int)] ((w5.setCell ⟨g, 3, none⟩ (.int .i64 (k : Int))).alloc (.cells #[.int .i64 t.kind, .string (strOf t.name), .int .i64 t.of, .int .i64 (k : Int)] 31))) := Lib.hid (src_four Tryd.underlying29 (by have := heap_alloc_new (w5.setCell ⟨g, 3, none⟩ (.int .i64 (k : Int))) (.cells #[.int .i64 t.kind, .string (strOf t.name), .int .i64 t.of, .int .i64 (k : Int)] 31); rwa [show (w5.setCell ⟨g, 3, none⟩ (.int .i64 (k : Int))).heap.size = w5.heap.size from by simp [World.setCell]] at this) rfl rfl rfl rfl)
                have d0 := H5.out.2.2.c0
                have d1 := H5.out.2.2.c1
                have d2 := H5.out.2.2.c2
                have d3 := H5.out.2.2.c3
                have f3 := H5.out.2.2.fz 3
                go_wp2_with (at_builtin; refine list_app rfl (.tmp 49) (.tmp 51) 29 29 rfl Tryd.slice29 rfl (by exact own_kept H6.out.1 (Fr.of_alloc _ _ _)) rfl (by exact HSR.out) (by rw [HNL.out]; unfold maxLen; omega) (by rw [HNL.out]; omega) (by have := H6.out.2.size; simp at this ⊢; omega) ?_; intro v2 w7 hq; have H7 := Lib.hid (AllPart.step ⟨own_kept H6.out.1 (Fr.of_alloc _ _ _), H6.out.2.trans (Fr.of_alloc _ _ _)⟩ hq); clear hq)
                refine (HBL.out _).mono ?_
                rintro e w8 ⟨rfl, hk8⟩
                have H8 := Lib.hid (H7.out.kept hk8)
                have HL8 := Lib.hid (HL.out.kept H8.out.2)
                clear hk8
                go_wp2
                go_roundw
                case rel => exact ⟨k + wd.length + bn, toks ++ [(t, k)], n + 1, by go_num, by simp [HNL.out], hn999, by omega, HBT2, Lib.hid ⟨H8.out, HL8.out⟩⟩
                case measure => simp [intOf]; omega
      · have hlti : ¬ (k : Int) < s.size := by omega
        have HA := Lib.hid (hto.out.done hlt h4)
        go_wp2
        go_ret3
        exact all_ok HA.out rfl hp.out.1
  · have h4i : (4000 : Int) < s.size := by omega
    have HA : Hid (allS (bs s) = .error (0, 3)) := Lib.hid (by unfold allS; rw [if_pos (by rw [bs_len]; omega)])
    clear h4
    go_enter Tryd.func26, Tryd.ntmps26
    go_wp2
    go_ret3
    exact all_error HA.out rfl (Fr.refl _ _)

open Go.RowKit Go.ChangeShapes Go.WideShapes
theorem kallR (s : ByteArray) (w : World) (hs : s.size ≤ 1000000) (hL : LaidT w) : Calls Tryd.prog 26 #[.string s] w (AllR (bs s) w) := (kall_any s w hs hL).mono fun _ _ h => all_r h

end Go.Proofs.YtdapdpmplbifdaaDoor
