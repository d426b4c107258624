/- Contracts and lemmas: WBack -/
import Derived.Test.YtdapdpmplbifdaaDoorWWrites
namespace Go.Proofs.YtdapdpmplbifdaaDoor
set_option linter.unusedVariables false
set_option linter.unusedSimpArgs false
open Go.RowKit Go.ChangeShapes Go.WideShapes
theorem post_names : ∀ {e : Ex}, e.Ok → ∀ t ∈ e.post, t.name.length ≤ 40
  | .atom u, h, t, ht => by
    simp only [Ex.post, List.mem_singleton] at ht
    subst ht
    have h1 := word_name h.2
    have h2 := word_len t
    omega
  | .bin op a b, h, t, ht => by
    simp only [Ex.post, List.mem_append, List.mem_singleton] at ht
    rcases ht with ht | ht | ht
    · exact post_names h.2.1 t ht
    · exact post_names h.2.2.1 t ht
    · subst ht; simp [opT]
theorem tox_names {x : List Tok} {e : Ex} (h : MayIs x e) : ∀ t ∈ toX x, t.name.size ≤ 1000000 := by
  intro t ht
  unfold toX at ht
  obtain ⟨y, hy, rfl⟩ := List.mem_map.1 ht
  have h1 := post_names h.1 y (by rw [← h.2.1]; exact hy)
  show (strOf y.name).size ≤ 1000000
  rw [strOf_size]
  omega
theorem samex_tox (l : List TrmB) (x : List Tok) (h : l.map TrmB.tok = x) : sameX l (toX x) = true := by unfold sameX; rw [toX_tok, h]; simp
set_option maxRecDepth 20000 in
set_option maxHeartbeats 16000000 in
theorem exprBack_walk {w : World} {v : Value} {l : List TrmB} (s : ByteArray) (h : ReadsX w v l) (hlm : (l.length : Int) ≤ 9223372036854775807) (hs : s.size ≤ maxLen) (hL : LaidT w) :
    Calls Tryd.prog 6 #[v, .string s] w fun e w' => e = .returned (.bool true) ∧ Kept w w' := by
  have HL := Lib.hid hL
  have HR := Lib.hid h
  obtain ⟨ao, c, rfl, hc⟩ := h.form
  clear hL h
  cases hlg : largeX l
  · by_cases h8 : 4096 < s.size
    · have h8i : (4096 : Int) < s.size := by omega
      go_enter Tryd.func6, Tryd.ntmps6
      go_wp2_with fail
      refine (kawakex_any _ HL.out).mono ?_
      rintro e w1 ⟨rfl, hk1⟩
      have HK1 := Lib.hid hk1
      have HR1 := Lib.hid (HR.out.kept hk1)
      clear hk1
      go_wp2_with (go_at_call 16; refine (klargex_any HR1.out (by omega)).mono ?_; rintro e w' ⟨rfl, rfl⟩; rw [hlg])
      go_ret
      exact ⟨rfl, HK1.out⟩
    · have h8i : ¬ (4096 : Int) < s.size := by omega
      obtain ⟨hl3, hs1⟩ := largex_no hlg
      have hs2 : ∀ t ∈ l, t.name.size ≤ 1000000 := fun t ht => by have := hs1 t ht; omega
      have HS := Lib.hid hs2
      clear hs2 hs1
      go_enter Tryd.func6, Tryd.ntmps6
      go_wp2_with fail
      refine (kawakex_any _ HL.out).mono ?_
      rintro e w1 ⟨rfl, hk1⟩
      have HK1 := Lib.hid hk1
      have HR1 := Lib.hid (HR.out.kept hk1)
      clear hk1
      rcases Classical.em (∃ t, MayIs (l.map TrmB.tok) t) with ⟨t, ht⟩ | hno
      · have HT := Lib.hid ht
        obtain ⟨T, hT⟩ : ∃ T, T = strOf (textE t) := ⟨_, rfl⟩
        have hz : T.size = (textE t).length := by rw [hT, strOf_size]
        have hb : bs T = textE t := by rw [hT, bs_strOf]
        have HTX : Hid (Calls Tryd.prog 17 #[.slice ao l.length c] w1 (KeptPost (.tuple #[.string T, .int .i64 0]) w1)) := Lib.hid ((ktextx_any HR1.out (by omega) HS.out (HL.out.kept HK1.out)).mono (fun e w' h => by rw [hT]; exact TextXPost.yes h HT.out))
        have HB : Hid (T.size ≤ 4000 → ParseIs (bs T) (l.map TrmB.tok) 0 0 ∨ ((∃ n, ParseIs (bs T) [] n 3) ∧ overB 0 (bs T) = true)) := Lib.hid (fun h4 => by
          rw [hb, HT.out.2.1]
          rcases back_one HT.out.1 (by rw [← HT.out.2.1]; exact HT.out.2.2) (by rw [← hz]; exact h4) with h | ⟨h, hd⟩
          · exact .inl h
          · exact .inr ⟨h, deep_text HT.out.1 hd⟩)
        clear ht hT hz hb h8
        by_cases h4 : 4000 < T.size
        · have h4i : (4000 : Int) < T.size := by omega
          clear HB h4
          go_wp2_with (first | (go_at_call 16; refine (klargex_any HR1.out (by omega)).mono ?_; rintro e w' ⟨rfl, rfl⟩; rw [hlg]) | (go_at_call 17; refine HTX.out.mono ?_; rintro e w2 ⟨rfl, hk⟩; have HK2 := Lib.hid (HK1.out.trans hk); have HR2 := Lib.hid (HR1.out.kept hk); clear hk))
          refine (kparse_any s _ (by omega) (HL.out.kept HK2.out)).mono ?_
          rintro e w3 ⟨vy, y, ny, qy, rfl, hi, hr, hk⟩
          obtain ⟨ay, cy, rfl, hcy⟩ := hr.form
          rw [toX_len] at hcy
          have HK3 := Lib.hid (HK2.out.trans hk)
          have HY3 := Lib.hid hr
          rw [toX_len] at HY3 ⊢
          clear hr hk
          by_cases hqy : qy = 0
          · subst hqy
            obtain ⟨e2, he2, hy2, hy200, hlong, hshort⟩ := back_two hi
            have HM2 : Hid (MayIs y e2) := Lib.hid ⟨he2, hy2, hy200⟩
            obtain ⟨T2, hT2⟩ : ∃ T, T = strOf (textE e2) := ⟨_, rfl⟩
            have hz2 : T2.size = (textE e2).length := by rw [hT2, strOf_size]
            have hb2 : bs T2 = textE e2 := by rw [hT2, bs_strOf]
            have HTX : Hid (∀ W, Kept w3 W → Calls Tryd.prog 17 #[.slice ay y.length cy] W (KeptPost (.tuple #[.string T2, .int .i64 0]) W)) := Lib.hid (fun W hW => (ktextx_any (HY3.out.kept hW) (by rw [toX_len]; omega) (tox_names HM2.out) (HL.out.kept (HK3.out.trans hW))).mono (fun e w' h => by rw [toX_tok] at h; rw [hT2]; exact TextXPost.yes h HM2.out))
            have HMX : Hid (∀ W, Kept w3 W → Calls Tryd.prog 19 #[.slice ay y.length cy] W (KeptPost (.bool true) W)) := Lib.hid (fun W hW => (kmayx_any (HY3.out.kept hW) (by rw [toX_len]; omega) (tox_names HM2.out) (HL.out.kept (HK3.out.trans hW))).mono (fun e w' h => by rw [toX_tok] at h; exact MayXPost.yes h HM2.out))
            rw [← hz2, bs_len] at hlong
            rw [← hz2, ← hb2] at hshort
            have HSH := Lib.hid hshort
            have HN := Lib.hid hy200
            clear hi he2 hy2 hy200 hT2 hz2 hb2 hshort
            go_wp2_with fail
            refine (HTX.out _ (Fr.refl _ _)).mono ?_
            rintro e w4 ⟨rfl, hk⟩
            have HK4 := Lib.hid (HK3.out.trans hk)
            have HQ4 := Lib.hid hk
            clear hk
            go_wp2_with fail
            refine (HMX.out _ HQ4.out).mono ?_
            rintro e w5 ⟨rfl, hk⟩
            have HK5 := Lib.hid (HK4.out.trans hk)
            have HQ5 := Lib.hid (HQ4.out.trans hk)
            clear hk HTX HMX
            by_cases h4 : 4000 < T2.size
            · have h4i : (4000 : Int) < T2.size := by omega
              have h9 : (900 : Int) < s.size := by have := hlong h4; omega
              clear hlong h4
              go_wp2
              go_ret
              exact ⟨rfl, HK5.out⟩
            · have h4i : ¬ (4000 : Int) < T2.size := by omega
              have HP2 := Lib.hid (HSH.out (by omega))
              clear hlong
              go_wp2_with fail
              refine (kparse_any T2 _ (by omega) (HL.out.kept HK5.out)).mono ?_
              rintro e w6 ⟨vz, z, nz, qz, rfl, hi, hr, hk⟩
              obtain ⟨rfl, rfl, rfl⟩ := HP2.out.unique hi
              have HK6 := Lib.hid (HK5.out.trans hk)
              have HY6 := Lib.hid (HY3.out.kept (HQ5.out.trans hk))
              have HZ6 := Lib.hid hr
              clear hr hk hi
              go_wp2_with fail
              refine (ksamex_self HY6.out HZ6.out (by have := HN.out; omega)).mono ?_
              rintro e w7 ⟨rfl, hk⟩
              have HK7 := Lib.hid (HK6.out.trans hk)
              clear hk
              go_wp2
              go_ret
              exact ⟨rfl, HK7.out⟩
          · have gq : (qy == 0) = false := by rw [beq_eq_false_iff_ne]; exact hqy
            have hy0 : y.length = 0 := by rw [(hi.other hqy).1]; rfl
            have hy0i : ((y.length : Int) == 0) = true := by rw [beq_iff_eq]; omega
            clear hi hqy
            go_wp2
            go_ret
            exact ⟨rfl, HK3.out⟩
        · have h4i : ¬ (4000 : Int) < T.size := by omega
          have hbb := HB.out (by omega)
          clear HB h4
          rcases hbb with hp | ⟨⟨np, hp⟩, hov⟩
          · have HP := Lib.hid hp
            have HXN := Lib.hid hp.small
            clear hp
            go_wp2_with (first | (go_at_call 16; refine (klargex_any HR1.out (by omega)).mono ?_; rintro e w' ⟨rfl, rfl⟩; rw [hlg]) | (go_at_call 17; refine HTX.out.mono ?_; rintro e w2 ⟨rfl, hk⟩; have HK2 := Lib.hid (HK1.out.trans hk); have HR2 := Lib.hid (HR1.out.kept hk); clear hk))
            refine (kparse_any T _ (by omega) (HL.out.kept HK2.out)).mono ?_
            rintro e w3 ⟨v3, x3, n3, q3, rfl, hi, hr, hk⟩
            obtain ⟨rfl, rfl, rfl⟩ := HP.out.unique hi
            have HK3 := Lib.hid (HK2.out.trans hk)
            have HR3 := Lib.hid (HR2.out.kept hk)
            have HX3 := Lib.hid hr
            clear hr hk hi HK2 HR2
            go_wp2_with fail
            refine (ksamex_any HR3.out HX3.out (by omega) (by rw [toX_len]; have := HXN.out; omega)).mono ?_
            rw [samex_tox l _ rfl]
            rintro e w4 ⟨rfl, hk⟩
            have HK4 := Lib.hid (HK3.out.trans hk)
            clear hk HK3 HR3 HX3
            go_wp2_with fail
            refine (kparse_any s _ (by omega) (HL.out.kept HK4.out)).mono ?_
            rintro e w5 ⟨vy, y, ny, qy, rfl, hi, hr, hk⟩
            obtain ⟨ay, cy, rfl, hcy⟩ := hr.form
            rw [toX_len] at hcy
            have HK5 := Lib.hid (HK4.out.trans hk)
            have HY5 := Lib.hid hr
            rw [toX_len] at HY5 ⊢
            clear hr hk
            by_cases hqy : qy = 0
            · subst hqy
              obtain ⟨e2, he2, hy2, hy200, hlong, hshort⟩ := back_two hi
              have HM2 : Hid (MayIs y e2) := Lib.hid ⟨he2, hy2, hy200⟩
              obtain ⟨T2, hT2⟩ : ∃ T, T = strOf (textE e2) := ⟨_, rfl⟩
              have hz2 : T2.size = (textE e2).length := by rw [hT2, strOf_size]
              have hb2 : bs T2 = textE e2 := by rw [hT2, bs_strOf]
              have HTX : Hid (∀ W, Kept w5 W → Calls Tryd.prog 17 #[.slice ay y.length cy] W (KeptPost (.tuple #[.string T2, .int .i64 0]) W)) := Lib.hid (fun W hW => (ktextx_any (HY5.out.kept hW) (by rw [toX_len]; omega) (tox_names HM2.out) (HL.out.kept (HK5.out.trans hW))).mono (fun e w' h => by rw [toX_tok] at h; rw [hT2]; exact TextXPost.yes h HM2.out))
              have HMX : Hid (∀ W, Kept w5 W → Calls Tryd.prog 19 #[.slice ay y.length cy] W (KeptPost (.bool true) W)) := Lib.hid (fun W hW => (kmayx_any (HY5.out.kept hW) (by rw [toX_len]; omega) (tox_names HM2.out) (HL.out.kept (HK5.out.trans hW))).mono (fun e w' h => by rw [toX_tok] at h; exact MayXPost.yes h HM2.out))
              rw [← hz2, bs_len] at hlong
              rw [← hz2, ← hb2] at hshort
              have HSH := Lib.hid hshort
              have HN := Lib.hid hy200
              clear hi he2 hy2 hy200 hT2 hz2 hb2 hshort
              go_wp2_with fail
              refine (HTX.out _ (Fr.refl _ _)).mono ?_
              rintro e w6 ⟨rfl, hk⟩
              have HK6 := Lib.hid (HK5.out.trans hk)
              have HQ6 := Lib.hid hk
              clear hk
              go_wp2_with fail
              refine (HMX.out _ HQ6.out).mono ?_
              rintro e w7 ⟨rfl, hk⟩
              have HK7 := Lib.hid (HK6.out.trans hk)
              have HQ7 := Lib.hid (HQ6.out.trans hk)
              clear hk HTX HMX
              by_cases h4 : 4000 < T2.size
              · have h4i : (4000 : Int) < T2.size := by omega
                have h9 : (900 : Int) < s.size := by have := hlong h4; omega
                clear hlong h4
                go_wp2
                go_ret
                exact ⟨rfl, HK7.out⟩
              · have h4i : ¬ (4000 : Int) < T2.size := by omega
                have HP2 := Lib.hid (HSH.out (by omega))
                clear hlong
                go_wp2_with fail
                refine (kparse_any T2 _ (by omega) (HL.out.kept HK7.out)).mono ?_
                rintro e w8 ⟨vz, z, nz, qz, rfl, hi, hr, hk⟩
                obtain ⟨rfl, rfl, rfl⟩ := HP2.out.unique hi
                have HK8 := Lib.hid (HK7.out.trans hk)
                have HY8 := Lib.hid (HY5.out.kept (HQ7.out.trans hk))
                have HZ8 := Lib.hid hr
                clear hr hk hi
                go_wp2_with fail
                refine (ksamex_self HY8.out HZ8.out (by have := HN.out; omega)).mono ?_
                rintro e w9 ⟨rfl, hk⟩
                have HK9 := Lib.hid (HK8.out.trans hk)
                clear hk
                go_wp2
                go_ret
                exact ⟨rfl, HK9.out⟩
            · have gq : (qy == 0) = false := by rw [beq_eq_false_iff_ne]; exact hqy
              have hy0 : y.length = 0 := by rw [(hi.other hqy).1]; rfl
              have hy0i : ((y.length : Int) == 0) = true := by rw [beq_iff_eq]; omega
              clear hi hqy
              go_wp2
              go_ret
              exact ⟨rfl, HK5.out⟩
          · have HP := Lib.hid hp
            have HOV := Lib.hid hov
            clear hp hov
            go_wp2_with (first | (go_at_call 16; refine (klargex_any HR1.out (by omega)).mono ?_; rintro e w' ⟨rfl, rfl⟩; rw [hlg]) | (go_at_call 17; refine HTX.out.mono ?_; rintro e w2 ⟨rfl, hk⟩; have HK2 := Lib.hid (HK1.out.trans hk); have HR2 := Lib.hid (HR1.out.kept hk); clear hk))
            refine (kparse_any T _ (by omega) (HL.out.kept HK2.out)).mono ?_
            rintro e w3 ⟨v3, x3, n3, q3, rfl, hi, hr, hk⟩
            obtain ⟨rfl, rfl, rfl⟩ := HP.out.unique hi
            have HK3 := Lib.hid (HK2.out.trans hk)
            clear hr hk hi HK2 HR2
            go_wp2_with fail
            refine (kdeepr_any T _ (by omega) HOV.out).mono ?_
            rintro e w4 ⟨rfl, rfl⟩
            go_wp2
            go_ret
            exact ⟨rfl, HK3.out⟩
      · have HNO : Hid (∀ t, ¬ MayIs (l.map TrmB.tok) t) := Lib.hid (fun t ht => hno ⟨t, ht⟩)
        have HTX : Hid (Calls Tryd.prog 17 #[.slice ao l.length c] w1 (KeptPost (.tuple #[.string ⟨#[]⟩, .int .i64 2]) w1)) := Lib.hid ((ktextx_any HR1.out (by omega) HS.out (HL.out.kept HK1.out)).mono (fun e w' h => TextXPost.no h HNO.out))
        clear hno h8
        go_wp2_with (first | (go_at_call 16; refine (klargex_any HR1.out (by omega)).mono ?_; rintro e w' ⟨rfl, rfl⟩; rw [hlg]) | (go_at_call 17; refine HTX.out.mono ?_; rintro e w2 ⟨rfl, hk⟩; have HK2 := Lib.hid (HK1.out.trans hk); have HR2 := Lib.hid (HR1.out.kept hk); clear hk))
        refine (kparse_any s _ (by omega) (HL.out.kept HK2.out)).mono ?_
        rintro e w3 ⟨vy, y, ny, qy, rfl, hi, hr, hk⟩
        obtain ⟨ay, cy, rfl, hcy⟩ := hr.form
        rw [toX_len] at hcy
        have HK3 := Lib.hid (HK2.out.trans hk)
        have HY3 := Lib.hid hr
        rw [toX_len] at HY3 ⊢
        clear hr hk
        by_cases hqy : qy = 0
        · subst hqy
          obtain ⟨e2, he2, hy2, hy200, hlong, hshort⟩ := back_two hi
          have HM2 : Hid (MayIs y e2) := Lib.hid ⟨he2, hy2, hy200⟩
          obtain ⟨T2, hT2⟩ : ∃ T, T = strOf (textE e2) := ⟨_, rfl⟩
          have hz2 : T2.size = (textE e2).length := by rw [hT2, strOf_size]
          have hb2 : bs T2 = textE e2 := by rw [hT2, bs_strOf]
          have HTX : Hid (∀ W, Kept w3 W → Calls Tryd.prog 17 #[.slice ay y.length cy] W (KeptPost (.tuple #[.string T2, .int .i64 0]) W)) := Lib.hid (fun W hW => (ktextx_any (HY3.out.kept hW) (by rw [toX_len]; omega) (tox_names HM2.out) (HL.out.kept (HK3.out.trans hW))).mono (fun e w' h => by rw [toX_tok] at h; rw [hT2]; exact TextXPost.yes h HM2.out))
          have HMX : Hid (∀ W, Kept w3 W → Calls Tryd.prog 19 #[.slice ay y.length cy] W (KeptPost (.bool true) W)) := Lib.hid (fun W hW => (kmayx_any (HY3.out.kept hW) (by rw [toX_len]; omega) (tox_names HM2.out) (HL.out.kept (HK3.out.trans hW))).mono (fun e w' h => by rw [toX_tok] at h; exact MayXPost.yes h HM2.out))
          rw [← hz2, bs_len] at hlong
          rw [← hz2, ← hb2] at hshort
          have HSH := Lib.hid hshort
          have HN := Lib.hid hy200
          clear hi he2 hy2 hy200 hT2 hz2 hb2 hshort
          go_wp2_with fail
          refine (HTX.out _ (Fr.refl _ _)).mono ?_
          rintro e w4 ⟨rfl, hk⟩
          have HK4 := Lib.hid (HK3.out.trans hk)
          have HQ4 := Lib.hid hk
          clear hk
          go_wp2_with fail
          refine (HMX.out _ HQ4.out).mono ?_
          rintro e w5 ⟨rfl, hk⟩
          have HK5 := Lib.hid (HK4.out.trans hk)
          have HQ5 := Lib.hid (HQ4.out.trans hk)
          clear hk HTX HMX
          by_cases h4 : 4000 < T2.size
          · have h4i : (4000 : Int) < T2.size := by omega
            have h9 : (900 : Int) < s.size := by have := hlong h4; omega
            clear hlong h4
            go_wp2
            go_ret
            exact ⟨rfl, HK5.out⟩
          · have h4i : ¬ (4000 : Int) < T2.size := by omega
            have HP2 := Lib.hid (HSH.out (by omega))
            clear hlong
            go_wp2_with fail
            refine (kparse_any T2 _ (by omega) (HL.out.kept HK5.out)).mono ?_
            rintro e w6 ⟨vz, z, nz, qz, rfl, hi, hr, hk⟩
            obtain ⟨rfl, rfl, rfl⟩ := HP2.out.unique hi
            have HK6 := Lib.hid (HK5.out.trans hk)
            have HY6 := Lib.hid (HY3.out.kept (HQ5.out.trans hk))
            have HZ6 := Lib.hid hr
            clear hr hk hi
            go_wp2_with fail
            refine (ksamex_self HY6.out HZ6.out (by have := HN.out; omega)).mono ?_
            rintro e w7 ⟨rfl, hk⟩
            have HK7 := Lib.hid (HK6.out.trans hk)
            clear hk
            go_wp2
            go_ret
            exact ⟨rfl, HK7.out⟩
        · have gq : (qy == 0) = false := by rw [beq_eq_false_iff_ne]; exact hqy
          have hy0 : y.length = 0 := by rw [(hi.other hqy).1]; rfl
          have hy0i : ((y.length : Int) == 0) = true := by rw [beq_iff_eq]; omega
          clear hi hqy
          go_wp2
          go_ret
          exact ⟨rfl, HK3.out⟩
  · go_enter Tryd.func6, Tryd.ntmps6
    go_wp2_with fail
    refine (kawakex_any _ HL.out).mono ?_
    rintro e w1 ⟨rfl, hk1⟩
    have HK1 := Lib.hid hk1
    have HR1 := Lib.hid (HR.out.kept hk1)
    clear hk1
    go_wp2_with (go_at_call 16; refine (klargex_any HR1.out (by omega)).mono ?_; rintro e w' ⟨rfl, rfl⟩; rw [hlg])
    go_ret
    exact ⟨rfl, HK1.out⟩

end Go.Proofs.YtdapdpmplbifdaaDoor
