/- Contracts and lemmas: WJoins -/
import Derived.Test.YtdapdpmplbifdaaDoorWBack
namespace Go.Proofs.YtdapdpmplbifdaaDoor
set_option linter.unusedVariables false
set_option linter.unusedSimpArgs false
open Go.RowKit Go.ChangeShapes Go.WideShapes
theorem tox_map (l : List TrmB) : toX (l.map TrmB.tok) = l := by
  unfold toX
  rw [List.map_map]
  conv => rhs; rw [← List.map_id l]
  apply List.map_congr_left
  intro t _
  show (⟨t.op, t.of, strOf (bs t.name)⟩ : TrmB) = t
  rw [strOf_bs]
set_option maxRecDepth 20000 in
set_option maxHeartbeats 16000000 in
theorem exprJoins_walk {w : World} {va vb : Value} {la lb : List TrmB} (sg : Int) (ha : ReadsX w va la) (hb : ReadsX w vb lb) (hla : (la.length : Int) ≤ 9223372036854775807) (hlb : (lb.length : Int) ≤ 9223372036854775807) (h0 : 0 ≤ sg) (h255 : sg < 256) (hL : LaidT w) :
    Calls Tryd.prog 8 #[va, vb, .int .u8 sg] w fun e w' => e = .returned (.bool true) ∧ Kept w w' := by
  have HL := Lib.hid hL
  have HA := Lib.hid ha
  have HB := Lib.hid hb
  obtain ⟨ao, c, rfl, hc⟩ := ha.form
  obtain ⟨bo, d, rfl, hd⟩ := hb.form
  clear hL ha hb
  cases hlga : largeX la
  · cases hlgb : largeX lb
    · obtain ⟨hl3, hs1⟩ := largex_no hlga
      obtain ⟨hl4, hs2⟩ := largex_no hlgb
      have HSa : Hid (∀ t ∈ la, t.name.size ≤ 1000000) := Lib.hid (fun t ht => by have := hs1 t ht; omega)
      have HSb : Hid (∀ t ∈ lb, t.name.size ≤ 1000000) := Lib.hid (fun t ht => by have := hs2 t ht; omega)
      clear hs1 hs2
      rcases Classical.em (∃ t, MayIs (la.map TrmB.tok) t) with ⟨ta, hta⟩ | hno
      · have HTA := Lib.hid hta
        clear hta
        rcases Classical.em (∃ t, MayIs (lb.map TrmB.tok) t) with ⟨tb, htb⟩ | hno
        · have HTB := Lib.hid htb
          clear htb
          by_cases h200 : 200 ≤ la.length + lb.length
          · have h2i : (200 : Int) ≤ (la.length : Int) + (lb.length : Int) := by omega
            clear h200
            go_enter Tryd.func8, Tryd.ntmps8
            go_wp2_with fail
            refine (kawakex_any _ HL.out).mono ?_
            rintro e w1 ⟨rfl, hk1⟩
            have HK1 := Lib.hid hk1
            have HA1 := Lib.hid (HA.out.kept hk1)
            have HB1 := Lib.hid (HB.out.kept hk1)
            clear hk1
            go_wp2_with fail
            refine (klargex_any HA1.out (by omega)).mono ?_
            rintro e w' ⟨rfl, rfl⟩
            rw [hlga]
            go_wp2_with fail
            refine (klargex_any HB1.out (by omega)).mono ?_
            rintro e w' ⟨rfl, rfl⟩
            rw [hlgb]
            go_wp2_with fail
            refine ((kmayx_any HA1.out (by omega) HSa.out (HL.out.kept HK1.out)).mono (fun e w' h => MayXPost.yes h HTA.out)).mono ?_
            rintro e w2 ⟨rfl, hk⟩
            have HK2 := Lib.hid (HK1.out.trans hk)
            have HA2 := Lib.hid (HA1.out.kept hk)
            have HB2 := Lib.hid (HB1.out.kept hk)
            clear hk HK1 HA1 HB1
            go_wp2_with fail
            refine ((kmayx_any HB2.out (by omega) HSb.out (HL.out.kept HK2.out)).mono (fun e w' h => MayXPost.yes h HTB.out)).mono ?_
            rintro e w3 ⟨rfl, hk⟩
            have HK3 := Lib.hid (HK2.out.trans hk)
            have HA3 := Lib.hid (HA2.out.kept hk)
            have HB3 := Lib.hid (HB2.out.kept hk)
            clear hk HK2 HA2 HB2
            go_wp2
            go_ret
            exact ⟨rfl, HK3.out⟩
          · have h2i : ¬ (200 : Int) ≤ (la.length : Int) + (lb.length : Int) := by omega
            have h2n : la.length + lb.length < 200 := by omega
            clear h200
            go_enter Tryd.func8, Tryd.ntmps8
            go_wp2_with fail
            refine (kawakex_any _ HL.out).mono ?_
            rintro e w1 ⟨rfl, hk1⟩
            have HK1 := Lib.hid hk1
            have HA1 := Lib.hid (HA.out.kept hk1)
            have HB1 := Lib.hid (HB.out.kept hk1)
            clear hk1
            go_wp2_with fail
            refine (klargex_any HA1.out (by omega)).mono ?_
            rintro e w' ⟨rfl, rfl⟩
            rw [hlga]
            go_wp2_with fail
            refine (klargex_any HB1.out (by omega)).mono ?_
            rintro e w' ⟨rfl, rfl⟩
            rw [hlgb]
            go_wp2_with fail
            refine ((kmayx_any HA1.out (by omega) HSa.out (HL.out.kept HK1.out)).mono (fun e w' h => MayXPost.yes h HTA.out)).mono ?_
            rintro e w2 ⟨rfl, hk⟩
            have HK2 := Lib.hid (HK1.out.trans hk)
            have HA2 := Lib.hid (HA1.out.kept hk)
            have HB2 := Lib.hid (HB1.out.kept hk)
            clear hk HK1 HA1 HB1
            go_wp2_with fail
            refine ((kmayx_any HB2.out (by omega) HSb.out (HL.out.kept HK2.out)).mono (fun e w' h => MayXPost.yes h HTB.out)).mono ?_
            rintro e w3 ⟨rfl, hk⟩
            have HK3 := Lib.hid (HK2.out.trans hk)
            have HA3 := Lib.hid (HA2.out.kept hk)
            have HB3 := Lib.hid (HB2.out.kept hk)
            clear hk HK2 HA2 HB2
            have hna : 0 < la.length := by have h := congrArg List.length HTA.out.2.1; have h2 := List.length_pos_iff.2 ta.post_ne; rw [List.length_map] at h; omega
            have hnb : 0 < lb.length := by have h := congrArg List.length HTB.out.2.1; have h2 := List.length_pos_iff.2 tb.post_ne; rw [List.length_map] at h; omega
            have hda : ta.deep ≤ 200 := by
              have h1 := Ex.deep_le ta
              have h3 := congrArg List.length HTA.out.2.1
              rw [List.length_map] at h3
              omega
            have hdb : tb.deep ≤ 200 := by
              have h1 := Ex.deep_le tb
              have h3 := congrArg List.length HTB.out.2.1
              rw [List.length_map] at h3
              omega
            have HNZ : Hid (∀ t, ¬ MayIs (([] ++ la.map TrmB.tok) ++ lb.map TrmB.tok) t) := Lib.hid (fun t h => joins_none HTA.out.1 HTB.out.1 h.1 (by rw [← h.2.1, List.nil_append, ← HTA.out.2.1, ← HTB.out.2.1]))
            have HSZ : Hid ((toX (([] ++ la.map TrmB.tok) ++ lb.map TrmB.tok)).length ≤ 1000000 ∧ ∀ t ∈ toX (([] ++ la.map TrmB.tok) ++ lb.map TrmB.tok), t.name.size ≤ 1000000) := Lib.hid ⟨by rw [toX_len]; simp; omega, fun t ht => by
              rw [List.nil_append, toX_append, tox_map, tox_map] at ht
              rcases List.mem_append.1 ht with ht | ht
              · exact HSa.out t ht
              · exact HSb.out t ht⟩
            have HAK : Hid (∀ W, Kept w3 W → ReadsX W (.slice ao la.length c) la) := Lib.hid (fun W hW => HA3.out.kept hW)
            have HBK : Hid (∀ W, Kept w3 W → ReadsX W (.slice bo lb.length d) lb) := Lib.hid (fun W hW => HB3.out.kept hW)
            obtain ⟨y0, hy0⟩ : ∃ y, lb[0]? = some y := ⟨_, List.getElem?_eq_getElem hnb⟩
            obtain ⟨x0, hx0⟩ : ∃ y, la[0]? = some y := ⟨_, List.getElem?_eq_getElem hna⟩
            have hra := HA3.out
            have hrb := HB3.out
            obtain ⟨_, _, he, _, hca⟩ := hra
            cases he
            obtain ⟨g, off, rfl, _⟩ := hca 0 x0 hx0
            obtain ⟨_, _, he, _, hcb⟩ := hrb
            cases he
            obtain ⟨g', off', rfl, _, d1, _⟩ := hcb 0 y0 hy0
            simp only [Nat.zero_mul, Nat.add_zero] at d1
            have HYC : Hid (∀ W, Kept w3 W → W.cell? ⟨g', off' + 1, none⟩ = some (.int .i64 y0.of)) := Lib.hid (fun W hW => hW.cell d1 (fun x => x))
            have HRO : Hid ((∃ t, tb = .atom t ∧ t.of = 5) ↔ (lb.length = 1 ∧ y0.of = 5)) := Lib.hid (by
              rw [role_one HTB.out.1, ← HTB.out.2.1, List.length_map]
              refine and_congr_right fun _ => ?_
              rw [List.getElem?_map, hy0]
              constructor
              · rintro ⟨t, ht, ho⟩
                have : y0.tok = t := by simpa using ht
                rw [← this] at ho
                exact ho
              · intro h
                exact ⟨y0.tok, rfl, h⟩)
            clear hca hcb d1 hx0 hy0 hna
            have hsg : sg.tmod 4 = sg % 4 := by rw [Int.tmod_eq_emod_of_nonneg h0]
            have hjs : sg % 4 = 0 ∨ sg % 4 = 1 ∨ sg % 4 = 2 ∨ sg % 4 = 3 := by omega
            rcases hjs with hj | hj | hj | hj
            · have hb5 : bindS 2 ≠ 0 := by decide
              have hH0 : XPart w3 ((w3.alloc (Obj.cells #[.int .i64 2, .int .i64 3, .int .i64 4, .int .i64 5] 3)).alloc (Obj.cells #[] 45)) [] (.slice (some ⟨w3.heap.size + 1, 0, none⟩) 0 0) := ⟨own_new (by have := heap_alloc_new (w3.alloc (Obj.cells #[.int .i64 2, .int .i64 3, .int .i64 4, .int .i64 5] 3)) (Obj.cells #[] 45); rwa [World.size_alloc] at this) (by omega), (Fr.of_alloc _ _ _).trans (Fr.of_alloc _ _ _)⟩
              have H0 := Lib.hid hH0
              have HSA := Lib.hid (readsX_src (P := Tryd.prog) (HA3.out.kept hH0.2) Tryd.underlying23)
              clear hH0
              go_wp2_with (first
                | (at_builtin; refine list_app rfl (.tmp 41) (.tmp 42) 23 23 rfl Tryd.sliceX rfl (by exact H0.out.1) rfl (by exact HSA.out) (by unfold maxLen; simp only [List.length_nil, List.length_append, List.length_map, List.length_cons, List.nil_append]; omega) (by simp only [List.length_nil, List.length_append, List.length_map, List.length_cons, List.nil_append]; omega) (by simp only [World.size_alloc]; omega) ?_; intro v4 w4 hq; have H4 : Hid (XPart w3 w4 ([] ++ la.map TrmB.tok) v4) := Lib.hid (H0.out.app (by rw [tox_map, List.length_map]; exact hq)); clear hq; have HSB := Lib.hid (readsX_src (P := Tryd.prog) (HB3.out.kept H4.out.2) Tryd.underlying23))
                | (at_builtin; go_must (refine list_app rfl (.tmp 43) (.tmp 44) 23 23 rfl Tryd.sliceX rfl (by exact H4.out.1) rfl (by exact HSB.out) (by unfold maxLen; simp only [List.length_nil, List.length_append, List.length_map, List.length_cons, List.nil_append]; omega) (by simp only [List.length_nil, List.length_append, List.length_map, List.length_cons, List.nil_append]; omega) (by exact H4.out.2.size) ?_; intro v5 w5 hq; have HZ5 : Hid (XPart w3 w5 (([] ++ la.map TrmB.tok) ++ lb.map TrmB.tok) v5) := Lib.hid (H4.out.app (by rw [tox_map, List.length_map]; exact hq)); clear hq)))
              have HK5 := Lib.hid (HK3.out.trans HZ5.out.2)
              have HA5 := Lib.hid (HA3.out.kept HZ5.out.2)
              have HB5 := Lib.hid (HB3.out.kept HZ5.out.2)
              clear HA3 HB3 HSA HSB H0 H4
              skip
              refine ((kmayx_any HZ5.out.reads HSZ.out.1 HSZ.out.2 (HL.out.kept HK5.out)).mono (fun e w' h => MayXPost.no (by rw [toX_tok] at h; exact h) HNZ.out)).mono ?_
              rintro e w6 ⟨rfl, hk⟩
              have HK6 := Lib.hid (HK5.out.trans hk)
              have HA6 := Lib.hid (HA5.out.kept hk)
              have HB6 := Lib.hid (HB5.out.kept hk)
              have HZ6 := Lib.hid (HZ5.out.kept hk)
              clear hk HK5 HA5 HB5 HZ5
              have HZ7 := Lib.hid (HZ6.out.kept (Fr.of_alloc _ w6 (Obj.cells #[.int .i64 2, .int .i64 0, .string ⟨#[]⟩] 45)))
              have hno5 : (2 : Int) = 5 → ∃ t, tb = .atom t ∧ t.of = 5 := fun h => absurd h (by decide)
              by_cases hl1 : lb.length = 1
              · have gl1 : ((lb.length : Int) == 1) = true := by rw [beq_iff_eq]; omega
                have HL1 := Lib.hid hl1
                clear hl1
                by_cases ho : y0.of = 5
                · have go5 : (y0.of == 5) = true := by simp [ho]
                  have HTZ : Hid (MayIs ((([] ++ la.map TrmB.tok) ++ lb.map TrmB.tok) ++ [opT 2]) (.bin 2 ta tb)) := Lib.hid (by
                    have h := joins_some HTA.out.1 HTB.out.1 hb5 hno5
                    exact ⟨h.1, by rw [List.nil_append, HTA.out.2.1, HTB.out.2.1]; exact h.2, by simp; omega⟩)
                  have HSY : Hid ((toX ((([] ++ la.map TrmB.tok) ++ lb.map TrmB.tok) ++ [opT 2])).length ≤ 1000000 ∧ ∀ t ∈ toX ((([] ++ la.map TrmB.tok) ++ lb.map TrmB.tok) ++ [opT 2]), t.name.size ≤ 1000000) := Lib.hid ⟨by rw [toX_len]; simp; omega, tox_names HTZ.out⟩
                  go_wp2_with (at_builtin; go_must (refine list_app rfl (.tmp 48) (.tmp 51) 23 23 rfl Tryd.sliceX rfl (by exact HZ7.out.1) rfl (by exact src_three Tryd.underlying23 (heap_alloc_new _ _) rfl rfl rfl) (by unfold maxLen; simp only [List.length_nil, List.length_append, List.length_map, List.length_cons, List.nil_append]; omega) (by simp only [List.length_nil, List.length_append, List.length_map, List.length_cons, List.nil_append]; omega) (by exact HZ7.out.2.size) ?_; intro v8 w8 hq; have HZ8 : Hid (XPart w3 w8 ((([] ++ la.map TrmB.tok) ++ lb.map TrmB.tok) ++ [opT 2]) v8) := Lib.hid (HZ7.out.app (y := [opT 2]) hq); have HK8 := Lib.hid (HK3.out.trans HZ8.out.2); clear hq; have c0 := (HYC.out w8 HZ8.out.2)))
                  have HA8 := Lib.hid (HAK.out w8 HZ8.out.2)
                  have HB8 := Lib.hid (HBK.out w8 HZ8.out.2)
                  skip
                  refine ((kmayx_any HZ8.out.reads HSY.out.1 HSY.out.2 (HL.out.kept HK8.out)).mono (fun e w' h => MayXPost.yes (by rw [toX_tok] at h; exact h) HTZ.out)).mono ?_
                  rintro e w9 ⟨rfl, hk⟩
                  have HK9 := Lib.hid (HK8.out.trans hk)
                  have HA9 := Lib.hid (HA8.out.kept hk)
                  have HB9 := Lib.hid (HB8.out.kept hk)
                  have HZ9 := Lib.hid (HZ8.out.kept hk)
                  clear hk HK8 HA8 HB8 HZ8
                  go_wp2_with fail
                  refine ((kdeepx_any HZ9.out.reads HSY.out.1 HSY.out.2 (HL.out.kept HK9.out)).mono (fun e w' h => DeepXPost.yes (by rw [toX_tok] at h; exact h) HTZ.out)).mono ?_
                  rintro e w10 ⟨rfl, hk⟩
                  have HK10 := Lib.hid (HK9.out.trans hk)
                  have HA10 := Lib.hid (HA9.out.kept hk)
                  have HB10 := Lib.hid (HB9.out.kept hk)
                  have HZ10 := Lib.hid (HZ9.out.kept hk)
                  clear hk HK9 HA9 HB9 HZ9
                  go_wp2_with fail
                  refine ((kdeepx_any HA10.out (by omega) HSa.out (HL.out.kept HK10.out)).mono (fun e w' h => DeepXPost.yes h HTA.out)).mono ?_
                  rintro e w11 ⟨rfl, hk⟩
                  have HK11 := Lib.hid (HK10.out.trans hk)
                  have HA11 := Lib.hid (HA10.out.kept hk)
                  have HB11 := Lib.hid (HB10.out.kept hk)
                  have HZ11 := Lib.hid (HZ10.out.kept hk)
                  clear hk HK10 HA10 HB10 HZ10
                  go_wp2_with fail
                  refine ((kdeepx_any HB11.out (by omega) HSb.out (HL.out.kept HK11.out)).mono (fun e w' h => DeepXPost.yes h HTB.out)).mono ?_
                  rintro e w12 ⟨rfl, hk⟩
                  have HK12 := Lib.hid (HK11.out.trans hk)
                  have HA12 := Lib.hid (HA11.out.kept hk)
                  have HB12 := Lib.hid (HB11.out.kept hk)
                  have HZ12 := Lib.hid (HZ11.out.kept hk)
                  clear hk HK11 HA11 HB11 HZ11
                  rcases Nat.lt_trichotomy ta.deep tb.deep with hmx | hmx | hmx
                  · have hdz : (((Ex.bin 2 ta tb).deep : Nat) : Int) = 1 + (tb.deep : Int) := by
                      have : (Ex.bin 2 ta tb).deep = max ta.deep tb.deep + 1 := rfl
                      omega
                    rw [hdz]
                    have m1 : (ta.deep : Int) < (tb.deep : Int) := by omega
                    have m2 : (ta.deep : Int) ≤ (tb.deep : Int) := by omega
                    have m3 : ¬ (tb.deep : Int) < (ta.deep : Int) := by omega
                    have m4 : ¬ (tb.deep : Int) ≤ (ta.deep : Int) := by omega
                    have m5 : max (ta.deep : Int) (tb.deep : Int) = (tb.deep : Int) := by omega
                    clear hdz hmx
                    go_wp2
                    all_goals
                      go_ret
                      exact ⟨rfl, HK12.out⟩
                  · have hdz : (((Ex.bin 2 ta tb).deep : Nat) : Int) = 1 + (tb.deep : Int) := by
                      have : (Ex.bin 2 ta tb).deep = max ta.deep tb.deep + 1 := rfl
                      omega
                    rw [hdz]
                    rw [hmx]
                    clear hdz hmx
                    go_wp2
                    all_goals
                      go_ret
                      exact ⟨rfl, HK12.out⟩
                  · have hdz : (((Ex.bin 2 ta tb).deep : Nat) : Int) = 1 + (ta.deep : Int) := by
                      have : (Ex.bin 2 ta tb).deep = max ta.deep tb.deep + 1 := rfl
                      omega
                    rw [hdz]
                    have m1 : (tb.deep : Int) < (ta.deep : Int) := by omega
                    have m2 : (tb.deep : Int) ≤ (ta.deep : Int) := by omega
                    have m3 : ¬ (ta.deep : Int) < (tb.deep : Int) := by omega
                    have m4 : ¬ (ta.deep : Int) ≤ (tb.deep : Int) := by omega
                    have m5 : max (ta.deep : Int) (tb.deep : Int) = (ta.deep : Int) := by omega
                    clear hdz hmx
                    go_wp2
                    all_goals
                      go_ret
                      exact ⟨rfl, HK12.out⟩
                · have go5 : (y0.of == 5) = false := by simp [ho]
                  have HTZ : Hid (MayIs ((([] ++ la.map TrmB.tok) ++ lb.map TrmB.tok) ++ [opT 2]) (.bin 2 ta tb)) := Lib.hid (by
                    have h := joins_some HTA.out.1 HTB.out.1 hb5 hno5
                    exact ⟨h.1, by rw [List.nil_append, HTA.out.2.1, HTB.out.2.1]; exact h.2, by simp; omega⟩)
                  have HSY : Hid ((toX ((([] ++ la.map TrmB.tok) ++ lb.map TrmB.tok) ++ [opT 2])).length ≤ 1000000 ∧ ∀ t ∈ toX ((([] ++ la.map TrmB.tok) ++ lb.map TrmB.tok) ++ [opT 2]), t.name.size ≤ 1000000) := Lib.hid ⟨by rw [toX_len]; simp; omega, tox_names HTZ.out⟩
                  go_wp2_with (at_builtin; go_must (refine list_app rfl (.tmp 48) (.tmp 51) 23 23 rfl Tryd.sliceX rfl (by exact HZ7.out.1) rfl (by exact src_three Tryd.underlying23 (heap_alloc_new _ _) rfl rfl rfl) (by unfold maxLen; simp only [List.length_nil, List.length_append, List.length_map, List.length_cons, List.nil_append]; omega) (by simp only [List.length_nil, List.length_append, List.length_map, List.length_cons, List.nil_append]; omega) (by exact HZ7.out.2.size) ?_; intro v8 w8 hq; have HZ8 : Hid (XPart w3 w8 ((([] ++ la.map TrmB.tok) ++ lb.map TrmB.tok) ++ [opT 2]) v8) := Lib.hid (HZ7.out.app (y := [opT 2]) hq); have HK8 := Lib.hid (HK3.out.trans HZ8.out.2); clear hq; have c0 := (HYC.out w8 HZ8.out.2)))
                  have HA8 := Lib.hid (HAK.out w8 HZ8.out.2)
                  have HB8 := Lib.hid (HBK.out w8 HZ8.out.2)
                  skip
                  refine ((kmayx_any HZ8.out.reads HSY.out.1 HSY.out.2 (HL.out.kept HK8.out)).mono (fun e w' h => MayXPost.yes (by rw [toX_tok] at h; exact h) HTZ.out)).mono ?_
                  rintro e w9 ⟨rfl, hk⟩
                  have HK9 := Lib.hid (HK8.out.trans hk)
                  have HA9 := Lib.hid (HA8.out.kept hk)
                  have HB9 := Lib.hid (HB8.out.kept hk)
                  have HZ9 := Lib.hid (HZ8.out.kept hk)
                  clear hk HK8 HA8 HB8 HZ8
                  go_wp2_with fail
                  refine ((kdeepx_any HZ9.out.reads HSY.out.1 HSY.out.2 (HL.out.kept HK9.out)).mono (fun e w' h => DeepXPost.yes (by rw [toX_tok] at h; exact h) HTZ.out)).mono ?_
                  rintro e w10 ⟨rfl, hk⟩
                  have HK10 := Lib.hid (HK9.out.trans hk)
                  have HA10 := Lib.hid (HA9.out.kept hk)
                  have HB10 := Lib.hid (HB9.out.kept hk)
                  have HZ10 := Lib.hid (HZ9.out.kept hk)
                  clear hk HK9 HA9 HB9 HZ9
                  go_wp2_with fail
                  refine ((kdeepx_any HA10.out (by omega) HSa.out (HL.out.kept HK10.out)).mono (fun e w' h => DeepXPost.yes h HTA.out)).mono ?_
                  rintro e w11 ⟨rfl, hk⟩
                  have HK11 := Lib.hid (HK10.out.trans hk)
                  have HA11 := Lib.hid (HA10.out.kept hk)
                  have HB11 := Lib.hid (HB10.out.kept hk)
                  have HZ11 := Lib.hid (HZ10.out.kept hk)
                  clear hk HK10 HA10 HB10 HZ10
                  go_wp2_with fail
                  refine ((kdeepx_any HB11.out (by omega) HSb.out (HL.out.kept HK11.out)).mono (fun e w' h => DeepXPost.yes h HTB.out)).mono ?_
                  rintro e w12 ⟨rfl, hk⟩
                  have HK12 := Lib.hid (HK11.out.trans hk)
                  have HA12 := Lib.hid (HA11.out.kept hk)
                  have HB12 := Lib.hid (HB11.out.kept hk)
                  have HZ12 := Lib.hid (HZ11.out.kept hk)
                  clear hk HK11 HA11 HB11 HZ11
                  rcases Nat.lt_trichotomy ta.deep tb.deep with hmx | hmx | hmx
                  · have hdz : (((Ex.bin 2 ta tb).deep : Nat) : Int) = 1 + (tb.deep : Int) := by
                      have : (Ex.bin 2 ta tb).deep = max ta.deep tb.deep + 1 := rfl
                      omega
                    rw [hdz]
                    have m1 : (ta.deep : Int) < (tb.deep : Int) := by omega
                    have m2 : (ta.deep : Int) ≤ (tb.deep : Int) := by omega
                    have m3 : ¬ (tb.deep : Int) < (ta.deep : Int) := by omega
                    have m4 : ¬ (tb.deep : Int) ≤ (ta.deep : Int) := by omega
                    have m5 : max (ta.deep : Int) (tb.deep : Int) = (tb.deep : Int) := by omega
                    clear hdz hmx
                    go_wp2
                    all_goals
                      go_ret
                      exact ⟨rfl, HK12.out⟩
                  · have hdz : (((Ex.bin 2 ta tb).deep : Nat) : Int) = 1 + (tb.deep : Int) := by
                      have : (Ex.bin 2 ta tb).deep = max ta.deep tb.deep + 1 := rfl
                      omega
                    rw [hdz]
                    rw [hmx]
                    clear hdz hmx
                    go_wp2
                    all_goals
                      go_ret
                      exact ⟨rfl, HK12.out⟩
                  · have hdz : (((Ex.bin 2 ta tb).deep : Nat) : Int) = 1 + (ta.deep : Int) := by
                      have : (Ex.bin 2 ta tb).deep = max ta.deep tb.deep + 1 := rfl
                      omega
                    rw [hdz]
                    have m1 : (tb.deep : Int) < (ta.deep : Int) := by omega
                    have m2 : (tb.deep : Int) ≤ (ta.deep : Int) := by omega
                    have m3 : ¬ (ta.deep : Int) < (tb.deep : Int) := by omega
                    have m4 : ¬ (ta.deep : Int) ≤ (tb.deep : Int) := by omega
                    have m5 : max (ta.deep : Int) (tb.deep : Int) = (ta.deep : Int) := by omega
                    clear hdz hmx
                    go_wp2
                    all_goals
                      go_ret
                      exact ⟨rfl, HK12.out⟩
              · have gl1 : ((lb.length : Int) == 1) = false := by rw [beq_eq_false_iff_ne]; omega
                have HTZ : Hid (MayIs ((([] ++ la.map TrmB.tok) ++ lb.map TrmB.tok) ++ [opT 2]) (.bin 2 ta tb)) := Lib.hid (by
                  have h := joins_some HTA.out.1 HTB.out.1 hb5 hno5
                  exact ⟨h.1, by rw [List.nil_append, HTA.out.2.1, HTB.out.2.1]; exact h.2, by simp; omega⟩)
                have HSY : Hid ((toX ((([] ++ la.map TrmB.tok) ++ lb.map TrmB.tok) ++ [opT 2])).length ≤ 1000000 ∧ ∀ t ∈ toX ((([] ++ la.map TrmB.tok) ++ lb.map TrmB.tok) ++ [opT 2]), t.name.size ≤ 1000000) := Lib.hid ⟨by rw [toX_len]; simp; omega, tox_names HTZ.out⟩
                go_wp2_with (at_builtin; go_must (refine list_app rfl (.tmp 48) (.tmp 51) 23 23 rfl Tryd.sliceX rfl (by exact HZ7.out.1) rfl (by exact src_three Tryd.underlying23 (heap_alloc_new _ _) rfl rfl rfl) (by unfold maxLen; simp only [List.length_nil, List.length_append, List.length_map, List.length_cons, List.nil_append]; omega) (by simp only [List.length_nil, List.length_append, List.length_map, List.length_cons, List.nil_append]; omega) (by exact HZ7.out.2.size) ?_; intro v8 w8 hq; have HZ8 : Hid (XPart w3 w8 ((([] ++ la.map TrmB.tok) ++ lb.map TrmB.tok) ++ [opT 2]) v8) := Lib.hid (HZ7.out.app (y := [opT 2]) hq); have HK8 := Lib.hid (HK3.out.trans HZ8.out.2); clear hq; have c0 := (HYC.out w8 HZ8.out.2)))
                have HA8 := Lib.hid (HAK.out w8 HZ8.out.2)
                have HB8 := Lib.hid (HBK.out w8 HZ8.out.2)
                skip
                refine ((kmayx_any HZ8.out.reads HSY.out.1 HSY.out.2 (HL.out.kept HK8.out)).mono (fun e w' h => MayXPost.yes (by rw [toX_tok] at h; exact h) HTZ.out)).mono ?_
                rintro e w9 ⟨rfl, hk⟩
                have HK9 := Lib.hid (HK8.out.trans hk)
                have HA9 := Lib.hid (HA8.out.kept hk)
                have HB9 := Lib.hid (HB8.out.kept hk)
                have HZ9 := Lib.hid (HZ8.out.kept hk)
                clear hk HK8 HA8 HB8 HZ8
                go_wp2_with fail
                refine ((kdeepx_any HZ9.out.reads HSY.out.1 HSY.out.2 (HL.out.kept HK9.out)).mono (fun e w' h => DeepXPost.yes (by rw [toX_tok] at h; exact h) HTZ.out)).mono ?_
                rintro e w10 ⟨rfl, hk⟩
                have HK10 := Lib.hid (HK9.out.trans hk)
                have HA10 := Lib.hid (HA9.out.kept hk)
                have HB10 := Lib.hid (HB9.out.kept hk)
                have HZ10 := Lib.hid (HZ9.out.kept hk)
                clear hk HK9 HA9 HB9 HZ9
                go_wp2_with fail
                refine ((kdeepx_any HA10.out (by omega) HSa.out (HL.out.kept HK10.out)).mono (fun e w' h => DeepXPost.yes h HTA.out)).mono ?_
                rintro e w11 ⟨rfl, hk⟩
                have HK11 := Lib.hid (HK10.out.trans hk)
                have HA11 := Lib.hid (HA10.out.kept hk)
                have HB11 := Lib.hid (HB10.out.kept hk)
                have HZ11 := Lib.hid (HZ10.out.kept hk)
                clear hk HK10 HA10 HB10 HZ10
                go_wp2_with fail
                refine ((kdeepx_any HB11.out (by omega) HSb.out (HL.out.kept HK11.out)).mono (fun e w' h => DeepXPost.yes h HTB.out)).mono ?_
                rintro e w12 ⟨rfl, hk⟩
                have HK12 := Lib.hid (HK11.out.trans hk)
                have HA12 := Lib.hid (HA11.out.kept hk)
                have HB12 := Lib.hid (HB11.out.kept hk)
                have HZ12 := Lib.hid (HZ11.out.kept hk)
                clear hk HK11 HA11 HB11 HZ11
                rcases Nat.lt_trichotomy ta.deep tb.deep with hmx | hmx | hmx
                · have hdz : (((Ex.bin 2 ta tb).deep : Nat) : Int) = 1 + (tb.deep : Int) := by
                    have : (Ex.bin 2 ta tb).deep = max ta.deep tb.deep + 1 := rfl
                    omega
                  rw [hdz]
                  have m1 : (ta.deep : Int) < (tb.deep : Int) := by omega
                  have m2 : (ta.deep : Int) ≤ (tb.deep : Int) := by omega
                  have m3 : ¬ (tb.deep : Int) < (ta.deep : Int) := by omega
                  have m4 : ¬ (tb.deep : Int) ≤ (ta.deep : Int) := by omega
                  have m5 : max (ta.deep : Int) (tb.deep : Int) = (tb.deep : Int) := by omega
                  clear hdz hmx
                  go_wp2
                  all_goals
                    go_ret
                    exact ⟨rfl, HK12.out⟩
                · have hdz : (((Ex.bin 2 ta tb).deep : Nat) : Int) = 1 + (tb.deep : Int) := by
                    have : (Ex.bin 2 ta tb).deep = max ta.deep tb.deep + 1 := rfl
                    omega
                  rw [hdz]
                  rw [hmx]
                  clear hdz hmx
                  go_wp2
                  all_goals
                    go_ret
                    exact ⟨rfl, HK12.out⟩
                · have hdz : (((Ex.bin 2 ta tb).deep : Nat) : Int) = 1 + (ta.deep : Int) := by
                    have : (Ex.bin 2 ta tb).deep = max ta.deep tb.deep + 1 := rfl
                    omega
                  rw [hdz]
                  have m1 : (tb.deep : Int) < (ta.deep : Int) := by omega
                  have m2 : (tb.deep : Int) ≤ (ta.deep : Int) := by omega
                  have m3 : ¬ (ta.deep : Int) < (tb.deep : Int) := by omega
                  have m4 : ¬ (ta.deep : Int) ≤ (tb.deep : Int) := by omega
                  have m5 : max (ta.deep : Int) (tb.deep : Int) = (ta.deep : Int) := by omega
                  clear hdz hmx
                  go_wp2
                  all_goals
                    go_ret
                    exact ⟨rfl, HK12.out⟩
            · have hb5 : bindS 3 ≠ 0 := by decide
              have hH0 : XPart w3 ((w3.alloc (Obj.cells #[.int .i64 2, .int .i64 3, .int .i64 4, .int .i64 5] 3)).alloc (Obj.cells #[] 45)) [] (.slice (some ⟨w3.heap.size + 1, 0, none⟩) 0 0) := ⟨own_new (by have := heap_alloc_new (w3.alloc (Obj.cells #[.int .i64 2, .int .i64 3, .int .i64 4, .int .i64 5] 3)) (Obj.cells #[] 45); rwa [World.size_alloc] at this) (by omega), (Fr.of_alloc _ _ _).trans (Fr.of_alloc _ _ _)⟩
              have H0 := Lib.hid hH0
              have HSA := Lib.hid (readsX_src (P := Tryd.prog) (HA3.out.kept hH0.2) Tryd.underlying23)
              clear hH0
              go_wp2_with (first
                | (at_builtin; refine list_app rfl (.tmp 41) (.tmp 42) 23 23 rfl Tryd.sliceX rfl (by exact H0.out.1) rfl (by exact HSA.out) (by unfold maxLen; simp only [List.length_nil, List.length_append, List.length_map, List.length_cons, List.nil_append]; omega) (by simp only [List.length_nil, List.length_append, List.length_map, List.length_cons, List.nil_append]; omega) (by simp only [World.size_alloc]; omega) ?_; intro v4 w4 hq; have H4 : Hid (XPart w3 w4 ([] ++ la.map TrmB.tok) v4) := Lib.hid (H0.out.app (by rw [tox_map, List.length_map]; exact hq)); clear hq; have HSB := Lib.hid (readsX_src (P := Tryd.prog) (HB3.out.kept H4.out.2) Tryd.underlying23))
                | (at_builtin; go_must (refine list_app rfl (.tmp 43) (.tmp 44) 23 23 rfl Tryd.sliceX rfl (by exact H4.out.1) rfl (by exact HSB.out) (by unfold maxLen; simp only [List.length_nil, List.length_append, List.length_map, List.length_cons, List.nil_append]; omega) (by simp only [List.length_nil, List.length_append, List.length_map, List.length_cons, List.nil_append]; omega) (by exact H4.out.2.size) ?_; intro v5 w5 hq; have HZ5 : Hid (XPart w3 w5 (([] ++ la.map TrmB.tok) ++ lb.map TrmB.tok) v5) := Lib.hid (H4.out.app (by rw [tox_map, List.length_map]; exact hq)); clear hq)))
              have HK5 := Lib.hid (HK3.out.trans HZ5.out.2)
              have HA5 := Lib.hid (HA3.out.kept HZ5.out.2)
              have HB5 := Lib.hid (HB3.out.kept HZ5.out.2)
              clear HA3 HB3 HSA HSB H0 H4
              skip
              refine ((kmayx_any HZ5.out.reads HSZ.out.1 HSZ.out.2 (HL.out.kept HK5.out)).mono (fun e w' h => MayXPost.no (by rw [toX_tok] at h; exact h) HNZ.out)).mono ?_
              rintro e w6 ⟨rfl, hk⟩
              have HK6 := Lib.hid (HK5.out.trans hk)
              have HA6 := Lib.hid (HA5.out.kept hk)
              have HB6 := Lib.hid (HB5.out.kept hk)
              have HZ6 := Lib.hid (HZ5.out.kept hk)
              clear hk HK5 HA5 HB5 HZ5
              have HZ7 := Lib.hid (HZ6.out.kept (Fr.of_alloc _ w6 (Obj.cells #[.int .i64 3, .int .i64 0, .string ⟨#[]⟩] 45)))
              have hno5 : (3 : Int) = 5 → ∃ t, tb = .atom t ∧ t.of = 5 := fun h => absurd h (by decide)
              by_cases hl1 : lb.length = 1
              · have gl1 : ((lb.length : Int) == 1) = true := by rw [beq_iff_eq]; omega
                have HL1 := Lib.hid hl1
                clear hl1
                by_cases ho : y0.of = 5
                · have go5 : (y0.of == 5) = true := by simp [ho]
                  have HTZ : Hid (MayIs ((([] ++ la.map TrmB.tok) ++ lb.map TrmB.tok) ++ [opT 3]) (.bin 3 ta tb)) := Lib.hid (by
                    have h := joins_some HTA.out.1 HTB.out.1 hb5 hno5
                    exact ⟨h.1, by rw [List.nil_append, HTA.out.2.1, HTB.out.2.1]; exact h.2, by simp; omega⟩)
                  have HSY : Hid ((toX ((([] ++ la.map TrmB.tok) ++ lb.map TrmB.tok) ++ [opT 3])).length ≤ 1000000 ∧ ∀ t ∈ toX ((([] ++ la.map TrmB.tok) ++ lb.map TrmB.tok) ++ [opT 3]), t.name.size ≤ 1000000) := Lib.hid ⟨by rw [toX_len]; simp; omega, tox_names HTZ.out⟩
                  go_wp2_with (at_builtin; go_must (refine list_app rfl (.tmp 48) (.tmp 51) 23 23 rfl Tryd.sliceX rfl (by exact HZ7.out.1) rfl (by exact src_three Tryd.underlying23 (heap_alloc_new _ _) rfl rfl rfl) (by unfold maxLen; simp only [List.length_nil, List.length_append, List.length_map, List.length_cons, List.nil_append]; omega) (by simp only [List.length_nil, List.length_append, List.length_map, List.length_cons, List.nil_append]; omega) (by exact HZ7.out.2.size) ?_; intro v8 w8 hq; have HZ8 : Hid (XPart w3 w8 ((([] ++ la.map TrmB.tok) ++ lb.map TrmB.tok) ++ [opT 3]) v8) := Lib.hid (HZ7.out.app (y := [opT 3]) hq); have HK8 := Lib.hid (HK3.out.trans HZ8.out.2); clear hq; have c0 := (HYC.out w8 HZ8.out.2)))
                  have HA8 := Lib.hid (HAK.out w8 HZ8.out.2)
                  have HB8 := Lib.hid (HBK.out w8 HZ8.out.2)
                  skip
                  refine ((kmayx_any HZ8.out.reads HSY.out.1 HSY.out.2 (HL.out.kept HK8.out)).mono (fun e w' h => MayXPost.yes (by rw [toX_tok] at h; exact h) HTZ.out)).mono ?_
                  rintro e w9 ⟨rfl, hk⟩
                  have HK9 := Lib.hid (HK8.out.trans hk)
                  have HA9 := Lib.hid (HA8.out.kept hk)
                  have HB9 := Lib.hid (HB8.out.kept hk)
                  have HZ9 := Lib.hid (HZ8.out.kept hk)
                  clear hk HK8 HA8 HB8 HZ8
                  go_wp2_with fail
                  refine ((kdeepx_any HZ9.out.reads HSY.out.1 HSY.out.2 (HL.out.kept HK9.out)).mono (fun e w' h => DeepXPost.yes (by rw [toX_tok] at h; exact h) HTZ.out)).mono ?_
                  rintro e w10 ⟨rfl, hk⟩
                  have HK10 := Lib.hid (HK9.out.trans hk)
                  have HA10 := Lib.hid (HA9.out.kept hk)
                  have HB10 := Lib.hid (HB9.out.kept hk)
                  have HZ10 := Lib.hid (HZ9.out.kept hk)
                  clear hk HK9 HA9 HB9 HZ9
                  go_wp2_with fail
                  refine ((kdeepx_any HA10.out (by omega) HSa.out (HL.out.kept HK10.out)).mono (fun e w' h => DeepXPost.yes h HTA.out)).mono ?_
                  rintro e w11 ⟨rfl, hk⟩
                  have HK11 := Lib.hid (HK10.out.trans hk)
                  have HA11 := Lib.hid (HA10.out.kept hk)
                  have HB11 := Lib.hid (HB10.out.kept hk)
                  have HZ11 := Lib.hid (HZ10.out.kept hk)
                  clear hk HK10 HA10 HB10 HZ10
                  go_wp2_with fail
                  refine ((kdeepx_any HB11.out (by omega) HSb.out (HL.out.kept HK11.out)).mono (fun e w' h => DeepXPost.yes h HTB.out)).mono ?_
                  rintro e w12 ⟨rfl, hk⟩
                  have HK12 := Lib.hid (HK11.out.trans hk)
                  have HA12 := Lib.hid (HA11.out.kept hk)
                  have HB12 := Lib.hid (HB11.out.kept hk)
                  have HZ12 := Lib.hid (HZ11.out.kept hk)
                  clear hk HK11 HA11 HB11 HZ11
                  rcases Nat.lt_trichotomy ta.deep tb.deep with hmx | hmx | hmx
                  · have hdz : (((Ex.bin 3 ta tb).deep : Nat) : Int) = 1 + (tb.deep : Int) := by
                      have : (Ex.bin 3 ta tb).deep = max ta.deep tb.deep + 1 := rfl
                      omega
                    rw [hdz]
                    have m1 : (ta.deep : Int) < (tb.deep : Int) := by omega
                    have m2 : (ta.deep : Int) ≤ (tb.deep : Int) := by omega
                    have m3 : ¬ (tb.deep : Int) < (ta.deep : Int) := by omega
                    have m4 : ¬ (tb.deep : Int) ≤ (ta.deep : Int) := by omega
                    have m5 : max (ta.deep : Int) (tb.deep : Int) = (tb.deep : Int) := by omega
                    clear hdz hmx
                    go_wp2
                    all_goals
                      go_ret
                      exact ⟨rfl, HK12.out⟩
                  · have hdz : (((Ex.bin 3 ta tb).deep : Nat) : Int) = 1 + (tb.deep : Int) := by
                      have : (Ex.bin 3 ta tb).deep = max ta.deep tb.deep + 1 := rfl
                      omega
                    rw [hdz]
                    rw [hmx]
                    clear hdz hmx
                    go_wp2
                    all_goals
                      go_ret
                      exact ⟨rfl, HK12.out⟩
                  · have hdz : (((Ex.bin 3 ta tb).deep : Nat) : Int) = 1 + (ta.deep : Int) := by
                      have : (Ex.bin 3 ta tb).deep = max ta.deep tb.deep + 1 := rfl
                      omega
                    rw [hdz]
                    have m1 : (tb.deep : Int) < (ta.deep : Int) := by omega
                    have m2 : (tb.deep : Int) ≤ (ta.deep : Int) := by omega
                    have m3 : ¬ (ta.deep : Int) < (tb.deep : Int) := by omega
                    have m4 : ¬ (ta.deep : Int) ≤ (tb.deep : Int) := by omega
                    have m5 : max (ta.deep : Int) (tb.deep : Int) = (ta.deep : Int) := by omega
                    clear hdz hmx
                    go_wp2
                    all_goals
                      go_ret
                      exact ⟨rfl, HK12.out⟩
                · have go5 : (y0.of == 5) = false := by simp [ho]
                  have HTZ : Hid (MayIs ((([] ++ la.map TrmB.tok) ++ lb.map TrmB.tok) ++ [opT 3]) (.bin 3 ta tb)) := Lib.hid (by
                    have h := joins_some HTA.out.1 HTB.out.1 hb5 hno5
                    exact ⟨h.1, by rw [List.nil_append, HTA.out.2.1, HTB.out.2.1]; exact h.2, by simp; omega⟩)
                  have HSY : Hid ((toX ((([] ++ la.map TrmB.tok) ++ lb.map TrmB.tok) ++ [opT 3])).length ≤ 1000000 ∧ ∀ t ∈ toX ((([] ++ la.map TrmB.tok) ++ lb.map TrmB.tok) ++ [opT 3]), t.name.size ≤ 1000000) := Lib.hid ⟨by rw [toX_len]; simp; omega, tox_names HTZ.out⟩
                  go_wp2_with (at_builtin; go_must (refine list_app rfl (.tmp 48) (.tmp 51) 23 23 rfl Tryd.sliceX rfl (by exact HZ7.out.1) rfl (by exact src_three Tryd.underlying23 (heap_alloc_new _ _) rfl rfl rfl) (by unfold maxLen; simp only [List.length_nil, List.length_append, List.length_map, List.length_cons, List.nil_append]; omega) (by simp only [List.length_nil, List.length_append, List.length_map, List.length_cons, List.nil_append]; omega) (by exact HZ7.out.2.size) ?_; intro v8 w8 hq; have HZ8 : Hid (XPart w3 w8 ((([] ++ la.map TrmB.tok) ++ lb.map TrmB.tok) ++ [opT 3]) v8) := Lib.hid (HZ7.out.app (y := [opT 3]) hq); have HK8 := Lib.hid (HK3.out.trans HZ8.out.2); clear hq; have c0 := (HYC.out w8 HZ8.out.2)))
                  have HA8 := Lib.hid (HAK.out w8 HZ8.out.2)
                  have HB8 := Lib.hid (HBK.out w8 HZ8.out.2)
                  skip
                  refine ((kmayx_any HZ8.out.reads HSY.out.1 HSY.out.2 (HL.out.kept HK8.out)).mono (fun e w' h => MayXPost.yes (by rw [toX_tok] at h; exact h) HTZ.out)).mono ?_
                  rintro e w9 ⟨rfl, hk⟩
                  have HK9 := Lib.hid (HK8.out.trans hk)
                  have HA9 := Lib.hid (HA8.out.kept hk)
                  have HB9 := Lib.hid (HB8.out.kept hk)
                  have HZ9 := Lib.hid (HZ8.out.kept hk)
                  clear hk HK8 HA8 HB8 HZ8
                  go_wp2_with fail
                  refine ((kdeepx_any HZ9.out.reads HSY.out.1 HSY.out.2 (HL.out.kept HK9.out)).mono (fun e w' h => DeepXPost.yes (by rw [toX_tok] at h; exact h) HTZ.out)).mono ?_
                  rintro e w10 ⟨rfl, hk⟩
                  have HK10 := Lib.hid (HK9.out.trans hk)
                  have HA10 := Lib.hid (HA9.out.kept hk)
                  have HB10 := Lib.hid (HB9.out.kept hk)
                  have HZ10 := Lib.hid (HZ9.out.kept hk)
                  clear hk HK9 HA9 HB9 HZ9
                  go_wp2_with fail
                  refine ((kdeepx_any HA10.out (by omega) HSa.out (HL.out.kept HK10.out)).mono (fun e w' h => DeepXPost.yes h HTA.out)).mono ?_
                  rintro e w11 ⟨rfl, hk⟩
                  have HK11 := Lib.hid (HK10.out.trans hk)
                  have HA11 := Lib.hid (HA10.out.kept hk)
                  have HB11 := Lib.hid (HB10.out.kept hk)
                  have HZ11 := Lib.hid (HZ10.out.kept hk)
                  clear hk HK10 HA10 HB10 HZ10
                  go_wp2_with fail
                  refine ((kdeepx_any HB11.out (by omega) HSb.out (HL.out.kept HK11.out)).mono (fun e w' h => DeepXPost.yes h HTB.out)).mono ?_
                  rintro e w12 ⟨rfl, hk⟩
                  have HK12 := Lib.hid (HK11.out.trans hk)
                  have HA12 := Lib.hid (HA11.out.kept hk)
                  have HB12 := Lib.hid (HB11.out.kept hk)
                  have HZ12 := Lib.hid (HZ11.out.kept hk)
                  clear hk HK11 HA11 HB11 HZ11
                  rcases Nat.lt_trichotomy ta.deep tb.deep with hmx | hmx | hmx
                  · have hdz : (((Ex.bin 3 ta tb).deep : Nat) : Int) = 1 + (tb.deep : Int) := by
                      have : (Ex.bin 3 ta tb).deep = max ta.deep tb.deep + 1 := rfl
                      omega
                    rw [hdz]
                    have m1 : (ta.deep : Int) < (tb.deep : Int) := by omega
                    have m2 : (ta.deep : Int) ≤ (tb.deep : Int) := by omega
                    have m3 : ¬ (tb.deep : Int) < (ta.deep : Int) := by omega
                    have m4 : ¬ (tb.deep : Int) ≤ (ta.deep : Int) := by omega
                    have m5 : max (ta.deep : Int) (tb.deep : Int) = (tb.deep : Int) := by omega
                    clear hdz hmx
                    go_wp2
                    all_goals
                      go_ret
                      exact ⟨rfl, HK12.out⟩
                  · have hdz : (((Ex.bin 3 ta tb).deep : Nat) : Int) = 1 + (tb.deep : Int) := by
                      have : (Ex.bin 3 ta tb).deep = max ta.deep tb.deep + 1 := rfl
                      omega
                    rw [hdz]
                    rw [hmx]
                    clear hdz hmx
                    go_wp2
                    all_goals
                      go_ret
                      exact ⟨rfl, HK12.out⟩
                  · have hdz : (((Ex.bin 3 ta tb).deep : Nat) : Int) = 1 + (ta.deep : Int) := by
                      have : (Ex.bin 3 ta tb).deep = max ta.deep tb.deep + 1 := rfl
                      omega
                    rw [hdz]
                    have m1 : (tb.deep : Int) < (ta.deep : Int) := by omega
                    have m2 : (tb.deep : Int) ≤ (ta.deep : Int) := by omega
                    have m3 : ¬ (ta.deep : Int) < (tb.deep : Int) := by omega
                    have m4 : ¬ (ta.deep : Int) ≤ (tb.deep : Int) := by omega
                    have m5 : max (ta.deep : Int) (tb.deep : Int) = (ta.deep : Int) := by omega
                    clear hdz hmx
                    go_wp2
                    all_goals
                      go_ret
                      exact ⟨rfl, HK12.out⟩
              · have gl1 : ((lb.length : Int) == 1) = false := by rw [beq_eq_false_iff_ne]; omega
                have HTZ : Hid (MayIs ((([] ++ la.map TrmB.tok) ++ lb.map TrmB.tok) ++ [opT 3]) (.bin 3 ta tb)) := Lib.hid (by
                  have h := joins_some HTA.out.1 HTB.out.1 hb5 hno5
                  exact ⟨h.1, by rw [List.nil_append, HTA.out.2.1, HTB.out.2.1]; exact h.2, by simp; omega⟩)
                have HSY : Hid ((toX ((([] ++ la.map TrmB.tok) ++ lb.map TrmB.tok) ++ [opT 3])).length ≤ 1000000 ∧ ∀ t ∈ toX ((([] ++ la.map TrmB.tok) ++ lb.map TrmB.tok) ++ [opT 3]), t.name.size ≤ 1000000) := Lib.hid ⟨by rw [toX_len]; simp; omega, tox_names HTZ.out⟩
                go_wp2_with (at_builtin; go_must (refine list_app rfl (.tmp 48) (.tmp 51) 23 23 rfl Tryd.sliceX rfl (by exact HZ7.out.1) rfl (by exact src_three Tryd.underlying23 (heap_alloc_new _ _) rfl rfl rfl) (by unfold maxLen; simp only [List.length_nil, List.length_append, List.length_map, List.length_cons, List.nil_append]; omega) (by simp only [List.length_nil, List.length_append, List.length_map, List.length_cons, List.nil_append]; omega) (by exact HZ7.out.2.size) ?_; intro v8 w8 hq; have HZ8 : Hid (XPart w3 w8 ((([] ++ la.map TrmB.tok) ++ lb.map TrmB.tok) ++ [opT 3]) v8) := Lib.hid (HZ7.out.app (y := [opT 3]) hq); have HK8 := Lib.hid (HK3.out.trans HZ8.out.2); clear hq; have c0 := (HYC.out w8 HZ8.out.2)))
                have HA8 := Lib.hid (HAK.out w8 HZ8.out.2)
                have HB8 := Lib.hid (HBK.out w8 HZ8.out.2)
                skip
                refine ((kmayx_any HZ8.out.reads HSY.out.1 HSY.out.2 (HL.out.kept HK8.out)).mono (fun e w' h => MayXPost.yes (by rw [toX_tok] at h; exact h) HTZ.out)).mono ?_
                rintro e w9 ⟨rfl, hk⟩
                have HK9 := Lib.hid (HK8.out.trans hk)
                have HA9 := Lib.hid (HA8.out.kept hk)
                have HB9 := Lib.hid (HB8.out.kept hk)
                have HZ9 := Lib.hid (HZ8.out.kept hk)
                clear hk HK8 HA8 HB8 HZ8
                go_wp2_with fail
                refine ((kdeepx_any HZ9.out.reads HSY.out.1 HSY.out.2 (HL.out.kept HK9.out)).mono (fun e w' h => DeepXPost.yes (by rw [toX_tok] at h; exact h) HTZ.out)).mono ?_
                rintro e w10 ⟨rfl, hk⟩
                have HK10 := Lib.hid (HK9.out.trans hk)
                have HA10 := Lib.hid (HA9.out.kept hk)
                have HB10 := Lib.hid (HB9.out.kept hk)
                have HZ10 := Lib.hid (HZ9.out.kept hk)
                clear hk HK9 HA9 HB9 HZ9
                go_wp2_with fail
                refine ((kdeepx_any HA10.out (by omega) HSa.out (HL.out.kept HK10.out)).mono (fun e w' h => DeepXPost.yes h HTA.out)).mono ?_
                rintro e w11 ⟨rfl, hk⟩
                have HK11 := Lib.hid (HK10.out.trans hk)
                have HA11 := Lib.hid (HA10.out.kept hk)
                have HB11 := Lib.hid (HB10.out.kept hk)
                have HZ11 := Lib.hid (HZ10.out.kept hk)
                clear hk HK10 HA10 HB10 HZ10
                go_wp2_with fail
                refine ((kdeepx_any HB11.out (by omega) HSb.out (HL.out.kept HK11.out)).mono (fun e w' h => DeepXPost.yes h HTB.out)).mono ?_
                rintro e w12 ⟨rfl, hk⟩
                have HK12 := Lib.hid (HK11.out.trans hk)
                have HA12 := Lib.hid (HA11.out.kept hk)
                have HB12 := Lib.hid (HB11.out.kept hk)
                have HZ12 := Lib.hid (HZ11.out.kept hk)
                clear hk HK11 HA11 HB11 HZ11
                rcases Nat.lt_trichotomy ta.deep tb.deep with hmx | hmx | hmx
                · have hdz : (((Ex.bin 3 ta tb).deep : Nat) : Int) = 1 + (tb.deep : Int) := by
                    have : (Ex.bin 3 ta tb).deep = max ta.deep tb.deep + 1 := rfl
                    omega
                  rw [hdz]
                  have m1 : (ta.deep : Int) < (tb.deep : Int) := by omega
                  have m2 : (ta.deep : Int) ≤ (tb.deep : Int) := by omega
                  have m3 : ¬ (tb.deep : Int) < (ta.deep : Int) := by omega
                  have m4 : ¬ (tb.deep : Int) ≤ (ta.deep : Int) := by omega
                  have m5 : max (ta.deep : Int) (tb.deep : Int) = (tb.deep : Int) := by omega
                  clear hdz hmx
                  go_wp2
                  all_goals
                    go_ret
                    exact ⟨rfl, HK12.out⟩
                · have hdz : (((Ex.bin 3 ta tb).deep : Nat) : Int) = 1 + (tb.deep : Int) := by
                    have : (Ex.bin 3 ta tb).deep = max ta.deep tb.deep + 1 := rfl
                    omega
                  rw [hdz]
                  rw [hmx]
                  clear hdz hmx
                  go_wp2
                  all_goals
                    go_ret
                    exact ⟨rfl, HK12.out⟩
                · have hdz : (((Ex.bin 3 ta tb).deep : Nat) : Int) = 1 + (ta.deep : Int) := by
                    have : (Ex.bin 3 ta tb).deep = max ta.deep tb.deep + 1 := rfl
                    omega
                  rw [hdz]
                  have m1 : (tb.deep : Int) < (ta.deep : Int) := by omega
                  have m2 : (tb.deep : Int) ≤ (ta.deep : Int) := by omega
                  have m3 : ¬ (ta.deep : Int) < (tb.deep : Int) := by omega
                  have m4 : ¬ (ta.deep : Int) ≤ (tb.deep : Int) := by omega
                  have m5 : max (ta.deep : Int) (tb.deep : Int) = (ta.deep : Int) := by omega
                  clear hdz hmx
                  go_wp2
                  all_goals
                    go_ret
                    exact ⟨rfl, HK12.out⟩
            · have hb5 : bindS 4 ≠ 0 := by decide
              have hH0 : XPart w3 ((w3.alloc (Obj.cells #[.int .i64 2, .int .i64 3, .int .i64 4, .int .i64 5] 3)).alloc (Obj.cells #[] 45)) [] (.slice (some ⟨w3.heap.size + 1, 0, none⟩) 0 0) := ⟨own_new (by have := heap_alloc_new (w3.alloc (Obj.cells #[.int .i64 2, .int .i64 3, .int .i64 4, .int .i64 5] 3)) (Obj.cells #[] 45); rwa [World.size_alloc] at this) (by omega), (Fr.of_alloc _ _ _).trans (Fr.of_alloc _ _ _)⟩
              have H0 := Lib.hid hH0
              have HSA := Lib.hid (readsX_src (P := Tryd.prog) (HA3.out.kept hH0.2) Tryd.underlying23)
              clear hH0
              go_wp2_with (first
                | (at_builtin; refine list_app rfl (.tmp 41) (.tmp 42) 23 23 rfl Tryd.sliceX rfl (by exact H0.out.1) rfl (by exact HSA.out) (by unfold maxLen; simp only [List.length_nil, List.length_append, List.length_map, List.length_cons, List.nil_append]; omega) (by simp only [List.length_nil, List.length_append, List.length_map, List.length_cons, List.nil_append]; omega) (by simp only [World.size_alloc]; omega) ?_; intro v4 w4 hq; have H4 : Hid (XPart w3 w4 ([] ++ la.map TrmB.tok) v4) := Lib.hid (H0.out.app (by rw [tox_map, List.length_map]; exact hq)); clear hq; have HSB := Lib.hid (readsX_src (P := Tryd.prog) (HB3.out.kept H4.out.2) Tryd.underlying23))
                | (at_builtin; go_must (refine list_app rfl (.tmp 43) (.tmp 44) 23 23 rfl Tryd.sliceX rfl (by exact H4.out.1) rfl (by exact HSB.out) (by unfold maxLen; simp only [List.length_nil, List.length_append, List.length_map, List.length_cons, List.nil_append]; omega) (by simp only [List.length_nil, List.length_append, List.length_map, List.length_cons, List.nil_append]; omega) (by exact H4.out.2.size) ?_; intro v5 w5 hq; have HZ5 : Hid (XPart w3 w5 (([] ++ la.map TrmB.tok) ++ lb.map TrmB.tok) v5) := Lib.hid (H4.out.app (by rw [tox_map, List.length_map]; exact hq)); clear hq)))
              have HK5 := Lib.hid (HK3.out.trans HZ5.out.2)
              have HA5 := Lib.hid (HA3.out.kept HZ5.out.2)
              have HB5 := Lib.hid (HB3.out.kept HZ5.out.2)
              clear HA3 HB3 HSA HSB H0 H4
              skip
              refine ((kmayx_any HZ5.out.reads HSZ.out.1 HSZ.out.2 (HL.out.kept HK5.out)).mono (fun e w' h => MayXPost.no (by rw [toX_tok] at h; exact h) HNZ.out)).mono ?_
              rintro e w6 ⟨rfl, hk⟩
              have HK6 := Lib.hid (HK5.out.trans hk)
              have HA6 := Lib.hid (HA5.out.kept hk)
              have HB6 := Lib.hid (HB5.out.kept hk)
              have HZ6 := Lib.hid (HZ5.out.kept hk)
              clear hk HK5 HA5 HB5 HZ5
              have HZ7 := Lib.hid (HZ6.out.kept (Fr.of_alloc _ w6 (Obj.cells #[.int .i64 4, .int .i64 0, .string ⟨#[]⟩] 45)))
              have hno5 : (4 : Int) = 5 → ∃ t, tb = .atom t ∧ t.of = 5 := fun h => absurd h (by decide)
              by_cases hl1 : lb.length = 1
              · have gl1 : ((lb.length : Int) == 1) = true := by rw [beq_iff_eq]; omega
                have HL1 := Lib.hid hl1
                clear hl1
                by_cases ho : y0.of = 5
                · have go5 : (y0.of == 5) = true := by simp [ho]
                  have HTZ : Hid (MayIs ((([] ++ la.map TrmB.tok) ++ lb.map TrmB.tok) ++ [opT 4]) (.bin 4 ta tb)) := Lib.hid (by
                    have h := joins_some HTA.out.1 HTB.out.1 hb5 hno5
                    exact ⟨h.1, by rw [List.nil_append, HTA.out.2.1, HTB.out.2.1]; exact h.2, by simp; omega⟩)
                  have HSY : Hid ((toX ((([] ++ la.map TrmB.tok) ++ lb.map TrmB.tok) ++ [opT 4])).length ≤ 1000000 ∧ ∀ t ∈ toX ((([] ++ la.map TrmB.tok) ++ lb.map TrmB.tok) ++ [opT 4]), t.name.size ≤ 1000000) := Lib.hid ⟨by rw [toX_len]; simp; omega, tox_names HTZ.out⟩
                  go_wp2_with (at_builtin; go_must (refine list_app rfl (.tmp 48) (.tmp 51) 23 23 rfl Tryd.sliceX rfl (by exact HZ7.out.1) rfl (by exact src_three Tryd.underlying23 (heap_alloc_new _ _) rfl rfl rfl) (by unfold maxLen; simp only [List.length_nil, List.length_append, List.length_map, List.length_cons, List.nil_append]; omega) (by simp only [List.length_nil, List.length_append, List.length_map, List.length_cons, List.nil_append]; omega) (by exact HZ7.out.2.size) ?_; intro v8 w8 hq; have HZ8 : Hid (XPart w3 w8 ((([] ++ la.map TrmB.tok) ++ lb.map TrmB.tok) ++ [opT 4]) v8) := Lib.hid (HZ7.out.app (y := [opT 4]) hq); have HK8 := Lib.hid (HK3.out.trans HZ8.out.2); clear hq; have c0 := (HYC.out w8 HZ8.out.2)))
                  have HA8 := Lib.hid (HAK.out w8 HZ8.out.2)
                  have HB8 := Lib.hid (HBK.out w8 HZ8.out.2)
                  skip
                  refine ((kmayx_any HZ8.out.reads HSY.out.1 HSY.out.2 (HL.out.kept HK8.out)).mono (fun e w' h => MayXPost.yes (by rw [toX_tok] at h; exact h) HTZ.out)).mono ?_
                  rintro e w9 ⟨rfl, hk⟩
                  have HK9 := Lib.hid (HK8.out.trans hk)
                  have HA9 := Lib.hid (HA8.out.kept hk)
                  have HB9 := Lib.hid (HB8.out.kept hk)
                  have HZ9 := Lib.hid (HZ8.out.kept hk)
                  clear hk HK8 HA8 HB8 HZ8
                  go_wp2_with fail
                  refine ((kdeepx_any HZ9.out.reads HSY.out.1 HSY.out.2 (HL.out.kept HK9.out)).mono (fun e w' h => DeepXPost.yes (by rw [toX_tok] at h; exact h) HTZ.out)).mono ?_
                  rintro e w10 ⟨rfl, hk⟩
                  have HK10 := Lib.hid (HK9.out.trans hk)
                  have HA10 := Lib.hid (HA9.out.kept hk)
                  have HB10 := Lib.hid (HB9.out.kept hk)
                  have HZ10 := Lib.hid (HZ9.out.kept hk)
                  clear hk HK9 HA9 HB9 HZ9
                  go_wp2_with fail
                  refine ((kdeepx_any HA10.out (by omega) HSa.out (HL.out.kept HK10.out)).mono (fun e w' h => DeepXPost.yes h HTA.out)).mono ?_
                  rintro e w11 ⟨rfl, hk⟩
                  have HK11 := Lib.hid (HK10.out.trans hk)
                  have HA11 := Lib.hid (HA10.out.kept hk)
                  have HB11 := Lib.hid (HB10.out.kept hk)
                  have HZ11 := Lib.hid (HZ10.out.kept hk)
                  clear hk HK10 HA10 HB10 HZ10
                  go_wp2_with fail
                  refine ((kdeepx_any HB11.out (by omega) HSb.out (HL.out.kept HK11.out)).mono (fun e w' h => DeepXPost.yes h HTB.out)).mono ?_
                  rintro e w12 ⟨rfl, hk⟩
                  have HK12 := Lib.hid (HK11.out.trans hk)
                  have HA12 := Lib.hid (HA11.out.kept hk)
                  have HB12 := Lib.hid (HB11.out.kept hk)
                  have HZ12 := Lib.hid (HZ11.out.kept hk)
                  clear hk HK11 HA11 HB11 HZ11
                  rcases Nat.lt_trichotomy ta.deep tb.deep with hmx | hmx | hmx
                  · have hdz : (((Ex.bin 4 ta tb).deep : Nat) : Int) = 1 + (tb.deep : Int) := by
                      have : (Ex.bin 4 ta tb).deep = max ta.deep tb.deep + 1 := rfl
                      omega
                    rw [hdz]
                    have m1 : (ta.deep : Int) < (tb.deep : Int) := by omega
                    have m2 : (ta.deep : Int) ≤ (tb.deep : Int) := by omega
                    have m3 : ¬ (tb.deep : Int) < (ta.deep : Int) := by omega
                    have m4 : ¬ (tb.deep : Int) ≤ (ta.deep : Int) := by omega
                    have m5 : max (ta.deep : Int) (tb.deep : Int) = (tb.deep : Int) := by omega
                    clear hdz hmx
                    go_wp2
                    all_goals
                      go_ret
                      exact ⟨rfl, HK12.out⟩
                  · have hdz : (((Ex.bin 4 ta tb).deep : Nat) : Int) = 1 + (tb.deep : Int) := by
                      have : (Ex.bin 4 ta tb).deep = max ta.deep tb.deep + 1 := rfl
                      omega
                    rw [hdz]
                    rw [hmx]
                    clear hdz hmx
                    go_wp2
                    all_goals
                      go_ret
                      exact ⟨rfl, HK12.out⟩
                  · have hdz : (((Ex.bin 4 ta tb).deep : Nat) : Int) = 1 + (ta.deep : Int) := by
                      have : (Ex.bin 4 ta tb).deep = max ta.deep tb.deep + 1 := rfl
                      omega
                    rw [hdz]
                    have m1 : (tb.deep : Int) < (ta.deep : Int) := by omega
                    have m2 : (tb.deep : Int) ≤ (ta.deep : Int) := by omega
                    have m3 : ¬ (ta.deep : Int) < (tb.deep : Int) := by omega
                    have m4 : ¬ (ta.deep : Int) ≤ (tb.deep : Int) := by omega
                    have m5 : max (ta.deep : Int) (tb.deep : Int) = (ta.deep : Int) := by omega
                    clear hdz hmx
                    go_wp2
                    all_goals
                      go_ret
                      exact ⟨rfl, HK12.out⟩
                · have go5 : (y0.of == 5) = false := by simp [ho]
                  have HTZ : Hid (MayIs ((([] ++ la.map TrmB.tok) ++ lb.map TrmB.tok) ++ [opT 4]) (.bin 4 ta tb)) := Lib.hid (by
                    have h := joins_some HTA.out.1 HTB.out.1 hb5 hno5
                    exact ⟨h.1, by rw [List.nil_append, HTA.out.2.1, HTB.out.2.1]; exact h.2, by simp; omega⟩)
                  have HSY : Hid ((toX ((([] ++ la.map TrmB.tok) ++ lb.map TrmB.tok) ++ [opT 4])).length ≤ 1000000 ∧ ∀ t ∈ toX ((([] ++ la.map TrmB.tok) ++ lb.map TrmB.tok) ++ [opT 4]), t.name.size ≤ 1000000) := Lib.hid ⟨by rw [toX_len]; simp; omega, tox_names HTZ.out⟩
                  go_wp2_with (at_builtin; go_must (refine list_app rfl (.tmp 48) (.tmp 51) 23 23 rfl Tryd.sliceX rfl (by exact HZ7.out.1) rfl (by exact src_three Tryd.underlying23 (heap_alloc_new _ _) rfl rfl rfl) (by unfold maxLen; simp only [List.length_nil, List.length_append, List.length_map, List.length_cons, List.nil_append]; omega) (by simp only [List.length_nil, List.length_append, List.length_map, List.length_cons, List.nil_append]; omega) (by exact HZ7.out.2.size) ?_; intro v8 w8 hq; have HZ8 : Hid (XPart w3 w8 ((([] ++ la.map TrmB.tok) ++ lb.map TrmB.tok) ++ [opT 4]) v8) := Lib.hid (HZ7.out.app (y := [opT 4]) hq); have HK8 := Lib.hid (HK3.out.trans HZ8.out.2); clear hq; have c0 := (HYC.out w8 HZ8.out.2)))
                  have HA8 := Lib.hid (HAK.out w8 HZ8.out.2)
                  have HB8 := Lib.hid (HBK.out w8 HZ8.out.2)
                  skip
                  refine ((kmayx_any HZ8.out.reads HSY.out.1 HSY.out.2 (HL.out.kept HK8.out)).mono (fun e w' h => MayXPost.yes (by rw [toX_tok] at h; exact h) HTZ.out)).mono ?_
                  rintro e w9 ⟨rfl, hk⟩
                  have HK9 := Lib.hid (HK8.out.trans hk)
                  have HA9 := Lib.hid (HA8.out.kept hk)
                  have HB9 := Lib.hid (HB8.out.kept hk)
                  have HZ9 := Lib.hid (HZ8.out.kept hk)
                  clear hk HK8 HA8 HB8 HZ8
                  go_wp2_with fail
                  refine ((kdeepx_any HZ9.out.reads HSY.out.1 HSY.out.2 (HL.out.kept HK9.out)).mono (fun e w' h => DeepXPost.yes (by rw [toX_tok] at h; exact h) HTZ.out)).mono ?_
                  rintro e w10 ⟨rfl, hk⟩
                  have HK10 := Lib.hid (HK9.out.trans hk)
                  have HA10 := Lib.hid (HA9.out.kept hk)
                  have HB10 := Lib.hid (HB9.out.kept hk)
                  have HZ10 := Lib.hid (HZ9.out.kept hk)
                  clear hk HK9 HA9 HB9 HZ9
                  go_wp2_with fail
                  refine ((kdeepx_any HA10.out (by omega) HSa.out (HL.out.kept HK10.out)).mono (fun e w' h => DeepXPost.yes h HTA.out)).mono ?_
                  rintro e w11 ⟨rfl, hk⟩
                  have HK11 := Lib.hid (HK10.out.trans hk)
                  have HA11 := Lib.hid (HA10.out.kept hk)
                  have HB11 := Lib.hid (HB10.out.kept hk)
                  have HZ11 := Lib.hid (HZ10.out.kept hk)
                  clear hk HK10 HA10 HB10 HZ10
                  go_wp2_with fail
                  refine ((kdeepx_any HB11.out (by omega) HSb.out (HL.out.kept HK11.out)).mono (fun e w' h => DeepXPost.yes h HTB.out)).mono ?_
                  rintro e w12 ⟨rfl, hk⟩
                  have HK12 := Lib.hid (HK11.out.trans hk)
                  have HA12 := Lib.hid (HA11.out.kept hk)
                  have HB12 := Lib.hid (HB11.out.kept hk)
                  have HZ12 := Lib.hid (HZ11.out.kept hk)
                  clear hk HK11 HA11 HB11 HZ11
                  rcases Nat.lt_trichotomy ta.deep tb.deep with hmx | hmx | hmx
                  · have hdz : (((Ex.bin 4 ta tb).deep : Nat) : Int) = 1 + (tb.deep : Int) := by
                      have : (Ex.bin 4 ta tb).deep = max ta.deep tb.deep + 1 := rfl
                      omega
                    rw [hdz]
                    have m1 : (ta.deep : Int) < (tb.deep : Int) := by omega
                    have m2 : (ta.deep : Int) ≤ (tb.deep : Int) := by omega
                    have m3 : ¬ (tb.deep : Int) < (ta.deep : Int) := by omega
                    have m4 : ¬ (tb.deep : Int) ≤ (ta.deep : Int) := by omega
                    have m5 : max (ta.deep : Int) (tb.deep : Int) = (tb.deep : Int) := by omega
                    clear hdz hmx
                    go_wp2
                    all_goals
                      go_ret
                      exact ⟨rfl, HK12.out⟩
                  · have hdz : (((Ex.bin 4 ta tb).deep : Nat) : Int) = 1 + (tb.deep : Int) := by
                      have : (Ex.bin 4 ta tb).deep = max ta.deep tb.deep + 1 := rfl
                      omega
                    rw [hdz]
                    rw [hmx]
                    clear hdz hmx
                    go_wp2
                    all_goals
                      go_ret
                      exact ⟨rfl, HK12.out⟩
                  · have hdz : (((Ex.bin 4 ta tb).deep : Nat) : Int) = 1 + (ta.deep : Int) := by
                      have : (Ex.bin 4 ta tb).deep = max ta.deep tb.deep + 1 := rfl
                      omega
                    rw [hdz]
                    have m1 : (tb.deep : Int) < (ta.deep : Int) := by omega
                    have m2 : (tb.deep : Int) ≤ (ta.deep : Int) := by omega
                    have m3 : ¬ (ta.deep : Int) < (tb.deep : Int) := by omega
                    have m4 : ¬ (ta.deep : Int) ≤ (tb.deep : Int) := by omega
                    have m5 : max (ta.deep : Int) (tb.deep : Int) = (ta.deep : Int) := by omega
                    clear hdz hmx
                    go_wp2
                    all_goals
                      go_ret
                      exact ⟨rfl, HK12.out⟩
              · have gl1 : ((lb.length : Int) == 1) = false := by rw [beq_eq_false_iff_ne]; omega
                have HTZ : Hid (MayIs ((([] ++ la.map TrmB.tok) ++ lb.map TrmB.tok) ++ [opT 4]) (.bin 4 ta tb)) := Lib.hid (by
                  have h := joins_some HTA.out.1 HTB.out.1 hb5 hno5
                  exact ⟨h.1, by rw [List.nil_append, HTA.out.2.1, HTB.out.2.1]; exact h.2, by simp; omega⟩)
                have HSY : Hid ((toX ((([] ++ la.map TrmB.tok) ++ lb.map TrmB.tok) ++ [opT 4])).length ≤ 1000000 ∧ ∀ t ∈ toX ((([] ++ la.map TrmB.tok) ++ lb.map TrmB.tok) ++ [opT 4]), t.name.size ≤ 1000000) := Lib.hid ⟨by rw [toX_len]; simp; omega, tox_names HTZ.out⟩
                go_wp2_with (at_builtin; go_must (refine list_app rfl (.tmp 48) (.tmp 51) 23 23 rfl Tryd.sliceX rfl (by exact HZ7.out.1) rfl (by exact src_three Tryd.underlying23 (heap_alloc_new _ _) rfl rfl rfl) (by unfold maxLen; simp only [List.length_nil, List.length_append, List.length_map, List.length_cons, List.nil_append]; omega) (by simp only [List.length_nil, List.length_append, List.length_map, List.length_cons, List.nil_append]; omega) (by exact HZ7.out.2.size) ?_; intro v8 w8 hq; have HZ8 : Hid (XPart w3 w8 ((([] ++ la.map TrmB.tok) ++ lb.map TrmB.tok) ++ [opT 4]) v8) := Lib.hid (HZ7.out.app (y := [opT 4]) hq); have HK8 := Lib.hid (HK3.out.trans HZ8.out.2); clear hq; have c0 := (HYC.out w8 HZ8.out.2)))
                have HA8 := Lib.hid (HAK.out w8 HZ8.out.2)
                have HB8 := Lib.hid (HBK.out w8 HZ8.out.2)
                skip
                refine ((kmayx_any HZ8.out.reads HSY.out.1 HSY.out.2 (HL.out.kept HK8.out)).mono (fun e w' h => MayXPost.yes (by rw [toX_tok] at h; exact h) HTZ.out)).mono ?_
                rintro e w9 ⟨rfl, hk⟩
                have HK9 := Lib.hid (HK8.out.trans hk)
                have HA9 := Lib.hid (HA8.out.kept hk)
                have HB9 := Lib.hid (HB8.out.kept hk)
                have HZ9 := Lib.hid (HZ8.out.kept hk)
                clear hk HK8 HA8 HB8 HZ8
                go_wp2_with fail
                refine ((kdeepx_any HZ9.out.reads HSY.out.1 HSY.out.2 (HL.out.kept HK9.out)).mono (fun e w' h => DeepXPost.yes (by rw [toX_tok] at h; exact h) HTZ.out)).mono ?_
                rintro e w10 ⟨rfl, hk⟩
                have HK10 := Lib.hid (HK9.out.trans hk)
                have HA10 := Lib.hid (HA9.out.kept hk)
                have HB10 := Lib.hid (HB9.out.kept hk)
                have HZ10 := Lib.hid (HZ9.out.kept hk)
                clear hk HK9 HA9 HB9 HZ9
                go_wp2_with fail
                refine ((kdeepx_any HA10.out (by omega) HSa.out (HL.out.kept HK10.out)).mono (fun e w' h => DeepXPost.yes h HTA.out)).mono ?_
                rintro e w11 ⟨rfl, hk⟩
                have HK11 := Lib.hid (HK10.out.trans hk)
                have HA11 := Lib.hid (HA10.out.kept hk)
                have HB11 := Lib.hid (HB10.out.kept hk)
                have HZ11 := Lib.hid (HZ10.out.kept hk)
                clear hk HK10 HA10 HB10 HZ10
                go_wp2_with fail
                refine ((kdeepx_any HB11.out (by omega) HSb.out (HL.out.kept HK11.out)).mono (fun e w' h => DeepXPost.yes h HTB.out)).mono ?_
                rintro e w12 ⟨rfl, hk⟩
                have HK12 := Lib.hid (HK11.out.trans hk)
                have HA12 := Lib.hid (HA11.out.kept hk)
                have HB12 := Lib.hid (HB11.out.kept hk)
                have HZ12 := Lib.hid (HZ11.out.kept hk)
                clear hk HK11 HA11 HB11 HZ11
                rcases Nat.lt_trichotomy ta.deep tb.deep with hmx | hmx | hmx
                · have hdz : (((Ex.bin 4 ta tb).deep : Nat) : Int) = 1 + (tb.deep : Int) := by
                    have : (Ex.bin 4 ta tb).deep = max ta.deep tb.deep + 1 := rfl
                    omega
                  rw [hdz]
                  have m1 : (ta.deep : Int) < (tb.deep : Int) := by omega
                  have m2 : (ta.deep : Int) ≤ (tb.deep : Int) := by omega
                  have m3 : ¬ (tb.deep : Int) < (ta.deep : Int) := by omega
                  have m4 : ¬ (tb.deep : Int) ≤ (ta.deep : Int) := by omega
                  have m5 : max (ta.deep : Int) (tb.deep : Int) = (tb.deep : Int) := by omega
                  clear hdz hmx
                  go_wp2
                  all_goals
                    go_ret
                    exact ⟨rfl, HK12.out⟩
                · have hdz : (((Ex.bin 4 ta tb).deep : Nat) : Int) = 1 + (tb.deep : Int) := by
                    have : (Ex.bin 4 ta tb).deep = max ta.deep tb.deep + 1 := rfl
                    omega
                  rw [hdz]
                  rw [hmx]
                  clear hdz hmx
                  go_wp2
                  all_goals
                    go_ret
                    exact ⟨rfl, HK12.out⟩
                · have hdz : (((Ex.bin 4 ta tb).deep : Nat) : Int) = 1 + (ta.deep : Int) := by
                    have : (Ex.bin 4 ta tb).deep = max ta.deep tb.deep + 1 := rfl
                    omega
                  rw [hdz]
                  have m1 : (tb.deep : Int) < (ta.deep : Int) := by omega
                  have m2 : (tb.deep : Int) ≤ (ta.deep : Int) := by omega
                  have m3 : ¬ (ta.deep : Int) < (tb.deep : Int) := by omega
                  have m4 : ¬ (ta.deep : Int) ≤ (tb.deep : Int) := by omega
                  have m5 : max (ta.deep : Int) (tb.deep : Int) = (ta.deep : Int) := by omega
                  clear hdz hmx
                  go_wp2
                  all_goals
                    go_ret
                    exact ⟨rfl, HK12.out⟩
            · have hb5 : bindS 5 ≠ 0 := by decide
              have hH0 : XPart w3 ((w3.alloc (Obj.cells #[.int .i64 2, .int .i64 3, .int .i64 4, .int .i64 5] 3)).alloc (Obj.cells #[] 45)) [] (.slice (some ⟨w3.heap.size + 1, 0, none⟩) 0 0) := ⟨own_new (by have := heap_alloc_new (w3.alloc (Obj.cells #[.int .i64 2, .int .i64 3, .int .i64 4, .int .i64 5] 3)) (Obj.cells #[] 45); rwa [World.size_alloc] at this) (by omega), (Fr.of_alloc _ _ _).trans (Fr.of_alloc _ _ _)⟩
              have H0 := Lib.hid hH0
              have HSA := Lib.hid (readsX_src (P := Tryd.prog) (HA3.out.kept hH0.2) Tryd.underlying23)
              clear hH0
              go_wp2_with (first
                | (at_builtin; refine list_app rfl (.tmp 41) (.tmp 42) 23 23 rfl Tryd.sliceX rfl (by exact H0.out.1) rfl (by exact HSA.out) (by unfold maxLen; simp only [List.length_nil, List.length_append, List.length_map, List.length_cons, List.nil_append]; omega) (by simp only [List.length_nil, List.length_append, List.length_map, List.length_cons, List.nil_append]; omega) (by simp only [World.size_alloc]; omega) ?_; intro v4 w4 hq; have H4 : Hid (XPart w3 w4 ([] ++ la.map TrmB.tok) v4) := Lib.hid (H0.out.app (by rw [tox_map, List.length_map]; exact hq)); clear hq; have HSB := Lib.hid (readsX_src (P := Tryd.prog) (HB3.out.kept H4.out.2) Tryd.underlying23))
                | (at_builtin; go_must (refine list_app rfl (.tmp 43) (.tmp 44) 23 23 rfl Tryd.sliceX rfl (by exact H4.out.1) rfl (by exact HSB.out) (by unfold maxLen; simp only [List.length_nil, List.length_append, List.length_map, List.length_cons, List.nil_append]; omega) (by simp only [List.length_nil, List.length_append, List.length_map, List.length_cons, List.nil_append]; omega) (by exact H4.out.2.size) ?_; intro v5 w5 hq; have HZ5 : Hid (XPart w3 w5 (([] ++ la.map TrmB.tok) ++ lb.map TrmB.tok) v5) := Lib.hid (H4.out.app (by rw [tox_map, List.length_map]; exact hq)); clear hq)))
              have HK5 := Lib.hid (HK3.out.trans HZ5.out.2)
              have HA5 := Lib.hid (HA3.out.kept HZ5.out.2)
              have HB5 := Lib.hid (HB3.out.kept HZ5.out.2)
              clear HA3 HB3 HSA HSB H0 H4
              skip
              refine ((kmayx_any HZ5.out.reads HSZ.out.1 HSZ.out.2 (HL.out.kept HK5.out)).mono (fun e w' h => MayXPost.no (by rw [toX_tok] at h; exact h) HNZ.out)).mono ?_
              rintro e w6 ⟨rfl, hk⟩
              have HK6 := Lib.hid (HK5.out.trans hk)
              have HA6 := Lib.hid (HA5.out.kept hk)
              have HB6 := Lib.hid (HB5.out.kept hk)
              have HZ6 := Lib.hid (HZ5.out.kept hk)
              clear hk HK5 HA5 HB5 HZ5
              have HZ7 := Lib.hid (HZ6.out.kept (Fr.of_alloc _ w6 (Obj.cells #[.int .i64 5, .int .i64 0, .string ⟨#[]⟩] 45)))
              by_cases hl1 : lb.length = 1
              · have gl1 : ((lb.length : Int) == 1) = true := by rw [beq_iff_eq]; omega
                have HL1 := Lib.hid hl1
                clear hl1
                by_cases ho : y0.of = 5
                · have go5 : (y0.of == 5) = true := by simp [ho]
                  have HOO := Lib.hid ho
                  clear ho
                  have HTZ : Hid (MayIs ((([] ++ la.map TrmB.tok) ++ lb.map TrmB.tok) ++ [opT 5]) (.bin 5 ta tb)) := Lib.hid (by
                    have h := joins_some HTA.out.1 HTB.out.1 hb5 (fun _ => HRO.out.2 ⟨HL1.out, HOO.out⟩)
                    exact ⟨h.1, by rw [List.nil_append, HTA.out.2.1, HTB.out.2.1]; exact h.2, by simp; omega⟩)
                  have HSY : Hid ((toX ((([] ++ la.map TrmB.tok) ++ lb.map TrmB.tok) ++ [opT 5])).length ≤ 1000000 ∧ ∀ t ∈ toX ((([] ++ la.map TrmB.tok) ++ lb.map TrmB.tok) ++ [opT 5]), t.name.size ≤ 1000000) := Lib.hid ⟨by rw [toX_len]; simp; omega, tox_names HTZ.out⟩
                  go_wp2_with (at_builtin; go_must (refine list_app rfl (.tmp 48) (.tmp 51) 23 23 rfl Tryd.sliceX rfl (by exact HZ7.out.1) rfl (by exact src_three Tryd.underlying23 (heap_alloc_new _ _) rfl rfl rfl) (by unfold maxLen; simp only [List.length_nil, List.length_append, List.length_map, List.length_cons, List.nil_append]; omega) (by simp only [List.length_nil, List.length_append, List.length_map, List.length_cons, List.nil_append]; omega) (by exact HZ7.out.2.size) ?_; intro v8 w8 hq; have HZ8 : Hid (XPart w3 w8 ((([] ++ la.map TrmB.tok) ++ lb.map TrmB.tok) ++ [opT 5]) v8) := Lib.hid (HZ7.out.app (y := [opT 5]) hq); have HK8 := Lib.hid (HK3.out.trans HZ8.out.2); clear hq; have c0 := (HYC.out w8 HZ8.out.2)))
                  have HA8 := Lib.hid (HAK.out w8 HZ8.out.2)
                  have HB8 := Lib.hid (HBK.out w8 HZ8.out.2)
                  skip
                  refine ((kmayx_any HZ8.out.reads HSY.out.1 HSY.out.2 (HL.out.kept HK8.out)).mono (fun e w' h => MayXPost.yes (by rw [toX_tok] at h; exact h) HTZ.out)).mono ?_
                  rintro e w9 ⟨rfl, hk⟩
                  have HK9 := Lib.hid (HK8.out.trans hk)
                  have HA9 := Lib.hid (HA8.out.kept hk)
                  have HB9 := Lib.hid (HB8.out.kept hk)
                  have HZ9 := Lib.hid (HZ8.out.kept hk)
                  clear hk HK8 HA8 HB8 HZ8
                  go_wp2_with fail
                  refine ((kdeepx_any HZ9.out.reads HSY.out.1 HSY.out.2 (HL.out.kept HK9.out)).mono (fun e w' h => DeepXPost.yes (by rw [toX_tok] at h; exact h) HTZ.out)).mono ?_
                  rintro e w10 ⟨rfl, hk⟩
                  have HK10 := Lib.hid (HK9.out.trans hk)
                  have HA10 := Lib.hid (HA9.out.kept hk)
                  have HB10 := Lib.hid (HB9.out.kept hk)
                  have HZ10 := Lib.hid (HZ9.out.kept hk)
                  clear hk HK9 HA9 HB9 HZ9
                  go_wp2_with fail
                  refine ((kdeepx_any HA10.out (by omega) HSa.out (HL.out.kept HK10.out)).mono (fun e w' h => DeepXPost.yes h HTA.out)).mono ?_
                  rintro e w11 ⟨rfl, hk⟩
                  have HK11 := Lib.hid (HK10.out.trans hk)
                  have HA11 := Lib.hid (HA10.out.kept hk)
                  have HB11 := Lib.hid (HB10.out.kept hk)
                  have HZ11 := Lib.hid (HZ10.out.kept hk)
                  clear hk HK10 HA10 HB10 HZ10
                  go_wp2_with fail
                  refine ((kdeepx_any HB11.out (by omega) HSb.out (HL.out.kept HK11.out)).mono (fun e w' h => DeepXPost.yes h HTB.out)).mono ?_
                  rintro e w12 ⟨rfl, hk⟩
                  have HK12 := Lib.hid (HK11.out.trans hk)
                  have HA12 := Lib.hid (HA11.out.kept hk)
                  have HB12 := Lib.hid (HB11.out.kept hk)
                  have HZ12 := Lib.hid (HZ11.out.kept hk)
                  clear hk HK11 HA11 HB11 HZ11
                  rcases Nat.lt_trichotomy ta.deep tb.deep with hmx | hmx | hmx
                  · have hdz : (((Ex.bin 5 ta tb).deep : Nat) : Int) = 1 + (tb.deep : Int) := by
                      have : (Ex.bin 5 ta tb).deep = max ta.deep tb.deep + 1 := rfl
                      omega
                    rw [hdz]
                    have m1 : (ta.deep : Int) < (tb.deep : Int) := by omega
                    have m2 : (ta.deep : Int) ≤ (tb.deep : Int) := by omega
                    have m3 : ¬ (tb.deep : Int) < (ta.deep : Int) := by omega
                    have m4 : ¬ (tb.deep : Int) ≤ (ta.deep : Int) := by omega
                    have m5 : max (ta.deep : Int) (tb.deep : Int) = (tb.deep : Int) := by omega
                    clear hdz hmx
                    go_wp2
                    all_goals
                      go_ret
                      exact ⟨rfl, HK12.out⟩
                  · have hdz : (((Ex.bin 5 ta tb).deep : Nat) : Int) = 1 + (tb.deep : Int) := by
                      have : (Ex.bin 5 ta tb).deep = max ta.deep tb.deep + 1 := rfl
                      omega
                    rw [hdz]
                    rw [hmx]
                    clear hdz hmx
                    go_wp2
                    all_goals
                      go_ret
                      exact ⟨rfl, HK12.out⟩
                  · have hdz : (((Ex.bin 5 ta tb).deep : Nat) : Int) = 1 + (ta.deep : Int) := by
                      have : (Ex.bin 5 ta tb).deep = max ta.deep tb.deep + 1 := rfl
                      omega
                    rw [hdz]
                    have m1 : (tb.deep : Int) < (ta.deep : Int) := by omega
                    have m2 : (tb.deep : Int) ≤ (ta.deep : Int) := by omega
                    have m3 : ¬ (ta.deep : Int) < (tb.deep : Int) := by omega
                    have m4 : ¬ (ta.deep : Int) ≤ (tb.deep : Int) := by omega
                    have m5 : max (ta.deep : Int) (tb.deep : Int) = (ta.deep : Int) := by omega
                    clear hdz hmx
                    go_wp2
                    all_goals
                      go_ret
                      exact ⟨rfl, HK12.out⟩
                · have go5 : (y0.of == 5) = false := by simp [ho]
                  have hnr : ¬ ∃ t, tb = .atom t ∧ t.of = 5 := fun h => ho (HRO.out.1 h).2
                  have HNZ2 : Hid (∀ t, ¬ MayIs ((([] ++ la.map TrmB.tok) ++ lb.map TrmB.tok) ++ [opT 5]) t) := Lib.hid (fun t h => joins_wrong HTA.out.1 HTB.out.1 h.1 hnr (by rw [← h.2.1, List.nil_append, ← HTA.out.2.1, ← HTB.out.2.1]))
                  have HSY : Hid ((toX ((([] ++ la.map TrmB.tok) ++ lb.map TrmB.tok) ++ [opT 5])).length ≤ 1000000 ∧ ∀ t ∈ toX ((([] ++ la.map TrmB.tok) ++ lb.map TrmB.tok) ++ [opT 5]), t.name.size ≤ 1000000) := Lib.hid ⟨by rw [toX_len]; simp; omega, fun t ht => by
                    rw [toX_append] at ht
                    rcases List.mem_append.1 ht with ht | ht
                    · exact HSZ.out.2 t ht
                    · simp [toX, opT] at ht
                      subst ht
                      decide⟩
                  go_wp2_with (at_builtin; go_must (refine list_app rfl (.tmp 48) (.tmp 51) 23 23 rfl Tryd.sliceX rfl (by exact HZ7.out.1) rfl (by exact src_three Tryd.underlying23 (heap_alloc_new _ _) rfl rfl rfl) (by unfold maxLen; simp only [List.length_nil, List.length_append, List.length_map, List.length_cons, List.nil_append]; omega) (by simp only [List.length_nil, List.length_append, List.length_map, List.length_cons, List.nil_append]; omega) (by exact HZ7.out.2.size) ?_; intro v8 w8 hq; have HZ8 : Hid (XPart w3 w8 ((([] ++ la.map TrmB.tok) ++ lb.map TrmB.tok) ++ [opT 5]) v8) := Lib.hid (HZ7.out.app (y := [opT 5]) hq); have HK8 := Lib.hid (HK3.out.trans HZ8.out.2); clear hq; have c0 := (HYC.out w8 HZ8.out.2)))
                  have HA8 := Lib.hid (HAK.out w8 HZ8.out.2)
                  have HB8 := Lib.hid (HBK.out w8 HZ8.out.2)
                  skip
                  refine ((kmayx_any HZ8.out.reads HSY.out.1 HSY.out.2 (HL.out.kept HK8.out)).mono (fun e w' h => MayXPost.no (by rw [toX_tok] at h; exact h) HNZ2.out)).mono ?_
                  rintro e w9 ⟨rfl, hk⟩
                  have HK9 := Lib.hid (HK8.out.trans hk)
                  have HA9 := Lib.hid (HA8.out.kept hk)
                  have HB9 := Lib.hid (HB8.out.kept hk)
                  have HZ9 := Lib.hid (HZ8.out.kept hk)
                  clear hk HK8 HA8 HB8 HZ8
                  go_wp2_with fail
                  refine ((kdeepx_any HZ9.out.reads HSY.out.1 HSY.out.2 (HL.out.kept HK9.out)).mono (fun e w' h => DeepXPost.no (by rw [toX_tok] at h; exact h) HNZ2.out)).mono ?_
                  rintro e w10 ⟨rfl, hk⟩
                  have HK10 := Lib.hid (HK9.out.trans hk)
                  have HA10 := Lib.hid (HA9.out.kept hk)
                  have HB10 := Lib.hid (HB9.out.kept hk)
                  have HZ10 := Lib.hid (HZ9.out.kept hk)
                  clear hk HK9 HA9 HB9 HZ9
                  go_wp2
                  go_ret
                  exact ⟨rfl, HK10.out⟩
              · have gl1 : ((lb.length : Int) == 1) = false := by rw [beq_eq_false_iff_ne]; omega
                have hnr : ¬ ∃ t, tb = .atom t ∧ t.of = 5 := fun h => hl1 (HRO.out.1 h).1
                have HNZ2 : Hid (∀ t, ¬ MayIs ((([] ++ la.map TrmB.tok) ++ lb.map TrmB.tok) ++ [opT 5]) t) := Lib.hid (fun t h => joins_wrong HTA.out.1 HTB.out.1 h.1 hnr (by rw [← h.2.1, List.nil_append, ← HTA.out.2.1, ← HTB.out.2.1]))
                have HSY : Hid ((toX ((([] ++ la.map TrmB.tok) ++ lb.map TrmB.tok) ++ [opT 5])).length ≤ 1000000 ∧ ∀ t ∈ toX ((([] ++ la.map TrmB.tok) ++ lb.map TrmB.tok) ++ [opT 5]), t.name.size ≤ 1000000) := Lib.hid ⟨by rw [toX_len]; simp; omega, fun t ht => by
                  rw [toX_append] at ht
                  rcases List.mem_append.1 ht with ht | ht
                  · exact HSZ.out.2 t ht
                  · simp [toX, opT] at ht
                    subst ht
                    decide⟩
                go_wp2_with (at_builtin; go_must (refine list_app rfl (.tmp 48) (.tmp 51) 23 23 rfl Tryd.sliceX rfl (by exact HZ7.out.1) rfl (by exact src_three Tryd.underlying23 (heap_alloc_new _ _) rfl rfl rfl) (by unfold maxLen; simp only [List.length_nil, List.length_append, List.length_map, List.length_cons, List.nil_append]; omega) (by simp only [List.length_nil, List.length_append, List.length_map, List.length_cons, List.nil_append]; omega) (by exact HZ7.out.2.size) ?_; intro v8 w8 hq; have HZ8 : Hid (XPart w3 w8 ((([] ++ la.map TrmB.tok) ++ lb.map TrmB.tok) ++ [opT 5]) v8) := Lib.hid (HZ7.out.app (y := [opT 5]) hq); have HK8 := Lib.hid (HK3.out.trans HZ8.out.2); clear hq; have c0 := (HYC.out w8 HZ8.out.2)))
                have HA8 := Lib.hid (HAK.out w8 HZ8.out.2)
                have HB8 := Lib.hid (HBK.out w8 HZ8.out.2)
                skip
                refine ((kmayx_any HZ8.out.reads HSY.out.1 HSY.out.2 (HL.out.kept HK8.out)).mono (fun e w' h => MayXPost.no (by rw [toX_tok] at h; exact h) HNZ2.out)).mono ?_
                rintro e w9 ⟨rfl, hk⟩
                have HK9 := Lib.hid (HK8.out.trans hk)
                have HA9 := Lib.hid (HA8.out.kept hk)
                have HB9 := Lib.hid (HB8.out.kept hk)
                have HZ9 := Lib.hid (HZ8.out.kept hk)
                clear hk HK8 HA8 HB8 HZ8
                go_wp2_with fail
                refine ((kdeepx_any HZ9.out.reads HSY.out.1 HSY.out.2 (HL.out.kept HK9.out)).mono (fun e w' h => DeepXPost.no (by rw [toX_tok] at h; exact h) HNZ2.out)).mono ?_
                rintro e w10 ⟨rfl, hk⟩
                have HK10 := Lib.hid (HK9.out.trans hk)
                have HA10 := Lib.hid (HA9.out.kept hk)
                have HB10 := Lib.hid (HB9.out.kept hk)
                have HZ10 := Lib.hid (HZ9.out.kept hk)
                clear hk HK9 HA9 HB9 HZ9
                go_wp2
                go_ret
                exact ⟨rfl, HK10.out⟩
        · have HNO : Hid (∀ t, ¬ MayIs (lb.map TrmB.tok) t) := Lib.hid (fun t ht => hno ⟨t, ht⟩)
          clear hno
          go_enter Tryd.func8, Tryd.ntmps8
          go_wp2_with fail
          refine (kawakex_any _ HL.out).mono ?_
          rintro e w1 ⟨rfl, hk1⟩
          have HK1 := Lib.hid hk1
          have HA1 := Lib.hid (HA.out.kept hk1)
          have HB1 := Lib.hid (HB.out.kept hk1)
          clear hk1
          go_wp2_with fail
          refine (klargex_any HA1.out (by omega)).mono ?_
          rintro e w' ⟨rfl, rfl⟩
          rw [hlga]
          go_wp2_with fail
          refine (klargex_any HB1.out (by omega)).mono ?_
          rintro e w' ⟨rfl, rfl⟩
          rw [hlgb]
          go_wp2_with fail
          refine ((kmayx_any HA1.out (by omega) HSa.out (HL.out.kept HK1.out)).mono (fun e w' h => MayXPost.yes h HTA.out)).mono ?_
          rintro e w2 ⟨rfl, hk⟩
          have HK2 := Lib.hid (HK1.out.trans hk)
          have HA2 := Lib.hid (HA1.out.kept hk)
          have HB2 := Lib.hid (HB1.out.kept hk)
          clear hk HK1 HA1 HB1
          go_wp2_with fail
          refine ((kmayx_any HB2.out (by omega) HSb.out (HL.out.kept HK2.out)).mono (fun e w' h => MayXPost.no h HNO.out)).mono ?_
          rintro e w3 ⟨rfl, hk⟩
          have HK3 := Lib.hid (HK2.out.trans hk)
          have HA3 := Lib.hid (HA2.out.kept hk)
          have HB3 := Lib.hid (HB2.out.kept hk)
          clear hk HK2 HA2 HB2
          go_wp2
          go_ret
          exact ⟨rfl, HK3.out⟩
      · have HNO : Hid (∀ t, ¬ MayIs (la.map TrmB.tok) t) := Lib.hid (fun t ht => hno ⟨t, ht⟩)
        clear hno
        go_enter Tryd.func8, Tryd.ntmps8
        go_wp2_with fail
        refine (kawakex_any _ HL.out).mono ?_
        rintro e w1 ⟨rfl, hk1⟩
        have HK1 := Lib.hid hk1
        have HA1 := Lib.hid (HA.out.kept hk1)
        have HB1 := Lib.hid (HB.out.kept hk1)
        clear hk1
        go_wp2_with fail
        refine (klargex_any HA1.out (by omega)).mono ?_
        rintro e w' ⟨rfl, rfl⟩
        rw [hlga]
        go_wp2_with fail
        refine (klargex_any HB1.out (by omega)).mono ?_
        rintro e w' ⟨rfl, rfl⟩
        rw [hlgb]
        go_wp2_with fail
        refine ((kmayx_any HA1.out (by omega) HSa.out (HL.out.kept HK1.out)).mono (fun e w' h => MayXPost.no h HNO.out)).mono ?_
        rintro e w2 ⟨rfl, hk⟩
        have HK2 := Lib.hid (HK1.out.trans hk)
        have HA2 := Lib.hid (HA1.out.kept hk)
        have HB2 := Lib.hid (HB1.out.kept hk)
        clear hk HK1 HA1 HB1
        go_wp2
        go_ret
        exact ⟨rfl, HK2.out⟩
    · go_enter Tryd.func8, Tryd.ntmps8
      go_wp2_with fail
      refine (kawakex_any _ HL.out).mono ?_
      rintro e w1 ⟨rfl, hk1⟩
      have HK1 := Lib.hid hk1
      have HA1 := Lib.hid (HA.out.kept hk1)
      have HB1 := Lib.hid (HB.out.kept hk1)
      clear hk1
      go_wp2_with fail
      refine (klargex_any HA1.out (by omega)).mono ?_
      rintro e w' ⟨rfl, rfl⟩
      rw [hlga]
      go_wp2_with fail
      refine (klargex_any HB1.out (by omega)).mono ?_
      rintro e w' ⟨rfl, rfl⟩
      rw [hlgb]
      go_wp2
      go_ret
      exact ⟨rfl, HK1.out⟩
  · go_enter Tryd.func8, Tryd.ntmps8
    go_wp2_with fail
    refine (kawakex_any _ HL.out).mono ?_
    rintro e w1 ⟨rfl, hk1⟩
    have HK1 := Lib.hid hk1
    have HA1 := Lib.hid (HA.out.kept hk1)
    have HB1 := Lib.hid (HB.out.kept hk1)
    clear hk1
    go_wp2_with fail
    refine (klargex_any HA1.out (by omega)).mono ?_
    rintro e w' ⟨rfl, rfl⟩
    rw [hlga]
    go_wp2
    go_ret
    exact ⟨rfl, HK1.out⟩

end Go.Proofs.YtdapdpmplbifdaaDoor
