/- Contracts and lemmas: Aw -/
import Derived.Test.YtdapdpmplbifdaaDoorK13
namespace Go.Proofs.YtdapdpmplbifdaaDoor
set_option linter.unusedVariables false
set_option linter.unusedSimpArgs false
open Go.RowKit Go.ChangeShapes Go.WideShapes
theorem awx_all1 : allS [97, 32, 97, 110, 100, 32, 98, 124, 99, 32, 97, 115, 32, 114, 111, 108, 101, 58, 114] = .ok [(⟨1, [97], 3⟩, 0), (⟨2, [], 0⟩, 2), (⟨1, [98], 3⟩, 6), (⟨4, [], 0⟩, 7), (⟨1, [99], 3⟩, 8), (⟨5, [], 0⟩, 10), (⟨1, [114], 5⟩, 13)] := by
  unfold allS
  rw [if_neg (by decide)]
  exact run_ok (nt' := false) (⟨[], [32, 97, 110, 100, 32, 98, 124, 99, 32, 97, 115, 32, 114, 111, 108, 101, 58, 114], by decide, rfl, rfl, by decide, (by first | (intro _; decide) | (intro h; exact absurd h (by decide))), ⟨[32], [32, 98, 124, 99, 32, 97, 115, 32, 114, 111, 108, 101, 58, 114], by decide, rfl, rfl, by decide, (by first | (intro _; decide) | (intro h; exact absurd h (by decide))), ⟨[32], [124, 99, 32, 97, 115, 32, 114, 111, 108, 101, 58, 114], by decide, rfl, rfl, by decide, (by first | (intro _; decide) | (intro h; exact absurd h (by decide))), ⟨[], [99, 32, 97, 115, 32, 114, 111, 108, 101, 58, 114], by decide, rfl, rfl, by decide, (by first | (intro _; decide) | (intro h; exact absurd h (by decide))), ⟨[], [32, 97, 115, 32, 114, 111, 108, 101, 58, 114], by decide, rfl, rfl, by decide, (by first | (intro _; decide) | (intro h; exact absurd h (by decide))), ⟨[32], [32, 114, 111, 108, 101, 58, 114], by decide, rfl, rfl, by decide, (by first | (intro _; decide) | (intro h; exact absurd h (by decide))), ⟨[32], [], by decide, rfl, rfl, by decide, (by first | (intro _; decide) | (intro h; exact absurd h (by decide))), rfl⟩⟩⟩⟩⟩⟩⟩) (by decide)
theorem awx_all2 : allS [97, 32, 97, 110, 100, 32, 97, 110, 100] = .ok [(⟨1, [97], 3⟩, 0), (⟨2, [], 0⟩, 2), (⟨2, [], 0⟩, 6)] := by
  unfold allS
  rw [if_neg (by decide)]
  exact run_ok (nt' := false) (⟨[], [32, 97, 110, 100, 32, 97, 110, 100], by decide, rfl, rfl, by decide, (by first | (intro _; decide) | (intro h; exact absurd h (by decide))), ⟨[32], [32, 97, 110, 100], by decide, rfl, rfl, by decide, (by first | (intro _; decide) | (intro h; exact absurd h (by decide))), ⟨[32], [], by decide, rfl, rfl, by decide, (by first | (intro _; decide) | (intro h; exact absurd h (by decide))), rfl⟩⟩⟩) (by decide)
theorem awx_all3 : allS [97, 32, 102, 111, 114, 32, 40, 98, 32, 102, 111, 114, 32, 99, 41] = .ok [(⟨1, [97], 3⟩, 0), (⟨3, [], 0⟩, 2), (⟨6, [], 0⟩, 6), (⟨1, [98], 3⟩, 7), (⟨3, [], 0⟩, 9), (⟨1, [99], 3⟩, 13), (⟨7, [], 0⟩, 14)] := by
  unfold allS
  rw [if_neg (by decide)]
  exact run_ok (nt' := false) (⟨[], [32, 102, 111, 114, 32, 40, 98, 32, 102, 111, 114, 32, 99, 41], by decide, rfl, rfl, by decide, (by first | (intro _; decide) | (intro h; exact absurd h (by decide))), ⟨[32], [32, 40, 98, 32, 102, 111, 114, 32, 99, 41], by decide, rfl, rfl, by decide, (by first | (intro _; decide) | (intro h; exact absurd h (by decide))), ⟨[32], [98, 32, 102, 111, 114, 32, 99, 41], by decide, rfl, rfl, by decide, (by first | (intro _; decide) | (intro h; exact absurd h (by decide))), ⟨[], [32, 102, 111, 114, 32, 99, 41], by decide, rfl, rfl, by decide, (by first | (intro _; decide) | (intro h; exact absurd h (by decide))), ⟨[32], [32, 99, 41], by decide, rfl, rfl, by decide, (by first | (intro _; decide) | (intro h; exact absurd h (by decide))), ⟨[32], [41], by decide, rfl, rfl, by decide, (by first | (intro _; decide) | (intro h; exact absurd h (by decide))), ⟨[], [], by decide, rfl, rfl, by decide, (by first | (intro _; decide) | (intro h; exact absurd h (by decide))), rfl⟩⟩⟩⟩⟩⟩⟩) (by decide)
def awP1 : PT := .bin 2 (.atom ⟨1, [97], 3⟩) (.bin 4 (.atom ⟨1, [98], 3⟩) (.bin 5 (.atom ⟨1, [99], 3⟩) (.atom ⟨1, [114], 5⟩)))
def awP3 : PT := .bin 3 (.atom ⟨1, [97], 3⟩) (.par (.bin 3 (.atom ⟨1, [98], 3⟩) (.atom ⟨1, [99], 3⟩)))
theorem awP1_ok : awP1.Ok := ⟨by decide, by decide, by decide, ⟨rfl, by decide⟩, ⟨by decide, by decide, by decide, ⟨rfl, by decide⟩, ⟨by decide, by decide, by decide, ⟨rfl, by decide⟩, ⟨rfl, by decide⟩, fun _ => ⟨_, rfl, rfl⟩⟩, fun h => absurd h (by decide)⟩, fun h => absurd h (by decide)⟩
theorem awP3_ok : awP3.Ok := ⟨by decide, by decide, by decide, ⟨rfl, by decide⟩, ⟨by decide, by decide, by decide, ⟨rfl, by decide⟩, ⟨rfl, by decide⟩, fun h => absurd h (by decide)⟩, fun h => absurd h (by decide)⟩
theorem aw_parse1 : ParseIs [97, 32, 97, 110, 100, 32, 98, 124, 99, 32, 97, 115, 32, 114, 111, 108, 101, 58, 114] awP1.ex.post 0 0 := parse_tree (t := awP1) awx_all1 rfl awP1_ok (by decide) (by decide)
theorem aw_parse3 : ParseIs [97, 32, 102, 111, 114, 32, 40, 98, 32, 102, 111, 114, 32, 99, 41] awP3.ex.post 0 0 := parse_tree (t := awP3) awx_all3 rfl awP3_ok (by decide) (by decide)
theorem aw_parse2 : ParseIs [97, 32, 97, 110, 100, 32, 97, 110, 100] [] 6 2 := .inr ⟨_, 2, awx_all2, .inr (.inl ⟨by decide, by decide, rfl⟩), rfl⟩
theorem aw_text1 : strOf (textE awP1.ex) = ⟨#[97, 32, 97, 110, 100, 32, 98, 32, 124, 32, 99, 32, 97, 115, 32, 114, 111, 108, 101, 58, 114]⟩ := by decide
theorem aw_text3 : strOf (textE awP3.ex) = ⟨#[97, 32, 102, 111, 114, 32, 40, 32, 98, 32, 102, 111, 114, 32, 99, 32, 41]⟩ := by decide
theorem aw_may1 : MayIs awP1.ex.post awP1.ex := ⟨PT.ex_ok awP1_ok, rfl, by decide⟩
theorem aw_may3 : MayIs awP3.ex.post awP3.ex := ⟨PT.ex_ok awP3_ok, rfl, by decide⟩
theorem MayIs.unique {x : List Tok} {t t' : Ex} (h : MayIs x t) (h' : MayIs x t') : t = t' := (EndIs.unique (x := x) (p := []) (p' := []) ⟨h.1, by rw [h.2.1]; rfl⟩ ⟨h'.1, by rw [h'.2.1]; rfl⟩).2
theorem may_nil (t : Ex) : ¬ MayIs [] t := fun h => absurd h.2.1.symm t.post_ne
theorem MayXPost.yes {x : List Tok} {t : Ex} {w w' : World} {e : Ending} (h : MayXPost x w e w') (ht : MayIs x t) : KeptPost (.bool true) w e w' := by
  rcases h with ⟨h1, ⟨t', h2, rfl⟩ | ⟨h2, _⟩⟩
  · exact ⟨rfl, h1⟩
  · exact absurd ht (h2 t)
theorem MayXPost.no {x : List Tok} {w w' : World} {e : Ending} (h : MayXPost x w e w') (ht : ∀ t, ¬ MayIs x t) : KeptPost (.bool false) w e w' := by
  rcases h with ⟨h1, ⟨t', h2, rfl⟩ | ⟨h2, rfl⟩⟩
  · exact absurd h2 (ht t')
  · exact ⟨rfl, h1⟩
theorem TextXPost.yes {x : List Tok} {t : Ex} {w w' : World} {e : Ending} (h : TextXPost x w e w') (ht : MayIs x t) : KeptPost (.tuple #[.string (strOf (textE t)), .int .i64 0]) w e w' := by
  rcases h with ⟨h1, ⟨t', h2, rfl⟩ | ⟨h2, _⟩⟩
  · rw [ht.unique h2]; exact ⟨rfl, h1⟩
  · exact absurd ht (h2 t)
theorem TextXPost.no {x : List Tok} {w w' : World} {e : Ending} (h : TextXPost x w e w') (ht : ∀ t, ¬ MayIs x t) : KeptPost (.tuple #[.string ⟨#[]⟩, .int .i64 2]) w e w' := by
  rcases h with ⟨h1, ⟨t', h2, rfl⟩ | ⟨h2, rfl⟩⟩
  · exact absurd h2 (ht t')
  · exact ⟨rfl, h1⟩
theorem DeepXPost.yes {x : List Tok} {t : Ex} {w w' : World} {e : Ending} (h : DeepXPost x w e w') (ht : MayIs x t) : KeptPost (.int .i64 (t.deep : Int)) w e w' := by
  rcases h with ⟨h1, ⟨t', h2, rfl⟩ | ⟨h2, _⟩⟩
  · rw [ht.unique h2]; exact ⟨rfl, h1⟩
  · exact absurd ht (h2 t)
theorem DeepXPost.no {x : List Tok} {w w' : World} {e : Ending} (h : DeepXPost x w e w') (ht : ∀ t, ¬ MayIs x t) : KeptPost (.int .i64 0) w e w' := by
  rcases h with ⟨h1, ⟨t', h2, rfl⟩ | ⟨h2, rfl⟩⟩
  · exact absurd h2 (ht t')
  · exact ⟨rfl, h1⟩
set_option maxRecDepth 20000 in
set_option maxHeartbeats 4000000 in
theorem kawakex_any (w : World) (hL : LaidT w) : Calls Tryd.prog 10 #[] w (KeptPost (.bool true) w) := by
  have HL := Lib.hid hL
  clear hL
  obtain ⟨L1, hL1⟩ : ∃ l, l = toX awP1.ex.post := ⟨_, rfl⟩
  obtain ⟨L3, hL3⟩ : ∃ l, l = toX awP3.ex.post := ⟨_, rfl⟩
  have HL1 := Lib.hid hL1
  have hm1 : L1.map TrmB.tok = awP1.ex.post := by rw [hL1, toX_tok]
  have hm3 : L3.map TrmB.tok = awP3.ex.post := by rw [hL3, toX_tok]
  have hl1 : L1.length = 7 := by rw [hL1]; rfl
  have hl3 : L3.length ≤ 1000000 := by rw [hL3]; decide
  have hs1 : ∀ t ∈ L1, t.name.size ≤ 1000000 := by rw [hL1]; decide
  have hs3 : ∀ t ∈ L3, t.name.size ≤ 1000000 := by rw [hL3]; decide
  have HA1 : Hid (∀ W, LaidT W → Calls Tryd.prog 11 #[.string ⟨#[97, 32, 97, 110, 100, 32, 98, 124, 99, 32, 97, 115, 32, 114, 111, 108, 101, 58, 114]⟩] W fun e w' => ∃ v, e = .returned (.tuple #[v, .int .i64 0, .int .i64 0]) ∧ ReadsX w' v L1 ∧ Kept W w') := Lib.hid (fun W hW => (kparse_any ⟨#[97, 32, 97, 110, 100, 32, 98, 124, 99, 32, 97, 115, 32, 114, 111, 108, 101, 58, 114]⟩ W (by decide) hW).mono (fun e w' h => by
    obtain ⟨v, x, n, q, he, hi, hr, hk⟩ := h
    obtain ⟨rfl, rfl, rfl⟩ := hi.unique aw_parse1
    exact ⟨v, he, by rw [hL1]; exact hr, hk⟩))
  have HA2 : Hid (∀ W, LaidT W → Calls Tryd.prog 11 #[.string ⟨#[97, 32, 97, 110, 100, 32, 97, 110, 100]⟩] W fun e w' => ∃ v, e = .returned (.tuple #[v, .int .i64 6, .int .i64 2]) ∧ Kept W w') := Lib.hid (fun W hW => (kparse_any ⟨#[97, 32, 97, 110, 100, 32, 97, 110, 100]⟩ W (by decide) hW).mono (fun e w' h => by
    obtain ⟨v, x, n, q, he, hi, hr, hk⟩ := h
    obtain ⟨rfl, rfl, rfl⟩ := hi.unique aw_parse2
    exact ⟨v, he, hk⟩))
  have HA3 : Hid (∀ W, LaidT W → Calls Tryd.prog 11 #[.string ⟨#[97, 32, 102, 111, 114, 32, 40, 98, 32, 102, 111, 114, 32, 99, 41]⟩] W fun e w' => ∃ v, e = .returned (.tuple #[v, .int .i64 0, .int .i64 0]) ∧ ReadsX w' v L3 ∧ Kept W w') := Lib.hid (fun W hW => (kparse_any ⟨#[97, 32, 102, 111, 114, 32, 40, 98, 32, 102, 111, 114, 32, 99, 41]⟩ W (by decide) hW).mono (fun e w' h => by
    obtain ⟨v, x, n, q, he, hi, hr, hk⟩ := h
    obtain ⟨rfl, rfl, rfl⟩ := hi.unique aw_parse3
    exact ⟨v, he, by rw [hL3]; exact hr, hk⟩))
  have HT1 : Hid (∀ W v, LaidT W → ReadsX W v L1 → Calls Tryd.prog 17 #[v] W (KeptPost (.tuple #[.string ⟨#[97, 32, 97, 110, 100, 32, 98, 32, 124, 32, 99, 32, 97, 115, 32, 114, 111, 108, 101, 58, 114]⟩, .int .i64 0]) W)) := Lib.hid (fun W v hW hr => (ktextx_any hr (by omega) hs1 hW).mono (fun e w' h => by rw [hm1] at h; rw [← aw_text1]; exact h.yes aw_may1))
  have HT3 : Hid (∀ W v, LaidT W → ReadsX W v L3 → Calls Tryd.prog 17 #[v] W (KeptPost (.tuple #[.string ⟨#[97, 32, 102, 111, 114, 32, 40, 32, 98, 32, 102, 111, 114, 32, 99, 32, 41]⟩, .int .i64 0]) W)) := Lib.hid (fun W v hW hr => (ktextx_any hr hl3 hs3 hW).mono (fun e w' h => by rw [hm3] at h; rw [← aw_text3]; exact h.yes aw_may3))
  have HM1 : Hid (∀ W v, LaidT W → ReadsX W v L1 → Calls Tryd.prog 19 #[v] W (KeptPost (.bool true) W)) := Lib.hid (fun W v hW hr => (kmayx_any hr (by omega) hs1 hW).mono (fun e w' h => by rw [hm1] at h; exact h.yes aw_may1))
  have HM0 : Hid (∀ W, LaidT W → Calls Tryd.prog 19 #[.slice none 0 0] W (KeptPost (.bool false) W)) := Lib.hid (fun W hW => (kmayx_any (readsX_nil W) (by decide) (by decide) hW).mono (fun e w' h => h.no may_nil))
  have HD1 : Hid (∀ W v, LaidT W → ReadsX W v L1 → Calls Tryd.prog 21 #[v] W (KeptPost (.int .i64 4) W)) := Lib.hid (fun W v hW hr => (kdeepx_any hr (by omega) hs1 hW).mono (fun e w' h => by rw [hm1] at h; exact h.yes aw_may1))
  have h4 : L1[4]? = some (⟨5, 0, ⟨#[]⟩⟩ : TrmB) := by rw [hL1]; rfl
  have h6 : L1[6]? = some (⟨2, 0, ⟨#[]⟩⟩ : TrmB) := by rw [hL1]; rfl
  have H4 := Lib.hid h4
  have H6 := Lib.hid h6
  clear hL1 hL3 hm1 hm3 hl3 hs1 hs3 h4 h6
  go_enter Tryd.func10, Tryd.ntmps10
  go_wp2_with fail
  refine (HA1.out _ HL.out).mono ?_
  rintro e w1 ⟨v1, rfl, hr1, hk1⟩
  have HR1 := Lib.hid hr1
  have HK1 := Lib.hid hk1
  clear hr1 hk1 HA1
  go_wp2_with fail
  refine (HT1.out _ _ (HL.out.kept HK1.out) HR1.out).mono ?_
  rintro e w2 ⟨rfl, hk2⟩
  have HK2 := Lib.hid (HK1.out.trans hk2)
  have HR2 := Lib.hid (HR1.out.kept hk2)
  clear hk2 HT1 HR1 HK1
  go_wp2_with fail
  refine (HA2.out _ (HL.out.kept HK2.out)).mono ?_
  rintro e w3 ⟨v3, rfl, hk3⟩
  have HK3 := Lib.hid (HK2.out.trans hk3)
  have HR3 := Lib.hid (HR2.out.kept hk3)
  clear hk3 HA2 HR2 HK2
  go_wp2_with fail
  refine (HA3.out _ (HL.out.kept HK3.out)).mono ?_
  rintro e w4 ⟨v4, rfl, hr4, hk4⟩
  have HK4 := Lib.hid (HK3.out.trans hk4)
  have HR4 := Lib.hid (HR3.out.kept hk4)
  have HY4 := Lib.hid hr4
  clear hk4 HA3 HR3 HK3 hr4
  go_wp2_with fail
  refine (HT3.out _ _ (HL.out.kept HK4.out) HY4.out).mono ?_
  rintro e w5 ⟨rfl, hk5⟩
  have HK5 := Lib.hid (HK4.out.trans hk5)
  have HR5 := Lib.hid (HR4.out.kept hk5)
  clear hk5 HT3 HR4 HY4 HK4
  have hr5 := HR5.out
  obtain ⟨ao, c, rfl, hc, hcells⟩ := hr5
  obtain ⟨g, off, rfl, a0, a1, a2⟩ := hcells 4 _ H4.out
  obtain ⟨g', off', hao, b0, b1, b2⟩ := hcells 6 _ H6.out
  cases hao
  clear hcells
  have HN1 : Hid (∀ W, Kept w5 W → ReadsX W (.slice (some ⟨g, off, none⟩) 7 c) L1) := Lib.hid (fun W hW => by have h := HR5.out.kept hW; rwa [hl1] at h)
  rw [hl1] at hc ⊢
  clear hl1 HR5
  go_wp2_with fail
  refine (HM1.out _ _ (HL.out.kept HK5.out) (HN1.out _ (Fr.refl _ _))).mono ?_
  rintro e w6 ⟨rfl, hk6⟩
  have HK6 := Lib.hid (HK5.out.trans hk6)
  have HQ6 := Lib.hid hk6
  clear hk6 HM1
  go_wp2_with fail
  refine (HM0.out _ (HL.out.kept HK6.out)).mono ?_
  rintro e w7 ⟨rfl, hk7⟩
  have HK7 := Lib.hid (HK6.out.trans hk7)
  have HQ7 := Lib.hid (HQ6.out.trans hk7)
  clear hk7 HM0
  go_wp2_with fail
  refine (HD1.out _ _ (HL.out.kept HK7.out) (HN1.out _ HQ7.out)).mono ?_
  rintro e w8 ⟨rfl, hk8⟩
  have HK8 := Lib.hid (HK7.out.trans hk8)
  clear hk8 HD1
  go_wp2
  go_ret
  exact ⟨rfl, HK8.out⟩

end Go.Proofs.YtdapdpmplbifdaaDoor
