/- Contracts and lemmas: LawC -/
import Derived.Test.YthceckpeccbpiaaDoorLawB
namespace Go.Proofs.YthceckpeccbpiaaDoor
set_option linter.unusedVariables false
set_option linter.unusedSimpArgs false
open Go.RowKit Go.ChangeShapes Go.WideShapes
theorem aw_all : allS [107, 101, 121, 58, 107, 49, 124, 97, 108, 105, 99, 101, 32, 97, 115, 32, 114, 111, 108, 101, 58, 114, 32, 35, 32, 120] = .ok [(⟨1, [107, 49], 1⟩, 0), (⟨4, [], 0⟩, 6), (⟨1, [97, 108, 105, 99, 101], 3⟩, 7), (⟨5, [], 0⟩, 13), (⟨1, [114], 5⟩, 16)] := by
  unfold allS
  rw [if_neg (by decide)]
  exact run_ok (nt' := true) (⟨[], [124, 97, 108, 105, 99, 101, 32, 97, 115, 32, 114, 111, 108, 101, 58, 114, 32, 35, 32, 120], by decide, rfl, rfl, by decide, fun _ => by decide, ⟨[], [97, 108, 105, 99, 101, 32, 97, 115, 32, 114, 111, 108, 101, 58, 114, 32, 35, 32, 120], by decide, rfl, rfl, by decide, fun h => absurd h (by decide), ⟨[], [32, 97, 115, 32, 114, 111, 108, 101, 58, 114, 32, 35, 32, 120], by decide, rfl, rfl, by decide, fun _ => by decide, ⟨[32], [32, 114, 111, 108, 101, 58, 114, 32, 35, 32, 120], by decide, rfl, rfl, by decide, fun _ => by decide, ⟨[32], [32, 35, 32, 120], by decide, rfl, rfl, by decide, fun _ => by decide, rfl⟩⟩⟩⟩⟩) (by decide)
theorem aw_bad : allS [97, 32, 75] = .error (2, 2) := by
  unfold allS
  rw [if_neg (by decide)]
  have h := run_go [(⟨1, [97], 3⟩, 0)] false false 0 0 [97] [32, 75] ⟨[], [], by decide, rfl, rfl, by decide, fun _ => by decide, rfl⟩ (by decide) (by decide)
  have h2 : goS false 1 1 [32, 75] = .error (2, 2) := by
    rw [goS, if_pos (by decide)]
    rw [goS, if_neg (by decide)]
    have hs : signS [75] = none := by decide
    rw [hs]
  have e : ([97] ++ [32, 75] : List UInt8) = [97, 32, 75] := rfl
  rw [e] at h
  rw [h]
  show (goS false 1 1 [32, 75]).map _ = _
  rw [h2]
  rfl
def awToks : List TokB := [⟨1, ⟨#[107, 49]⟩, 1, 0⟩, ⟨4, ⟨#[]⟩, 0, 6⟩, ⟨1, ⟨#[97, 108, 105, 99, 101]⟩, 3, 7⟩, ⟨5, ⟨#[]⟩, 0, 13⟩, ⟨1, ⟨#[114]⟩, 5, 16⟩]
theorem aw_toB : toB [(⟨1, [107, 49], 1⟩, 0), (⟨4, [], 0⟩, 6), (⟨1, [97, 108, 105, 99, 101], 3⟩, 7), (⟨5, [], 0⟩, 13), (⟨1, [114], 5⟩, 16)] = awToks := rfl
theorem aw_text : textS (awToks.map TokB.tok) = ([107, 101, 121, 58, 107, 49, 32, 124, 32, 97, 108, 105, 99, 101, 32, 97, 115, 32, 114, 111, 108, 101, 58, 114], 0) := by decide
set_option maxHeartbeats 4000000 in
theorem kawake_any (w : World) (hL : LaidT w) : Calls Tryd.prog 9 #[] w (KeptPost (.bool true) w) := by
  have HL := Lib.hid hL
  clear hL
  have HA1 : Hid (∀ W, LaidT W → Calls Tryd.prog 10 #[.string ⟨#[107, 101, 121, 58, 107, 49, 124, 97, 108, 105, 99, 101, 32, 97, 115, 32, 114, 111, 108, 101, 58, 114, 32, 35, 32, 120]⟩] W fun e w' => ∃ v, e = .returned (.tuple #[v, .int .i64 0, .int .i64 0]) ∧ ReadsT w' v awToks ∧ Kept W w') := Lib.hid (fun W hW => (kallR ⟨#[107, 101, 121, 58, 107, 49, 124, 97, 108, 105, 99, 101, 32, 97, 115, 32, 114, 111, 108, 101, 58, 114, 32, 35, 32, 120]⟩ W (by decide) hW).mono (fun e w' h => by
    obtain ⟨v, m, p, q, he, hr, hk, hi⟩ := h
    have hu := hi.unique (.inl ⟨aw_all, rfl, rfl⟩)
    obtain ⟨rfl, rfl, rfl⟩ := hu
    exact ⟨v, he, hr, hk⟩))
  have HA2 : Hid (∀ W, LaidT W → Calls Tryd.prog 10 #[.string ⟨#[97, 32, 75]⟩] W fun e w' => ∃ v, e = .returned (.tuple #[v, .int .i64 2, .int .i64 2]) ∧ Kept W w') := Lib.hid (fun W hW => (kallR ⟨#[97, 32, 75]⟩ W (by decide) hW).mono (fun e w' h => by
    obtain ⟨v, m, p, q, he, hr, hk, hi⟩ := h
    have hu := hi.unique (.inr ⟨aw_bad, rfl⟩)
    obtain ⟨rfl, rfl, rfl⟩ := hu
    exact ⟨v, he, hk⟩))
  have HT : Hid (∀ W v, LaidT W → ReadsT W v awToks → Calls Tryd.prog 14 #[v] W (KeptPost (.tuple #[.string ⟨#[107, 101, 121, 58, 107, 49, 32, 124, 32, 97, 108, 105, 99, 101, 32, 97, 115, 32, 114, 111, 108, 101, 58, 114]⟩, .int .i64 0]) W)) := Lib.hid (fun W v hW hr => by
    have h := ktext_any hr (by decide) (by decide) hW
    rw [aw_text] at h
    exact h)
  have e4 : strOf (wordS ⟨4, bs ⟨#[]⟩, 0⟩) = ⟨#[124]⟩ := by decide
  have e0 : strOf (wordS ⟨0, bs ⟨#[]⟩, 0⟩) = ⟨#[]⟩ := by decide
  have HW1 : Hid (∀ W, LaidT W → Calls Tryd.prog 16 #[.agg #[.int .i64 4, .string ⟨#[]⟩, .int .i64 0, .int .i64 6]] W (KeptPost (.string ⟨#[124]⟩) W)) := Lib.hid (fun W hW => by rw [← e4]; exact kword_any 4 ⟨#[]⟩ 0 6 W (by decide) hW)
  have HW2 : Hid (∀ W, LaidT W → Calls Tryd.prog 16 #[.agg #[.int .i64 0, .string ⟨#[]⟩, .int .i64 0, .int .i64 0]] W (KeptPost (.string ⟨#[]⟩) W)) := Lib.hid (fun W hW => by rw [← e0]; exact kword_any 0 ⟨#[]⟩ 0 0 W (by decide) hW)
  clear e4 e0
  go_enter Tryd.func9, Tryd.ntmps9
  go_wp2_with fail
  refine (HA1.out _ HL.out).mono ?_
  rintro e w1 ⟨v1, rfl, hr1, hk1⟩
  have HR1 := Lib.hid hr1
  have HK1 := Lib.hid hk1
  clear hr1 hk1 HA1
  go_wp2_with fail
  refine (HA2.out _ (HL.out.kept HK1.out)).mono ?_
  rintro e w2 ⟨v2, rfl, hk2⟩
  have HK2 := Lib.hid (HK1.out.trans hk2)
  have HR2 := Lib.hid (HR1.out.kept hk2)
  clear hk2 HA2 HR1
  go_wp2_with fail
  refine (HT.out _ _ (HL.out.kept HK2.out) HR2.out).mono ?_
  rintro e w3 ⟨rfl, hk3⟩
  have HK3 := Lib.hid (HK2.out.trans hk3)
  have hr3 := HR2.out.kept hk3
  clear hk3 HT HR2
  obtain ⟨ao, c, rfl, hc, hcells⟩ := hr3
  obtain ⟨g, off, hao, a0, a1, a2, a3⟩ := hcells 0 _ rfl
  subst hao
  obtain ⟨g', off', hao, b0, b1, b2, b3⟩ := hcells 1 _ rfl
  cases hao
  obtain ⟨g', off', hao, c0, c1, c2, c3⟩ := hcells 2 _ rfl
  cases hao
  obtain ⟨g', off', hao, d0, d1, d2, d3⟩ := hcells 3 _ rfl
  cases hao
  clear hcells
  have hlen : awToks.length = 5 := rfl
  rw [hlen] at hc ⊢
  simp only [Nat.zero_mul, Nat.add_zero] at a0 a1 a2 a3 b0 b1 b2 b3 c0 c1 c2 c3 d0 d1 d2 d3
  go_wp2_with fail
  refine (HW1.out _ (HL.out.kept HK3.out)).mono ?_
  rintro e w4 ⟨rfl, hk4⟩
  have HK4 := Lib.hid (HK3.out.trans hk4)
  clear hk4 a0 a1 a2 a3 b0 b1 b2 b3 c0 c1 c2 c3 d0 d1 d2 d3
  go_wp2_with fail
  refine (HW2.out _ (HL.out.kept HK4.out)).mono ?_
  rintro e w5 ⟨rfl, hk5⟩
  have HK5 := Lib.hid (HK4.out.trans hk5)
  clear hk5
  go_wp2
  go_ret
  exact ⟨rfl, HK5.out⟩

end Go.Proofs.YthceckpeccbpiaaDoor
