/- Swap of package word. -/
import Derived.Test.YtbpkfaoaphegnaaSub
import Derived.Deep.RegionWith
namespace Go.Proofs.Ytbpkfaoaphegnaa
set_option linter.unusedVariables false
open Go.RowKit

theorem swapS_torn {s v : ByteArray} {i n : Int} (h : (tornB s || tornB v) = true) : swapS s i n v = (⟨#[]⟩, 2) := by unfold swapS; rw [if_pos h]
theorem swapS_out {s v : ByteArray} {i n : Int} (h : (tornB s || tornB v) = false) (h2 : partB s i n = false) : swapS s i n v = (⟨#[]⟩, 5) := by unfold swapS; rw [if_neg (by simp [h]), if_pos h2]
theorem swapS_in {s v : ByteArray} {a b : Nat} (h : (tornB s || tornB v) = false) (h2 : a + b ≤ s.size / 2) : swapS s a b v = catS [s.extract 0 (2 * a), v, s.extract (2 * (a + b)) s.size] := by
  unfold swapS; rw [if_neg (by simp [h]), if_neg (by unfold partB; simp; omega)]; simp

set_option maxHeartbeats 2000000 in
theorem swap_any (s : ByteArray) (i n : Int) (v : ByteArray) (w : World) (hs : s.size ≤ 100000) (hv : v.size ≤ 100000) (wi : (Lit.int .i64 i).wf = true) :
    Calls Try.prog 29 #[.string s, .int .i64 i, .int .i64 n, .string v] w (PairPost (swapS s i n v) w) := by
  have hs0 : s.size ≤ maxLen := by unfold maxLen; omega
  have hv0 : v.size ≤ maxLen := by unfold maxLen; omega
  cases ht : tornB s || tornB v
  · have HT := Lib.hid ht
    simp only [Bool.or_eq_false_iff] at ht
    obtain ⟨ht1, ht2⟩ := ht
    cases hp : partB s i n
    · have HA := Lib.hid (swapS_out HT.out hp)
      go_enter Try.func29, Try.ntmps29
      go_wp2_with fail
      refine (isTorn_any s _ hs0).mono ?_
      rintro e w' ⟨rfl, rfl⟩
      rw [ht1]
      go_wp2_with fail
      refine (isTorn_any v _ hv0).mono ?_
      rintro e w' ⟨rfl, rfl⟩
      rw [ht2]
      go_wp2_with fail
      refine (hasPart_any _ _ _ _ hs0 wi).mono ?_
      rintro e w' ⟨rfl, rfl⟩
      rw [hp]
      go_wp2_with fail
      go_ret2
      exact ⟨pair_of HA.out, Fr.refl _ _⟩
    · obtain ⟨a, b, rfl, rfl, hab⟩ := part_nat hp
      have HA := Lib.hid (swapS_in HT.out hab)
      have x1 : ∀ wx, (Instr.slice 22 (.string s) none (some (.int .i64 (2 * (a : Int)))) none).run Try.prog wx = .ok (.string (s.extract 0 (2 * a))) wx := fun wx => by
        rw [Go.run_slice_string_to_if wx 22 s _ _ Try.underlying22, if_pos (by omega)]
        congr 3
      have x2 : ∀ wx, (Instr.slice 22 (.string s) (some (.int .i64 (2 * ((a : Int) + (b : Int))))) none none).run Try.prog wx = .ok (.string (s.extract (2 * (a + b)) s.size)) wx := fun wx => by
        rw [Go.run_slice_string_from_if wx 22 s _ _ Try.underlying22, if_pos (by omega)]
        congr 3
      have z1 : (s.extract 0 (2 * a)).size ≤ 100000 := by simp; omega
      have z2 : (s.extract (2 * (a + b)) s.size).size ≤ 100000 := by simp; omega
      have e1 : IntKind.i64.wrap ((a : Int) + b) = (a : Int) + b := IntWalk.i64_in _ (by omega)
      have e2 : IntKind.i64.wrap (2 * ((a : Int) + b)) = 2 * ((a : Int) + b) := IntWalk.i64_in _ (by omega)
      have e3 : IntKind.i64.wrap (2 * (a : Int)) = 2 * (a : Int) := IntWalk.i64_in _ (by omega)
      generalize s.extract 0 (2 * a) = p1 at *
      generalize s.extract (2 * (a + b)) s.size = p3 at *
      have HSM : Hid (Small 100000 [p1, v, p3]) := Lib.hid (fun x hx => by simp at hx; rcases hx with rfl | rfl | rfl <;> assumption)
      go_enter Try.func29, Try.ntmps29
      go_wp2_with fail
      refine (isTorn_any s _ hs0).mono ?_
      rintro e w' ⟨rfl, rfl⟩
      rw [ht1]
      go_wp2_with fail
      refine (isTorn_any v _ hv0).mono ?_
      rintro e w' ⟨rfl, rfl⟩
      rw [ht2]
      go_wp2_with fail
      refine (hasPart_any _ _ _ _ hs0 wi).mono ?_
      rintro e w' ⟨rfl, rfl⟩
      rw [hp]
      go_wp2_with fail
      go_region_with (go_at_call 27; refine (cat_any (l := [p1, v, p3]) (by exact reads_built (cs := #[.string p1, .string v, .string p3]) (heap_alloc_new _ _)) (by simp) HSM.out).mono ?_; rintro e w' ⟨rfl, hk⟩; have HK := Lib.hid hk; clear hk)
      all_goals
        go_wp2_with fail
        go_ret2
        exact ⟨by rw [HA.out]; rfl, ((Fr.of_alloc _ _ _).trans (Fr.of_drew _ _)).trans HK.out⟩
  · have HA := Lib.hid (swapS_torn (i := i) (n := n) ht)
    cases ht1 : tornB s
    · have ht2 : tornB v = true := by rw [ht1] at ht; simpa using ht
      go_enter Try.func29, Try.ntmps29
      go_wp2_with fail
      refine (isTorn_any s _ hs0).mono ?_
      rintro e w' ⟨rfl, rfl⟩
      rw [ht1]
      go_wp2_with fail
      refine (isTorn_any v _ hv0).mono ?_
      rintro e w' ⟨rfl, rfl⟩
      rw [ht2]
      go_wp2_with fail
      go_ret2
      exact ⟨pair_of HA.out, Fr.refl _ _⟩
    · go_enter Try.func29, Try.ntmps29
      go_wp2_with fail
      refine (isTorn_any s _ hs0).mono ?_
      rintro e w' ⟨rfl, rfl⟩
      rw [ht1]
      go_wp2_with fail
      go_ret2
      exact ⟨pair_of HA.out, Fr.refl _ _⟩
end Go.Proofs.Ytbpkfaoaphegnaa
