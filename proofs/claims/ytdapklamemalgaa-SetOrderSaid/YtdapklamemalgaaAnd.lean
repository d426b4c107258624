/- What taking two sets together does. -/
import Derived.Test.YtdapklamemalgaaJoin
namespace Go.Proofs.Ytdapklamemalgaa
set_option linter.unusedVariables false
set_option linter.unusedSimpArgs false
open Go.RowKit Go.ChangeShapes Go.WideShapes

theorem andL_bad {a b : List ByteArray} (h : (mayL a && mayL b) = false) : andL a b = ([], 2) := by unfold andL; rw [if_pos h]
theorem small_append {n : Nat} {a b : List ByteArray} (ha : Small n a) (hb : Small n b) : Small n (a ++ b) := fun s hs => by
  rcases List.mem_append.1 hs with h | h
  · exact ha s h
  · exact hb s h
set_option maxHeartbeats 1000000 in
theorem and_any {w : World} {G : Nat → Prop} {va vb : Value} {a b : List ByteArray} (ha : Reads w G va (wcells a)) (hb : Reads w G vb (wcells b)) (hla : a.length ≤ 100000) (hlb : b.length ≤ 100000) (hsa : Small maxLen a) (hsb : Small maxLen b) :
    Calls Try.prog 17 #[va, vb] w (SetPost (andL a b) w) := by
  have HA := Lib.hid ha
  have HB := Lib.hid hb
  have HSA := Lib.hid hsa
  have HSB := Lib.hid hsb
  obtain ⟨ao, ca, rfl, _, _⟩ := ha
  obtain ⟨bo, cb, rfl, _, _⟩ := hb
  clear hsa hsb
  generalize (wcells a).length = na at *
  generalize (wcells b).length = nb at *
  cases hm : mayL a
  · have HE : Hid (andL a b = ([], 2)) := Lib.hid (andL_bad (by simp [hm]))
    go_enter Try.func17, Try.ntmps17
    go_wp2_with fail
    refine (may_set HA.out hla HSA.out).mono ?_
    rintro e w' ⟨rfl, hk1⟩
    rw [hm]
    have HK := Lib.hid hk1
    clear hk1
    go_wp2
    go_ret2
    exact set_post HE.out (own_nil _ _ _ _) HK.out
  · cases hm2 : mayL b
    · have HE : Hid (andL a b = ([], 2)) := Lib.hid (andL_bad (by simp [hm2]))
      go_enter Try.func17, Try.ntmps17
      go_wp2_with fail
      refine (may_set HA.out hla HSA.out).mono ?_
      rintro e w' ⟨rfl, hk1⟩
      rw [hm]
      have HK := Lib.hid hk1
      clear hk1
      go_wp2_with fail
      refine (may_set (HB.out.new HK.out) hlb HSB.out).mono ?_
      rintro e w' ⟨rfl, hk1⟩
      rw [hm2]
      replace HK := Lib.hid (HK.out.trans hk1)
      clear hk1
      go_wp2
      go_ret2
      exact set_post HE.out (own_nil _ _ _ _) HK.out
    · have HE := Lib.hid (of_and (a := a) (b := b) (by simp [hm, hm2]))
      have HLA := Lib.hid (mayL_iff.1 hm).1
      have HLB := Lib.hid (mayL_iff.1 hm2).1
      go_enter Try.func17, Try.ntmps17
      go_wp2_with fail
      refine (may_set HA.out hla HSA.out).mono ?_
      rintro e w' ⟨rfl, hk1⟩
      rw [hm]
      have HK := Lib.hid hk1
      clear hk1
      go_wp2_with fail
      refine (may_set (HB.out.new HK.out) hlb HSB.out).mono ?_
      rintro e w2 ⟨rfl, hk1⟩
      rw [hm2]
      replace HK := Lib.hid (HK.out.trans hk1)
      clear hk1
      go_wp2_with fail
      refine (concat_any (g := w2.heap.size) (heap_alloc_new w2 _) ((HA.out.new HK.out).new (Fr.of_alloc _ _ _)) ((HB.out.new HK.out).new (Fr.of_alloc _ _ _)) hla hlb (by have := HLA.out; omega)).mono ?_
      rintro e w3 ⟨v3, rfl, ho3, hk3⟩
      replace HK := Lib.hid ((HK.out.trans (Fr.of_alloc _ _ _)).trans hk3)
      have HR := Lib.hid (Reads.of_row ho3)
      clear hk3 ho3
      go_wp2_with fail
      refine (of_set HR.out (by rw [List.length_append]; have := HLA.out; have := HLB.out; omega) (small_append HSA.out HSB.out)).mono ?_
      rintro e w4 ⟨v4, rfl, ho4, hk4⟩
      have HP : Hid (SetPost (ofL (a ++ b)) w (.returned (.tuple #[v4, .int .i64 (ofL (a ++ b)).2])) w4) := Lib.hid (set_later ⟨v4, rfl, ho4, hk4⟩ HK.out)
      clear ho4 hk4
      go_wp2
      go_ret2
      rw [← HE.out]
      exact HP.out
end Go.Proofs.Ytdapklamemalgaa
