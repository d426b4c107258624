/- What the document's And, Quote, As and For do. -/
import Derived.Test.YtdapklamemalgaaRefA
import Derived.Test.YtdapklamemalgaaForS
namespace Go.Proofs.Ytdapklamemalgaa
set_option linter.unusedVariables false
set_option linter.unusedSimpArgs false
open Go.RowKit Go.ChangeShapes Go.WideShapes

theorem own_up {w0 w w1 : World} {v : Value} {e : TypeId} {n : Nat} {xs : List Value} (h : w1.ownsRow w.heap.size e 1 v n xs) (hk : Kept w0 w) : w1.ownsRow w0.heap.size e 1 v n xs :=
  own_base h fun g hg => by
    rcases h.2 with ⟨rfl, _⟩ | ⟨g', cap, cur, rfl, hb, _⟩
    · simp [Value.ownBlock] at hg
    · simp [Value.ownBlock] at hg
      have := hk.size
      omega
theorem small_len {l : List ByteArray} (h : mayL l = true) : Small 100000 l := fun s hs => by
  have := (mayS_size ((mayL_iff.1 h).2.1 s hs)).2.2.1
  omega
set_option maxHeartbeats 1000000 in
theorem rand_any {w : World} {G : Nat → Prop} {va vb : Value} {a b : List ByteArray} (ha : Reads w G va (wcells a)) (hb : Reads w G vb (wcells b)) (hla : a.length ≤ 100000) (hlb : b.length ≤ 100000) (hsa : Small 100000 a) (hsb : Small 100000 b) :
    Calls Try.prog 18 #[va, vb] w (SetPost (andL a b) w) := by
  have HA := Lib.hid ha
  have HB := Lib.hid hb
  have HSA := Lib.hid hsa
  have HSB := Lib.hid hsb
  clear ha hb hsa hsb
  cases hm : mayL a
  · have HE : Hid (andL a b = ([], 2)) := Lib.hid (andL_bad (by simp [hm]))
    go_enter Try.func18, Try.ntmps18
    go_wp2_with fail
    refine (rmay_set HA.out hla HSA.out).mono ?_
    rintro e w' ⟨rfl, hk1⟩
    rw [hm]
    have HK := Lib.hid hk1
    clear hk1
    go_wp2
    go_ret2
    exact set_post HE.out (own_nil _ _ _ _) HK.out
  · cases hm2 : mayL b
    · have HE : Hid (andL a b = ([], 2)) := Lib.hid (andL_bad (by simp [hm2]))
      go_enter Try.func18, Try.ntmps18
      go_wp2_with fail
      refine (rmay_set HA.out hla HSA.out).mono ?_
      rintro e w' ⟨rfl, hk1⟩
      rw [hm]
      have HK := Lib.hid hk1
      clear hk1
      go_wp2_with fail
      refine (rmay_set (HB.out.new HK.out) hlb HSB.out).mono ?_
      rintro e w' ⟨rfl, hk1⟩
      rw [hm2]
      replace HK := Lib.hid (HK.out.trans hk1)
      clear hk1
      go_wp2
      go_ret2
      exact set_post HE.out (own_nil _ _ _ _) HK.out
    · have HE : Hid (andL a b = boundL (rightS (a ++ b))) := Lib.hid (by unfold andL; rw [if_neg (by simp [hm, hm2])])
      have HLA := Lib.hid (mayL_iff.1 hm).1
      have HLB := Lib.hid (mayL_iff.1 hm2).1
      go_enter Try.func18, Try.ntmps18
      go_wp2_with fail
      refine (rmay_set HA.out hla HSA.out).mono ?_
      rintro e w' ⟨rfl, hk1⟩
      rw [hm]
      have HK := Lib.hid hk1
      clear hk1
      go_wp2_with fail
      refine (rmay_set (HB.out.new HK.out) hlb HSB.out).mono ?_
      rintro e w2 ⟨rfl, hk1⟩
      rw [hm2]
      replace HK := Lib.hid (HK.out.trans hk1)
      clear hk1 hm hm2
      have H0 : Hid (JoinPart w (w2.alloc (Obj.cells #[] 36)) [] (.slice (some ⟨w2.heap.size, 0, none⟩) 0 0)) := Lib.hid ⟨own_up (w := w2) (own_new (heap_alloc_new w2 _) (Nat.le_refl _)) HK.out, HK.out.trans (Fr.of_alloc _ _ _)⟩
      go_wp2_with (first | (at_builtin; refine list_app rfl (.tmp 14) (.tmp 15) 22 23 rfl Try.slice22 rfl (by exact H0.out.1) rfl (by exact (HA.out.new H0.out.2).src Try.underlying23 one_str) (by rw [wcells_len]; have := HLA.out; unfold maxLen; simp only [List.length_nil]; omega) (by rw [wcells_len]; have := HLA.out; simp only [List.length_nil]; omega) (by exact H0.out.2.size) ?_; intro v3 w3 hp3; have H3 := Lib.hid (H0.out.step hp3); clear hp3 H0) | (at_builtin; refine list_app rfl (.tmp 16) (.tmp 17) 22 23 rfl Try.slice22 rfl (by exact H3.out.1) rfl (by exact (HB.out.new H3.out.2).src Try.underlying23 one_str) (by rw [wcells_len]; have := HLA.out; have := HLB.out; unfold maxLen; simp only [List.nil_append]; omega) (by rw [wcells_len]; have := HLA.out; have := HLB.out; simp only [List.nil_append]; omega) (by exact H3.out.2.size) ?_; intro v4 w4 hp4; have H4 : Hid (JoinPart w w4 (a ++ b) v4) := Lib.hid (by have := H3.out.step hp4; simpa using this); clear hp4 H3))
      have HR := Lib.hid (Reads.of_row H4.out.1)
      refine (rright_any HR.out (by rw [List.length_append]; have := HLA.out; have := HLB.out; omega) (small_append HSA.out HSB.out)).mono ?_
      rintro e w5 ⟨v5, rfl, ho5, hk5⟩
      have HO := Lib.hid (own_up ho5 H4.out.2)
      have HK5 := Lib.hid (H4.out.2.trans hk5)
      clear ho5 hk5
      go_wp2_with fail
      refine (bound_any HO.out HK5.out).mono ?_
      rintro e w6 ⟨v6, rfl, ho6, hk6⟩
      have HP : Hid (SetPost (andL a b) w (.returned (.tuple #[v6, .int .i64 (boundL (rightS (a ++ b))).2])) w6) := Lib.hid (by rw [HE.out]; exact ⟨v6, rfl, ho6, hk6⟩)
      clear ho6 hk6
      go_wp2
      go_ret2
      exact HP.out
end Go.Proofs.Ytdapklamemalgaa
