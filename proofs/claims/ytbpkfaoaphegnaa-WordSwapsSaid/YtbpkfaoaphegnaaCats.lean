/- WordCats: the walk. -/
import Derived.Test.YtbpkfaoaphegnaaAwake
namespace Go.Proofs.Ytbpkfaoaphegnaa
set_option linter.unusedVariables false
open Go.RowKit

theorem flat3 (a b c : ByteArray) : (⟨(flatS [a, b, c]).toArray⟩ : ByteArray) = a ++ b ++ c := by
  apply bs_inj; rw [bs_mk, bs_append, bs_append]; simp [flatS]
theorem flat2 (a b : ByteArray) : (⟨(flatS [a, b]).toArray⟩ : ByteArray) = a ++ b := by
  apply bs_inj; rw [bs_mk, bs_append]; simp [flatS]
theorem any3 {a b c : ByteArray} : [a, b, c].any tornB = (tornB a || (tornB b || tornB c)) := by simp
theorem len3 (a b c : ByteArray) : (flatS [a, b, c]).length = a.size + b.size + c.size := by simp [flatS, bs_len]; omega
theorem len2 (a b : ByteArray) : (flatS [a, b]).length = a.size + b.size := by simp [flatS, bs_len]
theorem torn_append {a b : ByteArray} (ha : tornB a = false) (hb : tornB b = false) : tornB (a ++ b) = false := by
  have h1 := tornB_false ha
  have h2 := tornB_false hb
  simp [tornB, ByteArray.size_append]; omega
theorem app_assoc (a b c : ByteArray) : a ++ (b ++ c) = a ++ b ++ c := by
  apply bs_inj; simp [bs_append]

/-- what comes of three words that may be laid together -/
theorem cats_ok {a b c : ByteArray} (ha : tornB a = false) (hb : tornB b = false) (hc : tornB c = false) (h : a.size + b.size + c.size ≤ 16) :
    catS [a, b, c] = (a ++ b ++ c, 0) ∧ catS [a, b] = (a ++ b, 0) ∧ catS [b, c] = (b ++ c, 0) ∧ catS [a ++ b, c] = (a ++ b ++ c, 0) ∧ catS [a, b ++ c] = (a ++ b ++ c, 0) ∧
    catS [⟨#[]⟩, a, ⟨#[]⟩, b, c, ⟨#[]⟩] = (a ++ b ++ c, 0) := by
  have te : tornB ⟨#[]⟩ = false := by decide
  refine ⟨?_, ?_, ?_, ?_, ?_, ?_⟩
  · rw [catS_ok (by simp [ha, hb, hc]) (by rw [len3]; exact h), flat3]
  · rw [catS_ok (by simp [ha, hb]) (by rw [len2]; omega), flat2]
  · rw [catS_ok (by simp [hb, hc]) (by rw [len2]; omega), flat2]
  · rw [catS_ok (by simp [torn_append ha hb, hc]) (by rw [len2, ByteArray.size_append]; omega), flat2]
  · rw [catS_ok (by simp [torn_append hb hc, ha]) (by rw [len2, ByteArray.size_append]; omega), flat2, app_assoc]
  · have e : flatS [⟨#[]⟩, a, ⟨#[]⟩, b, c, ⟨#[]⟩] = flatS [a, b, c] := by simp [flatS, bs]
    rw [catS_ok (by simp [ha, hb, hc, te]) (by rw [e, len3]; exact h), e, flat3]

set_option maxHeartbeats 4000000 in
set_option maxRecDepth 100000 in
theorem wordCats_small (a b c : ByteArray) (w : World) (ha : a.size ≤ 4096) (hb : b.size ≤ 4096) (hc : c.size ≤ 4096) :
    Calls Try.prog 9 #[.string a, .string b, .string c] w fun e w' => e = .returned (.bool true) ∧ Fr (fun _ => False) w w' := by
  have d1 : decide (4096 < (a.size : Int)) = false := by simp; omega
  have d2 : decide (4096 < (b.size : Int)) = false := by simp; omega
  have d3 : decide (4096 < (c.size : Int)) = false := by simp; omega
  cases ht : [a, b, c].any tornB
  · by_cases h16 : 16 < (flatS [a, b, c]).length
    · have E1 := Lib.hid (catS_large ht h16)
      clear ht h16
      go_enter Try.func9, Try.ntmps9
      go_wp2_with fail
      refine (awake_any _).mono ?_
      rintro e w1 ⟨rfl, hk⟩
      have HK := Lib.hid hk
      clear hk
      go_wp2_with fail
      refine (cat_any (l := [a, b, c]) (by exact reads_built (cs := #[.string a, .string b, .string c]) (heap_alloc_new _ _)) (by simp) (by intro x hx; simp at hx; rcases hx with rfl | rfl | rfl <;> omega)).mono ?_
      rintro e w' ⟨rfl, hk⟩
      rw [E1.out]
      replace HK := Lib.hid (HK.out.trans ((Fr.of_alloc _ _ _).trans hk))
      clear hk
      go_wp2_with fail
      refine (cat_any (l := [a, b]) (by exact reads_built (cs := #[.string a, .string b]) (heap_alloc_new _ _)) (by simp) (by intro x hx; simp at hx; rcases hx with rfl | rfl <;> omega)).mono ?_
      rintro e w' ⟨rfl, hk⟩
      replace HK := Lib.hid (HK.out.trans ((Fr.of_alloc _ _ _).trans hk))
      clear hk
      go_wp2_with fail
      refine (cat_any (l := [b, c]) (by exact reads_built (cs := #[.string b, .string c]) (heap_alloc_new _ _)) (by simp) (by intro x hx; simp at hx; rcases hx with rfl | rfl <;> omega)).mono ?_
      rintro e w' ⟨rfl, hk⟩
      replace HK := Lib.hid (HK.out.trans ((Fr.of_alloc _ _ _).trans hk))
      clear hk
      go_wp2_with fail
      go_ret
      exact ⟨rfl, HK.out⟩
    · rw [any3] at ht
      simp only [Bool.or_eq_false_iff] at ht
      rw [len3] at h16
      obtain ⟨e1, e2, e3, e4, e5, e6⟩ := cats_ok ht.1 ht.2.1 ht.2.2 (by omega)
      have j1 : ∀ wx, (Op.stringOp .add a b).run Try.prog wx = .ok (.string (a ++ b)) wx := fun wx => run_string_add_sum wx a b (by omega)
      have j2 : ∀ wx, (Op.stringOp .add (a ++ b) c).run Try.prog wx = .ok (.string (a ++ b ++ c)) wx := fun wx => run_string_add_sum wx _ c (by rw [ByteArray.size_append]; omega)
      have z1 : (a ++ b).size ≤ 10000 := by rw [ByteArray.size_append]; omega
      have z2 : (b ++ c).size ≤ 10000 := by rw [ByteArray.size_append]; omega
      generalize a ++ b ++ c = S at *
      generalize a ++ b = ab at *
      generalize b ++ c = bc at *
      have E1 := Lib.hid e1
      have E2 := Lib.hid e2
      have E3 := Lib.hid e3
      have E4 := Lib.hid e4
      have E5 := Lib.hid e5
      have E6 := Lib.hid e6
      clear ht h16 e1 e2 e3 e4 e5 e6
      go_enter Try.func9, Try.ntmps9
      go_wp2_with fail
      refine (awake_any _).mono ?_
      rintro e w1 ⟨rfl, hk⟩
      have HK := Lib.hid hk
      clear hk
      go_wp2_with fail
      refine (cat_any (l := [a, b, c]) (by exact reads_built (cs := #[.string a, .string b, .string c]) (heap_alloc_new _ _)) (by simp) (by intro x hx; simp at hx; rcases hx with rfl | rfl | rfl <;> omega)).mono ?_
      rintro e w' ⟨rfl, hk⟩
      rw [E1.out]
      replace HK := Lib.hid (HK.out.trans ((Fr.of_alloc _ _ _).trans hk))
      clear hk
      go_wp2_with fail
      refine (cat_any (l := [a, b]) (by exact reads_built (cs := #[.string a, .string b]) (heap_alloc_new _ _)) (by simp) (by intro x hx; simp at hx; rcases hx with rfl | rfl <;> omega)).mono ?_
      rintro e w' ⟨rfl, hk⟩
      rw [E2.out]
      replace HK := Lib.hid (HK.out.trans ((Fr.of_alloc _ _ _).trans hk))
      clear hk
      go_wp2_with fail
      refine (cat_any (l := [b, c]) (by exact reads_built (cs := #[.string b, .string c]) (heap_alloc_new _ _)) (by simp) (by intro x hx; simp at hx; rcases hx with rfl | rfl <;> omega)).mono ?_
      rintro e w' ⟨rfl, hk⟩
      rw [E3.out]
      replace HK := Lib.hid (HK.out.trans ((Fr.of_alloc _ _ _).trans hk))
      clear hk
      go_wp2_with fail
      refine (cat_any (l := [ab, c]) (by exact reads_built (cs := #[.string ab, .string c]) (heap_alloc_new _ _)) (by simp) (by intro x hx; simp at hx; rcases hx with rfl | rfl <;> omega)).mono ?_
      rintro e w' ⟨rfl, hk⟩
      rw [E4.out]
      replace HK := Lib.hid (HK.out.trans ((Fr.of_alloc _ _ _).trans hk))
      clear hk
      go_wp2_with fail
      refine (cat_any (l := [a, bc]) (by exact reads_built (cs := #[.string a, .string bc]) (heap_alloc_new _ _)) (by simp) (by intro x hx; simp at hx; rcases hx with rfl | rfl <;> omega)).mono ?_
      rintro e w' ⟨rfl, hk⟩
      rw [E5.out]
      replace HK := Lib.hid (HK.out.trans ((Fr.of_alloc _ _ _).trans hk))
      clear hk
      go_wp2_with fail
      refine (cat_any (l := [⟨#[]⟩, a, ⟨#[]⟩, b, c, ⟨#[]⟩]) (by exact reads_built (cs := #[.string ⟨#[]⟩, .string a, .string ⟨#[]⟩, .string b, .string c, .string ⟨#[]⟩]) (heap_alloc_new _ _)) (by simp) (by intro x hx; simp at hx; rcases hx with rfl | rfl | rfl | rfl | rfl | rfl <;> first | omega | decide)).mono ?_
      rintro e w' ⟨rfl, hk⟩
      rw [E6.out]
      replace HK := Lib.hid (HK.out.trans ((Fr.of_alloc _ _ _).trans hk))
      clear hk
      go_wp2_with fail
      go_ret
      exact ⟨rfl, HK.out⟩
  · have E1 := Lib.hid (catS_torn ht)
    clear ht
    go_enter Try.func9, Try.ntmps9
    go_wp2_with fail
    refine (awake_any _).mono ?_
    rintro e w1 ⟨rfl, hk⟩
    have HK := Lib.hid hk
    clear hk
    go_wp2_with fail
    refine (cat_any (l := [a, b, c]) (by exact reads_built (cs := #[.string a, .string b, .string c]) (heap_alloc_new _ _)) (by simp) (by intro x hx; simp at hx; rcases hx with rfl | rfl | rfl <;> omega)).mono ?_
    rintro e w' ⟨rfl, hk⟩
    rw [E1.out]
    replace HK := Lib.hid (HK.out.trans ((Fr.of_alloc _ _ _).trans hk))
    clear hk
    go_wp2_with fail
    refine (cat_any (l := [a, b]) (by exact reads_built (cs := #[.string a, .string b]) (heap_alloc_new _ _)) (by simp) (by intro x hx; simp at hx; rcases hx with rfl | rfl <;> omega)).mono ?_
    rintro e w' ⟨rfl, hk⟩
    replace HK := Lib.hid (HK.out.trans ((Fr.of_alloc _ _ _).trans hk))
    clear hk
    go_wp2_with fail
    refine (cat_any (l := [b, c]) (by exact reads_built (cs := #[.string b, .string c]) (heap_alloc_new _ _)) (by simp) (by intro x hx; simp at hx; rcases hx with rfl | rfl <;> omega)).mono ?_
    rintro e w' ⟨rfl, hk⟩
    replace HK := Lib.hid (HK.out.trans ((Fr.of_alloc _ _ _).trans hk))
    clear hk
    go_wp2_with fail
    go_ret
    exact ⟨rfl, HK.out⟩

set_option maxHeartbeats 1000000 in
theorem wordCats_walk {w : World} (a : ByteArray) (ha : a.size ≤ maxLen) (b : ByteArray) (hb : b.size ≤ maxLen) (c : ByteArray) (hc : c.size ≤ maxLen) :
    Calls Try.prog 9 #[.string a, .string b, .string c] w fun e w' => e = .returned (.bool true) ∧ Fr (fun _ => False) w w' := by
  unfold maxLen at ha hb hc
  by_cases la : 4096 < a.size
  · have d1 : decide (4096 < (a.size : Int)) = true := by simp; omega
    go_enter Try.func9, Try.ntmps9
    go_wp2_with fail
    refine (awake_any _).mono ?_
    rintro e w1 ⟨rfl, hk⟩
    have HK := Lib.hid hk
    clear hk
    go_wp2_with fail
    go_ret
    exact ⟨rfl, HK.out⟩
  · have d1 : decide (4096 < (a.size : Int)) = false := by simp; omega
    by_cases lb : 4096 < b.size
    · have d2 : decide (4096 < (b.size : Int)) = true := by simp; omega
      go_enter Try.func9, Try.ntmps9
      go_wp2_with fail
      refine (awake_any _).mono ?_
      rintro e w1 ⟨rfl, hk⟩
      have HK := Lib.hid hk
      clear hk
      go_wp2_with fail
      go_ret
      exact ⟨rfl, HK.out⟩
    · have d2 : decide (4096 < (b.size : Int)) = false := by simp; omega
      by_cases lc : 4096 < c.size
      · have d3 : decide (4096 < (c.size : Int)) = true := by simp; omega
        go_enter Try.func9, Try.ntmps9
        go_wp2_with fail
        refine (awake_any _).mono ?_
        rintro e w1 ⟨rfl, hk⟩
        have HK := Lib.hid hk
        clear hk
        go_wp2_with fail
        go_ret
        exact ⟨rfl, HK.out⟩
      · exact wordCats_small a b c w (by omega) (by omega) (by omega)
end Go.Proofs.Ytbpkfaoaphegnaa
