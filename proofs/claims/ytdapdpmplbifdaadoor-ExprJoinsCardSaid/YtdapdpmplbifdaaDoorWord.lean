/- Contracts and lemmas: Word -/
import Derived.Test.YtdapdpmplbifdaaDoorWd
import Derived.Laws.ResultCell
namespace Go.Proofs.YtdapdpmplbifdaaDoor
set_option linter.unusedVariables false
set_option linter.unusedSimpArgs false
open Go.RowKit Go.ChangeShapes Go.WideShapes
set_option maxHeartbeats 2000000 in
theorem kword_any (k : Int) (x : ByteArray) (o p : Int) (w : World) (hs : x.size ≤ 1000000) (hL : LaidT w) :
    Calls Tryd.prog 37 #[tokA k x o p] w (KeptPost (.string (strOf (wordS ⟨k, bs x, o⟩))) w) := by
  have H0 : Hid (Four (w.alloc (.cells #[.int .i64 k, .string x, .int .i64 o, .int .i64 p] 31)) w.heap.size (.int .i64 k) (.string x) (.int .i64 o) (.int .i64 p) ∧ Kept w (w.alloc (.cells #[.int .i64 k, .string x, .int .i64 o, .int .i64 p] 31)) ∧ LaidT (w.alloc (.cells #[.int .i64 k, .string x, .int .i64 o, .int .i64 p] 31))) := Lib.hid ⟨four_new _ _ _ _ _ _, Fr.of_alloc _ _ _, hL.kept (Fr.of_alloc _ _ _)⟩
  clear hL
  unfold tokA
  by_cases h1 : k = 1
  · subst h1
    go_enter Tryd.func37, Tryd.ntmps37
    go_wp2_with (go_at_call 58; refine (katom_any _ _ _ hs H0.out.2.2).mono ?_; rintro e w' ⟨rfl, rfl⟩)
    go_ret
    exact ⟨rfl, H0.out.2.1⟩
  · have k1 : (k == 1) = false := by simp [h1]
    by_cases h0 : o = 0
    · subst h0
      have HFW : Hid (bs x = [] → strOf (wordS ⟨k, bs x, 0⟩) = strOf (wordS ⟨k, [], 0⟩)) := Lib.hid (fun h => by rw [h])
      by_cases h8 : k = 8
      · subst h8
        cases hm : tNum (bs x)
        · have HC : Hid (∀ W, Calls Tryd.prog 59 #[.string x] W (KeptPost (.bool false) W)) := Lib.hid (fun W => by rw [← hm]; exact knum_any x W hs)
          by_cases hx : bs x = []
          · have hE : x.toList = [] := by rw [bs_toList]; exact hx
            have HA := Lib.hid (HFW.out hx)
            clear hx hm
            go_enter Tryd.func37, Tryd.ntmps37
            go_wp2_with fail
            refine (HC.out _).mono ?_
            rintro e w1 ⟨rfl, hk⟩
            have H2 : Hid (Four w1 w.heap.size (.int .i64 8) (.string x) (.int .i64 0) (.int .i64 p) ∧ Kept w w1 ∧ LaidT w1) := Lib.hid ⟨H0.out.1.kept hk, H0.out.2.1.trans hk, H0.out.2.2.kept hk⟩
            have c0 := H2.out.1.c0
            have c1 := H2.out.1.c1
            clear hk H0
            go_wp2_with (go_at_call 61; refine (kfixword_any _ _ H2.out.2.2).mono ?_; rintro e w' ⟨rfl, rfl⟩)
            go_ret
            exact ⟨ret_str HA.out.symm, H2.out.2.1⟩
          · have hE : ¬ x.toList = [] := by rw [bs_toList]; exact hx
            have hE2 : x.toList.isEmpty = false := by rw [bs_toList]; simpa using hx
            have hE3 : (x.toList == []) = false := by rw [bs_toList]; simpa using hx
            have HA : Hid (strOf (wordS ⟨8, bs x, 0⟩) = ⟨#[]⟩) := Lib.hid (by rw [word_8, if_neg (by simp [hm])]; rfl)
            clear hx hm
            go_enter Tryd.func37, Tryd.ntmps37
            go_wp2_with fail
            refine (HC.out _).mono ?_
            rintro e w1 ⟨rfl, hk⟩
            have H2 : Hid (Four w1 w.heap.size (.int .i64 8) (.string x) (.int .i64 0) (.int .i64 p) ∧ Kept w w1 ∧ LaidT w1) := Lib.hid ⟨H0.out.1.kept hk, H0.out.2.1.trans hk, H0.out.2.2.kept hk⟩
            have c0 := H2.out.1.c0
            have c1 := H2.out.1.c1
            clear hk H0
            go_wp2
            go_ret
            exact ⟨ret_str HA.out.symm, H2.out.2.1⟩
        · have HC : Hid (∀ W, Calls Tryd.prog 59 #[.string x] W (KeptPost (.bool true) W)) := Lib.hid (fun W => by rw [← hm]; exact knum_any x W hs)
          have HA : Hid (strOf (wordS ⟨8, bs x, 0⟩) = x) := Lib.hid (by rw [word_8, if_pos ⟨hm, rfl⟩, strOf_bs])
          clear hm
          go_enter Tryd.func37, Tryd.ntmps37
          go_wp2_with fail
          refine (HC.out _).mono ?_
          rintro e w1 ⟨rfl, hk⟩
          have H2 : Hid (Four w1 w.heap.size (.int .i64 8) (.string x) (.int .i64 0) (.int .i64 p) ∧ Kept w w1 ∧ LaidT w1) := Lib.hid ⟨H0.out.1.kept hk, H0.out.2.1.trans hk, H0.out.2.2.kept hk⟩
          have c0 := H2.out.1.c0
          have c1 := H2.out.1.c1
          clear hk H0
          go_wp2
          go_ret
          exact ⟨ret_str HA.out.symm, H2.out.2.1⟩
      · have k8 : (k == 8) = false := by simp [h8]
        by_cases h9 : k = 9
        · subst h9
          cases hm : tSign (bs x)
          · have HC : Hid (∀ W, Calls Tryd.prog 60 #[.string x] W (KeptPost (.bool false) W)) := Lib.hid (fun W => by rw [← hm]; exact (ksign_any x W).mono (fun e w1 h => ⟨h.1, h.2 ▸ Fr.refl _ _⟩))
            by_cases hx : bs x = []
            · have hE : x.toList = [] := by rw [bs_toList]; exact hx
              have HA := Lib.hid (HFW.out hx)
              clear hx hm
              go_enter Tryd.func37, Tryd.ntmps37
              go_wp2_with fail
              refine (HC.out _).mono ?_
              rintro e w1 ⟨rfl, hk⟩
              have H2 : Hid (Four w1 w.heap.size (.int .i64 9) (.string x) (.int .i64 0) (.int .i64 p) ∧ Kept w w1 ∧ LaidT w1) := Lib.hid ⟨H0.out.1.kept hk, H0.out.2.1.trans hk, H0.out.2.2.kept hk⟩
              have c0 := H2.out.1.c0
              have c1 := H2.out.1.c1
              clear hk H0
              go_wp2_with (go_at_call 61; refine (kfixword_any _ _ H2.out.2.2).mono ?_; rintro e w' ⟨rfl, rfl⟩)
              go_ret
              exact ⟨ret_str HA.out.symm, H2.out.2.1⟩
            · have hE : ¬ x.toList = [] := by rw [bs_toList]; exact hx
              have hE2 : x.toList.isEmpty = false := by rw [bs_toList]; simpa using hx
              have hE3 : (x.toList == []) = false := by rw [bs_toList]; simpa using hx
              have HA : Hid (strOf (wordS ⟨9, bs x, 0⟩) = ⟨#[]⟩) := Lib.hid (by rw [word_9, if_neg (by simp [hm])]; rfl)
              clear hx hm
              go_enter Tryd.func37, Tryd.ntmps37
              go_wp2_with fail
              refine (HC.out _).mono ?_
              rintro e w1 ⟨rfl, hk⟩
              have H2 : Hid (Four w1 w.heap.size (.int .i64 9) (.string x) (.int .i64 0) (.int .i64 p) ∧ Kept w w1 ∧ LaidT w1) := Lib.hid ⟨H0.out.1.kept hk, H0.out.2.1.trans hk, H0.out.2.2.kept hk⟩
              have c0 := H2.out.1.c0
              have c1 := H2.out.1.c1
              clear hk H0
              go_wp2
              go_ret
              exact ⟨ret_str HA.out.symm, H2.out.2.1⟩
          · have HC : Hid (∀ W, Calls Tryd.prog 60 #[.string x] W (KeptPost (.bool true) W)) := Lib.hid (fun W => by rw [← hm]; exact (ksign_any x W).mono (fun e w1 h => ⟨h.1, h.2 ▸ Fr.refl _ _⟩))
            have HA : Hid (strOf (wordS ⟨9, bs x, 0⟩) = x) := Lib.hid (by rw [word_9, if_pos ⟨hm, rfl⟩, strOf_bs])
            clear hm
            go_enter Tryd.func37, Tryd.ntmps37
            go_wp2_with fail
            refine (HC.out _).mono ?_
            rintro e w1 ⟨rfl, hk⟩
            have H2 : Hid (Four w1 w.heap.size (.int .i64 9) (.string x) (.int .i64 0) (.int .i64 p) ∧ Kept w w1 ∧ LaidT w1) := Lib.hid ⟨H0.out.1.kept hk, H0.out.2.1.trans hk, H0.out.2.2.kept hk⟩
            have c0 := H2.out.1.c0
            have c1 := H2.out.1.c1
            clear hk H0
            go_wp2
            go_ret
            exact ⟨ret_str HA.out.symm, H2.out.2.1⟩
        · have k9 : (k == 9) = false := by simp [h9]
          by_cases hx : bs x = []
          · have hE : x.toList = [] := by rw [bs_toList]; exact hx
            have HA := Lib.hid (HFW.out hx)
            have c0 := H0.out.1.c0
            clear hx h1 h8 h9
            go_enter Tryd.func37, Tryd.ntmps37
            go_wp2_with (go_at_call 61; refine (kfixword_any _ _ H0.out.2.2).mono ?_; rintro e w' ⟨rfl, rfl⟩)
            go_ret
            exact ⟨ret_str HA.out.symm, H0.out.2.1⟩
          · have hE : ¬ x.toList = [] := by rw [bs_toList]; exact hx
            have hE2 : x.toList.isEmpty = false := by rw [bs_toList]; simpa using hx
            have hE3 : (x.toList == []) = false := by rw [bs_toList]; simpa using hx
            have HA : Hid (strOf (wordS ⟨k, bs x, 0⟩) = ⟨#[]⟩) := Lib.hid (by rw [word_plain k (bs x) 0 h1 h8 h9, if_neg (by simp [hx])]; rfl)
            clear hx h1 h8 h9
            go_enter Tryd.func37, Tryd.ntmps37
            go_wp2
            go_ret
            exact ⟨ret_str HA.out.symm, H0.out.2.1⟩
    · have g0 : (o != 0) = true := by simp [h0]
      have HA : Hid (strOf (wordS ⟨k, bs x, o⟩) = ⟨#[]⟩) := Lib.hid (by
        by_cases h8 : k = 8
        · subst h8; rw [word_8, if_neg (by simp [h0])]; rfl
        by_cases h9 : k = 9
        · subst h9; rw [word_9, if_neg (by simp [h0])]; rfl
        rw [word_plain k (bs x) o h1 h8 h9, if_neg (by simp [h0])]; rfl)
      clear h1 h0
      go_enter Tryd.func37, Tryd.ntmps37
      go_wp2
      go_ret
      exact ⟨ret_str HA.out.symm, H0.out.2.1⟩

end Go.Proofs.YtdapdpmplbifdaaDoor
