/- awake of the laws of layer 2: it answers true, and turns nothing that was there. -/
import Derived.Test.YtbpkfaoaphegnaaSwap
import Derived.Test.YtbpkfaoaphegnaaFind
namespace Go.Proofs.Ytbpkfaoaphegnaa
set_option linter.unusedVariables false
open Go.RowKit

theorem o1 : ofS [8193, 1] = ⟨#[32, 1, 0, 1]⟩ := by rfl
theorem o2 : ofS [2] = ⟨#[0, 2]⟩ := by rfl
theorem o3 : ofS [1, 2, 3] = ⟨#[0, 1, 0, 2, 0, 3]⟩ := by rfl
theorem o4 : ofS [9, 9] = ⟨#[0, 9, 0, 9]⟩ := by rfl
theorem o5 : ofS [1, 2, 1, 2] = ⟨#[0, 1, 0, 2, 0, 1, 0, 2]⟩ := by rfl
theorem o6 : ofS [1, 2] = ⟨#[0, 1, 0, 2]⟩ := by rfl
theorem o7 : ofS [8193, 1, 2] = ⟨#[32, 1, 0, 1, 0, 2]⟩ := by rfl
theorem o8 : ofS [1, 9, 9, 3] = ⟨#[0, 1, 0, 9, 0, 9, 0, 3]⟩ := by rfl
theorem c1 : catS [⟨#[32, 1, 0, 1]⟩, ⟨#[0, 2]⟩] = (⟨#[32, 1, 0, 1, 0, 2]⟩, 0) := by rfl
theorem s1 : swapS ⟨#[0, 1, 0, 2, 0, 3]⟩ 1 1 ⟨#[0, 9, 0, 9]⟩ = (⟨#[0, 1, 0, 9, 0, 9, 0, 3]⟩, 0) := by rfl
theorem s2 : swapS ⟨#[32, 1, 0, 1]⟩ 2 1 ⟨#[]⟩ = (⟨#[]⟩, 5) := by rfl
theorem b1 : subS ⟨#[32, 1, 0, 1, 0, 2]⟩ 1 2 = (⟨#[0, 1, 0, 2]⟩, 0) := by rfl
theorem a1 : atS ⟨#[32, 1, 0, 1]⟩ 1 = 1 := by decide +kernel
theorem a2 : atS ⟨#[32, 1, 0, 1]⟩ 2 = 0 := by decide +kernel
theorem m1 : mayS ⟨#[32, 1, 0, 1]⟩ = true := by decide +kernel
theorem m2 : mayS ⟨#[]⟩ = false := by decide +kernel
theorem f1 {r : Int} (h : FindIs ⟨#[0, 1, 0, 2, 0, 1, 0, 2]⟩ ⟨#[0, 1, 0, 2]⟩ 1 r) : r = 2 := by
  refine h.unique (find_at (k := 2) (by decide +kernel) (by decide) (by decide) (by decide +kernel) (fun j hj hij => ?_))
  have : j = 1 := by omega
  subst this; decide +kernel
theorem l1 : lessS ⟨#[32, 1, 0, 1]⟩ ⟨#[32, 1, 0, 1, 0, 2]⟩ = true := by decide +kernel
theorem l2 : lessS ⟨#[32, 1, 0, 1, 0, 2]⟩ ⟨#[32, 1, 0, 1]⟩ = false := by decide +kernel

def AwakePost (w : World) (e : Ending) (w' : World) : Prop := e = .returned (.bool true) ∧ Kept w w'

set_option maxHeartbeats 4000000 in
set_option maxRecDepth 100000 in
theorem awake_any (w : World) : Calls Try.prog 10 #[] w (AwakePost w) := by
  have HK : Hid (Kept w w) := Lib.hid (Fr.refl _ _)
  go_enter Try.func10, Try.ntmps10
  go_wp2_with fail
  refine (of_any (l := [8193, 1]) (by exact reads_built (cs := #[.int .u16 8193, .int .u16 1]) (heap_alloc_new _ _)) (by unfold Good; decide) (by decide)).mono ?_
  rintro e w' ⟨rfl, hk⟩
  rw [o1]
  replace HK := Lib.hid (HK.out.trans ((Fr.of_alloc _ _ _).trans hk))
  clear hk
  go_wp2_with fail
  refine (of_any (l := [2]) (by exact reads_built (cs := #[.int .u16 2]) (heap_alloc_new _ _)) (by unfold Good; decide) (by decide)).mono ?_
  rintro e w' ⟨rfl, hk⟩
  rw [o2]
  replace HK := Lib.hid (HK.out.trans ((Fr.of_alloc _ _ _).trans hk))
  clear hk
  go_wp2_with fail
  refine (cat_any (l := [⟨#[32, 1, 0, 1]⟩, ⟨#[0, 2]⟩]) (by exact reads_built (cs := #[.string ⟨#[32, 1, 0, 1]⟩, .string ⟨#[0, 2]⟩]) (heap_alloc_new _ _)) (by decide) (by unfold Small; decide)).mono ?_
  rintro e w' ⟨rfl, hk⟩
  rw [c1]
  replace HK := Lib.hid (HK.out.trans ((Fr.of_alloc _ _ _).trans hk))
  clear hk
  go_wp2_with fail
  refine (of_any (l := [1, 2, 3]) (by exact reads_built (cs := #[.int .u16 1, .int .u16 2, .int .u16 3]) (heap_alloc_new _ _)) (by unfold Good; decide) (by decide)).mono ?_
  rintro e w' ⟨rfl, hk⟩
  rw [o3]
  replace HK := Lib.hid (HK.out.trans ((Fr.of_alloc _ _ _).trans hk))
  clear hk
  go_wp2_with fail
  refine (of_any (l := [9, 9]) (by exact reads_built (cs := #[.int .u16 9, .int .u16 9]) (heap_alloc_new _ _)) (by unfold Good; decide) (by decide)).mono ?_
  rintro e w' ⟨rfl, hk⟩
  rw [o4]
  replace HK := Lib.hid (HK.out.trans ((Fr.of_alloc _ _ _).trans hk))
  clear hk
  go_wp2_with fail
  refine (swap_any ⟨#[0, 1, 0, 2, 0, 3]⟩ 1 1 ⟨#[0, 9, 0, 9]⟩ _ (by decide) (by decide) (by decide)).mono ?_
  rintro e w' ⟨rfl, hk⟩
  rw [s1]
  replace HK := Lib.hid (HK.out.trans hk)
  clear hk
  go_wp2_with fail
  refine (swap_any ⟨#[32, 1, 0, 1]⟩ 2 1 ⟨#[]⟩ _ (by decide) (by decide) (by decide)).mono ?_
  rintro e w' ⟨rfl, hk⟩
  rw [s2]
  replace HK := Lib.hid (HK.out.trans hk)
  clear hk
  go_wp2_with fail
  refine (sub_any ⟨#[32, 1, 0, 1, 0, 2]⟩ 1 2 _ (by decide) (by decide)).mono ?_
  rintro e w' ⟨rfl, rfl⟩
  rw [b1]
  go_wp2_with fail
  refine (len_any ⟨#[32, 1, 0, 1]⟩ _ (by decide)).mono ?_
  rintro e w' ⟨rfl, rfl⟩
  go_wp2_with fail
  refine (at_kept ⟨#[32, 1, 0, 1]⟩ 1 _ (by decide)).mono ?_
  rintro e w' ⟨rfl, hk⟩
  rw [a1]
  replace HK := Lib.hid (HK.out.trans hk)
  clear hk
  go_wp2_with fail
  refine (at_kept ⟨#[32, 1, 0, 1]⟩ 2 _ (by decide)).mono ?_
  rintro e w' ⟨rfl, hk⟩
  rw [a2]
  replace HK := Lib.hid (HK.out.trans hk)
  clear hk
  go_wp2_with fail
  refine (may_any ⟨#[32, 1, 0, 1]⟩ _ (by decide)).mono ?_
  rintro e w' ⟨rfl, hk⟩
  rw [m1]
  replace HK := Lib.hid (HK.out.trans hk)
  clear hk
  go_wp2_with fail
  refine (may_any ⟨#[]⟩ _ (by decide)).mono ?_
  rintro e w' ⟨rfl, hk⟩
  rw [m2]
  replace HK := Lib.hid (HK.out.trans hk)
  clear hk
  go_wp2_with fail
  refine (of_any (l := [1, 2, 1, 2]) (by exact reads_built (cs := #[.int .u16 1, .int .u16 2, .int .u16 1, .int .u16 2]) (heap_alloc_new _ _)) (by unfold Good; decide) (by decide)).mono ?_
  rintro e w' ⟨rfl, hk⟩
  rw [o5]
  replace HK := Lib.hid (HK.out.trans ((Fr.of_alloc _ _ _).trans hk))
  clear hk
  go_wp2_with fail
  refine (of_any (l := [1, 2]) (by exact reads_built (cs := #[.int .u16 1, .int .u16 2]) (heap_alloc_new _ _)) (by unfold Good; decide) (by decide)).mono ?_
  rintro e w' ⟨rfl, hk⟩
  rw [o6]
  replace HK := Lib.hid (HK.out.trans ((Fr.of_alloc _ _ _).trans hk))
  clear hk
  go_wp2_with fail
  refine (find_any ⟨#[0, 1, 0, 2, 0, 1, 0, 2]⟩ ⟨#[0, 1, 0, 2]⟩ 1 _ (by decide) (by decide) (by decide)).mono ?_
  rintro e w' ⟨r, rfl, hr, hk⟩
  obtain rfl := f1 hr
  replace HK := Lib.hid (HK.out.trans hk)
  clear hk hr
  go_wp2_with fail
  refine (of_any (l := [8193, 1, 2]) (by exact reads_built (cs := #[.int .u16 8193, .int .u16 1, .int .u16 2]) (heap_alloc_new _ _)) (by unfold Good; decide) (by decide)).mono ?_
  rintro e w' ⟨rfl, hk⟩
  rw [o7]
  replace HK := Lib.hid (HK.out.trans ((Fr.of_alloc _ _ _).trans hk))
  clear hk
  go_wp2_with fail
  refine (of_any (l := [1, 9, 9, 3]) (by exact reads_built (cs := #[.int .u16 1, .int .u16 9, .int .u16 9, .int .u16 3]) (heap_alloc_new _ _)) (by unfold Good; decide) (by decide)).mono ?_
  rintro e w' ⟨rfl, hk⟩
  rw [o8]
  replace HK := Lib.hid (HK.out.trans ((Fr.of_alloc _ _ _).trans hk))
  clear hk
  go_wp2_with fail
  refine (of_any (l := [1, 2]) (by exact reads_built (cs := #[.int .u16 1, .int .u16 2]) (heap_alloc_new _ _)) (by unfold Good; decide) (by decide)).mono ?_
  rintro e w' ⟨rfl, hk⟩
  rw [o6]
  replace HK := Lib.hid (HK.out.trans ((Fr.of_alloc _ _ _).trans hk))
  clear hk
  go_wp2_with fail
  refine (less_any ⟨#[32, 1, 0, 1]⟩ ⟨#[32, 1, 0, 1, 0, 2]⟩ _ (by decide) (by decide)).mono ?_
  rintro e w' ⟨rfl, rfl⟩
  rw [l1]
  go_wp2_with fail
  refine (less_any ⟨#[32, 1, 0, 1, 0, 2]⟩ ⟨#[32, 1, 0, 1]⟩ _ (by decide) (by decide)).mono ?_
  rintro e w' ⟨rfl, rfl⟩
  rw [l2]
  go_wp2_with fail
  refine (atoms_any ⟨#[32, 1, 0, 1, 0, 2]⟩ _ (by decide)).mono ?_
  rintro e w' ⟨v, rfl, hrow, hk⟩
  obtain ⟨ao, c, rfl, _⟩ := own_slice hrow
  replace HK := Lib.hid (HK.out.trans hk)
  have hl : (cellsOf (atoms (bs ⟨#[32, 1, 0, 1, 0, 2]⟩))).length = 3 := by rfl
  rw [hl]
  clear hk hrow hl
  go_wp2_with fail
  go_ret
  exact ⟨rfl, HK.out⟩
end Go.Proofs.Ytbpkfaoaphegnaa
