/- awake of the laws of layer 3: it answers true, and turns nothing that was there. -/
import Derived.Test.YtdapklamemalgaaRefF
namespace Go.Proofs.Ytdapklamemalgaa
set_option linter.unusedVariables false
set_option linter.unusedSimpArgs false
open Go.RowKit

def wA : ByteArray := ⟨#[32, 1]⟩
def wB : ByteArray := ⟨#[32, 2]⟩
def wAB : ByteArray := ⟨#[32, 1, 32, 2]⟩
def wBB : ByteArray := ⟨#[32, 2, 32, 2]⟩
def wDB : ByteArray := ⟨#[0, 1, 32, 2]⟩
theorem o1 : ofS [8193] = wA := by rfl
theorem o2 : ofS [8194] = wB := by rfl
theorem o3 : ofS [1, 8194] = wDB := by rfl
theorem ab : wA ++ wB = wAB := by decide +kernel
theorem bb : wB ++ wB = wBB := by decide +kernel
theorem y1 : ofL [wAB, wA, wA] = ([wA, wAB], 0) := by decide +kernel
theorem y2 : quoteL [wA, wB] [wB] = ([wAB, wBB], 0) := by decide +kernel
theorem y3 : forL [wA] [wB] = ([wDB, wAB], 0) := by decide +kernel
theorem y4 : asL [wA, wAB] 8193 = ([], 1) := by decide +kernel
theorem y5 : andL [wA] [wB] = ([wA, wB], 0) := by decide +kernel
theorem y6 : ofL [] = ([], 3) := by decide +kernel
theorem y7 : mayL [wA, wAB] = true := by decide +kernel
theorem y8 : mayL [] = false := by decide +kernel
theorem y9 : hasL [wA, wAB] wAB = true := by decide +kernel
theorem y10 : withinL [wA] [wA, wAB] = true := by decide +kernel
theorem y11 : sameL [wA, wAB] [wAB, wBB] = false := by decide +kernel
theorem y12 : heavyL [wA, wAB] = 2 := by decide +kernel
theorem eq_self (l : List ByteArray) : decide (l = l) = true := by simp
theorem alloc_two {w : World} {a b : Obj} : ((w.alloc a).alloc b).heap[w.heap.size + 1]? = some b := by
  have := heap_alloc_new (w.alloc a) b
  simpa using this
theorem equal_kept {w : World} {G G' : Nat → Prop} {va vb : Value} {a b : List ByteArray} (ha : Reads w G va (wcells a)) (hb : Reads w G' vb (wcells b)) (hla : a.length ≤ 100000) (hlb : b.length ≤ 100000) :
    Calls Try.prog 14 #[va, vb] w (KeptPost (.bool (decide (a = b))) w) := (equal_any ha hb hla hlb).mono fun _ _ h => h.kept
def Words4 (l : List ByteArray) : Prop := ∀ s ∈ l, s = wA ∨ s = wB ∨ s = wAB ∨ s = wBB ∨ s = wDB
theorem small_four {n : Nat} {l : List ByteArray} (h : Words4 l) (hn : 4 ≤ n) : Small n l := fun s hs => by
  have h4 : s.size ≤ 4 := by rcases h s hs with rfl | rfl | rfl | rfl | rfl <;> decide
  omega
theorem reads_one {w : World} {x : ByteArray} : Reads (w.alloc (Obj.cells #[.string x] 36)) (fun _ => True) (.slice (some ⟨w.heap.size, 0, none⟩) 1 1) (wcells [x]) := (reads_built (heap_alloc_new w (Obj.cells #[.string x] 36))).any
theorem reads_two {w : World} {x y : ByteArray} : Reads (w.alloc (Obj.cells #[.string x, .string y] 36)) (fun _ => True) (.slice (some ⟨w.heap.size, 0, none⟩) 2 2) (wcells [x, y]) := (reads_built (heap_alloc_new w (Obj.cells #[.string x, .string y] 36))).any
theorem reads_three {w : World} {x y z : ByteArray} : Reads (w.alloc (Obj.cells #[.string x, .string y, .string z] 36)) (fun _ => True) (.slice (some ⟨w.heap.size, 0, none⟩) 3 3) (wcells [x, y, z]) := (reads_built (heap_alloc_new w (Obj.cells #[.string x, .string y, .string z] 36))).any
theorem reads_behind {w : World} {a : Obj} {x : ByteArray} : Reads ((w.alloc a).alloc (Obj.cells #[.string x] 36)) (fun _ => True) (.slice (some ⟨w.heap.size + 1, 0, none⟩) 1 1) (wcells [x]) := (reads_built (cs := #[.string x]) alloc_two).any
theorem reads_nil {w : World} : Reads w (fun _ => True) (.slice none 0 0) (wcells []) := ⟨none, 0, rfl, by simp [wcells], fun i x hi => by simp [wcells] at hi⟩

def AwakePost (w : World) (e : Ending) (w' : World) : Prop := e = .returned (.bool true) ∧ Kept w w'

set_option maxHeartbeats 4000000 in
set_option maxRecDepth 100000 in
theorem awake_any (w : World) : Calls Try.prog 9 #[] w (AwakePost w) := by
  have HK : Hid (Kept w w) := Lib.hid (Fr.refl _ _)
  have hab : wA ++ wB = wAB := ab
  have hbb : wB ++ wB = wBB := bb
  go_enter Try.func9, Try.ntmps9
  go_wp2_with fail
  refine (rof_any (l := [8193]) (by exact reads_built (cs := #[.int .u16 8193]) (heap_alloc_new _ _)) (by unfold Good; decide) (by decide)).mono ?_
  rintro e w' ⟨rfl, hk⟩
  rw [o1]
  replace HK := Lib.hid (HK.out.trans ((Fr.of_alloc _ _ _).trans hk))
  clear hk
  go_wp2_with fail
  refine (rof_any (l := [8194]) (by exact reads_built (cs := #[.int .u16 8194]) (heap_alloc_new _ _)) (by unfold Good; decide) (by decide)).mono ?_
  rintro e w' ⟨rfl, hk⟩
  rw [o2]
  replace HK := Lib.hid (HK.out.trans ((Fr.of_alloc _ _ _).trans hk))
  clear hk
  go_wp2_with fail
  refine (of_set (l := [wAB, wA, wA]) (by exact reads_three) (by simp) (small_four (by unfold Words4; simp) (by decide))).mono ?_
  rintro e w' ⟨v, rfl, ho, hk⟩
  rw [y1] at ho ⊢
  replace HK := Lib.hid (HK.out.trans ((Fr.of_alloc _ _ _).trans hk))
  have HS := Lib.hid (Reads.of_row ho).any
  clear hk ho
  go_wp2_with fail
  refine (quote_any (a := [wA, wB]) (b := [wB]) (by exact reads_two.new (Fr.of_alloc _ _ _)) (by exact reads_behind) (by simp) (by simp) (small_four (by unfold Words4; simp) (by decide)) (small_four (by unfold Words4; simp) (by decide))).mono ?_
  rintro e w' ⟨v, rfl, ho, hk⟩
  rw [y2] at ho ⊢
  replace HK := Lib.hid (HK.out.trans (((Fr.of_alloc _ _ _).trans (Fr.of_alloc _ _ _)).trans hk))
  replace HS := Lib.hid (HS.out.new (((Fr.of_alloc _ _ _).trans (Fr.of_alloc _ _ _)).trans hk))
  have HQ := Lib.hid (Reads.of_row ho).any
  clear hk ho
  go_wp2_with fail
  refine (for_any (a := [wA]) (b := [wB]) (by exact reads_one.new (Fr.of_alloc _ _ _)) (by exact reads_behind) (by simp) (by simp) (small_four (by unfold Words4; simp) (by decide)) (small_four (by unfold Words4; simp) (by decide))).mono ?_
  rintro e w' ⟨v, rfl, ho, hk⟩
  rw [y3] at ho ⊢
  replace HK := Lib.hid (HK.out.trans (((Fr.of_alloc _ _ _).trans (Fr.of_alloc _ _ _)).trans hk))
  replace HS := Lib.hid (HS.out.new (((Fr.of_alloc _ _ _).trans (Fr.of_alloc _ _ _)).trans hk))
  replace HQ := Lib.hid (HQ.out.new (((Fr.of_alloc _ _ _).trans (Fr.of_alloc _ _ _)).trans hk))
  have HD := Lib.hid (Reads.of_row ho).any
  clear hk ho
  go_wp2_with fail
  refine (as_any (a := [wA, wAB]) (r := 8193) HS.out (by simp) (small_four (by unfold Words4; simp) (by decide)) (by omega) (by omega)).mono ?_
  rintro e w' ⟨v, rfl, ho, hk⟩
  rw [y4] at ho ⊢
  replace HK := Lib.hid (HK.out.trans hk)
  replace HS := Lib.hid (HS.out.new hk)
  replace HQ := Lib.hid (HQ.out.new hk)
  replace HD := Lib.hid (HD.out.new hk)
  clear hk ho
  go_wp2_with fail
  refine (and_any (a := [wA]) (b := [wB]) (by exact reads_one.new (Fr.of_alloc _ _ _)) (by exact reads_behind) (by simp) (by simp) (small_four (by unfold Words4; simp) (by decide)) (small_four (by unfold Words4; simp) (by decide))).mono ?_
  rintro e w' ⟨v, rfl, ho, hk⟩
  rw [y5] at ho ⊢
  replace HK := Lib.hid (HK.out.trans (((Fr.of_alloc _ _ _).trans (Fr.of_alloc _ _ _)).trans hk))
  replace HS := Lib.hid (HS.out.new (((Fr.of_alloc _ _ _).trans (Fr.of_alloc _ _ _)).trans hk))
  replace HQ := Lib.hid (HQ.out.new (((Fr.of_alloc _ _ _).trans (Fr.of_alloc _ _ _)).trans hk))
  replace HD := Lib.hid (HD.out.new (((Fr.of_alloc _ _ _).trans (Fr.of_alloc _ _ _)).trans hk))
  have HN := Lib.hid (Reads.of_row ho).any
  clear hk ho
  go_wp2_with fail
  refine (of_set (l := []) (by exact reads_nil) (by simp) (fun s hs => by cases hs)).mono ?_
  rintro e w' ⟨v, rfl, ho, hk⟩
  rw [y6] at ho ⊢
  replace HK := Lib.hid (HK.out.trans hk)
  replace HS := Lib.hid (HS.out.new hk)
  replace HQ := Lib.hid (HQ.out.new hk)
  replace HD := Lib.hid (HD.out.new hk)
  replace HN := Lib.hid (HN.out.new hk)
  clear hk ho
  go_wp2_with fail
  refine (equal_kept (a := [wA, wAB]) (b := [wA, wAB]) (HS.out.new (Fr.of_alloc _ _ _)) (by exact reads_two) (by simp) (by simp)).mono ?_
  rintro e w' ⟨rfl, hk⟩
  rw [eq_self]
  replace HK := Lib.hid (HK.out.trans ((Fr.of_alloc _ _ _).trans hk))
  replace HS := Lib.hid (HS.out.new ((Fr.of_alloc _ _ _).trans hk))
  replace HQ := Lib.hid (HQ.out.new ((Fr.of_alloc _ _ _).trans hk))
  replace HD := Lib.hid (HD.out.new ((Fr.of_alloc _ _ _).trans hk))
  replace HN := Lib.hid (HN.out.new ((Fr.of_alloc _ _ _).trans hk))
  clear hk
  go_wp2_with fail
  refine (equal_kept (a := [wAB, wBB]) (b := [wAB, wBB]) (HQ.out.new (Fr.of_alloc _ _ _)) (by exact reads_two) (by simp) (by simp)).mono ?_
  rintro e w' ⟨rfl, hk⟩
  rw [eq_self]
  replace HK := Lib.hid (HK.out.trans ((Fr.of_alloc _ _ _).trans hk))
  replace HS := Lib.hid (HS.out.new ((Fr.of_alloc _ _ _).trans hk))
  replace HQ := Lib.hid (HQ.out.new ((Fr.of_alloc _ _ _).trans hk))
  replace HD := Lib.hid (HD.out.new ((Fr.of_alloc _ _ _).trans hk))
  replace HN := Lib.hid (HN.out.new ((Fr.of_alloc _ _ _).trans hk))
  clear hk
  go_wp2_with fail
  refine (rof_any (l := [1, 8194]) (by exact reads_built (cs := #[.int .u16 1, .int .u16 8194]) (heap_alloc_new _ _)) (by unfold Good; decide) (by decide)).mono ?_
  rintro e w' ⟨rfl, hk⟩
  rw [o3]
  replace HK := Lib.hid (HK.out.trans ((Fr.of_alloc _ _ _).trans hk))
  replace HS := Lib.hid (HS.out.new ((Fr.of_alloc _ _ _).trans hk))
  replace HQ := Lib.hid (HQ.out.new ((Fr.of_alloc _ _ _).trans hk))
  replace HD := Lib.hid (HD.out.new ((Fr.of_alloc _ _ _).trans hk))
  replace HN := Lib.hid (HN.out.new ((Fr.of_alloc _ _ _).trans hk))
  clear hk
  go_wp2_with fail
  refine (equal_kept (a := [wDB, wAB]) (b := [wDB, wAB]) (HD.out.new (Fr.of_alloc _ _ _)) (by exact reads_two) (by simp) (by simp)).mono ?_
  rintro e w' ⟨rfl, hk⟩
  rw [eq_self]
  replace HK := Lib.hid (HK.out.trans ((Fr.of_alloc _ _ _).trans hk))
  replace HS := Lib.hid (HS.out.new ((Fr.of_alloc _ _ _).trans hk))
  replace HQ := Lib.hid (HQ.out.new ((Fr.of_alloc _ _ _).trans hk))
  replace HD := Lib.hid (HD.out.new ((Fr.of_alloc _ _ _).trans hk))
  replace HN := Lib.hid (HN.out.new ((Fr.of_alloc _ _ _).trans hk))
  clear hk
  go_wp2_with fail
  refine (equal_kept (a := [wA, wB]) (b := [wA, wB]) (HN.out.new (Fr.of_alloc _ _ _)) (by exact reads_two) (by simp) (by simp)).mono ?_
  rintro e w' ⟨rfl, hk⟩
  rw [eq_self]
  replace HK := Lib.hid (HK.out.trans ((Fr.of_alloc _ _ _).trans hk))
  replace HS := Lib.hid (HS.out.new ((Fr.of_alloc _ _ _).trans hk))
  replace HQ := Lib.hid (HQ.out.new ((Fr.of_alloc _ _ _).trans hk))
  replace HD := Lib.hid (HD.out.new ((Fr.of_alloc _ _ _).trans hk))
  replace HN := Lib.hid (HN.out.new ((Fr.of_alloc _ _ _).trans hk))
  clear hk
  go_wp2_with fail
  refine (may_set (l := [wA, wAB]) HS.out (by simp) (small_four (by unfold Words4; simp) (by decide))).mono ?_
  rintro e w' ⟨rfl, hk⟩
  rw [y7]
  replace HK := Lib.hid (HK.out.trans hk)
  replace HS := Lib.hid (HS.out.new hk)
  replace HQ := Lib.hid (HQ.out.new hk)
  replace HD := Lib.hid (HD.out.new hk)
  replace HN := Lib.hid (HN.out.new hk)
  clear hk
  go_wp2_with fail
  refine (may_set (l := []) (by exact reads_nil) (by simp) (fun s hs => by cases hs)).mono ?_
  rintro e w' ⟨rfl, hk⟩
  rw [y8]
  replace HK := Lib.hid (HK.out.trans hk)
  replace HS := Lib.hid (HS.out.new hk)
  replace HQ := Lib.hid (HQ.out.new hk)
  replace HD := Lib.hid (HD.out.new hk)
  replace HN := Lib.hid (HN.out.new hk)
  clear hk
  go_wp2_with fail
  refine (has_any (l := [wA, wAB]) (x := wAB) HS.out (by simp) (small_four (by unfold Words4; simp) (by decide)) (by decide)).mono ?_
  rintro e w' ⟨rfl, rfl⟩
  rw [y9]
  go_wp2_with fail
  refine (within_any (a := [wA]) (b := [wA, wAB]) (by exact reads_one) (HS.out.new (Fr.of_alloc _ _ _)) (by simp) (by simp) (small_four (by unfold Words4; simp) (by decide)) (small_four (by unfold Words4; simp) (by decide))).mono ?_
  rintro e w' ⟨rfl, hk⟩
  rw [y10]
  replace HK := Lib.hid (HK.out.trans ((Fr.of_alloc _ _ _).trans hk))
  replace HS := Lib.hid (HS.out.new ((Fr.of_alloc _ _ _).trans hk))
  replace HQ := Lib.hid (HQ.out.new ((Fr.of_alloc _ _ _).trans hk))
  replace HD := Lib.hid (HD.out.new ((Fr.of_alloc _ _ _).trans hk))
  replace HN := Lib.hid (HN.out.new ((Fr.of_alloc _ _ _).trans hk))
  clear hk
  go_wp2_with fail
  refine (same_any (a := [wA, wAB]) (b := [wAB, wBB]) HS.out HQ.out (by simp) (by simp) (small_four (by unfold Words4; simp) (by decide)) (small_four (by unfold Words4; simp) (by decide))).mono ?_
  rintro e w' ⟨rfl, hk⟩
  rw [y11]
  replace HK := Lib.hid (HK.out.trans hk)
  replace HS := Lib.hid (HS.out.new hk)
  replace HQ := Lib.hid (HQ.out.new hk)
  replace HD := Lib.hid (HD.out.new hk)
  replace HN := Lib.hid (HN.out.new hk)
  clear hk
  go_wp2_with fail
  refine (heavy_any (l := [wA, wAB]) HS.out (by simp) (small_four (by unfold Words4; simp) (by decide))).mono ?_
  rintro e w' ⟨rfl, rfl⟩
  rw [y12]
  go_wp2
  go_ret
  exact ⟨rfl, HK.out⟩
end Go.Proofs.Ytdapklamemalgaa
