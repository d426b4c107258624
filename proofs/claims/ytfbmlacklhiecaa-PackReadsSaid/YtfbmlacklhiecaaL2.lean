/- Contracts and lemmas: L2 -/
import Derived.Test.YtfbmlacklhiecaaP2
import Derived.Test.YtfbmlacklhiecaaP5
import Derived.Test.YtfbmlacklhiecaaL1
namespace Go.Proofs.Ytfbmlacklhiecaa
set_option linter.unusedVariables false
set_option linter.unusedSimpArgs false
open Go.RowKit Go.ChangeShapes Go.WideShapes
set_option maxRecDepth 20000

open Go.RowKit Go.ChangeShapes Go.WideShapes
set_option maxRecDepth 20000
theorem out_new (w : World) (B : Nat) : OutAt B w.heap.size (some []) (w.alloc (Obj.cells #[.int .i64 0, .slice none 0 0] 31)) :=
  ⟨_, heap_alloc_new w _, fun l hl => by cases hl; exact own_nil _ _ _ _⟩
theorem turn_reads {B b g : Nat} {w W : World} {cs : Array Value} (h : TurnB B b w W) (hg : w.heap[g]? = some (.cells cs 35 (0, 0))) (hb : g ≠ b) : Reads W (fun k => k = g) (.slice (some ⟨g, 0, none⟩) cs.size cs.size) cs.toList :=
  reads_built (h.other hg hb (by decide))
def aw1 : ByteArray := ofS [8193]
def aw2 : ByteArray := ofS [1, 2]
def awS : List UInt8 := [172, 2, 2, 97, 98, 2, 1, 32, 1, 2, 0, 1, 0, 2]
theorem aw_num : oNum (some []) 300 = some [172, 2] := by decide +kernel
theorem aw_text : oText (some [172, 2]) ⟨#[97, 98]⟩ = some [172, 2, 2, 97, 98] := by decide +kernel
theorem aw_set : oSet (some [172, 2, 2, 97, 98]) [aw1, aw2] = some awS := by decide +kernel
theorem aw_done : oDone (some awS) = (⟨#[172, 2, 2, 97, 98, 2, 1, 32, 1, 2, 0, 1, 0, 2]⟩, 0) := rfl
theorem aw_in1 : iNum (some awS) 1000 = (300, some [2, 97, 98, 2, 1, 32, 1, 2, 0, 1, 0, 2]) := by decide +kernel
theorem aw_in2 : iText (some [2, 97, 98, 2, 1, 32, 1, 2, 0, 1, 0, 2]) 2 = (⟨#[97, 98]⟩, some [2, 1, 32, 1, 2, 0, 1, 0, 2]) := by decide +kernel
theorem aw_in3 : iSet (some [2, 1, 32, 1, 2, 0, 1, 0, 2]) = ([aw1, aw2], some []) := by decide +kernel
theorem aw_in4 : iNum (some [6]) 5 = (0, none) := by decide +kernel
theorem kept_alloc {w w' : World} (h : Kept w w') (o : Obj) : Kept w (w'.alloc o) := h.trans (Fr.of_alloc _ _ _)
set_option maxHeartbeats 8000000 in
theorem awake_any (w : World) : Calls Try.prog 8 #[] w (KeptPost (.bool true) w) := by
  have H0 := Lib.hid (out_new w w.heap.size)
  have K0 := Lib.hid (Fr.of_alloc (fun _ => False) w (Obj.cells #[.int .i64 0, .slice none 0 0] 31))
  go_enter Try.func8, Try.ntmps8
  go_wp2_with fail
  generalize hwa : w.alloc (Obj.cells #[.int .i64 0, .slice none 0 0] 31) = wa at *
  clear hwa
  have HLT := Lib.hid H0.out.lt
  refine (onum_any 300 (by decide) (by decide) H0.out (by decide) K0.out.size).mono ?_
  rintro e w1 ⟨rfl, h1, t1⟩
  rw [aw_num] at h1
  have H1 := Lib.hid h1
  have K1 := Lib.hid (t1.over K0.out (Nat.le_refl _) (Nat.le_refl _))
  clear h1 t1
  go_wp2_with fail
  refine (otext_any ⟨#[97, 98]⟩ (by decide) H1.out (by decide) K1.out.size).mono ?_
  rintro e w2 ⟨rfl, h1, t1⟩
  rw [aw_text] at h1
  have H2 := Lib.hid h1
  have K2 := Lib.hid (t1.over K1.out (Nat.le_refl _) (Nat.le_refl _))
  clear h1 t1
  go_wp2_with fail
  have hr1 := reads_built (heap_alloc_new w2 (Obj.cells #[.int .u16 8193] 63))
  refine (rof_any (l := [8193]) (by exact hr1) (by intro x hx; simp at hx; omega) (by decide)).mono ?_
  rintro e w3 ⟨rfl, hk3⟩
  have K3 := Lib.hid ((kept_alloc (Fr.refl _ w2) _).trans hk3)
  clear hk3 hr1
  go_wp2_with fail
  have hr1 := reads_built (heap_alloc_new w3 (Obj.cells #[.int .u16 1, .int .u16 2] 63))
  refine (rof_any (l := [1, 2]) (by exact hr1) (by intro x hx; simp at hx; omega) (by decide)).mono ?_
  rintro e w4 ⟨rfl, hk4⟩
  have K4 := Lib.hid ((kept_alloc K3.out _).trans hk4)
  clear hk4 hr1
  go_wp2_with fail
  have K5 := Lib.hid (kept_alloc K4.out (Obj.cells #[.string aw1, .string aw2] 35))
  have HR5 := Lib.hid (heap_alloc_new w4 (Obj.cells #[.string aw1, .string aw2] 35))
  have HN5 : Hid (w4.heap.size ≠ w.heap.size) := Lib.hid (by have h1 := H2.out.lt; have h2 := K4.out.size; omega)
  refine (oset_any (l := [aw1, aw2]) (fun W hW => by exact turn_reads hW HR5.out HN5.out) (by decide) (by intro x hx; simp at hx; rcases hx with rfl | rfl <;> decide) (H2.out.kept K5.out) (by decide) (by have := (K2.out.trans K5.out).size; exact this)).mono ?_
  rintro e w6 ⟨rfl, h1, t1⟩
  rw [aw_set] at h1
  have H6 := Lib.hid h1
  have K6 := Lib.hid (t1.over (K2.out.trans K5.out) (Nat.le_refl _) (Nat.le_refl _))
  clear h1 t1 HR5 HN5
  go_wp2_with fail
  refine (odone_any H6.out).mono ?_
  rintro e w7 ⟨rfl, hk7⟩
  rw [aw_done]
  have K7 := Lib.hid (K6.out.trans hk7)
  clear hk7
  go_wp2_with fail
  refine (from_any ⟨#[172, 2, 2, 97, 98, 2, 1, 32, 1, 2, 0, 1, 0, 2]⟩ w7 (by decide)).mono ?_
  rintro e w8 ⟨rfl, h1, k1, _⟩
  have H8 : Hid (InAt w7.heap.size (some awS) w8) := Lib.hid h1
  have K8 := Lib.hid (K7.out.trans k1)
  have HB : Hid (w.heap.size ≤ w7.heap.size) := Lib.hid K7.out.size
  clear h1 k1
  generalize w7.heap.size = bi at *
  go_wp2_with fail
  refine (inum_any 1000 (by decide) (by decide) H8.out).mono ?_
  rintro e w9 ⟨rfl, h1, k1⟩
  rw [aw_in1] at h1 ⊢
  have H9 := Lib.hid h1
  have K9 := Lib.hid (fr_over k1 K8.out HB.out)
  clear h1 k1
  go_wp2_with fail
  refine (itext_any 2 (by decide) (by decide) H9.out).mono ?_
  rintro e w10 ⟨rfl, h1, k1⟩
  rw [aw_in2] at h1 ⊢
  have H10 := Lib.hid h1
  have K10 := Lib.hid (fr_over k1 K9.out HB.out)
  clear h1 k1
  go_wp2_with fail
  refine (ileft_any H10.out).mono ?_
  rintro e w11 ⟨rfl, rfl⟩
  have e9 : iLeft (some [2, 1, 32, 1, 2, 0, 1, 0, 2]) = 9 := rfl
  rw [e9]
  go_wp2_with fail
  refine (iset_any H10.out).mono ?_
  rintro e w12 ⟨u, rfl, ho, h1, k1⟩
  rw [aw_in3] at h1 ho
  obtain ⟨uo, uc, hu, _⟩ := own_slice ho
  subst hu
  have H12 : Hid (InAt bi (some []) w12) := Lib.hid h1
  have K12 := Lib.hid (fr_over k1 K10.out HB.out)
  clear h1 k1 ho
  go_wp2_with fail
  refine (idone_any H12.out).mono ?_
  rintro e w13 ⟨rfl, h1, k1⟩
  have K13 := Lib.hid (fr_over k1 K12.out HB.out)
  have e13 : (iDone (some [])).1 = 0 := rfl
  rw [e13]
  clear h1 k1
  go_wp2_with fail
  refine (from_any ⟨#[6]⟩ w13 (by decide)).mono ?_
  rintro e w14 ⟨rfl, h1, k1, _⟩
  have H14 : Hid (InAt w13.heap.size (some [6]) w14) := Lib.hid h1
  have K14 := Lib.hid (K13.out.trans k1)
  have HB2 : Hid (w.heap.size ≤ w13.heap.size) := Lib.hid K13.out.size
  clear h1 k1
  generalize w13.heap.size = bk at *
  go_wp2_with fail
  refine (inum_any 5 (by decide) (by decide) H14.out).mono ?_
  rintro e w15 ⟨rfl, h1, k1⟩
  rw [aw_in4] at h1 ⊢
  have H15 : Hid (InAt bk none w15) := Lib.hid h1
  have K15 := Lib.hid (fr_over k1 K14.out HB2.out)
  clear h1 k1
  go_wp2_with fail
  refine (idone_any H15.out).mono ?_
  rintro e w16 ⟨rfl, h1, k1⟩
  have H16 : Hid (InAt bk none w16) := Lib.hid h1
  have K16 := Lib.hid (fr_over k1 K15.out HB2.out)
  have e16 : (iDone none).1 = 2 := rfl
  rw [e16]
  clear h1 k1
  go_wp2_with fail
  refine (ileft_any H16.out).mono ?_
  rintro e w17 ⟨rfl, rfl⟩
  have e17 : iLeft none = 0 := rfl
  rw [e17]
  go_wp2
  go_ret
  exact ⟨rfl, K16.out⟩

end Go.Proofs.Ytfbmlacklhiecaa
