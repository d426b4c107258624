/- awake of the laws of layer 1: it answers true, and turns nothing that was there. -/
import Derived.Test.YtcpgfcpmjalacaaLoad
namespace Go.Proofs.Ytcpgfcpmjalacaa
open Go.RowKit

/-- a table of the call's own -/
structure OInv (w wr : World) (B : Nat) (L : Nat → List ByteArray) (F : Nat → Prop) : Prop where
  tab : Tab wr F B L
  low : ∀ j, F j → w.heap.size ≤ j
  fr : Fr (fun _ => False) w wr

theorem OInv.step {w wr w' : World} {B : Nat} {L L' : Nat → List ByteArray} {F : Nat → Prop} (h : OInv w wr B L F) (hf : Fr F wr w') (ht : Tab w' (grown F wr w') B L') :
    OInv w w' B L' (grown F wr w') := by
  refine ⟨ht, ?_, ?_⟩
  · intro j hj
    rcases hj with hj | hj
    · exact h.low j hj
    · have := h.fr.size; omega
  · refine ⟨hf.os.trans h.fr.os, hf.tape.trans h.fr.tape, hf.output.trans h.fr.output, Nat.le_trans h.fr.size hf.size, fun k hk _ => ?_⟩
    exact (hf.block k (Nat.lt_of_lt_of_le hk h.fr.size) (fun hF => by have := h.low k hF; omega)).trans (h.fr.block k hk (fun x => x))

theorem OInv.new {w wr w' : World} {B : Nat} {L : Nat → List ByteArray} {F : Nat → Prop} (h : OInv w wr B L F) (hf : Fr (fun _ => False) wr w') : OInv w w' B L F :=
  ⟨h.tab.same hf (fun _ _ x => x), h.low, h.fr.trans hf⟩

theorem Fr.of_drewN (F : Nat → Prop) (w : World) (n : Nat) : Fr F w (w.drewN n) := ⟨rfl, rfl, rfl, Nat.le_refl _, fun _ _ _ => rfl⟩

theorem OInv.start {w w' : World} {B : Nat} (hf : Fr (fun _ => False) w w') (ht : Tab w' (grown (fun _ => False) w w') B noL) : OInv w w' B noL (grown (fun _ => False) w w') :=
  ⟨ht, fun j hj => by rcases hj with hj | hj; exact hj.elim; exact hj.1, hf⟩

def k1 : ByteArray := ⟨#[107, 49]⟩
def k2 : ByteArray := ⟨#[107, 50]⟩
def L1 := putL noL 1 k1
def L2 := putL L1 3 k1
def L3 := putL L2 1 k2
theorem a1 : putA noL 1 k1 = 8193 := by decide +kernel
theorem b1 : putE noL 1 k1 = 0 := by decide +kernel
theorem a2 : putA L1 3 k1 = 24577 := by decide +kernel
theorem b2 : putE L1 3 k1 = 0 := by decide +kernel
theorem a3 : putA L2 1 k2 = 8194 := by decide +kernel
theorem b3 : putE L2 1 k2 = 0 := by decide +kernel
theorem a4 : putA L3 1 k1 = 8193 := by decide +kernel
theorem b4 : putE L3 1 k1 = 0 := by decide +kernel
theorem c4 : putL L3 1 k1 = L3 := by
  have : numS L3 1 k1 = 1 := by decide +kernel
  simp [putL, this]
theorem a5 : putA L3 1 ⟨#[75]⟩ = 0 := by decide +kernel
theorem b5 : putE L3 1 ⟨#[75]⟩ = 2 := by decide +kernel
theorem c5 : putL L3 1 ⟨#[75]⟩ = L3 := by simp [putL, b5]
theorem a6 : putA L3 0 ⟨#[97]⟩ = 0 := by decide +kernel
theorem b6 : putE L3 0 ⟨#[97]⟩ = 1 := by decide +kernel
theorem c6 : putL L3 0 ⟨#[97]⟩ = L3 := by simp [putL, b6]
theorem c1 : putL noL 1 k1 = L1 := rfl
theorem c2 : putL L1 3 k1 = L2 := rfl
theorem c3 : putL L2 1 k2 = L3 := rfl
theorem n1 : nameOf L3 1 = some ⟨#[68]⟩ := by decide +kernel
theorem n2 : nameOf L3 8194 = some ⟨#[107, 50]⟩ := by decide +kernel
def src0 (k : Nat) : List ByteArray := if k = 1 then [k1, k1] else []
theorem l0 : (loadS src0).1 = 11 := by decide +kernel
theorem len0 : lenS L3 1 = 2 := by decide +kernel
theorem all0 : allS L3 3 = [k1] := by decide +kernel
theorem may0 : mayB (ByteArray.mk #[97, 45, 49]).data.toList = true := by decide +kernel
theorem may1 : mayB (ByteArray.mk #[]).data.toList = false := by decide +kernel

/-- six values -/
def six (a b c d e f : Value) (k : Nat) : Value := match k with | 0 => a | 1 => b | 2 => c | 3 => d | 4 => e | _ => f

theorem reads_nil (w : World) : Reads w (fun _ => True) (.slice none 0 0) [] := ⟨none, 0, rfl, fun i s h => by simp at h⟩

theorem awake_src (w : World) : ∀ k, k < 6 → Reads ((w.alloc (.cells #[] 9)).alloc (.cells #[.string ⟨#[107, 49]⟩, .string ⟨#[107, 49]⟩] 9)) (fun _ => True)
    (six (.slice (some ⟨w.heap.size, 0, none⟩) 0 0) (.slice (some ⟨w.heap.size + 1, 0, none⟩) 2 2) (.slice none 0 0) (.slice none 0 0) (.slice none 0 0) (.slice none 0 0) k) (src0 k) := by
  intro k hk
  match k, hk with
  | 0, _ => exact ⟨_, 0, rfl, fun i s h => by simp [src0] at h⟩
  | 1, _ =>
    refine ⟨_, 2, rfl, fun i s h => ⟨w.heap.size + 1, 0, rfl, trivial, ?_⟩⟩
    have hb := heap_alloc_new (w.alloc (.cells #[] 9)) (.cells #[.string ⟨#[107, 49]⟩, .string ⟨#[107, 49]⟩] 9)
    have hs : (w.alloc (.cells #[] 9)).heap.size = w.heap.size + 1 := by simp
    rw [hs] at hb
    rw [cell_arr hb]
    match i, h with
    | 0, h => simp [src0] at h; subst h; rfl
    | 1, h => simp [src0] at h; subst h; rfl
    | i + 2, h => simp [src0] at h
  | 2, _ => exact reads_nil _
  | 3, _ => exact reads_nil _
  | 4, _ => exact reads_nil _
  | 5, _ => exact reads_nil _

def AwakePost (w : World) (e : Ending) (w' : World) : Prop := e = .returned (.bool true) ∧ Fr (fun _ => False) w w'

theorem tw1 : (Lit.int .i64 1).wf = true := by decide
theorem tw3 : (Lit.int .i64 3).wf = true := by decide
theorem tw0 : (Lit.int .i64 0).wf = true := by decide

set_option maxHeartbeats 4000000 in
set_option maxRecDepth 100000 in
theorem awake_any (w : World) : Calls Try.prog 9 #[] w (AwakePost w) := by
  go_enter Try.func9, Try.ntmps9
  go_wp2_with fail
  refine (new_tab _).mono ?_
  rintro e w1 ⟨B, hB, rfl, hfr, htab⟩
  have H0 := Lib.hid (OInv.start hfr htab)
  clear hfr htab hB
  go_wp2_with fail
  refine (put_any H0.out.tab 1 k1 tw1 (by decide)).mono ?_
  rintro e w2 ⟨rfl, hfr, htab⟩
  have H1 := Lib.hid (H0.out.step hfr htab)
  clear hfr htab H0
  rw [a1, b1]
  rw [c1] at H1
  go_wp2_with fail
  refine (put_any H1.out.tab 3 k1 tw3 (by decide)).mono ?_
  rintro e w3 ⟨rfl, hfr, htab⟩
  have H2 := Lib.hid (H1.out.step hfr htab)
  clear hfr htab H1
  rw [a2, b2]
  rw [c2] at H2
  go_wp2_with fail
  refine (put_any H2.out.tab 1 k2 tw1 (by decide)).mono ?_
  rintro e w4 ⟨rfl, hfr, htab⟩
  have H3 := Lib.hid (H2.out.step hfr htab)
  clear hfr htab H2
  rw [a3, b3]
  rw [c3] at H3
  go_wp2_with fail
  refine (put_any H3.out.tab 1 k1 tw1 (by decide)).mono ?_
  rintro e w5 ⟨rfl, hfr, htab⟩
  have H4 := Lib.hid (H3.out.step hfr htab)
  clear hfr htab H3
  rw [a4, b4]
  rw [c4] at H4
  go_wp2_with fail
  refine (put_any H4.out.tab 1 ⟨#[75]⟩ tw1 (by decide)).mono ?_
  rintro e w6 ⟨rfl, hfr, htab⟩
  have H5 := Lib.hid (H4.out.step hfr htab)
  clear hfr htab H4
  rw [a5, b5]
  rw [c5] at H5
  go_wp2_with fail
  refine (put_any H5.out.tab 0 ⟨#[97]⟩ tw0 (by decide)).mono ?_
  rintro e w7 ⟨rfl, hfr, htab⟩
  have H6 := Lib.hid (H5.out.step hfr htab)
  clear hfr htab H5
  rw [a6, b6]
  rw [c6] at H6
  go_wp2_with fail
  refine (name_any H6.out.tab 1 (by decide) (by decide)).mono ?_
  rintro e w8 ⟨rfl, q8, rfl⟩
  rw [n1]
  have H7 := Lib.hid (H6.out.new (Fr.of_drewN _ _ q8))
  clear H6
  generalize w7.drewN q8 = w8 at *
  simp only [nameV, Option.getD_some, Option.isSome_some]
  go_wp2_with fail
  refine (name_any H7.out.tab 8194 (by decide) (by decide)).mono ?_
  rintro e w9 ⟨rfl, q9, rfl⟩
  rw [n2]
  have H8 := Lib.hid (H7.out.new (Fr.of_drewN _ _ q9))
  clear H7
  generalize w8.drewN q9 = w9 at *
  simp only [nameV, Option.getD_some, Option.isSome_some]
  go_wp2_with fail
  have HL := Lib.hid (load_any (six (.slice (some ⟨w9.heap.size, 0, none⟩) 0 0) (.slice (some ⟨w9.heap.size + 1, 0, none⟩) 2 2) (.slice none 0 0) (.slice none 0 0) (.slice none 0 0) (.slice none 0 0)) src0 (awake_src w9)
    (fun k _ s h => by unfold src0 at h; split at h <;> simp at h; subst h; decide) (fun k _ => by unfold src0; split <;> decide))
  refine HL.out.mono ?_
  rintro e w10 ⟨hfr, h⟩
  rcases h with ⟨h0, _⟩ | ⟨_, rfl⟩
  · rw [l0] at h0; exact absurd h0 (by decide)
  rw [l0]
  have H9 := Lib.hid (H8.out.new (((Fr.of_alloc _ _ _).trans (Fr.of_alloc _ _ _)).trans hfr))
  clear H8 HL hfr
  go_wp2_with fail
  refine (len_any H9.out.tab 1).mono ?_
  rintro e w11 ⟨rfl, rfl⟩
  rw [len0]
  go_wp2_with fail
  refine (all_any H9.out.tab 3).mono ?_
  rintro e w11 ⟨v11, rfl, hrow, hfr⟩
  rw [all0] at hrow
  obtain ⟨ao, c, rfl, _⟩ := Reads.of_row hrow
  have H10 := Lib.hid (H9.out.new hfr)
  clear H9 hfr hrow
  go_wp2_with fail
  refine (kind_any _ _ (by decide) (by decide)).mono ?_
  rintro e w12 ⟨rfl, rfl⟩
  go_wp2_with fail
  refine (number_any _ _ (by decide) (by decide)).mono ?_
  rintro e w12 ⟨rfl, rfl⟩
  go_wp2_with fail
  refine (may_any _ _ (by decide)).mono ?_
  rintro e w12 ⟨rfl, rfl⟩
  rw [may0]
  go_wp2_with fail
  refine (may_any _ _ (by decide)).mono ?_
  rintro e w12 ⟨rfl, rfl⟩
  rw [may1]
  go_wp2_with fail
  go_ret
  exact ⟨rfl, H10.out.fr⟩
end Go.Proofs.Ytcpgfcpmjalacaa
