/- Contracts and lemmas: Lead -/
import Derived.Test.YtdapdpmplbifdaaDoorLeaf
import Derived.Laws.RangeAny
import Derived.Lib.OthersKept
namespace Go.Proofs.YtdapdpmplbifdaaDoor
set_option linter.unusedVariables false
set_option linter.unusedSimpArgs false
open Go.RowKit Go.ChangeShapes Go.WideShapes
theorem scan_len {q : UInt8 → Bool} {s : ByteArray} {pos : Nat} (h : Scan q s 0 pos) (hp : pos < s.size → q (s.get! pos) = false) : ((bs s).takeWhile q).length = pos := by
  have := (h.stop hp).2.1
  simpa using this
theorem wide_pos {s : ByteArray} {pos : Nat} (hlt : pos < s.size) : 1 ≤ (Utf8.decode s pos).2 := by
  by_cases h128 : (s[pos]'hlt).toNat < 128
  · rw [decode_ascii s pos hlt h128]; exact Nat.le_refl _
  · exact (decode_high s pos hlt (by omega)).2
theorem decode_small {s : ByteArray} {pos : Nat} (hlt : pos < s.size) (h : (s.get! pos).toNat < 128) : Utf8.decode s pos = ((s.get! pos).toNat, 1) := by
  rw [get_bang s pos hlt] at h ⊢
  exact decode_ascii s pos hlt h
theorem decode_far {s : ByteArray} {pos : Nat} (hlt : pos < s.size) (h : 128 ≤ (s.get! pos).toNat) : (128 : Int) ≤ ((Utf8.decode s pos).1 : Nat) := by
  rw [get_bang s pos hlt] at h
  have := (decode_high s pos hlt h).1
  omega
/-- what is told of the rune at a place by its first byte -/
theorem rune_tells {p : Int → Bool} {q : UInt8 → Bool} (hb : ∀ c : UInt8, p c.toNat = q c) (hf : ∀ r : Int, 128 ≤ r → p r = false) {s : ByteArray} {pos : Nat} (hlt : pos < s.size) :
    p ((Utf8.decode s pos).1 : Nat) = q (s.get! pos) ∧ (q (s.get! pos) = true → (Utf8.decode s pos).2 = 1) := by
  by_cases h : (s.get! pos).toNat < 128
  · rw [decode_small hlt h]
    exact ⟨hb _, fun _ => rfl⟩
  · have h2 : q (s.get! pos) = false := by rw [← hb]; exact hf _ (by omega)
    rw [h2]
    exact ⟨hf _ (decode_far hlt (by omega)), fun e => by cases e⟩
set_option maxHeartbeats 1000000 in
theorem klead_any (g : Nat) (p : Int → Bool) (q : UInt8 → Bool) (eg : ∀ args w, (callFunc g args).run Tryd.prog w = .ok (.enter g args) w)
    (hp : ∀ (r : Int) (W : World), Calls Tryd.prog g #[.int .i32 r] W fun e w' => e = .returned (.bool (p r)) ∧ W = w')
    (hb : ∀ c : UInt8, p c.toNat = q c) (hf : ∀ r : Int, 128 ≤ r → p r = false) (s : ByteArray) (w : World) (hs : s.size ≤ 1000000) :
    Calls Tryd.prog 71 #[.string s, .func (.func g) #[] #[]] w (KeptPost (.int .i64 (((bs s).takeWhile q).length : Nat)) w) := by
  have H0 : Hid ((w.iter s 0).heap[w.heap.size]? = some (.stringIter s 0) ∧ Kept w (w.iter s 0)) := Lib.hid ⟨World.iter_heap w s 0, Fr.of_alloc _ _ _⟩
  have H1 : Hid (Scan q s 0 0) := Lib.hid (.first (Nat.zero_le _))
  have HP := Lib.hid hp
  have HB := Lib.hid hb
  have HF := Lib.hid hf
  clear hp hb hf
  go_enter Tryd.func71, Tryd.ntmps71
  go_wp2
  generalize hg : w.heap.size = g0 at H0 ⊢
  have HG := Lib.hid hg
  clear hg
  generalize w.iter s 0 = w1 at H0 ⊢
  go_loopw [] (fun wr => ∃ pos : Nat, pos ≤ s.size ∧ Hid (wr.heap[g0]? = some (.stringIter s pos) ∧ Kept w wr) ∧ Hid (Scan q s 0 pos)) (fun wr => s.size - posOf wr g0)
  case atStart => exact ⟨0, Nat.zero_le _, H0, H1⟩
  case round =>
    obtain ⟨pos, hps, hit, hat⟩ := hrel
    clear H0 H1
    have HPO : Hid (posOf wr g0 = pos) := Lib.hid (posOf_is hit.out.1)
    by_cases hlt : pos < s.size
    · have hnext := fun ty => Go.Lib.run_next_any_at (P := Tryd.prog) wr g0 s pos ty hit.out.1 hlt
      have HN : Hid ((wr.iterAt g0 s (pos + (Utf8.decode s pos).2)).heap[g0]? = some (.stringIter s (pos + (Utf8.decode s pos).2)) ∧ Kept w (wr.iterAt g0 s (pos + (Utf8.decode s pos).2))) := Lib.hid ⟨Go.Lib.iterAt_heap wr g0 s pos _ hit.out.1, iter_kept hit.out.2 (by rw [HG.out]; exact Nat.le_refl _)⟩
      have HD : Hid (1 ≤ (Utf8.decode s pos).2) := Lib.hid (wide_pos hlt)
      have HT := Lib.hid (rune_tells HB.out HF.out hlt)
      cases hq : q (s.get! pos)
      · have HL := Lib.hid (scan_len hat.out (fun _ => hq))
        have HR : Hid (p ((Utf8.decode s pos).1 : Nat) = false) := Lib.hid (HT.out.1.trans hq)
        clear HT hq
        generalize (Utf8.decode s pos).2 = d2 at *
        generalize (Utf8.decode s pos).1 = d1 at *
        go_wp2_with fail
        refine (HP.out _ _).mono ?_
        rintro e w' ⟨rfl, rfl⟩
        rw [HR.out]
        go_wp2
        go_ret
        exact ⟨ret_int (by rw [HL.out]), HN.out.2⟩
      · have HM := Lib.hid (hat.out.more hlt hq)
        have HR : Hid (p ((Utf8.decode s pos).1 : Nat) = true) := Lib.hid (HT.out.1.trans hq)
        have h1 := HT.out.2 hq
        clear HT hq
        rw [h1] at hnext HN HD
        generalize (Utf8.decode s pos).2 = d2 at *
        generalize (Utf8.decode s pos).1 = d1 at *
        subst h1
        go_wp2_with fail
        refine (HP.out _ _).mono ?_
        rintro e w' ⟨rfl, rfl⟩
        rw [HR.out]
        go_wp2
        go_roundw
        case rel => exact ⟨pos + 1, hlt, HN, HM⟩
        case measure => rw [posOf_is HN.out.1, HPO.out]; omega
    · obtain rfl : pos = s.size := by omega
      have hnext := fun ty => Go.Lib.run_next_end_at (P := Tryd.prog) wr g0 s s.size ty hit.out.1 hlt
      have HL := Lib.hid (scan_len hat.out (fun hh => absurd hh hlt))
      go_wp2
      go_ret
      exact ⟨ret_int (by rw [HL.out]), hit.out.2⟩

end Go.Proofs.YtdapdpmplbifdaaDoor
