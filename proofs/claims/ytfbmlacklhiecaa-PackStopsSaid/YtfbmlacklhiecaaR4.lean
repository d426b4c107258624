/- Contracts and lemmas: R4 -/
import Derived.Test.YtfbmlacklhiecaaR3
import Derived.Test.YtfbmlacklhiecaaP5
namespace Go.Proofs.Ytfbmlacklhiecaa
set_option linter.unusedVariables false
set_option linter.unusedSimpArgs false
open Go.RowKit Go.ChangeShapes Go.WideShapes
set_option maxRecDepth 20000

open Go.RowKit Go.ChangeShapes Go.WideShapes
set_option maxRecDepth 20000
theorem run_cut (x : ByteArray) (a n : Nat) (i j : Int) (hi : i = (a : Int)) (hj : j = ((a + n : Nat) : Int)) (h : a + n ≤ x.size) (hx : x.size ≤ 100000) : ∃ q : ByteArray, Hid (q = ⟨(((bs x).drop a).take n).toArray⟩) ∧ ∀ wx, (Instr.slice 9 (.string x) (some (.int .i64 i)) (some (.int .i64 j)) none).run Try.prog wx = .ok (.string q) wx := by
  subst hi hj
  refine ⟨x.extract a (a + n), Lib.hid (bs_inj ?_), fun wx => ?_⟩
  · rw [bs_extract]
    have e : a + n - a = n := by omega
    rw [e]; rfl
  · rw [run_slice_string wx 9 x _ _ _ _ Try.underlying9 (by omega) (by omega) (by omega)]
    congr 3
theorem iTake_ok {l : List UInt8} {n : Nat} (h : n ≤ l.length) : iTake (some l) n = (⟨(l.take n).toArray⟩, some (l.drop n)) := by simp [iTake, h]
theorem iTake_over {l : List UInt8} {n : Nat} (h : ¬ n ≤ l.length) : iTake (some l) n = (⟨#[]⟩, none) := by simp [iTake, h]
set_option maxHeartbeats 4000000 in
theorem ritext_any {b : Nat} {x : ByteArray} {s : Option (List UInt8)} {w : World} (most : Int) (hm0 : -9223372036854775808 ≤ most) (hm1 : most ≤ 9223372036854775807) (hx : x.size ≤ 100000) (h : RInAt b x s w) :
    Calls Try.prog 24 #[.pointer (some ⟨b, 0, none⟩), .int .i64 most] w (RInPost b x (.string (iText s most).1) (iText s most).2 w) := by
  have H1 := Lib.hid (rinum_any most hm0 hm1 hx h)
  obtain ⟨n, hn, hn2⟩ := iNum_nat s most
  have HT : Hid (iText s most = iTake (iNum s most).2 n) := Lib.hid (by unfold iText; rw [hn]; rfl)
  rw [hn] at H1
  clear h hn
  generalize (iNum s most).2 = s2 at *
  rw [HT.out]
  go_enter Try.func24, Try.ntmps24
  go_wp2_with fail
  refine H1.out.mono ?_
  rintro e w1 ⟨rfl, h2, h3⟩
  have H3 := Lib.hid h3
  obtain ⟨k0, hh, hk0, hl⟩ := h2
  cases s2 with
  | none =>
    simp only [Option.isNone_none] at hh
    have HB := Lib.hid (show RBlk b x k0 true w1 from hh)
    have z2 := HB.out.c2
    have f2 := HB.out.fz 2
    clear hh hl h3
    go_wp2_with fail
    go_quiet (fail)
    have HF : Hid (RInPost b x (.string (iTake none n).1) (iTake none n).2 w (.returned (.string ⟨#[]⟩)) ((w1.drewN nq).setCell ⟨b, 2, none⟩ (.bool true))) := Lib.hid
      ⟨rfl, ((HB.out.kept (Fr.of_drewN _ _ nq)).bad true).none hk0, (H3.out.trans (Fr.of_drewN _ _ nq)).trans (Fr.of_setCell _ ⟨b, 2, none⟩ _)⟩
    go_wp2
    go_ret
    exact HF.out
  | some l =>
    simp only [Option.isNone_some] at hh
    have HB := Lib.hid (show RBlk b x k0 false w1 from hh)
    have hdl := hl l rfl
    have hll : l.length = x.size - k0 := by rw [← hdl, List.length_drop, bs_len]
    have z0 := HB.out.c0
    have z1 := HB.out.c1
    have z2 := HB.out.c2
    have f2 := HB.out.fz 2
    have HDL := Lib.hid hdl
    have HLL := Lib.hid hll
    clear hh hl h3 hdl hll
    by_cases hfit : n ≤ l.length
    · have g1 : decide ((x.size : Int) - (k0 : Int) < (n : Int)) = false := by have := HLL.out; simp; omega
      have g1b : ¬ ((x.size : Int) - (k0 : Int) < (n : Int)) := by have := HLL.out; omega
      have HE := Lib.hid (iTake_ok hfit)
      obtain ⟨q, HQ, hcut⟩ := run_cut x k0 n (k0 : Int) ((k0 : Int) + (n : Int)) rfl (by push_cast; rfl) (by have := HLL.out; omega) hx
      rw [HDL.out] at HQ
      have hb1 : k0 + n ≤ x.size := by have := HLL.out; omega
      go_wp2_with fail
      go_quiet (fail)
      have HR1 := Lib.hid (And.intro (HB.out.kept (Fr.of_drewN _ _ nq)) (H3.out.trans (Fr.of_drewN _ _ nq)))
      clear z0 z1 z2 f2 g1 g1b
      generalize w1.drewN nq = W1 at *
      have z0 := HR1.out.1.c0
      have z1 := HR1.out.1.c1
      go_wp2_with fail
      go_quiet (fail)
      have HR2 := Lib.hid (And.intro (HR1.out.1.kept (Fr.of_drewN _ _ nq)) (HR1.out.2.trans (Fr.of_drewN _ _ nq)))
      clear z0 z1
      generalize W1.drewN nq = W2 at *
      have z1 := HR2.out.1.c1
      have f1 := HR2.out.1.fz 1
      have HF : Hid (RInPost b x (.string (iTake (some l) n).1) (iTake (some l) n).2 w (.returned (.string q)) (W2.setCell ⟨b, 1, none⟩ (.int .i64 ((k0 : Int) + (n : Int))))) := Lib.hid (by
        rw [HE.out]
        refine ⟨by rw [HQ.out], ?_, HR2.out.2.trans (Fr.of_setCell _ ⟨b, 1, none⟩ _)⟩
        have h9 := (HR2.out.1.go (k0 + n) (.int .i64 ((k0 : Int) + (n : Int))) (by push_cast; rfl)).some hb1
        rw [← List.drop_drop, HDL.out] at h9
        exact h9)
      go_wp2
      go_ret
      exact HF.out
    · have g1 : decide ((x.size : Int) - (k0 : Int) < (n : Int)) = true := by have := HLL.out; simp; omega
      have HE := Lib.hid (iTake_over hfit)
      clear hfit
      go_wp2_with fail
      go_quiet (fail)
      have HF : Hid (RInPost b x (.string (iTake (some l) n).1) (iTake (some l) n).2 w (.returned (.string ⟨#[]⟩)) ((w1.drewN nq).setCell ⟨b, 2, none⟩ (.bool true))) := Lib.hid (by
        rw [HE.out]
        exact ⟨rfl, ((HB.out.kept (Fr.of_drewN _ _ nq)).bad true).none hk0, (H3.out.trans (Fr.of_drewN _ _ nq)).trans (Fr.of_setCell _ ⟨b, 2, none⟩ _)⟩)
      go_wp2
      go_ret
      exact HF.out
set_option maxHeartbeats 2000000 in
theorem rileft_any {b : Nat} {x : ByteArray} {s : Option (List UInt8)} {w : World} (hx : x.size ≤ 100000) (h : RInAt b x s w) :
    Calls Try.prog 31 #[.pointer (some ⟨b, 0, none⟩)] w (KeptPost (.int .i64 (iLeft s)) w) := by
  obtain ⟨k0, hh, hk0, hl⟩ := h
  cases s with
  | none =>
    have z2 := RBlk.c2 hh
    simp only [Option.isNone_none] at z2
    clear hh hl
    go_enter Try.func31, Try.ntmps31
    go_wp2
    go_ret
    exact ⟨rfl, Fr.refl _ _⟩
  | some l =>
    have z0 := RBlk.c0 hh
    have z1 := RBlk.c1 hh
    have z2 := RBlk.c2 hh
    simp only [Option.isNone_some] at z2
    have HE : Hid ((x.size : Int) - (k0 : Int) = iLeft (some l)) := Lib.hid (by
      have h1 := hl l rfl
      have h2 : l.length = x.size - k0 := by rw [← h1, List.length_drop, bs_len]
      simp only [iLeft]; omega)
    clear hh hl
    go_enter Try.func31, Try.ntmps31
    go_wp2_with fail
    go_quiet (fail)
    go_wp2
    go_ret
    exact ⟨ret_int HE.out, Fr.of_drewN _ _ _⟩
set_option maxHeartbeats 2000000 in
theorem ridone_any {b : Nat} {x : ByteArray} {s : Option (List UInt8)} {w : World} (hx : x.size ≤ 100000) (h : RInAt b x s w) :
    Calls Try.prog 33 #[.pointer (some ⟨b, 0, none⟩)] w (RInPost b x (.int .i64 (iDone s).1) (iDone s).2 w) := by
  have H0 := Lib.hid h
  obtain ⟨k0, hh, hk0, hl⟩ := h
  have HB := Lib.hid (show RBlk b x k0 s.isNone w from hh)
  have z0 := RBlk.c0 hh
  have z1 := RBlk.c1 hh
  have z2 := RBlk.c2 hh
  have f2 := HB.out.fz 2
  have key : (iDone s = (2, none) ∧ (s.isNone = true ∨ (s.isNone = false ∧ k0 < x.size))) ∨ (iDone s = (0, s) ∧ s.isNone = false ∧ ¬ k0 < x.size) := by
    cases s with
    | none => exact .inl ⟨rfl, .inl rfl⟩
    | some l =>
      have h1 := hl l rfl
      have h2 : l.length = x.size - k0 := by rw [← h1, List.length_drop, bs_len]
      cases l with
      | nil => simp at h2; exact .inr ⟨rfl, rfl, by omega⟩
      | cons c r => simp at h2; exact .inl ⟨rfl, .inr ⟨rfl, by omega⟩⟩
  clear hh hl
  rcases key with ⟨hE, h1 | ⟨h1, h2⟩⟩ | ⟨hE, h1, h2⟩
  · have HE := Lib.hid hE
    rw [h1] at z2
    clear hE h1
    go_enter Try.func33, Try.ntmps33
    go_wp2_with fail
    go_quiet (fail)
    have HF : Hid (RInPost b x (.int .i64 (iDone s).1) (iDone s).2 w (.returned (.int .i64 2)) ((w.drewN nq).setCell ⟨b, 2, none⟩ (.bool true))) := Lib.hid (by
      rw [HE.out]
      exact ⟨rfl, ((HB.out.kept (Fr.of_drewN _ _ nq)).bad true).none hk0, (Fr.of_drewN _ _ nq).trans (Fr.of_setCell _ ⟨b, 2, none⟩ _)⟩)
    go_wp2
    go_ret
    exact HF.out
  · have HE := Lib.hid hE
    rw [h1] at z2
    have g1 : decide (k0 < x.size) = true := by simpa using h2
    clear hE h1
    go_enter Try.func33, Try.ntmps33
    go_wp2_with fail
    go_quiet (fail)
    have HF : Hid (RInPost b x (.int .i64 (iDone s).1) (iDone s).2 w (.returned (.int .i64 2)) ((w.drewN nq).setCell ⟨b, 2, none⟩ (.bool true))) := Lib.hid (by
      rw [HE.out]
      exact ⟨rfl, ((HB.out.kept (Fr.of_drewN _ _ nq)).bad true).none hk0, (Fr.of_drewN _ _ nq).trans (Fr.of_setCell _ ⟨b, 2, none⟩ _)⟩)
    go_wp2
    go_ret
    exact HF.out
  · have HE := Lib.hid hE
    rw [h1] at z2
    have g1 : decide (k0 < x.size) = false := by simpa using h2
    clear hE h1
    go_enter Try.func33, Try.ntmps33
    go_wp2_with fail
    go_quiet (fail)
    have HF : Hid (RInPost b x (.int .i64 (iDone s).1) (iDone s).2 w (.returned (.int .i64 0)) (w.drewN nq)) := Lib.hid (by
      rw [HE.out]
      exact ⟨rfl, H0.out.kept (Fr.of_drewN _ _ nq), Fr.of_drewN _ _ nq⟩)
    go_wp2
    go_ret
    exact HF.out

end Go.Proofs.Ytfbmlacklhiecaa
