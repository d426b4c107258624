/- Contracts and lemmas: R5 -/
import Derived.Test.YtfbmlacklhiecaaR4
namespace Go.Proofs.Ytfbmlacklhiecaa
set_option linter.unusedVariables false
set_option linter.unusedSimpArgs false
open Go.RowKit Go.ChangeShapes Go.WideShapes
set_option maxRecDepth 20000

open Go.RowKit Go.ChangeShapes Go.WideShapes
set_option maxRecDepth 20000
theorem run_cut35 (x : ByteArray) (a n : Nat) (i j : Int) (hi : i = (a : Int)) (hj : j = ((a + n : Nat) : Int)) (h : a + n ≤ x.size) (hx : x.size ≤ 100000) : ∃ q : ByteArray, Hid (q = ⟨(((bs x).drop a).take n).toArray⟩) ∧ ∀ wx, (Instr.slice 9 (.string x) (some (.int .i64 i)) (some (.int .i64 j)) none).run Try.prog wx = .ok (.string q) wx := run_cut x a n i j hi hj h hx
theorem iWord_bad {s : Option (List UInt8)} (h : s = none ∨ s = some []) : iWord s = (⟨#[]⟩, none) := by
  rcases h with rfl | rfl <;> rfl
theorem iWord_long {c : UInt8} {r : List UInt8} (h : ¬ 2 * c.toNat ≤ r.length) : iWord (some (c :: r)) = (⟨#[]⟩, none) := by
  show keepW (iTake (some r) (2 * c.toNat)) = _
  rw [iTake_over h]; rfl
theorem iWord_not {c : UInt8} {r : List UInt8} (h : 2 * c.toNat ≤ r.length) (hm : mayS ⟨(r.take (2 * c.toNat)).toArray⟩ = false) : iWord (some (c :: r)) = (⟨#[]⟩, none) := by
  show keepW (iTake (some r) (2 * c.toNat)) = _
  rw [iTake_ok h]
  unfold keepW
  simp only [hm]; rfl
theorem iWord_ok {c : UInt8} {r : List UInt8} (h : 2 * c.toNat ≤ r.length) (hm : mayS ⟨(r.take (2 * c.toNat)).toArray⟩ = true) : iWord (some (c :: r)) = (⟨(r.take (2 * c.toNat)).toArray⟩, some (r.drop (2 * c.toNat))) := by
  show keepW (iTake (some r) (2 * c.toNat)) = _
  rw [iTake_ok h]
  unfold keepW
  simp only [hm]; rfl
set_option maxHeartbeats 4000000 in
theorem riword_any {b : Nat} {x : ByteArray} {s : Option (List UInt8)} {w : World} (hx : x.size ≤ 100000) (h : RInAt b x s w) :
    Calls Try.prog 26 #[.pointer (some ⟨b, 0, none⟩)] w (RInPost b x (.string (iWord s).1) (iWord s).2 w) := by
  obtain ⟨k0, hh, hk0, hl⟩ := h
  have HB := Lib.hid (show RBlk b x k0 s.isNone w from hh)
  have z0 := RBlk.c0 hh
  have z1 := RBlk.c1 hh
  have z2 := RBlk.c2 hh
  have f2 := HB.out.fz 2
  have key : ((s = none ∨ s = some []) ∧ (s.isNone = true ∨ (s.isNone = false ∧ x.size ≤ k0))) ∨ ∃ c r, s = some (c :: r) ∧ k0 < x.size := by
    cases s with
    | none => exact .inl ⟨.inl rfl, .inl rfl⟩
    | some l =>
      have h1 := hl l rfl
      have h2 : l.length = x.size - k0 := by rw [← h1, List.length_drop, bs_len]
      cases l with
      | nil => simp at h2; exact .inl ⟨.inr rfl, .inr ⟨rfl, by omega⟩⟩
      | cons c r => simp at h2; exact .inr ⟨c, r, rfl, by omega⟩
  rcases key with ⟨hE, h1 | ⟨h1, h2⟩⟩ | ⟨c, r, rfl, h1⟩
  · have HE := Lib.hid (iWord_bad hE)
    rw [h1] at z2
    clear hE h1 hh hl
    go_enter Try.func26, Try.ntmps26
    go_wp2_with fail
    go_quiet (fail)
    have HF : Hid (RInPost b x (.string (iWord s).1) (iWord s).2 w (.returned (.string ⟨#[]⟩)) ((w.drewN nq).setCell ⟨b, 2, none⟩ (.bool true))) := Lib.hid (by
      rw [HE.out]
      exact ⟨rfl, ((HB.out.kept (Fr.of_drewN _ _ nq)).bad true).none hk0, (Fr.of_drewN _ _ nq).trans (Fr.of_setCell _ ⟨b, 2, none⟩ _)⟩)
    go_wp2
    go_ret
    exact HF.out
  · have HE := Lib.hid (iWord_bad hE)
    rw [h1] at z2
    have g1 : decide (x.size ≤ k0) = true := by simpa using h2
    clear hE h1 hh hl
    go_enter Try.func26, Try.ntmps26
    go_wp2_with fail
    go_quiet (fail)
    have HF : Hid (RInPost b x (.string (iWord s).1) (iWord s).2 w (.returned (.string ⟨#[]⟩)) ((w.drewN nq).setCell ⟨b, 2, none⟩ (.bool true))) := Lib.hid (by
      rw [HE.out]
      exact ⟨rfl, ((HB.out.kept (Fr.of_drewN _ _ nq)).bad true).none hk0, (Fr.of_drewN _ _ nq).trans (Fr.of_setCell _ ⟨b, 2, none⟩ _)⟩)
    go_wp2
    go_ret
    exact HF.out
  · simp only [Option.isNone_some] at z2 HB
    have g1 : decide (x.size ≤ k0) = false := by simp; omega
    have hdl := hl _ rfl
    rw [bs_drop x k0 h1] at hdl
    injection hdl with hd1 hd2
    have x1 : ∀ wx, (Instr.index 9 (.string x) (.int .i64 k0)).run Try.prog wx = .ok (.int .u8 (c.toNat : Int)) wx := fun wx => by
      rw [run_index_string wx 9 x _ _ Try.underlying9, dif_pos ⟨by omega, by omega⟩, ← hd1]
      simp
    have HDL := Lib.hid hd2
    have HLL : Hid (r.length = x.size - (k0 + 1)) := Lib.hid (by rw [← hd2, List.length_drop, bs_len])
    have hcl := c.toNat_lt
    have HI := Lib.hid h1
    clear hd1 hd2 hh hl
    by_cases hfit : 2 * c.toNat ≤ r.length
    · have g2 : ¬ ((x.size : Int) < (k0 : Int) + 1 + 2 * (c.toNat : Int)) := by have := HLL.out; have := HI.out; omega
      have g3 : decide ((x.size : Int) < (k0 : Int) + 1 + 2 * (c.toNat : Int)) = false := by simpa using g2
      obtain ⟨t, ht⟩ : ∃ t : ByteArray, t = ⟨(r.take (2 * c.toNat)).toArray⟩ := ⟨_, rfl⟩
      obtain ⟨q, HQ, hcut⟩ := run_cut35 x (k0 + 1) (2 * c.toNat) ((k0 : Int) + 1) ((k0 : Int) + 1 + 2 * (c.toNat : Int)) (by omega) (by omega) (by have := HLL.out; omega) hx
      rw [HDL.out, ← ht] at HQ
      rw [HQ.out] at hcut
      have htz : t.size ≤ 100000 := by
        rw [ht]
        show (List.take _ _).toArray.size ≤ 100000
        simp; omega
      obtain ⟨d, hd⟩ : ∃ d, d = mayS t := ⟨_, rfl⟩
      have HM : Hid (∀ W, Calls Try.prog 41 #[.string t] W (KeptPost (.bool d) W)) := Lib.hid (fun W => by rw [hd]; exact rmay_any t W htz)
      have hb1 : k0 + 1 + 2 * c.toNat ≤ x.size := by have := HLL.out; have := HI.out; omega
      have HE0 := Lib.hid (fun (h0 : d = false) => iWord_not hfit (by rw [← ht, ← hd]; exact h0))
      have HE1 := Lib.hid (fun (h0 : d = true) => iWord_ok hfit (by rw [← ht, ← hd]; exact h0))
      rw [← ht] at HE1
      have HS : Hid (bs t = r.take (2 * c.toNat) ∧ (bs x).drop (k0 + 1 + 2 * c.toNat) = r.drop (2 * c.toNat)) := Lib.hid ⟨by rw [ht]; rfl, by rw [← List.drop_drop, HDL.out]⟩
      have w3 : IntKind.i64.wrap ((k0 : Int) + 1) = (k0 : Int) + 1 := IntWalk.i64_in _ (by omega)
      have w4 : IntKind.i64.wrap ((k0 : Int) + 1 + 2 * (c.toNat : Int)) = (k0 : Int) + 1 + 2 * (c.toNat : Int) := IntWalk.i64_in _ (by omega)
      clear ht hd hfit HQ h1
      generalize hcc : 2 * (c.toNat : Int) = cc at *
      have HCC := Lib.hid hcc
      have hcc0 : 0 ≤ cc := by omega
      have hcc1 : cc ≤ 510 := by omega
      cases d with
      | false =>
        have HE := Lib.hid (HE0.out rfl)
        clear HE0 HE1
        go_enter Try.func26, Try.ntmps26
        go_wp2_with fail
        go_quiet (fail)
        have HR1 := Lib.hid (And.intro (HB.out.kept (Fr.of_drewN _ _ nq)) (Fr.of_drewN (fun k => k = b) w nq))
        clear z0 z1 z2 f2 g1
        generalize w.drewN nq = W1 at *
        have z0 := HR1.out.1.c0
        have z1 := HR1.out.1.c1
        go_wp2_with fail
        go_quiet (fail)
        have HR2 := Lib.hid (And.intro (HR1.out.1.kept (Fr.of_drewN _ _ nq)) (HR1.out.2.trans (Fr.of_drewN _ _ nq)))
        clear z0 z1 x1
        generalize W1.drewN nq = W2 at *
        have z0 : ∀ p : KeptW W2, p.wd.cell? ⟨b, 0, none⟩ = some (.string x) := fun p => (HR2.out.1.kept p.kept).c0
        have z1 : ∀ p : KeptW W2, p.wd.cell? ⟨b, 1, none⟩ = some (.int .i64 k0) := fun p => (HR2.out.1.kept p.kept).c1
        try rw [hcc]
        clear hcc
        go_wp2_with fail
        refine wp_region_kept (by kernel_rfl) (by kernel_rfl) ?_
        repeat (refine qa_step (fun K hK => ?_); go_simp; first | (refine hK _ ?_; clear hK K) | (apply Exists.intro; refine ⟨fun _ => ?_, hK _ ?_⟩; (go_at_call 41; exact kept_call HM.out); clear hK K))
        refine qa_nil ?_
        intro _ hw
        obtain ⟨p9, hw⟩ := hw
        subst hw
        have HR3 := Lib.hid (And.intro (HR2.out.1.kept p9.kept) (HR2.out.2.trans (p9.kept.mono (G := fun k => k = b) (fun _ _ f => f.elim))))
        clear z0 z1
        generalize p9.wd = W3 at *
        have z2 := HR3.out.1.c2
        have f2 := HR3.out.1.fz 2
        have HF : Hid (RInPost b x (.string (iWord (some (c :: r))).1) (iWord (some (c :: r))).2 w (.returned (.string ⟨#[]⟩)) (W3.setCell ⟨b, 2, none⟩ (.bool true))) := Lib.hid (by
          rw [HE.out]
          exact ⟨rfl, (HR3.out.1.bad true).none hk0, HR3.out.2.trans (Fr.of_setCell _ ⟨b, 2, none⟩ _)⟩)
        go_wp2
        go_ret
        exact HF.out
      | true =>
        have HE := Lib.hid (HE1.out rfl)
        clear HE0 HE1
        go_enter Try.func26, Try.ntmps26
        go_wp2_with fail
        go_quiet (fail)
        have HR1 := Lib.hid (And.intro (HB.out.kept (Fr.of_drewN _ _ nq)) (Fr.of_drewN (fun k => k = b) w nq))
        clear z0 z1 z2 f2 g1
        generalize w.drewN nq = W1 at *
        have z0 := HR1.out.1.c0
        have z1 := HR1.out.1.c1
        go_wp2_with fail
        go_quiet (fail)
        have HR2 := Lib.hid (And.intro (HR1.out.1.kept (Fr.of_drewN _ _ nq)) (HR1.out.2.trans (Fr.of_drewN _ _ nq)))
        clear z0 z1 x1
        generalize W1.drewN nq = W2 at *
        have z0 : ∀ p : KeptW W2, p.wd.cell? ⟨b, 0, none⟩ = some (.string x) := fun p => (HR2.out.1.kept p.kept).c0
        have z1 : ∀ p : KeptW W2, p.wd.cell? ⟨b, 1, none⟩ = some (.int .i64 k0) := fun p => (HR2.out.1.kept p.kept).c1
        try rw [hcc]
        clear hcc
        go_wp2_with fail
        refine wp_region_kept (by kernel_rfl) (by kernel_rfl) ?_
        repeat (refine qa_step (fun K hK => ?_); go_simp; first | (refine hK _ ?_; clear hK K) | (apply Exists.intro; refine ⟨fun _ => ?_, hK _ ?_⟩; (go_at_call 41; exact kept_call HM.out); clear hK K))
        refine qa_nil ?_
        intro _ hw
        obtain ⟨p9, hw⟩ := hw
        subst hw
        have HR3 := Lib.hid (And.intro (HR2.out.1.kept p9.kept) (HR2.out.2.trans (p9.kept.mono (G := fun k => k = b) (fun _ _ f => f.elim))))
        clear z0 z1
        generalize p9.wd = W3 at *
        have z0 := HR3.out.1.c0
        have z1 := HR3.out.1.c1
        go_wp2_with fail
        go_quiet (fail)
        have HR4 := Lib.hid (And.intro (HR3.out.1.kept (Fr.of_drewN _ _ nq)) (HR3.out.2.trans (Fr.of_drewN _ _ nq)))
        clear z0 z1
        generalize W3.drewN nq = W4 at *
        have z1 := HR4.out.1.c1
        have f1 := HR4.out.1.fz 1
        have HF : Hid (RInPost b x (.string (iWord (some (c :: r))).1) (iWord (some (c :: r))).2 w (.returned (.string t)) (W4.setCell ⟨b, 1, none⟩ (.int .i64 ((k0 : Int) + (1 + cc))))) := Lib.hid (by
          rw [HE.out]
          refine ⟨rfl, ?_, HR4.out.2.trans (Fr.of_setCell _ ⟨b, 1, none⟩ _)⟩
          have h9 := (HR4.out.1.go (k0 + 1 + 2 * c.toNat) (.int .i64 ((k0 : Int) + (1 + cc))) (by congr 1; rw [← HCC.out]; push_cast; omega)).some hb1
          rw [HS.out.2] at h9
          exact h9)
        go_wp2
        go_ret
        exact HF.out
    · have g2 : (x.size : Int) < (k0 : Int) + 1 + 2 * (c.toNat : Int) := by have := HLL.out; have := HI.out; omega
      have g3 : decide ((x.size : Int) < (k0 : Int) + 1 + 2 * (c.toNat : Int)) = true := by simpa using g2
      have HE := Lib.hid (iWord_long hfit)
      have w3 : IntKind.i64.wrap ((k0 : Int) + 1) = (k0 : Int) + 1 := IntWalk.i64_in _ (by omega)
      have w4 : IntKind.i64.wrap ((k0 : Int) + 1 + 2 * (c.toNat : Int)) = (k0 : Int) + 1 + 2 * (c.toNat : Int) := IntWalk.i64_in _ (by omega)
      clear hfit h1
      generalize hcc : 2 * (c.toNat : Int) = cc at *
      go_enter Try.func26, Try.ntmps26
      go_wp2_with fail
      go_quiet (fail)
      have HR1 := Lib.hid (And.intro (HB.out.kept (Fr.of_drewN _ _ nq)) (Fr.of_drewN (fun k => k = b) w nq))
      clear z0 z1 z2 f2 g1
      generalize w.drewN nq = W1 at *
      have z0 := HR1.out.1.c0
      have z1 := HR1.out.1.c1
      go_wp2_with fail
      go_quiet (fail)
      have HR2 := Lib.hid (And.intro (HR1.out.1.kept (Fr.of_drewN _ _ nq)) (HR1.out.2.trans (Fr.of_drewN _ _ nq)))
      clear z0 z1 x1
      generalize W1.drewN nq = W2 at *
      have z0 := HR2.out.1.c0
      have z1 := HR2.out.1.c1
      try rw [hcc]
      clear hcc
      go_wp2_with fail
      go_quiet (fail)
      have HR3 := Lib.hid (And.intro (HR2.out.1.kept (Fr.of_drewN _ _ nq)) (HR2.out.2.trans (Fr.of_drewN _ _ nq)))
      clear z0 z1
      generalize W2.drewN nq = W3 at *
      have z2 := HR3.out.1.c2
      have f2 := HR3.out.1.fz 2
      have HF : Hid (RInPost b x (.string (iWord (some (c :: r))).1) (iWord (some (c :: r))).2 w (.returned (.string ⟨#[]⟩)) (W3.setCell ⟨b, 2, none⟩ (.bool true))) := Lib.hid (by
        rw [HE.out]
        exact ⟨rfl, (HR3.out.1.bad true).none hk0, HR3.out.2.trans (Fr.of_setCell _ ⟨b, 2, none⟩ _)⟩)
      go_wp2
      go_ret
      exact HF.out
/-- a set that the document's In reads, up to k words -/
def RPart (w wr : World) (b : Nat) (x : ByteArray) (v : Value) (acc : List ByteArray) (st : Option (List UInt8)) : Prop :=
  wr.ownsRow w.heap.size 35 1 v acc.length (wcells acc) ∧ RInAt b x st wr ∧ Fr (fun k => k = b) w wr
theorem RPart.step {w wr w1 w2 : World} {b : Nat} {x : ByteArray} {v v' : Value} {acc : List ByteArray} {st st' : Option (List UInt8)} {y : ByteArray} {wx : World} (h : RPart w wr b x v acc st) (hb : b < w.heap.size)
    (h1 : RInAt b x st' w1) (h2 : Fr (fun k => k = b) wr w1) (hx : Kept w1 wx) (hp : AppPost wx w.heap.size 35 1 v (acc.length + 1) (wcells acc ++ [.string y]) v' w2) : RPart w w2 b x v' (acc ++ [y]) st' := by
  have hgr : Fr (fun k => w.heap.size ≤ k) wx w2 := (Fr.of_grown hp.2.1).mono (fun k _ e => by
    have ho := own_kept (own_one h.1 h2 hb) hx
    exact (ho.lt k e).1)
  refine ⟨?_, ?_, ?_⟩
  · have e1 : (acc ++ [y]).length = acc.length + 1 := by simp
    have e2 : wcells (acc ++ [y]) = wcells acc ++ [.string y] := by simp [wcells]
    rw [e1, e2]; exact hp.1
  · exact (h1.kept hx).fr hgr (by omega)
  · have h3 : Fr (fun k => k = b) w wx := (h.2.2.trans h2).trans (hx.mono (fun _ _ f => f.elim))
    exact ⟨hgr.os.trans h3.os, hgr.tape.trans h3.tape, hgr.output.trans h3.output, Nat.le_trans h3.size hgr.size, fun i hi hn => (hgr.block i (Nat.lt_of_lt_of_le hi h3.size) (by omega)).trans (h3.block i hi hn)⟩
def SetRPost (b : Nat) (x : ByteArray) (r : List ByteArray × Option (List UInt8)) (w : World) (e : Ending) (w' : World) : Prop :=
  ∃ v, e = .returned v ∧ w'.ownsRow w.heap.size 35 1 v r.1.length (wcells r.1) ∧ RInAt b x r.2 w' ∧ Fr (fun k => k = b) w w'
theorem iSet_bad {s : Option (List UInt8)} (h : s = none ∨ s = some []) : iSet s = ([], none) := by
  rcases h with rfl | rfl <;> rfl
set_option maxHeartbeats 4000000 in
theorem riset_any {b : Nat} {x : ByteArray} {s : Option (List UInt8)} {w : World} (hx : x.size ≤ 100000) (h : RInAt b x s w) :
    Calls Try.prog 29 #[.pointer (some ⟨b, 0, none⟩)] w (SetRPost b x (iSet s) w) := by
  have hbl := h.lt
  obtain ⟨k0, hh, hk0, hl⟩ := h
  have HB := Lib.hid (show RBlk b x k0 s.isNone w from hh)
  have z0 := RBlk.c0 hh
  have z1 := RBlk.c1 hh
  have z2 := RBlk.c2 hh
  have f2 := HB.out.fz 2
  have key : ((s = none ∨ s = some []) ∧ (s.isNone = true ∨ (s.isNone = false ∧ x.size ≤ k0))) ∨ ∃ c r, s = some (c :: r) ∧ k0 < x.size := by
    cases s with
    | none => exact .inl ⟨.inl rfl, .inl rfl⟩
    | some l =>
      have h1 := hl l rfl
      have h2 : l.length = x.size - k0 := by rw [← h1, List.length_drop, bs_len]
      cases l with
      | nil => simp at h2; exact .inl ⟨.inr rfl, .inr ⟨rfl, by omega⟩⟩
      | cons c r => simp at h2; exact .inr ⟨c, r, rfl, by omega⟩
  rcases key with ⟨hE, h1 | ⟨h1, h2⟩⟩ | ⟨c, r, rfl, h1⟩
  · have HE := Lib.hid (iSet_bad hE)
    rw [h1] at z2
    clear hE h1 hh hl
    go_enter Try.func29, Try.ntmps29
    go_wp2_with fail
    go_quiet (fail)
    have HF : Hid (SetRPost b x (iSet s) w (.returned (.slice none 0 0)) ((w.drewN nq).setCell ⟨b, 2, none⟩ (.bool true))) := Lib.hid (by
      rw [HE.out]
      exact ⟨_, rfl, own_nil _ _ _ _, ((HB.out.kept (Fr.of_drewN _ _ nq)).bad true).none hk0, (Fr.of_drewN _ _ nq).trans (Fr.of_setCell _ ⟨b, 2, none⟩ _)⟩)
    go_wp2
    go_ret
    exact HF.out
  · have HE := Lib.hid (iSet_bad hE)
    rw [h1] at z2
    have g1 : decide (x.size ≤ k0) = true := by simpa using h2
    clear hE h1 hh hl
    go_enter Try.func29, Try.ntmps29
    go_wp2_with fail
    go_quiet (fail)
    have HF : Hid (SetRPost b x (iSet s) w (.returned (.slice none 0 0)) ((w.drewN nq).setCell ⟨b, 2, none⟩ (.bool true))) := Lib.hid (by
      rw [HE.out]
      exact ⟨_, rfl, own_nil _ _ _ _, ((HB.out.kept (Fr.of_drewN _ _ nq)).bad true).none hk0, (Fr.of_drewN _ _ nq).trans (Fr.of_setCell _ ⟨b, 2, none⟩ _)⟩)
    go_wp2
    go_ret
    exact HF.out
  · simp only [Option.isNone_some] at z2 HB
    have g1 : decide (x.size ≤ k0) = false := by simp; omega
    have hdl := hl _ rfl
    rw [bs_drop x k0 h1] at hdl
    injection hdl with hd1 hd2
    have x1 : ∀ wx, (Instr.index 9 (.string x) (.int .i64 k0)).run Try.prog wx = .ok (.int .u8 (c.toNat : Int)) wx := fun wx => by
      rw [run_index_string wx 9 x _ _ Try.underlying9, dif_pos ⟨by omega, by omega⟩, ← hd1]
      simp
    have HDL := Lib.hid hd2
    have hcl := c.toNat_lt
    have HI := Lib.hid h1
    have HW : Hid (iSet (some (c :: r)) = keepL (iWords c.toNat (some r))) := Lib.hid rfl
    clear hd1 hd2 hh hl h1
    go_enter Try.func29, Try.ntmps29
    go_wp2_with fail
    go_quiet (fail)
    have HR1 := Lib.hid (And.intro (HB.out.kept (Fr.of_drewN _ _ nq)) (Fr.of_drewN (fun k => k = b) w nq))
    clear z0 z1 z2 f2 g1
    generalize w.drewN nq = W1 at *
    have z0 := HR1.out.1.c0
    have z1 := HR1.out.1.c1
    go_wp2_with fail
    go_quiet (fail)
    have HR2 := Lib.hid (And.intro (HR1.out.1.kept (Fr.of_drewN _ _ nq)) (HR1.out.2.trans (Fr.of_drewN _ _ nq)))
    clear z0 z1 x1
    generalize W1.drewN nq = W2 at *
    have z1 := HR2.out.1.c1
    have f1 := HR2.out.1.fz 1
    have HR3 : Hid (RInAt b x (some r) (W2.setCell ⟨b, 1, none⟩ (.int .i64 ((k0 : Int) + 1))) ∧ Fr (fun k => k = b) w (W2.setCell ⟨b, 1, none⟩ (.int .i64 ((k0 : Int) + 1)))) := Lib.hid (by
      refine ⟨?_, HR2.out.2.trans (Fr.of_setCell _ ⟨b, 1, none⟩ _)⟩
      have h9 := (HR2.out.1.go (k0 + 1) (.int .i64 ((k0 : Int) + 1)) (by push_cast; rfl)).some (by have := HI.out; omega)
      rw [HDL.out] at h9
      exact h9)
    clear HR1
    go_wp2_with fail
    have H0 : Hid (RPart w ((W2.setCell ⟨b, 1, none⟩ (.int .i64 ((k0 : Int) + 1))).alloc (Obj.cells #[] 35)) b x (.slice (some ⟨W2.heap.size, 0, none⟩) 0 0) [] (some r)) := Lib.hid
      ⟨own_new (by have := heap_alloc_new (W2.setCell ⟨b, 1, none⟩ (.int .i64 ((k0 : Int) + 1))) (Obj.cells #[] 35); simpa [World.setCell] using this) (by have := HR2.out.2.size; exact this), HR3.out.1.kept (Fr.of_alloc _ _ _), HR3.out.2.trans (Fr.of_alloc _ _ _)⟩
    clear z1 f1 HR3
    go_loopw [4, 5] (fun v i wr => ∃ (k : Nat) (acc : List ByteArray) (st : Option (List UInt8)), k ≤ c.toNat ∧ i = .int .i64 k ∧ Hid (WordsK c.toNat (some r) k acc st) ∧ Hid (RPart w wr b x v acc st)) (fun _ i _ => c.toNat - (intOf i).toNat)
    case atStart => exact ⟨0, [], some r, by omega, rfl, Lib.hid ⟨rfl, by simp⟩, H0⟩
    case round =>
      obtain ⟨k, acc, st, hk, rfl, hw, hp⟩ := hrel
      clear H0
      obtain ⟨ao, cp, hv, _⟩ := own_slice hp.out.1
      subst hv
      have hal : acc.length = k := hw.out.1
      obtain ⟨k1, hh1, hk1, hl1⟩ := hp.out.2.1
      have HB1 := Lib.hid (show RBlk b x k1 st.isNone wr from hh1)
      have z2 := HB1.out.c2
      have f2 := HB1.out.fz 2
      clear hh1 hl1
      have HSm : Hid (Small 510 acc) := Lib.hid (wordsK_size hw.out)
      cases st with
      | none =>
        simp only [Option.isNone_none] at z2
        have HE : Hid (keepL (iWords c.toNat (some r)) = ([], none)) := Lib.hid (by
          have h9 := congrArg Prod.snd hw.out.2
          rw [iWords_none] at h9
          unfold keepL
          rw [show (iWords c.toNat (some r)).2 = none from h9, dem_none])
        have HF : Hid (SetRPost b x (iSet (some (c :: r))) w (.returned (.slice none 0 0)) (wr.setCell ⟨b, 2, none⟩ (.bool true))) := Lib.hid (by
          rw [HW.out, HE.out]
          exact ⟨_, rfl, own_nil _ _ _ _, (HB1.out.bad true).none hk1, hp.out.2.2.trans (Fr.of_setCell _ ⟨b, 2, none⟩ _)⟩)
        by_cases hlt : k < c.toNat
        · have h1 : (k : Int) < c.toNat := by omega
          clear hal hw hp
          go_wp2
          go_ret
          exact HF.out
        · have h1 : ¬ (k : Int) < c.toNat := by omega
          clear hal hw hp
          go_wp2
          go_ret
          exact HF.out
      | some y =>
        simp only [Option.isNone_some] at z2
        by_cases hlt : k < c.toNat
        · have h1 : (k : Int) < c.toNat := by omega
          have HWd := Lib.hid (riword_any hx hp.out.2.1)
          have HSt := Lib.hid (wordsK_step hw.out hlt)
          generalize (iWord (some y)).1 = z at *
          generalize (iWord (some y)).2 = st' at *
          have HAL := Lib.hid hal
          clear hal
          go_wp2_with fail
          refine HWd.out.mono ?_
          rintro e w2 ⟨rfl, h4, h5⟩
          have H4 := Lib.hid h4
          have H5 := Lib.hid h5
          have HO := Lib.hid (own_one hp.out.1 h5 hbl)
          have HSI := Lib.hid h5.size
          have HSJ := Lib.hid hp.out.2.2.size
          clear h4 h5 z2 f2
          go_wp2_with (at_builtin; refine list_app rfl (.tmp 55) (.tmp 58) 37 37 rfl Try.slice37 rfl (by exact own_kept HO.out (Fr.of_alloc _ _ _)) rfl (by exact src_one Try.underlying37 (heap_alloc_new _ _) rfl) (by have := HAL.out; unfold maxLen; omega) (by have := HAL.out; omega) (by have := HSI.out; have := HSJ.out; simp; omega) ?_)
          intro v1 w3 hp1
          have HP := Lib.hid (hp.out.step hbl H4.out H5.out (Fr.of_alloc _ _ _) hp1)
          clear hp1
          go_wp2_with fail
          go_roundw
          case rel => exact ⟨k + 1, _, _, by omega, by go_num, HSt, HP⟩
          case measure => simp [intOf]; omega
        · have h1 : ¬ (k : Int) < c.toNat := by omega
          obtain rfl : k = c.toNat := by omega
          have HE := Lib.hid (wordsK_end hw.out)
          have hal2 : acc.length ≤ 255 := by rw [hal]; omega
          have HRd := Lib.hid (Reads.of_row hp.out.1)
          obtain ⟨d, hd⟩ : ∃ d, d = mayL acc := ⟨_, rfl⟩
          have HM : Hid (∀ W, Kept wr W → Calls Try.prog 45 #[.slice ao acc.length cp] W (KeptPost (.bool d) W)) := Lib.hid (fun W hk => by rw [hd]; exact rmay_set (HRd.out.new hk) (by omega) (fun y hy => Nat.le_trans (HSm.out y hy) (by decide)))
          have HK : Hid (keepL (iWords c.toNat (some r)) = if d = true then (acc, some y) else ([], none)) := Lib.hid (by
            rw [HE.out]
            unfold keepL
            rw [← hd]
            cases d <;> rfl)
          have HRow := Lib.hid hp.out
          clear hd hal hw hp
          go_wp2_with fail
          refine (HM.out _ (Fr.refl _ _)).mono ?_
          rintro e w3 ⟨rfl, hk3⟩
          have HR3 := Lib.hid (And.intro (HB1.out.kept hk3) (HRow.out.2.2.trans (hk3.mono (G := fun k => k = b) (fun _ _ f => f.elim))))
          have HO3 := Lib.hid (own_kept HRow.out.1 hk3)
          have HI3 := Lib.hid (HRow.out.2.1.kept hk3)
          clear hk3 z2 f2
          have z2 := HR3.out.1.c2
          have f2 := HR3.out.1.fz 2
          cases d with
          | false =>
            have HF : Hid (SetRPost b x (iSet (some (c :: r))) w (.returned (.slice none 0 0)) (w3.setCell ⟨b, 2, none⟩ (.bool true))) := Lib.hid (by
              rw [HW.out, HK.out]
              exact ⟨_, rfl, own_nil _ _ _ _, (HR3.out.1.bad true).none hk1, HR3.out.2.trans (Fr.of_setCell _ ⟨b, 2, none⟩ _)⟩)
            go_wp2
            go_ret
            exact HF.out
          | true =>
            have HF : Hid (SetRPost b x (iSet (some (c :: r))) w (.returned (.slice ao acc.length cp)) w3) := Lib.hid (by
              rw [HW.out, HK.out]
              exact ⟨_, rfl, HO3.out, HI3.out, HR3.out.2⟩)
            go_wp2
            go_ret
            exact HF.out

end Go.Proofs.Ytfbmlacklhiecaa
