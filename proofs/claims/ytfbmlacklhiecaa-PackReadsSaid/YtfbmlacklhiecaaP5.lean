/- Contracts and lemmas: P5 -/
import Derived.Test.YtfbmlacklhiecaaP4
namespace Go.Proofs.Ytfbmlacklhiecaa
set_option linter.unusedVariables false
set_option linter.unusedSimpArgs false
open Go.RowKit Go.ChangeShapes Go.WideShapes
set_option maxRecDepth 20000

open Go.RowKit Go.ChangeShapes Go.WideShapes
set_option maxRecDepth 20000
theorem num_keep {s s' : Option (List UInt8)} {m most : Int} (h : NumIs s 9 0 0 m s') (d : Bool) (hd : d = decide (m ≤ min most 4611686018427387904)) :
    (∀ r, dem s' d = some r → iNum s most = (m, some r)) ∧ (dem s' d = none → iNum s most = (0, none)) := by
  unfold iNum
  rcases h with ⟨k, r, h1, h2, h3⟩ | ⟨h1, h2⟩
  · rw [h1]
    subst h2 h3
    simp only []
    by_cases hk : (k : Int) ≤ most ∧ (k : Int) ≤ 4611686018427387904
    · rw [if_pos hk]
      have : d = true := by rw [hd]; simp; omega
      subst this
      exact ⟨fun r' h => (by cases h; rfl), fun h => (by cases h)⟩
    · rw [if_neg hk]
      have : d = false := by rw [hd]; simp; omega
      subst this
      exact ⟨fun r' h => (by cases h), fun h => rfl⟩
  · rw [h1, h2]
    exact ⟨fun r' h => (by rw [dem_none] at h; cases h), fun _ => rfl⟩
set_option maxHeartbeats 4000000 in
theorem inum_any {b : Nat} {s : Option (List UInt8)} {w : World} (most : Int) (hm0 : -9223372036854775808 ≤ most) (hm1 : most ≤ 9223372036854775807) (h : InAt b s w) :
    Calls Try.prog 21 #[.pointer (some ⟨b, 0, none⟩), .int .i64 most] w (InPost b (.int .i64 (iNum s most).1) (iNum s most).2 w) := by
  have H1 := Lib.hid (inumber_any h)
  clear h
  go_enter Try.func21, Try.ntmps21
  go_wp2_with fail
  refine H1.out.mono ?_
  rintro e w1 ⟨m, s', rfl, hq0, hq1, hm, h2, h3⟩
  obtain ⟨d, hd⟩ : ∃ d, d = decide (m ≤ min most 4611686018427387904) := ⟨_, rfl⟩
  have HK := Lib.hid (num_keep hm d hd)
  have H3 := Lib.hid h3
  have HD : Hid (Calls Try.prog 35 #[.pointer (some ⟨b, 0, none⟩), .bool d] w1 fun e w' => e = .returned (.tuple #[]) ∧ InAt b (dem s' d) w' ∧ Fr (fun k => k = b) w w') := Lib.hid
    ((demand_any s' d b w1 h2.c0 h2.f0).mono (fun e w' ⟨h1, h4⟩ => ⟨h1, (h2.dem h4).1, h3.trans (h2.dem h4).2⟩))
  clear h2 h3 hm
  obtain ⟨z, hz⟩ : ∃ z, z = dem s' d := ⟨_, rfl⟩
  rw [← hz] at HD HK
  clear hz
  go_wp2_with fail
  rw [← hd]
  refine HD.out.mono ?_
  rintro e w2 ⟨rfl, h4, h5⟩
  have H4 := Lib.hid h4
  have H5 := Lib.hid h5
  have HS := Lib.hid (stopped_any z b w2 h4.c0)
  clear h4 h5 hd
  cases z with
  | none =>
    have HF : Hid (InPost b (.int .i64 (iNum s most).1) (iNum s most).2 w (.returned (.int .i64 0)) w2) := Lib.hid (by rw [HK.out.2 rfl]; exact ⟨rfl, H4.out, H5.out⟩)
    go_wp2_with fail
    refine HS.out.mono ?_
    rintro e w3 ⟨rfl, rfl⟩
    have e0 : (none : Option (List UInt8)).isNone = true := rfl
    rw [e0]
    go_wp2
    go_ret
    exact HF.out
  | some y =>
    have HF : Hid (InPost b (.int .i64 (iNum s most).1) (iNum s most).2 w (.returned (.int .i64 m)) w2) := Lib.hid (by rw [HK.out.1 y rfl]; exact ⟨rfl, H4.out, H5.out⟩)
    go_wp2_with fail
    refine HS.out.mono ?_
    rintro e w3 ⟨rfl, rfl⟩
    have e0 : (some y).isNone = false := rfl
    rw [e0]
    go_wp2
    go_ret
    exact HF.out
theorem iNum_nat (s : Option (List UInt8)) (most : Int) : ∃ n : Nat, (iNum s most).1 = (n : Int) ∧ (n : Int) ≤ 4611686018427387904 := by
  unfold iNum
  split
  · split
    · exact ⟨_, rfl, by omega⟩
    · exact ⟨0, rfl, by decide⟩
  · exact ⟨0, rfl, by decide⟩
set_option maxHeartbeats 4000000 in
theorem itext_any {b : Nat} {s : Option (List UInt8)} {w : World} (most : Int) (hm0 : -9223372036854775808 ≤ most) (hm1 : most ≤ 9223372036854775807) (h : InAt b s w) :
    Calls Try.prog 23 #[.pointer (some ⟨b, 0, none⟩), .int .i64 most] w (InPost b (.string (iText s most).1) (iText s most).2 w) := by
  have H1 := Lib.hid (inum_any most hm0 hm1 h)
  obtain ⟨n, hn, hn2⟩ := iNum_nat s most
  have HT : Hid (iText s most = iTake (iNum s most).2 n) := Lib.hid (by unfold iText; rw [hn]; rfl)
  rw [hn] at H1
  clear h hn
  generalize (iNum s most).2 = s2 at *
  rw [HT.out]
  go_enter Try.func23, Try.ntmps23
  go_wp2_with fail
  refine H1.out.mono ?_
  rintro e w1 ⟨rfl, h2, h3⟩
  have H2 := Lib.hid h2
  have H3 := Lib.hid h3
  clear h2 h3
  go_wp2_with fail
  refine (itake_any n hn2 H2.out).mono ?_
  rintro e w2 ⟨rfl, h4, h5⟩
  have H4 := Lib.hid (And.intro h4 (H3.out.trans h5))
  clear h4 h5
  go_wp2
  go_ret
  exact ⟨rfl, H4.out⟩
theorem iTake_small {b : Nat} {s : Option (List UInt8)} {w : World} (h : InAt b s w) (n : Nat) : (iTake s n).1.size ≤ 1000000 := by
  cases s with
  | none => exact Nat.zero_le _
  | some l =>
    obtain ⟨r, _, hr, hy⟩ := h
    have h1 := hy l rfl
    have h2 : l.length = r.size := by rw [← h1, bs_len]
    simp only [iTake]
    split
    · show (List.take n l).toArray.size ≤ 1000000
      simp; omega
    · exact Nat.zero_le _
set_option maxHeartbeats 4000000 in
theorem iword_any {b : Nat} {s : Option (List UInt8)} {w : World} (h : InAt b s w) :
    Calls Try.prog 25 #[.pointer (some ⟨b, 0, none⟩)] w (InPost b (.string (iWord s).1) (iWord s).2 w) := by
  have H1 := Lib.hid (ione_any h)
  obtain ⟨c, hc⟩ : ∃ c, c = (iOne s).1 := ⟨_, rfl⟩
  obtain ⟨s1, hs1⟩ : ∃ s1, s1 = (iOne s).2 := ⟨_, rfl⟩
  have HW : Hid (iWord s = keepW (iTake s1 (2 * c.toNat))) := Lib.hid (by rw [hc, hs1]; rfl)
  rw [← hc, ← hs1] at H1
  rw [HW.out]
  have hcl := c.toNat_lt
  clear hc hs1 h HW
  go_enter Try.func25, Try.ntmps25
  go_wp2_with fail
  refine H1.out.mono ?_
  rintro e w1 ⟨rfl, h2, h3⟩
  have H2 := Lib.hid h2
  have H3 := Lib.hid h3
  clear h2 h3
  have HTk := Lib.hid (itake_any (2 * c.toNat) (by omega) H2.out)
  have HSz := Lib.hid (iTake_small H2.out (2 * c.toNat))
  obtain ⟨t, ht⟩ : ∃ t, t = (iTake s1 (2 * c.toNat)).1 := ⟨_, rfl⟩
  obtain ⟨s2, hs2⟩ : ∃ s2, s2 = (iTake s1 (2 * c.toNat)).2 := ⟨_, rfl⟩
  have HK : Hid (iTake s1 (2 * c.toNat) = (t, s2)) := Lib.hid (by rw [ht, hs2])
  rw [← ht, ← hs2] at HTk
  rw [← ht] at HSz
  have hcst : ((2 * c.toNat : Nat) : Int) = 2 * (c.toNat : Int) := by omega
  rw [hcst] at HTk
  clear ht hs2 hcst
  go_wp2_with fail
  refine HTk.out.mono ?_
  rintro e w2 ⟨rfl, h4, h5⟩
  have H4 := Lib.hid h4
  have H5 := Lib.hid (H3.out.trans h5)
  clear h4 h5
  have hsz : t.size ≤ maxLen := by have := HSz.out; unfold maxLen; omega
  have HM : Hid (∀ W, Calls Try.prog 39 #[.string t] W (KeptPost (.bool (mayS t)) W)) := Lib.hid (fun W => may_any t W hsz)
  clear hsz
  obtain ⟨d, hd⟩ : ∃ d, d = mayS t := ⟨_, rfl⟩
  rw [← hd] at HM
  have HD : Hid (∀ W, Kept w2 W → Calls Try.prog 35 #[.pointer (some ⟨b, 0, none⟩), .bool d] W fun e w' => e = .returned (.tuple #[]) ∧ InAt b (dem s2 d) w' ∧ Fr (fun k => k = b) w w') := Lib.hid (fun W hk =>
    (demand_any s2 d b W (H4.out.kept hk).c0 (H4.out.kept hk).f0).mono (fun e w' ⟨h1, h2⟩ => ⟨h1, ((H4.out.kept hk).dem h2).1, H5.out.trans (fr_one hk ((H4.out.kept hk).dem h2).2)⟩))
  obtain ⟨z, hz⟩ : ∃ z, z = dem s2 d := ⟨_, rfl⟩
  rw [← hz] at HD
  have HZ : Hid ((z = none → keepW (iTake s1 (2 * c.toNat)) = (⟨#[]⟩, none)) ∧ ∀ y, z = some y → keepW (iTake s1 (2 * c.toNat)) = (t, some y)) := Lib.hid (by
    rw [HK.out]
    rw [hd] at hz
    exact ⟨fun h0 => (by unfold keepW; rw [← hz, h0]), fun y h0 => (by unfold keepW; rw [← hz, h0])⟩)
  clear hz hd
  go_wp2_with fail
  have kd : Kept w2 w2.drew := Fr.of_drew _ w2
  go_region_held3 (fun W' => True) (trivial) (first
    | (go_at_call 39; refine (HM.out _).mono ?_; rintro e w3 ⟨rfl, hk1⟩; have k1 : Kept w2 w3 := kd.trans hk1; clear hk1)
    | (go_at_call 35; refine (HD.out _ k1).mono ?_; rintro e w4 ⟨rfl, h2, h3⟩; have H6 := Lib.hid h2; have H7 := Lib.hid h3; clear h2 h3))
  have HS := Lib.hid (stopped_any z b w4 H6.out.c0)
  cases z with
  | none =>
    have HF : Hid (InPost b (.string (keepW (iTake s1 (2 * c.toNat))).1) (keepW (iTake s1 (2 * c.toNat))).2 w (.returned (.string ⟨#[]⟩)) w4) := Lib.hid (by rw [HZ.out.1 rfl]; exact ⟨rfl, H6.out, H7.out⟩)
    go_wp2_with fail
    refine HS.out.mono ?_
    rintro e w3 ⟨rfl, rfl⟩
    have e0 : (none : Option (List UInt8)).isNone = true := rfl
    rw [e0]
    go_wp2
    go_ret
    exact HF.out
  | some y =>
    have HF : Hid (InPost b (.string (keepW (iTake s1 (2 * c.toNat))).1) (keepW (iTake s1 (2 * c.toNat))).2 w (.returned (.string t)) w4) := Lib.hid (by rw [HZ.out.2 y rfl]; exact ⟨rfl, H6.out, H7.out⟩)
    go_wp2_with fail
    refine HS.out.mono ?_
    rintro e w3 ⟨rfl, rfl⟩
    have e0 : (some y).isNone = false := rfl
    rw [e0]
    go_wp2
    go_ret
    exact HF.out
/-- a call of Set -/
def SetInPost (b : Nat) (r : List ByteArray × Option (List UInt8)) (w : World) (e : Ending) (w' : World) : Prop :=
  ∃ v, e = .returned v ∧ w'.ownsRow w.heap.size 35 1 v r.1.length (wcells r.1) ∧ InAt b r.2 w' ∧ Fr (fun k => k = b) w w'
/-- a set that is read, up to k words -/
def WPart (w wr : World) (b : Nat) (v : Value) (acc : List ByteArray) (st : Option (List UInt8)) : Prop :=
  wr.ownsRow w.heap.size 35 1 v acc.length (wcells acc) ∧ InAt b st wr ∧ Fr (fun k => k = b) w wr
theorem own_one {w w' : World} {base n size b : Nat} {e : TypeId} {v : Value} {xs : List Value} (h : w.ownsRow base e size v n xs) (hf : Fr (fun k => k = b) w w') (hb : b < base) : w'.ownsRow base e size v n xs := by
  refine ⟨h.1, ?_⟩
  rcases h.2 with hn | ⟨g, cap, cur, rfl, hbg, hg, rest⟩
  · exact .inl hn
  · exact .inr ⟨g, cap, cur, rfl, hbg, by rw [hf.block g (heap_lt hg) (by omega)]; exact hg, rest⟩
theorem WPart.step {w wr w1 w2 : World} {b : Nat} {v v' : Value} {acc : List ByteArray} {st st' : Option (List UInt8)} {x : ByteArray} {wx : World} (h : WPart w wr b v acc st) (hb : b < w.heap.size)
    (h1 : InAt b st' w1) (h2 : Fr (fun k => k = b) wr w1) (hx : Kept w1 wx) (hp : AppPost wx w.heap.size 35 1 v (acc.length + 1) (wcells acc ++ [.string x]) v' w2) : WPart w w2 b v' (acc ++ [x]) st' := by
  have hgr : Fr (fun k => w.heap.size ≤ k) wx w2 := (Fr.of_grown hp.2.1).mono (fun k _ e => by
    have ho := own_kept (own_one h.1 h2 hb) hx
    exact (ho.lt k e).1)
  refine ⟨?_, ?_, ?_⟩
  · have e1 : (acc ++ [x]).length = acc.length + 1 := by simp
    have e2 : wcells (acc ++ [x]) = wcells acc ++ [.string x] := by simp [wcells]
    rw [e1, e2]; exact hp.1
  · exact (h1.kept hx).fr hgr (by omega)
  · have h3 : Fr (fun k => k = b) w wx := (h.2.2.trans h2).trans (hx.mono (fun _ _ f => f.elim))
    exact ⟨hgr.os.trans h3.os, hgr.tape.trans h3.tape, hgr.output.trans h3.output, Nat.le_trans h3.size hgr.size, fun i hi hn => (hgr.block i (Nat.lt_of_lt_of_le hi h3.size) (by omega)).trans (h3.block i hi hn)⟩
/-- how far the words are read -/
def WordsK (c : Nat) (s1 : Option (List UInt8)) (k : Nat) (acc : List ByteArray) (st : Option (List UInt8)) : Prop :=
  acc.length = k ∧ iWords c s1 = (acc ++ (iWords (c - k) st).1, (iWords (c - k) st).2)
theorem wordsK_step {c k : Nat} {s1 st : Option (List UInt8)} {acc : List ByteArray} (h : WordsK c s1 k acc st) (hk : k < c) : WordsK c s1 (k + 1) (acc ++ [(iWord st).1]) (iWord st).2 := by
  obtain ⟨h1, h2⟩ := h
  obtain ⟨m, hm⟩ : ∃ m, c - k = m + 1 := ⟨c - k - 1, by omega⟩
  have hm2 : c - (k + 1) = m := by omega
  refine ⟨by simp [h1], ?_⟩
  rw [h2, hm, hm2]
  simp [iWords]
theorem wordsK_end {c : Nat} {s1 st : Option (List UInt8)} {acc : List ByteArray} (h : WordsK c s1 c acc st) : iWords c s1 = (acc, st) := by
  rw [h.2]; simp [iWords]
theorem wordsK_size {c k : Nat} {s1 st : Option (List UInt8)} {acc : List ByteArray} (h : WordsK c s1 k acc st) : Small 510 acc := by
  intro x hx
  have := iWords_size c s1 x (by rw [h.2]; simp [hx])
  exact this
set_option maxHeartbeats 4000000 in
theorem iset_any {b : Nat} {s : Option (List UInt8)} {w : World} (h : InAt b s w) :
    Calls Try.prog 28 #[.pointer (some ⟨b, 0, none⟩)] w (SetInPost b (iSet s) w) := by
  have H1 := Lib.hid (ione_any h)
  have hbl := h.lt
  obtain ⟨c, hc⟩ : ∃ c, c = (iOne s).1 := ⟨_, rfl⟩
  obtain ⟨s1, hs1⟩ : ∃ s1, s1 = (iOne s).2 := ⟨_, rfl⟩
  have HW : Hid (iSet s = keepL (iWords c.toNat s1)) := Lib.hid (by rw [hc, hs1]; rfl)
  rw [← hc, ← hs1] at H1
  rw [HW.out]
  have hcl := c.toNat_lt
  clear hc hs1 h HW
  go_enter Try.func28, Try.ntmps28
  go_wp2_with fail
  refine H1.out.mono ?_
  rintro e w1 ⟨rfl, h2, h3⟩
  have H2 : Hid (WPart w w1 b (.slice none 0 0) [] s1) := Lib.hid ⟨own_nil _ _ _ _, h2, h3⟩
  clear h2 h3
  go_wp2_with fail
  go_loopw [3, 6] (fun v i wr => ∃ (k : Nat) (acc : List ByteArray) (st : Option (List UInt8)), k ≤ c.toNat ∧ i = .int .u8 k ∧ Hid (WordsK c.toNat s1 k acc st) ∧ Hid (WPart w wr b v acc st)) (fun _ i _ => c.toNat - (intOf i).toNat)
  case atStart => exact ⟨0, [], s1, by omega, rfl, Lib.hid ⟨rfl, by simp⟩, H2⟩
  case round =>
    obtain ⟨k, acc, st, hk, rfl, hw, hp⟩ := hrel
    obtain ⟨ao, cp, hv, _⟩ := own_slice hp.out.1
    subst hv
    have hal : acc.length = k := hw.out.1
    by_cases hlt : k < c.toNat
    · have h1 : (k : Int) < c.toNat := by omega
      have HWd := Lib.hid (iword_any hp.out.2.1)
      have HSt := Lib.hid (wordsK_step hw.out hlt)
      generalize (iWord st).1 = x at *
      generalize (iWord st).2 = st' at *
      have HAL := Lib.hid hal
      clear hal
      go_wp2_with fail
      refine HWd.out.mono ?_
      rintro e w2 ⟨rfl, h4, h5⟩
      have H4 := Lib.hid h4
      have H5 := Lib.hid h5
      have HO := Lib.hid (own_one hp.out.1 h5 hbl)
      have HSI := Lib.hid h5.size
      have HSJ := Lib.hid hp.out.2.2.size
      clear h4 h5
      go_wp2_with (at_builtin; refine list_app rfl (.tmp 8) (.tmp 11) 37 37 rfl Try.slice37 rfl (by exact own_kept HO.out (Fr.of_alloc _ _ _)) rfl (by exact src_one Try.underlying37 (heap_alloc_new _ _) rfl) (by have := HAL.out; unfold maxLen; omega) (by have := HAL.out; omega) (by have := HSI.out; have := HSJ.out; simp; omega) ?_)
      intro v1 w3 hp1
      have HP := Lib.hid (hp.out.step hbl H4.out H5.out (Fr.of_alloc _ _ _) hp1)
      clear hp1
      go_wp2_with fail
      go_roundw
      case rel => exact ⟨k + 1, _, _, by omega, by go_num, HSt, HP⟩
      case measure => simp [intOf]; omega
    · obtain rfl : k = c.toNat := by omega
      have HE := Lib.hid (wordsK_end hw.out)
      have HSm : Hid (Small maxLen acc) := Lib.hid (fun y hy => Nat.le_trans (wordsK_size hw.out y hy) (by decide))
      have hal2 : acc.length ≤ 255 := by rw [hal]; omega
      have HRd := Lib.hid (Reads.of_row hp.out.1)
      have HM : Hid (∀ W, Kept wr W → Calls Try.prog 43 #[.slice ao acc.length cp] W (KeptPost (.bool (mayL acc)) W)) := Lib.hid (fun W hk => may_set ((by have := HRd.out.new hk; exact this)) (by omega) HSm.out)
      obtain ⟨d, hd⟩ : ∃ d, d = mayL acc := ⟨_, rfl⟩
      rw [← hd] at HM
      have HD : Hid (∀ W, Kept wr W → Calls Try.prog 35 #[.pointer (some ⟨b, 0, none⟩), .bool d] W fun e w' => e = .returned (.tuple #[]) ∧ InAt b (dem st d) w' ∧ Fr (fun k => k = b) w w' ∧ Fr (fun k => k = b) wr w') := Lib.hid (fun W hk =>
        (demand_any st d b W (hp.out.2.1.kept hk).c0 (hp.out.2.1.kept hk).f0).mono (fun e w' ⟨h1, h2⟩ => ⟨h1, ((hp.out.2.1.kept hk).dem h2).1, hp.out.2.2.trans (fr_one hk ((hp.out.2.1.kept hk).dem h2).2), fr_one hk ((hp.out.2.1.kept hk).dem h2).2⟩))
      obtain ⟨z, hz⟩ : ∃ z, z = dem st d := ⟨_, rfl⟩
      rw [← hz] at HD
      have HZ : Hid ((z = none → keepL (iWords c.toNat s1) = ([], none)) ∧ ∀ y, z = some y → keepL (iWords c.toNat s1) = (acc, some y)) := Lib.hid (by
        rw [HE.out]
        rw [hd] at hz
        exact ⟨fun h0 => (by unfold keepL; rw [← hz, h0]), fun y h0 => (by unfold keepL; rw [← hz, h0])⟩)
      have HRow := Lib.hid hp.out.1
      have HAL := Lib.hid hal
      clear hz hd hal hp hw
      go_wp2_with fail
      have kd : Kept wr wr.drew := Fr.of_drew _ wr
      go_region_held3 (fun W' => True) (trivial) (first
        | (go_at_call 43; refine (HM.out _ kd).mono ?_; rintro e w3 ⟨rfl, hk1⟩; have k1 : Kept wr w3 := kd.trans hk1; clear hk1)
        | (go_at_call 35; refine (HD.out _ k1).mono ?_; rintro e w4 ⟨rfl, h2, h3, h4⟩; have H6 := Lib.hid h2; have H7 := Lib.hid h3; have H8 := Lib.hid (own_one HRow.out h4 hbl); clear h2 h3 h4))
      have HS := Lib.hid (stopped_any z b w4 H6.out.c0)
      cases z with
      | none =>
        have HF : Hid (SetInPost b (keepL (iWords c.toNat s1)) w (.returned (.slice none 0 0)) w4) := Lib.hid (by rw [HZ.out.1 rfl]; exact ⟨_, rfl, own_nil _ _ _ _, H6.out, H7.out⟩)
        go_wp2_with fail
        refine HS.out.mono ?_
        rintro e w3 ⟨rfl, rfl⟩
        have e0 : (none : Option (List UInt8)).isNone = true := rfl
        rw [e0]
        go_wp2
        go_ret
        exact HF.out
      | some y =>
        have HF : Hid (SetInPost b (keepL (iWords c.toNat s1)) w (.returned (.slice ao acc.length cp)) w4) := Lib.hid (by rw [HZ.out.2 y rfl]; exact ⟨_, rfl, H8.out, H6.out, H7.out⟩)
        go_wp2_with fail
        refine HS.out.mono ?_
        rintro e w3 ⟨rfl, rfl⟩
        have e0 : (some y).isNone = false := rfl
        rw [e0]
        go_wp2
        go_ret
        exact HF.out

end Go.Proofs.Ytfbmlacklhiecaa
