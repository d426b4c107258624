/- Contracts and lemmas: P3 -/
import Derived.Test.YtfbmlacklhiecaaP1
import Derived.Laws.BitsAllLaws
namespace Go.Proofs.Ytfbmlacklhiecaa
set_option linter.unusedVariables false
set_option linter.unusedSimpArgs false
open Go.RowKit Go.ChangeShapes Go.WideShapes
set_option maxRecDepth 20000

open Go.RowKit Go.ChangeShapes Go.WideShapes
set_option maxRecDepth 20000
theorem InAt.over {b : Nat} {s : Option (List UInt8)} {w w' : World} {F : Nat → Prop} (h : InAt b s w) (hf : Fr F w w') (hb : ¬ F b) : InAt b s w' := h.fr hf hb
theorem fr_one {b : Nat} {x y z : World} (h : Kept x y) (k : Fr (fun j => j = b) y z) : Fr (fun j => j = b) x z := (h.mono (fun _ _ f => f.elim)).trans k
set_option maxHeartbeats 1000000 in
theorem from_any (s : ByteArray) (w : World) (hs : s.size ≤ 1000000) :
    Calls Try.prog 20 #[.string s] w fun e w' => e = .returned (.pointer (some ⟨w.heap.size, 0, none⟩)) ∧ InAt w.heap.size (some (bs s)) w' ∧ Kept w w' ∧ w.heap.size < w'.heap.size := by
  go_enter Try.func20, Try.ntmps20
  go_wp2
  go_ret
  exact ⟨rfl, ⟨s, heap_alloc_new w _, hs, fun l hl => by cases hl; rfl⟩, Fr.of_alloc _ _ _, by simp⟩
theorem take_str (r : ByteArray) (y : List UInt8) (n : Nat) (h : bs r = y) : r.extract 0 n = ⟨(y.take n).toArray⟩ := by
  apply bs_inj
  rw [bs_extract, h]; simp [bs]
theorem drop_str (r : ByteArray) (y : List UInt8) (n : Nat) (h : bs r = y) : bs (r.extract n r.size) = y.drop n := by
  rw [bs_extract, h]
  have : r.size = y.length := by rw [← h, bs_len]
  rw [this, List.take_of_length_le (by simp)]
theorem iTake_at {s : Option (List UInt8)} {y : List UInt8} {n : Nat} (h : s = some y) (hn : n ≤ y.length) : iTake s n = (⟨(y.take n).toArray⟩, some (y.drop n)) := by
  subst h; simp [iTake, hn]
theorem iTake_no {s : Option (List UInt8)} {n : Nat} (h : ∀ y, s = some y → y.length < n) : iTake s n = (⟨#[]⟩, none) := by
  cases s with
  | none => rfl
  | some y => have := h y rfl; simp only [iTake]; rw [if_neg (by omega)]
set_option maxHeartbeats 4000000 in
theorem itake_any {b : Nat} {s : Option (List UInt8)} {w : World} (n : Nat) (hn : (n : Int) ≤ 4611686018427387904) (h : InAt b s w) :
    Calls Try.prog 48 #[.pointer (some ⟨b, 0, none⟩), .int .i64 n] w (InPost b (.string (iTake s n).1) (iTake s n).2 w) := by
  obtain ⟨r, hh, hr, hy⟩ := id h
  have c1 : w.cell? ⟨b, 1, none⟩ = some (.string r) := by rw [Lib.cell_of_heap hh]; rfl
  have cd : w.drew.cell? ⟨b, 1, none⟩ = some (.string r) := c1
  obtain ⟨d, hd⟩ : ∃ d, d = decide (n ≤ r.size) := ⟨_, rfl⟩
  have HD : Hid (∀ W, Kept w W → Calls Try.prog 35 #[.pointer (some ⟨b, 0, none⟩), .bool d] W fun e w' => e = .returned (.tuple #[]) ∧ InAt b (dem s d) w' ∧ Fr (fun k => k = b) w w' ∧ w'.cell? ⟨b, 1, none⟩ = some (.string r)) := Lib.hid (fun W hk =>
    (demand_any s d b W (h.kept hk).c0 (h.kept hk).f0).mono (fun e w' ⟨h1, h2⟩ => ⟨h1, ((h.kept hk).dem h2).1, fr_one hk ((h.kept hk).dem h2).2, by
      have h3 := hk.cell c1 (fun x => x)
      have h4 : W.heap[b]? = some (.cells #[.int .i64 (errOf s), .string r] 74 (0, 0)) := by rw [hk.block b (heap_lt hh) (fun x => x)]; exact hh
      unfold DemW at h2
      subst h2
      split
      · rw [Lib.cell_of_heap (blockSet h4)]; rfl
      · exact h3⟩))
  have HDD := Lib.hid hd
  have HY := Lib.hid hy
  have HR := Lib.hid hr
  clear hh hy hr h
  have hdd : decide (n ≤ r.size) = d := hd.symm
  clear hd
  have HT : Hid (dem s d = none → iTake s n = (⟨#[]⟩, none)) := Lib.hid (fun h0 => iTake_no (fun y hy => by
    subst hy
    cases hdv : d with
    | true => rw [hdv] at h0; simp [dem] at h0
    | false =>
      have h1 := HY.out y rfl
      rw [hdv] at hdd
      simp at hdd
      rw [← h1, bs_len]; omega))
  have HT2 : Hid (∀ y, dem s d = some y → iTake s n = (⟨(y.take n).toArray⟩, some (y.drop n)) ∧ n ≤ y.length) := Lib.hid (fun y h0 => by
    cases hdv : d with
    | false => rw [hdv] at h0; simp [dem] at h0
    | true =>
      rw [hdv, dem_true] at h0
      have h1 := HY.out y h0
      rw [hdv] at hdd
      simp at hdd
      have h2 : n ≤ y.length := by rw [← h1, bs_len]; exact hdd
      exact ⟨iTake_at h0 h2, h2⟩)
  obtain ⟨z, hz⟩ : ∃ z, z = dem s d := ⟨_, rfl⟩
  rw [← hz] at HD HT HT2
  rw [← hdd] at HD
  clear hdd hz
  go_enter Try.func48, Try.ntmps48
  have kd : Kept w w.drew := Fr.of_drew _ w
  go_wp2_with fail
  go_region_held3 (fun W' => W'.cell? ⟨b, 1, none⟩ = some (.string r)) (first | exact c1 | exact cd | exact c2) (first
      | (go_at_call 35; refine (HD.out _ kd).mono ?_; rintro e w2 ⟨rfl, h2, h3, c2⟩; have H2 := Lib.hid h2; have H3 := Lib.hid h3; clear h2 h3))
  have HS2 := Lib.hid (stopped_any z b w2 H2.out.c0)
  cases z with
  | none =>
    have HE := Lib.hid (HT.out rfl)
    clear HT HT2
    go_wp2_with fail
    refine HS2.out.mono ?_
    rintro e w3 ⟨rfl, rfl⟩
    have e0 : (none : Option (List UInt8)).isNone = true := rfl
    rw [e0]
    have HF : Hid (InPost b (.string (iTake s n).1) (iTake s n).2 w (.returned (.string ⟨#[]⟩)) w2) := Lib.hid (by rw [HE.out]; exact ⟨rfl, H2.out, H3.out⟩)
    go_wp2
    go_ret
    exact HF.out
  | some y =>
    obtain ⟨he, hny⟩ := HT2.out y rfl
    have HE := Lib.hid he
    clear he HT HT2
    obtain ⟨r', hh', hr', hy'⟩ := H2.out
    have hry := hy' y rfl
    have hnr : n ≤ r'.size := by rw [← bs_len, hry]; exact hny
    have d1 : w2.cell? ⟨b, 1, none⟩ = some (.string r') := by rw [Lib.cell_of_heap hh']; rfl
    obtain rfl : r' = r := by
      have h9 := Option.some.inj (d1.symm.trans c2)
      injection h9
    clear c2
    have f1 : w2.frozen? ⟨b, 1, none⟩ = false := Lib.frozen_of_heap hh' 1
    have HH := Lib.hid hh'
    have HR' := Lib.hid (And.intro hr' hry)
    clear hh' hr' hy' c1 cd
    go_wp2_with fail
    refine HS2.out.mono ?_
    rintro e w3 ⟨rfl, rfl⟩
    have e0 : (some y).isNone = false := rfl
    rw [e0]
    have HF : Hid (InPost b (.string (iTake s n).1) (iTake s n).2 w (.returned (.string (r'.extract 0 n))) (w2.setCell ⟨b, 1, none⟩ (.string (r'.extract n r'.size)))) := Lib.hid (by
      rw [HE.out]
      refine ⟨by rw [take_str r' y n HR'.out.2], ⟨r'.extract n r'.size, ?_, ?_, fun l hl => ?_⟩, H3.out.trans (Fr.of_setCell w2 ⟨b, 1, none⟩ _)⟩
      · rw [blockSet HH.out]; rfl
      · have := HR'.out.1
        simp only [ByteArray.size_extract]; omega
      · cases hl; exact drop_str r' y n HR'.out.2)
    clear hny hry hn
    go_wp2
    go_ret
    exact HF.out
theorem iOne_take (s : Option (List UInt8)) : (iTake s 1).2 = (iOne s).2 ∧ ((iTake s 1).1 = ⟨#[]⟩ ∧ (iOne s).1 = 0 ∨ (iTake s 1).1 = ⟨#[(iOne s).1]⟩) := by
  cases s with
  | none => exact ⟨rfl, .inl ⟨rfl, rfl⟩⟩
  | some l =>
    cases l with
    | nil => exact ⟨rfl, .inl ⟨rfl, rfl⟩⟩
    | cons c r => exact ⟨by simp [iTake, iOne], .inr (by simp [iTake, iOne])⟩
set_option maxHeartbeats 1000000 in
theorem ione_any {b : Nat} {s : Option (List UInt8)} {w : World} (h : InAt b s w) :
    Calls Try.prog 49 #[.pointer (some ⟨b, 0, none⟩)] w (InPost b (.int .u8 ((iOne s).1.toNat : Int)) (iOne s).2 w) := by
  obtain ⟨ht2, ht⟩ := iOne_take s
  have H1 := Lib.hid (itake_any 1 (by decide) h)
  rw [ht2] at H1
  rcases ht with ⟨h1, h2⟩ | h1
  · rw [h1] at H1
    rw [h2]
    clear h1 h2 ht2 h
    go_enter Try.func49, Try.ntmps49
    go_wp2_with fail
    refine H1.out.mono ?_
    rintro e w1 ⟨rfl, h3, h4⟩
    have H3 := Lib.hid (And.intro h3 h4)
    clear h3 h4
    go_wp2
    go_ret
    exact ⟨rfl, H3.out⟩
  · rw [h1] at H1
    clear h1 ht2 h
    generalize (iOne s).1 = c at *
    obtain ⟨x, hx⟩ : ∃ x : ByteArray, x = ⟨#[c]⟩ := ⟨_, rfl⟩
    rw [← hx] at H1
    have e0 : x.toList.isEmpty = false := by rw [bs_toList, hx]; rfl
    have e1 : ∀ wx, (Instr.index 9 (.string x) (.int .i64 0)).run Try.prog wx = .ok (.int .u8 (c.toNat : Int)) wx := fun wx => by
      rw [run_index_string wx 9 x _ _ Try.underlying9, dif_pos ⟨by omega, by rw [hx]; show (0 : Int) < ((1 : Nat) : Int); decide⟩]
      subst hx; rfl
    clear hx
    go_enter Try.func49, Try.ntmps49
    go_wp2_with fail
    refine H1.out.mono ?_
    rintro e w1 ⟨rfl, h3, h4⟩
    have H3 := Lib.hid (And.intro h3 h4)
    clear h3 h4
    go_wp2
    go_ret
    exact ⟨rfl, H3.out⟩
set_option maxHeartbeats 1000000 in
theorem ileft_any {b : Nat} {s : Option (List UInt8)} {w : World} (h : InAt b s w) :
    Calls Try.prog 30 #[.pointer (some ⟨b, 0, none⟩)] w fun e w' => e = .returned (.int .i64 (iLeft s)) ∧ w = w' := by
  have HS := Lib.hid (stopped_any s b w h.c0)
  obtain ⟨r, hh, hr, hy⟩ := h
  have c1 : w.cell? ⟨b, 1, none⟩ = some (.string r) := by rw [Lib.cell_of_heap hh]; rfl
  cases s with
  | none =>
    go_enter Try.func30, Try.ntmps30
    go_wp2_with fail
    refine HS.out.mono ?_
    rintro e w1 ⟨rfl, rfl⟩
    have e0 : (none : Option (List UInt8)).isNone = true := rfl
    rw [e0]
    go_wp2
    go_ret
    exact ⟨rfl, rfl⟩
  | some y =>
    have HL : Hid ((r.size : Int) = iLeft (some y)) := Lib.hid (by rw [← hy y rfl]; simp [iLeft, bs_len])
    clear hh hy
    go_enter Try.func30, Try.ntmps30
    go_wp2_with fail
    refine HS.out.mono ?_
    rintro e w1 ⟨rfl, rfl⟩
    have e0 : (some y).isNone = false := rfl
    rw [e0]
    go_wp2
    go_ret
    exact ⟨ret_int HL.out, rfl⟩
theorem iDone_dem (s : Option (List UInt8)) : (iDone s).2 = dem s (iLeft s == 0) ∧ (iDone s).1 = errOf (dem s (iLeft s == 0)) := by
  cases s with
  | none => exact ⟨rfl, rfl⟩
  | some l =>
    cases l with
    | nil => exact ⟨rfl, rfl⟩
    | cons c r =>
      have : (iLeft (some (c :: r)) == 0) = false := by simp [iLeft]; omega
      rw [this]; exact ⟨rfl, rfl⟩
set_option maxHeartbeats 2000000 in
theorem idone_any {b : Nat} {s : Option (List UInt8)} {w : World} (h : InAt b s w) :
    Calls Try.prog 32 #[.pointer (some ⟨b, 0, none⟩)] w (InPost b (.int .i64 (iDone s).1) (iDone s).2 w) := by
  have HLf : Hid (∀ W, Kept w W → Calls Try.prog 30 #[.pointer (some ⟨b, 0, none⟩)] W fun e w' => e = .returned (.int .i64 (iLeft s)) ∧ W = w') := Lib.hid (fun W hk => ileft_any (h.kept hk))
  obtain ⟨m, hm⟩ : ∃ m, m = iLeft s := ⟨_, rfl⟩
  have HDM := Lib.hid (iDone_dem s)
  rw [← hm] at HLf HDM
  have HD : Hid (∀ W, Kept w W → Calls Try.prog 35 #[.pointer (some ⟨b, 0, none⟩), .bool (m == 0)] W fun e w' => e = .returned (.tuple #[]) ∧ InAt b (dem s (m == 0)) w' ∧ Fr (fun k => k = b) w w') := Lib.hid (fun W hk =>
    (demand_any s (m == 0) b W (h.kept hk).c0 (h.kept hk).f0).mono (fun e w' ⟨h1, h2⟩ => ⟨h1, ((h.kept hk).dem h2).1, fr_one hk ((h.kept hk).dem h2).2⟩))
  rw [← HDM.out.1] at HD
  have HC : Hid (errOf (iDone s).2 = (iDone s).1) := Lib.hid (by rw [HDM.out.1, HDM.out.2])
  generalize iDone s = z at *
  clear hm HDM
  have hm0 : 0 = 0 := rfl
  go_enter Try.func32, Try.ntmps32
  have kd : Kept w w.drew := Fr.of_drew _ w
  go_wp2_with fail
  go_region_held3 (fun W' => True) (trivial) (first
      | (go_at_call 30; refine (HLf.out _ kd).mono ?_; rintro e w1 ⟨rfl, rfl⟩)
      | (go_at_call 35; refine (HD.out _ kd).mono ?_; rintro e w2 ⟨rfl, h2, h3⟩; have H2 := Lib.hid h2; have H3 := Lib.hid h3; clear h2 h3))
  all_goals
    have c0 := H2.out.c0
    rw [HC.out] at c0
    go_wp2
    go_ret
    exact ⟨rfl, H2.out, H3.out⟩

end Go.Proofs.Ytfbmlacklhiecaa
