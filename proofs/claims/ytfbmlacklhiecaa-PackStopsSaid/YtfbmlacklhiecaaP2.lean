/- Contracts and lemmas: P2 -/
import Derived.Test.YtfbmlacklhiecaaP1
import Derived.Laws.BitsAllLaws
import Derived.Laws.Bits128
namespace Go.Proofs.Ytfbmlacklhiecaa
set_option linter.unusedVariables false
set_option linter.unusedSimpArgs false
open Go.RowKit Go.ChangeShapes Go.WideShapes
set_option maxRecDepth 20000

open Go.RowKit Go.ChangeShapes Go.WideShapes
set_option maxRecDepth 20000
theorem map_app (s : Option (List UInt8)) (p q : List UInt8) : (s.map (· ++ p)).map (· ++ q) = s.map (· ++ (p ++ q)) := by cases s <;> simp
theorem map_nil (s : Option (List UInt8)) : s.map (· ++ []) = s := by cases s <;> simp
/-- how far a number is written -/
def NumK (n m : Int) (p : List UInt8) : Prop := (n < 0 ∧ m = n ∧ p = []) ∨ (0 ≤ m ∧ ∃ f, p ++ numF f m.toNat = numB n.toNat ∧ m.toNat < 128 ^ (f + 1))
theorem numK_len {n m : Int} {p : List UInt8} (h : NumK n m p) : p.length ≤ 10 := by
  rcases h with ⟨_, _, rfl⟩ | ⟨_, f, h, _⟩
  · simp
  · have h1 := congrArg List.length h
    have h2 := (numB_len n.toNat).2
    simp at h1
    omega
theorem numK_start (n : Int) (h1 : n ≤ 9223372036854775807) : NumK n n [] := by
  rcases Int.lt_or_le n 0 with h | h
  · exact .inl ⟨h, rfl, rfl⟩
  · refine .inr ⟨h, 9, by simp [numB], ?_⟩
    have : n.toNat ≤ 9223372036854775807 := by omega
    exact Nat.lt_of_le_of_lt this (by decide)
theorem numK_step {n m : Int} {p : List UInt8} (h : NumK n m p) (hm : 128 ≤ m) : NumK n (m / 128) (p ++ [UInt8.ofNat (m % 128 + 128).toNat]) := by
  rcases h with ⟨h1, h2, _⟩ | ⟨h0, f, h1, h2⟩
  · omega
  · cases f with
    | zero => simp at h2; omega
    | succ f =>
      refine .inr ⟨by omega, f, ?_, ?_⟩
      · rw [← h1]
        have e1 : (m / 128).toNat = m.toNat / 128 := by omega
        have e2 : (m % 128 + 128).toNat = m.toNat % 128 + 128 := by omega
        have e3 : numF (f + 1) m.toNat = UInt8.ofNat (m.toNat % 128 + 128) :: numF f (m.toNat / 128) := by rw [numF, if_pos (by omega)]
        rw [e1, e2, e3]; simp
      · have e1 : (m / 128).toNat = m.toNat / 128 := by omega
        rw [e1, Nat.div_lt_iff_lt_mul (by decide)]
        rw [Nat.pow_succ] at h2
        exact h2
theorem numK_end {n m : Int} {p : List UInt8} {s : Option (List UInt8)} (h : NumK n m p) (hm : m < 128) : (dem s (decide (0 ≤ n ∧ n ≤ 4611686018427387904))).map (· ++ (p ++ [UInt8.ofNat (m % 256).toNat])) = oNum s n := by
  rcases h with ⟨h1, h2, _⟩ | ⟨h0, f, h1, h2⟩
  · have : decide (0 ≤ n ∧ n ≤ 4611686018427387904) = false := by simp; omega
    rw [oNum, this]; simp [dem]
  · unfold oNum
    congr 1
    funext x
    congr 1
    rw [← h1]
    have e : (m % 256).toNat = m.toNat := by omega
    rw [e]
    cases f with
    | zero => rfl
    | succ f => rw [numF, if_neg (by omega)]
theorem u8_self (x : Int) (h0 : 0 ≤ x) (h1 : x < 256) : x = ((UInt8.ofNat x.toNat).toNat : Int) := by
  rw [UInt8.toNat_ofNat']; omega
theorem or128 (m : Int) : bits .or .u8 (m % 256) 128 = m % 128 + 128 := by
  have h0 : 0 ≤ m % 256 := Int.emod_nonneg _ (by decide)
  have h1 : m % 256 < 256 := Int.emod_lt_of_pos _ (by decide)
  obtain ⟨k, hk⟩ : ∃ k : Nat, m % 256 = (k : Int) := ⟨(m % 256).toNat, by omega⟩
  have hk2 : k < 256 := by omega
  have e : m % 128 = ((k % 128 : Nat) : Int) := by omega
  rw [hk, e, show (128 : Int) = ((128 : Nat) : Int) from rfl, u8_or_nat k 128 hk2 (by decide)]
  have : ∀ k < 256, k ||| 128 = k % 128 + 128 := by decide +kernel
  rw [this k hk2]; omega
set_option maxHeartbeats 4000000 in
theorem onum_any {B b : Nat} {s : Option (List UInt8)} {w : World} (n : Int) (hn0 : -9223372036854775808 ≤ n) (hn1 : n ≤ 9223372036854775807) (h : OutAt B b s w) (hl : olen s ≤ 9000000) (hB : B ≤ w.heap.size) :
    Calls Try.prog 10 #[.pointer (some ⟨b, 0, none⟩), .int .i64 n] w (OutPost B b (oNum s n) w) := by
  have HB := Lib.hid hB
  have HO := Lib.hid h
  have HK := Lib.hid (numK_start n hn1)
  obtain ⟨d, hd⟩ : ∃ d, d = decide (0 ≤ n ∧ n ≤ 4611686018427387904) := ⟨_, rfl⟩
  have HD := Lib.hid (demand_any s d b w h.c0 h.f0)
  have HE := Lib.hid hd
  have HL : Hid (olen (dem s d) ≤ 9000000) := Lib.hid (by have := olen_dem s d; omega)
  clear h hl
  have hcase : (d = true ∧ decide (0 ≤ n) = true ∧ decide (n ≤ 4611686018427387904) = true) ∨ (d = false ∧ decide (0 ≤ n) = false) ∨ (d = false ∧ decide (0 ≤ n) = true ∧ decide (n ≤ 4611686018427387904) = false) := by
    rw [hd]
    by_cases h0 : 0 ≤ n
    · by_cases h1 : n ≤ 4611686018427387904
      · exact .inl ⟨by simp; omega, by simp; omega, by simp; omega⟩
      · exact .inr (.inr ⟨by simp; omega, by simp; omega, by simp; omega⟩)
    · exact .inr (.inl ⟨by simp; omega, by simp; omega⟩)
  have HN : Hid (-9223372036854775808 ≤ n ∧ n ≤ 9223372036854775807) := Lib.hid ⟨hn0, hn1⟩
  clear hd
  rcases hcase with ⟨rfl, g0, g1⟩ | ⟨rfl, g0⟩ | ⟨rfl, g0, g1⟩
  all_goals
    go_enter Try.func10, Try.ntmps10
    go_wp2_with fail
    refine HD.out.mono ?_
    rintro e w2 ⟨rfl, hd2⟩
    have H2 := Lib.hid (HO.out.dem hd2)
    clear hd2 g0 hn0 hn1 hB
    try clear g1
    go_wp2_with fail
    go_loopw [1] (fun v wr => ∃ (m : Int) (q : List UInt8), v = .int .i64 m ∧ m ≤ 9223372036854775807 ∧ -9223372036854775808 ≤ m ∧ Hid (NumK n m q) ∧ Hid (OutAt B b ((dem s (decide (0 ≤ n ∧ n ≤ 4611686018427387904))).map (· ++ q)) wr ∧ TurnB B b w wr)) (fun v _ => (intOf v).toNat)
    case atStart => exact ⟨n, [], rfl, HN.out.2, HN.out.1, HK, Lib.hid (by rw [map_nil, ← HE.out]; exact H2.out)⟩
    case round =>
      obtain ⟨m, q, rfl, hm1, hm0, hq, hr⟩ := hrel
      have HBr : Hid (B ≤ wr.heap.size) := Lib.hid (Nat.le_trans HB.out hr.out.2.size)
      have HLr : Hid (olen ((dem s (decide (0 ≤ n ∧ n ≤ 4611686018427387904))).map (· ++ q)) ≤ 10000000) := Lib.hid (by
        have h1 := olen_map (dem s (decide (0 ≤ n ∧ n ≤ 4611686018427387904))) q
        have h2 := HL.out
        rw [HE.out] at h2
        have h3 := numK_len hq.out
        omega)
      by_cases hlt : 128 ≤ m
      · have HU : Hid (m % 128 + 128 = ((UInt8.ofNat (m % 128 + 128).toNat).toNat : Int)) := Lib.hid (u8_self _ (by omega) (by omega))
        have g3 : decide (128 ≤ m) = true := by simpa using hlt
        have HSt := Lib.hid (numK_step hq.out hlt)
        go_wp2_with fail
        rw [or128 m]
        refine (oone_any (m % 128 + 128) HU.out hr.out.1 HLr.out HBr.out).mono ?_
        rintro e w3 ⟨rfl, h3, h4⟩
        have HR3 := Lib.hid (And.intro h3 (hr.out.2.trans h4))
        clear h3 h4
        rw [map_app] at HR3
        go_wp2_with fail
        go_roundw
        case rel => exact ⟨m / 128, _, by go_num, by omega, by omega, HSt, HR3⟩
        case measure => simp [intOf]; omega
      · have HU : Hid (m % 256 = ((UInt8.ofNat (m % 256).toNat).toNat : Int)) := Lib.hid (u8_self _ (by omega) (by omega))
        have g3 : decide (128 ≤ m) = false := by simp; omega
        have HSt := Lib.hid (numK_end (s := s) hq.out (by omega))
        go_wp2_with fail
        refine (oone_any (m % 256) HU.out hr.out.1 HLr.out HBr.out).mono ?_
        rintro e w3 ⟨rfl, h3, h4⟩
        rw [map_app, HSt.out] at h3
        have HR3 := Lib.hid (And.intro h3 (hr.out.2.trans h4))
        clear h3 h4
        go_wp2
        go_end0
        exact ⟨rfl, HR3.out⟩
theorem ofNat_mod (k : Nat) : UInt8.ofNat (k % 256) = UInt8.ofNat k := by
  apply UInt8.toNat_inj.1
  simp [UInt8.toNat_ofNat']
set_option maxHeartbeats 2000000 in
theorem otext_any {B b : Nat} {s : Option (List UInt8)} {w : World} (t : ByteArray) (ht : t.size ≤ 100000) (h : OutAt B b s w) (hl : olen s ≤ 8000000) (hB : B ≤ w.heap.size) :
    Calls Try.prog 12 #[.pointer (some ⟨b, 0, none⟩), .string t] w (OutPost B b (oText s t) w) := by
  have H1 := Lib.hid (onum_any (t.size : Int) (by omega) (by omega) h (by omega) hB)
  have HB := Lib.hid hB
  have HL : Hid (olen (oNum s t.size) ≤ 10000000) := Lib.hid (by have := oNum_len s t.size; omega)
  go_enter Try.func12, Try.ntmps12
  go_wp2_with fail
  refine H1.out.mono ?_
  rintro e w2 ⟨rfl, h2, h3⟩
  have H2 := Lib.hid h2
  have H3 := Lib.hid h3
  clear h2 h3
  go_wp2_with fail
  refine (oput_any t H2.out HL.out (.inr (by omega)) (Nat.le_trans HB.out H3.out.size)).mono ?_
  rintro e w4 ⟨rfl, h4, h5⟩
  have H4 := Lib.hid (And.intro h4 (H3.out.trans h5))
  clear h4 h5
  go_wp2
  go_end0
  exact ⟨rfl, H4.out⟩
set_option maxHeartbeats 2000000 in
theorem oword_any {B b : Nat} {s : Option (List UInt8)} {w : World} (t : ByteArray) (ht : t.size ≤ 100000) (h : OutAt B b s w) (hl : olen s ≤ 8000000) (hB : B ≤ w.heap.size) :
    Calls Try.prog 14 #[.pointer (some ⟨b, 0, none⟩), .string t] w (OutPost B b (oWord s t) w) := by
  have hsm : t.size ≤ maxLen := by unfold maxLen; omega
  have HM : Hid (∀ W, Calls Try.prog 39 #[.string t] W (KeptPost (.bool (mayS t)) W)) := Lib.hid (fun W => may_any t W hsm)
  have HN : Hid (∀ W, Calls Try.prog 40 #[.string t] W fun e w' => e = .returned (.int .i64 ((t.size : Int) / 2)) ∧ W = w') := Lib.hid (fun W => len_any t W hsm)
  obtain ⟨d, hd⟩ : ∃ d, d = mayS t := ⟨_, rfl⟩
  rw [← hd] at HM
  have HB := Lib.hid hB
  have HD : Hid (∀ W, Kept w W → Calls Try.prog 35 #[.pointer (some ⟨b, 0, none⟩), .bool d] W fun e w' => e = .returned (.tuple #[]) ∧ OutAt B b (dem s d) w' ∧ TurnB B b w w') := Lib.hid (fun W hk =>
    (demand_any s d b W (h.kept hk).c0 (h.kept hk).f0).mono (fun e w' ⟨h1, h2⟩ => ⟨h1, ((h.kept hk).dem h2).1, (TurnB.kept hk).trans ((h.kept hk).dem h2).2⟩))
  have HL : Hid (olen (dem s d) ≤ 8000000) := Lib.hid (by have := olen_dem s d; omega)
  have HU : Hid (((t.size : Int) / 2) % 256 = ((UInt8.ofNat (((t.size : Int) / 2) % 256).toNat).toNat : Int)) := Lib.hid (u8_self _ (by omega) (by omega))
  have HE : Hid (((dem s d).map (· ++ [UInt8.ofNat (((t.size : Int) / 2) % 256).toNat])).map (· ++ bs t) = oWord s t) := Lib.hid (by
    rw [map_app, hd, oWord, wordB]
    have e : (((t.size : Int) / 2) % 256).toNat = t.size / 2 % 256 := by omega
    rw [e, ofNat_mod]; rfl)
  clear hd hl hB h hsm
  go_enter Try.func14, Try.ntmps14
  have kd : Kept w w.drew := Fr.of_drew _ w
  go_upto_region 0 with fail
  go_region_held3 (fun W' => True) (trivial) (first
    | (go_at_call 39; refine (HM.out _).mono ?_; rintro e w1 ⟨rfl, hk1⟩; have k1 : Kept w w1 := kd.trans hk1; clear hk1)
    | (go_at_call 35; refine (HD.out _ k1).mono ?_; rintro e w2 ⟨rfl, h2, h3⟩; have H2 := Lib.hid h2; have H3 := Lib.hid h3; clear h2 h3))
  go_wp2_with fail
  refine (HN.out _).mono ?_
  rintro e w3 ⟨rfl, rfl⟩
  go_wp2_with fail
  refine (oone_any _ HU.out H2.out (by have := HL.out; omega) (Nat.le_trans HB.out H3.out.size)).mono ?_
  rintro e w4 ⟨rfl, h4, h5⟩
  have H4 := Lib.hid h4
  have H5 := Lib.hid (H3.out.trans h5)
  clear h4 h5
  go_wp2_with fail
  refine (oput_any t H4.out (by have h1 := HL.out; have h2 := olen_map (dem s d) [UInt8.ofNat (((t.size : Int) / 2) % 256).toNat]; simp at h2; omega) (.inr (by omega)) (Nat.le_trans HB.out H5.out.size)).mono ?_
  rintro e w6 ⟨rfl, h6, h7⟩
  rw [HE.out] at h6
  have H6 := Lib.hid (And.intro h6 (H5.out.trans h7))
  clear h6 h7
  go_wp2
  go_end0
  exact ⟨rfl, H6.out⟩
theorem setW_take {l : List ByteArray} {k : Nat} {x : ByteArray} (h : l[k]? = some x) : setW (l.take (k + 1)) = setW (l.take k) ++ wordB x := by
  rw [List.take_add_one, h, setW_append]; simp [setW]
theorem setW_len : ∀ (l : List ByteArray), (∀ x ∈ l, mayS x = true) → (setW l).length ≤ 17 * l.length
  | [], _ => by simp [setW]
  | w :: r, h => by
    have := setW_len r (fun x hx => h x (by simp [hx]))
    have := mayS_sz (h w (by simp))
    have h2 : (wordB w).length = w.size + 1 := by simp [wordB, bs_len]
    simp only [setW, List.length_append, List.length_cons]
    omega
set_option maxHeartbeats 4000000 in
theorem oset_any {B b : Nat} {s : Option (List UInt8)} {w : World} {G : Nat → Prop} {v : Value} {l : List ByteArray} (hv : ∀ W, TurnB B b w W → Reads W G v (wcells l)) (hl : l.length ≤ 100000) (hs : Small 100000 l) (h : OutAt B b s w) (ho : olen s ≤ 7000000) (hB : B ≤ w.heap.size) :
    Calls Try.prog 16 #[.pointer (some ⟨b, 0, none⟩), v] w (OutPost B b (oSet s l) w) := by
  have hsm : Small maxLen l := fun x hx => Nat.le_trans (hs x hx) (by decide)
  have HM : Hid (∀ W, TurnB B b w W → Calls Try.prog 43 #[v] W (KeptPost (.bool (mayL l)) W)) := Lib.hid (fun W hk => may_set (hv W hk) hl hsm)
  obtain ⟨d, hd⟩ : ∃ d, d = mayL l := ⟨_, rfl⟩
  rw [← hd] at HM
  have HDE := Lib.hid hd
  have HB := Lib.hid hB
  have HD : Hid (∀ W, Kept w W → Calls Try.prog 35 #[.pointer (some ⟨b, 0, none⟩), .bool d] W fun e w' => e = .returned (.tuple #[]) ∧ OutAt B b (dem s d) w' ∧ TurnB B b w w') := Lib.hid (fun W hk =>
    (demand_any s d b W (h.kept hk).c0 (h.kept hk).f0).mono (fun e w' ⟨h1, h2⟩ => ⟨h1, ((h.kept hk).dem h2).1, (TurnB.kept hk).trans ((h.kept hk).dem h2).2⟩))
  have HL : Hid (olen (dem s d) ≤ 7000000) := Lib.hid (by have := olen_dem s d; omega)
  have HV := Lib.hid hv
  have HS := Lib.hid hs
  obtain ⟨ao, cp, hvv, hcc, _⟩ := hv w (TurnB.refl _ _ _)
  subst hvv
  rw [wcells_len] at hcc HM HV ⊢
  generalize hn : l.length = n at *
  have HN := Lib.hid hn
  clear hd ho hB h hsm hv hs hn
  go_enter Try.func16, Try.ntmps16
  have kd : Kept w w.drew := Fr.of_drew _ w
  go_upto_region 0 with fail
  go_region_held3 (fun W' => True) (trivial) (first
    | (go_at_call 43; refine (HM.out _ (TurnB.kept kd)).mono ?_; rintro e w1 ⟨rfl, hk1⟩; have k1 : Kept w w1 := kd.trans hk1; clear hk1)
    | (go_at_call 35; refine (HD.out _ k1).mono ?_; rintro e w2 ⟨rfl, h2, h3⟩; have H2 := Lib.hid h2; have H3 := Lib.hid h3; clear h2 h3))
  clear kd k1
  have HS2 := Lib.hid (stopped_any (dem s d) b w2 H2.out.c0)
  obtain ⟨z, hz⟩ : ∃ z, z = dem s d := ⟨_, rfl⟩
  rw [← hz] at HS2 H2 HL
  have HZ : Hid (oSet s l = z.map (· ++ setB l)) := Lib.hid (by rw [hz, HDE.out]; rfl)
  have HMA : Hid (z.isSome = true → mayL l = true) := Lib.hid (fun h0 => by
    rw [← HDE.out]
    cases d
    · rw [hz] at h0; simp [dem] at h0
    · rfl)
  clear hz
  cases z with
  | none =>
    go_wp2_with fail
    refine HS2.out.mono ?_
    rintro e w3 ⟨rfl, rfl⟩
    have e0 : (none : Option (List UInt8)).isNone = true := rfl
    rw [e0]
    have HF : Hid (OutAt B b (oSet s l) w2) := Lib.hid (by rw [HZ.out]; exact H2.out)
    go_wp2
    go_end0
    exact ⟨rfl, HF.out, H3.out⟩
  | some y =>
    have hml := HMA.out rfl
    have HAM := Lib.hid (mayL_iff.1 hml).2.1
    have h16 := (mayL_iff.1 hml).1
    rw [HN.out] at h16
    obtain ⟨h161, h162⟩ := h16
    have HU : Hid ((n : Int) = ((UInt8.ofNat (n : Int).toNat).toNat : Int)) := Lib.hid (u8_self _ (by omega) (by omega))
    have HU2 : Hid (UInt8.ofNat (n : Int).toNat = UInt8.ofNat l.length) := Lib.hid (by rw [HN.out]; rfl)
    have hl7 : y.length ≤ 7000000 := HL.out
    clear hml HL
    go_wp2_with fail
    refine HS2.out.mono ?_
    rintro e w3 ⟨rfl, rfl⟩
    have e0 : (some y).isNone = false := rfl
    rw [e0]
    go_wp2_with fail
    refine (oone_any (n : Int) HU.out H2.out (by simp only [olen]; omega) (Nat.le_trans HB.out H3.out.size)).mono ?_
    rintro e w4 ⟨rfl, h4, h5⟩
    rw [HU2.out] at h4
    have H4 : Hid (OutAt B b (some (y ++ [UInt8.ofNat l.length] ++ setW (l.take 0))) w4) := Lib.hid (by simpa [setW] using h4)
    have H5 := Lib.hid (H3.out.trans h5)
    clear h4 h5 HU HU2 HS2
    go_wp2_with fail
    go_loopw [23] (fun i wr => ∃ k : Nat, k ≤ n ∧ i = .int .i64 k ∧ Hid (OutAt B b (some (y ++ [UInt8.ofNat l.length] ++ setW (l.take k))) wr ∧ TurnB B b w wr)) (fun i _ => n - (intOf i).toNat)
    case atStart => exact ⟨0, by omega, rfl, Lib.hid ⟨H4.out, H5.out⟩⟩
    case round =>
      obtain ⟨k, hk, rfl, hr⟩ := hrel
      clear H4 H5
      by_cases hlt : k < n
      · have h1 : (k : Int) < n := by omega
        obtain ⟨x, hx⟩ : ∃ x, l[k]? = some x := ⟨_, List.getElem?_eq_getElem (by have := HN.out; omega)⟩
        obtain ⟨ao', cp', hvv, _, hcell⟩ := HV.out wr hr.out.2
        obtain ⟨g, off, ha, _, hc⟩ := hcell k _ (wcells_get hx)
        cases hvv
        subst ha
        have hsx : x.size ≤ 100000 := HS.out x (List.mem_of_getElem? hx)
        have HMX := Lib.hid (HAM.out x (List.mem_of_getElem? hx))
        have HT := Lib.hid (setW_take hx)
        have HLen : Hid ((y ++ [UInt8.ofNat l.length] ++ setW (l.take k)).length ≤ 8000000) := Lib.hid (by
          have := setW_len (l.take k) (fun x hx => HAM.out x (List.mem_of_mem_take hx))
          simp only [List.length_append, List.length_take, List.length_cons, List.length_nil] at this ⊢
          omega)
        clear hcell hx
        go_wp2_with fail
        refine (oword_any x hsx hr.out.1 HLen.out (Nat.le_trans HB.out hr.out.2.size)).mono ?_
        rintro e w5 ⟨rfl, h5, h6⟩
        have H6 : Hid (OutAt B b (some (y ++ [UInt8.ofNat l.length] ++ setW (l.take (k + 1)))) w5 ∧ TurnB B b w w5) := Lib.hid ⟨by
          rw [HT.out, ← List.append_assoc]
          rw [oWord, HMX.out, dem_true] at h5
          exact h5, hr.out.2.trans h6⟩
        clear h5 h6 hc
        go_wp2_with fail
        go_roundw
        case rel => exact ⟨k + 1, by omega, by go_num, H6⟩
        case measure => simp [intOf]; omega
      · have h1 : ¬ (k : Int) < n := by omega
        have HF : Hid (OutAt B b (oSet s l) wr) := Lib.hid (by
          rw [HZ.out]
          have := hr.out.1
          rw [List.take_of_length_le (by have := HN.out; omega)] at this
          simpa [setB] using this)
        go_wp2
        go_end0
        exact ⟨rfl, HF.out, hr.out.2⟩
theorem run_bytes_string {w : World} {base : Nat} {v : Value} {l : List UInt8} {n : Nat} (h : w.ownsRow base 5 1 v n (bcells l)) : (convert 29 9 v).run Try.prog w = .ok (.string ⟨l.toArray⟩) w := by
  have hl : l.length = n := by have := h.1; simpa [bcells_len] using this
  rcases h.2 with ⟨rfl, h0⟩ | ⟨g, cap, cur, rfl, _⟩
  · rw [run_convert_bytes_nil w 29 5 Try.underlying29 Try.underlying5 0 0 9 Try.underlying9]
    have : l = [] := List.eq_nil_of_length_eq_zero (by omega)
    subst this; rfl
  · subst hl
    refine run_convert_bytes_back w 29 9 5 ⟨g, 0, none⟩ cap l Try.underlying29 Try.underlying5 Try.underlying9 (fun j hj => ?_)
    refine h.cells (g := g) rfl j _ ?_
    simp [bcells, List.getElem?_eq_getElem hj]
set_option maxHeartbeats 1000000 in
theorem odone_any {B b : Nat} {s : Option (List UInt8)} {w : World} (h : OutAt B b s w) :
    Calls Try.prog 18 #[.pointer (some ⟨b, 0, none⟩)] w (KeptPost (.tuple #[.string (oDone s).1, .int .i64 (oDone s).2]) w) := by
  have HS := Lib.hid (stopped_any s b w h.c0)
  have c0 := h.c0
  cases s with
  | none =>
    simp only [errOf] at c0
    clear h
    go_enter Try.func18, Try.ntmps18
    go_wp2_with fail
    refine HS.out.mono ?_
    rintro e w' ⟨rfl, rfl⟩
    have e0 : (none : Option (List UInt8)).isNone = true := rfl
    rw [e0]
    go_wp2_with fail
    go_quiet (fail)
    go_wp2
    go_ret2
    exact ⟨rfl, Fr.of_drewN _ _ _⟩
  | some l =>
    obtain ⟨v, hh, ho⟩ := h
    have c1 : w.cell? ⟨b, 1, none⟩ = some v := by rw [Lib.cell_of_heap hh]; rfl
    have x1 := run_bytes_string (ho l rfl)
    obtain ⟨ao, cp, hv, _⟩ := own_slice (ho l rfl)
    subst hv
    clear hh ho c0
    go_enter Try.func18, Try.ntmps18
    go_wp2_with fail
    refine HS.out.mono ?_
    rintro e w' ⟨rfl, rfl⟩
    have e0 : (some l).isNone = false := rfl
    rw [e0]
    go_wp2
    go_ret2
    exact ⟨rfl, Fr.refl _ _⟩

end Go.Proofs.Ytfbmlacklhiecaa
