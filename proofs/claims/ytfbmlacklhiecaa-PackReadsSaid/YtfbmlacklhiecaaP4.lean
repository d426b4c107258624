/- Contracts and lemmas: P4 -/
import Derived.Test.YtfbmlacklhiecaaP3
import Derived.Laws.BitsAllLaws
namespace Go.Proofs.Ytfbmlacklhiecaa
set_option linter.unusedVariables false
set_option linter.unusedSimpArgs false
open Go.RowKit Go.ChangeShapes Go.WideShapes
set_option maxRecDepth 20000

open Go.RowKit Go.ChangeShapes Go.WideShapes
set_option maxRecDepth 20000
/-- what a number's reading leaves -/
def NumIs (s : Option (List UInt8)) (f p n : Nat) (m : Int) (s' : Option (List UInt8)) : Prop := (∃ k r, s.bind (numR f p n) = some (k, r) ∧ m = k ∧ s' = some r) ∨ (s.bind (numR f p n) = none ∧ s' = none)
def NumPost (b : Nat) (s : Option (List UInt8)) (w : World) (e : Ending) (w' : World) : Prop :=
  ∃ (m : Int) (s' : Option (List UInt8)), e = .returned (.int .i64 m) ∧ 0 ≤ m ∧ m ≤ 9223372036854775807 ∧ NumIs s 9 0 0 m s' ∧ InAt b s' w' ∧ Fr (fun k => k = b) w w'
theorem ofInt_64 (a : Nat) (ha : a < 18446744073709551616) : (BitVec.ofInt 64 (a : Int)).toNat = a := by
  rw [BitVec.ofInt_natCast, BitVec.toNat_ofNat]; exact Nat.mod_eq_of_lt (by omega)
theorem i64_or_nat (a b : Nat) (ha : a < 9223372036854775808) (hb : b < 9223372036854775808) : bits .or .i64 (a : Int) (b : Int) = ((a ||| b : Nat) : Int) := by
  have hx : a ||| b < 2 ^ 63 := Nat.or_lt_two_pow (by omega) (by omega)
  show IntKind.i64.wrap ((BitVec.ofInt 64 (a : Int) ||| BitVec.ofInt 64 (b : Int)).toNat : Int) = _
  rw [BitVec.toNat_or, ofInt_64 a (by omega), ofInt_64 b (by omega)]
  exact IntWalk.i64_in _ (by omega)
theorem pow_bound (k : Nat) (hk : k < 9) : 128 ^ k ≤ 72057594037927936 ∧ 128 ^ (k + 1) ≤ 9223372036854775808 := by
  have : ∀ j < 9, 128 ^ j ≤ 72057594037927936 ∧ 128 ^ (j + 1) ≤ 9223372036854775808 := by decide
  exact this k hk
theorem num_bits (k n c : Nat) (hk : k < 9) (hn : n < 128 ^ k) :
    bits .or .i64 (n : Int) (wrap64 ((c : Int) % 128 * 2 ^ (7 * k))) = ((n + c % 128 * 128 ^ k : Nat) : Int) ∧ n + c % 128 * 128 ^ k < 128 ^ (k + 1) := by
  have hp := pow_bound k hk
  have hpe : (2 : Nat) ^ (7 * k) = 128 ^ k := by rw [Nat.pow_mul]
  have hpi : (2 : Int) ^ (7 * k) = ((128 ^ k : Nat) : Int) := by rw [← hpe]; push_cast; rfl
  have hc : c % 128 ≤ 127 := by omega
  have hm : c % 128 * 128 ^ k ≤ 127 * 128 ^ k := Nat.mul_le_mul_right _ hc
  have hs : 128 ^ (k + 1) = 128 * 128 ^ k := by rw [Nat.pow_succ, Nat.mul_comm]
  have hlt : n + c % 128 * 128 ^ k < 128 ^ (k + 1) := by omega
  refine ⟨?_, hlt⟩
  have e1 : (c : Int) % 128 * 2 ^ (7 * k) = ((c % 128 * 128 ^ k : Nat) : Int) := by rw [hpi]; push_cast; rfl
  have hm2 : c % 128 * 128 ^ k ≤ 9223372036854775807 := by omega
  clear hpi hpe
  have e2 : wrap64 (((c % 128 * 128 ^ k : Nat) : Int)) = ((c % 128 * 128 ^ k : Nat) : Int) := by
    generalize c % 128 * 128 ^ k = q at *
    unfold wrap64
    omega
  rw [e1, e2, i64_or_nat _ _ (by omega) (by omega)]
  congr 1
  have hpe : (2 : Nat) ^ (7 * k) = 128 ^ k := by rw [Nat.pow_mul]
  have := Nat.shiftLeft_add_eq_or_of_lt (i := 7 * k) (b := n) (by rw [hpe]; exact hn) (c % 128)
  rw [Nat.shiftLeft_eq, hpe] at this
  rw [Nat.or_comm, ← this]; omega
theorem num_bits0 (n : Nat) (hn : n < 9223372036854775808) : bits .or .i64 (n : Int) 0 = (n : Int) := by
  have h := i64_or_nat n 0 hn (by decide)
  simpa using h
theorem numR_succ (f p n : Nat) (c : UInt8) (r : List UInt8) : numR (f + 1) p n (c :: r) = if p ≠ 0 ∧ c = 0 then none else if c.toNat < 128 then some (n + c.toNat * 128 ^ p, r) else numR f (p + 1) (n + (c.toNat - 128) * 128 ^ p) r := rfl
theorem num_zero {s st : Option (List UInt8)} {k n : Nat} (hk : k < 9) (h : s.bind (numR 9 0 0) = st.bind (numR (9 - k) k n)) (hc : (iOne st).1 = 0) (d : Bool) (hd : d = decide (k = 0)) : NumIs s 9 0 0 n (dem (iOne st).2 d) := by
  obtain ⟨f, hf⟩ : ∃ f, 9 - k = f + 1 := ⟨8 - k, by omega⟩
  unfold NumIs
  rw [h, hf]
  cases st with
  | none => exact .inr ⟨rfl, dem_none _⟩
  | some l =>
    cases l with
    | nil => exact .inr ⟨rfl, dem_none _⟩
    | cons c r =>
      simp only [iOne] at hc ⊢
      subst hc
      by_cases hk0 : k = 0
      · subst hk0
        exact .inl ⟨n, r, by rw [Option.bind_some, numR_succ]; simp, rfl, by rw [hd]; rfl⟩
      · refine .inr ⟨by rw [Option.bind_some, numR_succ]; simp [hk0], ?_⟩
        rw [hd]; simp [hk0, dem]
theorem iOne_some {st : Option (List UInt8)} (hc : (iOne st).1 ≠ 0) : ∃ r, st = some ((iOne st).1 :: r) ∧ (iOne st).2 = some r := by
  cases st with
  | none => simp [iOne] at hc
  | some l =>
    cases l with
    | nil => simp [iOne] at hc
    | cons c r => exact ⟨r, rfl, rfl⟩
theorem num_last {s st : Option (List UInt8)} {k n : Nat} {c : UInt8} (hk : k < 9) (h : s.bind (numR 9 0 0) = st.bind (numR (9 - k) k n)) (hc : c = (iOne st).1) (h0 : c ≠ 0) (h1 : c.toNat < 128) : NumIs s 9 0 0 ((n + c.toNat % 128 * 128 ^ k : Nat) : Int) (iOne st).2 := by
  obtain ⟨f, hf⟩ : ∃ f, 9 - k = f + 1 := ⟨8 - k, by omega⟩
  obtain ⟨r, hr, hr2⟩ := iOne_some (by rw [← hc]; exact h0)
  rw [← hc] at hr
  unfold NumIs
  rw [h, hf, hr2]
  refine .inl ⟨n + c.toNat * 128 ^ k, r, ?_, ?_, rfl⟩
  · rw [hr, Option.bind_some, numR_succ, if_neg (by simp [h0]), if_pos h1]
  · rw [Nat.mod_eq_of_lt h1]
theorem num_next {s st : Option (List UInt8)} {k n : Nat} {c : UInt8} (hk : k < 9) (h : s.bind (numR 9 0 0) = st.bind (numR (9 - k) k n)) (hc : c = (iOne st).1) (h1 : ¬ c.toNat < 128) :
    s.bind (numR 9 0 0) = (iOne st).2.bind (numR (9 - (k + 1)) (k + 1) (n + c.toNat % 128 * 128 ^ k)) ∧ (iOne st).2 ≠ none := by
  obtain ⟨f, hf⟩ : ∃ f, 9 - k = f + 1 := ⟨8 - k, by omega⟩
  have h0 : c ≠ 0 := by rintro rfl; simp at h1
  obtain ⟨r, hr, hr2⟩ := iOne_some (by rw [← hc]; exact h0)
  rw [← hc] at hr
  refine ⟨?_, by rw [hr2]; simp⟩
  have hf2 : 9 - (k + 1) = f := by omega
  rw [h, hf, hr2, hf2, hr, Option.bind_some, Option.bind_some, numR_succ, if_neg (by simp [h0]), if_neg h1]
  have := c.toNat_lt
  congr 3
  omega
set_option maxHeartbeats 4000000 in
theorem inumber_any {b : Nat} {s : Option (List UInt8)} {w : World} (h : InAt b s w) :
    Calls Try.prog 47 #[.pointer (some ⟨b, 0, none⟩)] w (NumPost b s w) := by
  have H0 := Lib.hid h
  clear h
  go_enter Try.func47, Try.ntmps47
  go_wp2_with fail
  go_loopw [3, 6] (fun a i wr => ∃ (k n : Nat) (st : Option (List UInt8)), k ≤ 9 ∧ i = .int .i64 k ∧ a = .int .i64 n ∧ Hid (n < 128 ^ k) ∧ Hid (s.bind (numR 9 0 0) = st.bind (numR (9 - k) k n)) ∧ Hid (InAt b st wr ∧ Fr (fun k => k = b) w wr)) (fun _ i _ => 9 - (intOf i).toNat)
  case atStart => exact ⟨0, 0, s, by omega, rfl, rfl, Lib.hid (by decide), Lib.hid rfl, Lib.hid ⟨H0.out, Fr.refl _ _⟩⟩
  case round =>
    obtain ⟨k, n, st, hk, rfl, rfl, hn, hs, hst⟩ := hrel
    by_cases hlt : k < 9
    · have h1 : (k : Int) < 9 := by omega
      have HON := Lib.hid (ione_any hst.out.1)
      obtain ⟨c, hc⟩ : ∃ c, c = (iOne st).1 := ⟨_, rfl⟩
      obtain ⟨s2, hs2⟩ : ∃ s2, s2 = (iOne st).2 := ⟨_, rfl⟩
      rw [← hc, ← hs2] at HON
      have HNB := Lib.hid (num_bits k n c.toNat hlt hn.out)
      have HPB := Lib.hid (pow_bound k hlt)
      have HC := Lib.hid (And.intro hc hs2)
      clear hc hs2
      go_wp2_with fail
      refine HON.out.mono ?_
      rintro e w1 ⟨rfl, h3, h4⟩
      have H1 := Lib.hid h3
      have H2 := Lib.hid (hst.out.2.trans h4)
      clear h3 h4
      have HD : Hid (∀ d, Calls Try.prog 35 #[.pointer (some ⟨b, 0, none⟩), .bool d] w1 fun e w' => e = .returned (.tuple #[]) ∧ InAt b (dem s2 d) w' ∧ Fr (fun k => k = b) w w') := Lib.hid (fun d =>
        (demand_any s2 d b w1 H1.out.c0 H1.out.f0).mono (fun e w' ⟨h1, h2⟩ => ⟨h1, (H1.out.dem h2).1, H2.out.trans (H1.out.dem h2).2⟩))
      by_cases hc0 : c = 0
      · have HZ := Lib.hid (num_zero hlt hs.out (by rw [← HC.out.1]; exact hc0) (decide (k = 0)) rfl)
        rw [← HC.out.2] at HZ
        subst hc0
        have E1 : bits .or .i64 (n : Int) 0 = (n : Int) := num_bits0 n (by have := hn.out; have := HPB.out; omega)
        have HB : Hid ((n : Int) ≤ 9223372036854775807) := Lib.hid (by have := hn.out; have := HPB.out; omega)
        have hkd : ((k : Int) == 0) = decide (k = 0) := by
          by_cases hk0 : k = 0 <;> simp [hk0]
        go_wp2_with fail
        refine (HD.out _).mono ?_
        rintro e w2 ⟨rfl, h5, h6⟩
        have H5 := Lib.hid (And.intro h5 h6)
        clear h5 h6 hkd
        go_wp2_with fail
        go_ret
        exact ⟨_, _, rfl, by omega, HB.out, HZ.out, H5.out⟩
      · have hcp : 0 < c.toNat := by
          rcases Nat.eq_zero_or_pos c.toNat with h | h
          · exact absurd (UInt8.toNat_inj.1 (by simpa using h)) hc0
          · exact h
        by_cases hc1 : c.toNat < 128
        · have hc2 : (c.toNat : Int) < 128 := by omega
          have hc3 : 0 < (c.toNat : Int) := by omega
          have HZ := Lib.hid (num_last hlt hs.out HC.out.1 hc0 hc1)
          rw [← HC.out.2] at HZ
          have E1 := HNB.out.1
          have HB : Hid (((n + c.toNat % 128 * 128 ^ k : Nat) : Int) ≤ 9223372036854775807) := Lib.hid (by have := HNB.out.2; have := HPB.out; omega)
          clear HNB hc0
          generalize n + c.toNat % 128 * 128 ^ k = M at *
          go_wp2_with fail
          refine (HD.out _).mono ?_
          rintro e w2 ⟨rfl, h5, h6⟩
          have H5 := Lib.hid (And.intro h5 h6)
          clear h5 h6
          go_wp2_with fail
          go_ret
          exact ⟨_, _, rfl, by omega, HB.out, HZ.out, H5.out⟩
        · have hc2 : ¬ (c.toNat : Int) < 128 := by omega
          have HZ := Lib.hid (num_next hlt hs.out HC.out.1 hc1).1
          rw [← HC.out.2] at HZ
          have E1 := HNB.out.1
          have HB := Lib.hid HNB.out.2
          have hcl := c.toNat_lt
          clear HNB hc0 hn hs
          generalize n + c.toNat % 128 * 128 ^ k = M at *
          go_wp2_with fail
          go_roundw
          case rel => exact ⟨k + 1, M, s2, by omega, by go_num, by first | rfl | (rw [E1]), HB, HZ, Lib.hid ⟨H1.out, H2.out⟩⟩
          case measure => simp [intOf]; omega
    · obtain rfl : k = 9 := by omega
      have HD : Hid (Calls Try.prog 35 #[.pointer (some ⟨b, 0, none⟩), .bool false] wr fun e w' => e = .returned (.tuple #[]) ∧ InAt b (dem st false) w' ∧ Fr (fun k => k = b) w w') := Lib.hid
        ((demand_any st false b wr hst.out.1.c0 hst.out.1.f0).mono (fun e w' ⟨h1, h2⟩ => ⟨h1, (hst.out.1.dem h2).1, hst.out.2.trans (hst.out.1.dem h2).2⟩))
      have HZ : Hid (NumIs s 9 0 0 0 (dem st false)) := Lib.hid (.inr ⟨by rw [hs.out]; cases st <;> rfl, rfl⟩)
      go_wp2_with fail
      refine HD.out.mono ?_
      rintro e w2 ⟨rfl, h5, h6⟩
      have H5 := Lib.hid (And.intro h5 h6)
      clear h5 h6
      go_wp2_with fail
      go_ret
      exact ⟨_, _, rfl, by decide, by decide, HZ.out, H5.out⟩

end Go.Proofs.Ytfbmlacklhiecaa
