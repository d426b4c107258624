/- Contracts and lemmas: T1 -/
import Derived.Test.YtfbmlacklhiecaaL3
namespace Go.Proofs.Ytfbmlacklhiecaa
set_option linter.unusedVariables false
set_option linter.unusedSimpArgs false
open Go.RowKit Go.ChangeShapes Go.WideShapes
set_option maxRecDepth 20000

open Go.RowKit Go.ChangeShapes Go.WideShapes
set_option maxRecDepth 20000
theorem ofNat_toNat_lt {n : Nat} (h : n < 256) : (UInt8.ofNat n).toNat = n := by rw [UInt8.toNat_ofNat']; omega
theorem ofNat_ne {n : Nat} (h : n < 256) (h0 : n ≠ 0) : UInt8.ofNat n ≠ 0 := fun e => h0 (by have := congrArg UInt8.toNat e; rw [ofNat_toNat_lt h] at this; simpa using this)
/-- a number's bytes are read back -/
theorem numR_back : ∀ (f f' p acc n : Nat) (r : List UInt8), f ≤ f' + 1 → n < 128 ^ f → 0 < f → (p ≠ 0 → n ≠ 0) → numR f p acc (numF f' n ++ r) = some (acc + n * 128 ^ p, r)
  | 0, _, _, _, _, _, _, _, h0, _ => by omega
  | f + 1, f', p, acc, n, r, hf, hn, _, hp => by
    by_cases h128 : 128 ≤ n
    · have hf1 : 0 < f := by
        rcases Nat.eq_zero_or_pos f with rfl | h
        · simp at hn; omega
        · exact h
      obtain ⟨g, rfl⟩ : ∃ g, f' = g + 1 := ⟨f' - 1, by omega⟩
      rw [numF, if_pos h128, List.cons_append, numR_succ]
      have hlt : n % 128 + 128 < 256 := by omega
      rw [if_neg (by intro h; exact ofNat_ne hlt (by omega) h.2), ofNat_toNat_lt hlt, if_neg (by omega)]
      have e1 : n % 128 + 128 - 128 = n % 128 := by omega
      rw [e1, numR_back f g (p + 1) _ (n / 128) r (by omega) (by rw [Nat.div_lt_iff_lt_mul (by decide)]; rw [Nat.pow_succ] at hn; exact hn) hf1 (fun _ => by omega)]
      congr 2
      have e2 : n / 128 * 128 ^ (p + 1) = n / 128 * 128 * 128 ^ p := by rw [Nat.pow_succ, Nat.mul_assoc, Nat.mul_comm (128 ^ p) 128]
      have e3 : n * 128 ^ p = n % 128 * 128 ^ p + n / 128 * 128 * 128 ^ p := by rw [← Nat.add_mul]; congr 1; omega
      rw [e2, e3]; omega
    · have e : numF f' n = [UInt8.ofNat n] := by
        cases f' with
        | zero => rfl
        | succ g => rw [numF, if_neg h128]
      rw [e, List.singleton_append, numR_succ, ofNat_toNat_lt (by omega), if_neg (by intro h; exact ofNat_ne (by omega) (hp h.1) h.2), if_pos (by omega)]
/-- what is read as a number is its bytes -/
theorem numR_one : ∀ (f f' p acc : Nat) (l : List UInt8) (m : Nat) (r : List UInt8), f ≤ f' + 1 → numR f p acc l = some (m, r) → ∃ n, m = acc + n * 128 ^ p ∧ l = numF f' n ++ r ∧ (p ≠ 0 → n ≠ 0)
  | 0, _, _, _, _, _, _, _, h => by simp [numR] at h
  | _ + 1, _, _, _, [], _, _, _, h => by simp [numR] at h
  | f + 1, f', p, acc, c :: t, m, r, hf, h => by
    rw [numR_succ] at h
    split at h
    · cases h
    · rename_i hc
      have hcl := c.toNat_lt
      have hz : p ≠ 0 → c.toNat ≠ 0 := fun hp e => hc ⟨hp, UInt8.toNat_inj.1 (by simpa using e)⟩
      have hself : UInt8.ofNat c.toNat = c := by simp
      split at h
      · rename_i hlt
        injection h with h; injection h with h1 h2
        refine ⟨c.toNat, h1.symm, ?_, hz⟩
        have e : numF f' c.toNat = [UInt8.ofNat c.toNat] := by
          cases f' with
          | zero => rfl
          | succ g => rw [numF, if_neg (by omega)]
        rw [e, hself, h2]; rfl
      · rename_i hge
        have hf0 : 0 < f := by
          rcases Nat.eq_zero_or_pos f with rfl | h0
          · simp [numR] at h
          · exact h0
        obtain ⟨g, rfl⟩ : ∃ g, f' = g + 1 := ⟨f' - 1, by omega⟩
        obtain ⟨n, h1, h2, h3⟩ := numR_one f g (p + 1) _ t m r (by omega) h
        have hn0 := h3 (by omega)
        refine ⟨c.toNat - 128 + 128 * n, ?_, ?_, fun _ => by omega⟩
        · rw [h1, Nat.add_mul]
          have e2 : n * 128 ^ (p + 1) = 128 * n * 128 ^ p := by rw [Nat.pow_succ, Nat.mul_comm (128 ^ p) 128, ← Nat.mul_assoc, Nat.mul_comm n 128]
          rw [e2]; omega
        · have e1 : (c.toNat - 128 + 128 * n) % 128 + 128 = c.toNat := by omega
          have e2 : (c.toNat - 128 + 128 * n) / 128 = n := by omega
          rw [numF, if_pos (by omega), e1, e2, hself, h2]; rfl
theorem iNum_back {n m : Int} {r : List UInt8} (h0 : 0 ≤ n) (h1 : n ≤ 4611686018427387904) (hm : n ≤ m) : iNum (some (numB n.toNat ++ r)) m = (n, some r) := by
  have h := numR_back 9 9 0 0 n.toNat r (by omega) (by have : (4611686018427387905 : Nat) ≤ 128 ^ 9 := by decide
                                                       omega) (by decide) (fun h => absurd rfl h)
  have e := iNum_of (most := m) (l := numB n.toNat ++ r) h (by simp; omega) (by simp; omega)
  rw [e]; simp; omega
theorem iText_back {t : ByteArray} {r : List UInt8} (ht : t.size ≤ 100000) : iText (some (numB t.size ++ bs t ++ r)) t.size = (t, some r) := by
  have e : iNum (some (numB t.size ++ bs t ++ r)) t.size = ((t.size : Int), some (bs t ++ r)) := by
    rw [List.append_assoc]
    have := iNum_back (n := (t.size : Int)) (m := t.size) (r := bs t ++ r) (by omega) (by omega) (by omega)
    simpa using this
  unfold iText
  rw [e]
  show iTake (some (bs t ++ r)) t.size = _
  rw [iTake_ok (by rw [List.length_append, bs_len]; omega)]
  congr 1
  · apply bs_inj
    show List.take t.size (bs t ++ r) = bs t
    rw [List.take_append_of_le_length (by rw [bs_len]; omega), List.take_of_length_le (by rw [bs_len]; omega)]
  · rw [List.drop_append_of_le_length (by rw [bs_len]; omega), List.drop_eq_nil_of_le (by rw [bs_len]; omega)]; rfl
theorem iWord_back {w : ByteArray} {r : List UInt8} (h : mayS w = true) : iWord (some (wordB w ++ r)) = (w, some r) := by
  have hs := mayS_sz h
  have hc : (UInt8.ofNat (w.size / 2)).toNat = w.size / 2 := ofNat_toNat_lt (by omega)
  have h2 : 2 * (UInt8.ofNat (w.size / 2)).toNat = w.size := by rw [hc]; omega
  have e1 : (bs w ++ r).take w.size = bs w := by rw [List.take_append_of_le_length (by rw [bs_len]; omega), List.take_of_length_le (by rw [bs_len]; omega)]
  have e2 : (bs w ++ r).drop w.size = r := by rw [List.drop_append_of_le_length (by rw [bs_len]; omega), List.drop_eq_nil_of_le (by rw [bs_len]; omega)]; rfl
  have e3 : (⟨(bs w).toArray⟩ : ByteArray) = w := bs_inj rfl
  show iWord (some (UInt8.ofNat (w.size / 2) :: (bs w ++ r))) = _
  rw [iWord_ok (by rw [h2, List.length_append, bs_len]; omega) (by rw [h2, e1, e3]; exact h), h2, e1, e2, e3]
theorem iWords_back : ∀ (l : List ByteArray) (r : List UInt8), (∀ w ∈ l, mayS w = true) → iWords l.length (some (setW l ++ r)) = (l, some r)
  | [], r, _ => rfl
  | w :: l, r, h => by
    have e : setW (w :: l) ++ r = wordB w ++ (setW l ++ r) := by simp [setW]
    rw [e]
    simp only [List.length_cons, iWords]
    rw [iWord_back (h w (by simp))]
    rw [iWords_back l r (fun x hx => h x (by simp [hx]))]
theorem iSet_back {l : List ByteArray} {r : List UInt8} (h : mayL l = true) : iSet (some (setB l ++ r)) = (l, some r) := by
  have h1 := mayL_iff.1 h
  show keepL (iWords (UInt8.ofNat l.length).toNat (some (setW l ++ r))) = _
  rw [ofNat_toNat_lt (by omega), iWords_back l r h1.2.1]
  unfold keepL
  simp only [h]; rfl
theorem iNum_one {l r : List UInt8} {m n : Int} (h : iNum (some l) m = (n, some r)) : 0 ≤ n ∧ n ≤ 4611686018427387904 ∧ l = numB n.toNat ++ r := by
  simp only [iNum, Option.bind_some] at h
  cases hq : numR 9 0 0 l with
  | none => rw [hq] at h; simp at h
  | some q =>
    obtain ⟨k, r'⟩ := q
    rw [hq] at h
    simp only [] at h
    split at h
    · rename_i hk
      injection h with h1 h2
      injection h2 with h2
      subst h1 h2
      obtain ⟨n', h3, h4, _⟩ := numR_one 9 9 0 0 l k r' (by omega) hq
      have : n' = k := by simp at h3; exact h3.symm
      subst this
      exact ⟨by omega, hk.2, h4⟩
    · injection h with _ h2; cases h2
theorem iTake_one {l r : List UInt8} {n : Nat} {t : ByteArray} (h : iTake (some l) n = (t, some r)) : t.size = n ∧ l = bs t ++ r := by
  simp only [iTake] at h
  split at h
  · rename_i hn
    injection h with h1 h2
    injection h2 with h2
    subst h1 h2
    refine ⟨?_, by rw [show bs ⟨(List.take n l).toArray⟩ = List.take n l from rfl, List.take_append_drop]⟩
    show (List.take n l).toArray.size = n
    simp; omega
  · injection h with _ h2; cases h2
theorem iText_one {l r : List UInt8} {m : Int} {t : ByteArray} (h : iText (some l) m = (t, some r)) : l = numB t.size ++ bs t ++ r := by
  unfold iText at h
  obtain ⟨n, s, hq⟩ : ∃ n s, iNum (some l) m = (n, s) := ⟨_, _, rfl⟩
  rw [hq] at h
  cases s with
  | none => simp only [iTake_none] at h; injection h with _ h2; cases h2
  | some y =>
    obtain ⟨h1, _, h3⟩ := iNum_one hq
    obtain ⟨h4, h5⟩ := iTake_one h
    rw [h3, h5, h4, List.append_assoc]
theorem iWord_one {l r : List UInt8} {w : ByteArray} (h : iWord (some l) = (w, some r)) : mayS w = true ∧ l = wordB w ++ r := by
  cases l with
  | nil => simp [iWord, iOne, iTake_none, keepW, dem_none] at h
  | cons c t =>
    change keepW (iTake (some t) (2 * c.toNat)) = _ at h
    obtain ⟨u, s, hq⟩ : ∃ u s, iTake (some t) (2 * c.toNat) = (u, s) := ⟨_, _, rfl⟩
    rw [hq] at h
    unfold keepW at h
    cases hm : mayS u with
    | false => simp [hm, dem] at h
    | true =>
      simp only [hm, dem_true] at h
      cases s with
      | none => simp at h
      | some y =>
        simp only [] at h
        injection h with h1 h2
        injection h2 with h2
        subst h1 h2
        obtain ⟨h3, h4⟩ := iTake_one hq
        refine ⟨hm, ?_⟩
        rw [h4, wordB]
        have e : u.size / 2 = c.toNat := by omega
        rw [e]; simp
theorem iWords_one : ∀ (n : Nat) (l r : List UInt8) (ws : List ByteArray), iWords n (some l) = (ws, some r) → l = setW ws ++ r
  | 0, l, r, ws, h => by
    simp only [iWords] at h
    injection h with h1 h2
    injection h2 with h2
    subst h1 h2; rfl
  | n + 1, l, r, ws, h => by
    simp only [iWords] at h
    obtain ⟨w, s, hq⟩ : ∃ w s, iWord (some l) = (w, s) := ⟨_, _, rfl⟩
    rw [hq] at h
    injection h with h1 h2
    subst h1
    cases s with
    | none => simp only [iWords_none] at h2; cases h2
    | some y =>
      obtain ⟨_, h3⟩ := iWord_one hq
      have h4 := iWords_one n y r (iWords n (some y)).1 (by rw [← h2])
      rw [h3]
      simp only [setW]
      rw [List.append_assoc, ← h4]
theorem iSet_one {l r : List UInt8} {ws : List ByteArray} (h : iSet (some l) = (ws, some r)) : mayL ws = true ∧ l = setB ws ++ r := by
  cases l with
  | nil => simp [iSet, iOne, iWords, keepL, dem_none] at h
  | cons c t =>
    change keepL (iWords c.toNat (some t)) = _ at h
    obtain ⟨u, s, hq⟩ : ∃ u s, iWords c.toNat (some t) = (u, s) := ⟨_, _, rfl⟩
    rw [hq] at h
    unfold keepL at h
    cases hm : mayL u with
    | false => simp [hm, dem] at h
    | true =>
      simp only [hm, dem_true] at h
      cases s with
      | none => simp at h
      | some y =>
        simp only [] at h
        injection h with h1 h2
        injection h2 with h2
        subst h1 h2
        refine ⟨hm, ?_⟩
        rw [iWords_one _ _ _ _ hq, setB]
        have h5 := iWords_len c.toNat (some t)
        rw [hq] at h5
        rw [h5]; simp

end Go.Proofs.Ytfbmlacklhiecaa
