/- Leaf functions of package word: what each one returns. -/
import Derived.Test.YtbpkfaoaphegnaaBase
import Derived.Test.YtbpkfaoaphegnaaWords
import Derived.WalkSpells
import Derived.WalkLawsBesides
namespace Go.Proofs.Ytbpkfaoaphegnaa
set_option linter.unusedVariables false
open Go.RowKit

set_option maxHeartbeats 400000 in
theorem isTorn_any (s : ByteArray) (w : World) (hs : s.size ≤ maxLen) :
    Calls Try.prog 31 #[.string s] w fun e w' => e = .returned (.bool (tornB s)) ∧ w = w' := by
  unfold maxLen at hs
  go_enter Try.func31, Try.ntmps31
  go_wp2
  go_ret
  exact ⟨ret_bool (by unfold tornB; rw [Bool.eq_iff_iff]; simp; omega), rfl⟩

set_option maxHeartbeats 400000 in
theorem len_any (s : ByteArray) (w : World) (hs : s.size ≤ maxLen) :
    Calls Try.prog 15 #[.string s] w fun e w' => e = .returned (.int .i64 ((s.size : Int) / 2)) ∧ w = w' := by
  unfold maxLen at hs
  go_enter Try.func15, Try.ntmps15
  go_wp2
  go_ret
  exact ⟨rfl, rfl⟩

theorem i64_bounds {i : Int} (wi : (Lit.int .i64 i).wf = true) : -9223372036854775808 ≤ i ∧ i ≤ 9223372036854775807 := by
  simp [Lit.wf, IntKind.min, IntKind.max, IntKind.signed, IntKind.bits] at wi; exact wi

set_option maxHeartbeats 400000 in
theorem hasPart_any (s : ByteArray) (i n : Int) (w : World) (hs : s.size ≤ maxLen) (wi : (Lit.int .i64 i).wf = true) :
    Calls Try.prog 32 #[.string s, .int .i64 i, .int .i64 n] w fun e w' => e = .returned (.bool (partB s i n)) ∧ w = w' := by
  have hs0 := hs
  obtain ⟨h0, h1⟩ := i64_bounds wi
  unfold maxLen at hs
  unfold partB
  clear wi
  by_cases c1 : 0 ≤ i
  · by_cases c2 : 0 ≤ n
    · go_enter Try.func32, Try.ntmps32
      go_wp2_with (go_at_call 15; refine (len_any _ _ hs0).mono ?_; rintro e w' ⟨rfl, rfl⟩)
      go_ret
      exact ⟨ret_bool (by rw [Bool.eq_iff_iff]; simp; omega), rfl⟩
    · have c3 : decide (0 ≤ n) = false := by simpa using c2
      go_enter Try.func32, Try.ntmps32
      go_wp2_with (go_at_call 15; refine (len_any _ _ hs0).mono ?_; rintro e w' ⟨rfl, rfl⟩)
      go_ret
      exact ⟨ret_bool (by first | rfl | (symm; rw [decide_eq_false_iff_not]; omega) | simp <;> omega), rfl⟩
  · have c3 : decide (0 ≤ i) = false := by simpa using c1
    go_enter Try.func32, Try.ntmps32
    go_wp2_with (go_at_call 15; refine (len_any _ _ hs0).mono ?_; rintro e w' ⟨rfl, rfl⟩)
    go_ret
    exact ⟨ret_bool (by first | rfl | (symm; rw [decide_eq_false_iff_not]; omega) | simp <;> omega), rfl⟩

/-- the byte at a place -/
theorem run_byte (s : ByteArray) (k : Nat) (h : k < s.size) (i : Int) (hi : i = (k : Int)) (wx : World) :
    (Instr.index 22 (.string s) (.int .i64 i)).run Try.prog wx = .ok (.int .u8 ((s[k]).toNat : Int)) wx := by
  subst hi
  rw [run_index_string wx 22 s _ _ Try.underlying22, dif_pos ⟨by omega, by omega⟩]
  simp

theorem or_bytes (a b : UInt8) : bits .or .u16 ((a.toNat : Int) * 256) (b.toNat : Int) = 256 * (a.toNat : Int) + (b.toNat : Int) := by
  have ha := a.toNat_lt
  have hb := b.toNat_lt
  have h1 : (a.toNat : Int) * 256 = ((a.toNat * 256 : Nat) : Int) := by omega
  rw [h1, u16_or_nat _ _ (by omega) (by omega)]
  have := Nat.shiftLeft_add_eq_or_of_lt (i := 8) (b := b.toNat) (by omega) a.toNat
  rw [Nat.shiftLeft_eq] at this
  have h2 : a.toNat * 256 ||| b.toNat = a.toNat * 256 + b.toNat := by rw [← this]
  rw [h2]; omega

/-- what the world is behind a call that only reads -/
def DrewPost (v : Value) (w : World) (e : Ending) (w' : World) : Prop := e = .returned v ∧ ∃ n, w' = w.drewN n

set_option maxHeartbeats 1000000 in
theorem at_nat (s : ByteArray) (i : Nat) (w : World) (hs : s.size ≤ maxLen) (hi : 2 * i + 1 < s.size) :
    Calls Try.prog 17 #[.string s, .int .i64 i] w (DrewPost (.int .u16 (atS s i)) w) := by
  have HA := Lib.hid (atS_in hi)
  have hs0 := hs
  unfold maxLen at hs
  have x1 := fun wx => run_byte s (2 * i) (by omega) (2 * (i : Int)) (by omega) wx
  have x2 := fun wx => run_byte s (2 * i + 1) (by omega) (2 * (i : Int) + 1) (by omega) wx
  have e1 : IntKind.i64.wrap (2 * (i : Int)) = 2 * (i : Int) := IntWalk.i64_in _ (by omega)
  have e2 : IntKind.i64.wrap (2 * (i : Int) + 1) = 2 * (i : Int) + 1 := IntWalk.i64_in _ (by omega)
  generalize s[2 * i] = a at *
  generalize s[2 * i + 1] = b at *
  have ha := a.toNat_lt
  have hb := b.toNat_lt
  go_enter Try.func17, Try.ntmps17
  go_wp2_with (go_at_call 15; refine (len_any _ _ hs0).mono ?_; rintro e w' ⟨rfl, rfl⟩)
  go_quiet (fail)
  go_wp2
  go_ret
  exact ⟨ret_int (by rw [HA.out]; exact or_bytes a b), _, rfl⟩

set_option maxHeartbeats 1000000 in
theorem at_any (s : ByteArray) (i : Int) (w : World) (hs : s.size ≤ maxLen) :
    Calls Try.prog 17 #[.string s, .int .i64 i] w (DrewPost (.int .u16 (atS s i)) w) := by
  by_cases h0 : i < 0
  · have HA := Lib.hid (atS_out (s := s) (.inl h0))
    go_enter Try.func17, Try.ntmps17
    go_wp2_with (go_at_call 15; refine (len_any _ _ hs).mono ?_; rintro e w' ⟨rfl, rfl⟩)
    go_ret
    exact ⟨ret_int HA.out.symm, 0, rfl⟩
  · by_cases h1 : (s.size : Int) / 2 ≤ i
    · have HA := Lib.hid (atS_out (s := s) (.inr h1))
      have h2 : decide (i < 0) = false := by simpa using h0
      go_enter Try.func17, Try.ntmps17
      go_wp2_with (go_at_call 15; refine (len_any _ _ hs).mono ?_; rintro e w' ⟨rfl, rfl⟩)
      go_ret
      exact ⟨ret_int HA.out.symm, 0, rfl⟩
    · obtain ⟨k, rfl⟩ : ∃ k : Nat, i = k := ⟨i.toNat, by omega⟩
      exact at_nat s k w hs (by omega)

set_option maxHeartbeats 400000 in
theorem less_any (a b : ByteArray) (w : World) (ha : a.size ≤ maxLen) (hb : b.size ≤ maxLen) :
    Calls Try.prog 23 #[.string a, .string b] w fun e w' => e = .returned (.bool (lessS a b)) ∧ w = w' := by
  unfold maxLen at ha hb
  by_cases h : a.size = b.size
  · have HA : Hid (lessS a b = Op.bytesLess a.toList b.toList) := Lib.hid (by unfold lessS; rw [if_pos h, bs_toList, bs_toList])
    have h1 : ((a.size : Int) != (b.size : Int)) = false := by simp [h]
    clear h
    go_enter Try.func23, Try.ntmps23
    go_wp2
    go_ret
    exact ⟨ret_bool (by rw [HA.out]), rfl⟩
  · have HA : Hid (lessS a b = decide (a.size < b.size)) := Lib.hid (by unfold lessS; rw [if_neg h])
    have h1 : ((a.size : Int) != (b.size : Int)) = true := by simp; omega
    clear h
    go_enter Try.func23, Try.ntmps23
    go_wp2
    go_ret
    exact ⟨ret_bool (by rw [HA.out]), rfl⟩
end Go.Proofs.Ytbpkfaoaphegnaa
