/- Sub of package word and of the reference. -/
import Derived.Test.YtbpkfaoaphegnaaCat
namespace Go.Proofs.Ytbpkfaoaphegnaa
set_option linter.unusedVariables false
open Go.RowKit

theorem size32 (w : World) : (sizeOf (Try.prog.elem 29)).run Try.prog w = .ok 1 w := by
  obtain ⟨i0, hi, _, h1, _⟩ := info_parts Try.info32
  have : Try.prog.elem 29 = 32 := by kernel_rfl
  rw [this]
  simp [sizeOf, typeInfo, hi, h1]

theorem elem29 : Try.prog.underlying 29 = some (.slice (Try.prog.elem 29)) := by
  have : Try.prog.elem 29 = 32 := by kernel_rfl
  rw [this]; exact Try.underlying29

theorem reads_sliced {w : World} {G : Nat → Prop} {ao : Option Addr} {c : Nat} {l : List Int} (h : Reads w G (.slice ao l.length c) (cellsOf l)) {lo hi : Nat} (h1 : lo ≤ hi) (h2 : hi ≤ l.length) :
    Reads w G (sliced ao lo hi c 1) (cellsOf ((l.drop lo).take (hi - lo))) := by
  obtain ⟨ao', c', hv, hc, hx⟩ := h
  have hl : (cellsOf l).length = l.length := by simp [cellsOf]
  simp only [Value.slice.injEq] at hv
  obtain ⟨rfl, _, rfl⟩ := hv
  have hlen : (cellsOf ((l.drop lo).take (hi - lo))).length = hi - lo := by simp [cellsOf]; omega
  refine ⟨_, c - lo, by rw [hlen]; rfl, by rw [hlen]; omega, fun i x hi' => ?_⟩
  have hil : i < hi - lo := by rw [← hlen]; exact (List.getElem?_eq_some_iff.1 hi').1
  have hget : (cellsOf l)[lo + i]? = some x := by
    rw [← hi']; simp only [cellsOf, List.getElem?_map, List.getElem?_take, List.getElem?_drop, if_pos hil]
  obtain ⟨g, off, rfl, hg, hcell⟩ := hx (lo + i) x hget
  rw [if_neg (by omega)]
  refine ⟨g, off + lo, ?_, hg, ?_⟩
  · simp [Addr.add]
  · rw [← hcell]; congr 2; omega

theorem run_part {w : World} {G : Nat → Prop} {v : Value} {l : List Int} (h : Reads w G v (cellsOf l)) {lo hi : Nat} (h1 : lo ≤ hi) (h2 : hi ≤ l.length) {a b : Int} (ha : a = lo) (hb : b = hi) :
    ∃ v', Reads w G v' (cellsOf ((l.drop lo).take (hi - lo))) ∧ ∀ wx, (Instr.slice 29 v (some (.int .i64 a)) (some (.int .i64 b)) none).run Try.prog wx = .ok v' wx := by
  obtain ⟨ao, c, rfl, hc, hx⟩ := id h
  have hl : (cellsOf l).length = l.length := by simp [cellsOf]
  rw [hl] at h hc
  refine ⟨_, reads_sliced h h1 h2, fun wx => ?_⟩
  subst ha hb
  rw [run_slice_lh wx 29 ao _ c elem29 _ _ _ _ (by omega) (by omega) (by omega), size32]
  simp [Result.andThen]
theorem run_to {w : World} {G : Nat → Prop} {v : Value} {l : List Int} (h : Reads w G v (cellsOf l)) {hi : Nat} (h2 : hi ≤ l.length) {b : Int} (hb : b = hi) :
    ∃ v', Reads w G v' (cellsOf (l.take hi)) ∧ ∀ wx, (Instr.slice 29 v none (some (.int .i64 b)) none).run Try.prog wx = .ok v' wx := by
  obtain ⟨ao, c, rfl, hc, hx⟩ := id h
  have hl : (cellsOf l).length = l.length := by simp [cellsOf]
  rw [hl] at h hc
  have hr := reads_sliced h (Nat.zero_le hi) h2
  simp only [List.drop_zero, Nat.sub_zero] at hr
  refine ⟨_, hr, fun wx => ?_⟩
  subst hb
  rw [run_slice_h wx 29 ao _ c elem29 _ _ (by omega) (by omega), size32]
  simp [Result.andThen]
theorem run_from {w : World} {G : Nat → Prop} {v : Value} {l : List Int} (h : Reads w G v (cellsOf l)) {lo : Nat} (h1 : lo ≤ l.length) {a : Int} (ha : a = lo) :
    ∃ v', Reads w G v' (cellsOf (l.drop lo)) ∧ ∀ wx, (Instr.slice 29 v (some (.int .i64 a)) none none).run Try.prog wx = .ok v' wx := by
  obtain ⟨ao, c, rfl, hc, hx⟩ := id h
  have hl : (cellsOf l).length = l.length := by simp [cellsOf]
  rw [hl] at h hc
  have hr := reads_sliced h h1 (Nat.le_refl _)
  rw [List.take_of_length_le (by simp)] at hr
  refine ⟨_, hr, fun wx => ?_⟩
  subst ha
  rw [hl, run_slice_l wx 29 ao _ c elem29 _ _ (by omega) (by omega), size32]
  simp [Result.andThen]

theorem subS_torn {s : ByteArray} {i n : Int} (h : tornB s = true) : subS s i n = (⟨#[]⟩, 2) := by unfold subS; rw [if_pos h]
theorem subS_out {s : ByteArray} {i n : Int} (h : tornB s = false) (h2 : partB s i n = false) : subS s i n = (⟨#[]⟩, 5) := by unfold subS; rw [if_neg (by simp [h]), if_pos h2]
theorem subS_in {s : ByteArray} {a b : Nat} (h : tornB s = false) (h2 : a + b ≤ s.size / 2) : subS s a b = (s.extract (2 * a) (2 * (a + b)), 0) := by
  unfold subS; rw [if_neg (by simp [h]), if_neg (by unfold partB; simp; omega)]; simp
theorem part_nat {s : ByteArray} {i n : Int} (h : partB s i n = true) : ∃ a b : Nat, i = a ∧ n = b ∧ a + b ≤ s.size / 2 := by
  simp [partB] at h
  exact ⟨i.toNat, n.toNat, by omega, by omega, by omega⟩

set_option maxHeartbeats 1000000 in
theorem sub_any (s : ByteArray) (i n : Int) (w : World) (hs : s.size ≤ maxLen) (wi : (Lit.int .i64 i).wf = true) :
    Calls Try.prog 11 #[.string s, .int .i64 i, .int .i64 n] w fun e w' => e = .returned (.tuple #[.string (subS s i n).1, .int .i64 (subS s i n).2]) ∧ w = w' := by
  have hs0 := hs
  unfold maxLen at hs
  cases ht : tornB s
  · cases hp : partB s i n
    · have HA := Lib.hid (subS_out ht hp)
      go_enter Try.func11, Try.ntmps11
      go_wp2_with (first | (go_at_call 31; refine (isTorn_any _ _ hs0).mono ?_; rintro e w' ⟨rfl, rfl⟩; rw [ht]) | (go_at_call 32; refine (hasPart_any _ _ _ _ hs0 wi).mono ?_; rintro e w' ⟨rfl, rfl⟩; rw [hp]))
      go_ret2
      exact ⟨pair_of HA.out, rfl⟩
    · obtain ⟨a, b, rfl, rfl, hab⟩ := part_nat hp
      have HA := Lib.hid (subS_in (a := a) (b := b) ht hab)
      have x1 : ∀ wx, (Instr.slice 22 (.string s) (some (.int .i64 (2 * (a : Int)))) (some (.int .i64 (2 * ((a : Int) + (b : Int))))) none).run Try.prog wx = .ok (.string (s.extract (2 * a) (2 * (a + b)))) wx := fun wx => by
        rw [run_slice_string wx 22 s _ _ _ _ Try.underlying22 (by omega) (by omega) (by omega)]
        congr 3
      have ha : (a : Int) + b ≤ 4611686018427387903 := by omega
      go_enter Try.func11, Try.ntmps11
      go_wp2_with (first | (go_at_call 31; refine (isTorn_any _ _ hs0).mono ?_; rintro e w' ⟨rfl, rfl⟩; rw [ht]) | (go_at_call 32; refine (hasPart_any _ _ _ _ hs0 wi).mono ?_; rintro e w' ⟨rfl, rfl⟩; rw [hp]))
      go_ret2
      exact ⟨pair_of HA.out, rfl⟩
  · have HA := Lib.hid (subS_torn (i := i) (n := n) ht)
    go_enter Try.func11, Try.ntmps11
    go_wp2_with (first | (go_at_call 31; refine (isTorn_any _ _ hs0).mono ?_; rintro e w' ⟨rfl, rfl⟩; rw [ht]) | (go_at_call 32; refine (hasPart_any _ _ _ _ hs0 wi).mono ?_; rintro e w' ⟨rfl, rfl⟩; rw [hp]))
    go_ret2
    exact ⟨pair_of HA.out, rfl⟩
end Go.Proofs.Ytbpkfaoaphegnaa
