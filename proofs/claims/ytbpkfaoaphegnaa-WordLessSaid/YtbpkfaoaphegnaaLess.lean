/- WordLess: the walk. -/
import Derived.Test.YtbpkfaoaphegnaaRef
import Derived.Test.YtbpkfaoaphegnaaAwake
namespace Go.Proofs.Ytbpkfaoaphegnaa
set_option linter.unusedVariables false
open Go.RowKit

theorem bl_asym : ∀ (l m : List UInt8), Op.bytesLess l m = true → Op.bytesLess m l = false
  | [], [], h => by simp [Op.bytesLess] at h
  | [], _ :: _, _ => by simp [Op.bytesLess]
  | _ :: _, [], h => by simp [Op.bytesLess] at h
  | a :: r, b :: t, h => by
    simp only [Op.bytesLess, Bool.or_eq_true, Bool.and_eq_true, decide_eq_true_eq, beq_iff_eq] at h
    simp only [Op.bytesLess, Bool.or_eq_false_iff, Bool.and_eq_false_iff, decide_eq_false_iff_not, beq_eq_false_iff_ne]
    rcases h with h | ⟨rfl, h⟩
    · rw [UInt8.lt_iff_toNat_lt] at h
      refine ⟨by rw [UInt8.lt_iff_toNat_lt]; omega, .inl (fun e => ?_)⟩
      subst e; omega
    · refine ⟨by rw [UInt8.lt_iff_toNat_lt]; omega, .inr (bl_asym r t h)⟩
theorem bl_total : ∀ (l m : List UInt8), l ≠ m → (Op.bytesLess l m || Op.bytesLess m l) = true
  | [], [], h => absurd rfl h
  | [], _ :: _, _ => by simp [Op.bytesLess]
  | _ :: _, [], h => by simp [Op.bytesLess]
  | a :: r, b :: t, h => by
    simp only [Op.bytesLess, Bool.or_eq_true, Bool.and_eq_true, decide_eq_true_eq, beq_iff_eq]
    by_cases e : a = b
    · subst e
      have := bl_total r t (fun e => h (by rw [e]))
      simp only [Bool.or_eq_true] at this
      rcases this with h1 | h1
      · exact .inl (.inr ⟨rfl, h1⟩)
      · exact .inr (.inr ⟨rfl, h1⟩)
    · have : a.toNat ≠ b.toNat := fun x => e (UInt8.toNat_inj.1 x)
      rw [UInt8.lt_iff_toNat_lt, UInt8.lt_iff_toNat_lt]
      rcases Nat.lt_or_gt_of_ne this with h1 | h1
      · exact .inl (.inl h1)
      · exact .inr (.inl h1)
theorem bl_trans : ∀ (l m n : List UInt8), Op.bytesLess l m = true → Op.bytesLess m n = true → Op.bytesLess l n = true
  | _, [], [], _, h => by simp [Op.bytesLess] at h
  | [], _, _ :: _, _, _ => by simp [Op.bytesLess]
  | _, _ :: _, [], _, h => by simp [Op.bytesLess] at h
  | _ :: _, [], _ :: _, h, _ => by simp [Op.bytesLess] at h
  | a :: r, b :: t, c :: u, h, k => by
    simp only [Op.bytesLess, Bool.or_eq_true, Bool.and_eq_true, decide_eq_true_eq, beq_iff_eq] at h k ⊢
    rw [UInt8.lt_iff_toNat_lt] at h k ⊢
    rcases h with h | ⟨rfl, h⟩ <;> rcases k with k | ⟨rfl, k⟩
    · exact .inl (by omega)
    · exact .inl h
    · exact .inl k
    · exact .inr ⟨rfl, bl_trans r t u h k⟩
theorem bl_ahead : ∀ (c l m : List UInt8), Op.bytesLess (c ++ l) (c ++ m) = Op.bytesLess l m
  | [], l, m => rfl
  | a :: r, l, m => by
    have ih := bl_ahead r l m
    simp [Op.bytesLess, ih]

theorem lessS_asym {a b : ByteArray} (h : lessS a b = true) : lessS b a = false := by
  unfold lessS at h ⊢
  split at h
  · rename_i e; rw [if_pos e.symm]; exact bl_asym _ _ h
  · rename_i e; rw [if_neg (fun x => e x.symm)]; simp at h ⊢; omega
theorem lessS_total {a b : ByteArray} (h : a ≠ b) (h1 : lessS a b = false) : lessS b a = true := by
  unfold lessS at h1 ⊢
  split at h1
  · rename_i e
    rw [if_pos e.symm]
    have := bl_total (bs a) (bs b) (fun x => h (bs_inj x))
    rw [h1] at this; simpa using this
  · rename_i e; rw [if_neg (fun x => e x.symm)]; simp at h1 ⊢; omega
theorem lessS_same (a : ByteArray) : lessS a a = false := by
  cases h : lessS a a with
  | false => rfl
  | true => exact (lessS_asym h).symm.trans h |>.symm
theorem lessS_trans {a b c : ByteArray} (h : lessS a b = true) (k : lessS b c = true) : lessS a c = true := by
  unfold lessS at h k ⊢
  split at h <;> split at k
  · rename_i e f; rw [if_pos (e.trans f)]; exact bl_trans _ _ _ h k
  · rename_i e f; simp at k; rw [if_neg (by omega)]; simp; omega
  · rename_i e f; simp at h; rw [if_neg (by omega)]; simp; omega
  · rename_i e f; simp at h k; rw [if_neg (by omega)]; simp; omega
theorem lessS_ahead (a b c : ByteArray) : lessS (c ++ a) (c ++ b) = lessS a b := by
  unfold lessS
  rw [bs_append, bs_append, bl_ahead]
  simp only [ByteArray.size_append]
  by_cases h : a.size = b.size
  · rw [if_pos h, if_pos (by omega)]
  · rw [if_neg h, if_neg (by omega)]
    rw [Bool.eq_iff_iff]; simp

/-- the law's answer -/
def LawPost (w : World) (e : Ending) (w' : World) : Prop := e = .returned (.bool true) ∧ Kept w w'

set_option maxHeartbeats 4000000 in
set_option maxRecDepth 100000 in
theorem wordLess_small (a b c : ByteArray) (w : World) (ha : a.size ≤ 4096) (hb : b.size ≤ 4096) (hc : c.size ≤ 4096) :
    Calls Try.prog 6 #[.string a, .string b, .string c] w (LawPost w) := by
  have ha0 : a.size ≤ maxLen := by unfold maxLen; omega
  have hb0 : b.size ≤ maxLen := by unfold maxLen; omega
  have hc0 : c.size ≤ maxLen := by unfold maxLen; omega
  have hca : (c ++ a).size ≤ maxLen := by rw [ByteArray.size_append]; unfold maxLen; omega
  have hcb : (c ++ b).size ≤ maxLen := by rw [ByteArray.size_append]; unfold maxLen; omega
  have HA := Lib.hid (lessS_ahead a b c)
  have j1 : ∀ wx, (Op.stringOp .add c a).run Try.prog wx = .ok (.string (c ++ a)) wx := fun wx => run_string_add_sum wx c a (by omega)
  have j2 : ∀ wx, (Op.stringOp .add c b).run Try.prog wx = .ok (.string (c ++ b)) wx := fun wx => run_string_add_sum wx c b (by omega)
  generalize c ++ a = ca at *
  generalize c ++ b = cb at *
  have d1 : decide (4096 < (a.size : Int)) = false := by simp; omega
  have d2 : decide (4096 < (b.size : Int)) = false := by simp; omega
  have d3 : decide (4096 < (c.size : Int)) = false := by simp; omega
  have key : ∀ x y z u : Bool, lessS a b = x → lessS b a = y → lessS b c = z → lessS a c = u → ((x && y) = false ∧ (x || y) = !(a.toList == b.toList) ∧ (x && z && !u) = false) → Calls Try.prog 6 #[.string a, .string b, .string c] w (LawPost w) := by
    intro x y z u hx hy hz hu hh
    have HX := Lib.hid hx
    have HY := Lib.hid hy
    have HZ := Lib.hid hz
    have HU := Lib.hid hu
    obtain ⟨h1, h2, h3⟩ := hh
    cases he : a.toList == b.toList <;> rw [he] at h2 <;> (have he2 : (a.toList != b.toList) = !(a.toList == b.toList) := rfl) <;> rw [he] at he2 <;>
    (clear hx hy hz hu
     cases x <;> cases y <;> first | (exfalso; revert h1 h2; decide) | skip) <;>
    (cases z <;> cases u <;> first | (exfalso; revert h3; decide) | skip) <;>
    (clear h1 h2 h3
     go_enter Try.func6, Try.ntmps6
     go_wp2_with fail
     refine (awake_any _).mono ?_
     rintro e w1 ⟨rfl, hk⟩
     have HK := Lib.hid hk
     clear hk
     go_wp2_with (go_at_call 23; first
       | ((with_reducible refine (less_any a b _ ha0 hb0).mono ?_); rintro e w' ⟨rfl, rfl⟩; rw [HX.out])
       | ((with_reducible refine (less_any b a _ hb0 ha0).mono ?_); rintro e w' ⟨rfl, rfl⟩; rw [HY.out])
       | ((with_reducible refine (less_any b c _ hb0 hc0).mono ?_); rintro e w' ⟨rfl, rfl⟩; rw [HZ.out])
       | ((with_reducible refine (less_any a c _ ha0 hc0).mono ?_); rintro e w' ⟨rfl, rfl⟩; rw [HU.out])
       | ((with_reducible refine (less_any ca cb _ hca hcb).mono ?_); rintro e w' ⟨rfl, rfl⟩; rw [HA.out, HX.out]))
     go_ret
     exact ⟨rfl, HK.out⟩)
  refine key _ _ _ _ rfl rfl rfl rfl ⟨?_, ?_, ?_⟩
  · cases h : lessS a b
    · rfl
    · rw [lessS_asym h]; rfl
  · rw [beq_bs]
    by_cases h : a = b
    · subst h; rw [lessS_same]; simp
    · cases h1 : lessS a b
      · rw [lessS_total h h1]; simp [h]
      · simp [h]
  · cases h1 : lessS a b
    · rfl
    · cases h2 : lessS b c
      · rfl
      · rw [lessS_trans h1 h2]; rfl

set_option maxHeartbeats 1000000 in
theorem wordLess_walk {w : World} (a : ByteArray) (ha : a.size ≤ maxLen) (b : ByteArray) (hb : b.size ≤ maxLen) (c : ByteArray) (hc : c.size ≤ maxLen) :
    Calls Try.prog 6 #[.string a, .string b, .string c] w fun e w' => e = .returned (.bool true) ∧ Fr (fun _ => False) w w' := by
  unfold maxLen at ha hb hc
  by_cases la : 4096 < a.size
  · have d1 : decide (4096 < (a.size : Int)) = true := by simp; omega
    go_enter Try.func6, Try.ntmps6
    go_wp2_with fail
    refine (awake_any _).mono ?_
    rintro e w1 ⟨rfl, hk⟩
    have HK := Lib.hid hk
    clear hk
    go_wp2_with fail
    go_ret
    exact ⟨rfl, HK.out⟩
  · have d1 : decide (4096 < (a.size : Int)) = false := by simp; omega
    by_cases lb : 4096 < b.size
    · have d2 : decide (4096 < (b.size : Int)) = true := by simp; omega
      go_enter Try.func6, Try.ntmps6
      go_wp2_with fail
      refine (awake_any _).mono ?_
      rintro e w1 ⟨rfl, hk⟩
      have HK := Lib.hid hk
      clear hk
      go_wp2_with fail
      go_ret
      exact ⟨rfl, HK.out⟩
    · have d2 : decide (4096 < (b.size : Int)) = false := by simp; omega
      by_cases lc : 4096 < c.size
      · have d3 : decide (4096 < (c.size : Int)) = true := by simp; omega
        go_enter Try.func6, Try.ntmps6
        go_wp2_with fail
        refine (awake_any _).mono ?_
        rintro e w1 ⟨rfl, hk⟩
        have HK := Lib.hid hk
        clear hk
        go_wp2_with fail
        go_ret
        exact ⟨rfl, HK.out⟩
      · exact (wordLess_small a b c w (by omega) (by omega) (by omega)).mono fun _ _ h => h
end Go.Proofs.Ytbpkfaoaphegnaa
