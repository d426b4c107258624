/- Contracts and lemmas: Leaf -/
import Derived.Test.YtdapdpmplbifdaaDoorLa
import Derived.Laws.RangeAny
import Derived.Lib.OthersKept
namespace Go.Proofs.YtdapdpmplbifdaaDoor
set_option linter.unusedVariables false
set_option linter.unusedSimpArgs false
open Go.RowKit Go.ChangeShapes Go.WideShapes
def rUp (r : Int) : Bool := decide (65 ≤ r ∧ r ≤ 90)
def rBad (r : Int) : Bool := rIn r || (rUp r || decide (r = 58))
def rBlank (r : Int) : Bool := decide (r = 32) || (decide (r = 9) || decide (r = 10))
def tightB (k : Int) : Bool := decide (k = 1 ∨ k = 2 ∨ k = 3 ∨ k = 5 ∨ k = 8)
theorem up_byte (c : UInt8) : rUp (c.toNat : Int) = tUp c := by unfold rUp tUp; rw [decide_eq_decide]; omega
theorem bad_byte (c : UInt8) : rBad (c.toNat : Int) = tBad c := by
  unfold rBad tBad
  rw [in_byte, up_byte, byte_is c 58 58 rfl (by omega)]
  rfl
theorem blank_byte (c : UInt8) : rBlank (c.toNat : Int) = tBlank c := by
  unfold rBlank tBlank
  rw [byte_is c 32 32 rfl (by omega), byte_is c 9 9 rfl (by omega), byte_is c 10 10 rfl (by omega)]
  rfl
theorem rin_far {r : Int} (h : 128 ≤ r) : rIn r = false := by unfold rIn rLet rDig; simp; omega
theorem rdig_far {r : Int} (h : 128 ≤ r) : rDig r = false := by unfold rDig; simp; omega
theorem rbad_far {r : Int} (h : 128 ≤ r) : rBad r = false := by unfold rBad rIn rLet rDig rUp; simp; omega
theorem rblank_far {r : Int} (h : 128 ≤ r) : rBlank r = false := by unfold rBlank; simp; omega
theorem klet_any (r : Int) (w : World) : Calls Tryd.prog 81 #[.int .i32 r] w fun e w' => e = .returned (.bool (rLet r)) ∧ w = w' := by
  by_cases h1 : 97 ≤ r
  · by_cases h2 : r ≤ 122
    · have HA : Hid (rLet r = true) := Lib.hid (by unfold rLet; simp; omega)
      go_enter Tryd.func81, Tryd.ntmps81
      go_wp2
      go_ret
      exact ⟨ret_bool HA.out.symm, rfl⟩
    · have HA : Hid (rLet r = false) := Lib.hid (by unfold rLet; simp; omega)
      go_enter Tryd.func81, Tryd.ntmps81
      go_wp2
      go_ret
      exact ⟨ret_bool HA.out.symm, rfl⟩
  · have HA : Hid (rLet r = false) := Lib.hid (by unfold rLet; simp; omega)
    go_enter Tryd.func81, Tryd.ntmps81
    go_wp2
    go_ret
    exact ⟨ret_bool HA.out.symm, rfl⟩
theorem kup_any (r : Int) (w : World) : Calls Tryd.prog 76 #[.int .i32 r] w fun e w' => e = .returned (.bool (rUp r)) ∧ w = w' := by
  by_cases h1 : 65 ≤ r
  · by_cases h2 : r ≤ 90
    · have HA : Hid (rUp r = true) := Lib.hid (by unfold rUp; simp; omega)
      go_enter Tryd.func76, Tryd.ntmps76
      go_wp2
      go_ret
      exact ⟨ret_bool HA.out.symm, rfl⟩
    · have HA : Hid (rUp r = false) := Lib.hid (by unfold rUp; simp; omega)
      go_enter Tryd.func76, Tryd.ntmps76
      go_wp2
      go_ret
      exact ⟨ret_bool HA.out.symm, rfl⟩
  · have HA : Hid (rUp r = false) := Lib.hid (by unfold rUp; simp; omega)
    go_enter Tryd.func76, Tryd.ntmps76
    go_wp2
    go_ret
    exact ⟨ret_bool HA.out.symm, rfl⟩
theorem kdig_any (r : Int) (w : World) : Calls Tryd.prog 72 #[.int .i32 r] w fun e w' => e = .returned (.bool (rDig r)) ∧ w = w' := by
  by_cases h1 : 48 ≤ r
  · by_cases h2 : r ≤ 57
    · have HA : Hid (rDig r = true) := Lib.hid (by unfold rDig; simp; omega)
      go_enter Tryd.func72, Tryd.ntmps72
      go_wp2
      go_ret
      exact ⟨ret_bool HA.out.symm, rfl⟩
    · have HA : Hid (rDig r = false) := Lib.hid (by unfold rDig; simp; omega)
      go_enter Tryd.func72, Tryd.ntmps72
      go_wp2
      go_ret
      exact ⟨ret_bool HA.out.symm, rfl⟩
  · have HA : Hid (rDig r = false) := Lib.hid (by unfold rDig; simp; omega)
    go_enter Tryd.func72, Tryd.ntmps72
    go_wp2
    go_ret
    exact ⟨ret_bool HA.out.symm, rfl⟩
theorem kin_any (r : Int) (w : World) : Calls Tryd.prog 75 #[.int .i32 r] w fun e w' => e = .returned (.bool (rIn r)) ∧ w = w' := by
  cases h1 : rLet r
  · cases h2 : rDig r
    · by_cases h3 : r = 45
      · have HA : Hid (rIn r = true) := Lib.hid (by unfold rIn; rw [h1, h2]; simp [h3])
        have g3 : (r == 45) = true := by simp [h3]
        clear h3
        go_enter Tryd.func75, Tryd.ntmps75
        go_wp2_with (first | (go_at_call 81; refine (klet_any _ _).mono ?_; rintro e w' ⟨rfl, rfl⟩; rw [h1]) | (go_at_call 72; refine (kdig_any _ _).mono ?_; rintro e w' ⟨rfl, rfl⟩; rw [h2]))
        go_ret
        exact ⟨ret_bool HA.out.symm, rfl⟩
      · have g3 : (r == 45) = false := by simp [h3]
        by_cases h4 : r = 46
        · have HA : Hid (rIn r = true) := Lib.hid (by unfold rIn; rw [h1, h2]; simp [h4])
          have g4 : (r == 46) = true := by simp [h4]
          clear h3 h4
          go_enter Tryd.func75, Tryd.ntmps75
          go_wp2_with (first | (go_at_call 81; refine (klet_any _ _).mono ?_; rintro e w' ⟨rfl, rfl⟩; rw [h1]) | (go_at_call 72; refine (kdig_any _ _).mono ?_; rintro e w' ⟨rfl, rfl⟩; rw [h2]))
          go_ret
          exact ⟨ret_bool HA.out.symm, rfl⟩
        · have HA : Hid (rIn r = false) := Lib.hid (by unfold rIn; rw [h1, h2]; simp [h3, h4])
          have g4 : (r == 46) = false := by simp [h4]
          clear h3 h4
          go_enter Tryd.func75, Tryd.ntmps75
          go_wp2_with (first | (go_at_call 81; refine (klet_any _ _).mono ?_; rintro e w' ⟨rfl, rfl⟩; rw [h1]) | (go_at_call 72; refine (kdig_any _ _).mono ?_; rintro e w' ⟨rfl, rfl⟩; rw [h2]))
          go_ret
          exact ⟨ret_bool HA.out.symm, rfl⟩
    · have HA : Hid (rIn r = true) := Lib.hid (by unfold rIn; rw [h1, h2]; rfl)
      go_enter Tryd.func75, Tryd.ntmps75
      go_wp2_with (first | (go_at_call 81; refine (klet_any _ _).mono ?_; rintro e w' ⟨rfl, rfl⟩; rw [h1]) | (go_at_call 72; refine (kdig_any _ _).mono ?_; rintro e w' ⟨rfl, rfl⟩; rw [h2]))
      go_ret
      exact ⟨ret_bool HA.out.symm, rfl⟩
  · have HA : Hid (rIn r = true) := Lib.hid (by unfold rIn; rw [h1]; rfl)
    go_enter Tryd.func75, Tryd.ntmps75
    go_wp2_with (go_at_call 81; refine (klet_any _ _).mono ?_; rintro e w' ⟨rfl, rfl⟩; rw [h1])
    go_ret
    exact ⟨ret_bool HA.out.symm, rfl⟩
theorem kbad_any (r : Int) (w : World) : Calls Tryd.prog 74 #[.int .i32 r] w fun e w' => e = .returned (.bool (rBad r)) ∧ w = w' := by
  cases h1 : rIn r
  · cases h2 : rUp r
    · by_cases h3 : r = 58
      · have HA : Hid (rBad r = true) := Lib.hid (by unfold rBad; rw [h1, h2]; simp [h3])
        have g3 : (r == 58) = true := by simp [h3]
        clear h3
        go_enter Tryd.func74, Tryd.ntmps74
        go_wp2_with (first | (go_at_call 75; refine (kin_any _ _).mono ?_; rintro e w' ⟨rfl, rfl⟩; rw [h1]) | (go_at_call 76; refine (kup_any _ _).mono ?_; rintro e w' ⟨rfl, rfl⟩; rw [h2]))
        go_ret
        exact ⟨ret_bool HA.out.symm, rfl⟩
      · have HA : Hid (rBad r = false) := Lib.hid (by unfold rBad; rw [h1, h2]; simp [h3])
        have g3 : (r == 58) = false := by simp [h3]
        clear h3
        go_enter Tryd.func74, Tryd.ntmps74
        go_wp2_with (first | (go_at_call 75; refine (kin_any _ _).mono ?_; rintro e w' ⟨rfl, rfl⟩; rw [h1]) | (go_at_call 76; refine (kup_any _ _).mono ?_; rintro e w' ⟨rfl, rfl⟩; rw [h2]))
        go_ret
        exact ⟨ret_bool HA.out.symm, rfl⟩
    · have HA : Hid (rBad r = true) := Lib.hid (by unfold rBad; rw [h1, h2]; rfl)
      go_enter Tryd.func74, Tryd.ntmps74
      go_wp2_with (first | (go_at_call 75; refine (kin_any _ _).mono ?_; rintro e w' ⟨rfl, rfl⟩; rw [h1]) | (go_at_call 76; refine (kup_any _ _).mono ?_; rintro e w' ⟨rfl, rfl⟩; rw [h2]))
      go_ret
      exact ⟨ret_bool HA.out.symm, rfl⟩
  · have HA : Hid (rBad r = true) := Lib.hid (by unfold rBad; rw [h1]; rfl)
    go_enter Tryd.func74, Tryd.ntmps74
    go_wp2_with (go_at_call 75; refine (kin_any _ _).mono ?_; rintro e w' ⟨rfl, rfl⟩; rw [h1])
    go_ret
    exact ⟨ret_bool HA.out.symm, rfl⟩
theorem kblank_any (r : Int) (w : World) : Calls Tryd.prog 68 #[.int .i32 r] w fun e w' => e = .returned (.bool (rBlank r)) ∧ w = w' := by
  have go : ∀ b1 b2 b3 : Bool, (r == 32) = b1 → (r == 9) = b2 → (r == 10) = b3 → Hid (rBlank r = (b1 || (b2 || b3))) := by
    intro b1 b2 b3 h1 h2 h3
    refine Lib.hid ?_
    rw [← h1, ← h2, ← h3]
    rfl
  cases h1 : (r == 32) <;> cases h2 : (r == 9) <;> cases h3 : (r == 10)
  all_goals
    have HA := go _ _ _ h1 h2 h3
    clear go
    go_enter Tryd.func68, Tryd.ntmps68
    go_wp2
    go_ret
    exact ⟨ret_bool HA.out.symm, rfl⟩
theorem ktight_any (k : Int) (w : World) : Calls Tryd.prog 46 #[.int .i64 k] w fun e w' => e = .returned (.bool (tightB k)) ∧ w = w' := by
  have go : ∀ b : Bool, tightB k = b → Hid (tightB k = b) := fun b h => Lib.hid h
  by_cases h1 : k = 1
  · subst h1
    go_enter Tryd.func46, Tryd.ntmps46
    go_wp2
    go_ret
    exact ⟨rfl, rfl⟩
  by_cases h8 : k = 8
  · subst h8
    go_enter Tryd.func46, Tryd.ntmps46
    go_wp2
    go_ret
    exact ⟨rfl, rfl⟩
  by_cases h2 : k = 2
  · subst h2
    go_enter Tryd.func46, Tryd.ntmps46
    go_wp2
    go_ret
    exact ⟨rfl, rfl⟩
  by_cases h3 : k = 3
  · subst h3
    go_enter Tryd.func46, Tryd.ntmps46
    go_wp2
    go_ret
    exact ⟨rfl, rfl⟩
  by_cases h5 : k = 5
  · subst h5
    go_enter Tryd.func46, Tryd.ntmps46
    go_wp2
    go_ret
    exact ⟨rfl, rfl⟩
  have HA : Hid (tightB k = false) := Lib.hid (by unfold tightB; simp [h1, h2, h3, h5, h8])
  have g1 : (k == 1) = false := by simp [h1]
  have g2 : (k == 2) = false := by simp [h2]
  have g3 : (k == 3) = false := by simp [h3]
  have g5 : (k == 5) = false := by simp [h5]
  have g8 : (k == 8) = false := by simp [h8]
  clear h1 h2 h3 h5 h8 go
  go_enter Tryd.func46, Tryd.ntmps46
  go_wp2
  go_ret
  exact ⟨ret_bool HA.out.symm, rfl⟩

end Go.Proofs.YtdapdpmplbifdaaDoor
