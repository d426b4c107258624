/- AtomNames: the walk. -/
import Derived.Test.YtcpgfcpmjalacaaRmay
namespace Go.Proofs.Ytcpgfcpmjalacaa
open Go.RowKit

set_option maxHeartbeats 1000000 in
theorem atomNames_walk (s : ByteArray) (ws : s.size ≤ maxLen) (w : World) :
    Calls Try.prog 4 #[.string s] w fun e w' => e = .returned (.bool true) ∧ Fr (fun _ => False) w w' := by
  by_cases h1 : 1000 < s.size
  · have h1' : 1000 < (s.size : Int) := by omega
    have h1b : decide (1000 < (s.size : Int)) = true := by simp; omega
    go_enter Try.func4, Try.ntmps4
    go_wp2_with fail
    refine (awake_any w).mono ?_
    rintro e w1 ⟨rfl, hfr⟩
    go_wp2_with fail
    go_ret
    exact ⟨rfl, hfr⟩
  · have h1' : ¬ 1000 < (s.size : Int) := by omega
    have h1b : decide (1000 < (s.size : Int)) = false := by simp; omega
    go_enter Try.func4, Try.ntmps4
    go_wp2_with fail
    refine (awake_any w).mono ?_
    rintro e w1 ⟨rfl, hfr⟩
    go_wp2_with fail
    refine (may_any s _ ws).mono ?_
    rintro e w' ⟨rfl, rfl⟩
    go_wp2_with fail
    refine (rmay_any s _ ws).mono ?_
    rintro e w' ⟨rfl, rfl⟩
    go_wp2_with fail
    go_ret
    exact ⟨rfl, hfr⟩
end Go.Proofs.Ytcpgfcpmjalacaa
