/- AtomParts and AtomNames: the walks. -/
import Derived.Test.YtcpgfcpmjalacaaAwake
namespace Go.Proofs.Ytcpgfcpmjalacaa
open Go.RowKit

set_option maxHeartbeats 1000000 in
theorem atomParts_walk (a : Int) (wa : (Lit.int .u16 a).wf = true) (w : World) :
    Calls Try.prog 8 #[.int .u16 a] w fun e w' => e = .returned (.bool true) ∧ Fr (fun _ => False) w w' := by
  have h01 : 0 ≤ a ∧ a ≤ 65535 := by simp [Lit.wf, IntKind.min, IntKind.max, IntKind.signed, IntKind.bits] at wa; exact wa
  obtain ⟨h0, h1⟩ := h01
  have e1 : Hid (0 ≤ a / 8192 ∧ a / 8192 < 8 ∧ 0 ≤ a % 8192 ∧ a % 8192 < 8192 ∧ a / 8192 * 8192 + a % 8192 = a) := ⟨by omega, by omega, by omega, by omega, by omega⟩
  clear wa
  go_enter Try.func8, Try.ntmps8
  go_wp2_with fail
  refine (awake_any w).mono ?_
  rintro e w1 ⟨rfl, hfr⟩
  go_wp2_with fail
  refine (kind_any a _ h0 h1).mono ?_
  rintro e w' ⟨rfl, rfl⟩
  go_wp2_with fail
  refine (number_any a _ h0 h1).mono ?_
  rintro e w' ⟨rfl, rfl⟩
  obtain ⟨e1, e2, e3, e4, e5⟩ := e1.out
  have e6 : (a / 8192 * 8192 + a % 8192 == a) = true := by rw [beq_iff_eq]; exact e5
  clear e5
  go_wp2
  go_ret
  exact ⟨rfl, hfr⟩
end Go.Proofs.Ytcpgfcpmjalacaa
