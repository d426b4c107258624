/- Leaf functions of package atom: what each one returns. -/
import Derived.Test.YtcpgfcpmjalacaaRows
import Derived.WalkKit
import Derived.WalkSpells
import Derived.WalkLawsBesides
namespace Go.Proofs.Ytcpgfcpmjalacaa
open Go.RowKit

set_option maxHeartbeats 400000 in
theorem kind_any (a : Int) (w : World) (h0 : 0 ≤ a) (h1 : a ≤ 65535) :
    Calls Try.prog 22 #[.int .u16 a] w fun e w' => e = .returned (.int .i64 (a / 8192)) ∧ w = w' := by
  go_enter Try.func22, Try.ntmps22
  go_wp2
  go_ret
  trace_state
  exact ⟨rfl, rfl⟩

set_option maxHeartbeats 400000 in
theorem number_any (a : Int) (w : World) (h0 : 0 ≤ a) (h1 : a ≤ 65535) :
    Calls Try.prog 24 #[.int .u16 a] w fun e w' => e = .returned (.int .i64 (a % 8192)) ∧ w = w' := by
  go_enter Try.func24, Try.ntmps24
  go_wp2
  go_ret
  exact ⟨rfl, rfl⟩

set_option maxHeartbeats 400000 in
theorem compose_any (k n : Int) (w : World) (h0 : 0 ≤ k) (h1 : k ≤ 5) (h2 : 0 ≤ n) (h3 : n ≤ 8191) :
    Calls Try.prog 31 #[.int .i64 k, .int .i64 n] w fun e w' => e = .returned (.int .u16 (k * 8192 + n)) ∧ w = w' := by
  go_enter Try.func31, Try.ntmps31
  go_wp2
  go_ret
  exact ⟨rfl, rfl⟩

set_option maxHeartbeats 400000 in
theorem named_yes (k : Int) (w : World) (h0 : 1 ≤ k) (h1 : k ≤ 5) :
    Calls Try.prog 33 #[.int .i64 k] w fun e w' => e = .returned (.bool true) ∧ w = w' := by
  go_enter Try.func33, Try.ntmps33
  go_wp2
  go_ret
  exact ⟨rfl, rfl⟩

set_option maxHeartbeats 400000 in
theorem named_no (k : Int) (w : World) (h0 : ¬ (1 ≤ k ∧ k ≤ 5)) :
    Calls Try.prog 33 #[.int .i64 k] w fun e w' => e = .returned (.bool false) ∧ w = w' := by
  by_cases h1 : 1 ≤ k
  · have h2 : ¬ k ≤ 5 := fun h => h0 ⟨h1, h⟩
    clear h0
    go_enter Try.func33, Try.ntmps33
    go_wp2
    go_ret
    exact ⟨rfl, rfl⟩
  · clear h0
    go_enter Try.func33, Try.ntmps33
    go_wp2
    go_ret
    exact ⟨rfl, rfl⟩
end Go.Proofs.Ytcpgfcpmjalacaa
