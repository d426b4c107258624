/- Contracts and lemmas: WR -/
import Derived.Test.YtbfealhbdemhmaaGreatDoorAw
namespace Go.Proofs.YtbfealhbdemhmaaGreatDoor
set_option linter.unusedVariables false
set_option linter.unusedSimpArgs false
open Go.RowKit Go.ChangeShapes Go.WideShapes
set_option maxRecDepth 20000
theorem Atm.Rows6At.later {w w' : World} {x : Value} (h : Atm.Rows6At w x) (hk : Kept w w') : Atm.Rows6At w' x := by
  obtain ⟨v, src, rfl, h1⟩ := h
  exact ⟨v, src, rfl, fun k hk6 => ⟨((h1 k hk6).1).same (atm_of hk) (fun _ _ h => h), (h1 k hk6).2⟩⟩
theorem run_len {L : Nat → List ByteArray} (hL : TabL L) {x : List Tok} {r : List ByteArray × Nat × Int} (h : RunIs L x r) : r.1.length ≤ 100000 := by
  rcases h with ⟨e, h1, rfl⟩ | ⟨_, rfl⟩
  · cases he : evalE L e with
    | ok s => exact (may_bounds (eval_may hL h1.1 he)).1
    | error y => exact Nat.zero_le _
  · exact Nat.zero_le _
theorem read6_len {L : Nat → List ByteArray} (hL : TabL L) {s : List UInt8} {r : List ByteArray × Nat × Int} (h : Read6 L s r) : r.1.length ≤ 100000 := by
  obtain ⟨x, n, q, _, ⟨_, rfl⟩ | ⟨_, r', h2, rfl⟩⟩ := h
  · exact Nat.zero_le _
  · have := run_len hL h2
    exact this
set_option maxHeartbeats 4000000 in
theorem normreads_walk {w : World} {x : Value} (hx : Atm.Rows6At w x) (s : ByteArray) (hN : Norm6 w) : Calls Tryz.prog 4 #[x, .string s] w (KeptPost (.bool true) w) := by
  have HX := Lib.hid hx
  have HN := Lib.hid hN
  obtain ⟨v, src, rfl, _⟩ := hx
  clear hN
  have HW : Hid (Kept w (w.alloc (.cells #[v 0, v 1, v 2, v 3, v 4, v 5] 24))) := Lib.hid (Fr.of_alloc _ _ _)
  go_enter Tryz.func4, Tryz.ntmps4
  go_wp2_with fail
  refine (kawake6_any _ (HN.out.later HW.out)).mono ?_
  rintro e w1 ⟨rfl, hk1⟩
  have HK1 := Lib.hid (HW.out.trans hk1)
  have hc1 : ∀ k, k < 6 → w1.cell? ⟨w.heap.size, k, none⟩ = some (v k) := fun k hk6 => hk1.cell (Atm.box_cell w v _ hk6) (fun x => x)
  have d0 := hc1 0 (by omega)
  have d1 := hc1 1 (by omega)
  have d2 := hc1 2 (by omega)
  have d3 := hc1 3 (by omega)
  have d4 := hc1 4 (by omega)
  have d5 := hc1 5 (by omega)
  clear hc1 hk1
  go_wp2_with fail
  refine (Atm.tables_any (HX.out.later HK1.out)).mono ?_
  rintro e w2 ⟨hk2, h2⟩
  have HK2 := Lib.hid (HK1.out.trans hk2)
  clear hk2 d0 d1 d2 d3 d4 d5
  rcases h2 with ⟨B, F, B', F', L, rfl, ht, hr, hg, hnm⟩ | rfl
  rotate_left
  · go_wp2
    go_ret
    exact ⟨rfl, HK2.out⟩
  have HT := Lib.hid ht
  have HR := Lib.hid hr
  have HG := Lib.hid hg
  clear ht hr hg hnm
  by_cases hsl : 4096 < s.size
  · have hsi : (4096 : Int) < (s.size : Int) := by omega
    go_wp2
    go_ret
    exact ⟨rfl, HK2.out⟩
  · have hsi : ¬ (4096 : Int) < (s.size : Int) := by omega
    go_wp2_with fail
    refine (HN.out.read w2 HK2.out F B L s HT.out (by omega)).mono ?_
    rintro e w3 ⟨va, xa, na, qa, rfl, hra, hrda, hk3⟩
    have HRA := Lib.hid hra
    have HDA := Lib.hid hrda
    have HK3 := Lib.hid hk3
    clear hra hrda hk3
    go_wp2_with fail
    refine (rread6_any (HR.out.later HK3.out) HG.out s (by omega)).mono ?_
    rintro e w4 ⟨vb, xb, nb, qb, rfl, hrb, hrdb, hk4⟩
    have hu := HRA.out.unique hrb
    simp only [Prod.mk.injEq] at hu
    obtain ⟨rfl, rfl, rfl⟩ := hu
    have HDB := Lib.hid hrdb
    have HDC := Lib.hid (HDA.out.new hk4)
    have HK4 := Lib.hid (HK2.out.trans (HK3.out.trans hk4))
    have HLN := Lib.hid (read6_len HG.out hrb)
    clear hrb hrdb hk4
    go_wp2_with fail
    refine (equal_any HDC.out HDB.out HLN.out HLN.out).mono ?_
    rintro e w5 ⟨rfl, m, rfl⟩
    rw [decide_eq_true rfl]
    have HK5 := Lib.hid (HK4.out.trans (Fr.of_drewN (fun _ => False) w4 m))
    go_wp2
    go_ret
    exact ⟨rfl, HK5.out⟩

end Go.Proofs.YtbfealhbdemhmaaGreatDoor
