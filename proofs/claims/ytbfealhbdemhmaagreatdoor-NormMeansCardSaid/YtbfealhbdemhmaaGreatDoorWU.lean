/- Contracts and lemmas: WU -/
import Derived.Test.YtbfealhbdemhmaaGreatDoorWR
namespace Go.Proofs.YtbfealhbdemhmaaGreatDoor
set_option linter.unusedVariables false
set_option linter.unusedSimpArgs false
open Go.RowKit Go.ChangeShapes Go.WideShapes
set_option maxRecDepth 20000
theorem largex_no6 {l : List TrmB} (h : largeX l = false) : l.length ≤ 300 ∧ ∀ t ∈ l, t.name.size ≤ 100 := by
  unfold largeX at h
  simp only [Bool.or_eq_false_iff, decide_eq_false_iff_not, List.any_eq_false, decide_eq_true_eq] at h
  exact ⟨by omega, fun t ht => by have := h.2 t ht; omega⟩
set_option maxHeartbeats 4000000 in
theorem normruns_walk {w : World} {x : Value} (hx : Atm.Rows6At w x) {va0 : Value} {l : List TrmB} (hxl : ReadsX w va0 l) (hlm : (l.length : Int) ≤ 9223372036854775807) (hN : Norm6 w) : Calls Tryz.prog 3 #[x, va0] w (KeptPost (.bool true) w) := by
  have HX := Lib.hid hx
  have HN := Lib.hid hN
  have HXL := Lib.hid hxl
  obtain ⟨aol, cl, rfl, _⟩ := hxl
  obtain ⟨v, src, rfl, _⟩ := hx
  clear hN
  have HW : Hid (Kept w (w.alloc (.cells #[v 0, v 1, v 2, v 3, v 4, v 5] 24))) := Lib.hid (Fr.of_alloc _ _ _)
  go_enter Tryz.func3, Tryz.ntmps3
  go_wp2_with fail
  refine (kawake6_any _ (HN.out.later HW.out)).mono ?_
  rintro e w1 ⟨rfl, hk1⟩
  have HK1 := Lib.hid (HW.out.trans hk1)
  have hc1 : ∀ k, k < 6 → w1.cell? ⟨w.heap.size, k, none⟩ = some (v k) := fun k hk6 => hk1.cell (Atm.box_cell w v _ hk6) (fun x => x)
  have d0 := hc1 0 (by omega)
  have d1 := hc1 1 (by omega)
  have d2 := hc1 2 (by omega)
  have d3 := hc1 3 (by omega)
  have d4 := hc1 4 (by omega)
  have d5 := hc1 5 (by omega)
  clear hc1 hk1
  go_wp2_with fail
  refine (Atm.tables_any (HX.out.later HK1.out)).mono ?_
  rintro e w2 ⟨hk2, h2⟩
  have HK2 := Lib.hid (HK1.out.trans hk2)
  clear hk2 d0 d1 d2 d3 d4 d5
  rcases h2 with ⟨B, F, B', F', L, rfl, ht, hr, hg, hnm⟩ | rfl
  rotate_left
  · go_wp2
    go_ret
    exact ⟨rfl, HK2.out⟩
  have HT := Lib.hid ht
  have HR := Lib.hid hr
  have HG := Lib.hid hg
  clear ht hr hg hnm
  have HL2 := Lib.hid (HXL.out.kept HK2.out)
  cases hlg : largeX l
  rotate_left
  · go_wp2_with (go_at_call 11; refine (klargex_any HL2.out hlm).mono ?_; rintro e w3 ⟨rfl, rfl⟩; rw [hlg])
    go_ret
    exact ⟨rfl, HK2.out⟩
  · obtain ⟨hl3, hs1⟩ := largex_no6 hlg
    have HS1 : Hid (∀ t ∈ l, t.name.size ≤ 1000000) := Lib.hid (fun t ht => by have := hs1 t ht; omega)
    clear hs1
    go_wp2_with (go_at_call 11; refine (klargex_any HL2.out hlm).mono ?_; rintro e w3 ⟨rfl, rfl⟩; rw [hlg])
    refine (HN.out.run w2 HK2.out F B L _ l HT.out HL2.out (by omega) HS1.out).mono ?_
    rintro e w3 ⟨va, xa, na, qa, rfl, hra, hrda, hk3⟩
    have HRA := Lib.hid hra
    have HDA := Lib.hid hrda
    have HK3 := Lib.hid hk3
    clear hra hrda hk3
    go_wp2_with fail
    refine (rrun_any (HR.out.later HK3.out) HG.out (HL2.out.kept HK3.out) (by omega) HS1.out).mono ?_
    rintro e w4 ⟨vb, xb, nb, qb, rfl, hrb, hrdb, hk4⟩
    have hu := HRA.out.unique hrb
    simp only [Prod.mk.injEq] at hu
    obtain ⟨rfl, rfl, rfl⟩ := hu
    have HDB := Lib.hid hrdb
    have HDC := Lib.hid (HDA.out.new hk4)
    have HK4 := Lib.hid (HK2.out.trans (HK3.out.trans hk4))
    have HLN := Lib.hid (run_len HG.out hrb)
    clear hrb hrdb hk4
    go_wp2_with fail
    refine (equal_any HDC.out HDB.out HLN.out HLN.out).mono ?_
    rintro e w5 ⟨rfl, m, rfl⟩
    rw [decide_eq_true rfl]
    have HK5 := Lib.hid (HK4.out.trans (Fr.of_drewN (fun _ => False) w4 m))
    go_wp2
    go_ret
    exact ⟨rfl, HK5.out⟩

end Go.Proofs.YtbfealhbdemhmaaGreatDoor
