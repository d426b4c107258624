/- WordMakes: the walk. -/
import Derived.Test.YtbpkfaoaphegnaaRswap
import Derived.Test.YtbpkfaoaphegnaaWBack
import Derived.StillTailTactics
import Derived.Deep.DeepCutAuto
import Derived.Deep.CutBlock
namespace Go.Proofs.Ytbpkfaoaphegnaa
set_option linter.unusedVariables false
open Go.RowKit Go.ChangeShapes Go.WideShapes

/-- the value holds words -/
def WordsAt (w : World) (v : Value) : Prop := ∃ m, Reads w (fun _ => True) v (wcells m) ∧ Small maxLen m ∧ m.length ≤ maxLen

theorem words_of {w : World} {v : Value} {r : Reach} {b : Nat} (hval : Value.okWide Try.prog w r b 38 v) (h : Holds Try.prog w 38 v.cells.toList) : WordsAt w v := by
  obtain ⟨ao, len, cap, rfl⟩ := okWide_slice Try.underlying38 hval
  have hC : Try.prog.cellsOf 22 = 1 := by kernel_rfl
  have : Inhabited ByteArray := ⟨ByteArray.empty⟩
  obtain ⟨l, h1, h2, h3⟩ := Holds.row (mk := Value.string) (R := fun x => x.size ≤ maxLen) (c := .slice ao len cap) h Try.underlying38 hC (fun cs hcs => by
    obtain ⟨x, hx, hw⟩ := hcs.string Try.underlying22
    exact ⟨x, hx, hw⟩)
  exact ⟨l, h1, h2, h3⟩

set_option maxHeartbeats 8000000 in
set_option maxRecDepth 100000 in
theorem wordMakes_small {w : World} {v1 v2 : Value} {l : List Int} {m : List ByteArray} (i n : Int) (hr1 : Reads w (fun _ => True) v1 (cellsOf l)) (hg : Good l) (hl : l.length ≤ 2048)
    (hr2 : Reads w (fun _ => True) v2 (wcells m)) (hsm : Small maxLen m) (hm : m.length ≤ 100) (wi : (Lit.int .i64 i).wf = true) :
    Calls Try.prog 4 #[v1, v2, .int .i64 i, .int .i64 n] w fun e w' => e = .returned (.bool true) ∧ Fr (fun _ => False) w w' := by
  have HR1 := Lib.hid hr1
  have HR2 := Lib.hid hr2
  have HG := Lib.hid hg
  have HSM := Lib.hid hsm
  obtain ⟨ao, c, rfl, _, hc1⟩ := hr1
  obtain ⟨bo, d, rfl, _, hc2⟩ := hr2
  have q1 : (cellsOf l).length = l.length := by simp [cellsOf]
  have q2 : (wcells m).length = m.length := by simp [wcells]
  rw [q1] at HR1 ⊢
  rw [q2] at HR2 ⊢
  have HC2 := Lib.hid hc2
  clear hc1 hc2 hg hsm
  have Q1 := Lib.hid q1
  clear q1 q2
  generalize hll : l.length = ll at *
  generalize hmm : m.length = mm at *
  have HLL := Lib.hid hll
  have HMM := Lib.hid hmm
  clear hll hmm
  have d1 : decide (2048 < (ll : Int)) = false := by simp; omega
  have d2 : decide (100 < (mm : Int)) = false := by simp; omega
  go_enter Try.func4, Try.ntmps4
  go_wp2_with fail
  refine (awake_any _).mono ?_
  rintro e w1 ⟨rfl, hk⟩
  have HK := Lib.hid hk
  have HCW : Hid (∀ (k : Nat) x, m[k]? = some x → ∃ g off, bo = some ⟨g, off, none⟩ ∧ w1.cell? ⟨g, off + k, none⟩ = some (.string x)) := Lib.hid (fun k x hx => by
    obtain ⟨g, off, h1, _, h2⟩ := HC2.out k _ (wcells_get hx)
    exact ⟨g, off, h1, hk.cell h2 (fun x => x)⟩)
  clear hk
  go_wp2_with fail
  clear d1 d2
  go_loop [32] (fun p => ∃ k : Nat, k ≤ mm ∧ p = .int .i64 k ∧ Hid (∀ j x, j < k → m[j]? = some x → x.size ≤ 4096)) (fun p => mm - (intOf p).toNat)
  case atStart => exact ⟨0, by omega, rfl, Lib.hid (fun j x hj => by omega)⟩
  case round =>
    obtain ⟨k, hk, rfl, hall⟩ := hrel
    by_cases hlt : k < mm
    · have h1 : (k : Int) < mm := by omega
      obtain ⟨x, hx⟩ : ∃ x, m[k]? = some x := ⟨_, List.getElem?_eq_getElem (by have := HMM.out; omega)⟩
      obtain ⟨g, off, rfl, hcell⟩ := HCW.out k x hx
      have hxs := HSM.out x (List.mem_of_getElem? hx)
      unfold maxLen at hxs
      have HX := Lib.hid hx
      clear hx
      by_cases hbig : 4096 < x.size
      · have h2 : decide (4096 < (x.size : Int)) = true := by simp; omega
        go_wp2_with fail
        go_ret
        exact ⟨rfl, HK.out⟩
      · have h2 : decide (4096 < (x.size : Int)) = false := by simp; omega
        have HA : Hid (∀ j x, j < k + 1 → m[j]? = some x → x.size ≤ 4096) := Lib.hid (fun j y hj hy => by
          rcases Nat.lt_or_ge j k with h | h
          · exact hall.out j y h hy
          · obtain rfl : j = k := by omega
            rw [HX.out] at hy; cases hy; omega)
        go_wp2_with fail
        go_round
        case rel => exact ⟨k + 1, by omega, by go_num, HA⟩
        case measure => simp [intOf]; omega
    · have HS : Hid (Small 4096 m) := Lib.hid (fun x hx => by
        obtain ⟨j, hj⟩ := List.mem_iff_getElem?.1 hx
        exact hall.out j x (by have := (List.getElem?_eq_some_iff.1 hj).1; have := HMM.out; omega) hj)
      have HS2 : Hid (Small 100000 m) := Lib.hid (fun x hx => by have := HS.out x hx; omega)
      have h1 : ¬ (k : Int) < mm := by omega
      clear hall HCW
      have HL1 := Lib.hid (HR1.out.new HK.out)
      have HSRC := Lib.hid ((HL1.out.new (Fr.of_alloc _ w1 (Obj.cells #[] 32))).src (P := Try.prog) Try.underlying29 one_u16)
      go_wp2_with (at_builtin; refine list_app rfl (.tmp 42) (.tmp 43) 29 29 rfl Try.slice29 rfl (by exact own_new (heap_alloc_new w1 _) (Nat.le_refl _)) rfl (by exact HSRC.out) (by rw [Q1.out]; unfold maxLen; omega) (by rw [Q1.out]; omega) (by simp) ?_; intro v4 w4 hp1; rw [Q1.out, Nat.zero_add, List.nil_append] at hp1; have HK4 := Lib.hid (hp1.kept (Fr.of_alloc _ w1 _) (own_at _ _ _)).1; have HR4 := Lib.hid (Reads.of_row hp1.1); clear hp1)
      replace HK4 := Lib.hid (HK.out.trans HK4.out)
      have hl3 : l.length ≤ 100000 := by rw [HLL.out]; omega
      have hm3 : m.length ≤ 100000 := by rw [HMM.out]; omega
      clear HSRC HL1
      refine (of_any HR4.out HG.out hl3).mono ?_
      rintro e w5 ⟨rfl, hk⟩
      replace HK4 := Lib.hid (HK4.out.trans hk)
      replace HR4 := Lib.hid (HR4.out.new hk)
      clear hk
      go_wp2_with fail
      refine (rof_any (HR1.out.new HK4.out) HG.out hl3).mono ?_
      rintro e w6 ⟨rfl, hk⟩
      replace HK4 := Lib.hid (HK4.out.trans hk)
      replace HR4 := Lib.hid (HR4.out.new hk)
      clear hk
      have hoo : ((ofS l).toList != (ofS l).toList) = false := by simp
      generalize ofS l = o at *
      go_wp2_with fail
      refine (same_any HR4.out (HR1.out.new HK4.out) hl3 hl3).mono ?_
      rintro e w' ⟨rfl, q, rfl⟩
      rw [show decide (l = l) = true from by simp]
      replace HK4 := Lib.hid (HK4.out.trans (Fr.of_drewN _ _ q))
      clear HR4 hoo
      obtain ⟨p, hp⟩ : ∃ p, catS m = p := ⟨_, rfl⟩
      have HP := Lib.hid hp
      obtain ⟨p1, p2⟩ := p
      clear hp
      go_wp2_with fail
      refine (cat_any (HR2.out.new HK4.out) hm3 HS2.out).mono ?_
      rintro e w7 ⟨rfl, hk⟩
      rw [HP.out]
      replace HK4 := Lib.hid (HK4.out.trans hk)
      clear hk
      go_wp2_with fail
      refine (rcat_any (HR2.out.new HK4.out) hm3 HS2.out).mono ?_
      rintro e w8 ⟨rfl, hk⟩
      rw [HP.out]
      replace HK4 := Lib.hid (HK4.out.trans hk)
      clear hk
      have hpp : (p1.toList != p1.toList) = false := by simp
      have hpp2 : (p2 != p2) = false := by simp
      go_wp2_with fail
      clear hpp hpp2 hlt h1
      go_loopw [15] (fun p wr => ∃ k : Nat, k ≤ mm ∧ p = .int .i64 k ∧ Hid (Kept w wr)) (fun p _ => mm - (intOf p).toNat)
      case atStart => exact ⟨0, by omega, rfl, HK4⟩
      case round =>
        obtain ⟨k, hk, rfl, hkr⟩ := hrel
        by_cases hlt : k + 1 < mm
        · have h1 : (k : Int) + 1 < mm := by omega
          obtain ⟨x, hx⟩ : ∃ x, m[k]? = some x := ⟨_, List.getElem?_eq_getElem (by have := HMM.out; omega)⟩
          obtain ⟨y, hy⟩ : ∃ y, m[k + 1]? = some y := ⟨_, List.getElem?_eq_getElem (by have := HMM.out; omega)⟩
          obtain ⟨g, off, rfl, _, hcx0⟩ := HC2.out k _ (wcells_get hx)
          obtain ⟨g', off', he, _, hcy0⟩ := HC2.out (k + 1) _ (wcells_get hy)
          cases he
          have hcx := hkr.out.cell hcx0 (fun x => x)
          have hcy := hkr.out.cell hcy0 (fun x => x)
          have hxs := HS2.out x (List.mem_of_getElem? hx)
          have hys := HS2.out y (List.mem_of_getElem? hy)
          have e1 : IntKind.i64.wrap ((k : Int) + 1) = (k : Int) + 1 := IntWalk.i64_in _ (by omega)
          have e2 : ((k : Int) + 1).toNat = k + 1 := by omega
          have e3 : 0 ≤ (k : Int) + 1 := by omega
          obtain ⟨r, hr⟩ : ∃ r, swapS x i n y = r := ⟨_, rfl⟩
          have HSW := Lib.hid hr
          obtain ⟨r1, r2⟩ := r
          clear hx hy hcx0 hcy0 hr
          go_upto_region 21 with fail
          go_cut [16, 17] (fun t16 t17 wx => t16 = .string r1 ∧ t17 = .int .i64 r2 ∧ Hid (Kept wr wx))
          case first =>
            go_region_with (go_at_call 29; refine (swap_any x i n y _ hxs hys wi).mono ?_; rintro e w9 ⟨rfl, hk9⟩; rw [HSW.out]; have HK9 := Lib.hid hk9; clear hk9)
            all_goals
              go_wp2_with fail
              go_meet
              exact ⟨rfl, rfl, Lib.hid ((Fr.of_drew _ _).trans HK9.out)⟩
          case rest =>
          obtain ⟨rfl, rfl, hkx⟩ := hcut
          have hcx2 := hkx.out.cell hcx (fun x => x)
          have hcy2 := hkx.out.cell hcy (fun x => x)
          clear hcx hcy
          go_upto_region 22 with fail
          go_cut [18, 19] (fun t18 t19 wy => t18 = .string r1 ∧ t19 = .int .i64 r2 ∧ Hid (Kept w wy))
          case first =>
            have HKX := Lib.hid (hkr.out.trans hkx.out)
            clear hkx
            go_region_with (go_at_call 30; refine (rswap_any x i n y _ hxs hys wi).mono ?_; rintro e w9 ⟨rfl, hk9⟩; rw [HSW.out]; have HK9 := Lib.hid hk9; clear hk9)
            all_goals
              go_wp2_with fail
              go_meet
              exact ⟨rfl, rfl, Lib.hid (HKX.out.trans ((Fr.of_drew _ _).trans HK9.out))⟩
          case rest =>
          obtain ⟨rfl, rfl, hky⟩ := hcut
          have hrr : (r1.toList != r1.toList) = false := by simp
          have hrr2 : (r2 != r2) = false := by simp
          clear hcx2 hcy2
          go_wp2_with fail
          go_roundw
          case rel => exact ⟨k + 1, by omega, by go_num, hky⟩
          case measure => simp [intOf]; omega
        · have h1 : ¬ (k : Int) + 1 < mm := by omega
          go_wp2_with fail
          go_ret
          exact ⟨rfl, hkr.out⟩

set_option maxHeartbeats 1000000 in
theorem wordMakes_walk {w : World} (v1 : Value) (h1 : AtomsAt w v1) (v2 : Value) (h2 : WordsAt w v2) (i : Int) (wi : (Lit.int .i64 i).wf = true) (n : Int) (wn : (Lit.int .i64 n).wf = true) :
    Calls Try.prog 4 #[v1, v2, .int .i64 i, .int .i64 n] w fun e w' => e = .returned (.bool true) ∧ Fr (fun _ => False) w w' := by
  obtain ⟨l, hr1, hg, hlm⟩ := h1
  obtain ⟨m, hr2, hsm, hmm⟩ := h2
  unfold maxLen at hlm hmm
  by_cases la : 2048 < l.length
  · obtain ⟨ao, c, rfl, _, hc⟩ := hr1
    obtain ⟨bo, d, rfl, _, hc2⟩ := hr2
    have q1 : (cellsOf l).length = l.length := by simp [cellsOf]
    have q2 : (wcells m).length = m.length := by simp [wcells]
    rw [q1, q2]
    clear hc hg q1 hc2 q2 hsm
    generalize l.length = ll at *
    generalize m.length = mm at *
    have d1 : decide (2048 < (ll : Int)) = true := by simp; omega
    go_enter Try.func4, Try.ntmps4
    go_wp2_with fail
    refine (awake_any _).mono ?_
    rintro e w1 ⟨rfl, hk⟩
    have HK := Lib.hid hk
    clear hk
    go_wp2_with fail
    go_ret
    exact ⟨rfl, HK.out⟩
  · by_cases lb : 100 < m.length
    · obtain ⟨ao, c, rfl, _, hc⟩ := hr1
      obtain ⟨bo, d, rfl, _, hc2⟩ := hr2
      have q1 : (cellsOf l).length = l.length := by simp [cellsOf]
      have q2 : (wcells m).length = m.length := by simp [wcells]
      rw [q1, q2]
      clear hc hg q1 hc2 q2 hsm
      generalize l.length = ll at *
      generalize m.length = mm at *
      have d1 : decide (2048 < (ll : Int)) = false := by simp; omega
      have d2 : decide (100 < (mm : Int)) = true := by simp; omega
      go_enter Try.func4, Try.ntmps4
      go_wp2_with fail
      refine (awake_any _).mono ?_
      rintro e w1 ⟨rfl, hk⟩
      have HK := Lib.hid hk
      clear hk
      go_wp2_with fail
      go_ret
      exact ⟨rfl, HK.out⟩
    · exact wordMakes_small i n hr1 hg (by omega) hr2 hsm (by omega) wi
end Go.Proofs.Ytbpkfaoaphegnaa
