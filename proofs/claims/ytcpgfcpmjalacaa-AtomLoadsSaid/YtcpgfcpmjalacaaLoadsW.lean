/- AtomLoads: the walk. -/
import Derived.Test.YtcpgfcpmjalacaaLoads
namespace Go.Proofs.Ytcpgfcpmjalacaa
open Go.RowKit

theorem Copy6.sizes {w wr : World} {A : Nat} {v : Nat → Value} {src : Nat → List ByteArray} {k : Nat} (h : Copy6 w wr A v src k) : A < wr.heap.size ∧ w.heap.size < wr.heap.size := by
  obtain ⟨vv, hA, _⟩ := h.arr
  exact ⟨(Array.getElem?_eq_some_iff.1 hA).1, (Array.getElem?_eq_some_iff.1 h.box).1⟩

/-- while the copies are overwritten -/
structure JInv (w wr : World) (A S : Nat) (vv : Nat → Value) (src : Nat → List ByteArray) (T : World → Prop) : Prop where
  fr : Fr (fun _ => False) w wr
  low : w.heap.size < A
  arr : wr.heap[A]? = some (.cells #[vv 0, vv 1, vv 2, vv 3, vv 4, vv 5] 31 (0, 0))
  shape : ∀ j, j < 6 → Shape wr (A + 1) S (vv j) (src j).length
  also : T wr
  keeps : ∀ (w1 : World) (a : Addr) (u : Value), A < a.block → a.block < S → T w1 → T (w1.setCell a u)

theorem JInv.store {w wr : World} {A S : Nat} {vv : Nat → Value} {src : Nat → List ByteArray} {T : World → Prop} (h : JInv w wr A S vv src T) {g i : Nat} (h1 : A < g) (h2 : g < S) (u : Value) : JInv w (wr.setCell ⟨g, i, none⟩ u) A S vv src T :=
  ⟨h.fr.over ((Fr.of_setCell wr ⟨g, i, none⟩ u).mono (fun _ _ e => e) : Fr (fun b => b = g) _ _) (fun b e => by have := h.low; omega), h.low,
    (Below.heap_setCell _ _ _ _ (by show A ≠ g; omega)).trans h.arr, fun j hj => (h.shape j hj).set _ _, h.keeps wr _ u h1 h2 h.also, h.keeps⟩

theorem JInv.cell {w wr : World} {A S : Nat} {vv : Nat → Value} {src : Nat → List ByteArray} {T : World → Prop} (h : JInv w wr A S vv src T) {k : Nat} (hk : k < 6) :
    ∃ ao c, wr.cell? ⟨A, k, none⟩ = some (.slice ao (src k).length c) ∧ ∀ i, i < (src k).length → ∃ g, ao = some ⟨g, 0, none⟩ ∧ A < g ∧ g < S ∧ (∃ x, wr.cell? ⟨g, i, none⟩ = some x) ∧ wr.frozen? ⟨g, i, none⟩ = false := by
  obtain ⟨ao, c, hv, hx⟩ := h.shape k hk
  refine ⟨ao, c, by rw [cell_arr h.arr, arr6 vv hk, hv], fun i hi => ?_⟩
  obtain ⟨g, h1, h2, h3, cur, h4, h5⟩ := hx i hi
  exact ⟨g, h1, by omega, h3, ⟨_, (cell_arr h4 i).trans (Array.getElem?_eq_getElem h5)⟩, frozen_arr h4 i⟩

/-- what is there in the end -/
def JTabs (B B2 : Nat) (L : Nat → List ByteArray) (S : Nat) (w1 : World) : Prop := ∃ F F2, Tab w1 F B L ∧ RTab w1 F2 B2 L ∧ (∀ k, F k → S ≤ k) ∧ (∀ k, F2 k → S ≤ k)

theorem JTabs.keeps {B B2 : Nat} {L : Nat → List ByteArray} {S A : Nat} : ∀ (w1 : World) (a : Addr) (u : Value), A < a.block → a.block < S → JTabs B B2 L S w1 → JTabs B B2 L S (w1.setCell a u) := by
  rintro w1 a u h1 h2 ⟨F, F2, ht, hr, hF, hF2⟩
  have hs : Fr (fun b => b = a.block) w1 (w1.setCell a u) := (Fr.of_setCell _ _ _).mono (fun _ _ e => e)
  exact ⟨F, F2, ht.same hs (fun b hb e => by have := hF b hb; omega), hr.same hs (fun b hb e => by have := hF2 b hb; omega), hF, hF2⟩

set_option maxHeartbeats 4000000 in
set_option maxRecDepth 100000 in
theorem atomLoads_walk (x : Value) (w : World) (hx : Rows6At w x) :
    Calls Try.prog 5 #[x] w fun e w' => e = .returned (.bool true) ∧ Fr (fun _ => False) w w' := by
  obtain ⟨v, src, rfl, hv⟩ := hx
  have HV := Lib.hid hv
  have hsl := Try.slice30
  have HSL := Lib.hid hsl
  clear hv hsl
  go_enter Try.func5, Try.ntmps5
  go_wp2_with fail
  refine (awake_any _).mono ?_
  rintro e w1 ⟨rfl, hfr⟩
  have HC := Lib.hid (Copy6.start (src := src) hfr)
  clear hfr
  go_upto_block 0 with (fail)
  generalize hAA : w1.heap.size = A at *
  clear hAA
  go_cut [3] (fun p wr => p = .pointer (some ⟨A, 0, none⟩) ∧ Hid (Copy6 w wr A v src 6 ∧ ∀ k, k < 6 → (src k).length ≤ 400))
  case first =>
    go_wp2_with fail
    go_loopw [16] (fun i wr => ∃ k : Nat, k ≤ 6 ∧ i = .int .i64 k ∧ Hid (Copy6 w wr A v src k ∧ ∀ j, j < k → (src j).length ≤ 400)) (fun i _ => 6 - (intOf i).toNat)
    case atStart => exact ⟨0, by omega, rfl, HC.out, fun j hj => by omega⟩
    case round =>
      obtain ⟨k, hk, rfl, hR⟩ := hrel
      by_cases hlt : k < 6
      · have hki : (k : Int) < 6 := by omega
        have hki0 : 0 ≤ (k : Int) := by omega
        have hc := hR.out.1.cell hlt
        obtain ⟨hrd, hsz, hln⟩ := HV.out k hlt
        obtain ⟨ao, c, hvk, hel⟩ := hrd.same hR.out.1.fr (fun _ _ x => x)
        have hrd2 := hrd.same hR.out.1.fr (fun _ _ x => x)
        rw [hvk] at hc hrd2
        have HEL := Lib.hid hel
        have HSZ := Lib.hid hsz
        have HRD := Lib.hid hrd2
        unfold maxLen at hln
        clear hel hsz hrd hvk hrd2
        by_cases h4 : 400 < (src k).length
        · have h4' : (400 : Int) < (src k).length := by omega
          go_wp2
          go_ret
          exact ⟨rfl, hR.out.1.fr⟩
        · have h4' : ¬ (400 : Int) < (src k).length := by omega
          have H4 : Hid ((src k).length ≤ 400) := by show _ ≤ _; omega
          generalize hnn : (src k).length = n at *
          have HN := Lib.hid hnn
          clear hnn
          go_wp2
          go_loop [28] (fun i => ∃ j : Nat, j ≤ n ∧ i = .int .i64 j) (fun i => n - (intOf i).toNat)
          case atStart => exact ⟨0, by omega, rfl⟩
          case round =>
            obtain ⟨j, hj, rfl⟩ := hrel
            by_cases hjn : j < n
            · have hji : (j : Int) < n := by omega
              obtain ⟨s, hs⟩ : ∃ s, (src k)[j]? = some s := ⟨_, List.getElem?_eq_getElem (by have := HN.out; omega)⟩
              obtain ⟨g, off, rfl, _, hcell⟩ := HEL.out j s hs
              have hss := HSZ.out s (List.mem_of_getElem? hs)
              unfold maxLen at hss
              clear hs
              by_cases h1 : 1000 < s.size
              · have h1' : 1000 < (s.size : Int) := by omega
                go_wp2
                go_ret
                exact ⟨rfl, hR.out.1.fr⟩
              · have h1' : ¬ 1000 < (s.size : Int) := by omega
                go_wp2
                go_round
                case rel => exact ⟨j + 1, by omega, by go_num⟩
                case measure => simp [intOf]; omega
            · have hji : ¬ (j : Int) < n := by omega
              have hbl := hR.out.1.sizes.2
              go_wp2_with (at_builtin; go_must (refine list_app rfl (.tmp 41) (.tmp 44) 30 rfl HSL.out (v := .slice (some ⟨wr.heap.size, 0, none⟩) 0 0) (n := 0) (xs := []) (base := wr.heap.size) (news := (src k).map Value.string) rfl (own_fresh (hp1 wr _) (Nat.le_refl _)) rfl (HRD.out.same (Fr.of_alloc (fun _ => False) _ _) (fun _ _ x => x)).src.2 (by unfold maxLen; omega) (by have := H4.out; omega) (by simp) ?_); intro u w2 hp; obtain ⟨⟨ao2, c2, rfl⟩, ⟨x0, hcx⟩, hfx, hnext⟩ := hR.out.1.step hlt rfl (HN.out.symm ▸ hp); have HNX := Lib.hid hnext; clear hp hnext)
              go_roundw
              case rel =>
                refine ⟨k + 1, by omega, by go_num, HNX.out, fun i hi => ?_⟩
                rcases Nat.lt_or_ge i k with h | h
                · exact hR.out.2 i h
                · obtain rfl : i = k := by omega
                  have h1 := H4.out
                  have h2 := HN.out
                  omega
              case measure => simp [intOf]; omega
      · obtain rfl : k = 6 := by omega
        go_wp2
        go_meet
        case rel => exact ⟨rfl, hR⟩
  case rest =>
    obtain ⟨rfl, hR⟩ := hcut
    obtain ⟨wm, rfl⟩ : ∃ wm : World, wm = wc := ⟨_, rfl⟩
    obtain ⟨vv, hA, hRd⟩ := hR.out.1.arr
    have c0 := (cell_arr hA 0).trans (arr6 vv (by omega))
    have c1 := (cell_arr hA 1).trans (arr6 vv (by omega))
    have c2 := (cell_arr hA 2).trans (arr6 vv (by omega))
    have c3 := (cell_arr hA 3).trans (arr6 vv (by omega))
    have c4 := (cell_arr hA 4).trans (arr6 vv (by omega))
    have c5 := (cell_arr hA 5).trans (arr6 vv (by omega))
    have HA := Lib.hid hA
    have HRD := Lib.hid hRd
    have HSS : Hid (∀ k, k < 6 → ∀ s ∈ src k, s.size ≤ maxLen) := fun k hk => (HV.out k hk).2.1
    have HLL : Hid (∀ k, k < 6 → (src k).length ≤ maxLen) := fun k hk => (HV.out k hk).2.2
    have HLD := Lib.hid (load_any (w := wm) vv src (fun k hk => (hRd k hk hk).1.mono (fun _ _ _ => trivial)) HSS.out HLL.out)
    clear hA hRd
    go_wp2_with fail
    refine HLD.out.mono ?_
    rintro e w3 ⟨hfr, h⟩
    have HF3 := Lib.hid hfr
    have d0 : w3.cell? ⟨w.heap.size, 0, none⟩ = some (v 0) := (cell_of_same (hfr.block _ hR.out.1.sizes.2 (fun x => x))).trans (hR.out.1.cell (by omega))
    have d1 : w3.cell? ⟨w.heap.size, 1, none⟩ = some (v 1) := (cell_of_same (hfr.block _ hR.out.1.sizes.2 (fun x => x))).trans (hR.out.1.cell (by omega))
    have d2 : w3.cell? ⟨w.heap.size, 2, none⟩ = some (v 2) := (cell_of_same (hfr.block _ hR.out.1.sizes.2 (fun x => x))).trans (hR.out.1.cell (by omega))
    have d3 : w3.cell? ⟨w.heap.size, 3, none⟩ = some (v 3) := (cell_of_same (hfr.block _ hR.out.1.sizes.2 (fun x => x))).trans (hR.out.1.cell (by omega))
    have d4 : w3.cell? ⟨w.heap.size, 4, none⟩ = some (v 4) := (cell_of_same (hfr.block _ hR.out.1.sizes.2 (fun x => x))).trans (hR.out.1.cell (by omega))
    have d5 : w3.cell? ⟨w.heap.size, 5, none⟩ = some (v 5) := (cell_of_same (hfr.block _ hR.out.1.sizes.2 (fun x => x))).trans (hR.out.1.cell (by omega))
    have HRL := Lib.hid (rload_any (w := w3) v src (fun k hk => ((HV.out k hk).1.same hR.out.1.fr (fun _ _ x => x)).same hfr (fun _ _ x => x)) HSS.out HLL.out)
    clear hfr c0 c1 c2 c3 c4 c5
    rcases h with ⟨hz, B, F, rfl, ht, hlow⟩ | ⟨hne, rfl⟩
    · have HZ := Lib.hid hz
      have HT := Lib.hid ht
      have HLW := Lib.hid hlow
      clear hz ht hlow
      go_wp2_with fail
      refine HRL.out.mono ?_
      rintro e w4 ⟨hfr4, h⟩
      rcases h with ⟨_, B2, F2, rfl, ht2, hgood, hlow2⟩ | ⟨hne, _⟩
      rotate_left
      · exact absurd HZ.out hne
      have HJ : Hid (JInv w w4 A wm.heap.size vv src (JTabs B B2 (loadS src).2 wm.heap.size) ∧ GoodL (loadS src).2) := by
        refine ⟨⟨(hR.out.1.fr.trans HF3.out).trans hfr4, hR.out.1.low, ?_, fun j hj => (((HRD.out j hj hj).2.new HF3.out).new hfr4), ⟨F, F2, HT.out.same hfr4 (fun _ _ x => x), ht2, HLW.out, fun k hk => Nat.le_trans HF3.out.size (hlow2 k hk)⟩, JTabs.keeps⟩, hgood⟩
        rw [hfr4.block A (Nat.lt_of_lt_of_le hR.out.1.sizes.1 HF3.out.size) (fun x => x), HF3.out.block A hR.out.1.sizes.1 (fun x => x)]
        exact HA.out
      clear hfr4 ht2 hgood hlow2 d0 d1 d2 d3 d4 d5 HRL HLD
      generalize hTT : JTabs B B2 (loadS src).2 wm.heap.size = T at HJ
      have HTT := Lib.hid hTT
      clear hTT
      have HJ0 : Hid (JInv w w4 A wm.heap.size vv src T) := HJ.out.1
      go_upto_block 4 with (fail)
      go_cut [68] (fun _ wr => Hid (JInv w wr A wm.heap.size vv src T))
      case first =>
        go_wp2_with fail
        go_loopw [68] (fun i wr => ∃ k : Nat, k ≤ 6 ∧ i = .int .i64 k ∧ Hid (JInv w wr A wm.heap.size vv src T)) (fun i _ => 6 - (intOf i).toNat)
        case atStart => exact ⟨0, by omega, rfl, HJ0⟩
        case round =>
          obtain ⟨k, hk, rfl, hJ⟩ := hrel
          by_cases hlt : k < 6
          · have hki : (k : Int) < 6 := by omega
            have hki0 : 0 ≤ (k : Int) := by omega
            have hlen := HLL.out k hlt
            unfold maxLen at hlen
            obtain ⟨ao, c, hc, _⟩ := hJ.out.cell hlt
            go_wp2
            obtain ⟨wo, rfl⟩ : ∃ wo : World, wo = wr := ⟨_, rfl⟩
            go_loopw [75] (fun i wr => ∃ j : Nat, j ≤ (src k).length ∧ i = .int .i64 j ∧ Hid (JInv w wr A wm.heap.size vv src T)) (fun i _ => (src k).length - (intOf i).toNat)
            case atStart => exact ⟨0, by omega, rfl, hJ⟩
            case round =>
              obtain ⟨j, hj, rfl, hJ2⟩ := hrel
              by_cases hjl : j < (src k).length
              · have hji : (j : Int) < (src k).length := by omega
                obtain ⟨ao2, c2, hc2, hx⟩ := hJ2.out.cell hlt
                obtain ⟨g, rfl, hg1, hg2, ⟨x0, hcx⟩, hfx⟩ := hx j hjl
                have HST := Lib.hid (hJ2.out.store (i := j) hg1 hg2 (.string ⟨#[63]⟩))
                generalize (src k).length = n at *
                clear hx
                go_wp2
                go_roundw
                case rel => exact ⟨j + 1, by omega, by go_num, HST⟩
                case measure => simp [intOf]; omega
              · have hji : ¬ (j : Int) < (src k).length := by omega
                go_wp2
                go_roundw
                case rel => exact ⟨k + 1, by omega, by go_num, hJ2⟩
                case measure => simp [intOf]; omega
          · obtain rfl : k = 6 := by omega
            go_wp2
            go_meet
            case rel => exact hJ
      case rest =>
        have HG := HJ.out.2
        have HGL := Lib.hid HG
        clear HG
        go_wp2_with fail
        go_loopw [12] (fun i wr => ∃ k : Int, -1 ≤ k ∧ k ≤ 7 ∧ i = .int .i64 k ∧ Hid (Fr (fun _ => False) w wr ∧ JTabs B B2 (loadS src).2 wm.heap.size wr)) (fun i _ => (7 - intOf i).toNat)
        case atStart => exact ⟨-1, by omega, by omega, rfl, hcut.out.fr, by rw [HTT.out]; exact hcut.out.also⟩
        case round =>
          obtain ⟨k, hk1, hk7, rfl, hfr5, F5, F6, ht5, hr5, hF5, hF6⟩ := hrel
          by_cases hlt : k ≤ 6
          · have HA1 := Lib.hid (all_any ht5 k)
            have HF5 := Lib.hid hfr5
            have HR5 := Lib.hid hr5
            have HT5 := Lib.hid ht5
            have HW5 : Hid ((∀ k, F5 k → wm.heap.size ≤ k) ∧ ∀ k, F6 k → wm.heap.size ≤ k) := ⟨hF5, hF6⟩
            have hl4 := allS_few HGL.out.2.1 k
            clear hfr5 hr5 ht5 hF5 hF6
            go_wp2_with fail
            refine HA1.out.mono ?_
            rintro e w6 ⟨v6, rfl, hrow6, hfr6⟩
            have HRW6 := Lib.hid (Reads.of_row hrow6)
            have HR6 := Lib.hid (HR5.out.same hfr6 (fun _ _ x => x))
            have HF6 := Lib.hid hfr6
            clear hrow6 hfr6
            go_wp2_with fail
            refine (rall_any HR6.out HGL.out.2.1 k).mono ?_
            rintro e w7 ⟨v7, rfl, hrow7, hfr7⟩
            have HRW7 := Lib.hid (Reads.of_row hrow7)
            have HRW8 := Lib.hid (HRW6.out.same hfr7 (fun _ _ x => x))
            have HF7 := Lib.hid hfr7
            clear hrow7 hfr7
            go_wp2_with fail
            refine (same_true HRW8.out HRW7.out hl4).mono ?_
            rintro e w8 ⟨rfl, n8, rfl⟩
            have hfin : Fr (fun _ => False) wr (w7.drewN n8) := (HF6.out.trans HF7.out).trans (Fr.of_drewN _ _ _)
            have HFIN := Lib.hid hfin
            clear hfin
            go_wp2
            go_roundw
            case rel => exact ⟨k + 1, by omega, by omega, by go_num, HF5.out.trans HFIN.out, F5, F6, HT5.out.same HFIN.out (fun _ _ x => x), HR5.out.same HFIN.out (fun _ _ x => x), HW5.out.1, HW5.out.2⟩
            case measure => simp [intOf]; omega
          · have hk6 : ¬ k ≤ 6 := hlt
            have HF5 := Lib.hid hfr5
            clear hfr5 hr5 ht5 hF5 hF6
            go_wp2
            go_ret
            exact ⟨rfl, HF5.out⟩
    · have HNE := Lib.hid hne
      clear hne
      go_wp2_with fail
      refine HRL.out.mono ?_
      rintro e w4 ⟨hfr4, h⟩
      rcases h with ⟨hz, _⟩ | ⟨_, rfl⟩
      · exact absurd hz HNE.out
      have HJ0 : Hid (JInv w w4 A wm.heap.size vv src (fun _ => True)) := by
        refine ⟨(hR.out.1.fr.trans HF3.out).trans hfr4, hR.out.1.low, ?_, fun j hj => (((HRD.out j hj hj).2.new HF3.out).new hfr4), trivial, fun _ _ _ _ _ _ => trivial⟩
        rw [hfr4.block A (Nat.lt_of_lt_of_le hR.out.1.sizes.1 HF3.out.size) (fun x => x), HF3.out.block A hR.out.1.sizes.1 (fun x => x)]
        exact HA.out
      generalize (fun _ : World => True) = T at HJ0
      have hee : ((loadS src).1 != (loadS src).1) = false := by simp
      generalize (loadS src).1 = er at *
      clear hfr4 d0 d1 d2 d3 d4 d5 HRL HLD
      go_upto_block 4 with (fail)
      go_cut [68] (fun _ wr => Hid (JInv w wr A wm.heap.size vv src T))
      case first =>
        go_wp2_with fail
        go_loopw [68] (fun i wr => ∃ k : Nat, k ≤ 6 ∧ i = .int .i64 k ∧ Hid (JInv w wr A wm.heap.size vv src T)) (fun i _ => 6 - (intOf i).toNat)
        case atStart => exact ⟨0, by omega, rfl, HJ0⟩
        case round =>
          obtain ⟨k, hk, rfl, hJ⟩ := hrel
          by_cases hlt : k < 6
          · have hki : (k : Int) < 6 := by omega
            have hki0 : 0 ≤ (k : Int) := by omega
            have hlen := HLL.out k hlt
            unfold maxLen at hlen
            obtain ⟨ao, c, hc, _⟩ := hJ.out.cell hlt
            go_wp2
            obtain ⟨wo, rfl⟩ : ∃ wo : World, wo = wr := ⟨_, rfl⟩
            go_loopw [75] (fun i wr => ∃ j : Nat, j ≤ (src k).length ∧ i = .int .i64 j ∧ Hid (JInv w wr A wm.heap.size vv src T)) (fun i _ => (src k).length - (intOf i).toNat)
            case atStart => exact ⟨0, by omega, rfl, hJ⟩
            case round =>
              obtain ⟨j, hj, rfl, hJ2⟩ := hrel
              by_cases hjl : j < (src k).length
              · have hji : (j : Int) < (src k).length := by omega
                obtain ⟨ao2, c2, hc2, hx⟩ := hJ2.out.cell hlt
                obtain ⟨g, rfl, hg1, hg2, ⟨x0, hcx⟩, hfx⟩ := hx j hjl
                have HST := Lib.hid (hJ2.out.store (i := j) hg1 hg2 (.string ⟨#[63]⟩))
                generalize (src k).length = n at *
                clear hx
                go_wp2
                go_roundw
                case rel => exact ⟨j + 1, by omega, by go_num, HST⟩
                case measure => simp [intOf]; omega
              · have hji : ¬ (j : Int) < (src k).length := by omega
                go_wp2
                go_roundw
                case rel => exact ⟨k + 1, by omega, by go_num, hJ2⟩
                case measure => simp [intOf]; omega
          · obtain rfl : k = 6 := by omega
            go_wp2
            go_meet
            case rel => exact hJ
      case rest =>
        go_wp2_with fail
        go_loop [12] (fun i => i = .int .i64 (-1)) (fun _ => 0)
        case atStart => rfl
        case round =>
          subst hrel
          go_wp2
          go_ret
          exact ⟨rfl, hcut.out.fr⟩
end Go.Proofs.Ytcpgfcpmjalacaa
