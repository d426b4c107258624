/- AtomOne: the walk. -/
import Derived.Test.YtcpgfcpmjalacaaOneP
import Derived.Maps.RangeWalk
namespace Go.Proofs.Ytcpgfcpmjalacaa
open Go.RowKit

theorem OneInv.start {w wr : World} {B : Nat} {L : Nat → List ByteArray} {F : Nat → Prop} (h : OInv w wr B L F) :
    OneInv w ((wr.alloc (.map #[] 0)).alloc (.map #[] 0)) B L F wr.heap.size (wr.heap.size + 1) := by
  have hs : (wr.alloc (.map #[] 0)).heap.size = wr.heap.size + 1 := by simp
  refine ⟨(h.new (Fr.of_alloc _ _ _)).new (Fr.of_alloc _ _ _), h.fr.size, by have := h.fr.size; omega, by omega, fun x => by have := h.tab.old _ x; omega, fun x => by have := h.tab.old _ x; omega, ⟨[], ?_, by simp⟩, ⟨[], ?_, by simp⟩⟩
  · exact (MapSt.made wr).same (heap_alloc_old _ _ (by simp))
  · have := MapSt.made (P := Try.prog) (k := 24) (wr.alloc (.map #[] 0))
    rw [hs] at this; exact this

/-- how many entries the walk over the map has still to come -/
def leftIn (w : World) (mf r : Nat) : Nat := match w.heap[mf]?, w.heap[r]? with
  | some (.map arr _), some (.mapIter _ _ seen _) => (leftOf arr seen).size
  | _, _ => 0
theorem Ranged.left {w wr : World} {B : Nat} {L : Nat → List ByteArray} {F : Nat → Prop} {mf r n : Nat} (h : Ranged w wr B L F mf r n) : leftIn wr mf r = n := by
  obtain ⟨_, _, _, _, arr, clock, seen, hm, hr, _, _, rfl⟩ := h
  simp [leftIn, hm, hr]

set_option maxHeartbeats 4000000 in
set_option maxRecDepth 100000 in
theorem atomOne_walk (v : Value) (w : World) (hv : ∃ l, ActsAt w v l) :
    Calls Try.prog 6 #[v] w fun e w' => e = .returned (.bool true) ∧ Fr (fun _ => False) w w' := by
  obtain ⟨l, hl⟩ := hv
  have hl' := hl
  obtain ⟨ao, c, rfl, hlm, hdum⟩ := hl'
  clear hdum
  unfold maxLen at hlm
  have HL := Lib.hid hl
  clear hl
  go_enter Try.func6, Try.ntmps6
  go_wp2_with fail
  refine (awake_any w).mono ?_
  rintro e w1 ⟨rfl, hfr⟩
  have HF1 := Lib.hid hfr
  have HL1 := Lib.hid (HL.out.same hfr)
  clear hfr
  go_wp2_with fail
  refine (large_any HL1.out).mono ?_
  rintro e w' ⟨rfl, rfl⟩
  by_cases hsh : shortB l = false
  · rw [hsh]
    go_wp2_with fail
    go_ret
    exact ⟨rfl, HF1.out⟩
  have hsh' : shortB l = true := by simpa using hsh
  have HSH := Lib.hid hsh'
  rw [hsh']
  clear hsh hsh'
  go_wp2_with fail
  refine (new_tab _).mono ?_
  rintro e w2 ⟨B, hB, rfl, hfr, htab⟩
  have H2 := Lib.hid ((OInv.start hfr htab).under HF1.out)
  clear hfr htab hB
  have hmm := @run_makeMap Try.prog
  go_upto_block 0 with (fail)
  clear hmm
  have HS := Lib.hid (OneInv.start H2.out)
  generalize w2.heap.size + 1 = mf at *
  generalize w2.heap.size = mo at *
  generalize (w2.alloc (.map #[] 0)).alloc (.map #[] 0) = w3 at *
  clear H2
  go_cut [6] (fun _ wr => Hid (∃ L F, OneInv w wr B L F mo mf))
  case first =>
    go_wp2_with fail
    go_loopw [6] (fun i wr => ∃ k : Nat, k ≤ l.length ∧ k ≤ 400 ∧ i = .int .i64 k ∧ Hid (∃ L F, OneInv w wr B L F mo mf)) (fun i _ => l.length - (intOf i).toNat)
    case atStart => exact ⟨0, by omega, by omega, rfl, _, _, HS.out⟩
    case round =>
      obtain ⟨k, hk, hk4, rfl, hR⟩ := hrel
      by_cases hlt : k < l.length ∧ k < 400
      · obtain ⟨hlt, hlt4⟩ := hlt
        obtain ⟨x, hx⟩ : ∃ x, l[k]? = some x := ⟨_, List.getElem?_eq_getElem hlt⟩
        obtain ⟨L, F, hb⟩ := hR.out
        obtain ⟨_, _, he, _, hel⟩ := HL.out.same hb.own.fr
        obtain ⟨hwk, hsz, g, off, hao, hc0, hc1, hc2⟩ := hel k x hx
        cases he
        subst hao
        have hk1 : (k : Int) < l.length := by omega
        have hk2 : (k : Int) < 400 := by omega
        have HBB := Lib.hid hb
        have HWK := Lib.hid hwk
        have HSZ := Lib.hid hsz
        clear hel hx hwk hsz hb hR
        go_wp2_with fail
        have HBA := Lib.hid (HBB.out.new (Fr.of_alloc (fun _ => False) wr (.cells #[.int .i64 x.kind, .string x.name, .bool x.find] 35)))
        have HX := Lib.hid (heap_alloc_new wr (.cells #[.int .i64 x.kind, .string x.name, .bool x.find] 35))
        have hXF : Hid (¬ F wr.heap.size) := fun h => by have := HBB.out.own.tab.old _ h; omega
        have hXs : Hid (wr.heap.size < (wr.alloc (.cells #[.int .i64 x.kind, .string x.name, .bool x.find] 35)).heap.size) := by show _ < _; simp
        have hXm : Hid (wr.heap.size ≠ mo ∧ wr.heap.size ≠ mf) := by
          obtain ⟨_, h1, _⟩ := HBB.out.of
          obtain ⟨_, h2, _⟩ := HBB.out.from'
          have := h1.lt; have := h2.lt
          exact ⟨by omega, by omega⟩
        clear hc0 hc1 hc2 HBB
        generalize wr.alloc (.cells #[.int .i64 x.kind, .string x.name, .bool x.find] 35) = wa at *
        generalize wr.heap.size = X at *
        refine (put_any HBA.out.own.tab x.kind x.name HWK.out HSZ.out).mono ?_
        rintro e w4 ⟨rfl, hfr4, ht4⟩
        have HB4 := Lib.hid (HBA.out.put hfr4 ht4)
        have HX4 := Lib.hid ((hfr4.block X hXs.out hXF.out).trans HX.out)
        clear hfr4 ht4 HX hXF hXs HBA
        by_cases hpe : putE L x.kind x.name = 0
        rotate_left
        · have hpa : putA L x.kind x.name = 0 := by simp [putA, hpe]
          rw [hpa]
          have he1 : (putE L x.kind x.name == 0) = false := by simpa using hpe
          have he2 : (putE L x.kind x.name != 0) = true := by simpa using hpe
          generalize putE L x.kind x.name = pe at *
          generalize putL L x.kind x.name = L' at *
          clear hpe hpa
          go_wp2
          go_roundw
          case rel => exact ⟨k + 1, by omega, by omega, by go_num, _, _, HB4.out⟩
          case measure => simp [intOf]; omega
        · obtain ⟨hnum, hpa⟩ := putA_num hpe
          have hkk := putE_kind hpe
          obtain ⟨b1, b2, i0, ei, gi⟩ := numS_spec hnum
          have li := (List.getElem?_eq_some_iff.1 gi).1
          have hfew := HB4.out.own.tab.few x.kind.toNat
          obtain ⟨a, hA⟩ : ∃ a, a = x.kind * 8192 + (numS (putL L x.kind x.name) x.kind x.name : Int) := ⟨_, rfl⟩
          have ha0 : 0 ≤ a := by omega
          have ha1 : a ≤ 65535 := by omega
          have ha2 : (a == 1) = false := by simp; omega
          have ha3 : a / 8192 = x.kind := by omega
          have HKD : Hid (∀ W, Calls Try.prog 22 #[.int .u16 a] W fun e w' => e = .returned (.int .i64 x.kind) ∧ W = w') := fun W => by
            have := kind_any a W ha0 ha1
            rw [ha3] at this; exact this
          rw [hpe, hpa, ← hA]
          have HA := Lib.hid hA
          have HNUM := Lib.hid hnum
          generalize putL L x.kind x.name = L' at *
          generalize grown F wa w4 = F' at *
          clear hpe hpa hkk b1 b2 i0 ei gi li hfew ha0 ha1 ha3 hA hnum
          have c0 := cell_arr HX4.out 0
          have c1 := cell_arr HX4.out 1
          go_upto_region 17 with (fail)
          have HB5 := Lib.hid (HB4.out.new (Fr.of_alloc (fun _ => False) w4 (.cells #[.int .i64 x.kind, .string x.name] 57)))
          have HK5 := Lib.hid (heap_alloc_new w4 (.cells #[.int .i64 x.kind, .string x.name] 57))
          have HX5 := Lib.hid ((heap_alloc_old w4 (.cells #[.int .i64 x.kind, .string x.name] 57) (Array.getElem?_eq_some_iff.1 HX4.out).1).trans HX4.out)
          have hKm : Hid (w4.heap.size ≠ mo ∧ w4.heap.size ≠ mf) := by
            obtain ⟨_, h1, _⟩ := HB4.out.of
            obtain ⟨_, h2, _⟩ := HB4.out.from'
            have := h1.lt; have := h2.lt
            exact ⟨by omega, by omega⟩
          clear c0 c1 HX4 HB4
          generalize w4.alloc (.cells #[.int .i64 x.kind, .string x.name] 57) = w5 at *
          generalize w4.heap.size = K0 at *
          obtain ⟨o, hb1, hrun1, hcase1⟩ := HB5.out.look_of HNUM.out
          obtain ⟨k2, s2, hb2, hrun2, hcase2⟩ := HB5.out.look_from HNUM.out
          rw [← HA.out] at hcase1 hrun2
          have c0 := cell_arr HK5.out 0
          have c1 := cell_arr HK5.out 1
          have hlt0 : K0 < w5.heap.size := (Array.getElem?_eq_some_iff.1 HK5.out).1
          have HB6 := Lib.hid (HB5.out.new (Fr.of_alloc (fun _ => False) w5 (.cells #[.int .i64 k2, .string s2] 57)))
          have HK6 := Lib.hid ((heap_alloc_old w5 (.cells #[.int .i64 k2, .string s2] 57) (Array.getElem?_eq_some_iff.1 HK5.out).1).trans HK5.out)
          have HX6 := Lib.hid ((heap_alloc_old w5 (.cells #[.int .i64 k2, .string s2] 57) (Array.getElem?_eq_some_iff.1 HX5.out).1).trans HX5.out)
          rcases hcase1 with rfl | ⟨rfl, ho⟩ <;> rcases hcase2 with rfl | ⟨rfl, rfl, rfl⟩
          all_goals first | rw [← HA.out] at ho | skip
          all_goals try subst o
          all_goals go_upto_region 23 with (fail)
          all_goals
            clear hlt0 c0 c1
            first | clear hrun1 hrun2 | skip
            generalize (w5.alloc _) = w6 at *
            obtain ⟨ob1, hr1, hb7⟩ := HB6.out.tell_of HNUM.out
            rw [← HA.out] at hr1
            have HB7 := Lib.hid hb7
            obtain ⟨ob2, hr2, hb8⟩ := HB7.out.tell_from HNUM.out
            rw [← HA.out] at hr2
            have HB8 := Lib.hid hb8
            have HK7 := Lib.hid ((setObjAt_other (o := ob1) hKm.out.1).trans HK6.out)
            have HX8 := Lib.hid (((setObjAt_other (w := setObjAt w6 mo ob1) (o := ob2) hXm.out.2).trans (setObjAt_other (o := ob1) hXm.out.1)).trans HX6.out)
            have c0 := cell_arr HK6.out 0
            have c1 := cell_arr HK6.out 1
            have d0 := cell_arr HK7.out 0
            have d1 := cell_arr HK7.out 1
            clear hb7 hb8
            go_upto_region 25 with (first | (at_mapUpdate; refine wpList_put_run _ rfl _ _ _ _ rfl hr1 rfl rfl rfl ?_) | (at_mapUpdate; refine wpList_put_run _ rfl _ _ _ _ rfl hr2 rfl rfl rfl ?_))
            clear c0 c1 d0 d1 hr1 hr2
            have c0 := cell_arr HX8.out 0
            have c1 := cell_arr HX8.out 1
            generalize setObjAt (setObjAt w6 mo ob1) mf ob2 = w8 at *
            clear HK5 HX5 HK6 HX6 HK7 HX8 HB5 HB6 HB7
            go_frame
            go_quiet (first | (go_at_call 22; exact quiet_sw (HKD.out _)))
            have HB9 := Lib.hid (HB8.out.new (Fr.of_drewN (fun _ => False) w8 nq))
            go_wp2
            go_roundw
            case rel => exact ⟨k + 1, by omega, by omega, by go_num, _, _, HB9.out⟩
            case measure => simp [intOf]; omega
      · by_cases h1 : k < l.length
        · have h2 : ¬ (k : Int) < 400 := by omega
          have h3 : (k : Int) < l.length := by omega
          go_wp2
          go_meet
          case rel => exact hR
        · have h3 : ¬ (k : Int) < l.length := by omega
          go_wp2
          go_meet
          case rel => exact hR
  case rest =>
    obtain ⟨L, F, hb⟩ := hcut
    have HBB := Lib.hid hb
    clear hb
    obtain ⟨w5, n, hrg, hR⟩ := HBB.out.range
    have HR := Lib.hid hR
    clear hR
    go_wp2_with (at_range; refine wpList_range_run _ rfl _ _ rfl hrg rfl ?_)
    go_frame
    generalize wc.heap.size = r at *
    clear hrg HBB
    go_loopw [15, 16, 17, 18, 19, 20] (fun _ _ _ _ _ _ wr => ∃ m, Hid (Ranged w wr B L F mf r m)) (fun _ _ _ _ _ _ wr => leftIn wr mf r)
    case atStart => exact ⟨n, HR⟩
    case round =>
      obtain ⟨m, hR⟩ := hrel
      rcases hR.out.next 0 with ⟨rfl, hrun⟩ | ⟨k, s, w6, n', hn, hrun, hen, hlt, hR6⟩
      · go_wp2_with (at_next; refine wpList_next_run _ rfl _ rfl hrun rfl ?_)
        go_ret
        exact ⟨rfl, hR.out.1.fr⟩
      · have HM := Lib.hid hR.out.left
        have HR6 := Lib.hid hR6
        have HN := Lib.hid hn
        clear hR6 hR hn
        go_upto_region 30 with (at_next; refine wpList_next_run _ rfl _ rfl hrun rfl ?_)
        clear hrun hen
        have HR7 := Lib.hid (HR6.out.new (Fr.of_alloc (fun _ => False) w6 (.cells #[.int .i64 k, .string s] 57)))
        have HX := Lib.hid (heap_alloc_new w6 (.cells #[.int .i64 k, .string s] 57))
        clear HR6
        generalize w6.alloc (.cells #[.int .i64 k, .string s] 57) = w7 at *
        generalize w6.heap.size = X at *
        go_wp2_with fail
        refine (one_name HR7.out.1.tab HN.out).mono ?_
        rintro e w8 ⟨rfl, hf8⟩
        have HR8 := Lib.hid (HR7.out.new hf8)
        have HX8 := Lib.hid ((hf8.block X (Array.getElem?_eq_some_iff.1 HX.out).1 (fun x => x)).trans HX.out)
        clear hf8 HX HR7
        have c0 := cell_arr HX8.out 0
        have c1 := cell_arr HX8.out 1
        go_wp2_with fail
        refine (one_find HR8.out.1.tab HN.out).mono ?_
        rintro e w9 ⟨rfl, rfl⟩
        have hst : (s.toList != s.toList) = false := by simp
        have hat : (k * 8192 + (numS L k s : Int) != k * 8192 + (numS L k s : Int)) = false := by simp
        generalize k * 8192 + (numS L k s : Int) = a at *
        go_wp2
        go_roundw
        case rel => exact ⟨_, HR8⟩
        case measure => rw [HR8.out.left, HM.out]; exact hlt
end Go.Proofs.Ytcpgfcpmjalacaa
