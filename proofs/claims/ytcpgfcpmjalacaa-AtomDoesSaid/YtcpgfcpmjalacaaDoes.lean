/- AtomDoes: the walk. -/
import Derived.Test.YtcpgfcpmjalacaaLoadsW
namespace Go.Proofs.Ytcpgfcpmjalacaa
open Go.RowKit

/-- both tables, with the same names, apart from each other -/
structure Both (w wr : World) (B B2 : Nat) (L L2 : Nat → List ByteArray) (F F2 : Nat → Prop) : Prop where
  one : OInv w wr B L F
  two : RTab wr F2 B2 L2
  low2 : ∀ b, F2 b → w.heap.size ≤ b
  apart : ∀ b, F b → F2 b → False

theorem Both.new {w wr w' : World} {B B2 : Nat} {L L2 : Nat → List ByteArray} {F F2 : Nat → Prop} (h : Both w wr B B2 L L2 F F2) (hf : Fr (fun _ => False) wr w') : Both w w' B B2 L L2 F F2 :=
  ⟨h.one.new hf, h.two.same hf (fun _ _ x => x), h.low2, h.apart⟩

theorem Both.put1 {w wr w' : World} {B B2 : Nat} {L L2 L' : Nat → List ByteArray} {F F2 : Nat → Prop} (h : Both w wr B B2 L L2 F F2) (hf : Fr F wr w') (ht : Tab w' (grown F wr w') B L') : Both w w' B B2 L' L2 (grown F wr w') F2 := by
  refine ⟨h.one.step hf ht, h.two.same hf (fun b h2 h1 => h.apart b h1 h2), h.low2, fun b h1 h2 => ?_⟩
  rcases h1 with h1 | h1
  · exact h.apart b h1 h2
  · have := h.two.old b h2; omega

theorem Both.put2 {w wr w' : World} {B B2 : Nat} {L L2 L' : Nat → List ByteArray} {F F2 : Nat → Prop} (h : Both w wr B B2 L L2 F F2) (hf : Fr F2 wr w') (ht : RTab w' (grown F2 wr w') B2 L') : Both w w' B B2 L L' F (grown F2 wr w') := by
  refine ⟨⟨h.one.tab.same hf (fun b h1 h2 => h.apart b h1 h2), h.one.low, h.one.fr.over hf h.low2⟩, ht, fun b hb => ?_, fun b h1 h2 => ?_⟩
  · rcases hb with hb | hb
    · exact h.low2 b hb
    · have := h.one.fr.size; omega
  · rcases h2 with h2 | h2
    · exact h.apart b h1 h2
    · have := h.one.tab.old b h1; omega

theorem Both.write {w wr : World} {B B2 : Nat} {L L2 : Nat → List ByteArray} {F F2 : Nat → Prop} (h : Both w wr B B2 L L2 F F2) {g i : Nat} (h1 : ¬ F g) (h2 : ¬ F2 g) (hw : w.heap.size ≤ g) (u : Value) :
    Both w (wr.setCell ⟨g, i, none⟩ u) B B2 L L2 F F2 := by
  have hs : Fr (fun b => b = g) wr (wr.setCell ⟨g, i, none⟩ u) := (Fr.of_setCell _ _ _).mono (fun _ _ e => e)
  exact ⟨⟨h.one.tab.same hs (fun b hb e => h1 (e ▸ hb)), h.one.low, h.one.fr.over hs (fun b e => by omega)⟩, h.two.same hs (fun b hb e => h2 (e ▸ hb)), h.low2, h.apart⟩

theorem putA_bound (L : Nat → List ByteArray) (h : ∀ k, (L k).length ≤ 4000) (kind : Int) (s : ByteArray) : 0 ≤ putA L kind s ∧ putA L kind s ≤ 65535 := by
  unfold putA
  split
  · rename_i he
    have hk : 1 ≤ kind ∧ kind ≤ 5 := by
      unfold putE at he
      split at he
      · omega
      · rename_i hh; exact Classical.not_not.1 hh
    have hl := h kind.toNat
    have hn : numS L kind s ≤ 4000 := by
      unfold numS; split
      · exact Nat.le_trans posOf_le (h _)
      · omega
    split <;> omega
  · omega

theorem find_found {w : World} {F : Nat → Prop} {B : Nat} {L : Nat → List ByteArray} (h : Tab w F B L) (kind : Int) (s : ByteArray) (hk : (Lit.int .i64 kind).wf = true) (hs : s.size ≤ maxLen) :
    Calls Try.prog 12 #[.pointer (some ⟨B, 0, none⟩), .int .i64 kind, .string s] w fun e w' => e = .returned (foundV kind (numS L kind s)) ∧ w = w' := find_any h kind s hk hs

set_option maxHeartbeats 4000000 in
set_option maxRecDepth 100000 in
theorem atomDoes_walk (v : Value) (w : World) (hv : ∃ l, ActsAt w v l) (a : Int) (wa : (Lit.int .u16 a).wf = true) (kind : Int) (wk : (Lit.int .i64 kind).wf = true) :
    Calls Try.prog 3 #[v, .int .u16 a, .int .i64 kind] w fun e w' => e = .returned (.bool true) ∧ Fr (fun _ => False) w w' := by
  obtain ⟨l, hl⟩ := hv
  have hl' := hl
  obtain ⟨ao, c, rfl, hlm, hdum⟩ := hl'
  clear hdum
  unfold maxLen at hlm
  have h01 : 0 ≤ a ∧ a ≤ 65535 := by simp [Lit.wf, IntKind.min, IntKind.max, IntKind.signed, IntKind.bits] at wa; exact wa
  obtain ⟨ha0, ha1⟩ := h01
  have WK := Lib.hid wk
  have HL := Lib.hid hl
  clear hl wk wa
  go_enter Try.func3, Try.ntmps3
  go_wp2_with fail
  refine (awake_any w).mono ?_
  rintro e w1 ⟨rfl, hfr⟩
  have HF1 := Lib.hid hfr
  have HL1 := Lib.hid (HL.out.same hfr)
  clear hfr
  go_wp2_with fail
  refine (large_any HL1.out).mono ?_
  rintro e w' ⟨rfl, rfl⟩
  by_cases hsh : shortB l = false
  · rw [hsh]
    go_wp2_with fail
    go_ret
    exact ⟨rfl, HF1.out⟩
  have hsh' : shortB l = true := by simpa using hsh
  have HSH := Lib.hid hsh'
  rw [hsh']
  clear hsh hsh'
  go_wp2_with fail
  refine (new_tab _).mono ?_
  rintro e w2 ⟨B, hB, rfl, hfr, htab⟩
  have H2 := Lib.hid ((OInv.start hfr htab).under HF1.out)
  clear hfr htab hB
  go_upto_block 0 with (fail)
  have HB : Hid (∃ F2, Both w (w2.alloc (.cells #[.slice none 0 0, .slice none 0 0, .slice none 0 0, .slice none 0 0, .slice none 0 0, .slice none 0 0] 33)) B w2.heap.size noL noL (grown (fun _ => False) w1 w2) F2) := by
    refine ⟨fun b => b = w2.heap.size, H2.out.new (Fr.of_alloc _ _ _), ⟨fun b hb => by subst hb; simp, rfl, #[.slice none 0 0, .slice none 0 0, .slice none 0 0, .slice none 0 0, .slice none 0 0, .slice none 0 0], fun _ => .slice none 0 0, hp1 w2 _, rfl, ?_⟩, fun b hb => by subst hb; exact H2.out.fr.size, fun b h1 h2 => by subst h2; have := H2.out.tab.old _ h1; omega⟩
    intro k hk
    refine ⟨?_, none, 0, rfl, fun i s hi => by simp [noL] at hi⟩
    match k, hk with
    | 0, _ => rfl
    | 1, _ => rfl
    | 2, _ => rfl
    | 3, _ => rfl
    | 4, _ => rfl
    | 5, _ => rfl
  generalize w2.heap.size = B2 at *
  go_cut [9] (fun _ wr => Hid (∃ L F F2, Both w wr B B2 L L F F2))
  case first =>
    go_wp2_with fail
    go_loopw [9] (fun i wr => ∃ k : Nat, k ≤ l.length ∧ k ≤ 400 ∧ i = .int .i64 k ∧ Hid (∃ L F F2, Both w wr B B2 L L F F2)) (fun i _ => l.length - (intOf i).toNat)
    case atStart => exact ⟨0, by omega, by omega, rfl, by obtain ⟨F2, h⟩ := HB.out; exact ⟨_, _, _, h⟩⟩
    case round =>
      obtain ⟨k, hk, hk4, rfl, hR⟩ := hrel
      by_cases hlt : k < l.length ∧ k < 400
      · obtain ⟨hlt, hlt4⟩ := hlt
        obtain ⟨x, hx⟩ : ∃ x, l[k]? = some x := ⟨_, List.getElem?_eq_getElem hlt⟩
        obtain ⟨L, F, F2, hb⟩ := hR.out
        obtain ⟨_, _, he, _, hel⟩ := HL.out.same hb.one.fr
        obtain ⟨hwk, hsz, g, off, hao, hc0, hc1, hc2⟩ := hel k x hx
        cases he
        subst hao
        have hk1 : (k : Int) < l.length := by omega
        have hk2 : (k : Int) < 400 := by omega
        have HBB := Lib.hid hb
        have HWK := Lib.hid hwk
        have HSZ := Lib.hid hsz
        clear hel hx hwk hsz hb hR
        go_wp2_with fail
        have HBA := Lib.hid (HBB.out.new (Fr.of_alloc (fun _ => False) wr (.cells #[.int .i64 x.kind, .string x.name, .bool x.find] 35)))
        have hX := heap_alloc_new wr (.cells #[.int .i64 x.kind, .string x.name, .bool x.find] 35)
        have hXF : Hid (¬ F wr.heap.size ∧ ¬ F2 wr.heap.size) := ⟨fun h => by have := HBB.out.one.tab.old _ h; omega, fun h => by have := HBB.out.two.old _ h; omega⟩
        have hXs : Hid (wr.heap.size < (wr.alloc (.cells #[.int .i64 x.kind, .string x.name, .bool x.find] 35)).heap.size) := by show _ < _; simp
        have HX := Lib.hid hX
        clear hX hc0 hc1 hc2 HBB
        generalize wr.alloc (.cells #[.int .i64 x.kind, .string x.name, .bool x.find] 35) = wa at *
        generalize wr.heap.size = X at *
        have hx0 : wa.cell? ⟨X, 0, none⟩ = some (.int .i64 x.kind) := cell_arr HX.out 0
        have hx1 : wa.cell? ⟨X, 1, none⟩ = some (.string x.name) := cell_arr HX.out 1
        have hx2 : wa.cell? ⟨X, 2, none⟩ = some (.bool x.find) := cell_arr HX.out 2
        obtain ⟨fa, fb, hfv⟩ : ∃ (fa : Int) (fb : Bool), foundV x.kind (numS L x.kind x.name) = .tuple #[.int .u16 fa, .bool fb] := ⟨_, _, rfl⟩
        refine (find_found HBA.out.one.tab x.kind x.name HWK.out HSZ.out).mono ?_
        rintro e w' ⟨rfl, rfl⟩
        rw [hfv]
        go_wp2_with fail
        refine (rfind_any HBA.out.two HBA.out.one.tab.few x.kind x.name).mono ?_
        rintro e w' ⟨rfl, rfl⟩
        rw [hfv]
        clear hfv
        go_upto_if 78 with (fail)
        go_cut [9] (fun i wr' => i = .int .i64 k ∧ Hid (∃ L F F2, Both w wr' B B2 L L F F2))
        case first =>
          cases hfind : x.find
          · rw [hfind] at hx2
            go_wp2_with fail
            refine (put_any HBA.out.one.tab x.kind x.name HWK.out HSZ.out).mono ?_
            rintro e w3 ⟨rfl, hfr3, ht3⟩
            have HB3 := Lib.hid (HBA.out.put1 hfr3 ht3)
            have hX3 := (hfr3.block X hXs.out hXF.out.1).trans HX.out
            have hy0 : w3.cell? ⟨X, 0, none⟩ = some (.int .i64 x.kind) := cell_arr hX3 0
            have hy1 : w3.cell? ⟨X, 1, none⟩ = some (.string x.name) := cell_arr hX3 1
            obtain ⟨hb0, hb1⟩ := putA_bound L HBA.out.one.tab.few x.kind x.name
            clear hfr3 ht3 hX3
            go_wp2_with fail
            refine (rput_any HB3.out.two HBA.out.one.tab.few x.kind x.name HSZ.out).mono ?_
            rintro e w4 ⟨rfl, hfr4, ht4⟩
            have HB4 := Lib.hid (HB3.out.put2 hfr4 ht4)
            clear hfr4 ht4 hy0 hy1
            generalize putA L x.kind x.name = pa at *
            generalize putE L x.kind x.name = pe at *
            generalize putL L x.kind x.name = L' at *
            go_wp2_with fail
            refine (name_any HB4.out.one.tab pa hb0 hb1).mono ?_
            rintro e w5 ⟨rfl, q5, rfl⟩
            have HB5 := Lib.hid (HB4.out.new (Fr.of_drewN (fun _ => False) _ q5))
            generalize w4.drewN q5 = w5 at *
            have hnm : nameV (nameOf L' pa) = .tuple #[.string ((nameOf L' pa).getD ⟨#[]⟩), .bool (nameOf L' pa).isSome] := rfl
            have HNM := Lib.hid hnm
            clear hnm
            rw [HNM.out]
            go_wp2_with fail
            refine (rname_any HB5.out.two HB5.out.one.tab.few pa hb0 hb1).mono ?_
            rintro e w6 ⟨rfl, rfl⟩
            rw [HNM.out]
            generalize (nameOf L' pa).getD ⟨#[]⟩ = ns
            generalize (nameOf L' pa).isSome = nb
            go_wp2
            go_meet
            case rel => exact ⟨rfl, _, _, _, HB5.out⟩
          · rw [hfind] at hx2
            go_wp2
            go_meet
            case rel => exact ⟨rfl, _, _, _, HBA.out⟩
        case rest =>
          obtain ⟨rfl, L5, F5, F6, hb5⟩ := hcut
          have HB5 := Lib.hid hb5
          have hl4 := allS_few hb5.one.tab.few kind
          have hle : lenS L5 kind = (allS L5 kind).length := by unfold lenS allS; split <;> rfl
          have HLE := Lib.hid hle
          obtain ⟨lo, hlo⟩ : ∃ lo, lo = wc.heap.size := ⟨_, rfl⟩
          have HLO : Hid (w.heap.size ≤ lo ∧ (∀ b, F5 b → b < lo) ∧ ∀ b, F6 b → b < lo) := by
            rw [hlo]; exact ⟨hb5.one.fr.size, hb5.one.tab.old, hb5.two.old⟩
          have HLOE := Lib.hid hlo
          clear hb5 hle hlo
          go_wp2_with fail
          refine (all_any HB5.out.one.tab kind).mono ?_
          rintro e w6 ⟨v6, rfl, hrow6, hfr6⟩
          have HRW6 := Lib.hid (Reads.of_row hrow6)
          have hsh := Shape.of_row hrow6
          rw [← HLOE.out] at hsh
          obtain ⟨ao6, c6, rfl⟩ := own_slice hrow6
          have HSHP := Lib.hid hsh
          have HB6 := Lib.hid (HB5.out.new hfr6)
          clear hrow6 hfr6 hsh
          go_wp2_with fail
          refine (rall_any HB6.out.two HB6.out.one.tab.few kind).mono ?_
          rintro e w7 ⟨v7, rfl, hrow7, hfr7⟩
          have HRW7 := Lib.hid (Reads.of_row hrow7)
          have HRW8 := Lib.hid (HRW6.out.same hfr7 (fun _ _ x => x))
          have HB7 := Lib.hid (HB6.out.new hfr7)
          have HSHQ := Lib.hid (HSHP.out.new hfr7)
          clear hrow7 hfr7
          go_wp2_with fail
          refine (same_true HRW8.out HRW7.out hl4).mono ?_
          rintro e w8 ⟨rfl, n8, rfl⟩
          have HB8 := Lib.hid (HB7.out.new (Fr.of_drewN (fun _ => False) _ n8))
          have HSHR := Lib.hid (HSHQ.out.new (Fr.of_drewN (fun _ => False) _ n8))
          generalize w7.drewN n8 = w8 at *
          clear HRW6 HRW7 HRW8
          go_wp2_with fail
          refine (len_any HB8.out.one.tab kind).mono ?_
          rintro e w' ⟨rfl, rfl⟩
          rw [HLE.out]
          generalize (allS L5 kind).length = n at *
          go_wp2
          go_loopw [144] (fun i wr => ∃ j : Nat, j ≤ n ∧ i = .int .i64 j ∧ Hid (Both w wr B B2 L5 L5 F5 F6 ∧ Shape wr lo w6.heap.size (.slice ao6 n c6) n)) (fun i _ => n - (intOf i).toNat)
          case atStart => exact ⟨0, by omega, rfl, HB8.out, HSHR.out⟩
          case round =>
            obtain ⟨j, hj, rfl, hR⟩ := hrel
            by_cases hjl : j < n
            · have hji : (j : Int) < n := by omega
              obtain ⟨ao9, c9, he9, hx9⟩ := hR.out.2
              cases he9
              obtain ⟨g9, rfl, hg1, hg2, cur, hcur, hjc⟩ := hx9 j hjl
              have hcx : w8.heap.size = w8.heap.size := rfl
              clear hcx
              have hcell := (cell_arr hcur j).trans (Array.getElem?_eq_getElem hjc)
              generalize cur[j] = old at hcell
              have hfz := frozen_arr hcur j
              have HST : Hid (Both w _ B B2 L5 L5 F5 F6 ∧ Shape _ lo w6.heap.size (.slice (some ⟨g9, 0, none⟩) n c6) n) :=
                ⟨hR.out.1.write (i := j) (fun h => by have := HLO.out.2.1 _ h; omega) (fun h => by have := HLO.out.2.2 _ h; omega) (Nat.le_trans HLO.out.1 hg1) (.string ⟨#[63]⟩), hR.out.2.set ⟨g9, j, none⟩ (.string ⟨#[63]⟩)⟩
              clear hx9 hcur hjc hR
              go_wp2
              go_roundw
              case rel => exact ⟨j + 1, by omega, by go_num, HST⟩
              case measure => simp [intOf]; omega
            · have hji : ¬ (j : Int) < n := by omega
              go_wp2
              go_roundw
              case rel => exact ⟨k + 1, by omega, by omega, by go_num, _, _, _, hR.out.1⟩
              case measure => simp [intOf]; omega
      · by_cases h1 : k < l.length
        · have h2 : ¬ (k : Int) < 400 := by omega
          have h3 : (k : Int) < l.length := by omega
          go_wp2
          go_meet
          case rel => exact hR
        · have h3 : ¬ (k : Int) < l.length := by omega
          go_wp2
          go_meet
          case rel => exact hR
  case rest =>
    obtain ⟨L, F, F2, hb⟩ := hcut
    have HBB := Lib.hid hb
    clear hb
    go_wp2_with fail
    refine (name_any HBB.out.one.tab a ha0 ha1).mono ?_
    rintro e w5 ⟨rfl, q5, rfl⟩
    have HB5 := Lib.hid (HBB.out.new (Fr.of_drewN (fun _ => False) _ q5))
    generalize wc.drewN q5 = w5 at *
    have hnm : nameV (nameOf L a) = .tuple #[.string ((nameOf L a).getD ⟨#[]⟩), .bool (nameOf L a).isSome] := rfl
    have HNM := Lib.hid hnm
    clear hnm
    rw [HNM.out]
    go_wp2_with fail
    refine (rname_any HB5.out.two HB5.out.one.tab.few a ha0 ha1).mono ?_
    rintro e w6 ⟨rfl, rfl⟩
    rw [HNM.out]
    generalize (nameOf L a).getD ⟨#[]⟩ = ns
    generalize (nameOf L a).isSome = nb
    have hst : (ns.toList == ns.toList) = true := by simp
    go_wp2_with fail
    refine (kind_any a _ ha0 ha1).mono ?_
    rintro e w' ⟨rfl, rfl⟩
    go_wp2_with fail
    refine (rkind_any a _ ha0 ha1).mono ?_
    rintro e w' ⟨rfl, rfl⟩
    have hk : (a / 8192 == a / 8192) = true := by simp
    go_wp2_with fail
    refine (number_any a _ ha0 ha1).mono ?_
    rintro e w' ⟨rfl, rfl⟩
    go_wp2_with fail
    refine (rnumber_any a _ ha0 ha1).mono ?_
    rintro e w' ⟨rfl, rfl⟩
    have hk2 : (a % 8192 == a % 8192) = true := by simp
    go_wp2_with fail
    go_ret
    exact ⟨rfl, HB5.out.one.fr⟩
end Go.Proofs.Ytcpgfcpmjalacaa
