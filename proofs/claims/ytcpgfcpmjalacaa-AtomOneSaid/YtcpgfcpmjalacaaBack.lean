/- AtomBack: the walk. -/
import Derived.Test.YtcpgfcpmjalacaaBackP
import Derived.Deep.DeepCutAuto
import Derived.Deep.CutBlock
import Derived.StillTailTactics
import Derived.Deep.RegionHeld3
namespace Go.Proofs.Ytcpgfcpmjalacaa
open Go.RowKit

theorem ActsAt.same {w w' : World} {v : Value} {l : List ActD} (h : ActsAt w v l) (hf : Fr (fun _ => False) w w') : ActsAt w' v l := by
  obtain ⟨ao, c, hv, hl, hc⟩ := h
  refine ⟨ao, c, hv, hl, fun i x hi => ?_⟩
  obtain ⟨h1, h2, g, off, h3, h4, h5, h6⟩ := hc i x hi
  have hb := hf.block g (lt_of_cell h4) (fun h => h)
  exact ⟨h1, h2, g, off, h3, (cell_of_same hb).trans h4, (cell_of_same hb).trans h5, (cell_of_same hb).trans h6⟩

theorem OInv.under {w w1 wr : World} {B : Nat} {L : Nat → List ByteArray} {F : Nat → Prop} (h : OInv w1 wr B L F) (hf : Fr (fun _ => False) w w1) : OInv w wr B L F :=
  ⟨h.tab, fun j hj => Nat.le_trans hf.size (h.low j hj), hf.trans h.fr⟩

/-- the rows of a table, copied into an array, as far as k -/
structure Rows6 (w wr : World) (A B : Nat) (L : Nat → List ByteArray) (F : Nat → Prop) (k : Nat) : Prop where
  own : OInv w wr B L F
  low : ∀ b, F b → b < A
  base : w.heap.size ≤ A
  arr : ∃ vv : Nat → Value, wr.heap[A]? = some (.cells #[vv 0, vv 1, vv 2, vv 3, vv 4, vv 5] 31 (0, 0)) ∧ ∀ j, j < k → j < 6 → Reads wr (fun g => A < g) (vv j) (allS L j)

theorem arr6 (vv : Nat → Value) {j : Nat} (hj : j < 6) : (#[vv 0, vv 1, vv 2, vv 3, vv 4, vv 5] : Array Value)[j]? = some (vv j) := by
  match j, hj with
  | 0, _ => rfl
  | 1, _ => rfl
  | 2, _ => rfl
  | 3, _ => rfl
  | 4, _ => rfl
  | 5, _ => rfl
theorem set6 (vv : Nat → Value) {j : Nat} (hj : j < 6) (u : Value) : (#[vv 0, vv 1, vv 2, vv 3, vv 4, vv 5] : Array Value).setIfInBounds j u =
    #[(if 0 = j then u else vv 0), (if 1 = j then u else vv 1), (if 2 = j then u else vv 2), (if 3 = j then u else vv 3), (if 4 = j then u else vv 4), (if 5 = j then u else vv 5)] := by
  match j, hj with
  | 0, _ => rfl
  | 1, _ => rfl
  | 2, _ => rfl
  | 3, _ => rfl
  | 4, _ => rfl
  | 5, _ => rfl

theorem Fr.over {G : Nat → Prop} {a b c : World} (h : Fr (fun _ => False) a b) (k : Fr G b c) (hG : ∀ j, G j → a.heap.size ≤ j) : Fr (fun _ => False) a c :=
  ⟨k.os.trans h.os, k.tape.trans h.tape, k.output.trans h.output, Nat.le_trans h.size k.size, fun i hi _ => (k.block i (Nat.lt_of_lt_of_le hi h.size) (fun hg => by have := hG i hg; omega)).trans (h.block i hi (fun x => x))⟩

theorem rows6_start {w wc : World} {B : Nat} {L : Nat → List ByteArray} {F : Nat → Prop} (h : OInv w wc B L F) :
    Rows6 w (wc.alloc (.cells #[.slice none 0 0, .slice none 0 0, .slice none 0 0, .slice none 0 0, .slice none 0 0, .slice none 0 0] 31)) wc.heap.size B L F 0 :=
  ⟨h.new (Fr.of_alloc _ _ _), h.tab.old, h.fr.size, fun _ => .slice none 0 0, heap_alloc_new wc _, fun j hj => by omega⟩

theorem rows6_step {w wr w' : World} {A B : Nat} {L : Nat → List ByteArray} {F : Nat → Prop} {k : Nat} {v : Value} (h : Rows6 w wr A B L F k) (hk : k < 6)
    (hrow : w'.ownsRow wr.heap.size 9 1 v (allS L k).length ((allS L k).map Value.string)) (hf : Fr (fun _ => False) wr w') :
    (∃ u, w'.cell? ⟨A, k, none⟩ = some u) ∧ w'.frozen? ⟨A, k, none⟩ = false ∧ Rows6 w (w'.setCell ⟨A, k, none⟩ v) A B L F (k + 1) := by
  obtain ⟨vv, hA, hR⟩ := h.arr
  have hAlt : A < wr.heap.size := (Array.getElem?_eq_some_iff.1 hA).1
  have hA' := (hf.block A hAlt (fun x => x)).trans hA
  refine ⟨⟨_, (cell_arr hA' k).trans (arr6 vv hk)⟩, frozen_arr hA' k, ?_⟩
  have hset : Fr (fun b => b = A) w' (w'.setCell ⟨A, k, none⟩ v) := (Fr.of_setCell _ _ _).mono (fun _ _ e => e)
  have hown := h.own.new hf
  refine ⟨⟨hown.tab.same hset (fun b hb e => by have := h.low b hb; omega), hown.low, hown.fr.over hset (fun b e => by have := h.base; omega)⟩, h.low, h.base, fun j => if j = k then v else vv j, ?_, ?_⟩
  · simp only [World.setCell, Array.getElem?_modify]
    simp [hA', set6 vv hk]
  · intro j hj hj6
    by_cases e : j = k
    · subst e
      simp only [if_true]
      exact ((Reads.of_row hrow).mono (fun g _ hg => by omega)).same hset (fun g hg e => by omega)
    · simp only [e, if_false]
      exact ((hR j (by omega) hj6).same hf (fun _ _ x => x)).same hset (fun g hg e => by omega)

theorem rows6_new {w wr w' : World} {A B : Nat} {L : Nat → List ByteArray} {F : Nat → Prop} {k : Nat} (h : Rows6 w wr A B L F k) (hf : Fr (fun _ => False) wr w') : Rows6 w w' A B L F k := by
  obtain ⟨vv, hA, hR⟩ := h.arr
  have hAlt : A < wr.heap.size := (Array.getElem?_eq_some_iff.1 hA).1
  exact ⟨h.own.new hf, h.low, h.base, vv, (hf.block A hAlt (fun x => x)).trans hA, fun j hj hj6 => (hR j hj hj6).same hf (fun _ _ x => x)⟩

/-- both tables, and the array -/
structure Back3 (w wr : World) (A B B2 : Nat) (L L' : Nat → List ByteArray) (F F2 : Nat → Prop) : Prop where
  rows : Rows6 w wr A B L F 6
  tab2 : Tab wr F2 B2 L'
  eq : ∀ k, k < 6 → L' k = allS L k

theorem back3_of {w wr : World} {A B B2 : Nat} {L L' : Nat → List ByteArray} {F F2 : Nat → Prop} (h : Rows6 w wr A B L F 6) (ht : Tab wr F2 B2 L') (he : ∀ k, k < 6 → L' k = allS L k) : Back3 w wr A B B2 L L' F F2 := ⟨h, ht, he⟩

theorem Back3.new {w wr w' : World} {A B B2 : Nat} {L L' : Nat → List ByteArray} {F F2 : Nat → Prop} (h : Back3 w wr A B B2 L L' F F2) (hf : Fr (fun _ => False) wr w') : Back3 w w' A B B2 L L' F F2 :=
  ⟨rows6_new h.rows hf, h.tab2.same hf (fun _ _ x => x), h.eq⟩

theorem Back3.cell {w wr : World} {A B B2 : Nat} {L L' : Nat → List ByteArray} {F F2 : Nat → Prop} (h : Back3 w wr A B B2 L L' F F2) {k : Nat} (hk : k < 6) :
    ∃ ao c, wr.cell? ⟨A, k, none⟩ = some (.slice ao (allS L k).length c) ∧ Reads wr (fun _ => True) (.slice ao (allS L k).length c) (allS L k) := by
  obtain ⟨vv, hA, hR⟩ := h.rows.arr
  have hr := hR k hk hk
  obtain ⟨ao, c, hv, _⟩ := hr
  have hr := hR k hk hk
  rw [hv] at hr
  exact ⟨ao, c, by rw [cell_arr hA, arr6 vv hk, hv], hr.mono (fun _ _ _ => trivial)⟩

theorem allS_few {L : Nat → List ByteArray} (h : ∀ k, (L k).length ≤ 4000) (k : Int) : (allS L k).length ≤ 4000 := by
  unfold allS; split
  · exact h _
  · simp
theorem allS_eq {L L' : Nat → List ByteArray} {k : Nat} (hk : k < 6) (he : ∀ k : Nat, k < 6 → L' k = allS L k) : allS L' (k : Int) = allS L k := by
  by_cases h : (1 : Int) ≤ k ∧ (k : Int) ≤ 5
  · have := he k hk
    unfold allS at this ⊢
    rw [if_pos h] at this ⊢
    simp only [Int.toNat_natCast] at this ⊢
    rw [if_pos h, this]
  · unfold allS; rw [if_neg h, if_neg h]

theorem same_true {w : World} {G1 G2 : Nat → Prop} {v1 v2 : Value} {l : List ByteArray} (h1 : Reads w G1 v1 l) (h2 : Reads w G2 v2 l) (hs : l.length ≤ 4000) :
    Calls Try.prog 19 #[v1, v2] w fun e w' => e = .returned (.bool true) ∧ ∃ n, w' = w.drewN n :=
  (same_any h1 h2 hs hs).mono fun _ _ h => ⟨by rw [h.1]; simp, h.2⟩

theorem back3_keep {w W w' : World} {A B B2 : Nat} {L L' : Nat → List ByteArray} {F F2 : Nat → Prop} {k : Nat} {v : Value} {l : List ByteArray}
    (hf : Hid (Fr (fun _ => False) W w')) (h : Hid (Back3 w W A B B2 L L' F F2 ∧ Reads W (fun _ => True) v l) ∧ W.cell? ⟨A, k, none⟩ = some v) :
    Hid (Back3 w w' A B B2 L L' F F2 ∧ Reads w' (fun _ => True) v l) ∧ w'.cell? ⟨A, k, none⟩ = some v := by
  obtain ⟨⟨h1, h2⟩, h3⟩ := h
  refine ⟨⟨h1.new hf, h2.same hf (fun _ _ x => x)⟩, (cell_of_same (hf.block A (lt_of_cell h3) (fun x => x))).trans h3⟩

theorem back3_all {w W : World} {A B B2 : Nat} {L L' : Nat → List ByteArray} {F F2 : Nat → Prop} {k : Nat} {v : Value} {l : List ByteArray} (hk : k < 6)
    (h : Hid (Back3 w W A B B2 L L' F F2 ∧ Reads W (fun _ => True) v l)) : Calls Try.prog 18 #[.pointer (some ⟨B2, 0, none⟩), .int .i64 k] W (NewRow W (allS L k)) := by
  have := all_any h.1.tab2 k
  rw [allS_eq hk h.1.eq] at this
  exact this
theorem back3_same {w W : World} {A B B2 : Nat} {L L' : Nat → List ByteArray} {F F2 : Nat → Prop} {v1 v2 : Value} {l : List ByteArray}
    (h1 : Hid (Reads W (fun _ => True) v1 l)) (h2 : Hid (Back3 w W A B B2 L L' F F2 ∧ Reads W (fun _ => True) v2 l)) (hs : l.length ≤ 4000) :
    Calls Try.prog 19 #[v1, v2] W fun e w' => e = .returned (.bool true) ∧ Hid (Fr (fun _ => False) W w') :=
  (same_true h1.out h2.2 hs).mono fun _ _ ⟨h, n, hn⟩ => ⟨h, by rw [hn]; exact Fr.of_drewN _ _ n⟩
theorem back3_len {w W : World} {A B B2 : Nat} {L L' : Nat → List ByteArray} {F F2 : Nat → Prop} {k : Nat} {v : Value} {l : List ByteArray} (hk : k < 6)
    (h : Hid (Back3 w W A B B2 L L' F F2 ∧ Reads W (fun _ => True) v l)) : Calls Try.prog 21 #[.pointer (some ⟨B2, 0, none⟩), .int .i64 k] W fun e w' => e = .returned (.int .i64 (allS L k).length) ∧ W = w' := by
  have := len_any h.1.tab2 k
  have e : lenS L' (k : Int) = (allS L (k : Int)).length := by
    rw [← allS_eq hk h.1.eq]; unfold lenS allS; split <;> rfl
  rw [e] at this
  exact this

theorem back3_find {w W : World} {A B B2 : Nat} {L L' : Nat → List ByteArray} {F F2 : Nat → Prop} {k j : Nat} {s : ByteArray} (h : Back3 w W A B B2 L L' F F2) (hk : k < 6) (hs : (allS L (k : Int))[j]? = some s) :
    1 ≤ k ∧ k ≤ 5 ∧ s.size ≤ maxLen ∧
    (Calls Try.prog 12 #[.pointer (some ⟨B2, 0, none⟩), .int .i64 k, .string s] W fun e w' => e = .returned (.tuple #[.int .u16 ((k : Int) * 8192 + (j + 1)), .bool true]) ∧ W = w') ∧
    (Calls Try.prog 12 #[.pointer (some ⟨B, 0, none⟩), .int .i64 k, .string s] W fun e w' => e = .returned (.tuple #[.int .u16 ((k : Int) * 8192 + (j + 1)), .bool true]) ∧ W = w') := by
  have hkk : (1 : Int) ≤ k ∧ (k : Int) ≤ 5 := by
    by_cases hc : (1 : Int) ≤ k ∧ (k : Int) ≤ 5
    · exact hc
    · unfold allS at hs; rw [if_neg hc] at hs; simp at hs
  have hL : allS L (k : Int) = L k := by unfold allS; rw [if_pos hkk]; simp
  have hL' : L' k = L k := by rw [h.eq k hk, hL]
  rw [hL] at hs
  have hgood := may_size (h.rows.own.tab.good k s (List.mem_of_getElem? hs))
  have hsz : s.size ≤ maxLen := by unfold maxLen; omega
  have hwf : (Lit.int .i64 (k : Int)).wf = true := WalkArith.wf_i64 ⟨by omega, by omega⟩
  have n1 : numS L (k : Int) s = j + 1 := by
    unfold numS; rw [if_pos hkk]; simp only [Int.toNat_natCast]; exact posOf_some (h.rows.own.tab.nodup k) hs
  have n2 : numS L' (k : Int) s = j + 1 := by
    unfold numS; rw [if_pos hkk]; simp only [Int.toNat_natCast]; rw [hL']; exact posOf_some (h.rows.own.tab.nodup k) hs
  have f1 := find_any h.tab2 (k : Int) s hwf hsz
  have f2 := find_any h.rows.own.tab (k : Int) s hwf hsz
  rw [n2] at f1
  rw [n1] at f2
  refine ⟨by omega, by omega, hsz, ?_, ?_⟩
  · simpa using f1
  · simpa using f2

/-- what the acts have made -/
def BackMid (w : World) (B : Nat) (wr : World) : Prop := ∃ L F, OInv w wr B L F

set_option maxHeartbeats 4000000 in
set_option maxRecDepth 100000 in
theorem atomBack_walk (v : Value) (w : World) (hv : ∃ l, ActsAt w v l) :
    Calls Try.prog 7 #[v] w fun e w' => e = .returned (.bool true) ∧ Fr (fun _ => False) w w' := by
  obtain ⟨l, hl⟩ := hv
  have hl' := hl
  obtain ⟨ao, c, rfl, hlm, hdum⟩ := hl'
  clear hdum
  unfold maxLen at hlm
  have HL := Lib.hid hl
  clear hl
  go_enter Try.func7, Try.ntmps7
  go_wp2_with fail
  refine (awake_any w).mono ?_
  rintro e w1 ⟨rfl, hfr⟩
  have HF1 := Lib.hid hfr
  have HL1 := Lib.hid (HL.out.same hfr)
  clear hfr
  go_wp2_with fail
  refine (large_any HL1.out).mono ?_
  rintro e w' ⟨rfl, rfl⟩
  by_cases hsh : shortB l = false
  · rw [hsh]
    go_wp2_with fail
    go_ret
    exact ⟨rfl, HF1.out⟩
  have hsh' : shortB l = true := by simpa using hsh
  have HSH := Lib.hid hsh'
  rw [hsh']
  clear hsh hsh'
  go_wp2_with fail
  refine (new_tab _).mono ?_
  rintro e w2 ⟨B, hB, rfl, hfr, htab⟩
  have H2 := Lib.hid ((OInv.start hfr htab).under HF1.out)
  clear hfr htab hB
  go_upto_block 0 with (fail)
  go_cut [4] (fun _ wr => BackMid w B wr)
  case first =>
    go_wp2_with fail
    go_loopw [4] (fun i wr => ∃ k : Nat, k ≤ l.length ∧ k ≤ 400 ∧ i = .int .i64 k ∧ ∃ L F, Hid (OInv w wr B L F)) (fun i _ => l.length - (intOf i).toNat)
    case atStart => exact ⟨0, by omega, by omega, rfl, _, _, H2⟩
    case round =>
      obtain ⟨k, hk, hk4, rfl, L, F, hinv⟩ := hrel
      by_cases hlt : k < l.length ∧ k < 400
      · obtain ⟨hlt, hlt4⟩ := hlt
        obtain ⟨x, hx⟩ : ∃ x, l[k]? = some x := ⟨_, List.getElem?_eq_getElem hlt⟩
        obtain ⟨_, _, he, _, hel⟩ := HL.out.same hinv.out.fr
        obtain ⟨hwk, hsz, g, off, hao, hc0, hc1, _⟩ := hel k x hx
        cases he
        subst hao
        have hk1 : (k : Int) < l.length := by omega
        have hk2 : (k : Int) < 400 := by omega
        have HP := Lib.hid (fun m => put_any (hinv.out.new (Fr.of_drewN _ _ m)).tab x.kind x.name hwk hsz)
        have HI := Lib.hid (fun m => (hinv.out.new (Fr.of_drewN _ _ m)))
        clear hel hx hwk hsz hinv
        go_wp2
        go_still_tail 11, (by kernel_rfl)
        go_wp2_with (go_at_call 14; refine (HP.out 1).mono ?_; rintro e w' ⟨rfl, hfr, htab⟩; have HT := Lib.hid ((HI.out 1).step hfr htab); clear hfr htab)
        go_roundw
        case rel => exact ⟨k + 1, by omega, by omega, by go_num, _, _, HT⟩
        case measure => simp [intOf]; omega
      · by_cases h1 : k < l.length
        · have h2 : ¬ (k : Int) < 400 := by omega
          have h3 : (k : Int) < l.length := by omega
          go_wp2
          go_meet
          case rel => exact ⟨L, F, hinv.out⟩
        · have h3 : ¬ (k : Int) < l.length := by omega
          go_wp2
          go_meet
          case rel => exact ⟨L, F, hinv.out⟩
  case rest =>
    obtain ⟨L, F, hI⟩ := hcut
    have HI := Lib.hid hI
    clear hI
    go_wp2
    go_loopw [43] (fun i wr => ∃ k : Nat, k ≤ 6 ∧ i = .int .i64 k ∧ Hid (Rows6 w wr wc.heap.size B L F k)) (fun i _ => 6 - (intOf i).toNat)
    case atStart => exact ⟨0, by omega, rfl, rows6_start HI.out⟩
    case round =>
      obtain ⟨k, hk, rfl, hR⟩ := hrel
      by_cases hlt : k < 6
      · have hki : (k : Int) < 6 := by omega
        have hki0 : 0 ≤ (k : Int) := by omega
        have HA := Lib.hid (all_any hR.out.own.tab k)
        go_wp2_with (go_at_call 18; refine HA.out.mono ?_; rintro e w' ⟨v, rfl, hrow, hfr⟩; obtain ⟨ao2, c2, rfl, _⟩ := Reads.of_row hrow; obtain ⟨⟨u0, hc⟩, hf, hnext⟩ := rows6_step hR.out hlt hrow hfr; have HN := Lib.hid hnext; clear hrow hfr hnext)
        go_roundw
        case rel => exact ⟨k + 1, by omega, by go_num, HN⟩
        case measure => simp [intOf]; omega
      · obtain rfl : k = 6 := by omega
        obtain ⟨vv, hA, hRd⟩ := hR.out.arr
        have c0 := (cell_arr hA 0).trans (arr6 vv (by omega))
        have c1 := (cell_arr hA 1).trans (arr6 vv (by omega))
        have c2 := (cell_arr hA 2).trans (arr6 vv (by omega))
        have c3 := (cell_arr hA 3).trans (arr6 vv (by omega))
        have c4 := (cell_arr hA 4).trans (arr6 vv (by omega))
        have c5 := (cell_arr hA 5).trans (arr6 vv (by omega))
        have HRD := Lib.hid hRd
        have HARR := Lib.hid hA
        obtain ⟨L', hl1, hl2, hl3⟩ := load_back HI.out.tab.goodL
        have HL1' := Lib.hid hl1
        have HL3' := Lib.hid hl3
        have HLD := Lib.hid (load_any (w := wr) vv (fun k => allS L k) (fun k hk => (hRd k hk hk).mono (fun _ _ _ => trivial))
          (fun k hk s hs => by
            have : s ∈ L k ∨ False := by
              unfold allS at hs; split at hs
              · exact .inl (by simpa using hs)
              · simp at hs
            rcases this with hm | hm
            · have := may_size (HI.out.tab.good k s hm); unfold maxLen; omega
            · exact hm.elim)
          (fun k hk => by
            have := HI.out.tab.few k
            show (allS L k).length ≤ _
            unfold allS maxLen; split <;> simp; omega))
        clear hRd hA hl1 hl3 hlt hk
        go_wp2_with fail
        refine HLD.out.mono ?_
        rintro e w3 ⟨hfr, h⟩
        rcases h with ⟨_, B2, F2, rfl, ht2, hlow2⟩ | ⟨hne, _⟩
        rotate_left
        · rw [HL1'.out] at hne; exact absurd rfl hne
        rw [HL1'.out] at ht2
        have HT2 := Lib.hid ht2
        have HW2 := Lib.hid hlow2
        have HR3 := Lib.hid (rows6_new hR.out hfr)
        clear hfr ht2 hlow2 c0 c1 c2 c3 c4 c5
        go_wp2
        have HB := Lib.hid (back3_of HR3.out HT2.out HL3'.out)
        clear HR3 HT2 HW2 HARR HRD HLD HL1'
        generalize hAA : wc.heap.size = A at *
        clear hAA
        go_loopw [63] (fun i wr => ∃ k : Nat, k ≤ 6 ∧ i = .int .i64 k ∧ Hid (Back3 w wr A B B2 L L' F F2)) (fun i _ => 6 - (intOf i).toNat)
        case atStart => exact ⟨0, by omega, rfl, HB⟩
        case round =>
          obtain ⟨k, hk, rfl, hR⟩ := hrel
          by_cases hlt : k < 6
          · have hki : (k : Int) < 6 := by omega
            have hki0 : 0 ≤ (k : Int) := by omega
            obtain ⟨ao3, c3, hc3, hrd3⟩ := hR.out.cell hlt
            have hS0 : Hid (Back3 w wr A B B2 L L' F F2 ∧ Reads wr (fun _ => True) (.slice ao3 (allS L k).length c3) (allS L k)) ∧ wr.cell? ⟨A, k, none⟩ = some (.slice ao3 (allS L k).length c3) := ⟨⟨hR.out, hrd3⟩, hc3⟩
            have hD0 : Hid (Fr (fun _ => False) wr wr.drew) := Fr.of_drew _ _
            have hlen : (allS L (k : Int)).length ≤ 4000 := allS_few HI.out.tab.few k
            clear hrd3 hc3
            go_upto_region 22 with (fail)
            go_cut [83] (fun b wr' => b = .bool false ∧ Hid (Back3 w wr' A B B2 L L' F F2))
            case first =>
              go_region_held3 (fun w' => Hid (Back3 w w' A B B2 L L' F F2 ∧ Reads w' (fun _ => True) (.slice ao3 (allS L k).length c3) (allS L k)) ∧ w'.cell? ⟨A, k, none⟩ = some (.slice ao3 (allS L k).length c3)) (first | assumption | exact back3_keep (by assumption) (by assumption))
                (first
                  | (go_at_call 18; refine (back3_all hlt (by assumption : Hid (Back3 w _ A B B2 L L' F F2 ∧ Reads _ (fun _ => True) (.slice ao3 (allS L k).length c3) (allS L k)) ∧ _).1).mono ?_; rintro e w' ⟨v, rfl, hrow, hfr⟩; have HROW : Hid (Reads w' (fun _ => True) v (allS L k)) := (Reads.of_row hrow).mono (fun _ _ _ => trivial); have HFR := Lib.hid hfr; clear hrow hfr)
                  | (go_at_call 19; go_must (refine (back3_same (by assumption) (by assumption : Hid (Back3 w _ A B B2 L L' F F2 ∧ Reads _ (fun _ => True) (.slice ao3 (allS L k).length c3) (allS L k)) ∧ _).1 hlen).mono ?_); rintro e w' ⟨rfl, hfr2⟩)
                  | (go_at_call 21; refine (back3_len hlt (by assumption : Hid (Back3 w _ A B B2 L L' F F2 ∧ Reads _ (fun _ => True) (.slice ao3 (allS L k).length c3) (allS L k)) ∧ _).1).mono ?_; rintro e w' ⟨rfl, rfl⟩))
              go_wp2
              go_meet
              case rel => exact ⟨rfl, (by assumption : Hid (Back3 w _ A B B2 L L' F F2 ∧ Reads _ (fun _ => True) (.slice ao3 (allS L k).length c3) (allS L k)) ∧ _).1.out.1⟩
            case rest =>
              obtain ⟨rfl, hB⟩ := hcut
              clear hS0 hD0
              obtain ⟨ao4, c4, hc4, hrd4⟩ := hB.out.cell hlt
              have HRD4 := Lib.hid hrd4
              clear hrd4
              go_wp2
              go_loop [88] (fun i => ∃ j : Nat, j ≤ (allS L (k : Int)).length ∧ i = .int .i64 j) (fun i => (allS L (k : Int)).length - (intOf i).toNat)
              case atStart => exact ⟨0, by omega, rfl⟩
              case round =>
                obtain ⟨j, hj, rfl⟩ := hrel
                by_cases hjl : j < (allS L (k : Int)).length
                · obtain ⟨s, hs⟩ : ∃ s, (allS L (k : Int))[j]? = some s := ⟨_, List.getElem?_eq_getElem hjl⟩
                  obtain ⟨ao5, c5, he5, hcell⟩ := HRD4.out
                  cases he5
                  obtain ⟨g, off, rfl, _, hc⟩ := hcell j s hs
                  obtain ⟨h1, h5, hsz, hf1, hf2⟩ := back3_find hB.out hlt hs
                  have HF1 := Lib.hid hf1
                  have HF2 := Lib.hid hf2
                  have hji : (j : Int) < (allS L (k : Int)).length := by omega
                  generalize (allS L (k : Int)).length = len at *
                  have hj4 : j + 1 ≤ 4000 := by omega
                  have hk5 : k ≤ 5 := h5
                  have hmod : Hid (((k : Int) * 8192 + (j + 1)) % 8192 = j + 1) := by show _ = _; omega
                  have HNB : Hid (∀ W, Calls Try.prog 24 #[.int .u16 ((k : Int) * 8192 + (j + 1))] W fun e w' => e = .returned (.int .i64 (j + 1)) ∧ W = w') := fun W => by
                    have := number_any ((k : Int) * 8192 + (j + 1)) W (by omega) (by omega)
                    rw [hmod.out] at this; exact this
                  clear hcell hs hf1 hf2 hmod
                  go_wp2_with fail
                  refine HF1.out.mono ?_
                  rintro e w' ⟨rfl, rfl⟩
                  go_wp2_with fail
                  refine HF2.out.mono ?_
                  rintro e w' ⟨rfl, rfl⟩
                  go_wp2_with (go_at_call 24; refine (HNB.out _).mono ?_; rintro e w' ⟨rfl, rfl⟩)
                  go_round
                  case rel => exact ⟨j + 1, by omega, by go_num⟩
                  case measure => simp [intOf]; omega
                · have hji : ¬ (j : Int) < (allS L (k : Int)).length := by omega
                  go_wp2
                  go_roundw
                  case rel => exact ⟨k + 1, by omega, by go_num, hB⟩
                  case measure => simp [intOf]; omega
          · obtain rfl : k = 6 := by omega
            go_wp2
            go_ret
            exact ⟨rfl, hR.out.rows.own.fr⟩
end Go.Proofs.Ytcpgfcpmjalacaa
