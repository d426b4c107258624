/- Load of atom's tables. -/
import Derived.Test.YtcpgfcpmjalacaaAll
namespace Go.Proofs.Ytcpgfcpmjalacaa
open Go.RowKit

/-- the slice v holds the strings l, in a block of G -/
def Reads (w : World) (G : Nat → Prop) (v : Value) (l : List ByteArray) : Prop :=
  ∃ ao c, v = .slice ao l.length c ∧ ∀ i s, l[i]? = some s → ∃ g off, ao = some ⟨g, off, none⟩ ∧ G g ∧ w.cell? ⟨g, off + i, none⟩ = some (.string s)

theorem lt_of_cell {w : World} {a : Addr} {v : Value} (h : w.cell? a = some v) : a.block < w.heap.size := by
  rcases Nat.lt_or_ge a.block w.heap.size with hlt | hge
  · exact hlt
  · simp [World.cell?, Array.getElem?_eq_none hge] at h

theorem Reads.same {w w' : World} {F G : Nat → Prop} {v : Value} {l : List ByteArray} (h : Reads w G v l) (hf : Fr F w w') (hd : ∀ k, G k → F k → False) : Reads w' G v l := by
  obtain ⟨ao, c, hv, hc⟩ := h
  refine ⟨ao, c, hv, fun i s hi => ?_⟩
  obtain ⟨g, off, h1, h2, h3⟩ := hc i s hi
  exact ⟨g, off, h1, h2, (cell_of_same (hf.block g (lt_of_cell h3) (fun hF => hd g h2 hF))).trans h3⟩

theorem Reads.mono {w : World} {F G : Nat → Prop} {v : Value} {l : List ByteArray} (h : Reads w G v l) (hg : ∀ k, k < w.heap.size → G k → F k) : Reads w F v l := by
  obtain ⟨ao, c, hv, hc⟩ := h
  refine ⟨ao, c, hv, fun i s hi => ?_⟩
  obtain ⟨g, off, h1, h2, h3⟩ := hc i s hi
  exact ⟨g, off, h1, hg g (lt_of_cell h3) h2, h3⟩

theorem Reads.of_row {w : World} {base n : Nat} {v : Value} {l : List ByteArray} (h : w.ownsRow base 9 1 v n (l.map Value.string)) : Reads w (fun k => base ≤ k) v l := by
  have hl : l.length = n := by simpa using h.1
  rcases h.2 with ⟨rfl, h0⟩ | ⟨g, cap, cur, rfl, hb, hg, _⟩
  · subst h0
    obtain rfl : l = [] := List.length_eq_zero_iff.1 hl
    exact ⟨none, 0, rfl, fun i s hi => by simp at hi⟩
  · subst hl
    refine ⟨_, cap, rfl, fun i s hi => ⟨g, 0, rfl, hb, ?_⟩⟩
    have := h.cells (g := g) rfl i (.string s) (by simp [hi])
    have e : ((⟨g, 0, none⟩ : Addr).add i) = ⟨g, 0 + i, none⟩ := by unfold Addr.add; split <;> simp_all
    rw [e] at this; exact this

/-- Load of the rest of a row: the error, and the names -/
def loadRow (k : Nat) : List ByteArray → (Nat → List ByteArray) → Int × (Nat → List ByteArray)
  | [], L => (0, L)
  | s :: r, L => if numS L k s ≠ 0 then (11, L) else if putE L k s ≠ 0 then (putE L k s, L) else loadRow k r (putL L k s)

/-- Load of the rows from the kind k on (n of them) -/
def loadK (src : Nat → List ByteArray) : Nat → Nat → (Nat → List ByteArray) → Int × (Nat → List ByteArray)
  | 0, _, L => (0, L)
  | n + 1, k, L => if (loadRow k (src k) L).1 ≠ 0 then loadRow k (src k) L else loadK src n (k + 1) (loadRow k (src k) L).2

def loadS (src : Nat → List ByteArray) : Int × (Nat → List ByteArray) := loadK src 5 1 noL

/-- what Load leaves -/
def LoadPost (w : World) (src : Nat → List ByteArray) (e : Ending) (w' : World) : Prop :=
  Fr (fun _ => False) w w' ∧
  (((loadS src).1 = 0 ∧ ∃ B F, e = .returned (.tuple #[.pointer (some ⟨B, 0, none⟩), .int .i64 0]) ∧ Tab w' F B (loadS src).2 ∧ ∀ k, F k → w.heap.size ≤ k) ∨
   ((loadS src).1 ≠ 0 ∧ e = .returned (.tuple #[.pointer none, .int .i64 (loadS src).1])))

/-- what holds while Load runs -/
structure LInv (w wr : World) (v : Nat → Value) (B : Nat) (L : Nat → List ByteArray) (F : Nat → Prop) : Prop where
  tab : Tab wr F B L
  low : ∀ j, F j → w.heap.size < j
  fr : Fr (fun _ => False) w wr
  box : wr.heap[w.heap.size]? = some (.cells #[v 0, v 1, v 2, v 3, v 4, v 5] 31 (0, 0))

theorem LInv.put {w wr w' : World} {v : Nat → Value} {B : Nat} {L L' : Nat → List ByteArray} {F : Nat → Prop} (h : LInv w wr v B L F) (hf : Fr F wr w') (ht : Tab w' (grown F wr w') B L') :
    LInv w w' v B L' (grown F wr w') := by
  have hs : w.heap.size < wr.heap.size := (Array.getElem?_eq_some_iff.1 h.box).1
  refine ⟨ht, ?_, ?_, ?_⟩
  · intro j hj
    rcases hj with hj | hj
    · exact h.low j hj
    · omega
  · refine ⟨hf.os.trans h.fr.os, hf.tape.trans h.fr.tape, hf.output.trans h.fr.output, Nat.le_trans h.fr.size hf.size, fun k hk _ => ?_⟩
    exact (hf.block k (by omega) (fun hF => by have := h.low k hF; omega)).trans (h.fr.block k hk (fun x => x))
  · exact (hf.block _ hs (fun hF => by have := h.low _ hF; omega)).trans h.box

theorem LInv.cell {w wr : World} {v : Nat → Value} {B : Nat} {L : Nat → List ByteArray} {F : Nat → Prop} (h : LInv w wr v B L F) {k : Nat} (hk : k < 6) : wr.cell? ⟨w.heap.size, k, none⟩ = some (v k) := by
  rw [cell_arr h.box]
  match k, hk with
  | 0, _ => rfl
  | 1, _ => rfl
  | 2, _ => rfl
  | 3, _ => rfl
  | 4, _ => rfl
  | 5, _ => rfl

theorem LInv.start {w w' : World} {v : Nat → Value} {B : Nat} (hB : (w.alloc (.cells #[v 0, v 1, v 2, v 3, v 4, v 5] 31)).heap.size ≤ B)
    (hf : Fr (fun _ => False) (w.alloc (.cells #[v 0, v 1, v 2, v 3, v 4, v 5] 31)) w') (ht : Tab w' (grown (fun _ => False) (w.alloc (.cells #[v 0, v 1, v 2, v 3, v 4, v 5] 31)) w') B noL) :
    LInv w w' v B noL (grown (fun _ => False) (w.alloc (.cells #[v 0, v 1, v 2, v 3, v 4, v 5] 31)) w') := by
  refine ⟨ht, ?_, (Fr.of_alloc _ _ _).trans hf, (hf.block _ (by simp) (fun x => x)).trans (heap_alloc_new w _)⟩
  intro j hj
  rcases hj with hj | hj
  · exact hj.elim
  · have := hj.1; simp at this; omega

theorem loadK_step {src : Nat → List ByteArray} {k : Nat} {L L' : Nat → List ByteArray} (hk : k ≤ 5) (h : loadRow k (src k) L = (0, L')) : loadK src (6 - k) k L = loadK src (6 - (k + 1)) (k + 1) L' := by
  obtain ⟨n, hn⟩ : ∃ n, 6 - k = n + 1 := ⟨5 - k, by omega⟩
  rw [hn, show 6 - (k + 1) = n by omega, loadK, h]
  simp
theorem loadK_stop {src : Nat → List ByteArray} {k : Nat} {e : Int} {L L' : Nat → List ByteArray} (hk : k ≤ 5) (h : loadRow k (src k) L = (e, L')) (he : e ≠ 0) : loadK src (6 - k) k L = (e, L') := by
  obtain ⟨n, hn⟩ : ∃ n, 6 - k = n + 1 := ⟨5 - k, by omega⟩
  rw [hn, loadK, h]
  simp [he]

set_option maxHeartbeats 2000000 in
theorem load_any {w : World} (v : Nat → Value) (src : Nat → List ByteArray) (hv : ∀ k, k < 6 → Reads w (fun _ => True) (v k) (src k)) (hsz : ∀ k, k < 6 → ∀ s ∈ src k, s.size ≤ maxLen)
    (hfew : ∀ k, k < 6 → (src k).length ≤ maxLen) :
    Calls Try.prog 28 #[.agg #[v 0, v 1, v 2, v 3, v 4, v 5]] w (LoadPost w src) := by
  have HV := Lib.hid hv
  have HSZ := Lib.hid hsz
  have HFEW := Lib.hid hfew
  clear hv hsz hfew
  go_enter Try.func28, Try.ntmps28
  go_wp2_with (go_at_call 11; refine (new_tab _).mono ?_; rintro e w1 ⟨B, hB, rfl, hfr, htab⟩; have HS := Lib.hid (LInv.start hB hfr htab); clear hB hfr htab)
  go_loopw [5] (fun i wr => ∃ k : Nat, 1 ≤ k ∧ k ≤ 6 ∧ i = .int .i64 k ∧ ∃ L F, LInv w wr v B L F ∧ Hid (loadS src = loadK src (6 - k) k L)) (fun i _ => 6 - (intOf i).toNat)
  case atStart => exact ⟨1, by omega, by omega, rfl, _, _, HS.out, rfl⟩
  case round =>
    obtain ⟨k, hk1, hk6, rfl, L, F, hinv, hspec⟩ := hrel
    have HI := Lib.hid hinv
    by_cases hk5 : k ≤ 5
    · have hc := hinv.cell (show k < 6 by omega)
      obtain ⟨ao, c, hvk, hel⟩ := (HV.out k (by omega)).same hinv.fr (fun _ _ h => h)
      have HEL := Lib.hid hel
      rw [hvk] at hc
      have HVK := Lib.hid hvk
      have hlen := HFEW.out k (by omega)
      generalize hl : (src k).length = n at *
      have HL := Lib.hid hl
      unfold maxLen at hlen
      have hki : (k : Int) < 6 := by omega
      have hki0 : 0 ≤ (k : Int) := by omega
      have HSP := Lib.hid hspec
      clear hinv hel hvk hl hspec
      go_wp2
      obtain ⟨wo, rfl⟩ : ∃ wo : World, wo = wr := ⟨_, rfl⟩
      clear hc
      go_loopw [21] (fun i wi => ∃ j : Nat, j ≤ n ∧ i = .int .i64 j ∧ ∃ L' F', LInv w wi v B L' F' ∧ Hid (loadRow k (src k) L = loadRow k ((src k).drop j) L')) (fun i _ => n - (intOf i).toNat)
      case atStart => exact ⟨0, by omega, rfl, L, F, HI.out, by simp [Hid]⟩
      case round =>
        obtain ⟨j, hj, rfl, L', F', hinv', hspec'⟩ := hrel
        have HI' := Lib.hid hinv'
        by_cases hlt : j < n
        · obtain ⟨s, hs⟩ : ∃ s, (src k)[j]? = some s := ⟨_, List.getElem?_eq_getElem (by have := HL.out; omega)⟩
          obtain ⟨ao', c', hvk', hel'⟩ := (HV.out k (by omega)).same hinv'.fr (fun _ _ h => h)
          have hsz := HSZ.out k (by omega) s (List.mem_of_getElem? hs)
          have hdrop : (src k).drop j = s :: (src k).drop (j + 1) := by
            obtain ⟨h1, h2⟩ := List.getElem?_eq_some_iff.1 hs
            rw [List.drop_eq_getElem_cons h1, h2]
          rw [hdrop] at hspec'
          obtain ⟨g, off, hao, _, hcell⟩ := hel' j s hs
          obtain rfl : ao = ao' := by have := HVK.out.symm.trans hvk'; cases this; rfl
          subst hao
          have hkw : (Lit.int .i64 (k : Int)).wf = true := WalkArith.wf_i64 ⟨by omega, by omega⟩
          have HFD := Lib.hid (find_any hinv'.tab k s hkw hsz)
          have HPT := Lib.hid (put_any hinv'.tab k s hkw hsz)
          clear hdrop hs hel' hvk' hkw
          by_cases hnum : numS L' k s = 0
          · rw [hnum] at HFD
            by_cases hpe : putE L' k s = 0
            · have HN : Hid (loadRow k (src k) L = loadRow k ((src k).drop (j + 1)) (putL L' k s)) := by
                have := hspec'.out; simp only [loadRow, hnum, hpe] at this; simpa [Hid] using this
              have HPE := Lib.hid hpe
              clear hnum hpe hspec' hinv' hsz
              go_wp2_with (first | (go_at_call 12; refine HFD.out.mono ?_; rintro e w' ⟨rfl, rfl⟩) | (go_at_call 14; refine HPT.out.mono ?_; rintro e w' ⟨rfl, hfr, htab⟩; rw [HPE.out]; have HT := Lib.hid (HI'.out.put hfr htab); clear hfr htab))
              go_roundw
              case rel => exact ⟨j + 1, by omega, by go_num, _, _, HT.out, HN⟩
              case measure => simp [intOf]; omega
            · have HN : Hid (loadS src = (putE L' k s, L')) := by
                refine HSP.out.out.trans (loadK_stop hk5 ?_ hpe)
                rw [hspec'.out, loadRow, if_neg (by simp [hnum]), if_pos hpe]
              have HPE := Lib.hid hpe
              have hpb : (putE L' k s == 0) = false := by simpa using hpe
              clear hnum hpe hspec' hinv' hsz
              go_wp2_with (first | (go_at_call 12; refine HFD.out.mono ?_; rintro e w' ⟨rfl, rfl⟩) | (go_at_call 14; refine HPT.out.mono ?_; rintro e w' ⟨rfl, hfr, htab⟩; have HT := Lib.hid (HI'.out.put hfr htab); clear hfr htab))
              go_ret2
              exact ⟨HT.out.fr, Or.inr ⟨by rw [HN.out]; exact HPE.out, by rw [HN.out]; rfl⟩⟩
          · have HN : Hid (loadS src = (11, L')) := by
              refine HSP.out.out.trans (loadK_stop hk5 ?_ (by decide))
              rw [hspec'.out, loadRow, if_pos hnum]
            have hb : decide (numS L' k s ≠ 0) = true := by simpa using hnum
            rw [hb] at HFD
            generalize (if numS L' k s = 0 then (0 : Int) else k * 8192 + numS L' k s) = at0 at *
            clear hnum hb hspec' hinv' hsz
            go_wp2_with (first | (go_at_call 12; refine HFD.out.mono ?_; rintro e w' ⟨rfl, rfl⟩))
            go_ret2
            exact ⟨HI'.out.fr, Or.inr ⟨by rw [HN.out]; show (11 : Int) ≠ 0; decide, by rw [HN.out]; rfl⟩⟩
        · obtain rfl : j = n := by omega
          have hend : loadRow k (src k) L = (0, L') := by
            have := hspec'.out
            rw [List.drop_eq_nil_of_le (by have := HL.out; omega)] at this
            exact this
          have HEND : Hid (loadS src = loadK src (6 - (k + 1)) (k + 1) L') := HSP.out.out.trans (loadK_step hk5 hend)
          clear hinv' hspec' hend
          go_wp2
          go_roundw
          case rel => exact ⟨k + 1, by omega, by omega, by go_num, L', F', HI'.out, HEND⟩
          case measure => simp [intOf]; omega
    · obtain rfl : k = 6 := by omega
      go_wp2
      go_ret2
      have hs0 : loadS src = (0, L) := hspec
      refine ⟨HI.out.fr, Or.inl ⟨by rw [hs0], B, F, rfl, by rw [hs0]; exact HI.out.tab, fun j hj => Nat.le_of_lt (HI.out.low j hj)⟩⟩
end Go.Proofs.Ytcpgfcpmjalacaa
