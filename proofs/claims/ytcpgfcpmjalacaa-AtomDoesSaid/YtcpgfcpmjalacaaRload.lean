/- Load of the reference's tables. -/
import Derived.Test.YtcpgfcpmjalacaaRmore
import Derived.Test.YtcpgfcpmjalacaaBackP
namespace Go.Proofs.Ytcpgfcpmjalacaa
open Go.RowKit

theorem GoodL.add {L : Nat → List ByteArray} (h : GoodL L) {k : Nat} {s : ByteArray} (hk1 : 1 ≤ k) (hn : s ∉ L k) (hm : mayB s.data.toList = true) (hl : (L k).length < 4000) : GoodL (addL L k s) := by
  refine ⟨fun j => ?_, fun j => ?_, fun j t ht => ?_, ?_⟩
  · by_cases hj : j = k
    · subst hj; rw [addL_same, List.nodup_append]
      exact ⟨h.1 j, by simp, fun a ha b hb' => by simp at hb'; subst hb'; exact fun e => hn (e ▸ ha)⟩
    · rw [addL_other L s hj]; exact h.1 j
  · by_cases hj : j = k
    · subst hj; rw [addL_same]; simp; omega
    · rw [addL_other L s hj]; exact h.2.1 j
  · by_cases hj : j = k
    · subst hj; rw [addL_same, List.mem_append] at ht
      rcases ht with ht | ht
      · exact h.2.2.1 j t ht
      · simp at ht; subst ht; exact hm
    · rw [addL_other L s hj] at ht; exact h.2.2.1 j t ht
  · rw [addL_other L s (by omega)]; exact h.2.2.2

theorem put_new {L : Nat → List ByteArray} (h : GoodL L) {k : Nat} {s : ByteArray} (hk1 : 1 ≤ k) (hk5 : k ≤ 5) (he : putE L (k : Int) s = 0) (hn : numS L (k : Int) s = 0) :
    putL L (k : Int) s = addL L k s ∧ GoodL (addL L k s) := by
  have hkk : (1 : Int) ≤ k ∧ (k : Int) ≤ 5 := by omega
  have hnew : s ∉ L k := by
    have := hn; unfold numS at this; rw [if_pos hkk, posOf_none] at this; simpa using this
  have hf := h.2.1 k
  unfold putE at he
  rw [if_neg (fun x => x hkk)] at he
  split at he
  · omega
  · rename_i hm
    rw [if_neg (by simp [hn])] at he
    split at he
    · omega
    · rename_i hl
      simp at hl
      exact ⟨by unfold putL; rw [if_pos ⟨by unfold putE; rw [if_neg (fun x => x hkk), if_neg hm, if_neg (by simp [hn]), if_neg (by simpa using hl)], hn⟩]; simp, h.add hk1 hnew (by simpa using hm) (by omega)⟩

theorem put_known {L : Nat → List ByteArray} (h : GoodL L) {k : Nat} {s : ByteArray} (hk1 : 1 ≤ k) (hk5 : k ≤ 5) (hn : numS L (k : Int) s ≠ 0) : putE L (k : Int) s = 0 ∧ putL L (k : Int) s = L := by
  have hkk : (1 : Int) ≤ k ∧ (k : Int) ≤ 5 := by omega
  have hmem : s ∈ L k := by
    unfold numS at hn; rw [if_pos hkk] at hn
    simp only [Int.toNat_natCast] at hn
    rcases hp : posOf (L k) s with _ | m
    · exact absurd hp hn
    · exact List.mem_of_getElem? (posOf_get hp)
  have hm := h.2.2.1 k s hmem
  constructor
  · unfold putE; rw [if_neg (fun x => x hkk), if_neg (by simp [hm]), if_pos hn]
  · unfold putL; rw [if_neg (fun x => hn x.2)]

/-- what holds while Load runs -/
structure RInv (w wr : World) (v : Nat → Value) (B : Nat) (L : Nat → List ByteArray) (F : Nat → Prop) : Prop where
  tab : RTab wr F B L
  low : ∀ j, F j → w.heap.size < j
  fr : Fr (fun _ => False) w wr
  box : wr.heap[w.heap.size]? = some (.cells #[v 0, v 1, v 2, v 3, v 4, v 5] 31 (0, 0))
  good : GoodL L

theorem RInv.put {w wr w' : World} {v : Nat → Value} {B : Nat} {L L' : Nat → List ByteArray} {F : Nat → Prop} (h : RInv w wr v B L F) (hf : Fr F wr w') (ht : RTab w' (grown F wr w') B L') (hg : GoodL L') :
    RInv w w' v B L' (grown F wr w') := by
  have hs : w.heap.size < wr.heap.size := (Array.getElem?_eq_some_iff.1 h.box).1
  refine ⟨ht, ?_, ?_, ?_, hg⟩
  · intro j hj
    rcases hj with hj | hj
    · exact h.low j hj
    · omega
  · refine ⟨hf.os.trans h.fr.os, hf.tape.trans h.fr.tape, hf.output.trans h.fr.output, Nat.le_trans h.fr.size hf.size, fun k hk _ => ?_⟩
    exact (hf.block k (by omega) (fun hF => by have := h.low k hF; omega)).trans (h.fr.block k hk (fun x => x))
  · exact (hf.block _ hs (fun hF => by have := h.low _ hF; omega)).trans h.box

theorem RInv.after {w wr w' : World} {v : Nat → Value} {B : Nat} {L : Nat → List ByteArray} {F : Nat → Prop} (h : RInv w wr v B L F) (hf : Fr F wr w') : Fr (fun _ => False) w w' := by
  have hs : w.heap.size < wr.heap.size := (Array.getElem?_eq_some_iff.1 h.box).1
  refine ⟨hf.os.trans h.fr.os, hf.tape.trans h.fr.tape, hf.output.trans h.fr.output, Nat.le_trans h.fr.size hf.size, fun k hk _ => ?_⟩
  exact (hf.block k (by omega) (fun hF => by have := h.low k hF; omega)).trans (h.fr.block k hk (fun x => x))

theorem RInv.cell {w wr : World} {v : Nat → Value} {B : Nat} {L : Nat → List ByteArray} {F : Nat → Prop} (h : RInv w wr v B L F) {k : Nat} (hk : k < 6) : wr.cell? ⟨w.heap.size, k, none⟩ = some (v k) := by
  rw [cell_arr h.box]
  match k, hk with
  | 0, _ => rfl
  | 1, _ => rfl
  | 2, _ => rfl
  | 3, _ => rfl
  | 4, _ => rfl
  | 5, _ => rfl

theorem goodL_no : GoodL noL := ⟨fun k => by simp [noL], fun k => by simp [noL], fun k s h => by simp [noL] at h, rfl⟩

theorem rinv_start (w : World) (v : Nat → Value) :
    RInv w ((w.alloc (.cells #[v 0, v 1, v 2, v 3, v 4, v 5] 31)).alloc (.cells #[.slice none 0 0, .slice none 0 0, .slice none 0 0, .slice none 0 0, .slice none 0 0, .slice none 0 0] 33)) v (w.heap.size + 1) noL (fun b => b = w.heap.size + 1) := by
  refine ⟨⟨?_, rfl, #[.slice none 0 0, .slice none 0 0, .slice none 0 0, .slice none 0 0, .slice none 0 0, .slice none 0 0], fun _ => .slice none 0 0, hp3 w _ _, rfl, ?_⟩, ?_, (Fr.of_alloc _ _ _).trans (Fr.of_alloc _ _ _), hp2 w _ _, goodL_no⟩
  · intro b hb; subst hb; simp
  · intro k hk
    refine ⟨?_, none, 0, rfl, fun i s hi => by simp [noL] at hi⟩
    match k, hk with
    | 0, _ => rfl
    | 1, _ => rfl
    | 2, _ => rfl
    | 3, _ => rfl
    | 4, _ => rfl
    | 5, _ => rfl
  · intro j hj; subst hj; omega

/-- what Load leaves -/
def RLoadPost (w : World) (src : Nat → List ByteArray) (e : Ending) (w' : World) : Prop :=
  Fr (fun _ => False) w w' ∧
  (((loadS src).1 = 0 ∧ ∃ B F, e = .returned (.tuple #[.pointer (some ⟨B, 0, none⟩), .int .i64 0]) ∧ RTab w' F B (loadS src).2 ∧ GoodL (loadS src).2 ∧ ∀ k, F k → w.heap.size ≤ k) ∨
   ((loadS src).1 ≠ 0 ∧ e = .returned (.tuple #[.pointer none, .int .i64 (loadS src).1])))

theorem addL_len {L : Nat → List ByteArray} {k : Nat} {s : ByteArray} : (addL L k s k).length = (L k).length + 1 := by rw [addL_same]; simp

set_option maxHeartbeats 4000000 in
set_option maxRecDepth 100000 in
theorem rload_any {w : World} (v : Nat → Value) (src : Nat → List ByteArray) (hv : ∀ k, k < 6 → Reads w (fun _ => True) (v k) (src k)) (hsz : ∀ k, k < 6 → ∀ s ∈ src k, s.size ≤ maxLen)
    (hfew : ∀ k, k < 6 → (src k).length ≤ maxLen) :
    Calls Try.prog 29 #[.agg #[v 0, v 1, v 2, v 3, v 4, v 5]] w (RLoadPost w src) := by
  have HV := Lib.hid hv
  have HSZ := Lib.hid hsz
  have HFEW := Lib.hid hfew
  have HS := Lib.hid (rinv_start w v)
  clear hv hsz hfew
  go_enter Try.func29, Try.ntmps29
  go_wp2
  generalize hBB : w.heap.size + 1 = B at *
  clear hBB
  go_loopw [5] (fun i wr => ∃ k : Nat, 1 ≤ k ∧ k ≤ 6 ∧ i = .int .i64 k ∧ ∃ L F, RInv w wr v B L F ∧ Hid (loadS src = loadK src (6 - k) k L ∧ ∀ j, k ≤ j → L j = [])) (fun i _ => 6 - (intOf i).toNat)
  case atStart => exact ⟨1, by omega, by omega, rfl, _, _, HS.out, rfl, fun _ _ => rfl⟩
  case round =>
    obtain ⟨k, hk1, hk6, rfl, L, F, hinv, hspec⟩ := hrel
    have HI := Lib.hid hinv
    by_cases hk5 : k ≤ 5
    · have hki : (k : Int) < 6 := by omega
      have hki0 : 0 ≤ (k : Int) := by omega
      have hkle : (k : Int) ≤ 5 := by omega
      have HSP := Lib.hid hspec
      clear hinv hspec
      go_wp2
      obtain ⟨wo, rfl⟩ : ∃ wo : World, wo = wr := ⟨_, rfl⟩
      go_loopw [6] (fun i wi => ∃ j : Nat, j ≤ (src k).length ∧ i = .int .i64 j ∧ ∃ L' F', RInv w wi v B L' F' ∧ Hid (loadRow k (src k) L = loadRow k ((src k).drop j) L' ∧ (L' k).length = j ∧ ∀ m, k < m → L' m = [])) (fun i _ => (src k).length - (intOf i).toNat)
      case atStart => exact ⟨0, by omega, rfl, L, F, HI.out, by simp, by rw [HSP.out.out.2 k (Nat.le_refl k)]; rfl, fun m hm => HSP.out.out.2 m (by omega)⟩
      case round =>
        obtain ⟨j, hj, rfl, L', F', hinv', hspec'⟩ := hrel
        have HI' := Lib.hid hinv'
        have hc := hinv'.cell (show k < 6 by omega)
        obtain ⟨ao, c, hvk, hel⟩ := (HV.out k (by omega)).same hinv'.fr (fun _ _ h => h)
        rw [hvk] at hc
        have hlen := HFEW.out k (by omega)
        unfold maxLen at hlen
        by_cases hlt : j < (src k).length
        · obtain ⟨s, hs⟩ : ∃ s, (src k)[j]? = some s := ⟨_, List.getElem?_eq_getElem hlt⟩
          obtain ⟨g, off, rfl, _, hcell⟩ := hel j s hs
          have hsz := HSZ.out k (by omega) s (List.mem_of_getElem? hs)
          have hdrop : (src k).drop j = s :: (src k).drop (j + 1) := by
            obtain ⟨h1, h2⟩ := List.getElem?_eq_some_iff.1 hs
            rw [List.drop_eq_getElem_cons h1, h2]
          rw [hdrop] at hspec'
          have hji : (j : Int) < (src k).length := by omega
          have HPT := Lib.hid (rput_any hinv'.tab hinv'.good.2.1 (k : Int) s hsz)
          by_cases hnum : numS L' (k : Int) s = 0
          · by_cases hpe : putE L' (k : Int) s = 0
            · obtain ⟨hpl, hgood⟩ := put_new hinv'.good hk1 hk5 hpe hnum
              have HN : Hid (loadRow k (src k) L = loadRow k ((src k).drop (j + 1)) (addL L' k s) ∧ (addL L' k s k).length = j + 1 ∧ ∀ m, k < m → addL L' k s m = []) := by
                refine ⟨?_, ?_, ?_⟩
                · have := hspec'.out.1; simp only [loadRow, hnum, hpe] at this; rw [← hpl]; simpa using this
                · rw [addL_len, hspec'.out.2.1]
                · intro m hm; rw [addL_other L' s (by omega)]; exact hspec'.out.2.2 m hm
              have HPL := Lib.hid hpl
              have HG := Lib.hid hgood
              have HPE := Lib.hid hpe
              generalize (src k).length = n at *
              clear hnum hpe hspec' hinv' hsz hdrop hs hel hvk hpl hgood
              go_wp2_with fail
              refine HPT.out.mono ?_
              rintro e w' ⟨rfl, hfr, htab⟩
              rw [HPE.out]
              rw [HPL.out] at htab
              have hnew := HI'.out.put hfr htab HG.out
              obtain ⟨ao2, c2, hc2, _⟩ := hnew.tab.row (show k < 6 by omega)
              rw [HN.out.2.1] at hc2
              have hjj : (((j + 1 : Nat) : Int) != ((j : Int) + 1)) = false := by simp
              have HT := Lib.hid hnew
              clear hfr htab hnew hc
              go_wp2
              go_roundw
              case rel => exact ⟨j + 1, by omega, by go_num, _, _, HT.out, HN⟩
              case measure => simp [intOf]; omega
            · have HN : Hid (loadS src = (putE L' (k : Int) s, L')) := by
                refine HSP.out.out.1.trans (loadK_stop hk5 ?_ hpe)
                rw [hspec'.out.1, loadRow, if_neg (by simp [hnum]), if_pos hpe]
              have HPE := Lib.hid hpe
              have hpb : (putE L' (k : Int) s == 0) = false := by simpa using hpe
              have hpb2 : (putE L' (k : Int) s != 0) = true := by simpa using hpe
              generalize (src k).length = n at *
              clear hnum hpe hspec' hinv' hsz hdrop hs hel hvk
              go_wp2_with fail
              refine HPT.out.mono ?_
              rintro e w' ⟨rfl, hfr, htab⟩
              have HFR := Lib.hid (HI'.out.after hfr)
              clear hfr htab hc
              go_wp2
              go_ret2
              exact ⟨HFR.out, Or.inr ⟨by rw [HN.out]; exact HPE.out, by rw [HN.out]; rfl⟩⟩
          · obtain ⟨hpe, hpl⟩ := put_known hinv'.good hk1 hk5 hnum
            have HN : Hid (loadS src = (11, L')) := by
              refine HSP.out.out.1.trans (loadK_stop hk5 ?_ (by decide))
              rw [hspec'.out.1, loadRow, if_pos hnum]
            have HPL := Lib.hid hpl
            have HPE := Lib.hid hpe
            have HLN := Lib.hid hspec'.out.2.1
            generalize (src k).length = n at *
            clear hnum hpe hspec' hinv' hsz hdrop hs hel hvk hpl
            go_wp2_with fail
            refine HPT.out.mono ?_
            rintro e w' ⟨rfl, hfr, htab⟩
            rw [HPE.out]
            rw [HPL.out] at htab
            obtain ⟨ao2, c2, hc2, _⟩ := htab.row (show k < 6 by omega)
            rw [HLN.out] at hc2
            have hjj : (((j : Nat) : Int) != ((j : Int) + 1)) = true := by rw [bne_iff_ne]; omega
            have HFR := Lib.hid (HI'.out.after hfr)
            clear hfr htab hc
            go_wp2
            go_ret2
            exact ⟨HFR.out, Or.inr ⟨by rw [HN.out]; show (11 : Int) ≠ 0; decide, by rw [HN.out]; rfl⟩⟩
        · obtain rfl : j = (src k).length := by omega
          have hend : loadRow k (src k) L = (0, L') := by
            have := hspec'.out.1
            rw [List.drop_eq_nil_of_le (by omega)] at this
            exact this
          have HEND : Hid (loadS src = loadK src (6 - (k + 1)) (k + 1) L' ∧ ∀ j, k + 1 ≤ j → L' j = []) := ⟨HSP.out.out.1.trans (loadK_step hk5 hend), fun j hj => hspec'.out.2.2 j (by omega)⟩
          clear hinv' hspec' hend hel hvk
          go_wp2
          go_roundw
          case rel => exact ⟨k + 1, by omega, by omega, by go_num, L', F', HI'.out, HEND⟩
          case measure => simp [intOf]; omega
    · obtain rfl : k = 6 := by omega
      go_wp2
      go_ret2
      have hs0 : loadS src = (0, L) := hspec.out.1
      refine ⟨HI.out.fr, Or.inl ⟨by rw [hs0], B, F, rfl, by rw [hs0]; exact HI.out.tab, by rw [hs0]; exact HI.out.good, fun j hj => Nat.le_of_lt (HI.out.low j hj)⟩⟩
end Go.Proofs.Ytcpgfcpmjalacaa
