/- Put of atom's tables: which atom it tells, and which names the table has behind it. -/
import Derived.Test.YtcpgfcpmjalacaaMeth
namespace Go.Proofs.Ytcpgfcpmjalacaa
open Go.RowKit

/-- the names behind a new one -/
def addL (L : Nat → List ByteArray) (k : Nat) (s : ByteArray) (j : Nat) : List ByteArray := if j = k then L j ++ [s] else L j

theorem addL_same (L : Nat → List ByteArray) (k : Nat) (s : ByteArray) : addL L k s k = L k ++ [s] := by simp [addL]
theorem addL_other (L : Nat → List ByteArray) {k j : Nat} (s : ByteArray) (h : j ≠ k) : addL L k s j = L j := by simp [addL, h]

/-- add leaves a table with one name more -/
theorem Tab.added {w : World} {F : Nat → Prop} {B : Nat} {L : Nat → List ByteArray} (h : Tab w F B L) {k : Nat} (hk1 : 1 ≤ k) (hk5 : k ≤ 5) {s : ByteArray} (hgood : mayB s.data.toList = true)
    (hnew : s ∉ L k) (hroom : (L k).length < 4000) :
    Calls Try.prog 35 #[.pointer (some ⟨B, 0, none⟩), .int .i64 k, .string s] w fun e w' =>
      e = .returned (.int .i64 ((L k).length + 1)) ∧ Fr F w w' ∧ Tab w' (grown F w w') B (addL L k s) := by
  obtain ⟨m, es, vs, arr, hm, hBm, hb, hsz, hkk, h6, hmap, hrow, hown, hap, h1, h2⟩ := h.lies
  have hk6 : k < 6 := by omega
  have hne : ∀ p ∈ es, p.1 ≠ .agg #[.int .i64 k, .string s] := by
    intro p hp heq
    obtain ⟨k', i, s', _, _, hget, rfl⟩ := h1 p hp
    simp only [Value.agg.injEq, Array.mk.injEq, List.cons.injEq, Value.int.injEq, Value.string.injEq, and_true, true_and] at heq
    obtain ⟨hkk', rfl⟩ := heq
    obtain rfl : k' = k := by omega
    exact hnew (List.mem_of_getElem? hget)
  have hs24 := may_size hgood
  have hmB := hown k hk6
  have hraw := add_raw B m k (L k).length s (vs k) ((L k).map Value.string) es w hk1 hk5 hroom (by unfold maxLen; omega) (h.old B h.inB) ((cell_arr hb k).trans (hkk k hk6)) (frozen_arr hb k)
    ((cell_arr hb 6).trans h6) (hrow k hk6) (fun e => (hmB B e).2.1 rfl) (fun e => (hmB m e).2.2 rfl) hBm hmap hne
  refine hraw.mono ?_
  rintro e w' ⟨g, cap, w1, ob, rfl, ho1, hg1, hat, rfl, hmap'⟩
  refine ⟨rfl, ?_⟩
  have hf1 : Fr F w w1 := (Fr.of_grown hg1).mono (fun j _ hj => (hmB j hj).1)
  have hf2 : Fr F w1 (w1.setCell ⟨B, k, none⟩ (.slice (some ⟨g, 0, none⟩) ((L k).length + 1) cap)) := (Fr.of_setCell _ _ _).mono (fun j _ hj => by rw [hj]; exact h.inB)
  have hf3 : Fr F (w1.setCell ⟨B, k, none⟩ (.slice (some ⟨g, 0, none⟩) ((L k).length + 1) cap)) (setObjAt (w1.setCell ⟨B, k, none⟩ (.slice (some ⟨g, 0, none⟩) ((L k).length + 1) cap)) m ob) :=
    (Fr.of_setObj _ _ _).mono (fun j _ hj => by rw [hj]; exact hm)
  have hfr := (hf1.trans hf2).trans hf3
  refine ⟨hfr, ?_⟩
  generalize hW : setObjAt (w1.setCell ⟨B, k, none⟩ (.slice (some ⟨g, 0, none⟩) ((L k).length + 1) cap)) m ob = W at *
  have hB1 : w1.heap[B]? = some (.cells arr 64 (0, 0)) := (hg1.block B (h.old B h.inB) (fun e => (hmB B e.symm).2.1 rfl)).trans hb
  have hBW : W.heap[B]? = some (.cells (arr.setIfInBounds k (.slice (some ⟨g, 0, none⟩) ((L k).length + 1) cap)) 64 (0, 0)) := by
    rw [← hW, setObjAt_other hBm]
    simp only [World.setCell, Array.getElem?_modify]
    simp [hB1]
  -- blocks other than B, m and the row's own
  have hoth : ∀ j, j < w.heap.size → j ≠ B → j ≠ m → (vs k).ownBlock ≠ some j → W.heap[j]? = w.heap[j]? := by
    intro j hj hjB hjm hjk
    rw [← hW, setObjAt_other hjm, Below.heap_setCell _ _ _ _ hjB]
    exact hg1.block j hj (fun e => hjk e.symm)
  have hgm : g ≠ m ∧ g ≠ B := by
    rcases hat with e | e
    · exact ⟨(hmB g e).2.2, (hmB g e).2.1⟩
    · have a := h.old B h.inB; have b := h.old m hm; omega
  have hgk : W.heap[g]? = w1.heap[g]? := by
    rw [← hW, setObjAt_other hgm.1, Below.heap_setCell _ _ _ _ hgm.2]
  have hglt : g < W.heap.size := by
    have : g < w1.heap.size := (ho1.lt g rfl).2
    rw [← hW]; simpa [setObjAt, World.setCell] using this
  refine ⟨?_, ?_, ?_, ?_, ?_, Or.inl h.inB, m, es ++ [(.agg #[.int .i64 k, .string s], .int .i64 (((L k).length : Int) + 1))],
    fun j => if j = k then .slice (some ⟨g, 0, none⟩) ((L k).length + 1) cap else vs j,
    arr.setIfInBounds k (.slice (some ⟨g, 0, none⟩) ((L k).length + 1) cap), Or.inl hm, hBm, hBW, by simpa using hsz, ?_, ?_, hmap', ?_, ?_, ?_, ?_, ?_⟩
  · intro j
    by_cases hj : j = k
    · subst hj; rw [addL_same, List.nodup_append]
      exact ⟨h.nodup j, by simp, fun a ha b hb' => by simp at hb'; subst hb'; exact fun e => hnew (e ▸ ha)⟩
    · rw [addL_other L s hj]; exact h.nodup j
  · intro j
    by_cases hj : j = k
    · subst hj; rw [addL_same]; simp; omega
    · rw [addL_other L s hj]; exact h.few j
  · intro j t ht
    by_cases hj : j = k
    · subst hj; rw [addL_same, List.mem_append] at ht
      rcases ht with ht | ht
      · exact h.good j t ht
      · simp at ht; subst ht; exact hgood
    · rw [addL_other L s hj] at ht; exact h.good j t ht
  · rw [addL_other L s (by omega)]; exact h.none0
  · intro b hb'
    rcases hb' with hb' | hb'
    · exact Nat.lt_of_lt_of_le (h.old b hb') hfr.size
    · exact hb'.2
  · intro j hj
    by_cases he : j = k
    · subst he; rw [Array.getElem?_setIfInBounds, if_pos rfl, if_pos (by omega)]; simp
    · simp only [he, if_false]
      rw [Array.getElem?_setIfInBounds, if_neg (by omega)]
      exact hkk j hj
  · rw [Array.getElem?_setIfInBounds, if_neg (by omega)]; exact h6
  · intro j hj
    by_cases he : j = k
    · subst he
      simp only [if_true]
      rw [addL_same]
      have := ho1
      refine ⟨by simp, ?_⟩
      rcases ho1.2 with ⟨hn, _⟩ | ⟨g', cap', cur, hv, hbg, hgg, r1, r2, r3, r4⟩
      · cases hn
      · refine .inr ⟨g', cap', cur, by simpa using hv, hbg, ?_, by simpa using r1, r2, r3, by simpa using r4⟩
        have : g = g' := by simpa [Value.ownBlock] using congrArg Value.ownBlock hv
        subst this
        rw [hgk]; exact hgg
    · simp only [he, if_false]
      rw [addL_other L s he]
      have hr := hrow j hj
      refine ⟨hr.1, ?_⟩
      rcases hr.2 with hn | ⟨g', cap', cur, hv, hbg, hgg, rest⟩
      · exact .inl hn
      · have hob : (vs j).ownBlock = some g' := by rw [hv]; rfl
        have ho := hown j hj g' hob
        refine .inr ⟨g', cap', cur, hv, hbg, ?_, rest⟩
        rw [hoth g' (h.old g' ho.1) ho.2.1 ho.2.2 (hap j k hj hk6 he g' hob)]
        exact hgg
  · intro j hj q hq
    by_cases he : j = k
    · simp only [he, if_true] at hq
      obtain rfl : g = q := by simpa [Value.ownBlock] using hq
      refine ⟨?_, hgm.2, hgm.1⟩
      rcases hat with e | e
      · exact Or.inl (hmB g e).1
      · exact Or.inr ⟨e, hglt⟩
    · simp only [he, if_false] at hq
      have ho := hown j hj q hq
      exact ⟨Or.inl ho.1, ho.2⟩
  · intro i j hi hj hij q hq
    by_cases hik : i = k
    · simp only [hik, if_true] at hq
      obtain rfl : g = q := by simpa [Value.ownBlock] using hq
      have hjk : ¬ j = k := fun e => hij (hik.trans e.symm)
      simp only [hjk, if_false]
      rcases hat with e | e
      · exact hap k j hk6 hj (fun e' => hjk e'.symm) g e
      · intro e'; have := h.old g (hown j hj g e').1; omega
    · simp only [hik, if_false] at hq
      by_cases hjk : j = k
      · simp only [hjk, if_true]
        intro e'
        obtain rfl : g = q := by simpa [Value.ownBlock] using e'
        rcases hat with e | e
        · exact hap i k hi hk6 hik g hq e
        · have := h.old g (hown i hi g hq).1; omega
      · simp only [hjk, if_false]
        exact hap i j hi hj hij q hq
  · intro p hp
    rcases List.mem_append.1 hp with hp | hp
    · obtain ⟨k', i, t, a1, a2, a3, a4⟩ := h1 p hp
      refine ⟨k', i, t, a1, a2, ?_, a4⟩
      by_cases he : k' = k
      · subst he; rw [addL_same, List.getElem?_append_left (List.getElem?_eq_some_iff.1 a3).1]; exact a3
      · rw [addL_other L s he]; exact a3
    · simp at hp; subst hp
      exact ⟨k, (L k).length, s, hk1, hk5, by rw [addL_same]; simp, rfl⟩
  · intro k' i t a1 a2 a3
    rw [List.mem_append]
    by_cases he : k' = k
    · subst he
      rw [addL_same] at a3
      rcases Nat.lt_or_ge i (L k').length with hlt | hge
      · rw [List.getElem?_append_left hlt] at a3
        exact .inl (h2 k' i t a1 a2 a3)
      · rw [List.getElem?_append_right hge] at a3
        have hi : i - (L k').length = 0 := by
          have := (List.getElem?_eq_some_iff.1 a3).1; simp at this; omega
        rw [hi] at a3
        simp at a3
        subst a3
        obtain rfl : i = (L k').length := by omega
        exact .inr (by simp)
    · rw [addL_other L s he] at a3
      exact .inl (h2 k' i t a1 a2 a3)

/-- the error of Put -/
def putE (L : Nat → List ByteArray) (kind : Int) (s : ByteArray) : Int :=
  if ¬ (1 ≤ kind ∧ kind ≤ 5) then 1 else if mayB s.data.toList = false then 2 else if numS L kind s ≠ 0 then 0 else if (L kind.toNat).length = 4000 then 3 else 0
/-- the atom that Put tells -/
def putA (L : Nat → List ByteArray) (kind : Int) (s : ByteArray) : Int :=
  if putE L kind s = 0 then kind * 8192 + (if numS L kind s = 0 then ((L kind.toNat).length : Int) + 1 else numS L kind s) else 0
/-- the names behind Put -/
def putL (L : Nat → List ByteArray) (kind : Int) (s : ByteArray) : Nat → List ByteArray :=
  if putE L kind s = 0 ∧ numS L kind s = 0 then addL L kind.toNat s else L

def PutPost (w : World) (F : Nat → Prop) (B : Nat) (L : Nat → List ByteArray) (kind : Int) (s : ByteArray) (e : Ending) (w' : World) : Prop :=
  e = .returned (.tuple #[.int .u16 (putA L kind s), .int .i64 (putE L kind s)]) ∧ Fr F w w' ∧ Tab w' (grown F w w') B (putL L kind s)

theorem grown_same {F : Nat → Prop} {w : World} : grown F w w = F := by
  funext k; unfold grown; apply propext; constructor
  · rintro (h | h)
    · exact h
    · omega
  · exact Or.inl

theorem PutPost.still {w : World} {F : Nat → Prop} {B : Nat} {L : Nat → List ByteArray} {kind : Int} {s : ByteArray} (h : Tab w F B L) (hp : putL L kind s = L)
    {a e : Int} (ha : putA L kind s = a) (he : putE L kind s = e) : PutPost w F B L kind s (.returned (.tuple #[.int .u16 a, .int .i64 e])) w :=
  ⟨by rw [ha, he], Fr.refl _ _, by rw [hp, grown_same]; exact h⟩

set_option maxHeartbeats 1000000 in
theorem put_any {w : World} {F : Nat → Prop} {B : Nat} {L : Nat → List ByteArray} (h : Tab w F B L) (kind : Int) (s : ByteArray) (hk : (Lit.int .i64 kind).wf = true) (hs : s.size ≤ maxLen) :
    Calls Try.prog 14 #[.pointer (some ⟨B, 0, none⟩), .int .i64 kind, .string s] w (PutPost w F B L kind s) := by
  by_cases hkk : 1 ≤ kind ∧ kind ≤ 5
  rotate_left
  · have he : putE L kind s = 1 := by simp [putE, hkk]
    have HQ := Lib.hid (PutPost.still (kind := kind) (s := s) (a := 0) h (by simp [putL, he]) (by simp [putA, he]) he)
    have H := Lib.hid hkk
    clear hkk he h
    go_enter Try.func14, Try.ntmps14
    go_wp2_with (go_at_call 33; refine (named_no _ _ H.out).mono ?_; rintro e w' ⟨rfl, rfl⟩)
    go_ret2
    exact HQ.out
  cases hm : mayB s.data.toList
  · have he : putE L kind s = 2 := by simp [putE, hkk, hm]
    have HQ := Lib.hid (PutPost.still (kind := kind) (s := s) (a := 0) h (by simp [putL, he]) (by simp [putA, he]) he)
    obtain ⟨hk1, hk5⟩ := hkk
    clear he h
    go_enter Try.func14, Try.ntmps14
    go_wp2_with (first | (go_at_call 33; refine (named_yes _ _ hk1 hk5).mono ?_; rintro e w' ⟨rfl, rfl⟩) | (go_at_call 26; refine (may_any _ _ hs).mono ?_; rintro e w' ⟨rfl, rfl⟩))
    go_ret2
    exact HQ.out
  obtain ⟨hk1, hk5⟩ := hkk
  have HF := Lib.hid (find_any h kind s hk hs)
  by_cases hn : numS L kind s = 0
  rotate_left
  · have he : putE L kind s = 0 := by simp [putE, hk1, hk5, hm, hn]
    have HQ := Lib.hid (PutPost.still (kind := kind) (s := s) (a := kind * 8192 + numS L kind s) h (by simp [putL, he, hn]) (by simp [putA, he, hn]) he)
    have e2 : decide (numS L kind s ≠ 0) = true := by simpa using hn
    have e1 : (if numS L kind s = 0 then (0 : Int) else kind * 8192 + numS L kind s) = kind * 8192 + numS L kind s := if_neg hn
    rw [e1, e2] at HF
    generalize numS L kind s = n at *
    clear he h e1 e2
    go_enter Try.func14, Try.ntmps14
    go_wp2_with (first | (go_at_call 33; refine (named_yes _ _ hk1 hk5).mono ?_; rintro e w' ⟨rfl, rfl⟩) | (go_at_call 26; refine (may_any _ _ hs).mono ?_; rintro e w' ⟨rfl, rfl⟩) | (go_at_call 12; refine HF.out.mono ?_; rintro e w' ⟨rfl, rfl⟩))
    go_ret2
    exact HQ.out
  obtain ⟨k, rfl⟩ := Int.eq_ofNat_of_zero_le (show 0 ≤ kind by omega)
  have hnew : s ∉ L k := by
    have := hn
    unfold numS at this
    rw [if_pos ⟨hk1, hk5⟩, posOf_none] at this
    simpa using this
  have hk1' : 1 ≤ k := by omega
  have hk5' : k ≤ 5 := by omega
  obtain ⟨ao, c, hc, _, _⟩ := h.row (show k < 6 by omega)
  have e2 : decide (numS L (k : Int) s ≠ 0) = false := by simpa using hn
  have e1 : (if numS L (k : Int) s = 0 then (0 : Int) else k * 8192 + numS L (k : Int) s) = 0 := if_pos hn
  rw [e1, e2] at HF
  have hfew := h.few k
  by_cases hlen : (L k).length = 4000
  · have he : putE L (k : Int) s = 3 := by simp [putE, hk1', hk5', hm, hn, hlen]; omega
    have HQ := Lib.hid (PutPost.still (kind := k) (s := s) (a := 0) h (by simp [putL, he]) (by simp [putA, he]) he)
    rw [hlen] at hc
    clear he h e1 e2 hlen hfew hn hnew
    go_enter Try.func14, Try.ntmps14
    go_wp2_with (first | (go_at_call 33; refine (named_yes _ _ hk1 hk5).mono ?_; rintro e w' ⟨rfl, rfl⟩) | (go_at_call 26; refine (may_any _ _ hs).mono ?_; rintro e w' ⟨rfl, rfl⟩) | (go_at_call 12; refine HF.out.mono ?_; rintro e w' ⟨rfl, rfl⟩) | (go_at_call 34; refine (row_yes k B _ _ hk1' hk5' hc).mono ?_; rintro e w' ⟨rfl, rfl⟩))
    go_ret2
    exact HQ.out
  · have he : putE L (k : Int) s = 0 := by simp [putE, hk1', hk5', hm, hn, hlen]; omega
    have HA := Lib.hid (h.added hk1' hk5' hm hnew (by omega))
    have HQ : Hid (putA L (k : Int) s = k * 8192 + ((L k).length + 1) ∧ putL L (k : Int) s = addL L k s) := ⟨by simp [putA, he, hn], by simp [putL, he, hn]⟩
    have hl4 : (L k).length < 4000 := by omega
    have hlb : (((L k).length : Int) == 4000) = false := by rw [beq_eq_false_iff_ne]; omega
    have HE := Lib.hid he
    generalize (L k).length = n at *
    clear he h e1 e2 hfew hn hnew hlen
    go_enter Try.func14, Try.ntmps14
    go_wp2_with (first | (go_at_call 33; refine (named_yes _ _ hk1 hk5).mono ?_; rintro e w' ⟨rfl, rfl⟩) | (go_at_call 26; refine (may_any _ _ hs).mono ?_; rintro e w' ⟨rfl, rfl⟩) | (go_at_call 12; refine HF.out.mono ?_; rintro e w' ⟨rfl, rfl⟩) | (go_at_call 34; refine (row_yes k B _ _ hk1' hk5' hc).mono ?_; rintro e w' ⟨rfl, rfl⟩) | (go_at_call 35; refine HA.out.mono ?_; rintro e w' ⟨rfl, hfr, htab⟩; have HFR := Lib.hid hfr; have HT := Lib.hid htab; clear hfr htab) | (go_at_call 31; refine (compose_any _ _ _ (by omega) (by omega) (by omega) (by omega)).mono ?_; rintro e w' ⟨rfl, rfl⟩))
    go_ret2
    exact ⟨by rw [HQ.out.1, HE.out]; rfl, HFR.out, by rw [HQ.out.2]; exact HT.out⟩
end Go.Proofs.Ytcpgfcpmjalacaa
