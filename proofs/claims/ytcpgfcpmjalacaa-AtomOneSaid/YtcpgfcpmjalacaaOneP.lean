/- AtomOne: the two maps, what they hold, and what one act does to them. -/
import Derived.Test.YtcpgfcpmjalacaaBack
import Derived.Maps.RangeRun
namespace Go.Proofs.Ytcpgfcpmjalacaa
open Go.RowKit Go.Maps

section
variable {P : Program} {k : TypeId}

/-- as MapIs, and no two entries bear one stamp -/
def MapSt (P : Program) (k : TypeId) (w : World) (b : Nat) (es : List (Value × Value)) : Prop :=
  ∃ arr clock, w.heap[b]? = some (.map arr clock) ∧ arr.toList.map (fun e => (e.key, e.val)) = es ∧ (∀ p ∈ es, ∃ l, keyOf P k p.1 = some l) ∧ MapKept.Stamped arr clock

theorem MapSt.made (w : World) : MapSt P k (w.alloc (.map #[] 0)) w.heap.size [] :=
  ⟨#[], 0, (MapKept.heap_alloc w _).1, rfl, by simp, MapKept.stamped_empty 0⟩

theorem MapSt.is {w : World} {b : Nat} {es} (h : MapSt P k w b es) : MapIs P k w b es := by
  obtain ⟨arr, clock, hb, rfl, hg, hs⟩ := h
  refine ⟨arr, clock, hb, rfl, hg, ?_⟩
  rw [List.map_map]
  exact hs.2.2

theorem MapSt.same {w w' : World} {b : Nat} {es} (h : MapSt P k w b es) (hb : w'.heap[b]? = w.heap[b]?) : MapSt P k w' b es := by
  obtain ⟨a, c, h1, h2⟩ := h
  exact ⟨a, c, by rw [hb]; exact h1, h2⟩

theorem MapSt.put {w : World} {b : Nat} {es} {t e : TypeId} (h : MapSt P k w b es) (K : Keyed P k) (ht : P.underlying t = some (.map k e))
    {key val : Value} {kl : Lit} (hkey : keyOf P k key = some kl) :
    ∃ o es', (Instr.mapUpdate t (.map (some b)) key val).run P w = .ok () (setObjAt w b o) ∧ MapSt P k (setObjAt w b o) b es' ∧ ∀ p ∈ es', p = (key, val) ∨ p ∈ es := by
  obtain ⟨arr, clock, hb, rfl, hgood, hst⟩ := h
  rcases K.find w hkey arr.toList (fun e he => hgood (e.key, e.val) (List.mem_map.2 ⟨e, he, rfl⟩)) with ⟨hf, hne⟩ | ⟨j, e0, hf, hj, hk⟩
  · refine ⟨.map (arr.push ⟨key, val, clock⟩) (clock + 1), arr.toList.map (fun e => (e.key, e.val)) ++ [(key, val)], ?_, ⟨arr.push ⟨key, val, clock⟩, clock + 1, setObjAt_same hb, by simp, ?_, ?_⟩, ?_⟩
    · simp [Instr.mapUpdate, run_underlying ht, MapKept.run_getObj_map hb, K.check w false hkey, hf, MapKept.run_setObj_map _ hb, Result.andThen, setObjAt]
    · intro p hp
      rcases List.mem_append.1 hp with hp | hp
      · exact hgood p hp
      · simp at hp; subst hp; exact ⟨kl, hkey⟩
    · exact MapKept.stamped_push hst hne
    · intro p hp
      rcases List.mem_append.1 hp with hp | hp
      · exact .inr hp
      · simp at hp; exact .inl hp
  · have hj' : arr[j]? = some e0 := by simpa using hj
    have hlist : (arr.modify j (fun e' => { e' with key := key, val := val })).toList = arr.toList.set j { e0 with key := key, val := val } := by
      rw [Array.toList_modify, ChangeMaps.modify_eq_set _ _ _ _ hj]
    refine ⟨.map (arr.modify j (fun e' => { e' with key := key, val := val })) clock, (arr.toList.map (fun e => (e.key, e.val))).set j (key, val), ?_, ⟨arr.modify j (fun e' => { e' with key := key, val := val }), clock, setObjAt_same hb, ?_, ?_, ?_⟩, ?_⟩
    · simp [Instr.mapUpdate, run_underlying ht, MapKept.run_getObj_map hb, K.check w false hkey, hf, hj', hk, K.stays w hkey, MapKept.run_setObj_map _ hb, Result.andThen, setObjAt]
    · rw [hlist, List.map_set]
    · intro p hp
      rcases List.mem_or_eq_of_mem_set hp with hp | rfl
      · exact hgood p hp
      · exact ⟨kl, hkey⟩
    · exact MapKept.stamped_modify hst j _ (fun _ _ => rfl) (fun e _ he => by rw [hj'] at he; cases he; exact hk.symm)
    · intro p hp
      rcases List.mem_or_eq_of_mem_set hp with hp | rfl
      · exact .inr hp
      · exact .inl rfl
end

/-- m[key] = val at the operation, by the equation on its run -/
theorem wpList_put_run {P : Program} (w : World) {ops : Array Oper} {rest : List Oper} {o : Oper} {a : Act} {Q : Exit → Act → World → Prop}
    (hg : o.guard = none) (m x v : Operand) (t : TypeId) (hop : o.op = Op.mapUpdate t m x v) {b : Nat} {key val : Value} {ob : Obj}
    (hrun : (Instr.mapUpdate t (.map (some b)) key val).run P w = .ok () (setObjAt w b ob))
    (hm : a.eval m = .map (some b)) (hx : a.eval x = key) (hv : a.eval v = val)
    (hK : wpList P ops Q rest (a.put o.dst undef) (setObjAt w b ob)) :
    wpList P ops Q (o :: rest) a w := by
  refine wpList_plain hg fun K' hK' => ?_
  unfold Oper.wp
  simp [execOp, hop, hm, hx, hv, hrun, Result.andThen]
  exact hK' _ _ hK

/-- 'range m' at the operation -/
theorem wpList_range_run {P : Program} (w : World) {ops : Array Oper} {rest : List Oper} {o : Oper} {a : Act} {Q : Exit → Act → World → Prop}
    (hg : o.guard = none) (m : Operand) (t : TypeId) (hop : o.op = Op.range t m) {b : Nat} {v : Value} {w' : World}
    (hrun : (Instr.range t (.map (some b))).run P w = .ok v w') (hm : a.eval m = .map (some b))
    (hK : wpList P ops Q rest (a.put o.dst v) w') :
    wpList P ops Q (o :: rest) a w := by
  refine wpList_plain hg fun K' hK' => ?_
  unfold Oper.wp
  simp [execOp, hop, hm, hrun, Result.andThen]
  exact hK' _ _ hK

/-- the loop's step at the operation -/
theorem wpList_next_run {P : Program} (w : World) {ops : Array Oper} {rest : List Oper} {o : Oper} {a : Act} {Q : Exit → Act → World → Prop}
    (hg : o.guard = none) (it : Operand) (hop : o.op = Op.next it false) {r : Nat} {v : Value} {w' : World}
    (hrun : (Instr.next (.pointer (some ⟨r, 0, none⟩)) false o.type).run P w = .ok v w') (hm : a.eval it = .pointer (some ⟨r, 0, none⟩))
    (hK : wpList P ops Q rest (a.put o.dst v) w') :
    wpList P ops Q (o :: rest) a w := by
  refine wpList_plain hg fun K' hK' => ?_
  unfold Oper.wp
  simp [execOp, hop, hm, hrun, Result.andThen]
  exact hK' _ _ hK

theorem Try.law57 : Keyed Try.prog 57 := Keyed.of_law (deep_law_laid Try.laidOut (m := 3) (by omega) (of_decide_eq_true (by kernel_rfl)) (by kernel_rfl) (by kernel_rfl))
theorem Try.law24 : Keyed Try.prog 24 := int_keyed Try.underlying24

theorem key57 (n : Int) (s : ByteArray) (hn : (Lit.int .i64 n).wf = true) (hs : s.size ≤ maxLen) : ∃ l, keyOf Try.prog 57 (.agg #[.int .i64 n, .string s]) = some l := by
  have h1 : Try.prog.keyType 57 = true := by kernel_rfl
  have h2 : Value.formed Try.prog 57 (.agg #[.int .i64 n, .string s]) = true := by kernel_rfl
  unfold keyOf
  rw [Try.underlying57]
  simp only [h1, h2, Bool.and_self, if_true]
  have hc : Try.prog.cellsOf 57 = 2 := by kernel_rfl
  have hts : Try.prog.types.size = 90 := by kernel_rfl
  have hc3 : Try.prog.cellsOf 3 = 1 := by kernel_rfl
  have hc9 : Try.prog.cellsOf 9 = 1 := by kernel_rfl
  rw [hts]
  have := keyLits_struct2 (P := Try.prog) (t := 57) (c0 := .int .i64 n) (c1 := .string s) 90 Try.underlying57 (by decide) (by decide) hc hc3 hc9 rfl rfl
    (keyLits_int 89 Try.underlying3 hn) (keyLits_string 89 Try.underlying9 hs)
  simp only [Value.cells]
  rw [this]
  exact ⟨_, rfl⟩

theorem key24 (n : Int) (hn : (Lit.int .u16 n).wf = true) : ∃ l, keyOf Try.prog 24 (.int .u16 n) = some l := by
  unfold keyOf
  rw [Try.underlying24]
  simp [mapKey, hn]

/-! names and atoms -/
theorem numS_spec {L : Nat → List ByteArray} {kind : Int} {s : ByteArray} (h : numS L kind s ≠ 0) : 1 ≤ kind ∧ kind ≤ 5 ∧ ∃ i, numS L kind s = i + 1 ∧ (L kind.toNat)[i]? = some s := by
  unfold numS at h ⊢
  by_cases hk : 1 ≤ kind ∧ kind ≤ 5
  · rw [if_pos hk] at h ⊢
    rcases hp : posOf (L kind.toNat) s with _ | n
    · exact absurd hp h
    · exact ⟨hk.1, hk.2, n, rfl, posOf_get hp⟩
  · rw [if_neg hk] at h; exact absurd rfl h

theorem posOf_append_old {l : List ByteArray} {s t : ByteArray} (h : posOf l s ≠ 0) : posOf (l ++ [t]) s = posOf l s := by
  induction l with
  | nil => exact absurd rfl h
  | cons x r ih =>
    by_cases hx : x = s
    · simp [posOf, hx]
    · rcases hr : posOf r s with _ | n
      · simp [posOf, hx, hr] at h
      · have := ih (by simp [hr])
        simp [posOf, hx, this, hr]

theorem numS_put {L : Nat → List ByteArray} {kind k : Int} {s t : ByteArray} (h : numS L k t ≠ 0) : numS (putL L kind s) k t = numS L k t := by
  unfold putL
  split
  · unfold numS at h ⊢
    by_cases hk : 1 ≤ k ∧ k ≤ 5
    · rw [if_pos hk] at h ⊢
      rw [if_pos hk]
      by_cases e : k.toNat = kind.toNat
      · rw [e, addL_same, ← e, posOf_append_old h]
      · rw [addL_other L s e]
    · rw [if_neg hk] at h; exact absurd rfl h
  · rfl

theorem putE_kind {L : Nat → List ByteArray} {kind : Int} {s : ByteArray} (h : putE L kind s = 0) : 1 ≤ kind ∧ kind ≤ 5 := by
  unfold putE at h
  split at h
  · omega
  · rename_i hh; exact Classical.not_not.1 hh

/-- behind a put without error the name has its number, and the atom is of it -/
theorem putA_num {L : Nat → List ByteArray} {kind : Int} {s : ByteArray} (h : putE L kind s = 0) : numS (putL L kind s) kind s ≠ 0 ∧ putA L kind s = kind * 8192 + numS (putL L kind s) kind s := by
  have hk := putE_kind h
  by_cases hn : numS L kind s = 0
  · have hp : putL L kind s = addL L kind.toNat s := by unfold putL; rw [if_pos ⟨h, hn⟩]
    have hnew : s ∉ L kind.toNat := by
      unfold numS at hn; rw [if_pos hk] at hn; exact posOf_none.1 hn
    have e : numS (putL L kind s) kind s = (L kind.toNat).length + 1 := by
      rw [hp]; unfold numS; rw [if_pos hk, addL_same, posOf_append hnew]
    refine ⟨by omega, ?_⟩
    rw [e]; unfold putA; rw [if_pos h, if_pos hn]; omega
  · have e : numS (putL L kind s) kind s = numS L kind s := numS_put hn
    rw [e]
    refine ⟨hn, ?_⟩
    unfold putA; rw [if_pos h, if_neg hn]

theorem atom_inj {L : Nat → List ByteArray} (hl : ∀ k, (L k).length ≤ 4000) {k k' : Int} {s s' : ByteArray} (h : numS L k s ≠ 0) (h' : numS L k' s' ≠ 0)
    (he : k * 8192 + (numS L k s : Int) = k' * 8192 + numS L k' s') : k = k' ∧ s = s' := by
  obtain ⟨a1, a2, i, ei, gi⟩ := numS_spec h
  obtain ⟨b1, b2, j, ej, gj⟩ := numS_spec h'
  have li : i < (L k.toNat).length := (List.getElem?_eq_some_iff.1 gi).1
  have lj : j < (L k'.toNat).length := (List.getElem?_eq_some_iff.1 gj).1
  have := hl k.toNat
  have := hl k'.toNat
  have hkk : k = k' := by omega
  subst hkk
  have hij : i = j := by omega
  subst hij
  rw [gi] at gj
  exact ⟨rfl, Option.some.inj gj⟩

def kv (k : Int) (s : ByteArray) : Value := .agg #[.int .i64 k, .string s]

/-- the table and the two maps -/
structure OneInv (w wr : World) (B : Nat) (L : Nat → List ByteArray) (F : Nat → Prop) (mo mf : Nat) : Prop where
  own : OInv w wr B L F
  lowo : w.heap.size ≤ mo
  lowf : w.heap.size ≤ mf
  ne : mo ≠ mf
  no : ¬ F mo
  nf : ¬ F mf
  of : ∃ es, MapSt Try.prog 57 wr mo es ∧ ∀ p ∈ es, ∃ k s, p = (kv k s, .int .u16 (k * 8192 + numS L k s)) ∧ numS L k s ≠ 0
  from' : ∃ es, MapSt Try.prog 24 wr mf es ∧ ∀ p ∈ es, ∃ k s, p = (.int .u16 (k * 8192 + numS L k s), kv k s) ∧ numS L k s ≠ 0

theorem MapSt.lt {P : Program} {k : TypeId} {w : World} {b : Nat} {es} (h : MapSt P k w b es) : b < w.heap.size := h.is.lt

theorem OneInv.new {w wr w' : World} {B : Nat} {L : Nat → List ByteArray} {F : Nat → Prop} {mo mf : Nat} (h : OneInv w wr B L F mo mf) (hf : Fr (fun _ => False) wr w') : OneInv w w' B L F mo mf := by
  obtain ⟨eo, ho, ho'⟩ := h.of
  obtain ⟨ef, hF, hF'⟩ := h.from'
  exact ⟨h.own.new hf, h.lowo, h.lowf, h.ne, h.no, h.nf, ⟨eo, ho.same (hf.block mo ho.lt (fun x => x)), ho'⟩, ⟨ef, hF.same (hf.block mf hF.lt (fun x => x)), hF'⟩⟩

theorem OneInv.put {w wr w' : World} {B : Nat} {L : Nat → List ByteArray} {F : Nat → Prop} {mo mf : Nat} {kind : Int} {s : ByteArray} (h : OneInv w wr B L F mo mf) (hf : Fr F wr w')
    (ht : Tab w' (grown F wr w') B (putL L kind s)) : OneInv w w' B (putL L kind s) (grown F wr w') mo mf := by
  obtain ⟨eo, ho, ho'⟩ := h.of
  obtain ⟨ef, hF, hF'⟩ := h.from'
  refine ⟨h.own.step hf ht, h.lowo, h.lowf, h.ne, ?_, ?_, ⟨eo, ho.same (hf.block mo ho.lt h.no), ?_⟩, ⟨ef, hF.same (hf.block mf hF.lt h.nf), ?_⟩⟩
  · rintro (x | x)
    · exact h.no x
    · have := ho.lt; omega
  · rintro (x | x)
    · exact h.nf x
    · have := hF.lt; omega
  · intro p hp
    obtain ⟨k, t, rfl, hn⟩ := ho' p hp
    exact ⟨k, t, by rw [numS_put hn], by rw [numS_put hn]; exact hn⟩
  · intro p hp
    obtain ⟨k, t, rfl, hn⟩ := hF' p hp
    exact ⟨k, t, by rw [numS_put hn], by rw [numS_put hn]; exact hn⟩

/-- looked up in the first map -/
theorem OneInv.look_of {w wr : World} {B : Nat} {L : Nat → List ByteArray} {F : Nat → Prop} {mo mf : Nat} (h : OneInv w wr B L F mo mf) {k : Int} {s : ByteArray} (hn : numS L k s ≠ 0) :
    ∃ o hb, (Instr.lookup 54 (.map (some mo)) (.agg #[.int .i64 k, .string s]) true).run Try.prog wr = .ok (.tuple #[.int .u16 o, .bool hb]) wr ∧ (hb = false ∨ hb = true ∧ o = k * 8192 + numS L k s) := by
  obtain ⟨eo, ho, ho'⟩ := h.of
  obtain ⟨a1, a2, i, ei, gi⟩ := numS_spec hn
  have hsz := may_size (h.own.tab.good k.toNat s (List.mem_of_getElem? gi))
  obtain ⟨kl, hkl⟩ := key57 k s (WalkArith.wf_i64 ⟨by omega, by omega⟩) (by unfold maxLen; omega)
  have hz : (zeroValue 24).run Try.prog wr = .ok (.int .u16 0) wr := by kernel_rfl
  rcases ho.is.look Try.law57 Try.underlying54 hz hkl true with ⟨_, hrun⟩ | ⟨v, hin, hrun⟩
  · exact ⟨0, false, hrun, .inl rfl⟩
  · obtain ⟨k', s', heq, _⟩ := ho' _ hin
    simp only [kv, Prod.mk.injEq, Value.agg.injEq, Array.mk.injEq, List.cons.injEq, Value.int.injEq, Value.string.injEq, and_true, true_and] at heq
    obtain ⟨⟨rfl, rfl⟩, rfl⟩ := heq
    exact ⟨_, true, hrun, .inr ⟨rfl, rfl⟩⟩

/-- looked up in the second map -/
theorem OneInv.look_from {w wr : World} {B : Nat} {L : Nat → List ByteArray} {F : Nat → Prop} {mo mf : Nat} (h : OneInv w wr B L F mo mf) {k : Int} {s : ByteArray} (hn : numS L k s ≠ 0) :
    ∃ k' s' hb, (Instr.lookup 55 (.map (some mf)) (.int .u16 (k * 8192 + numS L k s)) true).run Try.prog wr = .ok (.tuple #[.agg #[.int .i64 k', .string s'], .bool hb]) wr ∧ (hb = false ∨ hb = true ∧ k' = k ∧ s' = s) := by
  obtain ⟨ef, hF, hF'⟩ := h.from'
  obtain ⟨a1, a2, i, ei, gi⟩ := numS_spec hn
  have li : i < (L k.toNat).length := (List.getElem?_eq_some_iff.1 gi).1
  have hfew := h.own.tab.few k.toNat
  obtain ⟨kl, hkl⟩ := key24 (k * 8192 + numS L k s) (by simp [Lit.wf, IntKind.min, IntKind.max, IntKind.signed, IntKind.bits]; omega)
  have hz : (zeroValue 57).run Try.prog wr = .ok (.agg #[.int .i64 0, .string ⟨#[]⟩]) wr := by kernel_rfl
  rcases hF.is.look Try.law24 Try.underlying55 hz hkl true with ⟨_, hrun⟩ | ⟨v, hin, hrun⟩
  · exact ⟨0, ⟨#[]⟩, false, hrun, .inl rfl⟩
  · obtain ⟨k', s', heq, hn'⟩ := hF' _ hin
    simp only [kv, Prod.mk.injEq, Value.int.injEq, true_and] at heq
    obtain ⟨heq, rfl⟩ := heq
    obtain ⟨rfl, rfl⟩ := atom_inj h.own.tab.few hn hn' heq
    exact ⟨_, _, true, hrun, .inr ⟨rfl, rfl, rfl⟩⟩

/-- both maps told the pair -/
theorem OneInv.tell_of {w wr : World} {B : Nat} {L : Nat → List ByteArray} {F : Nat → Prop} {mo mf : Nat} (h : OneInv w wr B L F mo mf) {k : Int} {s : ByteArray} (hn : numS L k s ≠ 0) :
    ∃ o, (Instr.mapUpdate 54 (.map (some mo)) (.agg #[.int .i64 k, .string s]) (.int .u16 (k * 8192 + numS L k s))).run Try.prog wr = .ok () (setObjAt wr mo o) ∧ OneInv w (setObjAt wr mo o) B L F mo mf := by
  obtain ⟨eo, ho, ho'⟩ := h.of
  obtain ⟨ef, hF, hF'⟩ := h.from'
  obtain ⟨a1, a2, i, ei, gi⟩ := numS_spec hn
  have hsz := may_size (h.own.tab.good k.toNat s (List.mem_of_getElem? gi))
  obtain ⟨kl, hkl⟩ := key57 k s (WalkArith.wf_i64 ⟨by omega, by omega⟩) (by unfold maxLen; omega)
  obtain ⟨o, es', hrun, hm', hall⟩ := ho.put (val := .int .u16 (k * 8192 + numS L k s)) Try.law57 Try.underlying54 hkl
  have hs : Fr (fun b => b = mo) wr (setObjAt wr mo o) := Fr.of_setObj _ _ _
  refine ⟨o, hrun, ⟨h.own.tab.same hs (fun b hb e => h.no (e ▸ hb)), h.own.low, h.own.fr.over hs (fun b e => by have := h.lowo; omega)⟩, h.lowo, h.lowf, h.ne, h.no, h.nf, ⟨es', hm', ?_⟩, ⟨ef, hF.same (hs.block mf hF.lt (fun e => h.ne e.symm)), hF'⟩⟩
  intro p hp
  rcases hall p hp with rfl | hp
  · exact ⟨k, s, rfl, hn⟩
  · exact ho' p hp

theorem OneInv.tell_from {w wr : World} {B : Nat} {L : Nat → List ByteArray} {F : Nat → Prop} {mo mf : Nat} (h : OneInv w wr B L F mo mf) {k : Int} {s : ByteArray} (hn : numS L k s ≠ 0) :
    ∃ o, (Instr.mapUpdate 55 (.map (some mf)) (.int .u16 (k * 8192 + numS L k s)) (.agg #[.int .i64 k, .string s])).run Try.prog wr = .ok () (setObjAt wr mf o) ∧ OneInv w (setObjAt wr mf o) B L F mo mf := by
  obtain ⟨eo, ho, ho'⟩ := h.of
  obtain ⟨ef, hF, hF'⟩ := h.from'
  obtain ⟨a1, a2, i, ei, gi⟩ := numS_spec hn
  have li : i < (L k.toNat).length := (List.getElem?_eq_some_iff.1 gi).1
  have hfew := h.own.tab.few k.toNat
  obtain ⟨kl, hkl⟩ := key24 (k * 8192 + numS L k s) (by simp [Lit.wf, IntKind.min, IntKind.max, IntKind.signed, IntKind.bits]; omega)
  obtain ⟨o, es', hrun, hm', hall⟩ := hF.put (val := .agg #[.int .i64 k, .string s]) Try.law24 Try.underlying55 hkl
  have hs : Fr (fun b => b = mf) wr (setObjAt wr mf o) := Fr.of_setObj _ _ _
  refine ⟨o, hrun, ⟨h.own.tab.same hs (fun b hb e => h.nf (e ▸ hb)), h.own.low, h.own.fr.over hs (fun b e => by have := h.lowf; omega)⟩, h.lowo, h.lowf, h.ne, h.no, h.nf, ⟨eo, ho.same (hs.block mo ho.lt (fun e => h.ne e)), ho'⟩, ⟨es', hm', ?_⟩⟩
  intro p hp
  rcases hall p hp with rfl | hp
  · exact ⟨k, s, rfl, hn⟩
  · exact hF' p hp

/-- the walk over the second map: the table, the map as it was when the loop began, the iterator in block r, how many are left -/
def Ranged (w wr : World) (B : Nat) (L : Nat → List ByteArray) (F : Nat → Prop) (mf r n : Nat) : Prop :=
  OInv w wr B L F ∧ w.heap.size ≤ r ∧ ¬ F r ∧ mf ≠ r ∧ ∃ arr clock seen, wr.heap[mf]? = some (.map arr clock) ∧ wr.heap[r]? = some (.mapIter (some mf) clock seen clock) ∧ MapKept.Stamped arr clock ∧
    (∀ p ∈ arr.toList, ∃ k s, p.key = .int .u16 (k * 8192 + numS L k s) ∧ p.val = kv k s ∧ numS L k s ≠ 0) ∧ (leftOf arr seen).size = n

theorem Ranged.new {w wr w' : World} {B : Nat} {L : Nat → List ByteArray} {F : Nat → Prop} {mf r n : Nat} (h : Ranged w wr B L F mf r n) (hf : Fr (fun _ => False) wr w') : Ranged w w' B L F mf r n := by
  obtain ⟨h1, h2, h3, h4, arr, clock, seen, hm, hr, rest⟩ := h
  exact ⟨h1.new hf, h2, h3, h4, arr, clock, seen, (hf.block mf (Array.getElem?_eq_some_iff.1 hm).1 (fun x => x)).trans hm, (hf.block r (Array.getElem?_eq_some_iff.1 hr).1 (fun x => x)).trans hr, rest⟩

theorem OneInv.range {w wr : World} {B : Nat} {L : Nat → List ByteArray} {F : Nat → Prop} {mo mf : Nat} (h : OneInv w wr B L F mo mf) :
    ∃ w' n, (Instr.range 55 (.map (some mf))).run Try.prog wr = .ok (.pointer (some ⟨wr.heap.size, 0, none⟩)) w' ∧ Ranged w w' B L F mf wr.heap.size n := by
  obtain ⟨ef, hF, hF'⟩ := h.from'
  have hlt := hF.lt
  obtain ⟨arr, clock, hb, rfl, hg, hst⟩ := hF
  refine ⟨_, (leftOf arr #[]).size, run_range_map wr 55 24 57 mf arr clock Try.underlying55 hb, h.own.new (Fr.of_alloc _ _ _), h.own.fr.size, fun x => by have := h.own.tab.old _ x; omega, by omega, arr, clock, #[], ?_, heap_alloc_new _ _, hst, ?_, rfl⟩
  · rw [heap_alloc_old _ _ hlt]; exact hb
  · intro p hp
    obtain ⟨k, s, he, hn⟩ := hF' (p.key, p.val) (List.mem_map.2 ⟨p, hp, rfl⟩)
    simp only [Prod.mk.injEq] at he
    exact ⟨k, s, he.1, he.2, hn⟩

theorem Ranged.next {w wr : World} {B : Nat} {L : Nat → List ByteArray} {F : Nat → Prop} {mf r n : Nat} (h : Ranged w wr B L F mf r n) (ty : TypeId) :
    (n = 0 ∧ (Instr.next (.pointer (some ⟨r, 0, none⟩)) false ty).run Try.prog wr = .ok (.tuple #[.bool false]) wr) ∨
    ∃ k s w' n', numS L k s ≠ 0 ∧ (Instr.next (.pointer (some ⟨r, 0, none⟩)) false ty).run Try.prog wr = .ok (.tuple #[.bool true, .int .u16 (k * 8192 + numS L k s), .agg #[.int .i64 k, .string s]]) w' ∧
      (Instr.entry (.pointer (some ⟨r, 0, none⟩))).run Try.prog w' = .ok (.tuple #[.int .u16 (k * 8192 + numS L k s), .agg #[.int .i64 k, .string s]]) w' ∧ n' < n ∧ Ranged w w' B L F mf r n' := by
  obtain ⟨h1, h2, h3, h4, arr, clock, seen, hm, hr, hst, hgood, rfl⟩ := h
  rcases run_next_at (P := Try.prog) wr ty r mf clock clock seen arr clock hr hm hst.1 (Nat.le_refl _) with ⟨h0, hrun⟩ | ⟨e, he, w1, hw1, hrun⟩
  · exact .inl ⟨h0, hrun⟩
  · right
    obtain ⟨k, s, hk, hv, hn⟩ := hgood e (mem_left he).1
    rw [hk, hv] at hrun
    have hrlt := (Array.getElem?_eq_some_iff.1 hr).1
    have hw1f : Fr (fun _ => False) wr w1 := by rcases hw1 with rfl | rfl; exact Fr.refl _ _; exact Fr.of_drew _ _
    have hset : Fr (fun b => b = r) wr (ChangeMaps.setBlock w1 r (.mapIter (some mf) clock (seen.push e.born) clock)) := by
      refine ⟨hw1f.os, hw1f.tape, hw1f.output, ?_, ?_⟩
      · have := hw1f.size; simpa [ChangeMaps.setBlock] using this
      · intro b hb hne
        rw [← hw1f.block b hb (fun x => x)]
        simp only [ChangeMaps.setBlock, Array.getElem?_setIfInBounds]
        rw [if_neg (fun x => hne x.symm)]
    have hr1 : w1.heap[r]? = some (.mapIter (some mf) clock seen clock) := (hw1f.block r hrlt (fun x => x)).trans hr
    have hr2 : (ChangeMaps.setBlock w1 r (.mapIter (some mf) clock (seen.push e.born) clock)).heap[r]? = some (.mapIter (some mf) clock (seen.push e.born) clock) := by
      have := (Array.getElem?_eq_some_iff.1 hr1).1
      simp [ChangeMaps.setBlock, this]
    have hm2 := (hset.block mf (Array.getElem?_eq_some_iff.1 hm).1 (fun x => h4 x)).trans hm
    refine ⟨k, s, _, _, hn, hrun, ?_, left_shrinks arr seen e he, ⟨h1.tab.same hset (fun b hb x => h3 (x ▸ hb)), h1.low, h1.fr.over hset (fun b x => by omega)⟩, h2, h3, h4, arr, clock, seen.push e.born, hm2, hr2, hst, hgood, rfl⟩
    have := run_entry_at (P := Try.prog) _ r mf clock seen arr clock e hr2 hm2 (mem_left he).1 hst.2.1
    rw [hk, hv] at this
    exact this

/-- what the table tells of an atom that it has told -/
theorem one_name {w : World} {F : Nat → Prop} {B : Nat} {L : Nat → List ByteArray} (h : Tab w F B L) {k : Int} {s : ByteArray} (hn : numS L k s ≠ 0) :
    Calls Try.prog 16 #[.pointer (some ⟨B, 0, none⟩), .int .u16 (k * 8192 + numS L k s)] w fun e w' => e = .returned (.tuple #[.string s, .bool true]) ∧ Fr (fun _ => False) w w' := by
  obtain ⟨a1, a2, i, ei, gi⟩ := numS_spec hn
  have li : i < (L k.toNat).length := (List.getElem?_eq_some_iff.1 gi).1
  have hfew := h.few k.toNat
  refine (name_any h (k * 8192 + numS L k s) (by omega) (by omega)).mono ?_
  rintro e w' ⟨rfl, q, rfl⟩
  refine ⟨?_, Fr.of_drewN _ _ q⟩
  have e0 : k * 8192 + (numS L k s : Int) ≠ 1 := by omega
  have e1 : (k * 8192 + (numS L k s : Int)) / 8192 = k := by omega
  have e2 : (k * 8192 + (numS L k s : Int)) % 8192 = i + 1 := by omega
  have : nameOf L (k * 8192 + numS L k s) = some s := by
    unfold nameOf
    rw [if_neg e0, e1, e2]
    simp only [a1, a2, true_and]
    rw [if_pos (by omega)]
    have : ((i : Int) + 1).toNat - 1 = i := by omega
    rw [this]
    exact gi
  rw [this]; rfl
theorem one_find {w : World} {F : Nat → Prop} {B : Nat} {L : Nat → List ByteArray} (h : Tab w F B L) {k : Int} {s : ByteArray} (hn : numS L k s ≠ 0) :
    Calls Try.prog 12 #[.pointer (some ⟨B, 0, none⟩), .int .i64 k, .string s] w fun e w' => e = .returned (.tuple #[.int .u16 (k * 8192 + numS L k s), .bool true]) ∧ w = w' := by
  obtain ⟨a1, a2, i, ei, gi⟩ := numS_spec hn
  have hsz := may_size (h.good k.toNat s (List.mem_of_getElem? gi))
  have := find_any h k s (WalkArith.wf_i64 ⟨by omega, by omega⟩) (by unfold maxLen; omega)
  have e1 : (if numS L k s = 0 then (0 : Int) else k * 8192 + numS L k s) = k * 8192 + numS L k s := if_neg hn
  have e2 : decide (numS L k s ≠ 0) = true := by simpa using hn
  rw [e1, e2] at this
  exact this
end Go.Proofs.Ytcpgfcpmjalacaa
