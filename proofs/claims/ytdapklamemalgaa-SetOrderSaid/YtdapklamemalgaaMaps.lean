/- Maps as lists of entries, and maps that know words. -/
import Derived.Test.YtdapklamemalgaaKin
import Derived.Maps.Own
import Derived.StringKeys
namespace Go.Proofs.Ytdapklamemalgaa
set_option linter.unusedVariables false
set_option linter.unusedSimpArgs false
open Go.RowKit Go.Maps

section
variable {P : Program} {k : TypeId}

/-- block b of w is a map with these entries, in the order in which they came -/
def MapIs (P : Program) (k : TypeId) (w : World) (b : Nat) (es : List (Value × Value)) : Prop :=
  ∃ arr clock, w.heap[b]? = some (.map arr clock) ∧ arr.toList.map (fun e => (e.key, e.val)) = es ∧
    (∀ p ∈ es, ∃ l, keyOf P k p.1 = some l) ∧ (es.map (·.1)).Nodup

theorem MapIs.made (w : World) : MapIs P k (w.alloc (.map #[] 0)) w.heap.size [] :=
  ⟨#[], 0, (MapKept.heap_alloc w _).1, rfl, by simp, by simp⟩

theorem MapIs.lt {w : World} {b : Nat} {es} (h : MapIs P k w b es) : b < w.heap.size := by
  obtain ⟨_, _, hb, _⟩ := h
  exact (Array.getElem?_eq_some_iff.1 hb).1

theorem MapIs.same {w w' : World} {b : Nat} {es} (h : MapIs P k w b es) (hb : w'.heap[b]? = w.heap[b]?) : MapIs P k w' b es := by
  obtain ⟨a, c, h1, h2⟩ := h
  exact ⟨a, c, by rw [hb]; exact h1, h2⟩

theorem MapIs.look {w : World} {b : Nat} {es} {t e : TypeId} (h : MapIs P k w b es) (K : Keyed P k) (ht : P.underlying t = some (.map k e)) {z : Value} (hz : (zeroValue e).run P w = .ok z w)
    {key : Value} {kl : Lit} (hkey : keyOf P k key = some kl) (c : Bool) :
    ((∀ p ∈ es, p.1 ≠ key) ∧ (Instr.lookup t (.map (some b)) key c).run P w = .ok (if c then .tuple #[z, .bool false] else z) w) ∨
    ∃ v, (key, v) ∈ es ∧ (Instr.lookup t (.map (some b)) key c).run P w = .ok (if c then .tuple #[v, .bool true] else v) w := by
  obtain ⟨arr, clock, hb, rfl, hgood, hnd⟩ := h
  have hchk := K.check w arr.isEmpty hkey
  rcases K.find w hkey arr.toList (fun e he => hgood (e.key, e.val) (List.mem_map.2 ⟨e, he, rfl⟩)) with ⟨hf, hne⟩ | ⟨j, e0, hf, hj, hk⟩
  · left
    refine ⟨fun p hp => ?_, ?_⟩
    · obtain ⟨x, hx, rfl⟩ := List.mem_map.1 hp
      exact hne x hx
    · unfold Instr.lookup
      simp [run_underlying ht, getObj, Sem.run, hb, hchk, hf, hz]
  · right
    refine ⟨e0.val, List.mem_map.2 ⟨e0, List.mem_of_getElem? hj, by rw [hk]⟩, ?_⟩
    unfold Instr.lookup
    simp [run_underlying ht, getObj, Sem.run, hb, hchk, hf]

/-- the world with block b turned into o -/
def setObjAt (w : World) (b : Nat) (o : Obj) : World := { w with heap := w.heap.setIfInBounds b o }

theorem setObjAt_same {w : World} {b : Nat} {o o' : Obj} (h : w.heap[b]? = some o') : (setObjAt w b o).heap[b]? = some o := by
  have := (Array.getElem?_eq_some_iff.1 h).1
  simp [setObjAt, this]
theorem setObjAt_other {w : World} {b k : Nat} {o : Obj} (h : k ≠ b) : (setObjAt w b o).heap[k]? = w.heap[k]? := by
  simp only [setObjAt, Array.getElem?_setIfInBounds]
  rw [if_neg (by omega)]
theorem setObjAt_size {w : World} {b : Nat} {o : Obj} : (setObjAt w b o).heap.size = w.heap.size := by simp [setObjAt]

theorem MapIs.put_new {w : World} {b : Nat} {es} {t e : TypeId} (h : MapIs P k w b es) (K : Keyed P k) (ht : P.underlying t = some (.map k e))
    {key val : Value} {kl : Lit} (hkey : keyOf P k key = some kl) (hne : ∀ p ∈ es, p.1 ≠ key) :
    ∃ o, (Instr.mapUpdate t (.map (some b)) key val).run P w = .ok () (setObjAt w b o) ∧ MapIs P k (setObjAt w b o) b (es ++ [(key, val)]) := by
  obtain ⟨arr, clock, hb, rfl, hgood, hnd⟩ := h
  rcases K.find w hkey arr.toList (fun e he => hgood (e.key, e.val) (List.mem_map.2 ⟨e, he, rfl⟩)) with ⟨hf, _⟩ | ⟨j, e0, hf, hj, hk⟩
  · refine ⟨.map (arr.push ⟨key, val, clock⟩) (clock + 1), ?_, arr.push ⟨key, val, clock⟩, clock + 1, setObjAt_same hb, by simp, ?_, ?_⟩
    · simp [Instr.mapUpdate, run_underlying ht, MapKept.run_getObj_map hb, K.check w false hkey, hf, MapKept.run_setObj_map _ hb, Result.andThen, setObjAt]
    · intro p hp
      rcases List.mem_append.1 hp with hp | hp
      · exact hgood p hp
      · simp at hp; subst hp; exact ⟨kl, hkey⟩
    · rw [List.map_append, List.nodup_append]
      refine ⟨hnd, by simp, ?_⟩
      intro a ha b hb'
      obtain ⟨p, hp, rfl⟩ := List.mem_map.1 ha
      simp at hb'; subst hb'
      exact hne p hp
  · exact absurd hk (hne (e0.key, e0.val) (List.mem_map.2 ⟨e0, List.mem_of_getElem? hj, rfl⟩))

theorem MapIs.put_old {w : World} {b : Nat} {es} {t e : TypeId} (h : MapIs P k w b es) (K : Keyed P k) (ht : P.underlying t = some (.map k e))
    {key val : Value} {kl : Lit} (hkey : keyOf P k key = some kl) (hin : ∃ v, (key, v) ∈ es) :
    ∃ o j v0, (Instr.mapUpdate t (.map (some b)) key val).run P w = .ok () (setObjAt w b o) ∧ es[j]? = some (key, v0) ∧ MapIs P k (setObjAt w b o) b (es.set j (key, val)) := by
  obtain ⟨arr, clock, hb, rfl, hgood, hnd⟩ := h
  rcases K.find w hkey arr.toList (fun e he => hgood (e.key, e.val) (List.mem_map.2 ⟨e, he, rfl⟩)) with ⟨hf, hne⟩ | ⟨j, e0, hf, hj, hk⟩
  · obtain ⟨v, hv⟩ := hin
    obtain ⟨x, hx, hxe⟩ := List.mem_map.1 hv
    simp only [Prod.mk.injEq] at hxe
    exact absurd hxe.1 (hne x hx)
  · have hj' : arr[j]? = some e0 := by simpa using hj
    have hlist : (arr.modify j (fun e' => { e' with key := key, val := val })).toList = arr.toList.set j { e0 with key := key, val := val } := by
      rw [Array.toList_modify, ChangeMaps.modify_eq_set _ _ _ _ hj]
    refine ⟨.map (arr.modify j (fun e' => { e' with key := key, val := val })) clock, j, e0.val, ?_, ?_, arr.modify j (fun e' => { e' with key := key, val := val }), clock, setObjAt_same hb, ?_, ?_, ?_⟩
    · simp [Instr.mapUpdate, run_underlying ht, MapKept.run_getObj_map hb, K.check w false hkey, hf, hj', hk, K.stays w hkey, MapKept.run_setObj_map _ hb, Result.andThen, setObjAt]
    · simp [List.getElem?_map, hj', hk]
    · rw [hlist, List.map_set]
    · intro p hp
      rcases List.mem_or_eq_of_mem_set hp with hp | rfl
      · exact hgood p hp
      · exact ⟨kl, hkey⟩
    · rw [List.map_set]
      have : (List.map (fun x => x.fst) (List.map (fun e => (e.key, e.val)) arr.toList)).set j key = List.map (fun x => x.fst) (List.map (fun e => (e.key, e.val)) arr.toList) := by
        apply List.ext_getElem?
        intro i
        rw [List.getElem?_set]
        split
        · rename_i h; subst h
          split
          · simp [hj', hk]
          · rename_i h2; simp at h2; simp [h2]
        · rfl
      rw [this]; exact hnd
end

/-- m[key] = val at the operation, the key being new -/
theorem wpList_put_new {P : Program} {k : TypeId} (w : World) {ops : Array Oper} {rest : List Oper} {o : Oper} {a : Act} {Q : Exit → Act → World → Prop}
    (hg : o.guard = none) (m x v : Operand) (t : TypeId) (hop : o.op = Op.mapUpdate t m x v)
    (e : TypeId) (K : Keyed P k) (ht : P.underlying t = some (.map k e)) (b : Nat) (es : List (Value × Value)) (key val : Value) (kl : Lit)
    (hm : a.eval m = .map (some b)) (hx : a.eval x = key) (hv : a.eval v = val) (hown : MapIs P k w b es) (hkey : keyOf P k key = some kl) (hne : ∀ p ∈ es, p.1 ≠ key)
    (hK : ∀ ob, MapIs P k (setObjAt w b ob) b (es ++ [(key, val)]) → wpList P ops Q rest (a.put o.dst undef) (setObjAt w b ob)) :
    wpList P ops Q (o :: rest) a w := by
  refine wpList_plain hg fun K' hK' => ?_
  obtain ⟨ob, hrun, h⟩ := hown.put_new (val := val) K ht hkey hne
  unfold Oper.wp
  simp [execOp, hop, hm, hx, hv, hrun, Result.andThen]
  exact hK' _ _ (hK ob h)


theorem Try.law36 : Keyed Try.prog 36 := Keyed.of_law (WideMaps.string_law Try.underlying36)
theorem key36 (s : ByteArray) (hs : s.size ≤ maxLen) : ∃ l, keyOf Try.prog 36 (.string s) = some l := by
  unfold keyOf
  rw [Try.underlying36]
  simp [mapKey, Try.underlying36, hs]
/-- the map knows just these words -/
def KnowIs (w : World) (b : Nat) (l : List ByteArray) : Prop :=
  ∃ es, MapIs Try.prog 36 w b es ∧ (∀ p ∈ es, p.2 = .agg #[] ∧ ∃ z, p.1 = .string z) ∧ ∀ z, (∃ v, (Value.string z, v) ∈ es) ↔ z ∈ l
theorem KnowIs.made (w : World) : KnowIs (w.alloc (.map #[] 0)) w.heap.size [] := ⟨[], MapIs.made w, by simp, by simp⟩
theorem KnowIs.same {w w' : World} {b : Nat} {l : List ByteArray} (h : KnowIs w b l) (hb : w'.heap[b]? = w.heap[b]?) : KnowIs w' b l := by
  obtain ⟨es, h1, h2⟩ := h
  exact ⟨es, h1.same hb, h2⟩
theorem KnowIs.lt {w : World} {b : Nat} {l : List ByteArray} (h : KnowIs w b l) : b < w.heap.size := by
  obtain ⟨es, h1, _⟩ := h
  exact h1.lt
theorem KnowIs.look {w : World} {b : Nat} {l : List ByteArray} (h : KnowIs w b l) {x : ByteArray} (hx : x.size ≤ maxLen) :
    (Instr.lookup 56 (.map (some b)) (.string x) true).run Try.prog w = .ok (.tuple #[.agg #[], .bool (hasL l x)]) w := by
  obtain ⟨es, h1, h2, h3⟩ := h
  obtain ⟨kl, hk⟩ := key36 x hx
  rcases h1.look Try.law36 Try.underlying56 (Try.zeroValue57 w) hk true with ⟨hne, hr⟩ | ⟨v, hv, hr⟩
  · rw [hr]
    have : hasL l x = false := by
      cases e : hasL l x
      · rfl
      · obtain ⟨v, hv⟩ := (h3 x).2 (hasL_iff.1 e)
        exact absurd rfl (hne _ hv)
    rw [this]; rfl
  · rw [hr]
    have : hasL l x = true := hasL_iff.2 ((h3 x).1 ⟨v, hv⟩)
    have hv0 : v = .agg #[] := (h2 _ hv).1
    rw [this, hv0]; rfl
theorem KnowIs.put {w : World} {b : Nat} {l : List ByteArray} (h : KnowIs w b l) {x : ByteArray} (hx : x.size ≤ maxLen) :
    ∃ o, (Instr.mapUpdate 56 (.map (some b)) (.string x) (.agg #[])).run Try.prog w = .ok () (setObjAt w b o) ∧ KnowIs (setObjAt w b o) b (l ++ [x]) := by
  obtain ⟨es, h1, h2, h3⟩ := h
  obtain ⟨kl, hk⟩ := key36 x hx
  by_cases hin : ∃ v, (Value.string x, v) ∈ es
  · obtain ⟨o, j, v0, hr, hj, hm⟩ := h1.put_old (val := .agg #[]) Try.law36 Try.underlying56 hk hin
    have hv0 : v0 = .agg #[] := (h2 _ (List.mem_of_getElem? hj)).1
    subst hv0
    have he : es.set j (Value.string x, Value.agg #[]) = es := by
      apply List.ext_getElem?
      intro i
      rw [List.getElem?_set]
      split
      · rename_i e
        subst e
        split
        · rw [hj]
        · rename_i hlt
          have := (List.getElem?_eq_some_iff.1 hj).1
          omega
      · rfl
    rw [he] at hm
    refine ⟨o, hr, es, hm, h2, fun z => ?_⟩
    rw [h3 z, List.mem_append, List.mem_singleton]
    constructor
    · exact .inl
    · rintro (h | rfl)
      · exact h
      · exact (h3 z).1 hin
  · obtain ⟨o, hr, hm⟩ := h1.put_new (val := .agg #[]) Try.law36 Try.underlying56 hk (fun p hp e => hin ⟨p.2, by rw [← e]; exact hp⟩)
    refine ⟨o, hr, es ++ [(.string x, .agg #[])], hm, ?_, fun z => ?_⟩
    · intro p hp
      rcases List.mem_append.1 hp with hp | hp
      · exact h2 p hp
      · rw [List.mem_singleton] at hp; subst hp; exact ⟨rfl, x, rfl⟩
    · rw [List.mem_append, List.mem_singleton, ← h3 z]
      constructor
      · rintro ⟨v, hv⟩
        rcases List.mem_append.1 hv with hv | hv
        · exact .inl ⟨v, hv⟩
        · rw [List.mem_singleton] at hv
          cases hv
          exact .inr rfl
      · rintro (⟨v, hv⟩ | rfl)
        · exact ⟨v, List.mem_append_left _ hv⟩
        · exact ⟨.agg #[], List.mem_append_right _ (by simp)⟩
theorem Fr.of_setObj (w : World) (b : Nat) (o : Obj) : Fr (fun k => k = b) w (setObjAt w b o) :=
  ⟨rfl, rfl, rfl, by rw [setObjAt_size]; exact Nat.le_refl _, fun i _ hn => setObjAt_other hn⟩
/-- m[key] = val at the operation -/
theorem wpList_know {w : World} {ops : Array Oper} {rest : List Oper} {o : Oper} {a : Act} {Q : Exit → Act → World → Prop}
    (hg : o.guard = none) (m x v : Operand) (hop : o.op = Op.mapUpdate 56 m x v) (b : Nat) (l : List ByteArray) (s : ByteArray)
    (hm : a.eval m = .map (some b)) (hx : a.eval x = .string s) (hv : a.eval v = .agg #[]) (hown : KnowIs w b l) (hs : s.size ≤ maxLen)
    (hK : ∀ ob, KnowIs (setObjAt w b ob) b (l ++ [s]) → wpList Try.prog ops Q rest (a.put o.dst undef) (setObjAt w b ob)) :
    wpList Try.prog ops Q (o :: rest) a w := by
  refine wpList_plain hg fun K' hK' => ?_
  obtain ⟨ob, hrun, h⟩ := hown.put hs
  unfold Oper.wp
  simp [execOp, hop, hm, hx, hv, hrun, Result.andThen]
  exact hK' _ _ (hK ob h)
end Go.Proofs.Ytdapklamemalgaa
