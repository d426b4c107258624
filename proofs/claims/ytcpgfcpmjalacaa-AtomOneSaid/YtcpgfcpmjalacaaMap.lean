/- Maps as association lists. -/
import Derived.Test.YtcpgfcpmjalacaaMay
import Derived.Maps.Own
import Derived.DeepKeys4
namespace Go.Proofs.Ytcpgfcpmjalacaa
open Go.RowKit Go.Maps

section
variable {P : Program} {k : TypeId}

/-- block b of w is a map with these entries, in the order in which they came -/
def MapIs (P : Program) (k : TypeId) (w : World) (b : Nat) (es : List (Value × Value)) : Prop :=
  ∃ arr clock, w.heap[b]? = some (.map arr clock) ∧ arr.toList.map (fun e => (e.key, e.val)) = es ∧
    (∀ p ∈ es, ∃ l, keyOf P k p.1 = some l) ∧ (es.map (·.1)).Nodup

theorem MapIs.made (w : World) : MapIs P k (w.alloc (.map #[] 0)) w.heap.size [] :=
  ⟨#[], 0, (MapKept.heap_alloc w _).1, rfl, by simp, by simp⟩

theorem MapIs.lt {w : World} {b : Nat} {es} (h : MapIs P k w b es) : b < w.heap.size := by
  obtain ⟨_, _, hb, _⟩ := h
  exact (Array.getElem?_eq_some_iff.1 hb).1

theorem MapIs.same {w w' : World} {b : Nat} {es} (h : MapIs P k w b es) (hb : w'.heap[b]? = w.heap[b]?) : MapIs P k w' b es := by
  obtain ⟨a, c, h1, h2⟩ := h
  exact ⟨a, c, by rw [hb]; exact h1, h2⟩

theorem MapIs.look {w : World} {b : Nat} {es} {t e : TypeId} (h : MapIs P k w b es) (K : Keyed P k) (ht : P.underlying t = some (.map k e)) {z : Value} (hz : (zeroValue e).run P w = .ok z w)
    {key : Value} {kl : Lit} (hkey : keyOf P k key = some kl) (c : Bool) :
    ((∀ p ∈ es, p.1 ≠ key) ∧ (Instr.lookup t (.map (some b)) key c).run P w = .ok (if c then .tuple #[z, .bool false] else z) w) ∨
    ∃ v, (key, v) ∈ es ∧ (Instr.lookup t (.map (some b)) key c).run P w = .ok (if c then .tuple #[v, .bool true] else v) w := by
  obtain ⟨arr, clock, hb, rfl, hgood, hnd⟩ := h
  have hchk := K.check w arr.isEmpty hkey
  rcases K.find w hkey arr.toList (fun e he => hgood (e.key, e.val) (List.mem_map.2 ⟨e, he, rfl⟩)) with ⟨hf, hne⟩ | ⟨j, e0, hf, hj, hk⟩
  · left
    refine ⟨fun p hp => ?_, ?_⟩
    · obtain ⟨x, hx, rfl⟩ := List.mem_map.1 hp
      exact hne x hx
    · unfold Instr.lookup
      simp [run_underlying ht, getObj, Sem.run, hb, hchk, hf, hz]
  · right
    refine ⟨e0.val, List.mem_map.2 ⟨e0, List.mem_of_getElem? hj, by rw [hk]⟩, ?_⟩
    unfold Instr.lookup
    simp [run_underlying ht, getObj, Sem.run, hb, hchk, hf]

/-- the world with block b turned into o -/
def setObjAt (w : World) (b : Nat) (o : Obj) : World := { w with heap := w.heap.setIfInBounds b o }

theorem setObjAt_same {w : World} {b : Nat} {o o' : Obj} (h : w.heap[b]? = some o') : (setObjAt w b o).heap[b]? = some o := by
  have := (Array.getElem?_eq_some_iff.1 h).1
  simp [setObjAt, this]
theorem setObjAt_other {w : World} {b k : Nat} {o : Obj} (h : k ≠ b) : (setObjAt w b o).heap[k]? = w.heap[k]? := by
  simp only [setObjAt, Array.getElem?_setIfInBounds]
  rw [if_neg (by omega)]
theorem setObjAt_size {w : World} {b : Nat} {o : Obj} : (setObjAt w b o).heap.size = w.heap.size := by simp [setObjAt]

theorem MapIs.put_new {w : World} {b : Nat} {es} {t e : TypeId} (h : MapIs P k w b es) (K : Keyed P k) (ht : P.underlying t = some (.map k e))
    {key val : Value} {kl : Lit} (hkey : keyOf P k key = some kl) (hne : ∀ p ∈ es, p.1 ≠ key) :
    ∃ o, (Instr.mapUpdate t (.map (some b)) key val).run P w = .ok () (setObjAt w b o) ∧ MapIs P k (setObjAt w b o) b (es ++ [(key, val)]) := by
  obtain ⟨arr, clock, hb, rfl, hgood, hnd⟩ := h
  rcases K.find w hkey arr.toList (fun e he => hgood (e.key, e.val) (List.mem_map.2 ⟨e, he, rfl⟩)) with ⟨hf, _⟩ | ⟨j, e0, hf, hj, hk⟩
  · refine ⟨.map (arr.push ⟨key, val, clock⟩) (clock + 1), ?_, arr.push ⟨key, val, clock⟩, clock + 1, setObjAt_same hb, by simp, ?_, ?_⟩
    · simp [Instr.mapUpdate, run_underlying ht, MapKept.run_getObj_map hb, K.check w false hkey, hf, MapKept.run_setObj_map _ hb, Result.andThen, setObjAt]
    · intro p hp
      rcases List.mem_append.1 hp with hp | hp
      · exact hgood p hp
      · simp at hp; subst hp; exact ⟨kl, hkey⟩
    · rw [List.map_append, List.nodup_append]
      refine ⟨hnd, by simp, ?_⟩
      intro a ha b hb'
      obtain ⟨p, hp, rfl⟩ := List.mem_map.1 ha
      simp at hb'; subst hb'
      exact hne p hp
  · exact absurd hk (hne (e0.key, e0.val) (List.mem_map.2 ⟨e0, List.mem_of_getElem? hj, rfl⟩))

theorem MapIs.put_old {w : World} {b : Nat} {es} {t e : TypeId} (h : MapIs P k w b es) (K : Keyed P k) (ht : P.underlying t = some (.map k e))
    {key val : Value} {kl : Lit} (hkey : keyOf P k key = some kl) (hin : ∃ v, (key, v) ∈ es) :
    ∃ o j v0, (Instr.mapUpdate t (.map (some b)) key val).run P w = .ok () (setObjAt w b o) ∧ es[j]? = some (key, v0) ∧ MapIs P k (setObjAt w b o) b (es.set j (key, val)) := by
  obtain ⟨arr, clock, hb, rfl, hgood, hnd⟩ := h
  rcases K.find w hkey arr.toList (fun e he => hgood (e.key, e.val) (List.mem_map.2 ⟨e, he, rfl⟩)) with ⟨hf, hne⟩ | ⟨j, e0, hf, hj, hk⟩
  · obtain ⟨v, hv⟩ := hin
    obtain ⟨x, hx, hxe⟩ := List.mem_map.1 hv
    simp only [Prod.mk.injEq] at hxe
    exact absurd hxe.1 (hne x hx)
  · have hj' : arr[j]? = some e0 := by simpa using hj
    have hlist : (arr.modify j (fun e' => { e' with key := key, val := val })).toList = arr.toList.set j { e0 with key := key, val := val } := by
      rw [Array.toList_modify, ChangeMaps.modify_eq_set _ _ _ _ hj]
    refine ⟨.map (arr.modify j (fun e' => { e' with key := key, val := val })) clock, j, e0.val, ?_, ?_, arr.modify j (fun e' => { e' with key := key, val := val }), clock, setObjAt_same hb, ?_, ?_, ?_⟩
    · simp [Instr.mapUpdate, run_underlying ht, MapKept.run_getObj_map hb, K.check w false hkey, hf, hj', hk, K.stays w hkey, MapKept.run_setObj_map _ hb, Result.andThen, setObjAt]
    · simp [List.getElem?_map, hj', hk]
    · rw [hlist, List.map_set]
    · intro p hp
      rcases List.mem_or_eq_of_mem_set hp with hp | rfl
      · exact hgood p hp
      · exact ⟨kl, hkey⟩
    · rw [List.map_set]
      have : (List.map (fun x => x.fst) (List.map (fun e => (e.key, e.val)) arr.toList)).set j key = List.map (fun x => x.fst) (List.map (fun e => (e.key, e.val)) arr.toList) := by
        apply List.ext_getElem?
        intro i
        rw [List.getElem?_set]
        split
        · rename_i h; subst h
          split
          · simp [hj', hk]
          · rename_i h2; simp at h2; simp [h2]
        · rfl
      rw [this]; exact hnd
end

/-- m[key] = val at the operation, the key being new -/
theorem wpList_put_new {P : Program} {k : TypeId} (w : World) {ops : Array Oper} {rest : List Oper} {o : Oper} {a : Act} {Q : Exit → Act → World → Prop}
    (hg : o.guard = none) (m x v : Operand) (t : TypeId) (hop : o.op = Op.mapUpdate t m x v)
    (e : TypeId) (K : Keyed P k) (ht : P.underlying t = some (.map k e)) (b : Nat) (es : List (Value × Value)) (key val : Value) (kl : Lit)
    (hm : a.eval m = .map (some b)) (hx : a.eval x = key) (hv : a.eval v = val) (hown : MapIs P k w b es) (hkey : keyOf P k key = some kl) (hne : ∀ p ∈ es, p.1 ≠ key)
    (hK : ∀ ob, MapIs P k (setObjAt w b ob) b (es ++ [(key, val)]) → wpList P ops Q rest (a.put o.dst undef) (setObjAt w b ob)) :
    wpList P ops Q (o :: rest) a w := by
  refine wpList_plain hg fun K' hK' => ?_
  obtain ⟨ob, hrun, h⟩ := hown.put_new (val := val) K ht hkey hne
  unfold Oper.wp
  simp [execOp, hop, hm, hx, hv, hrun, Result.andThen]
  exact hK' _ _ (hK ob h)

/-! the keys of atom's tables -/
theorem Try.laidOut : laidOutB Try.prog = true := by kernel_rfl
theorem Try.law72 : Keyed Try.prog 72 := Keyed.of_law (deep_law_laid Try.laidOut (m := 3) (by omega) (of_decide_eq_true (by kernel_rfl)) (by kernel_rfl) (by kernel_rfl))

theorem keyLits_int {P : Program} {t : TypeId} {q : IntKind} {n : Int} (d : Nat) (h : P.underlying t = some (.int q)) (hw : (Lit.int q n).wf = true) : P.keyLits (d + 1) t [.int q n] = some [.int q n] := by
  simp [Program.keyLits, h, hw]
theorem keyLits_string {P : Program} {t : TypeId} {s : ByteArray} (d : Nat) (h : P.underlying t = some .string) (hw : s.size ≤ maxLen) : P.keyLits (d + 1) t [.string s] = some [.string s.data.toList] := by
  simp [Program.keyLits, h, hw]
theorem keyLits_struct2 {P : Program} {t : TypeId} {f0 f1 : Field} {c0 c1 : Value} {l0 l1 : List Lit} (d : Nat) (h : P.underlying t = some (.struct #[f0, f1]))
    (hn0 : (f0.name != "_") = true) (hn1 : (f1.name != "_") = true) (hc : P.cellsOf t = 2) (h0 : P.cellsOf f0.type = 1) (h1 : P.cellsOf f1.type = 1) (o0 : f0.offset = 0) (o1 : f1.offset = 1)
    (e0 : P.keyLits d f0.type [c0] = some l0) (e1 : P.keyLits d f1.type [c1] = some l1) : P.keyLits (d + 1) t [c0, c1] = some (l0 ++ l1) := by
  have hn0' : ¬ f0.name = "_" := by simpa using hn0
  have hn1' : ¬ f1.name = "_" := by simpa using hn1
  simp [Program.keyLits, h, hc, h0, h1, o0, o1, e0, e1, hn0', hn1']

theorem key72 (n : Int) (s : ByteArray) (hn : (Lit.int .i64 n).wf = true) (hs : s.size ≤ maxLen) : ∃ l, keyOf Try.prog 72 (.agg #[.int .i64 n, .string s]) = some l := by
  have h1 : Try.prog.keyType 72 = true := by kernel_rfl
  have h2 : Value.formed Try.prog 72 (.agg #[.int .i64 n, .string s]) = true := by kernel_rfl
  unfold keyOf
  rw [Try.underlying72]
  simp only [h1, h2, Bool.and_self, if_true]
  have hc : Try.prog.cellsOf 72 = 2 := by kernel_rfl
  have hts : Try.prog.types.size = 90 := by kernel_rfl
  have hc3 : Try.prog.cellsOf 3 = 1 := by kernel_rfl
  have hc9 : Try.prog.cellsOf 9 = 1 := by kernel_rfl
  rw [hts]
  have := keyLits_struct2 (P := Try.prog) (t := 72) (c0 := .int .i64 n) (c1 := .string s) 90 Try.underlying72 (by decide) (by decide) hc hc3 hc9 rfl rfl
    (keyLits_int 89 Try.underlying3 hn) (keyLits_string 89 Try.underlying9 hs)
  simp only [Value.cells]
  rw [this]
  exact ⟨_, rfl⟩
end Go.Proofs.Ytcpgfcpmjalacaa
