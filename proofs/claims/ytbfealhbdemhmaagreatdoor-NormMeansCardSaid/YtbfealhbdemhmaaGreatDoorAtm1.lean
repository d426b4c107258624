/- Contracts and lemmas: Atm1 -/
import Derived.Test.YtbfealhbdemhmaaGreatDoorLe
import Derived.Maps.Own
import Derived.DeepKeys4
namespace Go.Proofs.YtbfealhbdemhmaaGreatDoor
set_option linter.unusedVariables false
set_option linter.unusedSimpArgs false
namespace Atm
/-! May -/
open Go.RowKit
theorem ret_bool {a b : Bool} (h : a = b) : Ending.returned (.bool a) = .returned (.bool b) := by rw [h]
theorem ret_int {k : IntKind} {a b : Int} (h : a = b) : Ending.returned (.int k a) = .returned (.int k b) := by rw [h]
/-- a letter -/
def letB (c : UInt8) : Bool := decide (97 ≤ (c.toNat : Int) ∧ (c.toNat : Int) ≤ 122)
/-- a further byte -/
def furB (c : UInt8) : Bool := decide ((48 ≤ (c.toNat : Int) ∧ (c.toNat : Int) ≤ 57) ∨ (c.toNat : Int) = 45 ∨ (c.toNat : Int) = 46)
def okB (c : UInt8) : Bool := letB c || furB c
/-- may be a name -/
def mayB (s : List UInt8) : Bool := decide (1 ≤ s.length ∧ s.length ≤ 24) && (s.head?.map letB).getD false && s.all okB
set_option maxHeartbeats 400000 in
theorem isLetter_any (c : UInt8) (w : World) :
    Calls Tryz.prog 117 #[.int .u8 c.toNat] w fun e w' => e = .returned (.bool (letB c)) ∧ w = w' := by
  have hc := c.toNat_lt
  unfold letB
  go_enter Tryz.func117, Tryz.ntmps117
  go_wp2
  all_goals (go_ret; exact ⟨ret_bool (by simp; try omega), rfl⟩)
set_option maxHeartbeats 400000 in
theorem isFurther_any (c : UInt8) (w : World) :
    Calls Tryz.prog 118 #[.int .u8 c.toNat] w fun e w' => e = .returned (.bool (furB c)) ∧ w = w' := by
  have hc := c.toNat_lt
  unfold furB
  go_enter Tryz.func118, Tryz.ntmps118
  go_wp2
  all_goals (go_ret; exact ⟨ret_bool (by first | rfl | (rw [Bool.eq_iff_iff]; simp; done) | (rw [Bool.eq_iff_iff]; simp; omega)), rfl⟩)
theorem all_take_succ (p : UInt8 → Bool) (s : ByteArray) (k : Nat) (h : k < s.size) :
    (s.data.toList.take (k + 1)).all p = ((s.data.toList.take k).all p && p s[k]) := by
  rw [List.take_succ_eq_append_getElem (by simpa using h)]
  simp [List.all_append]
  rfl
set_option maxHeartbeats 400000 in
theorem may_any (s : ByteArray) (w : World) (hs : s.size ≤ maxLen) :
    Calls Tryz.prog 86 #[.string s] w fun e w' => e = .returned (.bool (mayB s.data.toList)) ∧ w = w' := by
  unfold maxLen at hs
  have hlen : s.data.toList.length = s.size := by simp
  by_cases h0 : s.size = 0
  · have hv : Hid (mayB s.data.toList = false) := by simp [Hid, mayB, hlen, h0]
    go_enter Tryz.func86, Tryz.ntmps86
    go_wp2
    go_ret
    exact ⟨ret_bool hv.out.symm, rfl⟩
  by_cases h1 : 24 < s.size
  · have hv : Hid (mayB s.data.toList = false) := by simp [Hid, mayB, hlen]; omega
    go_enter Tryz.func86, Tryz.ntmps86
    go_wp2
    go_ret
    exact ⟨ret_bool hv.out.symm, rfl⟩
  have hp : 0 < s.size := by omega
  have hhead : s.data.toList.head? = some s[0] := by
    rw [List.head?_eq_getElem?, List.getElem?_eq_getElem (by simpa using hp)]; rfl
  by_cases h2 : letB s[0] = false
  · have hv : Hid (mayB s.data.toList = false) := by simp [Hid, mayB, hhead, h2]
    clear hhead
    go_enter Tryz.func86, Tryz.ntmps86
    go_wp2_with (go_at_call 117; refine (isLetter_any _ _).mono ?_; rintro e w' ⟨rfl, rfl⟩)
    go_ret
    exact ⟨ret_bool hv.out.symm, rfl⟩
  have h3 : letB s[0] = true := by simpa using h2
  have hv : Hid (mayB s.data.toList = s.data.toList.all okB) := by
    simp [Hid, mayB, hhead, h3]; intro _; omega
  have g0 : ((s.size : Int) == 0) = false := by simpa using h0
  have g1 : decide (24 < (s.size : Int)) = false := by simp; omega
  clear hhead h2 h0 h1 hlen
  go_enter Tryz.func86, Tryz.ntmps86
  go_wp2_with (go_at_call 117; refine (isLetter_any _ _).mono ?_; rintro e w' ⟨rfl, rfl⟩)
  clear h3 g0 g1
  go_loop [3, 20] (fun _ i => ∃ k : Nat, k ≤ s.size ∧ i = .int .i64 k ∧ (s.data.toList.take k).all okB = true) (fun _ i => s.size - (intOf i).toNat)
  case atStart => exact ⟨0, by omega, rfl, rfl⟩
  case round =>
    obtain ⟨k, hk, rfl, hall⟩ := hrel
    have Hall := Lib.hid hall
    clear hall
    by_cases hlt : k < s.size
    · have hts := Lib.hid (all_take_succ okB s k hlt)
      cases hl : letB s[k]
      · cases hf : furB s[k]
        · go_wp2_with (first | (go_at_call 117; refine (isLetter_any _ _).mono ?_; rintro e w' ⟨rfl, rfl⟩) | (go_at_call 118; refine (isFurther_any _ _).mono ?_; rintro e w' ⟨rfl, rfl⟩))
          go_ret
          refine ⟨ret_bool ?_, rfl⟩
          rw [hv.out]
          symm
          rw [List.all_eq_false]
          exact ⟨s[k], by simp [ByteArray.getElem_eq_getElem_data], by simp [okB, hl, hf]⟩
        · go_wp2_with (first | (go_at_call 117; refine (isLetter_any _ _).mono ?_; rintro e w' ⟨rfl, rfl⟩) | (go_at_call 118; refine (isFurther_any _ _).mono ?_; rintro e w' ⟨rfl, rfl⟩))
          go_round
          case rel => exact ⟨k + 1, by omega, by go_num, by rw [hts.out, Hall.out]; simp [okB, hl, hf]⟩
          case measure => simp [intOf]; omega
      · go_wp2_with (first | (go_at_call 117; refine (isLetter_any _ _).mono ?_; rintro e w' ⟨rfl, rfl⟩) | (go_at_call 118; refine (isFurther_any _ _).mono ?_; rintro e w' ⟨rfl, rfl⟩))
        go_round
        case rel => exact ⟨k + 1, by omega, by go_num, by rw [hts.out, Hall.out]; simp [okB, hl]⟩
        case measure => simp [intOf]; omega
    · go_wp2
      go_ret
      refine ⟨ret_bool ?_, rfl⟩
      rw [hv.out]
      have := Hall.out
      rw [List.take_of_length_le (by simp; omega)] at this
      exact this.symm
/-! Leaf -/
open Go.RowKit
set_option maxHeartbeats 400000 in
theorem kind_any (a : Int) (w : World) (h0 : 0 ≤ a) (h1 : a ≤ 65535) :
    Calls Tryz.prog 69 #[.int .u16 a] w fun e w' => e = .returned (.int .i64 (a / 8192)) ∧ w = w' := by
  go_enter Tryz.func69, Tryz.ntmps69
  go_wp2
  go_ret
  exact ⟨rfl, rfl⟩
set_option maxHeartbeats 400000 in
theorem number_any (a : Int) (w : World) (h0 : 0 ≤ a) (h1 : a ≤ 65535) :
    Calls Tryz.prog 144 #[.int .u16 a] w fun e w' => e = .returned (.int .i64 (a % 8192)) ∧ w = w' := by
  go_enter Tryz.func144, Tryz.ntmps144
  go_wp2
  go_ret
  exact ⟨rfl, rfl⟩
set_option maxHeartbeats 400000 in
theorem compose_any (k n : Int) (w : World) (h0 : 0 ≤ k) (h1 : k ≤ 5) (h2 : 0 ≤ n) (h3 : n ≤ 8191) :
    Calls Tryz.prog 84 #[.int .i64 k, .int .i64 n] w fun e w' => e = .returned (.int .u16 (k * 8192 + n)) ∧ w = w' := by
  go_enter Tryz.func84, Tryz.ntmps84
  go_wp2
  go_ret
  exact ⟨rfl, rfl⟩
set_option maxHeartbeats 400000 in
theorem named_yes (k : Int) (w : World) (h0 : 1 ≤ k) (h1 : k ≤ 5) :
    Calls Tryz.prog 85 #[.int .i64 k] w fun e w' => e = .returned (.bool true) ∧ w = w' := by
  go_enter Tryz.func85, Tryz.ntmps85
  go_wp2
  go_ret
  exact ⟨rfl, rfl⟩
set_option maxHeartbeats 400000 in
theorem named_no (k : Int) (w : World) (h0 : ¬ (1 ≤ k ∧ k ≤ 5)) :
    Calls Tryz.prog 85 #[.int .i64 k] w fun e w' => e = .returned (.bool false) ∧ w = w' := by
  by_cases h1 : 1 ≤ k
  · have h2 : ¬ k ≤ 5 := fun h => h0 ⟨h1, h⟩
    clear h0
    go_enter Tryz.func85, Tryz.ntmps85
    go_wp2
    go_ret
    exact ⟨rfl, rfl⟩
  · clear h0
    go_enter Tryz.func85, Tryz.ntmps85
    go_wp2
    go_ret
    exact ⟨rfl, rfl⟩
/-! Map -/
open Go.RowKit Go.Maps
section
variable {P : Program} {k : TypeId}
/-- block b of w is a map with these entries, in the order in which they came -/
def MapIs (P : Program) (k : TypeId) (w : World) (b : Nat) (es : List (Value × Value)) : Prop :=
  ∃ arr clock, w.heap[b]? = some (.map arr clock) ∧ arr.toList.map (fun e => (e.key, e.val)) = es ∧
    (∀ p ∈ es, ∃ l, keyOf P k p.1 = some l) ∧ (es.map (·.1)).Nodup
theorem MapIs.made (w : World) : MapIs P k (w.alloc (.map #[] 0)) w.heap.size [] :=
  ⟨#[], 0, (MapKept.heap_alloc w _).1, rfl, by simp, by simp⟩
theorem MapIs.lt {w : World} {b : Nat} {es} (h : MapIs P k w b es) : b < w.heap.size := by
  obtain ⟨_, _, hb, _⟩ := h
  exact (Array.getElem?_eq_some_iff.1 hb).1
theorem MapIs.same {w w' : World} {b : Nat} {es} (h : MapIs P k w b es) (hb : w'.heap[b]? = w.heap[b]?) : MapIs P k w' b es := by
  obtain ⟨a, c, h1, h2⟩ := h
  exact ⟨a, c, by rw [hb]; exact h1, h2⟩
theorem MapIs.look {w : World} {b : Nat} {es} {t e : TypeId} (h : MapIs P k w b es) (K : Keyed P k) (ht : P.underlying t = some (.map k e)) {z : Value} (hz : (zeroValue e).run P w = .ok z w)
    {key : Value} {kl : Lit} (hkey : keyOf P k key = some kl) (c : Bool) :
    ((∀ p ∈ es, p.1 ≠ key) ∧ (Instr.lookup t (.map (some b)) key c).run P w = .ok (if c then .tuple #[z, .bool false] else z) w) ∨
    ∃ v, (key, v) ∈ es ∧ (Instr.lookup t (.map (some b)) key c).run P w = .ok (if c then .tuple #[v, .bool true] else v) w := by
  obtain ⟨arr, clock, hb, rfl, hgood, hnd⟩ := h
  have hchk := K.check w arr.isEmpty hkey
  rcases K.find w hkey arr.toList (fun e he => hgood (e.key, e.val) (List.mem_map.2 ⟨e, he, rfl⟩)) with ⟨hf, hne⟩ | ⟨j, e0, hf, hj, hk⟩
  · left
    refine ⟨fun p hp => ?_, ?_⟩
    · obtain ⟨x, hx, rfl⟩ := List.mem_map.1 hp
      exact hne x hx
    · unfold Instr.lookup
      simp [run_underlying ht, getObj, Sem.run, hb, hchk, hf, hz]
  · right
    refine ⟨e0.val, List.mem_map.2 ⟨e0, List.mem_of_getElem? hj, by rw [hk]⟩, ?_⟩
    unfold Instr.lookup
    simp [run_underlying ht, getObj, Sem.run, hb, hchk, hf]
/-- the world with block b turned into o -/
def setObjAt (w : World) (b : Nat) (o : Obj) : World := { w with heap := w.heap.setIfInBounds b o }
theorem setObjAt_same {w : World} {b : Nat} {o o' : Obj} (h : w.heap[b]? = some o') : (setObjAt w b o).heap[b]? = some o := by
  have := (Array.getElem?_eq_some_iff.1 h).1
  simp [setObjAt, this]
theorem setObjAt_other {w : World} {b k : Nat} {o : Obj} (h : k ≠ b) : (setObjAt w b o).heap[k]? = w.heap[k]? := by
  simp only [setObjAt, Array.getElem?_setIfInBounds]
  rw [if_neg (by omega)]
theorem setObjAt_size {w : World} {b : Nat} {o : Obj} : (setObjAt w b o).heap.size = w.heap.size := by simp [setObjAt]
theorem MapIs.put_new {w : World} {b : Nat} {es} {t e : TypeId} (h : MapIs P k w b es) (K : Keyed P k) (ht : P.underlying t = some (.map k e))
    {key val : Value} {kl : Lit} (hkey : keyOf P k key = some kl) (hne : ∀ p ∈ es, p.1 ≠ key) :
    ∃ o, (Instr.mapUpdate t (.map (some b)) key val).run P w = .ok () (setObjAt w b o) ∧ MapIs P k (setObjAt w b o) b (es ++ [(key, val)]) := by
  obtain ⟨arr, clock, hb, rfl, hgood, hnd⟩ := h
  rcases K.find w hkey arr.toList (fun e he => hgood (e.key, e.val) (List.mem_map.2 ⟨e, he, rfl⟩)) with ⟨hf, _⟩ | ⟨j, e0, hf, hj, hk⟩
  · refine ⟨.map (arr.push ⟨key, val, clock⟩) (clock + 1), ?_, arr.push ⟨key, val, clock⟩, clock + 1, setObjAt_same hb, by simp, ?_, ?_⟩
    · simp [Instr.mapUpdate, run_underlying ht, MapKept.run_getObj_map hb, K.check w false hkey, hf, MapKept.run_setObj_map _ hb, Result.andThen, setObjAt]
    · intro p hp
      rcases List.mem_append.1 hp with hp | hp
      · exact hgood p hp
      · simp at hp; subst hp; exact ⟨kl, hkey⟩
    · rw [List.map_append, List.nodup_append]
      refine ⟨hnd, by simp, ?_⟩
      intro a ha b hb'
      obtain ⟨p, hp, rfl⟩ := List.mem_map.1 ha
      simp at hb'; subst hb'
      exact hne p hp
  · exact absurd hk (hne (e0.key, e0.val) (List.mem_map.2 ⟨e0, List.mem_of_getElem? hj, rfl⟩))
theorem MapIs.put_old {w : World} {b : Nat} {es} {t e : TypeId} (h : MapIs P k w b es) (K : Keyed P k) (ht : P.underlying t = some (.map k e))
    {key val : Value} {kl : Lit} (hkey : keyOf P k key = some kl) (hin : ∃ v, (key, v) ∈ es) :
    ∃ o j v0, (Instr.mapUpdate t (.map (some b)) key val).run P w = .ok () (setObjAt w b o) ∧ es[j]? = some (key, v0) ∧ MapIs P k (setObjAt w b o) b (es.set j (key, val)) := by
  obtain ⟨arr, clock, hb, rfl, hgood, hnd⟩ := h
  rcases K.find w hkey arr.toList (fun e he => hgood (e.key, e.val) (List.mem_map.2 ⟨e, he, rfl⟩)) with ⟨hf, hne⟩ | ⟨j, e0, hf, hj, hk⟩
  · obtain ⟨v, hv⟩ := hin
    obtain ⟨x, hx, hxe⟩ := List.mem_map.1 hv
    simp only [Prod.mk.injEq] at hxe
    exact absurd hxe.1 (hne x hx)
  · have hj' : arr[j]? = some e0 := by simpa using hj
    have hlist : (arr.modify j (fun e' => { e' with key := key, val := val })).toList = arr.toList.set j { e0 with key := key, val := val } := by
      rw [Array.toList_modify, ChangeMaps.modify_eq_set _ _ _ _ hj]
    refine ⟨.map (arr.modify j (fun e' => { e' with key := key, val := val })) clock, j, e0.val, ?_, ?_, arr.modify j (fun e' => { e' with key := key, val := val }), clock, setObjAt_same hb, ?_, ?_, ?_⟩
    · simp [Instr.mapUpdate, run_underlying ht, MapKept.run_getObj_map hb, K.check w false hkey, hf, hj', hk, K.stays w hkey, MapKept.run_setObj_map _ hb, Result.andThen, setObjAt]
    · simp [List.getElem?_map, hj', hk]
    · rw [hlist, List.map_set]
    · intro p hp
      rcases List.mem_or_eq_of_mem_set hp with hp | rfl
      · exact hgood p hp
      · exact ⟨kl, hkey⟩
    · rw [List.map_set]
      have : (List.map (fun x => x.fst) (List.map (fun e => (e.key, e.val)) arr.toList)).set j key = List.map (fun x => x.fst) (List.map (fun e => (e.key, e.val)) arr.toList) := by
        apply List.ext_getElem?
        intro i
        rw [List.getElem?_set]
        split
        · rename_i h; subst h
          split
          · simp [hj', hk]
          · rename_i h2; simp at h2; simp [h2]
        · rfl
      rw [this]; exact hnd
end
/-- m[key] = val at the operation, the key being new -/
theorem wpList_put_new {P : Program} {k : TypeId} (w : World) {ops : Array Oper} {rest : List Oper} {o : Oper} {a : Act} {Q : Exit → Act → World → Prop}
    (hg : o.guard = none) (m x v : Operand) (t : TypeId) (hop : o.op = Op.mapUpdate t m x v)
    (e : TypeId) (K : Keyed P k) (ht : P.underlying t = some (.map k e)) (b : Nat) (es : List (Value × Value)) (key val : Value) (kl : Lit)
    (hm : a.eval m = .map (some b)) (hx : a.eval x = key) (hv : a.eval v = val) (hown : MapIs P k w b es) (hkey : keyOf P k key = some kl) (hne : ∀ p ∈ es, p.1 ≠ key)
    (hK : ∀ ob, MapIs P k (setObjAt w b ob) b (es ++ [(key, val)]) → wpList P ops Q rest (a.put o.dst undef) (setObjAt w b ob)) :
    wpList P ops Q (o :: rest) a w := by
  refine wpList_plain hg fun K' hK' => ?_
  obtain ⟨ob, hrun, h⟩ := hown.put_new (val := val) K ht hkey hne
  unfold Oper.wp
  simp [execOp, hop, hm, hx, hv, hrun, Result.andThen]
  exact hK' _ _ (hK ob h)

/-! the keys of atom's tables -/
theorem Tryz.laidOut : laidOutB Tryz.prog = true := by kernel_rfl
theorem Tryz.law150 : Keyed Tryz.prog 150 := Keyed.of_law (deep_law_laid Tryz.laidOut (m := 3) (by omega) (of_decide_eq_true (by kernel_rfl)) (by kernel_rfl) (by kernel_rfl))
theorem keyLits_int {P : Program} {t : TypeId} {q : IntKind} {n : Int} (d : Nat) (h : P.underlying t = some (.int q)) (hw : (Lit.int q n).wf = true) : P.keyLits (d + 1) t [.int q n] = some [.int q n] := by
  simp [Program.keyLits, h, hw]
theorem keyLits_string {P : Program} {t : TypeId} {s : ByteArray} (d : Nat) (h : P.underlying t = some .string) (hw : s.size ≤ maxLen) : P.keyLits (d + 1) t [.string s] = some [.string s.data.toList] := by
  simp [Program.keyLits, h, hw]
theorem keyLits_struct2 {P : Program} {t : TypeId} {f0 f1 : Field} {c0 c1 : Value} {l0 l1 : List Lit} (d : Nat) (h : P.underlying t = some (.struct #[f0, f1]))
    (hn0 : (f0.name != "_") = true) (hn1 : (f1.name != "_") = true) (hc : P.cellsOf t = 2) (h0 : P.cellsOf f0.type = 1) (h1 : P.cellsOf f1.type = 1) (o0 : f0.offset = 0) (o1 : f1.offset = 1)
    (e0 : P.keyLits d f0.type [c0] = some l0) (e1 : P.keyLits d f1.type [c1] = some l1) : P.keyLits (d + 1) t [c0, c1] = some (l0 ++ l1) := by
  have hn0' : ¬ f0.name = "_" := by simpa using hn0
  have hn1' : ¬ f1.name = "_" := by simpa using hn1
  simp [Program.keyLits, h, hc, h0, h1, o0, o1, e0, e1, hn0', hn1']
theorem key72 (n : Int) (s : ByteArray) (hn : (Lit.int .i64 n).wf = true) (hs : s.size ≤ maxLen) : ∃ l, keyOf Tryz.prog 150 (.agg #[.int .i64 n, .string s]) = some l := by
  have h1 : Tryz.prog.keyType 150 = true := by kernel_rfl
  have h2 : Value.formed Tryz.prog 150 (.agg #[.int .i64 n, .string s]) = true := by kernel_rfl
  unfold keyOf
  rw [Tryz.underlying150]
  simp only [h1, h2, Bool.and_self, if_true]
  have hc : Tryz.prog.cellsOf 150 = 2 := by kernel_rfl
  have hts0 : 1 ≤ Tryz.prog.types.size := of_decide_eq_true (by kernel_rfl)
  obtain ⟨tm, hts⟩ : ∃ m, Tryz.prog.types.size = m + 1 := ⟨Tryz.prog.types.size - 1, by omega⟩
  have hc3 : Tryz.prog.cellsOf 3 = 1 := by kernel_rfl
  have hc9 : Tryz.prog.cellsOf 9 = 1 := by kernel_rfl
  rw [hts]
  have := keyLits_struct2 (P := Tryz.prog) (t := 150) (c0 := .int .i64 n) (c1 := .string s) (tm + 1) Tryz.underlying150 (by decide) (by decide) hc hc3 hc9 rfl rfl
    (keyLits_int tm Tryz.underlying3 hn) (keyLits_string tm Tryz.underlying9 hs)
  simp only [Value.cells]
  rw [this]
  exact ⟨_, rfl⟩
/-! Tab -/
open Go.RowKit
set_option maxHeartbeats 400000 in
theorem row_yes (k : Nat) (B : Nat) (v : Value) (w : World) (h0 : 1 ≤ k) (h1 : k ≤ 5) (hc : w.cell? ⟨B, k, none⟩ = some v) :
    Calls Tryz.prog 87 #[.pointer (some ⟨B, 0, none⟩), .int .i64 k] w fun e w' => e = .returned v ∧ w = w' := by
  go_enter Tryz.func87, Tryz.ntmps87
  go_wp2_with (go_at_call 85; refine (named_yes _ _ (by omega) (by omega)).mono ?_; rintro e w' ⟨rfl, rfl⟩)
  go_ret
  exact ⟨rfl, rfl⟩
set_option maxHeartbeats 400000 in
theorem row_no (k : Int) (B : Nat) (w : World) (h0 : ¬ (1 ≤ k ∧ k ≤ 5)) :
    Calls Tryz.prog 87 #[.pointer (some ⟨B, 0, none⟩), .int .i64 k] w fun e w' => e = .returned (.slice none 0 0) ∧ w = w' := by
  have H := Lib.hid h0
  clear h0
  go_enter Tryz.func87, Tryz.ntmps87
  go_wp2_with (go_at_call 85; refine (named_no _ _ H.out).mono ?_; rintro e w' ⟨rfl, rfl⟩)
  go_ret
  exact ⟨rfl, rfl⟩
set_option maxHeartbeats 400000 in
theorem new_any (w : World) :
    Calls Tryz.prog 47 #[] w fun e w' => e = .returned (.pointer (some ⟨w.heap.size + 1, 0, none⟩)) ∧ (w.alloc (.map #[] 0)).alloc (.cells #[.slice none 0 0, .slice none 0 0, .slice none 0 0, .slice none 0 0, .slice none 0 0, .slice none 0 0, .map (some w.heap.size)] 128) = w' := by
  have hmm := @run_makeMap Tryz.prog
  go_enter Tryz.func47, Tryz.ntmps47
  go_wp2
  go_ret
  exact ⟨rfl, rfl⟩
theorem Tryz.info9 : (Tryz.prog.info? 9).map (fun i => (i.zero, i.size, i.bytes)) = some (some (.string ⟨#[]⟩), 1, 16) := by kernel_rfl
set_option maxHeartbeats 400000 in
theorem number_raw (B m : Nat) (kind : Int) (s : ByteArray) (v : Value) (w : World) (hc : w.cell? ⟨B, 6, none⟩ = some (.map (some m)))
    (hl : (Instr.lookup 124 (.map (some m)) (.agg #[.int .i64 kind, .string s]) false).run Tryz.prog w = .ok v w) :
    Calls Tryz.prog 83 #[.pointer (some ⟨B, 0, none⟩), .int .i64 kind, .string s] w fun e w' => e = .returned v ∧ w = w' := by
  go_enter Tryz.func83, Tryz.ntmps83
  go_wp2
  go_ret
  exact ⟨rfl, rfl⟩
/-- what add leaves -/
def Added (B m k n : Nat) (xs : List Value) (s : ByteArray) (es : List (Value × Value)) (v : Value) (w : World) (e : Ending) (w' : World) : Prop :=
  ∃ g cap w1 ob, e = .returned (.int .i64 (n + 1)) ∧ w1.ownsRow 0 9 1 (.slice (some ⟨g, 0, none⟩) (n + 1) cap) (n + 1) (xs ++ [.string s]) ∧ w.grownBy w1 v.ownBlock ∧
    (v.ownBlock = some g ∨ w.heap.size ≤ g) ∧ w' = setObjAt (w1.setCell ⟨B, k, none⟩ (.slice (some ⟨g, 0, none⟩) (n + 1) cap)) m ob ∧
    MapIs Tryz.prog 150 w' m (es ++ [(.agg #[.int .i64 k, .string s], .int .i64 (n + 1))])
theorem old_block {w w1 : World} {o : Obj} {row : Option Nat} (hg : ((w.alloc o).drew).grownBy w1 row) {j : Nat} (hj : j < w.heap.size) (hne : some j ≠ row) : w1.heap[j]? = w.heap[j]? :=
  (hg.block j (by show j < (w.alloc o).heap.size; simp; omega) hne).trans (heap_alloc_old w o hj)
theorem _root_.Go.World.grownBy.of_alloc_drew {w w1 : World} {o : Obj} {row : Option Nat} (hg : ((w.alloc o).drew).grownBy w1 row) : w.grownBy w1 row :=
  ⟨hg.os, hg.tape, hg.output, Nat.le_trans (by show _ ≤ (w.alloc o).heap.size; simp) hg.size, fun _ hk hne => old_block hg hk hne⟩
theorem cell_of_same {w w1 : World} {a : Addr} (h : w1.heap[a.block]? = w.heap[a.block]?) : w1.cell? a = w.cell? a := by simp [World.cell?, h]
theorem frozen_of_same {w w1 : World} {a : Addr} (h : w1.heap[a.block]? = w.heap[a.block]?) : w1.frozen? a = w.frozen? a := by simp [World.frozen?, h]
set_option maxHeartbeats 1000000 in
theorem add_raw (B m k n : Nat) (s : ByteArray) (v : Value) (xs : List Value) (es : List (Value × Value)) (w : World) (h0 : 1 ≤ k) (h1 : k ≤ 5) (hn : n < 4000) (hs : s.size ≤ maxLen)
    (hB : B < w.heap.size)
    (hc : w.cell? ⟨B, k, none⟩ = some v) (hf : w.frozen? ⟨B, k, none⟩ = false) (hcm : w.cell? ⟨B, 6, none⟩ = some (.map (some m)))
    (hown : w.ownsRow 0 9 1 v n xs) (hvB : v.ownBlock ≠ some B) (hvm : v.ownBlock ≠ some m) (hBm : B ≠ m)
    (hm : MapIs Tryz.prog 150 w m es) (hne : ∀ p ∈ es, p.1 ≠ .agg #[.int .i64 k, .string s]) :
    Calls Tryz.prog 88 #[.pointer (some ⟨B, 0, none⟩), .int .i64 k, .string s] w (Added B m k n xs s es v w) := by
  obtain ⟨i0, hi, hz0, hz1, hz2⟩ := info_parts Tryz.info9
  have hsl : ∃ ao c, v = .slice ao n c := by
    rcases hown.2 with ⟨rfl, rfl⟩ | ⟨g, cap, cur, rfl, _⟩
    · exact ⟨_, _, rfl⟩
    · exact ⟨_, _, rfl⟩
  obtain ⟨ao, c, rfl⟩ := hsl
  obtain ⟨kl, hkl⟩ := key72 k s (WalkArith.wf_i64 ⟨by omega, by omega⟩) hs
  have H := Lib.hid hown
  have HvB := Lib.hid hvB
  have Hvm := Lib.hid hvm
  have Hne := Lib.hid hne
  clear hown hvB hvm hne
  go_enter Tryz.func88, Tryz.ntmps88
  go_wp2
  have hk6 : (k : Int) < 6 := by omega
  have hk0 : 0 ≤ (k : Int) := by omega
  go_region_law (refine step_append_lies _ rfl (.tmp 15) (.tmp 17) 22 rfl 0 9 i0 (.string ⟨#[]⟩) 1 16 Tryz.underlying22 hi hz0 hz1 hz2 rfl (by decide) (.slice ao n c) n xs rfl (H.out.drew.kept (World.grownBy_alloc _ _ none) (by cases ao <;> simp [Value.ownBlock])) ⟨w.heap.size, 0, none⟩ 1 1 [.string s] rfl rfl (by intro j u hu; match j, hu with | 0, hu => simp at hu; subst hu; simp [Addr.add]) (by intro u hu; simp at hu; subst hu; rfl) (by decide) (by unfold maxLen; omega) (by omega) (by omega) _ rfl ?_; intro g cap w1 hown1 hgrow hat hlt; have hbB := old_block hgrow hB (fun h => HvB.out h.symm); have hc1 := (cell_of_same (a := ⟨B, k, none⟩) hbB).trans hc; have hc2 := (cell_of_same (a := ⟨B, 6, none⟩) hbB).trans hcm; have hf1 := (frozen_of_same (a := ⟨B, k, none⟩) hbB).trans hf; have Hg := Lib.hid hgrow; have Ho := Lib.hid hown1; have Ha := Lib.hid hat; have Hb := Lib.hid hbB; clear hgrow hown1 hat hbB)
  all_goals
    have hmw : MapIs Tryz.prog 150 (w1.setCell ⟨B, k, none⟩ (.slice (some ⟨g, 0, none⟩) (n + 1) cap)) m es :=
      hm.same ((Below.heap_setCell _ _ _ _ (by simpa using hBm.symm)).trans (old_block Hg.out hm.lt (fun h => Hvm.out h.symm)))
    have hko : (⟨B, 6, none⟩ : Addr) ≠ ⟨B, k, none⟩ := by simp <;> omega
    have Hm := Lib.hid hmw
    clear hmw hm
    go_wp2_with (at_mapUpdate; refine wpList_put_new _ rfl _ _ _ 124 rfl 3 Tryz.law150 Tryz.underlying124 m es (.agg #[.int .i64 k, .string s]) (.int .i64 (n + 1)) kl rfl rfl rfl Hm.out hkl Hne.out ?_; intro ob hmap; have HM := Lib.hid hmap; clear hmap)
    go_ret
    refine ⟨g, cap, w1, ob, rfl, Ho.out, ?_, ?_, rfl, HM.out⟩
    · exact Hg.out.of_alloc_drew
    · rcases Ha.out with h | h
      · exact .inl h
      · right; rw [h]; show _ ≤ (w.alloc _).heap.size; simp
/-! Tabs -/
open Go.RowKit
instance decBA : DecidableEq ByteArray := fun a b => decidable_of_iff (a.data = b.data) ⟨fun h => by cases a; cases b; simp_all, fun h => by rw [h]⟩
/-- the place of a name in a row, from 1 on; 0 if it has none -/
def posOf : List ByteArray → ByteArray → Nat
  | [], _ => 0
  | x :: r, s => if x = s then 1 else match posOf r s with
    | 0 => 0
    | n + 1 => n + 2
theorem posOf_none {s : ByteArray} : ∀ {l : List ByteArray}, posOf l s = 0 ↔ s ∉ l
  | [] => by simp [posOf]
  | x :: r => by
    have ih := posOf_none (s := s) (l := r)
    unfold posOf
    split
    · rename_i h; simp [h]
    · rename_i h
      have h' : ¬ s = x := fun e => h e.symm
      split
      · rename_i h0; simp [h', ih.1 h0]
      · rename_i n h0
        have : s ∈ r := by
          by_cases hm : s ∈ r
          · exact hm
          · have := ih.2 hm; omega
        simp [this]
theorem posOf_get {s : ByteArray} : ∀ {l : List ByteArray} {n : Nat}, posOf l s = n + 1 → l[n]? = some s
  | [], n, h => by simp [posOf] at h
  | x :: r, n, h => by
    unfold posOf at h
    split at h
    · rename_i he
      obtain rfl : n = 0 := by omega
      simp [he]
    · split at h
      · omega
      · rename_i m h0
        obtain rfl : n = m + 1 := by omega
        simpa using posOf_get h0
theorem nodup_inj {α : Type} {l : List α} (hn : l.Nodup) {i j : Nat} {s : α} (h : l[i]? = some s) (h' : l[j]? = some s) : i = j := by
  obtain ⟨h1, e1⟩ := List.getElem?_eq_some_iff.1 h
  obtain ⟨h2, e2⟩ := List.getElem?_eq_some_iff.1 h'
  have hp := List.pairwise_iff_getElem.1 hn
  rcases Nat.lt_trichotomy i j with hlt | he | hlt
  · exact absurd (e1.trans e2.symm) (hp i j h1 h2 hlt)
  · exact he
  · exact absurd (e2.trans e1.symm) (hp j i h2 h1 hlt)
theorem posOf_some {l : List ByteArray} {s : ByteArray} {i : Nat} (hn : l.Nodup) (h : l[i]? = some s) : posOf l s = i + 1 := by
  have hm : s ∈ l := List.mem_of_getElem? h
  rcases hp : posOf l s with _ | n
  · exact absurd hm (posOf_none.1 hp)
  · rw [nodup_inj hn h (posOf_get hp)]
theorem posOf_le {l : List ByteArray} {s : ByteArray} : posOf l s ≤ l.length := by
  rcases hp : posOf l s with _ | n
  · omega
  · obtain ⟨h1, _⟩ := List.getElem?_eq_some_iff.1 (posOf_get hp)
    omega
theorem posOf_append {l : List ByteArray} {s : ByteArray} (h : s ∉ l) : posOf (l ++ [s]) s = l.length + 1 := by
  induction l with
  | nil => simp [posOf]
  | cons x r ih =>
    have h1 : ¬ x = s := fun e => h (by simp [e])
    have h2 := ih (fun hm => h (by simp [hm]))
    simp [posOf, h1, h2]
/-- only blocks of F, and new ones, turn -/
structure Fr (F : Nat → Prop) (w w' : World) : Prop where
  os : w'.os = w.os
  tape : w'.tape = w.tape
  output : w'.output = w.output
  size : w.heap.size ≤ w'.heap.size
  block : ∀ k, k < w.heap.size → ¬ F k → w'.heap[k]? = w.heap[k]?
theorem Fr.refl (F : Nat → Prop) (w : World) : Fr F w w := ⟨rfl, rfl, rfl, Nat.le_refl _, fun _ _ _ => rfl⟩
theorem Fr.trans {F : Nat → Prop} {a b c : World} (h : Fr F a b) (k : Fr F b c) : Fr F a c :=
  ⟨k.os.trans h.os, k.tape.trans h.tape, k.output.trans h.output, Nat.le_trans h.size k.size, fun i hi hn => (k.block i (Nat.lt_of_lt_of_le hi h.size) hn).trans (h.block i hi hn)⟩
theorem Fr.mono {F G : Nat → Prop} {a b : World} (h : Fr F a b) (hg : ∀ k, k < a.heap.size → F k → G k) : Fr G a b :=
  ⟨h.os, h.tape, h.output, h.size, fun i hi hn => h.block i hi (fun hf => hn (hg i hi hf))⟩
theorem Fr.of_grown {a b : World} {row : Option Nat} (h : a.grownBy b row) : Fr (fun k => row = some k) a b :=
  ⟨h.os, h.tape, h.output, h.size, fun i hi hn => h.block i hi (fun e => hn e.symm)⟩
theorem Fr.of_setCell (w : World) (a : Addr) (v : Value) : Fr (fun k => k = a.block) w (w.setCell a v) :=
  ⟨rfl, rfl, rfl, by simp [World.setCell], fun i _ hn => Below.heap_setCell _ _ _ _ hn⟩
theorem Fr.of_setObj (w : World) (b : Nat) (o : Obj) : Fr (fun k => k = b) w (setObjAt w b o) :=
  ⟨rfl, rfl, rfl, by simp [setObjAt], fun i _ hn => setObjAt_other hn⟩
theorem Fr.of_alloc (F : Nat → Prop) (w : World) (o : Obj) : Fr F w (w.alloc o) :=
  ⟨rfl, rfl, rfl, by simp, fun i hi _ => heap_alloc_old w o hi⟩
theorem Fr.of_drew (F : Nat → Prop) (w : World) : Fr F w w.drew := ⟨rfl, rfl, rfl, Nat.le_refl _, fun _ _ _ => rfl⟩
theorem Fr.below {F : Nat → Prop} {a b : World} {B : Nat} (h : Fr F a b) (hF : ∀ k, F k → B ≤ k) (hB : B ≤ a.heap.size) : Below B a b :=
  ⟨h.os, h.tape, h.output, h.size, fun k hk => h.block k (by omega) (fun hf => by have := hF k hf; omega)⟩
/-- what F has become: its blocks, and the new ones -/
def grown (F : Nat → Prop) (w w' : World) (k : Nat) : Prop := F k ∨ (w.heap.size ≤ k ∧ k < w'.heap.size)
/-- the table at block B has the names L, and lies in the blocks F -/
structure Tab (w : World) (F : Nat → Prop) (B : Nat) (L : Nat → List ByteArray) : Prop where
  nodup : ∀ k, (L k).Nodup
  few : ∀ k, (L k).length ≤ 4000
  good : ∀ k s, s ∈ L k → mayB s.data.toList = true
  none0 : L 0 = []
  old : ∀ b, F b → b < w.heap.size
  inB : F B
  lies : ∃ (m : Nat) (es : List (Value × Value)) (vs : Nat → Value) (arr : Array Value),
    F m ∧ B ≠ m ∧ w.heap[B]? = some (.cells arr 128 (0, 0)) ∧ arr.size = 7 ∧ (∀ k, k < 6 → arr[k]? = some (vs k)) ∧ arr[6]? = some (.map (some m)) ∧
    MapIs Tryz.prog 150 w m es ∧
    (∀ k, k < 6 → w.ownsRow 0 9 1 (vs k) (L k).length ((L k).map Value.string)) ∧
    (∀ k, k < 6 → ∀ g, (vs k).ownBlock = some g → F g ∧ g ≠ B ∧ g ≠ m) ∧
    (∀ j k, j < 6 → k < 6 → j ≠ k → ∀ g, (vs j).ownBlock = some g → (vs k).ownBlock ≠ some g) ∧
    (∀ p ∈ es, ∃ (k i : Nat) (s : ByteArray), 1 ≤ k ∧ k ≤ 5 ∧ (L k)[i]? = some s ∧ p = (.agg #[.int .i64 k, .string s], .int .i64 ((i : Int) + 1))) ∧
    (∀ (k i : Nat) (s : ByteArray), 1 ≤ k → k ≤ 5 → (L k)[i]? = some s → ((.agg #[.int .i64 k, .string s], .int .i64 ((i : Int) + 1)) : Value × Value) ∈ es)
theorem may_size {s : ByteArray} (h : mayB s.data.toList = true) : s.size ≤ 24 := by
  simp only [mayB, Bool.and_eq_true, decide_eq_true_eq] at h
  have := h.1.1.2
  simpa using this
theorem Tab.same {w w' : World} {F : Nat → Prop} {B : Nat} {L : Nat → List ByteArray} (h : Tab w F B L) {G : Nat → Prop} (hf : Fr G w w') (hd : ∀ k, F k → G k → False) : Tab w' F B L := by
  obtain ⟨m, es, vs, arr, hm, hBm, hb, hsz, hk, h6, hmap, hrow, hown, hap, h1, h2⟩ := h.lies
  have eqb : ∀ k, F k → w'.heap[k]? = w.heap[k]? := fun k hk => hf.block k (h.old k hk) (fun hg => hd k hk hg)
  refine ⟨h.nodup, h.few, h.good, h.none0, fun b hb => Nat.lt_of_lt_of_le (h.old b hb) hf.size, h.inB, m, es, vs, arr, hm, hBm, (eqb B h.inB).trans hb, hsz, hk, h6, hmap.same (eqb m hm), ?_, hown, hap, h1, h2⟩
  intro k hk6
  have hr := hrow k hk6
  refine ⟨hr.1, ?_⟩
  rcases hr.2 with hn | ⟨g, cap, cur, hv, hbg, hgg, rest⟩
  · exact .inl hn
  · refine .inr ⟨g, cap, cur, hv, hbg, ?_, rest⟩
    rw [eqb g (hown k hk6 g (by rw [hv]; rfl)).1]
    exact hgg
/-- the number of a name among its kind; 0 if the table hasn't got it -/
def numS (L : Nat → List ByteArray) (kind : Int) (s : ByteArray) : Nat := if 1 ≤ kind ∧ kind ≤ 5 then posOf (L kind.toNat) s else 0
theorem cell_arr {w : World} {B : Nat} {arr : Array Value} {t : TypeId} {fr : Nat × Nat} (h : w.heap[B]? = some (.cells arr t fr)) (j : Nat) : w.cell? ⟨B, j, none⟩ = arr[j]? := by simp [World.cell?, h]
theorem frozen_arr {w : World} {B : Nat} {arr : Array Value} {t : TypeId} (h : w.heap[B]? = some (.cells arr t (0, 0))) (j : Nat) : w.frozen? ⟨B, j, none⟩ = false := by simp [World.frozen?, h]
theorem num_any {w : World} {F : Nat → Prop} {B : Nat} {L : Nat → List ByteArray} (h : Tab w F B L) (kind : Int) (s : ByteArray) (hk : (Lit.int .i64 kind).wf = true) (hs : s.size ≤ maxLen) :
    Calls Tryz.prog 83 #[.pointer (some ⟨B, 0, none⟩), .int .i64 kind, .string s] w fun e w' => e = .returned (.int .i64 (numS L kind s)) ∧ w = w' := by
  obtain ⟨m, es, vs, arr, hm, hBm, hb, hsz, hkk, h6, hmap, hrow, hown, hap, h1, h2⟩ := h.lies
  obtain ⟨kl, hkl⟩ := key72 kind s hk hs
  have hc := (cell_arr hb 6).trans h6
  have hz : (zeroValue 3).run Tryz.prog w = .ok (.int .i64 0) w := by kernel_rfl
  rcases hmap.look Tryz.law150 Tryz.underlying124 hz hkl false with ⟨hne, hrun⟩ | ⟨v, hin, hrun⟩
  · have e0 : numS L kind s = 0 := by
      unfold numS
      split
      · rename_i hk15
        rw [posOf_none]
        intro hmem
        obtain ⟨i, hi⟩ := List.mem_iff_getElem?.1 hmem
        have := h2 kind.toNat i s (by omega) (by omega) hi
        refine hne _ this ?_
        simp [Int.toNat_of_nonneg (show 0 ≤ kind by omega)]
      · rfl
    rw [e0]
    exact number_raw B m kind s _ w hc hrun
  · obtain ⟨k, i, s', hk1, hk5, hget, heq⟩ := h1 _ hin
    simp only [Prod.mk.injEq, Value.agg.injEq, Array.mk.injEq, List.cons.injEq, Value.int.injEq, Value.string.injEq, and_true, true_and] at heq
    obtain ⟨⟨rfl, rfl⟩, rfl⟩ := heq
    have e0 : numS L (k : Int) s = i + 1 := by
      unfold numS
      rw [if_pos (by omega)]
      exact posOf_some (h.nodup _) (by simpa using hget)
    rw [e0]
    exact number_raw B m k s _ w hc hrun
/-! Meth -/
open Go.RowKit
/-- a row of a table: where it lies, and what it holds -/
theorem Tab.row {w : World} {F : Nat → Prop} {B : Nat} {L : Nat → List ByteArray} (h : Tab w F B L) {k : Nat} (hk : k < 6) :
    ∃ ao c, w.cell? ⟨B, k, none⟩ = some (.slice ao (L k).length c) ∧ w.ownsRow 0 9 1 (.slice ao (L k).length c) (L k).length ((L k).map Value.string) ∧
      (∀ g, (Value.slice ao (L k).length c).ownBlock = some g → F g ∧ g ≠ B) := by
  obtain ⟨m, es, vs, arr, hm, hBm, hb, hsz, hkk, h6, hmap, hrow, hown, hap, h1, h2⟩ := h.lies
  have hr := hrow k hk
  have ho := hown k hk
  have hc := (cell_arr hb k).trans (hkk k hk)
  rcases hr.2 with ⟨hn, h0⟩ | ⟨g, cap, cur, hv, _⟩
  · refine ⟨none, 0, ?_, ?_, ?_⟩
    · rw [hc, hn, h0]
    · have := hr; rw [hn] at this; rw [h0] at this ⊢; exact this
    · intro g hg; cases hg
  · rw [hv] at hr hc ho
    exact ⟨_, _, hc, hr, fun g hg => ⟨(ho g hg).1, (ho g hg).2.1⟩⟩
def lenS (L : Nat → List ByteArray) (kind : Int) : Nat := if 1 ≤ kind ∧ kind ≤ 5 then (L kind.toNat).length else 0
set_option maxHeartbeats 400000 in
theorem find_any {w : World} {F : Nat → Prop} {B : Nat} {L : Nat → List ByteArray} (h : Tab w F B L) (kind : Int) (s : ByteArray) (hk : (Lit.int .i64 kind).wf = true) (hs : s.size ≤ maxLen) :
    Calls Tryz.prog 48 #[.pointer (some ⟨B, 0, none⟩), .int .i64 kind, .string s] w fun e w' =>
      e = .returned (.tuple #[.int .u16 (if numS L kind s = 0 then 0 else kind * 8192 + numS L kind s), .bool (decide (numS L kind s ≠ 0))]) ∧ w = w' := by
  have HC := Lib.hid (num_any h kind s hk hs)
  have hle : numS L kind s ≤ 4000 := by
    unfold numS; split
    · exact Nat.le_trans posOf_le (h.few _)
    · omega
  have hkk : numS L kind s ≠ 0 → 1 ≤ kind ∧ kind ≤ 5 := by
    unfold numS; split
    · intro _; assumption
    · intro h; exact absurd rfl h
  generalize numS L kind s = n at *
  clear h hk hs
  by_cases h0 : n = 0
  · subst h0
    clear hkk hle
    go_enter Tryz.func48, Tryz.ntmps48
    go_wp2_with (go_at_call 83; refine HC.out.mono ?_; rintro e w' ⟨rfl, rfl⟩)
    go_ret2
    exact ⟨rfl, rfl⟩
  · obtain ⟨h1, h5⟩ := hkk h0
    have hn0 : ((n : Int) == 0) = false := by simpa using h0
    have e1 : (if n = 0 then (0 : Int) else kind * 8192 + n) = kind * 8192 + n := if_neg h0
    have e2 : decide (n ≠ 0) = true := by simpa using h0
    rw [e1, e2]
    clear hkk e1 e2 h0
    go_enter Tryz.func48, Tryz.ntmps48
    go_wp2_with (first | (go_at_call 83; refine HC.out.mono ?_; rintro e w' ⟨rfl, rfl⟩) | (go_at_call 84; refine (compose_any _ _ _ (by omega) (by omega) (by omega) (by omega)).mono ?_; rintro e w' ⟨rfl, rfl⟩))
    go_ret2
    exact ⟨rfl, rfl⟩
/-! Put -/
open Go.RowKit
/-- the names behind a new one -/
def addL (L : Nat → List ByteArray) (k : Nat) (s : ByteArray) (j : Nat) : List ByteArray := if j = k then L j ++ [s] else L j
theorem addL_same (L : Nat → List ByteArray) (k : Nat) (s : ByteArray) : addL L k s k = L k ++ [s] := by simp [addL]
theorem addL_other (L : Nat → List ByteArray) {k j : Nat} (s : ByteArray) (h : j ≠ k) : addL L k s j = L j := by simp [addL, h]
/-- add leaves a table with one name more -/
theorem Tab.added {w : World} {F : Nat → Prop} {B : Nat} {L : Nat → List ByteArray} (h : Tab w F B L) {k : Nat} (hk1 : 1 ≤ k) (hk5 : k ≤ 5) {s : ByteArray} (hgood : mayB s.data.toList = true)
    (hnew : s ∉ L k) (hroom : (L k).length < 4000) :
    Calls Tryz.prog 88 #[.pointer (some ⟨B, 0, none⟩), .int .i64 k, .string s] w fun e w' =>
      e = .returned (.int .i64 ((L k).length + 1)) ∧ Fr F w w' ∧ Tab w' (grown F w w') B (addL L k s) := by
  obtain ⟨m, es, vs, arr, hm, hBm, hb, hsz, hkk, h6, hmap, hrow, hown, hap, h1, h2⟩ := h.lies
  have hk6 : k < 6 := by omega
  have hne : ∀ p ∈ es, p.1 ≠ .agg #[.int .i64 k, .string s] := by
    intro p hp heq
    obtain ⟨k', i, s', _, _, hget, rfl⟩ := h1 p hp
    simp only [Value.agg.injEq, Array.mk.injEq, List.cons.injEq, Value.int.injEq, Value.string.injEq, and_true, true_and] at heq
    obtain ⟨hkk', rfl⟩ := heq
    obtain rfl : k' = k := by omega
    exact hnew (List.mem_of_getElem? hget)
  have hs24 := may_size hgood
  have hmB := hown k hk6
  have hraw := add_raw B m k (L k).length s (vs k) ((L k).map Value.string) es w hk1 hk5 hroom (by unfold maxLen; omega) (h.old B h.inB) ((cell_arr hb k).trans (hkk k hk6)) (frozen_arr hb k)
    ((cell_arr hb 6).trans h6) (hrow k hk6) (fun e => (hmB B e).2.1 rfl) (fun e => (hmB m e).2.2 rfl) hBm hmap hne
  refine hraw.mono ?_
  rintro e w' ⟨g, cap, w1, ob, rfl, ho1, hg1, hat, rfl, hmap'⟩
  refine ⟨rfl, ?_⟩
  have hf1 : Fr F w w1 := (Fr.of_grown hg1).mono (fun j _ hj => (hmB j hj).1)
  have hf2 : Fr F w1 (w1.setCell ⟨B, k, none⟩ (.slice (some ⟨g, 0, none⟩) ((L k).length + 1) cap)) := (Fr.of_setCell _ _ _).mono (fun j _ hj => by rw [hj]; exact h.inB)
  have hf3 : Fr F (w1.setCell ⟨B, k, none⟩ (.slice (some ⟨g, 0, none⟩) ((L k).length + 1) cap)) (setObjAt (w1.setCell ⟨B, k, none⟩ (.slice (some ⟨g, 0, none⟩) ((L k).length + 1) cap)) m ob) :=
    (Fr.of_setObj _ _ _).mono (fun j _ hj => by rw [hj]; exact hm)
  have hfr := (hf1.trans hf2).trans hf3
  refine ⟨hfr, ?_⟩
  generalize hW : setObjAt (w1.setCell ⟨B, k, none⟩ (.slice (some ⟨g, 0, none⟩) ((L k).length + 1) cap)) m ob = W at *
  have hB1 : w1.heap[B]? = some (.cells arr 128 (0, 0)) := (hg1.block B (h.old B h.inB) (fun e => (hmB B e.symm).2.1 rfl)).trans hb
  have hBW : W.heap[B]? = some (.cells (arr.setIfInBounds k (.slice (some ⟨g, 0, none⟩) ((L k).length + 1) cap)) 128 (0, 0)) := by
    rw [← hW, setObjAt_other hBm]
    simp only [World.setCell, Array.getElem?_modify]
    simp [hB1]
  -- blocks other than B, m and the row's own
  have hoth : ∀ j, j < w.heap.size → j ≠ B → j ≠ m → (vs k).ownBlock ≠ some j → W.heap[j]? = w.heap[j]? := by
    intro j hj hjB hjm hjk
    rw [← hW, setObjAt_other hjm, Below.heap_setCell _ _ _ _ hjB]
    exact hg1.block j hj (fun e => hjk e.symm)
  have hgm : g ≠ m ∧ g ≠ B := by
    rcases hat with e | e
    · exact ⟨(hmB g e).2.2, (hmB g e).2.1⟩
    · have a := h.old B h.inB; have b := h.old m hm; omega
  have hgk : W.heap[g]? = w1.heap[g]? := by
    rw [← hW, setObjAt_other hgm.1, Below.heap_setCell _ _ _ _ hgm.2]
  have hglt : g < W.heap.size := by
    have : g < w1.heap.size := (ho1.lt g rfl).2
    rw [← hW]; simpa [setObjAt, World.setCell] using this
  refine ⟨?_, ?_, ?_, ?_, ?_, Or.inl h.inB, m, es ++ [(.agg #[.int .i64 k, .string s], .int .i64 (((L k).length : Int) + 1))],
    fun j => if j = k then .slice (some ⟨g, 0, none⟩) ((L k).length + 1) cap else vs j,
    arr.setIfInBounds k (.slice (some ⟨g, 0, none⟩) ((L k).length + 1) cap), Or.inl hm, hBm, hBW, by simpa using hsz, ?_, ?_, hmap', ?_, ?_, ?_, ?_, ?_⟩
  · intro j
    by_cases hj : j = k
    · subst hj; rw [addL_same, List.nodup_append]
      exact ⟨h.nodup j, by simp, fun a ha b hb' => by simp at hb'; subst hb'; exact fun e => hnew (e ▸ ha)⟩
    · rw [addL_other L s hj]; exact h.nodup j
  · intro j
    by_cases hj : j = k
    · subst hj; rw [addL_same]; simp; omega
    · rw [addL_other L s hj]; exact h.few j
  · intro j t ht
    by_cases hj : j = k
    · subst hj; rw [addL_same, List.mem_append] at ht
      rcases ht with ht | ht
      · exact h.good j t ht
      · simp at ht; subst ht; exact hgood
    · rw [addL_other L s hj] at ht; exact h.good j t ht
  · rw [addL_other L s (by omega)]; exact h.none0
  · intro b hb'
    rcases hb' with hb' | hb'
    · exact Nat.lt_of_lt_of_le (h.old b hb') hfr.size
    · exact hb'.2
  · intro j hj
    by_cases he : j = k
    · subst he; rw [Array.getElem?_setIfInBounds, if_pos rfl, if_pos (by omega)]; simp
    · simp only [he, if_false]
      rw [Array.getElem?_setIfInBounds, if_neg (by omega)]
      exact hkk j hj
  · rw [Array.getElem?_setIfInBounds, if_neg (by omega)]; exact h6
  · intro j hj
    by_cases he : j = k
    · subst he
      simp only [if_true]
      rw [addL_same]
      have := ho1
      refine ⟨by simp, ?_⟩
      rcases ho1.2 with ⟨hn, _⟩ | ⟨g', cap', cur, hv, hbg, hgg, r1, r2, r3, r4⟩
      · cases hn
      · refine .inr ⟨g', cap', cur, by simpa using hv, hbg, ?_, by simpa using r1, r2, r3, by simpa using r4⟩
        have : g = g' := by simpa [Value.ownBlock] using congrArg Value.ownBlock hv
        subst this
        rw [hgk]; exact hgg
    · simp only [he, if_false]
      rw [addL_other L s he]
      have hr := hrow j hj
      refine ⟨hr.1, ?_⟩
      rcases hr.2 with hn | ⟨g', cap', cur, hv, hbg, hgg, rest⟩
      · exact .inl hn
      · have hob : (vs j).ownBlock = some g' := by rw [hv]; rfl
        have ho := hown j hj g' hob
        refine .inr ⟨g', cap', cur, hv, hbg, ?_, rest⟩
        rw [hoth g' (h.old g' ho.1) ho.2.1 ho.2.2 (hap j k hj hk6 he g' hob)]
        exact hgg
  · intro j hj q hq
    by_cases he : j = k
    · simp only [he, if_true] at hq
      obtain rfl : g = q := by simpa [Value.ownBlock] using hq
      refine ⟨?_, hgm.2, hgm.1⟩
      rcases hat with e | e
      · exact Or.inl (hmB g e).1
      · exact Or.inr ⟨e, hglt⟩
    · simp only [he, if_false] at hq
      have ho := hown j hj q hq
      exact ⟨Or.inl ho.1, ho.2⟩
  · intro i j hi hj hij q hq
    by_cases hik : i = k
    · simp only [hik, if_true] at hq
      obtain rfl : g = q := by simpa [Value.ownBlock] using hq
      have hjk : ¬ j = k := fun e => hij (hik.trans e.symm)
      simp only [hjk, if_false]
      rcases hat with e | e
      · exact hap k j hk6 hj (fun e' => hjk e'.symm) g e
      · intro e'; have := h.old g (hown j hj g e').1; omega
    · simp only [hik, if_false] at hq
      by_cases hjk : j = k
      · simp only [hjk, if_true]
        intro e'
        obtain rfl : g = q := by simpa [Value.ownBlock] using e'
        rcases hat with e | e
        · exact hap i k hi hk6 hik g hq e
        · have := h.old g (hown i hi g hq).1; omega
      · simp only [hjk, if_false]
        exact hap i j hi hj hij q hq
  · intro p hp
    rcases List.mem_append.1 hp with hp | hp
    · obtain ⟨k', i, t, a1, a2, a3, a4⟩ := h1 p hp
      refine ⟨k', i, t, a1, a2, ?_, a4⟩
      by_cases he : k' = k
      · subst he; rw [addL_same, List.getElem?_append_left (List.getElem?_eq_some_iff.1 a3).1]; exact a3
      · rw [addL_other L s he]; exact a3
    · simp at hp; subst hp
      exact ⟨k, (L k).length, s, hk1, hk5, by rw [addL_same]; simp, rfl⟩
  · intro k' i t a1 a2 a3
    rw [List.mem_append]
    by_cases he : k' = k
    · subst he
      rw [addL_same] at a3
      rcases Nat.lt_or_ge i (L k').length with hlt | hge
      · rw [List.getElem?_append_left hlt] at a3
        exact .inl (h2 k' i t a1 a2 a3)
      · rw [List.getElem?_append_right hge] at a3
        have hi : i - (L k').length = 0 := by
          have := (List.getElem?_eq_some_iff.1 a3).1; simp at this; omega
        rw [hi] at a3
        simp at a3
        subst a3
        obtain rfl : i = (L k').length := by omega
        exact .inr (by simp)
    · rw [addL_other L s he] at a3
      exact .inl (h2 k' i t a1 a2 a3)
/-- the error of Put -/
def putE (L : Nat → List ByteArray) (kind : Int) (s : ByteArray) : Int :=
  if ¬ (1 ≤ kind ∧ kind ≤ 5) then 1 else if mayB s.data.toList = false then 2 else if numS L kind s ≠ 0 then 0 else if (L kind.toNat).length = 4000 then 3 else 0
/-- the atom that Put tells -/
def putA (L : Nat → List ByteArray) (kind : Int) (s : ByteArray) : Int :=
  if putE L kind s = 0 then kind * 8192 + (if numS L kind s = 0 then ((L kind.toNat).length : Int) + 1 else numS L kind s) else 0
/-- the names behind Put -/
def putL (L : Nat → List ByteArray) (kind : Int) (s : ByteArray) : Nat → List ByteArray :=
  if putE L kind s = 0 ∧ numS L kind s = 0 then addL L kind.toNat s else L
def PutPost (w : World) (F : Nat → Prop) (B : Nat) (L : Nat → List ByteArray) (kind : Int) (s : ByteArray) (e : Ending) (w' : World) : Prop :=
  e = .returned (.tuple #[.int .u16 (putA L kind s), .int .i64 (putE L kind s)]) ∧ Fr F w w' ∧ Tab w' (grown F w w') B (putL L kind s)
theorem grown_same {F : Nat → Prop} {w : World} : grown F w w = F := by
  funext k; unfold grown; apply propext; constructor
  · rintro (h | h)
    · exact h
    · omega
  · exact Or.inl
theorem PutPost.still {w : World} {F : Nat → Prop} {B : Nat} {L : Nat → List ByteArray} {kind : Int} {s : ByteArray} (h : Tab w F B L) (hp : putL L kind s = L)
    {a e : Int} (ha : putA L kind s = a) (he : putE L kind s = e) : PutPost w F B L kind s (.returned (.tuple #[.int .u16 a, .int .i64 e])) w :=
  ⟨by rw [ha, he], Fr.refl _ _, by rw [hp, grown_same]; exact h⟩
set_option maxHeartbeats 1000000 in
theorem put_any {w : World} {F : Nat → Prop} {B : Nat} {L : Nat → List ByteArray} (h : Tab w F B L) (kind : Int) (s : ByteArray) (hk : (Lit.int .i64 kind).wf = true) (hs : s.size ≤ maxLen) :
    Calls Tryz.prog 49 #[.pointer (some ⟨B, 0, none⟩), .int .i64 kind, .string s] w (PutPost w F B L kind s) := by
  by_cases hkk : 1 ≤ kind ∧ kind ≤ 5
  rotate_left
  · have he : putE L kind s = 1 := by simp [putE, hkk]
    have HQ := Lib.hid (PutPost.still (kind := kind) (s := s) (a := 0) h (by simp [putL, he]) (by simp [putA, he]) he)
    have H := Lib.hid hkk
    clear hkk he h
    go_enter Tryz.func49, Tryz.ntmps49
    go_wp2_with (go_at_call 85; refine (named_no _ _ H.out).mono ?_; rintro e w' ⟨rfl, rfl⟩)
    go_ret2
    exact HQ.out
  cases hm : mayB s.data.toList
  · have he : putE L kind s = 2 := by simp [putE, hkk, hm]
    have HQ := Lib.hid (PutPost.still (kind := kind) (s := s) (a := 0) h (by simp [putL, he]) (by simp [putA, he]) he)
    obtain ⟨hk1, hk5⟩ := hkk
    clear he h
    go_enter Tryz.func49, Tryz.ntmps49
    go_wp2_with (first | (go_at_call 85; refine (named_yes _ _ hk1 hk5).mono ?_; rintro e w' ⟨rfl, rfl⟩) | (go_at_call 86; refine (may_any _ _ hs).mono ?_; rintro e w' ⟨rfl, rfl⟩))
    go_ret2
    exact HQ.out
  obtain ⟨hk1, hk5⟩ := hkk
  have HF := Lib.hid (find_any h kind s hk hs)
  by_cases hn : numS L kind s = 0
  rotate_left
  · have he : putE L kind s = 0 := by simp [putE, hk1, hk5, hm, hn]
    have HQ := Lib.hid (PutPost.still (kind := kind) (s := s) (a := kind * 8192 + numS L kind s) h (by simp [putL, he, hn]) (by simp [putA, he, hn]) he)
    have e2 : decide (numS L kind s ≠ 0) = true := by simpa using hn
    have e1 : (if numS L kind s = 0 then (0 : Int) else kind * 8192 + numS L kind s) = kind * 8192 + numS L kind s := if_neg hn
    rw [e1, e2] at HF
    generalize numS L kind s = n at *
    clear he h e1 e2
    go_enter Tryz.func49, Tryz.ntmps49
    go_wp2_with (first | (go_at_call 85; refine (named_yes _ _ hk1 hk5).mono ?_; rintro e w' ⟨rfl, rfl⟩) | (go_at_call 86; refine (may_any _ _ hs).mono ?_; rintro e w' ⟨rfl, rfl⟩) | (go_at_call 48; refine HF.out.mono ?_; rintro e w' ⟨rfl, rfl⟩))
    go_ret2
    exact HQ.out
  obtain ⟨k, rfl⟩ := Int.eq_ofNat_of_zero_le (show 0 ≤ kind by omega)
  have hnew : s ∉ L k := by
    have := hn
    unfold numS at this
    rw [if_pos ⟨hk1, hk5⟩, posOf_none] at this
    simpa using this
  have hk1' : 1 ≤ k := by omega
  have hk5' : k ≤ 5 := by omega
  obtain ⟨ao, c, hc, _, _⟩ := h.row (show k < 6 by omega)
  have e2 : decide (numS L (k : Int) s ≠ 0) = false := by simpa using hn
  have e1 : (if numS L (k : Int) s = 0 then (0 : Int) else k * 8192 + numS L (k : Int) s) = 0 := if_pos hn
  rw [e1, e2] at HF
  have hfew := h.few k
  by_cases hlen : (L k).length = 4000
  · have he : putE L (k : Int) s = 3 := by simp [putE, hk1', hk5', hm, hn, hlen]; omega
    have HQ := Lib.hid (PutPost.still (kind := k) (s := s) (a := 0) h (by simp [putL, he]) (by simp [putA, he]) he)
    rw [hlen] at hc
    clear he h e1 e2 hlen hfew hn hnew
    go_enter Tryz.func49, Tryz.ntmps49
    go_wp2_with (first | (go_at_call 85; refine (named_yes _ _ hk1 hk5).mono ?_; rintro e w' ⟨rfl, rfl⟩) | (go_at_call 86; refine (may_any _ _ hs).mono ?_; rintro e w' ⟨rfl, rfl⟩) | (go_at_call 48; refine HF.out.mono ?_; rintro e w' ⟨rfl, rfl⟩) | (go_at_call 87; refine (row_yes k B _ _ hk1' hk5' hc).mono ?_; rintro e w' ⟨rfl, rfl⟩))
    go_ret2
    exact HQ.out
  · have he : putE L (k : Int) s = 0 := by simp [putE, hk1', hk5', hm, hn, hlen]; omega
    have HA := Lib.hid (h.added hk1' hk5' hm hnew (by omega))
    have HQ : Hid (putA L (k : Int) s = k * 8192 + ((L k).length + 1) ∧ putL L (k : Int) s = addL L k s) := ⟨by simp [putA, he, hn], by simp [putL, he, hn]⟩
    have hl4 : (L k).length < 4000 := by omega
    have hlb : (((L k).length : Int) == 4000) = false := by rw [beq_eq_false_iff_ne]; omega
    have HE := Lib.hid he
    generalize (L k).length = n at *
    clear he h e1 e2 hfew hn hnew hlen
    go_enter Tryz.func49, Tryz.ntmps49
    go_wp2_with (first | (go_at_call 85; refine (named_yes _ _ hk1 hk5).mono ?_; rintro e w' ⟨rfl, rfl⟩) | (go_at_call 86; refine (may_any _ _ hs).mono ?_; rintro e w' ⟨rfl, rfl⟩) | (go_at_call 48; refine HF.out.mono ?_; rintro e w' ⟨rfl, rfl⟩) | (go_at_call 87; refine (row_yes k B _ _ hk1' hk5' hc).mono ?_; rintro e w' ⟨rfl, rfl⟩) | (go_at_call 88; refine HA.out.mono ?_; rintro e w' ⟨rfl, hfr, htab⟩; have HFR := Lib.hid hfr; have HT := Lib.hid htab; clear hfr htab) | (go_at_call 84; refine (compose_any _ _ _ (by omega) (by omega) (by omega) (by omega)).mono ?_; rintro e w' ⟨rfl, rfl⟩))
    go_ret2
    exact ⟨by rw [HQ.out.1, HE.out]; rfl, HFR.out, by rw [HQ.out.2]; exact HT.out⟩
/-! Name -/
open Go.RowKit
/-- no names -/
def noL (_ : Nat) : List ByteArray := []
theorem Tab.made (w : World) : Tab ((w.alloc (.map #[] 0)).alloc (.cells #[.slice none 0 0, .slice none 0 0, .slice none 0 0, .slice none 0 0, .slice none 0 0, .slice none 0 0, .map (some w.heap.size)] 128))
    (fun k => w.heap.size ≤ k ∧ k < w.heap.size + 2) (w.heap.size + 1) noL := by
  refine ⟨fun k => by simp [noL], fun k => by simp [noL], fun k s h => by simp [noL] at h, rfl, fun b h => by simpa using h.2, by omega, w.heap.size, [], fun _ => .slice none 0 0,
    #[.slice none 0 0, .slice none 0 0, .slice none 0 0, .slice none 0 0, .slice none 0 0, .slice none 0 0, .map (some w.heap.size)], by omega, by omega, ?_, rfl, ?_, rfl, ?_, ?_, ?_, ?_, ?_, ?_⟩
  · have := heap_alloc_new (w.alloc (.map #[] 0)) (.cells #[.slice none 0 0, .slice none 0 0, .slice none 0 0, .slice none 0 0, .slice none 0 0, .slice none 0 0, .map (some w.heap.size)] 128)
    simpa using this
  · intro k hk
    match k, hk with
    | 0, _ => rfl
    | 1, _ => rfl
    | 2, _ => rfl
    | 3, _ => rfl
    | 4, _ => rfl
    | 5, _ => rfl
  · exact (MapIs.made w).same (heap_alloc_old _ _ (by simp))
  · intro k _; exact World.ownsRow_nil _ _ _ _
  · intro k _ g hg; cases hg
  · intro j k _ _ _ g hg; cases hg
  · intro p hp; cases hp
  · intro k i s _ _ h; simp [noL] at h
/-- what New leaves -/
def NewPost (w : World) (e : Ending) (w' : World) : Prop :=
  ∃ B, w.heap.size ≤ B ∧ e = .returned (.pointer (some ⟨B, 0, none⟩)) ∧ Fr (fun _ => False) w w' ∧ Tab w' (grown (fun _ => False) w w') B noL
theorem new_tab (w : World) : Calls Tryz.prog 47 #[] w (NewPost w) := by
  refine (new_any w).mono ?_
  rintro e w' ⟨rfl, rfl⟩
  refine ⟨_, Nat.le_succ _, rfl, (Fr.of_alloc _ _ _).trans (Fr.of_alloc _ _ _), ?_⟩
  have h := Tab.made w
  have e : grown (fun _ => False) w ((w.alloc (.map #[] 0)).alloc (.cells #[.slice none 0 0, .slice none 0 0, .slice none 0 0, .slice none 0 0, .slice none 0 0, .slice none 0 0, .map (some w.heap.size)] 128)) = fun k => w.heap.size ≤ k ∧ k < w.heap.size + 2 := by
    funext k; simp [grown]
  rw [e]; exact h
/-- the name of an atom -/
def nameOf (L : Nat → List ByteArray) (a : Int) : Option ByteArray :=
  if a = 1 then some ⟨#[68]⟩ else if 1 ≤ a / 8192 ∧ a / 8192 ≤ 5 ∧ 1 ≤ a % 8192 then (L (a / 8192).toNat)[(a % 8192).toNat - 1]? else none
def nameV (o : Option ByteArray) : Value := .tuple #[.string (o.getD ⟨#[]⟩), .bool o.isSome]
theorem elem_of_row {w : World} {ao : Option Addr} {n c : Nat} {l : List ByteArray} (h : w.ownsRow 0 9 1 (.slice ao n c) n (l.map Value.string)) {i : Nat} {s : ByteArray} (hi : l[i]? = some s) :
    ∃ g, ao = some ⟨g, 0, none⟩ ∧ w.cell? ⟨g, i, none⟩ = some (.string s) := by
  rcases h.2 with ⟨hv, h0⟩ | ⟨g, cap, cur, hv, _⟩
  · have := h.1; simp [h0] at this; subst this; simp at hi
  · obtain ⟨rfl, _, _⟩ : ao = some ⟨g, 0, none⟩ ∧ True ∧ True := by cases hv; exact ⟨rfl, trivial, trivial⟩
    refine ⟨g, rfl, ?_⟩
    have := h.cells (g := g) rfl i (.string s) (by simp [hi])
    have e : ((⟨g, 0, none⟩ : Addr).add i) = ⟨g, i, none⟩ := by unfold Addr.add; split <;> simp_all
    rw [e] at this; exact this
theorem quiet_sw {P : Program} {f : FuncId} {args : Array Value} {w : World} {n : Nat} {v : Value}
    (h : Calls P f args (w.drewN n) fun e w' => e = .returned v ∧ w.drewN n = w') : Calls P f args (w.drewN n) fun e w'' => e = .returned v ∧ ∃ m, w'' = w.drewN m :=
  h.mono fun _ _ ⟨he, hm⟩ => ⟨he, n, hm.symm⟩
set_option maxHeartbeats 1000000 in
theorem name_any {w : World} {F : Nat → Prop} {B : Nat} {L : Nat → List ByteArray} (h : Tab w F B L) (a : Int) (h0 : 0 ≤ a) (h1 : a ≤ 65535) :
    Calls Tryz.prog 112 #[.pointer (some ⟨B, 0, none⟩), .int .u16 a] w fun e w' => e = .returned (nameV (nameOf L a)) ∧ ∃ n, w' = w.drewN n := by
  by_cases ha : a = 1
  · subst ha
    go_enter Tryz.func112, Tryz.ntmps112
    go_wp2
    go_ret2
    exact ⟨rfl, 0, rfl⟩
  have ha' : (a == 1) = false := by simpa using ha
  by_cases hk : 1 ≤ a / 8192 ∧ a / 8192 ≤ 5
  · obtain ⟨k, hkd⟩ := Int.eq_ofNat_of_zero_le (show 0 ≤ a / 8192 by omega)
    obtain ⟨n, hnd⟩ := Int.eq_ofNat_of_zero_le (show 0 ≤ a % 8192 by omega)
    obtain ⟨ao, c, hc, hrow, _⟩ := h.row (show k < 6 by omega)
    have hfew := h.few k
    have hk1 : 1 ≤ k := by omega
    have hk5 : k ≤ 5 := by omega
    have hn9 : n ≤ 8191 := by omega
    have en : nameOf L a = if 1 ≤ n then (L k)[n - 1]? else none := by
      unfold nameOf
      rw [if_neg ha, hkd, hnd]
      by_cases h1n : 1 ≤ n
      · rw [if_pos (by omega), if_pos h1n]; simp
      · rw [if_neg (by omega), if_neg h1n]
    rw [en]
    have HK : Hid (∀ w, Calls Tryz.prog 69 #[.int .u16 a] w fun e w' => e = .returned (.int .i64 k) ∧ w = w') := fun w => by
      have := kind_any a w h0 h1; rw [hkd] at this; exact this
    have HN : Hid (∀ w, Calls Tryz.prog 144 #[.int .u16 a] w fun e w' => e = .returned (.int .i64 n) ∧ w = w') := fun w => by
      have := number_any a w h0 h1; rw [hnd] at this; exact this
    have HR : Hid (∀ nq, Calls Tryz.prog 87 #[.pointer (some ⟨B, 0, none⟩), .int .i64 k] (w.drewN nq) fun e w' => e = .returned (.slice ao (L k).length c) ∧ w.drewN nq = w') := fun nq =>
      row_yes k B _ _ hk1 hk5 (by simpa using hc)
    have hel := fun (i : Nat) (s : ByteArray) => elem_of_row (w := w) hrow (i := i) (s := s)
    by_cases h1n : 1 ≤ n
    · by_cases hlt : n ≤ (L k).length
      · obtain ⟨s, hs⟩ : ∃ s, (L k)[n - 1]? = some s := ⟨_, List.getElem?_eq_getElem (by omega)⟩
        obtain ⟨g, rfl, hcell⟩ := hel _ _ hs
        rw [if_pos h1n, hs]
        obtain ⟨j, rfl⟩ : ∃ j, n = j + 1 := ⟨n - 1, by omega⟩
        rw [show j + 1 - 1 = j by omega] at hcell
        generalize (L k).length = len at *
        have hjl : ((j + 1 : Nat) : Int) ≤ len := by omega
        clear hkd hnd en hk ha h hrow hel hs
        go_enter Tryz.func112, Tryz.ntmps112
        go_wp2
        go_quiet (first | (go_at_call 69; exact quiet_sw (HK.out _)) | (go_at_call 144; exact quiet_sw (HN.out _)) | (go_at_call 87; exact quiet_sw (HR.out _)))
        go_wp2
        go_ret2
        exact ⟨rfl, _, rfl⟩
      · have e0 : (if 1 ≤ n then (L k)[n - 1]? else none) = none := by
          rw [if_pos h1n, List.getElem?_eq_none (by omega)]
        rw [e0]
        generalize (L k).length = len at *
        have hjl : ¬ ((n : Nat) : Int) ≤ len := by omega
        clear hkd hnd en hk ha h hrow hel e0
        go_enter Tryz.func112, Tryz.ntmps112
        go_wp2
        go_quiet (first | (go_at_call 69; exact quiet_sw (HK.out _)) | (go_at_call 144; exact quiet_sw (HN.out _)) | (go_at_call 87; exact quiet_sw (HR.out _)))
        go_wp2
        go_ret2
        exact ⟨rfl, _, rfl⟩
    · have e0 : (if 1 ≤ n then (L k)[n - 1]? else none) = none := if_neg h1n
      rw [e0]
      obtain rfl : n = 0 := by omega
      generalize (L k).length = len at *
      clear hkd hnd en hk ha h hrow hel e0
      go_enter Tryz.func112, Tryz.ntmps112
      go_wp2
      go_quiet (first | (go_at_call 69; exact quiet_sw (HK.out _)) | (go_at_call 144; exact quiet_sw (HN.out _)) | (go_at_call 87; exact quiet_sw (HR.out _)))
      go_wp2
      go_ret2
      exact ⟨rfl, _, rfl⟩
  · have en : nameOf L a = none := by
      unfold nameOf; rw [if_neg ha, if_neg (fun hh => hk ⟨hh.1, hh.2.1⟩)]
    rw [en]
    have HK : Hid (∀ w, Calls Tryz.prog 69 #[.int .u16 a] w fun e w' => e = .returned (.int .i64 (a / 8192)) ∧ w = w') := fun w => kind_any a w h0 h1
    have HN : Hid (∀ w, Calls Tryz.prog 144 #[.int .u16 a] w fun e w' => e = .returned (.int .i64 (a % 8192)) ∧ w = w') := fun w => number_any a w h0 h1
    have HR : Hid (∀ nq, Calls Tryz.prog 87 #[.pointer (some ⟨B, 0, none⟩), .int .i64 (a / 8192)] (w.drewN nq) fun e w' => e = .returned (.slice none 0 0) ∧ w.drewN nq = w') := fun nq =>
      row_no _ B _ hk
    have hm0 : 0 ≤ a % 8192 := by omega
    generalize a / 8192 = k at *
    generalize a % 8192 = n at *
    clear en hk ha h
    by_cases h1n : n < 1
    · go_enter Tryz.func112, Tryz.ntmps112
      go_wp2
      go_quiet (first | (go_at_call 69; exact quiet_sw (HK.out _)) | (go_at_call 144; exact quiet_sw (HN.out _)) | (go_at_call 87; exact quiet_sw (HR.out _)))
      go_wp2
      go_ret2
      exact ⟨rfl, _, rfl⟩
    · have hn1 : 1 ≤ n := by omega
      have hn0 : 0 < n := by omega
      go_enter Tryz.func112, Tryz.ntmps112
      go_wp2
      go_quiet (first | (go_at_call 69; exact quiet_sw (HK.out _)) | (go_at_call 144; exact quiet_sw (HN.out _)) | (go_at_call 87; exact quiet_sw (HR.out _)))
      go_wp2
      go_ret2
      exact ⟨rfl, _, rfl⟩
/-! Load -/
open Go.RowKit
/-- the slice v holds the strings l, in a block of G -/
def Reads (w : World) (G : Nat → Prop) (v : Value) (l : List ByteArray) : Prop :=
  ∃ ao c, v = .slice ao l.length c ∧ ∀ i s, l[i]? = some s → ∃ g off, ao = some ⟨g, off, none⟩ ∧ G g ∧ w.cell? ⟨g, off + i, none⟩ = some (.string s)
theorem lt_of_cell {w : World} {a : Addr} {v : Value} (h : w.cell? a = some v) : a.block < w.heap.size := by
  rcases Nat.lt_or_ge a.block w.heap.size with hlt | hge
  · exact hlt
  · simp [World.cell?, Array.getElem?_eq_none hge] at h
theorem Reads.same {w w' : World} {F G : Nat → Prop} {v : Value} {l : List ByteArray} (h : Reads w G v l) (hf : Fr F w w') (hd : ∀ k, G k → F k → False) : Reads w' G v l := by
  obtain ⟨ao, c, hv, hc⟩ := h
  refine ⟨ao, c, hv, fun i s hi => ?_⟩
  obtain ⟨g, off, h1, h2, h3⟩ := hc i s hi
  exact ⟨g, off, h1, h2, (cell_of_same (hf.block g (lt_of_cell h3) (fun hF => hd g h2 hF))).trans h3⟩
theorem Reads.mono {w : World} {F G : Nat → Prop} {v : Value} {l : List ByteArray} (h : Reads w G v l) (hg : ∀ k, k < w.heap.size → G k → F k) : Reads w F v l := by
  obtain ⟨ao, c, hv, hc⟩ := h
  refine ⟨ao, c, hv, fun i s hi => ?_⟩
  obtain ⟨g, off, h1, h2, h3⟩ := hc i s hi
  exact ⟨g, off, h1, hg g (lt_of_cell h3) h2, h3⟩
theorem Reads.of_row {w : World} {base n : Nat} {v : Value} {l : List ByteArray} (h : w.ownsRow base 9 1 v n (l.map Value.string)) : Reads w (fun k => base ≤ k) v l := by
  have hl : l.length = n := by simpa using h.1
  rcases h.2 with ⟨rfl, h0⟩ | ⟨g, cap, cur, rfl, hb, hg, _⟩
  · subst h0
    obtain rfl : l = [] := List.length_eq_zero_iff.1 hl
    exact ⟨none, 0, rfl, fun i s hi => by simp at hi⟩
  · subst hl
    refine ⟨_, cap, rfl, fun i s hi => ⟨g, 0, rfl, hb, ?_⟩⟩
    have := h.cells (g := g) rfl i (.string s) (by simp [hi])
    have e : ((⟨g, 0, none⟩ : Addr).add i) = ⟨g, 0 + i, none⟩ := by unfold Addr.add; split <;> simp_all
    rw [e] at this; exact this
/-- Load of the rest of a row: the error, and the names -/
def loadRow (k : Nat) : List ByteArray → (Nat → List ByteArray) → Int × (Nat → List ByteArray)
  | [], L => (0, L)
  | s :: r, L => if numS L k s ≠ 0 then (11, L) else if putE L k s ≠ 0 then (putE L k s, L) else loadRow k r (putL L k s)
/-- Load of the rows from the kind k on (n of them) -/
def loadK (src : Nat → List ByteArray) : Nat → Nat → (Nat → List ByteArray) → Int × (Nat → List ByteArray)
  | 0, _, L => (0, L)
  | n + 1, k, L => if (loadRow k (src k) L).1 ≠ 0 then loadRow k (src k) L else loadK src n (k + 1) (loadRow k (src k) L).2
def loadS (src : Nat → List ByteArray) : Int × (Nat → List ByteArray) := loadK src 5 1 noL
/-- what Load leaves -/
def LoadPost (w : World) (src : Nat → List ByteArray) (e : Ending) (w' : World) : Prop :=
  Fr (fun _ => False) w w' ∧
  (((loadS src).1 = 0 ∧ ∃ B F, e = .returned (.tuple #[.pointer (some ⟨B, 0, none⟩), .int .i64 0]) ∧ Tab w' F B (loadS src).2 ∧ ∀ k, F k → w.heap.size ≤ k) ∨
   ((loadS src).1 ≠ 0 ∧ e = .returned (.tuple #[.pointer none, .int .i64 (loadS src).1])))
/-- what holds while Load runs -/
structure LInv (w wr : World) (v : Nat → Value) (B : Nat) (L : Nat → List ByteArray) (F : Nat → Prop) : Prop where
  tab : Tab wr F B L
  low : ∀ j, F j → w.heap.size < j
  fr : Fr (fun _ => False) w wr
  box : wr.heap[w.heap.size]? = some (.cells #[v 0, v 1, v 2, v 3, v 4, v 5] 23 (0, 0))
theorem LInv.put {w wr w' : World} {v : Nat → Value} {B : Nat} {L L' : Nat → List ByteArray} {F : Nat → Prop} (h : LInv w wr v B L F) (hf : Fr F wr w') (ht : Tab w' (grown F wr w') B L') :
    LInv w w' v B L' (grown F wr w') := by
  have hs : w.heap.size < wr.heap.size := (Array.getElem?_eq_some_iff.1 h.box).1
  refine ⟨ht, ?_, ?_, ?_⟩
  · intro j hj
    rcases hj with hj | hj
    · exact h.low j hj
    · omega
  · refine ⟨hf.os.trans h.fr.os, hf.tape.trans h.fr.tape, hf.output.trans h.fr.output, Nat.le_trans h.fr.size hf.size, fun k hk _ => ?_⟩
    exact (hf.block k (by omega) (fun hF => by have := h.low k hF; omega)).trans (h.fr.block k hk (fun x => x))
  · exact (hf.block _ hs (fun hF => by have := h.low _ hF; omega)).trans h.box
theorem LInv.cell {w wr : World} {v : Nat → Value} {B : Nat} {L : Nat → List ByteArray} {F : Nat → Prop} (h : LInv w wr v B L F) {k : Nat} (hk : k < 6) : wr.cell? ⟨w.heap.size, k, none⟩ = some (v k) := by
  rw [cell_arr h.box]
  match k, hk with
  | 0, _ => rfl
  | 1, _ => rfl
  | 2, _ => rfl
  | 3, _ => rfl
  | 4, _ => rfl
  | 5, _ => rfl
theorem LInv.start {w w' : World} {v : Nat → Value} {B : Nat} (hB : (w.alloc (.cells #[v 0, v 1, v 2, v 3, v 4, v 5] 23)).heap.size ≤ B)
    (hf : Fr (fun _ => False) (w.alloc (.cells #[v 0, v 1, v 2, v 3, v 4, v 5] 23)) w') (ht : Tab w' (grown (fun _ => False) (w.alloc (.cells #[v 0, v 1, v 2, v 3, v 4, v 5] 23)) w') B noL) :
    LInv w w' v B noL (grown (fun _ => False) (w.alloc (.cells #[v 0, v 1, v 2, v 3, v 4, v 5] 23)) w') := by
  refine ⟨ht, ?_, (Fr.of_alloc _ _ _).trans hf, (hf.block _ (by simp) (fun x => x)).trans (heap_alloc_new w _)⟩
  intro j hj
  rcases hj with hj | hj
  · exact hj.elim
  · have := hj.1; simp at this; omega
theorem loadK_step {src : Nat → List ByteArray} {k : Nat} {L L' : Nat → List ByteArray} (hk : k ≤ 5) (h : loadRow k (src k) L = (0, L')) : loadK src (6 - k) k L = loadK src (6 - (k + 1)) (k + 1) L' := by
  obtain ⟨n, hn⟩ : ∃ n, 6 - k = n + 1 := ⟨5 - k, by omega⟩
  rw [hn, show 6 - (k + 1) = n by omega, loadK, h]
  simp
theorem loadK_stop {src : Nat → List ByteArray} {k : Nat} {e : Int} {L L' : Nat → List ByteArray} (hk : k ≤ 5) (h : loadRow k (src k) L = (e, L')) (he : e ≠ 0) : loadK src (6 - k) k L = (e, L') := by
  obtain ⟨n, hn⟩ : ∃ n, 6 - k = n + 1 := ⟨5 - k, by omega⟩
  rw [hn, loadK, h]
  simp [he]
set_option maxHeartbeats 2000000 in
theorem load_any {w : World} (v : Nat → Value) (src : Nat → List ByteArray) (hv : ∀ k, k < 6 → Reads w (fun _ => True) (v k) (src k)) (hsz : ∀ k, k < 6 → ∀ s ∈ src k, s.size ≤ maxLen)
    (hfew : ∀ k, k < 6 → (src k).length ≤ maxLen) :
    Calls Tryz.prog 26 #[.agg #[v 0, v 1, v 2, v 3, v 4, v 5]] w (LoadPost w src) := by
  have HV := Lib.hid hv
  have HSZ := Lib.hid hsz
  have HFEW := Lib.hid hfew
  clear hv hsz hfew
  go_enter Tryz.func26, Tryz.ntmps26
  go_wp2_with (go_at_call 47; refine (new_tab _).mono ?_; rintro e w1 ⟨B, hB, rfl, hfr, htab⟩; have HS := Lib.hid (LInv.start hB hfr htab); clear hB hfr htab)
  go_loopw [5] (fun i wr => ∃ k : Nat, 1 ≤ k ∧ k ≤ 6 ∧ i = .int .i64 k ∧ ∃ L F, LInv w wr v B L F ∧ Hid (loadS src = loadK src (6 - k) k L)) (fun i _ => 6 - (intOf i).toNat)
  case atStart => exact ⟨1, by omega, by omega, rfl, _, _, HS.out, rfl⟩
  case round =>
    obtain ⟨k, hk1, hk6, rfl, L, F, hinv, hspec⟩ := hrel
    have HI := Lib.hid hinv
    by_cases hk5 : k ≤ 5
    · have hc := hinv.cell (show k < 6 by omega)
      obtain ⟨ao, c, hvk, hel⟩ := (HV.out k (by omega)).same hinv.fr (fun _ _ h => h)
      have HEL := Lib.hid hel
      rw [hvk] at hc
      have HVK := Lib.hid hvk
      have hlen := HFEW.out k (by omega)
      generalize hl : (src k).length = n at *
      have HL := Lib.hid hl
      unfold maxLen at hlen
      have hki : (k : Int) < 6 := by omega
      have hki0 : 0 ≤ (k : Int) := by omega
      have HSP := Lib.hid hspec
      clear hinv hel hvk hl hspec
      go_wp2
      obtain ⟨wo, rfl⟩ : ∃ wo : World, wo = wr := ⟨_, rfl⟩
      clear hc
      go_loopw [21] (fun i wi => ∃ j : Nat, j ≤ n ∧ i = .int .i64 j ∧ ∃ L' F', LInv w wi v B L' F' ∧ Hid (loadRow k (src k) L = loadRow k ((src k).drop j) L')) (fun i _ => n - (intOf i).toNat)
      case atStart => exact ⟨0, by omega, rfl, L, F, HI.out, by simp [Hid]⟩
      case round =>
        obtain ⟨j, hj, rfl, L', F', hinv', hspec'⟩ := hrel
        have HI' := Lib.hid hinv'
        by_cases hlt : j < n
        · obtain ⟨s, hs⟩ : ∃ s, (src k)[j]? = some s := ⟨_, List.getElem?_eq_getElem (by have := HL.out; omega)⟩
          obtain ⟨ao', c', hvk', hel'⟩ := (HV.out k (by omega)).same hinv'.fr (fun _ _ h => h)
          have hsz := HSZ.out k (by omega) s (List.mem_of_getElem? hs)
          have hdrop : (src k).drop j = s :: (src k).drop (j + 1) := by
            obtain ⟨h1, h2⟩ := List.getElem?_eq_some_iff.1 hs
            rw [List.drop_eq_getElem_cons h1, h2]
          rw [hdrop] at hspec'
          obtain ⟨g, off, hao, _, hcell⟩ := hel' j s hs
          obtain rfl : ao = ao' := by have := HVK.out.symm.trans hvk'; cases this; rfl
          subst hao
          have hkw : (Lit.int .i64 (k : Int)).wf = true := WalkArith.wf_i64 ⟨by omega, by omega⟩
          have HFD := Lib.hid (find_any hinv'.tab k s hkw hsz)
          have HPT := Lib.hid (put_any hinv'.tab k s hkw hsz)
          clear hdrop hs hel' hvk' hkw
          by_cases hnum : numS L' k s = 0
          · rw [hnum] at HFD
            by_cases hpe : putE L' k s = 0
            · have HN : Hid (loadRow k (src k) L = loadRow k ((src k).drop (j + 1)) (putL L' k s)) := by
                have := hspec'.out; simp only [loadRow, hnum, hpe] at this; simpa [Hid] using this
              have HPE := Lib.hid hpe
              clear hnum hpe hspec' hinv' hsz
              go_wp2_with (first | (go_at_call 48; refine HFD.out.mono ?_; rintro e w' ⟨rfl, rfl⟩) | (go_at_call 49; refine HPT.out.mono ?_; rintro e w' ⟨rfl, hfr, htab⟩; rw [HPE.out]; have HT := Lib.hid (HI'.out.put hfr htab); clear hfr htab))
              go_roundw
              case rel => exact ⟨j + 1, by omega, by go_num, _, _, HT.out, HN⟩
              case measure => simp [intOf]; omega
            · have HN : Hid (loadS src = (putE L' k s, L')) := by
                refine HSP.out.out.trans (loadK_stop hk5 ?_ hpe)
                rw [hspec'.out, loadRow, if_neg (by simp [hnum]), if_pos hpe]
              have HPE := Lib.hid hpe
              have hpb : (putE L' k s == 0) = false := by simpa using hpe
              clear hnum hpe hspec' hinv' hsz
              go_wp2_with (first | (go_at_call 48; refine HFD.out.mono ?_; rintro e w' ⟨rfl, rfl⟩) | (go_at_call 49; refine HPT.out.mono ?_; rintro e w' ⟨rfl, hfr, htab⟩; have HT := Lib.hid (HI'.out.put hfr htab); clear hfr htab))
              go_ret2
              exact ⟨HT.out.fr, Or.inr ⟨by rw [HN.out]; exact HPE.out, by rw [HN.out]; rfl⟩⟩
          · have HN : Hid (loadS src = (11, L')) := by
              refine HSP.out.out.trans (loadK_stop hk5 ?_ (by decide))
              rw [hspec'.out, loadRow, if_pos hnum]
            have hb : decide (numS L' k s ≠ 0) = true := by simpa using hnum
            rw [hb] at HFD
            generalize (if numS L' k s = 0 then (0 : Int) else k * 8192 + numS L' k s) = at0 at *
            clear hnum hb hspec' hinv' hsz
            go_wp2_with (first | (go_at_call 48; refine HFD.out.mono ?_; rintro e w' ⟨rfl, rfl⟩))
            go_ret2
            exact ⟨HI'.out.fr, Or.inr ⟨by rw [HN.out]; show (11 : Int) ≠ 0; decide, by rw [HN.out]; rfl⟩⟩
        · obtain rfl : j = n := by omega
          have hend : loadRow k (src k) L = (0, L') := by
            have := hspec'.out
            rw [List.drop_eq_nil_of_le (by have := HL.out; omega)] at this
            exact this
          have HEND : Hid (loadS src = loadK src (6 - (k + 1)) (k + 1) L') := HSP.out.out.trans (loadK_step hk5 hend)
          clear hinv' hspec' hend
          go_wp2
          go_roundw
          case rel => exact ⟨k + 1, by omega, by omega, by go_num, L', F', HI'.out, HEND⟩
          case measure => simp [intOf]; omega
    · obtain rfl : k = 6 := by omega
      go_wp2
      go_ret2
      have hs0 : loadS src = (0, L) := hspec
      refine ⟨HI.out.fr, Or.inl ⟨by rw [hs0], B, F, rfl, by rw [hs0]; exact HI.out.tab, fun j hj => Nat.le_of_lt (HI.out.low j hj)⟩⟩
end Atm

end Go.Proofs.YtbfealhbdemhmaaGreatDoor
