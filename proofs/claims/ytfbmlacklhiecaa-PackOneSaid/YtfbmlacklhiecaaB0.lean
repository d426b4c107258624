/- Contracts and lemmas: B0 -/
import Derived.Test.YtfbmlacklhiecaaRows
import Derived.WalkKit
import Derived.ProofKit
import Derived.OpenShut
import Derived.Lib.Hide
import Derived.Deep.AppendLies
import Derived.Deep.AppendSrc
import Derived.Deep.Slices
import Derived.Deep.RegionHeld3
import Derived.Deep.RegionLaw
import Derived.Deep.RegionWith
import Derived.Below
import Derived.Deep.QuietTactic
import Derived.BigQuiet
import Derived.IntWalk
import Derived.WalkSpells
import Derived.WalkLawsBesides
import Derived.OwnWalk
import Derived.Laws.Strings
import Derived.Laws.Strings2
import Derived.Laws.Concat
import Derived.Laws.BytesArg
import Derived.Laws.IdiomStrings
import Derived.Deep.DeepCutAuto
import Derived.Deep.CutBlock
import Derived.Deep.DeepMust
import GoSem.Op.String
import Derived.Lib.SliceRun
import Derived.Laws.RangeAny
import Derived.Lib.OthersKept
import Derived.Laws.ResultCell
namespace Go.Proofs.Ytfbmlacklhiecaa
set_option linter.unusedVariables false
set_option linter.unusedSimpArgs false
open Go.RowKit Go.ChangeShapes Go.WideShapes
set_option maxRecDepth 20000

open Go.RowKit Go.ChangeShapes Go.WideShapes
theorem ret_bool {a b : Bool} (h : a = b) : Ending.returned (.bool a) = .returned (.bool b) := by rw [h]
theorem ret_int {k : IntKind} {a b : Int} (h : a = b) : Ending.returned (.int k a) = .returned (.int k b) := by rw [h]
theorem ret_str {a b : ByteArray} (h : a = b) : Ending.returned (.string a) = .returned (.string b) := by rw [h]
/-- only blocks of F, and new ones, turn -/
structure Fr (F : Nat → Prop) (w w' : World) : Prop where
  os : w'.os = w.os
  tape : w'.tape = w.tape
  output : w'.output = w.output
  size : w.heap.size ≤ w'.heap.size
  block : ∀ k, k < w.heap.size → ¬ F k → w'.heap[k]? = w.heap[k]?
/-- nothing that was there turns -/
abbrev Kept (w w' : World) : Prop := Fr (fun _ => False) w w'
theorem Fr.refl (F : Nat → Prop) (w : World) : Fr F w w := ⟨rfl, rfl, rfl, Nat.le_refl _, fun _ _ _ => rfl⟩
theorem Fr.trans {F : Nat → Prop} {a b c : World} (h : Fr F a b) (k : Fr F b c) : Fr F a c :=
  ⟨k.os.trans h.os, k.tape.trans h.tape, k.output.trans h.output, Nat.le_trans h.size k.size, fun i hi hn => (k.block i (Nat.lt_of_lt_of_le hi h.size) hn).trans (h.block i hi hn)⟩
theorem Fr.mono {F G : Nat → Prop} {a b : World} (h : Fr F a b) (hg : ∀ k, k < a.heap.size → F k → G k) : Fr G a b :=
  ⟨h.os, h.tape, h.output, h.size, fun i hi hn => h.block i hi (fun hf => hn (hg i hi hf))⟩
theorem Fr.of_grown {a b : World} {row : Option Nat} (h : a.grownBy b row) : Fr (fun k => row = some k) a b :=
  ⟨h.os, h.tape, h.output, h.size, fun i hi hn => h.block i hi (fun e => hn e.symm)⟩
theorem Fr.of_setCell (w : World) (a : Addr) (v : Value) : Fr (fun k => k = a.block) w (w.setCell a v) :=
  ⟨rfl, rfl, rfl, by simp [World.setCell], fun i _ hn => Below.heap_setCell _ _ _ _ hn⟩
theorem Fr.of_alloc (F : Nat → Prop) (w : World) (o : Obj) : Fr F w (w.alloc o) :=
  ⟨rfl, rfl, rfl, by simp, fun i hi _ => heap_alloc_old w o hi⟩
theorem Fr.of_drew (F : Nat → Prop) (w : World) : Fr F w w.drew := ⟨rfl, rfl, rfl, Nat.le_refl _, fun _ _ _ => rfl⟩
theorem Fr.of_drewN (F : Nat → Prop) (w : World) (n : Nat) : Fr F w (w.drewN n) := ⟨rfl, rfl, rfl, Nat.le_refl _, fun _ _ _ => rfl⟩
theorem Fr.below {F : Nat → Prop} {a b : World} {B : Nat} (h : Fr F a b) (hF : ∀ k, F k → B ≤ k) (hB : B ≤ a.heap.size) : Below B a b :=
  ⟨h.os, h.tape, h.output, h.size, fun k hk => h.block k (by omega) (fun hf => by have := hF k hf; omega)⟩
/-- what turned lies among what is new -/
theorem Fr.over {F : Nat → Prop} {a b c : World} (h : Kept a b) (k : Fr F b c) (hF : ∀ j, F j → a.heap.size ≤ j) : Kept a c :=
  ⟨k.os.trans h.os, k.tape.trans h.tape, k.output.trans h.output, Nat.le_trans h.size k.size, fun i hi _ => (k.block i (Nat.lt_of_lt_of_le hi h.size) (fun f => by have := hF i f; omega)).trans (h.block i hi (fun x => x))⟩
theorem Fr.cell {F : Nat → Prop} {a b : World} (h : Fr F a b) {g o : Nat} {v : Value} (hc : a.cell? ⟨g, o, none⟩ = some v) (hF : ¬ F g) : b.cell? ⟨g, o, none⟩ = some v := by
  have hlt : g < a.heap.size := by
    rcases Nat.lt_or_ge g a.heap.size with hlt | hge
    · exact hlt
    · simp [World.cell?, Array.getElem?_eq_none hge] at hc
  rw [← hc]
  exact World.cell?_of_block (h.block g hlt hF)
theorem Fr.grown {a b : World} (h : Kept a b) (row : Option Nat) : a.grownBy b row := ⟨h.os, h.tape, h.output, h.size, fun k hk _ => h.block k hk (fun x => x)⟩
theorem own_kept {w w' : World} {base n size : Nat} {e : TypeId} {v : Value} {xs : List Value} (h : w.ownsRow base e size v n xs) (hf : Kept w w') : w'.ownsRow base e size v n xs :=
  h.kept (hf.grown none) (by cases v.ownBlock <;> simp)
theorem own_base {w : World} {base base' n size : Nat} {e : TypeId} {v : Value} {xs : List Value} (h : w.ownsRow base e size v n xs) (hb : ∀ g, v.ownBlock = some g → base' ≤ g) : w.ownsRow base' e size v n xs := by
  refine ⟨h.1, ?_⟩
  rcases h.2 with hn | ⟨g, cap, cur, rfl, _, rest⟩
  · exact .inl hn
  · exact .inr ⟨g, cap, cur, rfl, hb g rfl, rest⟩
/-- a slice of elements of one cell that reads as l, in blocks of G -/
def Reads (w : World) (G : Nat → Prop) (v : Value) (l : List Value) : Prop :=
  ∃ ao c, v = .slice ao l.length c ∧ l.length ≤ c ∧ ∀ i x, l[i]? = some x → ∃ g off, ao = some ⟨g, off, none⟩ ∧ G g ∧ w.cell? ⟨g, off + i, none⟩ = some x
theorem Reads.kept {w w' : World} {G F : Nat → Prop} {v : Value} {l : List Value} (h : Reads w G v l) (hf : Fr F w w') (hd : ∀ k, G k → F k → False) : Reads w' G v l := by
  obtain ⟨ao, c, hv, hc, hx⟩ := h
  refine ⟨ao, c, hv, hc, fun i x hi => ?_⟩
  obtain ⟨g, off, h1, h2, h3⟩ := hx i x hi
  exact ⟨g, off, h1, h2, hf.cell h3 (fun f => hd g h2 f)⟩
theorem Reads.new {w w' : World} {G : Nat → Prop} {v : Value} {l : List Value} (h : Reads w G v l) (hf : Kept w w') : Reads w' G v l := h.kept hf (fun _ _ x => x)
theorem Reads.mono {w : World} {G G' : Nat → Prop} {v : Value} {l : List Value} (h : Reads w G v l) (hg : ∀ k, G k → G' k) : Reads w G' v l := by
  obtain ⟨ao, c, hv, hc, hx⟩ := h
  refine ⟨ao, c, hv, hc, fun i x hi => ?_⟩
  obtain ⟨g, off, h1, h2, h3⟩ := hx i x hi
  exact ⟨g, off, h1, hg g h2, h3⟩
theorem Reads.any {w : World} {G : Nat → Prop} {v : Value} {l : List Value} (h : Reads w G v l) : Reads w (fun _ => True) v l := h.mono fun _ _ => trivial
theorem Reads.of_row {w : World} {base n : Nat} {e : TypeId} {v : Value} {xs : List Value} (h : w.ownsRow base e 1 v n xs) : Reads w (fun g => base ≤ g ∧ v.ownBlock = some g) v xs := by
  have hl := h.1
  simp at hl
  rcases h.2 with ⟨rfl, rfl⟩ | ⟨g, cap, cur, rfl, hb, hgg, hnc, _, hs, htake⟩
  · have hn : xs = [] := List.eq_nil_of_length_eq_zero hl
    subst hn
    exact ⟨none, 0, rfl, by simp, fun i x hi => by simp at hi⟩
  · refine ⟨_, cap, by rw [hl], by omega, fun i x hi => ⟨g, 0, rfl, ⟨hb, rfl⟩, ?_⟩⟩
    have hc := h.cells (g := g) rfl i x hi
    have : (⟨g, 0, none⟩ : Addr).add i = ⟨g, 0 + i, none⟩ := by unfold Addr.add; split <;> simp_all
    rwa [this] at hc
theorem own_slice {w : World} {base n size : Nat} {e : TypeId} {v : Value} {xs : List Value} (h : w.ownsRow base e size v n xs) : ∃ ao c, v = .slice ao n c ∧ n ≤ c := by
  rcases h.2 with ⟨rfl, rfl⟩ | ⟨g, cap, cur, rfl, _, _, hc, _⟩
  · exact ⟨none, 0, rfl, Nat.le_refl _⟩
  · exact ⟨_, cap, rfl, hc⟩
theorem own_new {w : World} {base g : Nat} {e : TypeId} {size : Nat} (h : w.heap[g]? = some (.cells #[] e (0, 0))) (hb : base ≤ g) : w.ownsRow base e size (.slice (some ⟨g, 0, none⟩) 0 0) 0 [] :=
  ⟨by simp, .inr ⟨g, 0, #[], rfl, hb, h, Nat.le_refl _, by decide, by simp, by simp⟩⟩
theorem own_nil (w : World) (base : Nat) (e : TypeId) (size : Nat) : w.ownsRow base e size (.slice none 0 0) 0 [] := ⟨by simp, .inl ⟨rfl, rfl⟩⟩
/-- a row that has just been built -/
theorem own_built {w : World} {base g : Nat} {e : TypeId} {cs : Array Value} (h : w.heap[g]? = some (.cells cs e (0, 0))) (hb : base ≤ g) (hm : cs.size ≤ maxLen) : w.ownsRow base e 1 (.slice (some ⟨g, 0, none⟩) cs.size cs.size) cs.size cs.toList :=
  ⟨by simp, .inr ⟨g, cs.size, cs, rfl, hb, h, Nat.le_refl _, hm, by simp, by rw [List.take_of_length_le (by simp)]⟩⟩
/-- a block that has just been built reads as its cells -/
theorem reads_built {w : World} {g : Nat} {e : TypeId} {cs : Array Value} (h : w.heap[g]? = some (.cells cs e (0, 0))) : Reads w (fun k => k = g) (.slice (some ⟨g, 0, none⟩) cs.size cs.size) cs.toList :=
  ⟨_, cs.size, by simp, by simp, fun i x hi => ⟨g, 0, rfl, rfl, by
    rw [cell_of_row w g _ cs e (0, 0) h, Nat.zero_add]
    simpa using hi⟩⟩
/-- t is a slice of elements e: an element's zero, its cells, its bytes -/
structure SliceOf (P : Program) (t e : TypeId) (z : Value) (size bytes : Nat) : Prop where
  under : P.underlying t = some (.slice e)
  info : ∃ i, P.info? e = some i ∧ i.zero = some z ∧ i.size = size ∧ i.bytes = bytes
  zero : z.cells.size = size
  pos : 0 < size
theorem slice_of {P : Program} {t e : TypeId} {z : Value} {size bytes : Nat} (h : P.underlying t = some (.slice e)) (hi : (P.info? e).map (fun i => (i.zero, i.size, i.bytes)) = some (some z, size, bytes)) (hz : z.cells.size = size) (hp : 0 < size) : SliceOf P t e z size bytes := by
  obtain ⟨i0, h0, h1, h2, h3⟩ := info_parts hi
  exact ⟨h, ⟨i0, h0, h1, h2, h3⟩, hz, hp⟩
/-- what append leaves -/
def AppPost (w : World) (base : Nat) (e : TypeId) (size : Nat) (v : Value) (n : Nat) (xs : List Value) (v' : Value) (w' : World) : Prop :=
  w'.ownsRow base e size v' n xs ∧ w.grownBy w' v.ownBlock ∧ ∀ g, v'.ownBlock = some g → v.ownBlock = some g ∨ w.heap.size ≤ g
theorem run_app {P : Program} {w : World} {t tx ty e : TypeId} {z : Value} {size bytes base : Nat} (T : SliceOf P t e z size bytes) {v : Value} {n : Nat} {xs : List Value} (hown : w.ownsRow base e size v n xs)
    {x : Value} {m : Nat} {news : List Value} (hs : Src P size tx x m news w) (h63 : n + m ≤ maxLen) (hb : (n + m) * bytes ≤ 140737488355328) (hbase : base ≤ w.heap.size) :
    ∃ v' w', (Builtin.append_ #[t, tx] ty #[v, x]).run P w = .ok v' w' ∧ AppPost w base e size v (n + m) (xs ++ news) v' w' := by
  obtain ⟨i, hi, hz, rfl, rfl⟩ := T.info
  have hl := hs.newsLen
  have hzs := T.zero
  have hlen : (xs ++ news).length = (n + m) * i.size := by rw [List.length_append, hown.1, hl, Nat.add_mul]
  have grown : ∀ (old : Nat), old < n + m →
      AppPost w base e i.size v (n + m) (xs ++ news) (.slice (some ⟨w.heap.size, 0, none⟩) (n + m) (grownCap w (n + m) old e)) (w.drew.alloc (.cells ((xs ++ news).toArray ++ Builtin.zeroCells z.cells (grownCap w (n + m) old e - (n + m))) e)) := by
    intro old ho
    have hge := grownCap_ge w (n + m) old e
    have hcm : grownCap w (n + m) old e ≤ maxLen := grownCap_le_maxLen w (n + m) old e h63
    refine ⟨⟨hlen, .inr ⟨w.heap.size, _, _, rfl, hbase, heap_alloc_new w.drew _, hge, hcm, ?_, ?_⟩⟩, ⟨rfl, rfl, rfl, by simp, fun k hk _ => heap_alloc_old w.drew _ hk⟩, fun g hg => .inr ?_⟩
    · simp only [Array.size_append, List.size_toArray, size_zeroCells, hzs, hlen, ← Nat.add_mul]
      congr 1
      omega
    · simp only [Array.toList_append]
      rw [← hlen]
      exact List.take_left
    · simp [Value.ownBlock] at hg; omega
  rcases hown.2 with ⟨rfl, rfl⟩ | ⟨g, cap, cur, rfl, hbg, hg, hnc, hcm, hcs, htake⟩
  · have hx : xs = [] := List.eq_nil_of_length_eq_zero (by simpa using hown.1)
    subst hx
    by_cases hm : m = 0
    · subst hm
      have hn : news = [] := List.eq_nil_of_length_eq_zero (by simpa using hl)
      subst hn
      refine ⟨.slice none 0 0, w, ?_, own_nil w base e i.size, ⟨rfl, rfl, rfl, Nat.le_refl _, fun _ _ _ => rfl⟩, fun g hg => .inl hg⟩
      rcases hs.kind with ⟨e', hk⟩ | hk <;> simp [Builtin.append_, run_underlying T.under, run_underlying hk, sizeOf, typeInfo, hi, hs.len, hs.cells]
    · have hr := run_append_grow_src (P := P) w t tx ty e i z T.under hi hz none 0 0 [] (run_firstCells_none _ _ _ _ _) x m news hs (by omega) (by simp only [maxLen] at h63; omega) (growslice_fits (by omega) hb)
      exact ⟨_, _, hr, grown 0 (by omega)⟩
  · by_cases hroom : n + m ≤ cap
    · have hfit : n * i.size + news.length ≤ cur.size := by rw [hl, hcs, ← Nat.add_mul]; exact Nat.mul_le_mul_right _ hroom
      have hst := run_storeCells_at P g (n * i.size) e news 0 cur w hg (by simpa using hfit) hs.one
      simp only [Nat.add_zero] at hst
      have hr : (Builtin.append_ #[t, tx] ty #[.slice (some ⟨g, 0, none⟩) n cap, x]).run P w = .ok (.slice (some ⟨g, 0, none⟩) (n + m) cap) (w.setRow g (cur.toList.take (n * i.size) ++ news ++ cur.toList.drop (n * i.size + news.length)).toArray) := by
        rcases hs.kind with ⟨e', hk⟩ | hk <;> simp [Builtin.append_, run_underlying T.under, run_underlying hk, sizeOf, typeInfo, hi, hs.len, hroom, hs.cells, Addr.add_lit, hst]
      refine ⟨_, _, hr, ⟨hlen, .inr ⟨g, cap, _, rfl, hbg, setRow_heap w g cur _ e _ hg, hroom, hcm, ?_, ?_⟩⟩, ⟨rfl, rfl, rfl, by simp, fun k _ hk => setRow_other w g k _ (fun e => hk (by simp [Value.ownBlock, e]))⟩, fun g' hg' => .inl hg'⟩
      · simp only [List.size_toArray, List.length_append, List.length_take, List.length_drop, Array.length_toList]
        omega
      · rw [htake, ← hlen]
        exact List.take_left
    · have holds : ∀ j u, xs[j]? = some u → w.cell? ((⟨g, 0, none⟩ : Addr).add j) = some u := hown.cells (g := g) rfl
      have hr := run_append_grow_src (P := P) w t tx ty e i z T.under hi hz (some ⟨g, 0, none⟩) n cap xs (run_firstCells_some w.drew i.size n ⟨g, 0, none⟩ n cap xs hown.1 (by simpa using holds)) x m news hs (by omega) (by simp only [maxLen] at h63; omega) (growslice_fits (by omega) hb)
      exact ⟨_, _, hr, grown cap (by omega)⟩
theorem wp_app {P : Program} {w : World} {o : Oper} {a : Act} {K : Act → World → Prop} {Q : Exit → Act → World → Prop} (s x : Operand) (t tx : TypeId) {e : TypeId} {z : Value} {size bytes base : Nat}
    (ho : o.op = .call { callee := .builtin .append, args := #[s, x], argTypes := #[t, tx] }) (T : SliceOf P t e z size bytes) {v : Value} {n : Nat} {xs : List Value} (hv : a.eval s = v) (hown : w.ownsRow base e size v n xs)
    {y : Value} {m : Nat} {news : List Value} (hx : a.eval x = y) (hs : Src P size tx y m news w) (h63 : n + m ≤ maxLen) (hb : (n + m) * bytes ≤ 140737488355328) (hbase : base ≤ w.heap.size)
    (h : ∀ v' w', AppPost w base e size v (n + m) (xs ++ news) v' w' → K (a.put o.dst v') w') : o.wp P a w K Q := by
  obtain ⟨v', w', hr, hp⟩ := run_app (ty := o.type) T hown hs h63 hb hbase
  unfold Oper.wp execOp
  simp only [ho, resolve, invoke, builtin, Sem.run_bind, Sem.run_pure, Result.andThen_ok, List.map_toArray, List.map_cons, List.map_nil, hv, hx, hr]
  exact h v' w' hp
/-- append in a plain region -/
theorem list_app {P : Program} {w : World} {ops : Array Oper} {rest : List Oper} {o : Oper} {a : Act} {Q : Exit → Act → World → Prop} (hgd : o.guard = none) (s x : Operand) (t tx : TypeId) {e : TypeId} {z : Value} {size bytes base : Nat}
    (ho : o.op = .call { callee := .builtin .append, args := #[s, x], argTypes := #[t, tx] }) (T : SliceOf P t e z size bytes) {v : Value} {n : Nat} {xs : List Value} (hv : a.eval s = v) (hown : w.ownsRow base e size v n xs)
    {y : Value} {m : Nat} {news : List Value} (hx : a.eval x = y) (hs : Src P size tx y m news w) (h63 : n + m ≤ maxLen) (hb : (n + m) * bytes ≤ 140737488355328) (hbase : base ≤ w.heap.size)
    (h : ∀ v' w', AppPost w base e size v (n + m) (xs ++ news) v' w' → wpList P ops Q rest (a.put o.dst v') w') : wpList P ops Q (o :: rest) a w :=
  wpList_plain hgd fun _ hK => wp_app s x t tx ho T hv hown hx hs h63 hb hbase fun v' w' hp => hK _ _ (h v' w' hp)
/-- append in a region that draws its order -/
theorem step_app {P : Program} {w : World} {ops : Array Oper} {o : Oper} {a : Act} {K : Act → World → Prop} {Q : Exit → Act → World → Prop} {E : Prop} (hgd : o.guard = none) (s x : Operand) (t tx : TypeId) {e : TypeId} {z : Value} {size bytes base : Nat}
    (ho : o.op = .call { callee := .builtin .append, args := #[s, x], argTypes := #[t, tx] }) (T : SliceOf P t e z size bytes) {v : Value} {n : Nat} {xs : List Value} (hv : a.eval s = v) (hown : w.ownsRow base e size v n xs)
    {y : Value} {m : Nat} {news : List Value} (hx : a.eval x = y) (hs : Src P size tx y m news w) (h63 : n + m ≤ maxLen) (hb : (n + m) * bytes ≤ 140737488355328) (hbase : base ≤ w.heap.size)
    (h : ∀ v' w', AppPost w base e size v (n + m) (xs ++ news) v' w' → K (a.put o.dst v') w') : if Region.wanted o (yielded ops a.tmps) = true then Oper.wp P o a w K Q else E := by
  have hw : Region.wanted o (yielded ops a.tmps) = true := by simp [Region.wanted, hgd]
  rw [if_pos hw]
  exact wp_app s x t tx ho T hv hown hx hs h63 hb hbase h
/-- a slice that reads as a list is a source -/
theorem Reads.src {P : Program} {w : World} {G : Nat → Prop} {v : Value} {l : List Value} (h : Reads w G v l) {tx e' : TypeId} (hk : P.underlying tx = some (.slice e')) (h1 : ∀ u ∈ l, u.oneCell' = true) : Src P 1 tx v l.length l w := by
  obtain ⟨ao, c, rfl, hc, hx⟩ := h
  rcases l with _ | ⟨y, r⟩
  · refine ⟨.inl ⟨_, hk⟩, fun _ => rfl, ?_, ?_, rfl, fun _ h => by cases h⟩
    · cases ao <;> simp [Builtin.firstCells, loadCells, loadCellsFrom]
    · cases ao <;> simp [Builtin.firstCells, loadCells, loadCellsFrom]
  · obtain ⟨g, off, rfl, _, _⟩ := hx 0 y rfl
    refine Src.ofSlice w hk _ _ _ _ (by simp) (fun j u hj => ?_) h1
    obtain ⟨g', off', he, _, hcell⟩ := hx j u hj
    cases he
    have : (⟨g, off, none⟩ : Addr).add j = ⟨g, off + j, none⟩ := by unfold Addr.add; split <;> simp_all
    rw [this]; exact hcell
/-- behind an append, seen from where the row's blocks begin -/
theorem AppPost.kept {w0 w w' : World} {base : Nat} {e : TypeId} {size n : Nat} {v v' : Value} {xs : List Value} (h : AppPost w base e size v n xs v' w') (hf : Kept w0 w) (hv : ∀ g, v.ownBlock = some g → w0.heap.size ≤ g) :
    Kept w0 w' ∧ ∀ g, v'.ownBlock = some g → w0.heap.size ≤ g := by
  refine ⟨hf.over (Fr.of_grown h.2.1) hv, fun g hg => ?_⟩
  rcases h.2.2 g hg with h1 | h1
  · exact hv g h1
  · exact Nat.le_trans hf.size h1
/-- the cell of a block that is known whole -/
theorem cell_whole {w : World} {g : Nat} {cs : Array Value} {t : TypeId} {fr : Nat × Nat} (h : w.heap[g]? = some (.cells cs t fr)) (i : Nat) : w.cell? ⟨g, i, none⟩ = cs[i]? := cell_of_row w g i cs t fr h
/-- these cells are read as data of the type t -/
def Holds (P : Program) (w : World) (t : TypeId) (cs : List Value) : Prop :=
  ∃ (H : Type) (enc : TypeId × Value → H) (base : Nat) (spare : Nat → Bool) (held : Bool) (fuel : Nat) (x : DataW H × List MemPlace), DataW.trod enc P w base spare held fuel t cs = some x
section
variable {P : Program} {w : World} {t : TypeId} {cs : List Value}
theorem Holds.of_trod {H : Type} {enc : TypeId × Value → H} {base : Nat} {spare : Nat → Bool} {held : Bool} {v : Value} {d : DataW H} {ps : List MemPlace} (h : DataW.Trod enc P w base spare held t v d ps) : Holds P w t v.cells.toList := by
  obtain ⟨f, hf⟩ := h
  exact ⟨H, enc, base, spare, held, f, _, hf⟩
theorem Holds.int {k : IntKind} (h : Holds P w t cs) (ht : P.underlying t = some (.int k)) : ∃ n, cs = [.int k n] ∧ (Lit.int k n).wf = true := by
  obtain ⟨_, _, _, _, _, _, _, hf⟩ := h
  obtain ⟨n, h1, _, h2⟩ := DataW.trod_int ht hf
  exact ⟨n, h1, h2⟩
theorem Holds.bool (h : Holds P w t cs) (ht : P.underlying t = some .bool) : ∃ b, cs = [.bool b] := by
  obtain ⟨_, _, _, _, _, _, _, hf⟩ := h
  obtain ⟨n, h1, _⟩ := DataW.trod_bool ht hf
  exact ⟨n, h1⟩
theorem Holds.string (h : Holds P w t cs) (ht : P.underlying t = some .string) : ∃ s : ByteArray, cs = [.string s] ∧ s.size ≤ maxLen := by
  obtain ⟨_, _, _, _, _, _, _, hf⟩ := h
  obtain ⟨n, h1, _, h2⟩ := DataW.trod_string ht hf
  exact ⟨n, h1, h2⟩
theorem Holds.slice {e : TypeId} (h : Holds P w t cs) (ht : P.underlying t = some (.slice e)) :
    cs = [.slice none 0 0] ∨ ∃ (a : Addr) (len cap : Nat), cs = [.slice (some a) len cap] ∧ len ≤ cap ∧ cap ≤ maxLen ∧
      ∀ i, i < len → ∃ cs', cs'.length = P.cellsOf e ∧ (∀ j, j < P.cellsOf e → w.cell? (a.add (i * P.cellsOf e + j)) = cs'[j]?) ∧ Holds P w e cs' := by
  obtain ⟨H, enc, base, spare, held, fuel, x, hf⟩ := h
  rcases Deep.open_slice ht hf with ⟨h0, _⟩ | ⟨a, len, cap, m, n, D, Pl, h1, hb, hl, hm, hmm, _, hx⟩
  · exact .inl h0
  · refine .inr ⟨a, len, cap, h1, hl, hm, fun i hi => ?_⟩
    have him : i < m := by rw [hmm]; split <;> omega
    obtain ⟨cs', hc, hd⟩ := hx i him
    obtain ⟨_, hlen, hcell⟩ := World.cells?_some hc
    refine ⟨cs', hlen, fun j hj => ?_, H, enc, base, spare, held, n, _, hd⟩
    rw [← hcell j hj, Deep.add_add]
end
theorem spot_of_cell {w : World} {a : Addr} {v : Value} (h : w.cell? a = some v) : a.spot = none := by
  unfold World.cell? at h
  split at h
  · split at h
    · cases h
    · rename_i hs; simpa using hs
  · cases h
theorem add_of_spot {a : Addr} (i : Nat) : a.add i = { a with off := a.off + i, spot := (a.add i).spot } := by
  unfold Addr.add; split <;> simp_all
/-- the cells of a slice, by block and place -/
theorem cell_form {w : World} {a : Addr} {i : Nat} {v : Value} (h : w.cell? (a.add i) = some v) : w.cell? ⟨a.block, a.off + i, none⟩ = some v := by
  have hs := spot_of_cell h
  have : a.add i = ⟨a.block, a.off + i, none⟩ := by
    rw [add_of_spot, hs]
  rw [this] at h
  exact h
/-- a slice of one-cell elements that is read as data -/
theorem Holds.row {P : Program} {w : World} {t e : TypeId} {c : Value} {α : Type} [Inhabited α] {mk : α → Value} {R : α → Prop} (h : Holds P w t [c]) (ht : P.underlying t = some (.slice e)) (hC : P.cellsOf e = 1)
    (hQ : ∀ cs, Holds P w e cs → ∃ x, cs = [mk x] ∧ R x) : ∃ l : List α, Reads w (fun _ => True) c (l.map mk) ∧ (∀ x ∈ l, R x) ∧ l.length ≤ maxLen := by
  rcases h.slice ht with h0 | ⟨a, len, cap, h1, hl, hm, hx⟩
  · simp at h0
    subst h0
    exact ⟨[], ⟨none, 0, rfl, by simp, fun i x hi => by simp at hi⟩, by simp, Nat.zero_le _⟩
  · simp at h1
    subst h1
    have key : ∀ i, i < len → ∃ x : α, R x ∧ ∃ g off, some a = some ⟨g, off, none⟩ ∧ w.cell? ⟨g, off + i, none⟩ = some (mk x) := by
      intro i hi
      have ha : a = ⟨a.block, a.off, none⟩ := by
        obtain ⟨cs0, hl0, hc0, _⟩ := hx 0 (by omega)
        rw [hC] at hl0 hc0
        have h00 := hc0 0 (by omega)
        rw [List.getElem?_eq_getElem (by omega)] at h00
        have := spot_of_cell h00
        simp [Addr.add] at this
        cases a; simp_all
      obtain ⟨cs', hlen, hcell, hh⟩ := hx i hi
      rw [hC] at hlen hcell
      obtain ⟨x, rfl, hr⟩ := hQ cs' hh
      have := cell_form (hcell 0 (by omega))
      simp at this
      exact ⟨x, hr, a.block, a.off, ha ▸ rfl, this⟩
    obtain ⟨f, hf⟩ := Deep.choose_lt key
    refine ⟨(List.range len).map f, ⟨some a, cap, by simp, by simpa using hl, fun i x hi => ?_⟩, fun s hs => ?_, by simp; omega⟩
    · rw [List.map_map] at hi
      obtain ⟨hi', rfl⟩ := List.getElem?_eq_some_iff.1 hi
      simp at hi'
      obtain ⟨_, g, off, h1, h2⟩ := hf i hi'
      simp only [List.getElem_map, List.getElem_range]
      exact ⟨g, off, h1, trivial, h2⟩
    · obtain ⟨i, hi, rfl⟩ := List.mem_map.1 hs
      exact (hf i (by simpa using hi)).1

/-- a string's bytes -/
def bs (s : ByteArray) : List UInt8 := s.data.toList
theorem bs_mk (l : List UInt8) : bs ⟨l.toArray⟩ = l := rfl
theorem bs_len (s : ByteArray) : (bs s).length = s.size := by simp [bs]
theorem bs_inj {s t : ByteArray} (h : bs s = bs t) : s = t := by
  cases s; cases t; simp [bs] at h; simp [h]
theorem bs_iff {s t : ByteArray} : bs s = bs t ↔ s = t := ⟨bs_inj, fun h => by rw [h]⟩
theorem bs_toList (s : ByteArray) : s.toList = bs s := ByteArray.toList_eq s
theorem beq_bs (s t : ByteArray) : (s.toList == t.toList) = decide (s = t) := by
  rw [bs_toList, bs_toList, Bool.eq_iff_iff]; simp [bs_iff]
theorem bs_get (s : ByteArray) (k : Nat) (h : k < s.size) : (bs s)[k]? = some s[k] := by
  rw [bs, List.getElem?_eq_getElem (by simpa using h)]; rfl
theorem bs_append (s t : ByteArray) : bs (s ++ t) = bs s ++ bs t := by simp [bs]
theorem bs_extract (s : ByteArray) (a b : Nat) : bs (s.extract a b) = ((bs s).drop a).take (b - a) := by
  simp [bs]
/-- the atoms of bytes -/
def atoms : List UInt8 → List Int
  | a :: b :: r => (256 * (a.toNat : Int) + (b.toNat : Int)) :: atoms r
  | _ => []
/-- the bytes of atoms -/
def unatoms : List Int → List UInt8
  | [] => []
  | x :: r => UInt8.ofNat (x / 256).toNat :: UInt8.ofNat (x % 256).toNat :: unatoms r
/-- these are atoms -/
def Good (l : List Int) : Prop := ∀ x ∈ l, 0 ≤ x ∧ x ≤ 65535
theorem atoms_len : ∀ l : List UInt8, (atoms l).length = l.length / 2
  | [] => rfl
  | [_] => by simp [atoms]
  | _ :: _ :: r => by simp [atoms, atoms_len r]; omega
theorem atoms_get : ∀ (l : List UInt8) (k : Nat) (a b : UInt8), l[2 * k]? = some a → l[2 * k + 1]? = some b → (atoms l)[k]? = some (256 * (a.toNat : Int) + (b.toNat : Int))
  | [], k, a, b, h, _ => by simp at h
  | [x], 0, a, b, _, h => by simp at h
  | [x], k + 1, a, b, h, _ => by simp at h
  | x :: y :: r, 0, a, b, h, h' => by simp at h h'; simp [atoms, h, h']
  | x :: y :: r, k + 1, a, b, h, h' => by
    have e : 2 * (k + 1) = 2 * k + 1 + 1 := by omega
    rw [e] at h h'
    simp only [List.getElem?_cons_succ] at h h'
    simpa [atoms] using atoms_get r k a b h h'
theorem atoms_good : ∀ l : List UInt8, Good (atoms l)
  | [] => by simp [atoms, Good]
  | [_] => by simp [atoms, Good]
  | a :: b :: r => by
    have ih := atoms_good r
    have ha := a.toNat_lt
    have hb := b.toNat_lt
    intro x hx
    simp only [atoms, List.mem_cons] at hx
    rcases hx with rfl | hx
    · omega
    · exact ih x hx
theorem unatoms_len : ∀ l : List Int, (unatoms l).length = 2 * l.length
  | [] => rfl
  | x :: r => by simp [unatoms, unatoms_len r]; omega
theorem unatoms_append : ∀ (l m : List Int), unatoms (l ++ m) = unatoms l ++ unatoms m
  | [], m => rfl
  | x :: r, m => by simp [unatoms, unatoms_append r m]
theorem byte_hi (a b : UInt8) : UInt8.ofNat ((256 * (a.toNat : Int) + (b.toNat : Int)) / 256).toNat = a := by
  have ha := a.toNat_lt
  have hb := b.toNat_lt
  have : ((256 * (a.toNat : Int) + (b.toNat : Int)) / 256).toNat = a.toNat := by omega
  rw [this]; simp
theorem byte_lo (a b : UInt8) : UInt8.ofNat ((256 * (a.toNat : Int) + (b.toNat : Int)) % 256).toNat = b := by
  have ha := a.toNat_lt
  have hb := b.toNat_lt
  have : ((256 * (a.toNat : Int) + (b.toNat : Int)) % 256).toNat = b.toNat := by omega
  rw [this]; simp
theorem atoms_unatoms : ∀ l : List Int, Good l → atoms (unatoms l) = l
  | [], _ => rfl
  | x :: r, h => by
    have hx := h x (by simp)
    have ih := atoms_unatoms r (fun y hy => h y (by simp [hy]))
    simp only [unatoms, atoms, ih, UInt8.toNat_ofNat']
    congr 1
    omega
theorem unatoms_atoms : ∀ l : List UInt8, l.length % 2 = 0 → unatoms (atoms l) = l
  | [], _ => rfl
  | [_], h => by simp at h
  | a :: b :: r, h => by
    have ih := unatoms_atoms r (by simp at h; omega)
    simp only [atoms, unatoms, ih, byte_hi, byte_lo]
theorem atoms_append : ∀ (l m : List UInt8), l.length % 2 = 0 → atoms (l ++ m) = atoms l ++ atoms m
  | [], m, _ => by simp [atoms]
  | [_], m, h => by simp at h
  | a :: b :: r, m, h => by
    have ih := atoms_append r m (by simp at h; omega)
    simp [atoms, ih]
theorem atoms_drop : ∀ (k : Nat) (l : List UInt8), atoms (l.drop (2 * k)) = (atoms l).drop k
  | 0, l => rfl
  | k + 1, [] => by simp [atoms]
  | k + 1, [_] => by rw [List.drop_eq_nil_of_le (by simp; omega)]; simp [atoms]
  | k + 1, a :: b :: r => by
    have e : 2 * (k + 1) = 2 * k + 1 + 1 := by omega
    rw [e]
    simp only [List.drop_succ_cons, atoms]
    exact atoms_drop k r
theorem atoms_take : ∀ (k : Nat) (l : List UInt8), atoms (l.take (2 * k)) = (atoms l).take k
  | 0, l => by simp [atoms]
  | k + 1, [] => by simp [atoms]
  | k + 1, [_] => by
    have e : 2 * (k + 1) = 2 * k + 1 + 1 := by omega
    rw [e]
    simp [atoms]
  | k + 1, a :: b :: r => by
    have e : 2 * (k + 1) = 2 * k + 1 + 1 := by omega
    rw [e]
    simp only [List.take_succ_cons, atoms]
    rw [atoms_take k r]
theorem atoms_inj {l m : List UInt8} (hl : l.length % 2 = 0) (hm : m.length % 2 = 0) (h : atoms l = atoms m) : l = m := by
  rw [← unatoms_atoms l hl, ← unatoms_atoms m hm, h]
theorem atoms_torn {l : List UInt8} (h : l.length % 2 = 1) : atoms l = atoms (l.take (l.length - 1)) := by
  have : l.length - 1 = 2 * (l.length / 2) := by omega
  rw [this, atoms_take, List.take_of_length_le (by rw [atoms_len]; omega)]
/-- the word of atoms -/
def ofS (l : List Int) : ByteArray := ⟨(unatoms l).toArray⟩
theorem bs_ofS (l : List Int) : bs (ofS l) = unatoms l := rfl
theorem ofS_size (l : List Int) : (ofS l).size = 2 * l.length := by rw [← bs_len, bs_ofS, unatoms_len]
/-- a byte is left behind the last atom -/
def tornB (s : ByteArray) : Bool := decide (s.size % 2 = 1)
/-- it may be -/
def mayS (s : ByteArray) : Bool := !tornB s && (decide (1 ≤ s.size / 2 ∧ s.size / 2 ≤ 8) && (atoms (bs s)).all (fun x => x != 0))
/-- the atom at a place -/
def atS (s : ByteArray) (i : Int) : Int := if 0 ≤ i then ((atoms (bs s))[i.toNat]?).getD 0 else 0
theorem atS_good (s : ByteArray) (i : Int) : 0 ≤ atS s i ∧ atS s i ≤ 65535 := by
  unfold atS
  split
  · cases h : (atoms (bs s))[i.toNat]? with
    | none => simp
    | some x => exact atoms_good _ x (List.mem_of_getElem? h)
  · simp
theorem atS_out {s : ByteArray} {i : Int} (h : i < 0 ∨ (s.size : Int) / 2 ≤ i) : atS s i = 0 := by
  unfold atS
  split
  · rw [List.getElem?_eq_none (by rw [atoms_len, bs_len]; omega)]; rfl
  · rfl
theorem atS_in {s : ByteArray} {i : Nat} (h : 2 * i + 1 < s.size) : atS s i = 256 * ((s[2 * i]).toNat : Int) + ((s[2 * i + 1]).toNat : Int) := by
  unfold atS
  rw [if_pos (by omega), Int.toNat_natCast, atoms_get (bs s) i _ _ (bs_get s (2 * i) (by omega)) (bs_get s (2 * i + 1) h)]
  rfl
theorem atS_get {s : ByteArray} {i : Nat} {x : Int} (h : (atoms (bs s))[i]? = some x) : atS s i = x := by
  unfold atS
  rw [if_pos (by omega), Int.toNat_natCast, h]; rfl
/-- there are n atoms at the place i on -/
def partB (s : ByteArray) (i n : Int) : Bool := decide (0 ≤ i ∧ 0 ≤ n ∧ n ≤ (s.size : Int) / 2 - i)
/-- a part, and what is wrong -/
def subS (s : ByteArray) (i n : Int) : ByteArray × Int :=
  if tornB s = true then (⟨#[]⟩, 2) else if partB s i n = false then (⟨#[]⟩, 5) else (s.extract (2 * i.toNat) (2 * (i.toNat + n.toNat)), 0)
/-- all of them one behind the other -/
def flatS : List ByteArray → List UInt8
  | [] => []
  | s :: r => bs s ++ flatS r
def catS (l : List ByteArray) : ByteArray × Int :=
  if l.any tornB = true then (⟨#[]⟩, 2) else if 16 < (flatS l).length then (⟨#[]⟩, 4) else (⟨(flatS l).toArray⟩, 0)
def swapS (s : ByteArray) (i n : Int) (v : ByteArray) : ByteArray × Int :=
  if (tornB s || tornB v) = true then (⟨#[]⟩, 2) else if partB s i n = false then (⟨#[]⟩, 5) else catS [s.extract 0 (2 * i.toNat), v, s.extract (2 * (i.toNat + n.toNat)) s.size]
/-- the word v stands in w at the place k -/
def standsB (w v : ByteArray) (k : Nat) : Bool := decide (((bs w).drop (2 * k)).take v.size = bs v)
/-- the first place from a place on -/
def FindIs (w v : ByteArray) (i : Int) (r : Int) : Prop :=
  if tornB v = true ∨ v.size = 0 then r = -1 else
    (r = -1 ∧ ∀ k : Nat, i ≤ k → standsB w v k = false) ∨ ∃ k : Nat, r = k ∧ i ≤ k ∧ standsB w v k = true ∧ ∀ j : Nat, j < k → i ≤ j → standsB w v j = false
theorem FindIs.unique {w v : ByteArray} {i r r' : Int} (h : FindIs w v i r) (h' : FindIs w v i r') : r = r' := by
  unfold FindIs at h h'
  split at h
  · rename_i hn
    rw [if_pos hn] at h'
    rw [h, h']
  · rename_i hn
    rw [if_neg hn] at h'
    rcases h with ⟨h1, h2⟩ | ⟨k, h1, h2, h3, h4⟩ <;> rcases h' with ⟨g1, g2⟩ | ⟨k', g1, g2, g3, g4⟩
    · rw [h1, g1]
    · rw [h2 k' g2] at g3; cases g3
    · rw [g2 k h2] at h3; cases h3
    · rcases Nat.lt_trichotomy k k' with hlt | he | hlt
      · rw [g4 k hlt h2] at h3; cases h3
      · rw [h1, g1, he]
      · rw [h4 k' hlt g2] at g3; cases g3
theorem stands_le {w v : ByteArray} {k : Nat} (h : standsB w v k = true) (hv : 0 < v.size) : 2 * k + v.size ≤ w.size := by
  simp only [standsB, decide_eq_true_eq] at h
  have := congrArg List.length h
  simp [bs_len] at this
  omega
/-- less -/
def lessS (a b : ByteArray) : Bool := if a.size = b.size then Op.bytesLess (bs a) (bs b) else decide (a.size < b.size)
theorem tornB_false {s : ByteArray} (h : tornB s = false) : s.size % 2 = 0 := by
  simp [tornB] at h; omega
theorem tornB_true {s : ByteArray} (h : tornB s = true) : s.size % 2 = 1 := by
  simpa [tornB] using h
theorem flat_append : ∀ (l m : List ByteArray), flatS (l ++ m) = flatS l ++ flatS m
  | [], m => rfl
  | s :: r, m => by simp [flatS, flat_append r m]
theorem catS_size (l : List ByteArray) : (catS l).1.size ≤ 16 := by
  unfold catS
  split
  · decide
  · split
    · decide
    · rename_i h
      show (flatS l).toArray.size ≤ 16
      simp; omega

theorem i64_bounds {i : Int} (wi : (Lit.int .i64 i).wf = true) : -9223372036854775808 ≤ i ∧ i ≤ 9223372036854775807 := by
  simp [Lit.wf, IntKind.min, IntKind.max, IntKind.signed, IntKind.bits] at wi; exact wi
/-- what the world is behind a call that only reads -/
def DrewPost (v : Value) (w : World) (e : Ending) (w' : World) : Prop := e = .returned v ∧ ∃ n, w' = w.drewN n
/-- what the world is behind a call that turns nothing that was there -/
def KeptPost (v : Value) (w : World) (e : Ending) (w' : World) : Prop := e = .returned v ∧ Kept w w'
theorem DrewPost.kept {v : Value} {w w' : World} {e : Ending} (h : DrewPost v w e w') : KeptPost v w e w' := by
  obtain ⟨h1, n, rfl⟩ := h
  exact ⟨h1, Fr.of_drewN _ _ _⟩
theorem eq_of_take {α : Type} {l m : List α} (hlen : l.length = m.length) {k : Nat} (hk : k = l.length) (h : ∀ i, i < k → l[i]? = m[i]?) : l = m := by
  apply List.ext_getElem?
  intro i
  rcases Nat.lt_or_ge i k with hi | hi
  · exact h i hi
  · rw [List.getElem?_eq_none (by omega), List.getElem?_eq_none (by omega)]
theorem own_at (g n c : Nat) : ∀ g', (Value.slice (some ⟨g, 0, none⟩) n c).ownBlock = some g' → g ≤ g' := fun g' h => by
  have : g = g' := by simpa [Value.ownBlock] using h
  omega
theorem quiet_drew {P : Program} {f : FuncId} {args : Array Value} {w : World} {n : Nat} {v : Value}
    (h : ∀ w, Calls P f args w (DrewPost v w)) : Calls P f args (w.drewN n) fun e w'' => e = .returned v ∧ ∃ m, w'' = w.drewN m := Calls.quiet_of (h (w.drewN n))
theorem quiet_same {P : Program} {f : FuncId} {args : Array Value} {w : World} {n : Nat} {v : Value}
    (h : ∀ w, Calls P f args w fun e w' => e = .returned v ∧ w = w') : Calls P f args (w.drewN n) fun e w'' => e = .returned v ∧ ∃ m, w'' = w.drewN m := Calls.quiet_of_same ((h (w.drewN n)).mono fun _ _ ⟨h1, h2⟩ => ⟨h1, h2.symm⟩)
/-- no word is larger than n bytes -/
def Small (n : Nat) (l : List ByteArray) : Prop := ∀ s ∈ l, s.size ≤ n
/-- two results -/
def PairPost (r : ByteArray × Int) (w : World) (e : Ending) (w' : World) : Prop := e = .returned (.tuple #[.string r.1, .int .i64 r.2]) ∧ Kept w w'
theorem pair_of {r : ByteArray × Int} {x : ByteArray} {y : Int} (h : r = (x, y)) : Ending.returned (.tuple #[.string x, .int .i64 y]) = .returned (.tuple #[.string r.1, .int .i64 r.2]) := by rw [h]
/-- a row of the call's own that has these cells -/
def RowPost (w : World) (e : TypeId) (xs : List Value) (en : Ending) (w' : World) : Prop :=
  ∃ v, en = .returned v ∧ w'.ownsRow w.heap.size e 1 v xs.length xs ∧ Kept w w'
theorem src_one {P : Program} {w : World} {g : Nat} {u : Value} {e tx e' : TypeId} (hk : P.underlying tx = some (.slice e')) (h : w.heap[g]? = some (.cells #[u] e (0, 0))) (h1 : u.oneCell' = true) : Src P 1 tx (.slice (some ⟨g, 0, none⟩) 1 1) 1 [u] w :=
  Src.ofSlice w hk _ _ _ _ rfl (fun j x hx => by
    match j, hx with
    | 0, hx => simp at hx; subst hx; simp [Addr.add, World.cell?, h]) (fun x hx => by simp at hx; subst hx; exact h1)
theorem u16_in (n : Int) (h0 : 0 ≤ n) (h1 : n ≤ 65535) : IntKind.u16.wrap n = n := by
  unfold IntKind.wrap; simp [IntKind.bits, IntKind.signed]; omega
theorem u8_in (n : Int) (h0 : 0 ≤ n) (h1 : n ≤ 255) : IntKind.u8.wrap n = n := by
  unfold IntKind.wrap; simp [IntKind.bits, IntKind.signed]; omega
theorem u8_mod (x : Int) : IntKind.u8.wrap x = x % 256 := by
  unfold IntKind.wrap; simp [IntKind.bits, IntKind.signed]
theorem src_two {P : Program} {w : World} {g : Nat} {u u' : Value} {e tx e' : TypeId} (hk : P.underlying tx = some (.slice e')) (h : w.heap[g]? = some (.cells #[u, u'] e (0, 0))) (h1 : u.oneCell' = true) (h2 : u'.oneCell' = true) : Src P 1 tx (.slice (some ⟨g, 0, none⟩) 2 2) 2 [u, u'] w :=
  Src.ofSlice w hk _ _ _ _ rfl (fun j x hx => by
    match j, hx with
    | 0, hx => simp at hx; subst hx; simp [Addr.add, World.cell?, h]
    | 1, hx => simp at hx; subst hx; simp [Addr.add, World.cell?, h]) (fun x hx => by simp at hx; rcases hx with rfl | rfl <;> assumption)

/-- a world in which nothing that was there has turned -/
structure KeptW (w : World) where
  wd : World
  kept : Kept w wd
instance (w : World) : Nonempty (KeptW w) := ⟨⟨w, Fr.refl _ _⟩⟩
/-- a walk of a region whose order is drawn, shut -/
structure QuietAt (P : Program) (ops : Array Oper) (C : World → Prop) (Q : Act → Prop) (l : List Oper) (a : Act) : Prop where
  out : wpQuiet P ops C Q l a
theorem qa_step {P : Program} {ops : Array Oper} {C : World → Prop} {Q : Act → Prop} {a : Act} {o : Oper} {rest : List Oper}
    (h : ∀ K : Act → Prop, (∀ a, QuietAt P ops C Q rest a → K a) → if Region.wanted o (yielded ops a.tmps) then o.quiet P a C K else K (a.put o.dst undef)) : QuietAt P ops C Q (o :: rest) a :=
  ⟨wpQuiet_step fun K hK => h K fun a ha => hK a ha.out⟩
theorem qa_nil {P : Program} {ops : Array Oper} {C : World → Prop} {Q : Act → Prop} {a : Act} (h : Q a) : QuietAt P ops C Q [] a := ⟨wpQuiet_nil h⟩
theorem wp_region_kept {P : Program} {id : Nat} {Q : Exit → Act → World → Prop} {a : Act} {w : World} {l : List Oper} (hm : P.follows .mixedOrders = true) (hB : Region.lexB .any l.toArray = true)
    (h : QuietAt P l.toArray (fun w' => ∃ p : KeptW w, w' = p.wd) (fun a' => ∀ w', (∃ p : KeptW w, w' = p.wd) → Q .normal a' w') l a) : (Code.region id l.toArray true).wp P Q a w :=
  wp_region_quiet (C := fun w' => ∃ p : KeptW w, w' = p.wd) hm hB ⟨⟨w.drew, Fr.of_drew _ _⟩, rfl⟩ (by have := h.out; simpa using this)
theorem kept_call {P : Program} {f : FuncId} {args : Array Value} {w : World} {v : Value} {p : KeptW w} (h : ∀ W, Calls P f args W (KeptPost v W)) : Calls P f args p.wd fun e w'' => e = .returned v ∧ ∃ p' : KeptW w, w'' = p'.wd :=
  (h p.wd).mono fun _ w'' ⟨he, hk⟩ => ⟨he, ⟨w'', p.kept.trans hk⟩, rfl⟩
theorem kept_drew {P : Program} {f : FuncId} {args : Array Value} {w : World} {v : Value} {p : KeptW w} (h : ∀ W, Calls P f args W (DrewPost v W)) : Calls P f args p.wd fun e w'' => e = .returned v ∧ ∃ p' : KeptW w, w'' = p'.wd :=
  kept_call fun W => (h W).mono fun _ _ h => h.kept

end Go.Proofs.Ytfbmlacklhiecaa
