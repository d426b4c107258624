/- What the packages below are proved to do: contracts of their functions, and what they use. -/
import Derived.Test.YtdapklamemalgaaRows
import Derived.WalkKit
import Derived.ProofKit
import Derived.OpenShut
import Derived.Lib.Hide
import Derived.Deep.AppendLies
import Derived.Deep.AppendSrc
import Derived.Deep.Slices
import Derived.Deep.RegionHeld3
import Derived.Deep.RegionLaw
import Derived.Deep.RegionWith
import Derived.Below
import Derived.Deep.QuietTactic
import Derived.BigQuiet
import Derived.IntWalk
import Derived.WalkSpells
import Derived.WalkLawsBesides
import Derived.OwnWalk
import Derived.Laws.Strings
import Derived.Laws.Strings2
import Derived.Laws.Concat
import Derived.Laws.BytesArg
import Derived.Laws.IdiomStrings
import Derived.Deep.DeepCutAuto
import Derived.Deep.CutBlock
import Derived.Deep.DeepMust
import GoSem.Op.String
namespace Go.Proofs.Ytdapklamemalgaa
set_option linter.unusedVariables false
set_option linter.unusedSimpArgs false
open Go.RowKit Go.ChangeShapes Go.WideShapes

open Go.RowKit Go.ChangeShapes Go.WideShapes
theorem ret_bool {a b : Bool} (h : a = b) : Ending.returned (.bool a) = .returned (.bool b) := by rw [h]
theorem ret_int {k : IntKind} {a b : Int} (h : a = b) : Ending.returned (.int k a) = .returned (.int k b) := by rw [h]
theorem ret_str {a b : ByteArray} (h : a = b) : Ending.returned (.string a) = .returned (.string b) := by rw [h]
/-- only blocks of F, and new ones, turn -/
structure Fr (F : Nat → Prop) (w w' : World) : Prop where
  os : w'.os = w.os
  tape : w'.tape = w.tape
  output : w'.output = w.output
  size : w.heap.size ≤ w'.heap.size
  block : ∀ k, k < w.heap.size → ¬ F k → w'.heap[k]? = w.heap[k]?
/-- nothing that was there turns -/
abbrev Kept (w w' : World) : Prop := Fr (fun _ => False) w w'
theorem Fr.refl (F : Nat → Prop) (w : World) : Fr F w w := ⟨rfl, rfl, rfl, Nat.le_refl _, fun _ _ _ => rfl⟩
theorem Fr.trans {F : Nat → Prop} {a b c : World} (h : Fr F a b) (k : Fr F b c) : Fr F a c :=
  ⟨k.os.trans h.os, k.tape.trans h.tape, k.output.trans h.output, Nat.le_trans h.size k.size, fun i hi hn => (k.block i (Nat.lt_of_lt_of_le hi h.size) hn).trans (h.block i hi hn)⟩
theorem Fr.mono {F G : Nat → Prop} {a b : World} (h : Fr F a b) (hg : ∀ k, k < a.heap.size → F k → G k) : Fr G a b :=
  ⟨h.os, h.tape, h.output, h.size, fun i hi hn => h.block i hi (fun hf => hn (hg i hi hf))⟩
theorem Fr.of_grown {a b : World} {row : Option Nat} (h : a.grownBy b row) : Fr (fun k => row = some k) a b :=
  ⟨h.os, h.tape, h.output, h.size, fun i hi hn => h.block i hi (fun e => hn e.symm)⟩
theorem Fr.of_setCell (w : World) (a : Addr) (v : Value) : Fr (fun k => k = a.block) w (w.setCell a v) :=
  ⟨rfl, rfl, rfl, by simp [World.setCell], fun i _ hn => Below.heap_setCell _ _ _ _ hn⟩
theorem Fr.of_alloc (F : Nat → Prop) (w : World) (o : Obj) : Fr F w (w.alloc o) :=
  ⟨rfl, rfl, rfl, by simp, fun i hi _ => heap_alloc_old w o hi⟩
theorem Fr.of_drew (F : Nat → Prop) (w : World) : Fr F w w.drew := ⟨rfl, rfl, rfl, Nat.le_refl _, fun _ _ _ => rfl⟩
theorem Fr.of_drewN (F : Nat → Prop) (w : World) (n : Nat) : Fr F w (w.drewN n) := ⟨rfl, rfl, rfl, Nat.le_refl _, fun _ _ _ => rfl⟩
theorem Fr.below {F : Nat → Prop} {a b : World} {B : Nat} (h : Fr F a b) (hF : ∀ k, F k → B ≤ k) (hB : B ≤ a.heap.size) : Below B a b :=
  ⟨h.os, h.tape, h.output, h.size, fun k hk => h.block k (by omega) (fun hf => by have := hF k hf; omega)⟩
/-- what turned lies among what is new -/
theorem Fr.over {F : Nat → Prop} {a b c : World} (h : Kept a b) (k : Fr F b c) (hF : ∀ j, F j → a.heap.size ≤ j) : Kept a c :=
  ⟨k.os.trans h.os, k.tape.trans h.tape, k.output.trans h.output, Nat.le_trans h.size k.size, fun i hi _ => (k.block i (Nat.lt_of_lt_of_le hi h.size) (fun f => by have := hF i f; omega)).trans (h.block i hi (fun x => x))⟩
theorem Fr.cell {F : Nat → Prop} {a b : World} (h : Fr F a b) {g o : Nat} {v : Value} (hc : a.cell? ⟨g, o, none⟩ = some v) (hF : ¬ F g) : b.cell? ⟨g, o, none⟩ = some v := by
  have hlt : g < a.heap.size := by
    rcases Nat.lt_or_ge g a.heap.size with hlt | hge
    · exact hlt
    · simp [World.cell?, Array.getElem?_eq_none hge] at hc
  rw [← hc]
  exact World.cell?_of_block (h.block g hlt hF)
theorem Fr.grown {a b : World} (h : Kept a b) (row : Option Nat) : a.grownBy b row := ⟨h.os, h.tape, h.output, h.size, fun k hk _ => h.block k hk (fun x => x)⟩
theorem own_kept {w w' : World} {base n size : Nat} {e : TypeId} {v : Value} {xs : List Value} (h : w.ownsRow base e size v n xs) (hf : Kept w w') : w'.ownsRow base e size v n xs :=
  h.kept (hf.grown none) (by cases v.ownBlock <;> simp)
theorem own_base {w : World} {base base' n size : Nat} {e : TypeId} {v : Value} {xs : List Value} (h : w.ownsRow base e size v n xs) (hb : ∀ g, v.ownBlock = some g → base' ≤ g) : w.ownsRow base' e size v n xs := by
  refine ⟨h.1, ?_⟩
  rcases h.2 with hn | ⟨g, cap, cur, rfl, _, rest⟩
  · exact .inl hn
  · exact .inr ⟨g, cap, cur, rfl, hb g rfl, rest⟩
/-- a slice of elements of one cell that reads as l, in blocks of G -/
def Reads (w : World) (G : Nat → Prop) (v : Value) (l : List Value) : Prop :=
  ∃ ao c, v = .slice ao l.length c ∧ l.length ≤ c ∧ ∀ i x, l[i]? = some x → ∃ g off, ao = some ⟨g, off, none⟩ ∧ G g ∧ w.cell? ⟨g, off + i, none⟩ = some x
theorem Reads.kept {w w' : World} {G F : Nat → Prop} {v : Value} {l : List Value} (h : Reads w G v l) (hf : Fr F w w') (hd : ∀ k, G k → F k → False) : Reads w' G v l := by
  obtain ⟨ao, c, hv, hc, hx⟩ := h
  refine ⟨ao, c, hv, hc, fun i x hi => ?_⟩
  obtain ⟨g, off, h1, h2, h3⟩ := hx i x hi
  exact ⟨g, off, h1, h2, hf.cell h3 (fun f => hd g h2 f)⟩
theorem Reads.new {w w' : World} {G : Nat → Prop} {v : Value} {l : List Value} (h : Reads w G v l) (hf : Kept w w') : Reads w' G v l := h.kept hf (fun _ _ x => x)
theorem Reads.mono {w : World} {G G' : Nat → Prop} {v : Value} {l : List Value} (h : Reads w G v l) (hg : ∀ k, G k → G' k) : Reads w G' v l := by
  obtain ⟨ao, c, hv, hc, hx⟩ := h
  refine ⟨ao, c, hv, hc, fun i x hi => ?_⟩
  obtain ⟨g, off, h1, h2, h3⟩ := hx i x hi
  exact ⟨g, off, h1, hg g h2, h3⟩
theorem Reads.any {w : World} {G : Nat → Prop} {v : Value} {l : List Value} (h : Reads w G v l) : Reads w (fun _ => True) v l := h.mono fun _ _ => trivial
theorem Reads.of_row {w : World} {base n : Nat} {e : TypeId} {v : Value} {xs : List Value} (h : w.ownsRow base e 1 v n xs) : Reads w (fun g => base ≤ g ∧ v.ownBlock = some g) v xs := by
  have hl := h.1
  simp at hl
  rcases h.2 with ⟨rfl, rfl⟩ | ⟨g, cap, cur, rfl, hb, hgg, hnc, _, hs, htake⟩
  · have hn : xs = [] := List.eq_nil_of_length_eq_zero hl
    subst hn
    exact ⟨none, 0, rfl, by simp, fun i x hi => by simp at hi⟩
  · refine ⟨_, cap, by rw [hl], by omega, fun i x hi => ⟨g, 0, rfl, ⟨hb, rfl⟩, ?_⟩⟩
    have hc := h.cells (g := g) rfl i x hi
    have : (⟨g, 0, none⟩ : Addr).add i = ⟨g, 0 + i, none⟩ := by unfold Addr.add; split <;> simp_all
    rwa [this] at hc
theorem own_slice {w : World} {base n size : Nat} {e : TypeId} {v : Value} {xs : List Value} (h : w.ownsRow base e size v n xs) : ∃ ao c, v = .slice ao n c ∧ n ≤ c := by
  rcases h.2 with ⟨rfl, rfl⟩ | ⟨g, cap, cur, rfl, _, _, hc, _⟩
  · exact ⟨none, 0, rfl, Nat.le_refl _⟩
  · exact ⟨_, cap, rfl, hc⟩
theorem own_new {w : World} {base g : Nat} {e : TypeId} {size : Nat} (h : w.heap[g]? = some (.cells #[] e (0, 0))) (hb : base ≤ g) : w.ownsRow base e size (.slice (some ⟨g, 0, none⟩) 0 0) 0 [] :=
  ⟨by simp, .inr ⟨g, 0, #[], rfl, hb, h, Nat.le_refl _, by decide, by simp, by simp⟩⟩
theorem own_nil (w : World) (base : Nat) (e : TypeId) (size : Nat) : w.ownsRow base e size (.slice none 0 0) 0 [] := ⟨by simp, .inl ⟨rfl, rfl⟩⟩
/-- a row that has just been built -/
theorem own_built {w : World} {base g : Nat} {e : TypeId} {cs : Array Value} (h : w.heap[g]? = some (.cells cs e (0, 0))) (hb : base ≤ g) (hm : cs.size ≤ maxLen) : w.ownsRow base e 1 (.slice (some ⟨g, 0, none⟩) cs.size cs.size) cs.size cs.toList :=
  ⟨by simp, .inr ⟨g, cs.size, cs, rfl, hb, h, Nat.le_refl _, hm, by simp, by rw [List.take_of_length_le (by simp)]⟩⟩
/-- a block that has just been built reads as its cells -/
theorem reads_built {w : World} {g : Nat} {e : TypeId} {cs : Array Value} (h : w.heap[g]? = some (.cells cs e (0, 0))) : Reads w (fun k => k = g) (.slice (some ⟨g, 0, none⟩) cs.size cs.size) cs.toList :=
  ⟨_, cs.size, by simp, by simp, fun i x hi => ⟨g, 0, rfl, rfl, by
    rw [cell_of_row w g _ cs e (0, 0) h, Nat.zero_add]
    simpa using hi⟩⟩
/-- t is a slice of elements e: an element's zero, its cells, its bytes -/
structure SliceOf (P : Program) (t e : TypeId) (z : Value) (size bytes : Nat) : Prop where
  under : P.underlying t = some (.slice e)
  info : ∃ i, P.info? e = some i ∧ i.zero = some z ∧ i.size = size ∧ i.bytes = bytes
  zero : z.cells.size = size
  pos : 0 < size
theorem slice_of {P : Program} {t e : TypeId} {z : Value} {size bytes : Nat} (h : P.underlying t = some (.slice e)) (hi : (P.info? e).map (fun i => (i.zero, i.size, i.bytes)) = some (some z, size, bytes)) (hz : z.cells.size = size) (hp : 0 < size) : SliceOf P t e z size bytes := by
  obtain ⟨i0, h0, h1, h2, h3⟩ := info_parts hi
  exact ⟨h, ⟨i0, h0, h1, h2, h3⟩, hz, hp⟩
/-- what append leaves -/
def AppPost (w : World) (base : Nat) (e : TypeId) (size : Nat) (v : Value) (n : Nat) (xs : List Value) (v' : Value) (w' : World) : Prop :=
  w'.ownsRow base e size v' n xs ∧ w.grownBy w' v.ownBlock ∧ ∀ g, v'.ownBlock = some g → v.ownBlock = some g ∨ w.heap.size ≤ g
theorem run_app {P : Program} {w : World} {t tx ty e : TypeId} {z : Value} {size bytes base : Nat} (T : SliceOf P t e z size bytes) {v : Value} {n : Nat} {xs : List Value} (hown : w.ownsRow base e size v n xs)
    {x : Value} {m : Nat} {news : List Value} (hs : Src P size tx x m news w) (h63 : n + m ≤ maxLen) (hb : (n + m) * bytes ≤ 140737488355328) (hbase : base ≤ w.heap.size) :
    ∃ v' w', (Builtin.append_ #[t, tx] ty #[v, x]).run P w = .ok v' w' ∧ AppPost w base e size v (n + m) (xs ++ news) v' w' := by
  obtain ⟨i, hi, hz, rfl, rfl⟩ := T.info
  have hl := hs.newsLen
  have hzs := T.zero
  have hlen : (xs ++ news).length = (n + m) * i.size := by rw [List.length_append, hown.1, hl, Nat.add_mul]
  have grown : ∀ (old : Nat), old < n + m →
      AppPost w base e i.size v (n + m) (xs ++ news) (.slice (some ⟨w.heap.size, 0, none⟩) (n + m) (grownCap w (n + m) old e)) (w.drew.alloc (.cells ((xs ++ news).toArray ++ Builtin.zeroCells z.cells (grownCap w (n + m) old e - (n + m))) e)) := by
    intro old ho
    have hge := grownCap_ge w (n + m) old e
    have hcm : grownCap w (n + m) old e ≤ maxLen := grownCap_le_maxLen w (n + m) old e h63
    refine ⟨⟨hlen, .inr ⟨w.heap.size, _, _, rfl, hbase, heap_alloc_new w.drew _, hge, hcm, ?_, ?_⟩⟩, ⟨rfl, rfl, rfl, by simp, fun k hk _ => heap_alloc_old w.drew _ hk⟩, fun g hg => .inr ?_⟩
    · simp only [Array.size_append, List.size_toArray, size_zeroCells, hzs, hlen, ← Nat.add_mul]
      congr 1
      omega
    · simp only [Array.toList_append]
      rw [← hlen]
      exact List.take_left
    · simp [Value.ownBlock] at hg; omega
  rcases hown.2 with ⟨rfl, rfl⟩ | ⟨g, cap, cur, rfl, hbg, hg, hnc, hcm, hcs, htake⟩
  · have hx : xs = [] := List.eq_nil_of_length_eq_zero (by simpa using hown.1)
    subst hx
    by_cases hm : m = 0
    · subst hm
      have hn : news = [] := List.eq_nil_of_length_eq_zero (by simpa using hl)
      subst hn
      refine ⟨.slice none 0 0, w, ?_, own_nil w base e i.size, ⟨rfl, rfl, rfl, Nat.le_refl _, fun _ _ _ => rfl⟩, fun g hg => .inl hg⟩
      rcases hs.kind with ⟨e', hk⟩ | hk <;> simp [Builtin.append_, run_underlying T.under, run_underlying hk, sizeOf, typeInfo, hi, hs.len, hs.cells]
    · have hr := run_append_grow_src (P := P) w t tx ty e i z T.under hi hz none 0 0 [] (run_firstCells_none _ _ _ _ _) x m news hs (by omega) (by simp only [maxLen] at h63; omega) (growslice_fits (by omega) hb)
      exact ⟨_, _, hr, grown 0 (by omega)⟩
  · by_cases hroom : n + m ≤ cap
    · have hfit : n * i.size + news.length ≤ cur.size := by rw [hl, hcs, ← Nat.add_mul]; exact Nat.mul_le_mul_right _ hroom
      have hst := run_storeCells_at P g (n * i.size) e news 0 cur w hg (by simpa using hfit) hs.one
      simp only [Nat.add_zero] at hst
      have hr : (Builtin.append_ #[t, tx] ty #[.slice (some ⟨g, 0, none⟩) n cap, x]).run P w = .ok (.slice (some ⟨g, 0, none⟩) (n + m) cap) (w.setRow g (cur.toList.take (n * i.size) ++ news ++ cur.toList.drop (n * i.size + news.length)).toArray) := by
        rcases hs.kind with ⟨e', hk⟩ | hk <;> simp [Builtin.append_, run_underlying T.under, run_underlying hk, sizeOf, typeInfo, hi, hs.len, hroom, hs.cells, Addr.add_lit, hst]
      refine ⟨_, _, hr, ⟨hlen, .inr ⟨g, cap, _, rfl, hbg, setRow_heap w g cur _ e _ hg, hroom, hcm, ?_, ?_⟩⟩, ⟨rfl, rfl, rfl, by simp, fun k _ hk => setRow_other w g k _ (fun e => hk (by simp [Value.ownBlock, e]))⟩, fun g' hg' => .inl hg'⟩
      · simp only [List.size_toArray, List.length_append, List.length_take, List.length_drop, Array.length_toList]
        omega
      · rw [htake, ← hlen]
        exact List.take_left
    · have holds : ∀ j u, xs[j]? = some u → w.cell? ((⟨g, 0, none⟩ : Addr).add j) = some u := hown.cells (g := g) rfl
      have hr := run_append_grow_src (P := P) w t tx ty e i z T.under hi hz (some ⟨g, 0, none⟩) n cap xs (run_firstCells_some w.drew i.size n ⟨g, 0, none⟩ n cap xs hown.1 (by simpa using holds)) x m news hs (by omega) (by simp only [maxLen] at h63; omega) (growslice_fits (by omega) hb)
      exact ⟨_, _, hr, grown cap (by omega)⟩
theorem wp_app {P : Program} {w : World} {o : Oper} {a : Act} {K : Act → World → Prop} {Q : Exit → Act → World → Prop} (s x : Operand) (t tx : TypeId) {e : TypeId} {z : Value} {size bytes base : Nat}
    (ho : o.op = .call { callee := .builtin .append, args := #[s, x], argTypes := #[t, tx] }) (T : SliceOf P t e z size bytes) {v : Value} {n : Nat} {xs : List Value} (hv : a.eval s = v) (hown : w.ownsRow base e size v n xs)
    {y : Value} {m : Nat} {news : List Value} (hx : a.eval x = y) (hs : Src P size tx y m news w) (h63 : n + m ≤ maxLen) (hb : (n + m) * bytes ≤ 140737488355328) (hbase : base ≤ w.heap.size)
    (h : ∀ v' w', AppPost w base e size v (n + m) (xs ++ news) v' w' → K (a.put o.dst v') w') : o.wp P a w K Q := by
  obtain ⟨v', w', hr, hp⟩ := run_app (ty := o.type) T hown hs h63 hb hbase
  unfold Oper.wp execOp
  simp only [ho, resolve, invoke, builtin, Sem.run_bind, Sem.run_pure, Result.andThen_ok, List.map_toArray, List.map_cons, List.map_nil, hv, hx, hr]
  exact h v' w' hp
/-- append in a plain region -/
theorem list_app {P : Program} {w : World} {ops : Array Oper} {rest : List Oper} {o : Oper} {a : Act} {Q : Exit → Act → World → Prop} (hgd : o.guard = none) (s x : Operand) (t tx : TypeId) {e : TypeId} {z : Value} {size bytes base : Nat}
    (ho : o.op = .call { callee := .builtin .append, args := #[s, x], argTypes := #[t, tx] }) (T : SliceOf P t e z size bytes) {v : Value} {n : Nat} {xs : List Value} (hv : a.eval s = v) (hown : w.ownsRow base e size v n xs)
    {y : Value} {m : Nat} {news : List Value} (hx : a.eval x = y) (hs : Src P size tx y m news w) (h63 : n + m ≤ maxLen) (hb : (n + m) * bytes ≤ 140737488355328) (hbase : base ≤ w.heap.size)
    (h : ∀ v' w', AppPost w base e size v (n + m) (xs ++ news) v' w' → wpList P ops Q rest (a.put o.dst v') w') : wpList P ops Q (o :: rest) a w :=
  wpList_plain hgd fun _ hK => wp_app s x t tx ho T hv hown hx hs h63 hb hbase fun v' w' hp => hK _ _ (h v' w' hp)
/-- append in a region that draws its order -/
theorem step_app {P : Program} {w : World} {ops : Array Oper} {o : Oper} {a : Act} {K : Act → World → Prop} {Q : Exit → Act → World → Prop} {E : Prop} (hgd : o.guard = none) (s x : Operand) (t tx : TypeId) {e : TypeId} {z : Value} {size bytes base : Nat}
    (ho : o.op = .call { callee := .builtin .append, args := #[s, x], argTypes := #[t, tx] }) (T : SliceOf P t e z size bytes) {v : Value} {n : Nat} {xs : List Value} (hv : a.eval s = v) (hown : w.ownsRow base e size v n xs)
    {y : Value} {m : Nat} {news : List Value} (hx : a.eval x = y) (hs : Src P size tx y m news w) (h63 : n + m ≤ maxLen) (hb : (n + m) * bytes ≤ 140737488355328) (hbase : base ≤ w.heap.size)
    (h : ∀ v' w', AppPost w base e size v (n + m) (xs ++ news) v' w' → K (a.put o.dst v') w') : if Region.wanted o (yielded ops a.tmps) = true then Oper.wp P o a w K Q else E := by
  have hw : Region.wanted o (yielded ops a.tmps) = true := by simp [Region.wanted, hgd]
  rw [if_pos hw]
  exact wp_app s x t tx ho T hv hown hx hs h63 hb hbase h
/-- a slice that reads as a list is a source -/
theorem Reads.src {P : Program} {w : World} {G : Nat → Prop} {v : Value} {l : List Value} (h : Reads w G v l) {tx e' : TypeId} (hk : P.underlying tx = some (.slice e')) (h1 : ∀ u ∈ l, u.oneCell' = true) : Src P 1 tx v l.length l w := by
  obtain ⟨ao, c, rfl, hc, hx⟩ := h
  rcases l with _ | ⟨y, r⟩
  · refine ⟨.inl ⟨_, hk⟩, fun _ => rfl, ?_, ?_, rfl, fun _ h => by cases h⟩
    · cases ao <;> simp [Builtin.firstCells, loadCells, loadCellsFrom]
    · cases ao <;> simp [Builtin.firstCells, loadCells, loadCellsFrom]
  · obtain ⟨g, off, rfl, _, _⟩ := hx 0 y rfl
    refine Src.ofSlice w hk _ _ _ _ (by simp) (fun j u hj => ?_) h1
    obtain ⟨g', off', he, _, hcell⟩ := hx j u hj
    cases he
    have : (⟨g, off, none⟩ : Addr).add j = ⟨g, off + j, none⟩ := by unfold Addr.add; split <;> simp_all
    rw [this]; exact hcell
/-- behind an append, seen from where the row's blocks begin -/
theorem AppPost.kept {w0 w w' : World} {base : Nat} {e : TypeId} {size n : Nat} {v v' : Value} {xs : List Value} (h : AppPost w base e size v n xs v' w') (hf : Kept w0 w) (hv : ∀ g, v.ownBlock = some g → w0.heap.size ≤ g) :
    Kept w0 w' ∧ ∀ g, v'.ownBlock = some g → w0.heap.size ≤ g := by
  refine ⟨hf.over (Fr.of_grown h.2.1) hv, fun g hg => ?_⟩
  rcases h.2.2 g hg with h1 | h1
  · exact hv g h1
  · exact Nat.le_trans hf.size h1
/-- the cell of a block that is known whole -/
theorem cell_whole {w : World} {g : Nat} {cs : Array Value} {t : TypeId} {fr : Nat × Nat} (h : w.heap[g]? = some (.cells cs t fr)) (i : Nat) : w.cell? ⟨g, i, none⟩ = cs[i]? := cell_of_row w g i cs t fr h
/-- these cells are read as data of the type t -/
def Holds (P : Program) (w : World) (t : TypeId) (cs : List Value) : Prop :=
  ∃ (H : Type) (enc : TypeId × Value → H) (base : Nat) (spare : Nat → Bool) (held : Bool) (fuel : Nat) (x : DataW H × List MemPlace), DataW.trod enc P w base spare held fuel t cs = some x
section
variable {P : Program} {w : World} {t : TypeId} {cs : List Value}
theorem Holds.of_trod {H : Type} {enc : TypeId × Value → H} {base : Nat} {spare : Nat → Bool} {held : Bool} {v : Value} {d : DataW H} {ps : List MemPlace} (h : DataW.Trod enc P w base spare held t v d ps) : Holds P w t v.cells.toList := by
  obtain ⟨f, hf⟩ := h
  exact ⟨H, enc, base, spare, held, f, _, hf⟩
theorem Holds.int {k : IntKind} (h : Holds P w t cs) (ht : P.underlying t = some (.int k)) : ∃ n, cs = [.int k n] ∧ (Lit.int k n).wf = true := by
  obtain ⟨_, _, _, _, _, _, _, hf⟩ := h
  obtain ⟨n, h1, _, h2⟩ := DataW.trod_int ht hf
  exact ⟨n, h1, h2⟩
theorem Holds.bool (h : Holds P w t cs) (ht : P.underlying t = some .bool) : ∃ b, cs = [.bool b] := by
  obtain ⟨_, _, _, _, _, _, _, hf⟩ := h
  obtain ⟨n, h1, _⟩ := DataW.trod_bool ht hf
  exact ⟨n, h1⟩
theorem Holds.string (h : Holds P w t cs) (ht : P.underlying t = some .string) : ∃ s : ByteArray, cs = [.string s] ∧ s.size ≤ maxLen := by
  obtain ⟨_, _, _, _, _, _, _, hf⟩ := h
  obtain ⟨n, h1, _, h2⟩ := DataW.trod_string ht hf
  exact ⟨n, h1, h2⟩
theorem Holds.slice {e : TypeId} (h : Holds P w t cs) (ht : P.underlying t = some (.slice e)) :
    cs = [.slice none 0 0] ∨ ∃ (a : Addr) (len cap : Nat), cs = [.slice (some a) len cap] ∧ len ≤ cap ∧ cap ≤ maxLen ∧
      ∀ i, i < len → ∃ cs', cs'.length = P.cellsOf e ∧ (∀ j, j < P.cellsOf e → w.cell? (a.add (i * P.cellsOf e + j)) = cs'[j]?) ∧ Holds P w e cs' := by
  obtain ⟨H, enc, base, spare, held, fuel, x, hf⟩ := h
  rcases Deep.open_slice ht hf with ⟨h0, _⟩ | ⟨a, len, cap, m, n, D, Pl, h1, hb, hl, hm, hmm, _, hx⟩
  · exact .inl h0
  · refine .inr ⟨a, len, cap, h1, hl, hm, fun i hi => ?_⟩
    have him : i < m := by rw [hmm]; split <;> omega
    obtain ⟨cs', hc, hd⟩ := hx i him
    obtain ⟨_, hlen, hcell⟩ := World.cells?_some hc
    refine ⟨cs', hlen, fun j hj => ?_, H, enc, base, spare, held, n, _, hd⟩
    rw [← hcell j hj, Deep.add_add]
end
theorem spot_of_cell {w : World} {a : Addr} {v : Value} (h : w.cell? a = some v) : a.spot = none := by
  unfold World.cell? at h
  split at h
  · split at h
    · cases h
    · rename_i hs; simpa using hs
  · cases h
theorem add_of_spot {a : Addr} (i : Nat) : a.add i = { a with off := a.off + i, spot := (a.add i).spot } := by
  unfold Addr.add; split <;> simp_all
/-- the cells of a slice, by block and place -/
theorem cell_form {w : World} {a : Addr} {i : Nat} {v : Value} (h : w.cell? (a.add i) = some v) : w.cell? ⟨a.block, a.off + i, none⟩ = some v := by
  have hs := spot_of_cell h
  have : a.add i = ⟨a.block, a.off + i, none⟩ := by
    rw [add_of_spot, hs]
  rw [this] at h
  exact h
/-- a slice of one-cell elements that is read as data -/
theorem Holds.row {P : Program} {w : World} {t e : TypeId} {c : Value} {α : Type} [Inhabited α] {mk : α → Value} {R : α → Prop} (h : Holds P w t [c]) (ht : P.underlying t = some (.slice e)) (hC : P.cellsOf e = 1)
    (hQ : ∀ cs, Holds P w e cs → ∃ x, cs = [mk x] ∧ R x) : ∃ l : List α, Reads w (fun _ => True) c (l.map mk) ∧ (∀ x ∈ l, R x) ∧ l.length ≤ maxLen := by
  rcases h.slice ht with h0 | ⟨a, len, cap, h1, hl, hm, hx⟩
  · simp at h0
    subst h0
    exact ⟨[], ⟨none, 0, rfl, by simp, fun i x hi => by simp at hi⟩, by simp, Nat.zero_le _⟩
  · simp at h1
    subst h1
    have key : ∀ i, i < len → ∃ x : α, R x ∧ ∃ g off, some a = some ⟨g, off, none⟩ ∧ w.cell? ⟨g, off + i, none⟩ = some (mk x) := by
      intro i hi
      have ha : a = ⟨a.block, a.off, none⟩ := by
        obtain ⟨cs0, hl0, hc0, _⟩ := hx 0 (by omega)
        rw [hC] at hl0 hc0
        have h00 := hc0 0 (by omega)
        rw [List.getElem?_eq_getElem (by omega)] at h00
        have := spot_of_cell h00
        simp [Addr.add] at this
        cases a; simp_all
      obtain ⟨cs', hlen, hcell, hh⟩ := hx i hi
      rw [hC] at hlen hcell
      obtain ⟨x, rfl, hr⟩ := hQ cs' hh
      have := cell_form (hcell 0 (by omega))
      simp at this
      exact ⟨x, hr, a.block, a.off, ha ▸ rfl, this⟩
    obtain ⟨f, hf⟩ := Deep.choose_lt key
    refine ⟨(List.range len).map f, ⟨some a, cap, by simp, by simpa using hl, fun i x hi => ?_⟩, fun s hs => ?_, by simp; omega⟩
    · rw [List.map_map] at hi
      obtain ⟨hi', rfl⟩ := List.getElem?_eq_some_iff.1 hi
      simp at hi'
      obtain ⟨_, g, off, h1, h2⟩ := hf i hi'
      simp only [List.getElem_map, List.getElem_range]
      exact ⟨g, off, h1, trivial, h2⟩
    · obtain ⟨i, hi, rfl⟩ := List.mem_map.1 hs
      exact (hf i (by simpa using hi)).1

/-- a string's bytes -/
def bs (s : ByteArray) : List UInt8 := s.data.toList
theorem bs_mk (l : List UInt8) : bs ⟨l.toArray⟩ = l := rfl
theorem bs_len (s : ByteArray) : (bs s).length = s.size := by simp [bs]
theorem bs_inj {s t : ByteArray} (h : bs s = bs t) : s = t := by
  cases s; cases t; simp [bs] at h; simp [h]
theorem bs_iff {s t : ByteArray} : bs s = bs t ↔ s = t := ⟨bs_inj, fun h => by rw [h]⟩
theorem bs_toList (s : ByteArray) : s.toList = bs s := ByteArray.toList_eq s
theorem beq_bs (s t : ByteArray) : (s.toList == t.toList) = decide (s = t) := by
  rw [bs_toList, bs_toList, Bool.eq_iff_iff]; simp [bs_iff]
theorem bs_get (s : ByteArray) (k : Nat) (h : k < s.size) : (bs s)[k]? = some s[k] := by
  rw [bs, List.getElem?_eq_getElem (by simpa using h)]; rfl
theorem bs_append (s t : ByteArray) : bs (s ++ t) = bs s ++ bs t := by simp [bs]
theorem bs_extract (s : ByteArray) (a b : Nat) : bs (s.extract a b) = ((bs s).drop a).take (b - a) := by
  simp [bs]
/-- the atoms of bytes -/
def atoms : List UInt8 → List Int
  | a :: b :: r => (256 * (a.toNat : Int) + (b.toNat : Int)) :: atoms r
  | _ => []
/-- the bytes of atoms -/
def unatoms : List Int → List UInt8
  | [] => []
  | x :: r => UInt8.ofNat (x / 256).toNat :: UInt8.ofNat (x % 256).toNat :: unatoms r
/-- these are atoms -/
def Good (l : List Int) : Prop := ∀ x ∈ l, 0 ≤ x ∧ x ≤ 65535
theorem atoms_len : ∀ l : List UInt8, (atoms l).length = l.length / 2
  | [] => rfl
  | [_] => by simp [atoms]
  | _ :: _ :: r => by simp [atoms, atoms_len r]; omega
theorem atoms_get : ∀ (l : List UInt8) (k : Nat) (a b : UInt8), l[2 * k]? = some a → l[2 * k + 1]? = some b → (atoms l)[k]? = some (256 * (a.toNat : Int) + (b.toNat : Int))
  | [], k, a, b, h, _ => by simp at h
  | [x], 0, a, b, _, h => by simp at h
  | [x], k + 1, a, b, h, _ => by simp at h
  | x :: y :: r, 0, a, b, h, h' => by simp at h h'; simp [atoms, h, h']
  | x :: y :: r, k + 1, a, b, h, h' => by
    have e : 2 * (k + 1) = 2 * k + 1 + 1 := by omega
    rw [e] at h h'
    simp only [List.getElem?_cons_succ] at h h'
    simpa [atoms] using atoms_get r k a b h h'
theorem atoms_good : ∀ l : List UInt8, Good (atoms l)
  | [] => by simp [atoms, Good]
  | [_] => by simp [atoms, Good]
  | a :: b :: r => by
    have ih := atoms_good r
    have ha := a.toNat_lt
    have hb := b.toNat_lt
    intro x hx
    simp only [atoms, List.mem_cons] at hx
    rcases hx with rfl | hx
    · omega
    · exact ih x hx
theorem unatoms_len : ∀ l : List Int, (unatoms l).length = 2 * l.length
  | [] => rfl
  | x :: r => by simp [unatoms, unatoms_len r]; omega
theorem unatoms_append : ∀ (l m : List Int), unatoms (l ++ m) = unatoms l ++ unatoms m
  | [], m => rfl
  | x :: r, m => by simp [unatoms, unatoms_append r m]
theorem byte_hi (a b : UInt8) : UInt8.ofNat ((256 * (a.toNat : Int) + (b.toNat : Int)) / 256).toNat = a := by
  have ha := a.toNat_lt
  have hb := b.toNat_lt
  have : ((256 * (a.toNat : Int) + (b.toNat : Int)) / 256).toNat = a.toNat := by omega
  rw [this]; simp
theorem byte_lo (a b : UInt8) : UInt8.ofNat ((256 * (a.toNat : Int) + (b.toNat : Int)) % 256).toNat = b := by
  have ha := a.toNat_lt
  have hb := b.toNat_lt
  have : ((256 * (a.toNat : Int) + (b.toNat : Int)) % 256).toNat = b.toNat := by omega
  rw [this]; simp
theorem atoms_unatoms : ∀ l : List Int, Good l → atoms (unatoms l) = l
  | [], _ => rfl
  | x :: r, h => by
    have hx := h x (by simp)
    have ih := atoms_unatoms r (fun y hy => h y (by simp [hy]))
    simp only [unatoms, atoms, ih, UInt8.toNat_ofNat']
    congr 1
    omega
theorem unatoms_atoms : ∀ l : List UInt8, l.length % 2 = 0 → unatoms (atoms l) = l
  | [], _ => rfl
  | [_], h => by simp at h
  | a :: b :: r, h => by
    have ih := unatoms_atoms r (by simp at h; omega)
    simp only [atoms, unatoms, ih, byte_hi, byte_lo]
theorem atoms_append : ∀ (l m : List UInt8), l.length % 2 = 0 → atoms (l ++ m) = atoms l ++ atoms m
  | [], m, _ => by simp [atoms]
  | [_], m, h => by simp at h
  | a :: b :: r, m, h => by
    have ih := atoms_append r m (by simp at h; omega)
    simp [atoms, ih]
theorem atoms_drop : ∀ (k : Nat) (l : List UInt8), atoms (l.drop (2 * k)) = (atoms l).drop k
  | 0, l => rfl
  | k + 1, [] => by simp [atoms]
  | k + 1, [_] => by rw [List.drop_eq_nil_of_le (by simp; omega)]; simp [atoms]
  | k + 1, a :: b :: r => by
    have e : 2 * (k + 1) = 2 * k + 1 + 1 := by omega
    rw [e]
    simp only [List.drop_succ_cons, atoms]
    exact atoms_drop k r
theorem atoms_take : ∀ (k : Nat) (l : List UInt8), atoms (l.take (2 * k)) = (atoms l).take k
  | 0, l => by simp [atoms]
  | k + 1, [] => by simp [atoms]
  | k + 1, [_] => by
    have e : 2 * (k + 1) = 2 * k + 1 + 1 := by omega
    rw [e]
    simp [atoms]
  | k + 1, a :: b :: r => by
    have e : 2 * (k + 1) = 2 * k + 1 + 1 := by omega
    rw [e]
    simp only [List.take_succ_cons, atoms]
    rw [atoms_take k r]
theorem atoms_inj {l m : List UInt8} (hl : l.length % 2 = 0) (hm : m.length % 2 = 0) (h : atoms l = atoms m) : l = m := by
  rw [← unatoms_atoms l hl, ← unatoms_atoms m hm, h]
theorem atoms_torn {l : List UInt8} (h : l.length % 2 = 1) : atoms l = atoms (l.take (l.length - 1)) := by
  have : l.length - 1 = 2 * (l.length / 2) := by omega
  rw [this, atoms_take, List.take_of_length_le (by rw [atoms_len]; omega)]
/-- the word of atoms -/
def ofS (l : List Int) : ByteArray := ⟨(unatoms l).toArray⟩
theorem bs_ofS (l : List Int) : bs (ofS l) = unatoms l := rfl
theorem ofS_size (l : List Int) : (ofS l).size = 2 * l.length := by rw [← bs_len, bs_ofS, unatoms_len]
/-- a byte is left behind the last atom -/
def tornB (s : ByteArray) : Bool := decide (s.size % 2 = 1)
/-- it may be -/
def mayS (s : ByteArray) : Bool := !tornB s && (decide (1 ≤ s.size / 2 ∧ s.size / 2 ≤ 8) && (atoms (bs s)).all (fun x => x != 0))
/-- the atom at a place -/
def atS (s : ByteArray) (i : Int) : Int := if 0 ≤ i then ((atoms (bs s))[i.toNat]?).getD 0 else 0
theorem atS_good (s : ByteArray) (i : Int) : 0 ≤ atS s i ∧ atS s i ≤ 65535 := by
  unfold atS
  split
  · cases h : (atoms (bs s))[i.toNat]? with
    | none => simp
    | some x => exact atoms_good _ x (List.mem_of_getElem? h)
  · simp
theorem atS_out {s : ByteArray} {i : Int} (h : i < 0 ∨ (s.size : Int) / 2 ≤ i) : atS s i = 0 := by
  unfold atS
  split
  · rw [List.getElem?_eq_none (by rw [atoms_len, bs_len]; omega)]; rfl
  · rfl
theorem atS_in {s : ByteArray} {i : Nat} (h : 2 * i + 1 < s.size) : atS s i = 256 * ((s[2 * i]).toNat : Int) + ((s[2 * i + 1]).toNat : Int) := by
  unfold atS
  rw [if_pos (by omega), Int.toNat_natCast, atoms_get (bs s) i _ _ (bs_get s (2 * i) (by omega)) (bs_get s (2 * i + 1) h)]
  rfl
theorem atS_get {s : ByteArray} {i : Nat} {x : Int} (h : (atoms (bs s))[i]? = some x) : atS s i = x := by
  unfold atS
  rw [if_pos (by omega), Int.toNat_natCast, h]; rfl
/-- there are n atoms at the place i on -/
def partB (s : ByteArray) (i n : Int) : Bool := decide (0 ≤ i ∧ 0 ≤ n ∧ n ≤ (s.size : Int) / 2 - i)
/-- a part, and what is wrong -/
def subS (s : ByteArray) (i n : Int) : ByteArray × Int :=
  if tornB s = true then (⟨#[]⟩, 2) else if partB s i n = false then (⟨#[]⟩, 5) else (s.extract (2 * i.toNat) (2 * (i.toNat + n.toNat)), 0)
/-- all of them one behind the other -/
def flatS : List ByteArray → List UInt8
  | [] => []
  | s :: r => bs s ++ flatS r
def catS (l : List ByteArray) : ByteArray × Int :=
  if l.any tornB = true then (⟨#[]⟩, 2) else if 16 < (flatS l).length then (⟨#[]⟩, 4) else (⟨(flatS l).toArray⟩, 0)
def swapS (s : ByteArray) (i n : Int) (v : ByteArray) : ByteArray × Int :=
  if (tornB s || tornB v) = true then (⟨#[]⟩, 2) else if partB s i n = false then (⟨#[]⟩, 5) else catS [s.extract 0 (2 * i.toNat), v, s.extract (2 * (i.toNat + n.toNat)) s.size]
/-- the word v stands in w at the place k -/
def standsB (w v : ByteArray) (k : Nat) : Bool := decide (((bs w).drop (2 * k)).take v.size = bs v)
/-- the first place from a place on -/
def FindIs (w v : ByteArray) (i : Int) (r : Int) : Prop :=
  if tornB v = true ∨ v.size = 0 then r = -1 else
    (r = -1 ∧ ∀ k : Nat, i ≤ k → standsB w v k = false) ∨ ∃ k : Nat, r = k ∧ i ≤ k ∧ standsB w v k = true ∧ ∀ j : Nat, j < k → i ≤ j → standsB w v j = false
theorem FindIs.unique {w v : ByteArray} {i r r' : Int} (h : FindIs w v i r) (h' : FindIs w v i r') : r = r' := by
  unfold FindIs at h h'
  split at h
  · rename_i hn
    rw [if_pos hn] at h'
    rw [h, h']
  · rename_i hn
    rw [if_neg hn] at h'
    rcases h with ⟨h1, h2⟩ | ⟨k, h1, h2, h3, h4⟩ <;> rcases h' with ⟨g1, g2⟩ | ⟨k', g1, g2, g3, g4⟩
    · rw [h1, g1]
    · rw [h2 k' g2] at g3; cases g3
    · rw [g2 k h2] at h3; cases h3
    · rcases Nat.lt_trichotomy k k' with hlt | he | hlt
      · rw [g4 k hlt h2] at h3; cases h3
      · rw [h1, g1, he]
      · rw [h4 k' hlt g2] at g3; cases g3
theorem stands_le {w v : ByteArray} {k : Nat} (h : standsB w v k = true) (hv : 0 < v.size) : 2 * k + v.size ≤ w.size := by
  simp only [standsB, decide_eq_true_eq] at h
  have := congrArg List.length h
  simp [bs_len] at this
  omega
/-- less -/
def lessS (a b : ByteArray) : Bool := if a.size = b.size then Op.bytesLess (bs a) (bs b) else decide (a.size < b.size)
theorem tornB_false {s : ByteArray} (h : tornB s = false) : s.size % 2 = 0 := by
  simp [tornB] at h; omega
theorem tornB_true {s : ByteArray} (h : tornB s = true) : s.size % 2 = 1 := by
  simpa [tornB] using h
theorem flat_append : ∀ (l m : List ByteArray), flatS (l ++ m) = flatS l ++ flatS m
  | [], m => rfl
  | s :: r, m => by simp [flatS, flat_append r m]
theorem catS_size (l : List ByteArray) : (catS l).1.size ≤ 16 := by
  unfold catS
  split
  · decide
  · split
    · decide
    · rename_i h
      show (flatS l).toArray.size ≤ 16
      simp; omega

theorem i64_bounds {i : Int} (wi : (Lit.int .i64 i).wf = true) : -9223372036854775808 ≤ i ∧ i ≤ 9223372036854775807 := by
  simp [Lit.wf, IntKind.min, IntKind.max, IntKind.signed, IntKind.bits] at wi; exact wi
/-- what the world is behind a call that only reads -/
def DrewPost (v : Value) (w : World) (e : Ending) (w' : World) : Prop := e = .returned v ∧ ∃ n, w' = w.drewN n
/-- what the world is behind a call that turns nothing that was there -/
def KeptPost (v : Value) (w : World) (e : Ending) (w' : World) : Prop := e = .returned v ∧ Kept w w'
theorem DrewPost.kept {v : Value} {w w' : World} {e : Ending} (h : DrewPost v w e w') : KeptPost v w e w' := by
  obtain ⟨h1, n, rfl⟩ := h
  exact ⟨h1, Fr.of_drewN _ _ _⟩
theorem eq_of_take {α : Type} {l m : List α} (hlen : l.length = m.length) {k : Nat} (hk : k = l.length) (h : ∀ i, i < k → l[i]? = m[i]?) : l = m := by
  apply List.ext_getElem?
  intro i
  rcases Nat.lt_or_ge i k with hi | hi
  · exact h i hi
  · rw [List.getElem?_eq_none (by omega), List.getElem?_eq_none (by omega)]
theorem own_at (g n c : Nat) : ∀ g', (Value.slice (some ⟨g, 0, none⟩) n c).ownBlock = some g' → g ≤ g' := fun g' h => by
  have : g = g' := by simpa [Value.ownBlock] using h
  omega
theorem quiet_drew {P : Program} {f : FuncId} {args : Array Value} {w : World} {n : Nat} {v : Value}
    (h : ∀ w, Calls P f args w (DrewPost v w)) : Calls P f args (w.drewN n) fun e w'' => e = .returned v ∧ ∃ m, w'' = w.drewN m := Calls.quiet_of (h (w.drewN n))
theorem quiet_same {P : Program} {f : FuncId} {args : Array Value} {w : World} {n : Nat} {v : Value}
    (h : ∀ w, Calls P f args w fun e w' => e = .returned v ∧ w = w') : Calls P f args (w.drewN n) fun e w'' => e = .returned v ∧ ∃ m, w'' = w.drewN m := Calls.quiet_of_same ((h (w.drewN n)).mono fun _ _ ⟨h1, h2⟩ => ⟨h1, h2.symm⟩)
/-- no word is larger than n bytes -/
def Small (n : Nat) (l : List ByteArray) : Prop := ∀ s ∈ l, s.size ≤ n
/-- two results -/
def PairPost (r : ByteArray × Int) (w : World) (e : Ending) (w' : World) : Prop := e = .returned (.tuple #[.string r.1, .int .i64 r.2]) ∧ Kept w w'
theorem pair_of {r : ByteArray × Int} {x : ByteArray} {y : Int} (h : r = (x, y)) : Ending.returned (.tuple #[.string x, .int .i64 y]) = .returned (.tuple #[.string r.1, .int .i64 r.2]) := by rw [h]
/-- a row of the call's own that has these cells -/
def RowPost (w : World) (e : TypeId) (xs : List Value) (en : Ending) (w' : World) : Prop :=
  ∃ v, en = .returned v ∧ w'.ownsRow w.heap.size e 1 v xs.length xs ∧ Kept w w'
theorem src_one {P : Program} {w : World} {g : Nat} {u : Value} {e tx e' : TypeId} (hk : P.underlying tx = some (.slice e')) (h : w.heap[g]? = some (.cells #[u] e (0, 0))) (h1 : u.oneCell' = true) : Src P 1 tx (.slice (some ⟨g, 0, none⟩) 1 1) 1 [u] w :=
  Src.ofSlice w hk _ _ _ _ rfl (fun j x hx => by
    match j, hx with
    | 0, hx => simp at hx; subst hx; simp [Addr.add, World.cell?, h]) (fun x hx => by simp at hx; subst hx; exact h1)
theorem u16_in (n : Int) (h0 : 0 ≤ n) (h1 : n ≤ 65535) : IntKind.u16.wrap n = n := by
  unfold IntKind.wrap; simp [IntKind.bits, IntKind.signed]; omega
theorem u8_in (n : Int) (h0 : 0 ≤ n) (h1 : n ≤ 255) : IntKind.u8.wrap n = n := by
  unfold IntKind.wrap; simp [IntKind.bits, IntKind.signed]; omega
theorem u8_mod (x : Int) : IntKind.u8.wrap x = x % 256 := by
  unfold IntKind.wrap; simp [IntKind.bits, IntKind.signed]
theorem src_two {P : Program} {w : World} {g : Nat} {u u' : Value} {e tx e' : TypeId} (hk : P.underlying tx = some (.slice e')) (h : w.heap[g]? = some (.cells #[u, u'] e (0, 0))) (h1 : u.oneCell' = true) (h2 : u'.oneCell' = true) : Src P 1 tx (.slice (some ⟨g, 0, none⟩) 2 2) 2 [u, u'] w :=
  Src.ofSlice w hk _ _ _ _ rfl (fun j x hx => by
    match j, hx with
    | 0, hx => simp at hx; subst hx; simp [Addr.add, World.cell?, h]
    | 1, hx => simp at hx; subst hx; simp [Addr.add, World.cell?, h]) (fun x hx => by simp at hx; rcases hx with rfl | rfl <;> assumption)

set_option maxHeartbeats 400000 in
theorem isTorn_any (s : ByteArray) (w : World) (hs : s.size ≤ maxLen) :
    Calls Try.prog 50 #[.string s] w fun e w' => e = .returned (.bool (tornB s)) ∧ w = w' := by
  unfold maxLen at hs
  go_enter Try.func50, Try.ntmps50
  go_wp2
  go_ret
  exact ⟨ret_bool (by unfold tornB; rw [Bool.eq_iff_iff]; simp; omega), rfl⟩

set_option maxHeartbeats 400000 in
theorem len_any (s : ByteArray) (w : World) (hs : s.size ≤ maxLen) :
    Calls Try.prog 48 #[.string s] w fun e w' => e = .returned (.int .i64 ((s.size : Int) / 2)) ∧ w = w' := by
  unfold maxLen at hs
  go_enter Try.func48, Try.ntmps48
  go_wp2
  go_ret
  exact ⟨rfl, rfl⟩

/-- the byte at a place -/
theorem run_byte (s : ByteArray) (k : Nat) (h : k < s.size) (i : Int) (hi : i = (k : Int)) (wx : World) :
    (Instr.index 36 (.string s) (.int .i64 i)).run Try.prog wx = .ok (.int .u8 ((s[k]).toNat : Int)) wx := by
  subst hi
  rw [run_index_string wx 36 s _ _ Try.underlying36, dif_pos ⟨by omega, by omega⟩]
  simp
theorem or_bytes (a b : UInt8) : bits .or .u16 ((a.toNat : Int) * 256) (b.toNat : Int) = 256 * (a.toNat : Int) + (b.toNat : Int) := by
  have ha := a.toNat_lt
  have hb := b.toNat_lt
  have h1 : (a.toNat : Int) * 256 = ((a.toNat * 256 : Nat) : Int) := by omega
  rw [h1, u16_or_nat _ _ (by omega) (by omega)]
  have := Nat.shiftLeft_add_eq_or_of_lt (i := 8) (b := b.toNat) (by omega) a.toNat
  rw [Nat.shiftLeft_eq] at this
  have h2 : a.toNat * 256 ||| b.toNat = a.toNat * 256 + b.toNat := by rw [← this]
  rw [h2]; omega

set_option maxHeartbeats 1000000 in
theorem at_nat (s : ByteArray) (i : Nat) (w : World) (hs : s.size ≤ maxLen) (hi : 2 * i + 1 < s.size) :
    Calls Try.prog 51 #[.string s, .int .i64 i] w (DrewPost (.int .u16 (atS s i)) w) := by
  have HA := Lib.hid (atS_in hi)
  have hs0 := hs
  unfold maxLen at hs
  have x1 := fun wx => run_byte s (2 * i) (by omega) (2 * (i : Int)) (by omega) wx
  have x2 := fun wx => run_byte s (2 * i + 1) (by omega) (2 * (i : Int) + 1) (by omega) wx
  have e1 : IntKind.i64.wrap (2 * (i : Int)) = 2 * (i : Int) := IntWalk.i64_in _ (by omega)
  have e2 : IntKind.i64.wrap (2 * (i : Int) + 1) = 2 * (i : Int) + 1 := IntWalk.i64_in _ (by omega)
  generalize s[2 * i] = a at *
  generalize s[2 * i + 1] = b at *
  have ha := a.toNat_lt
  have hb := b.toNat_lt
  go_enter Try.func51, Try.ntmps51
  go_wp2_with (go_at_call 48; refine (len_any _ _ hs0).mono ?_; rintro e w' ⟨rfl, rfl⟩)
  go_quiet (fail)
  go_wp2
  go_ret
  exact ⟨ret_int (by rw [HA.out]; exact or_bytes a b), _, rfl⟩
set_option maxHeartbeats 1000000 in
theorem at_any (s : ByteArray) (i : Int) (w : World) (hs : s.size ≤ maxLen) :
    Calls Try.prog 51 #[.string s, .int .i64 i] w (DrewPost (.int .u16 (atS s i)) w) := by
  by_cases h0 : i < 0
  · have HA := Lib.hid (atS_out (s := s) (.inl h0))
    go_enter Try.func51, Try.ntmps51
    go_wp2_with (go_at_call 48; refine (len_any _ _ hs).mono ?_; rintro e w' ⟨rfl, rfl⟩)
    go_ret
    exact ⟨ret_int HA.out.symm, 0, rfl⟩
  · by_cases h1 : (s.size : Int) / 2 ≤ i
    · have HA := Lib.hid (atS_out (s := s) (.inr h1))
      have h2 : decide (i < 0) = false := by simpa using h0
      go_enter Try.func51, Try.ntmps51
      go_wp2_with (go_at_call 48; refine (len_any _ _ hs).mono ?_; rintro e w' ⟨rfl, rfl⟩)
      go_ret
      exact ⟨ret_int HA.out.symm, 0, rfl⟩
    · obtain ⟨k, rfl⟩ : ∃ k : Nat, i = k := ⟨i.toNat, by omega⟩
      exact at_nat s k w hs (by omega)
theorem at_kept (s : ByteArray) (i : Int) (w : World) (hs : s.size ≤ maxLen) : Calls Try.prog 51 #[.string s, .int .i64 i] w (KeptPost (.int .u16 (atS s i)) w) := (at_any s i w hs).mono fun _ _ h => h.kept

set_option maxHeartbeats 400000 in
theorem less_any (a b : ByteArray) (w : World) (ha : a.size ≤ maxLen) (hb : b.size ≤ maxLen) :
    Calls Try.prog 40 #[.string a, .string b] w fun e w' => e = .returned (.bool (lessS a b)) ∧ w = w' := by
  unfold maxLen at ha hb
  by_cases h : a.size = b.size
  · have HA : Hid (lessS a b = Op.bytesLess a.toList b.toList) := Lib.hid (by unfold lessS; rw [if_pos h, bs_toList, bs_toList])
    have h1 : ((a.size : Int) != (b.size : Int)) = false := by simp [h]
    clear h
    go_enter Try.func40, Try.ntmps40
    go_wp2
    go_ret
    exact ⟨ret_bool (by rw [HA.out]), rfl⟩
  · have HA : Hid (lessS a b = decide (a.size < b.size)) := Lib.hid (by unfold lessS; rw [if_neg h])
    have h1 : ((a.size : Int) != (b.size : Int)) = true := by simp; omega
    clear h
    go_enter Try.func40, Try.ntmps40
    go_wp2
    go_ret
    exact ⟨ret_bool (by rw [HA.out]), rfl⟩

theorem Try.info25 : (Try.prog.info? 25).map (fun i => (i.zero, i.size, i.bytes)) = some (some (.int .u16 0), 1, 2) := by kernel_rfl
theorem Try.slice60 : SliceOf Try.prog 60 25 (.int .u16 0) 1 2 := slice_of Try.underlying60 Try.info25 rfl (by decide)
/-- atoms as cells -/
def cellsOf (l : List Int) : List Value := l.map (Value.int .u16)
theorem one_u16 {l : List Int} : ∀ u ∈ cellsOf l, u.oneCell' = true := fun u hu => by obtain ⟨_, _, rfl⟩ := List.mem_map.1 hu; rfl
theorem cells_inj {l m : List Int} (h : cellsOf l = cellsOf m) : l = m := by
  unfold cellsOf at h
  exact (List.map_inj_right (fun x y h => by injection h)).1 h
theorem cells_get {l : List Int} {i : Nat} {x : Int} (h : l[i]? = some x) : (cellsOf l)[i]? = some (.int .u16 x) := by simp [cellsOf, h]
/-- the value holds atoms -/
def AtomsAt (w : World) (v : Value) : Prop := ∃ l, Reads w (fun _ => True) v (cellsOf l) ∧ Good l ∧ l.length ≤ maxLen
theorem u16_bounds {i : Int} (wi : (Lit.int .u16 i).wf = true) : 0 ≤ i ∧ i ≤ 65535 := by
  simp [Lit.wf, IntKind.min, IntKind.max, IntKind.signed, IntKind.bits] at wi; exact wi
theorem atoms_of {w : World} {v : Value} {r : Reach} {b : Nat} (hval : Value.okWide Try.prog w r b 60 v) (h : Holds Try.prog w 60 v.cells.toList) : AtomsAt w v := by
  obtain ⟨ao, len, cap, rfl⟩ := okWide_slice Try.underlying60 hval
  have hC : Try.prog.cellsOf 25 = 1 := by kernel_rfl
  obtain ⟨l, h1, h2, h3⟩ := Holds.row (mk := Value.int .u16) (R := fun x => 0 ≤ x ∧ x ≤ 65535) (c := .slice ao len cap) h Try.underlying60 hC (fun cs hcs => by
    obtain ⟨x, hx, hw⟩ := hcs.int Try.underlying25
    exact ⟨x, hx, u16_bounds hw⟩)
  exact ⟨l, h1, h2, h3⟩

/-- a row that has the first k atoms -/
def Part (w wr : World) (s : ByteArray) (k : Nat) (v : Value) : Prop :=
  wr.ownsRow w.heap.size 25 1 v k (cellsOf ((atoms (bs s)).take k)) ∧ Kept w wr
theorem Part.step {w wr w1 : World} {s : ByteArray} {k : Nat} {v v1 : Value} (h : Part w wr s k v) {a b : UInt8} (ha : (bs s)[2 * k]? = some a) (hb : (bs s)[2 * k + 1]? = some b) {wx : World} (hx : Kept wr wx)
    (hp : AppPost wx w.heap.size 25 1 v (k + 1) (cellsOf ((atoms (bs s)).take k) ++ [.int .u16 ((a.toNat : Int) * 256 + (b.toNat : Int))]) v1 w1) : Part w w1 s (k + 1) v1 := by
  have hg := atoms_get _ _ _ _ ha hb
  rw [show (a.toNat : Int) * 256 = 256 * (a.toNat : Int) by omega] at hp
  refine ⟨?_, (hp.kept (h.2.trans hx) (fun g hg => (h.1.lt g hg).1)).1⟩
  have e : cellsOf ((atoms (bs s)).take (k + 1)) = cellsOf ((atoms (bs s)).take k) ++ [.int .u16 (256 * (a.toNat : Int) + (b.toNat : Int))] := by
    rw [List.take_add_one, hg]; simp [cellsOf]
  rw [e]; exact hp.1
set_option maxHeartbeats 2000000 in
theorem ratoms_any (s : ByteArray) (w : World) (hs : s.size ≤ 100000) :
    Calls Try.prog 49 #[.string s] w (RowPost w 25 (cellsOf (atoms (bs s)))) := by
  go_enter Try.func49, Try.ntmps49
  go_wp2
  have H0 : Hid (Part w (w.alloc (Obj.cells #[] 25)) s 0 (.slice (some ⟨w.heap.size, 0, none⟩) 0 0)) := Lib.hid ⟨own_new (heap_alloc_new w _) (Nat.le_refl _), Fr.of_alloc _ _ _⟩
  go_loopw [3, 4] (fun v i wr => ∃ k : Nat, 2 * k ≤ s.size ∧ i = .int .i64 (2 * (k : Int)) ∧ Hid (Part w wr s k v)) (fun _ i _ => s.size - (intOf i).toNat)
  case atStart => exact ⟨0, by omega, rfl, H0⟩
  case round =>
    obtain ⟨k, hk, rfl, hp⟩ := hrel
    clear H0
    obtain ⟨ao, c, hv, hc⟩ := own_slice hp.out.1
    subst hv
    by_cases hlt : 2 * k + 1 < s.size
    · have h1 : 2 * (k : Int) + 1 < s.size := by omega
      have x1 := fun wx => run_byte s (2 * k) (by omega) (2 * (k : Int)) (by omega) wx
      have x2 := fun wx => run_byte s (2 * k + 1) (by omega) (2 * (k : Int) + 1) (by omega) wx
      have G1 := Lib.hid (bs_get s (2 * k) (by omega))
      have G2 := Lib.hid (bs_get s (2 * k + 1) (by omega))
      have e2 : IntKind.i64.wrap (2 * (k : Int) + 1) = 2 * (k : Int) + 1 := IntWalk.i64_in _ (by omega)
      generalize s[2 * k] = a at *
      generalize s[2 * k + 1] = b at *
      have ha := a.toNat_lt
      have hb := b.toNat_lt
      have y1 := u16_in a.toNat (by omega) (by omega)
      have y2 := u16_in b.toNat (by omega) (by omega)
      have y3 := u16_in ((a.toNat : Int) * 256) (by omega) (by omega)
      have y4 := u16_in ((a.toNat : Int) * 256 + b.toNat) (by omega) (by omega)
      clear ha hb
      go_wp2
      go_region_law (refine step_app rfl (.tmp 13) (.tmp 25) 60 60 rfl Try.slice60 rfl (by exact own_kept hp.out.1 ((Fr.of_alloc _ _ _).trans (Fr.of_drew _ _))) rfl (by exact src_one Try.underlying60 (heap_alloc_new wr _) rfl) (by unfold maxLen; omega) (by omega) (by have := hp.out.2.size; simp; omega) ?_; intro v1 w1 hp1; have Hp1 := Lib.hid (hp.out.step G1.out G2.out ((Fr.of_alloc _ _ _).trans (Fr.of_drew _ _)) hp1); clear hp1 hp)
      all_goals
        clear x1 x2 y1 y2 y3 y4 e2
        go_wp2
        go_roundw
        case rel => exact ⟨k + 1, by omega, by go_num, Hp1⟩
        case measure => simp [intOf]; omega
    · have hk2 : k = (atoms (bs s)).length := by rw [atoms_len, bs_len]; omega
      have hp2 : Hid (RowPost w 25 (cellsOf (atoms (bs s))) (.returned (.slice ao k c)) wr) := by
        refine Lib.hid ⟨_, rfl, ?_, hp.out.2⟩
        have := hp.out.1
        rw [List.take_of_length_le (by omega)] at this
        have e : (cellsOf (atoms (bs s))).length = k := by rw [hk2]; simp [cellsOf]
        rw [e]; exact this
      clear hk2
      go_wp2
      go_ret
      exact hp2.out

theorem all_iff {s : ByteArray} : (atoms (bs s)).all (fun x => x != 0) = true ↔ ∀ j : Nat, j < s.size / 2 → atS s j ≠ 0 := by
  rw [List.all_eq_true]
  constructor
  · intro h j hj
    obtain ⟨x, hx⟩ : ∃ x, (atoms (bs s))[j]? = some x := ⟨_, List.getElem?_eq_getElem (by rw [atoms_len, bs_len]; omega)⟩
    rw [atS_get hx]
    simpa using h x (List.mem_of_getElem? hx)
  · intro h x hx
    obtain ⟨j, hj⟩ := List.mem_iff_getElem?.1 hx
    have hl := (List.getElem?_eq_some_iff.1 hj).1
    have := h j (by rw [atoms_len, bs_len] at hl; exact hl)
    rw [atS_get hj] at this
    simpa using this
theorem may_false {s : ByteArray} (h : tornB s = true ∨ s.size / 2 = 0 ∨ 8 < s.size / 2 ∨ ∃ j : Nat, j < s.size / 2 ∧ atS s j = 0) : mayS s = false := by
  cases hm : mayS s with
  | false => rfl
  | true =>
    simp only [mayS, Bool.and_eq_true, decide_eq_true_eq, all_iff, Bool.not_eq_true'] at hm
    obtain ⟨h1, h2, h3⟩ := hm
    rcases h with h | h | h | ⟨j, hj, h⟩
    · rw [h] at h1; cases h1
    · omega
    · omega
    · exact absurd h (h3 j hj)
theorem may_true {s : ByteArray} (h1 : tornB s = false) (h2 : 1 ≤ s.size / 2) (h3 : s.size / 2 ≤ 8) (h4 : ∀ j : Nat, j < s.size / 2 → atS s j ≠ 0) : mayS s = true := by
  simp only [mayS, Bool.and_eq_true, decide_eq_true_eq, all_iff, h1]
  exact ⟨rfl, ⟨h2, h3⟩, h4⟩

set_option maxHeartbeats 2000000 in
theorem may_any (s : ByteArray) (w : World) (hs : s.size ≤ maxLen) :
    Calls Try.prog 35 #[.string s] w (KeptPost (.bool (mayS s)) w) := by
  have hs0 := hs
  unfold maxLen at hs
  cases ht : tornB s
  · obtain ⟨n, hn⟩ : ∃ n, n = s.size / 2 := ⟨_, rfl⟩
    have HN2 : Hid ((s.size : Int) / 2 = (n : Int)) := Lib.hid (by omega)
    have HN := Lib.hid hn
    clear hn
    by_cases h0 : n = 0
    · have HF : Hid (mayS s = false) := Lib.hid (may_false (.inr (.inl (by rw [← HN.out]; exact h0))))
      have h1 : ((n : Int) == 0) = true := by simp [h0]
      clear h0
      go_enter Try.func35, Try.ntmps35
      go_wp2_with (first | (go_at_call 50; refine (isTorn_any _ _ hs0).mono ?_; rintro e w' ⟨rfl, rfl⟩; rw [ht]) | (go_at_call 48; refine (len_any _ _ hs0).mono ?_; rintro e w' ⟨rfl, rfl⟩; rw [HN2.out]))
      go_ret
      exact ⟨ret_bool HF.out.symm, Fr.refl _ _⟩
    · have h1 : ((n : Int) == 0) = false := by simp [h0]
      by_cases h8 : 8 < n
      · have HF : Hid (mayS s = false) := Lib.hid (may_false (.inr (.inr (.inl (by rw [← HN.out]; exact h8)))))
        have h2 : decide (8 < (n : Int)) = true := by simp; omega
        clear h0
        go_enter Try.func35, Try.ntmps35
        go_wp2_with (first | (go_at_call 50; refine (isTorn_any _ _ hs0).mono ?_; rintro e w' ⟨rfl, rfl⟩; rw [ht]) | (go_at_call 48; refine (len_any _ _ hs0).mono ?_; rintro e w' ⟨rfl, rfl⟩; rw [HN2.out]))
        go_ret
        exact ⟨ret_bool HF.out.symm, Fr.refl _ _⟩
      · have h2 : decide (8 < (n : Int)) = false := by simp; omega
        have h8' : n ≤ 8 := by omega
        clear h8
        go_enter Try.func35, Try.ntmps35
        go_wp2_with (first | (go_at_call 50; refine (isTorn_any _ _ hs0).mono ?_; rintro e w' ⟨rfl, rfl⟩; rw [ht]) | (go_at_call 48; refine (len_any _ _ hs0).mono ?_; rintro e w' ⟨rfl, rfl⟩; rw [HN2.out]))
        clear h1 h2
        go_loopw [18] (fun i wr => ∃ k m : Nat, k ≤ n ∧ i = .int .i64 k ∧ wr = w.drewN m ∧ Hid (∀ j : Nat, j < k → atS s j ≠ 0)) (fun i _ => n - (intOf i).toNat)
        case atStart => exact ⟨0, 0, by omega, rfl, rfl, Lib.hid (fun i hi => by omega)⟩
        case round =>
          obtain ⟨k, m, hk, rfl, rfl, hall⟩ := hrel
          by_cases hlt : k < n
          · have hk1 : (k : Int) < n := by omega
            obtain ⟨z, hz⟩ : ∃ z, atS s k = z := ⟨_, rfl⟩
            have HZ := Lib.hid hz
            clear hz
            by_cases hz0 : z = 0
            · have HF : Hid (mayS s = false) := Lib.hid (may_false (.inr (.inr (.inr ⟨k, by rw [← HN.out]; exact hlt, by rw [HZ.out, hz0]⟩))))
              have hz1 : (z == 0) = true := by simp [hz0]
              clear hz0
              go_wp2_with (go_at_call 51; refine (at_any s k _ hs0).mono ?_; rintro e w2 ⟨rfl, nq, rfl⟩; rw [HZ.out])
              go_ret
              exact ⟨ret_bool HF.out.symm, Fr.of_drewN _ _ _⟩
            · have hz1 : (z == 0) = false := by simp [hz0]
              have HZ2 : Hid (∀ j : Nat, j < k + 1 → atS s j ≠ 0) := Lib.hid (fun j hj => by
                rcases Nat.lt_or_ge j k with h | h
                · exact hall.out j h
                · obtain rfl : j = k := by omega
                  rw [HZ.out]; exact hz0)
              clear hz0
              go_wp2_with (go_at_call 51; refine (at_any s k _ hs0).mono ?_; rintro e w2 ⟨rfl, nq, rfl⟩; rw [HZ.out])
              go_roundw
              case rel => exact ⟨k + 1, m + nq, by omega, by go_num, by simp, HZ2⟩
              case measure => simp [intOf]; omega
          · have HF : Hid (mayS s = true) := Lib.hid (may_true ht (by have := HN.out; omega) (by have := HN.out; omega) (fun j hj => hall.out j (by have := HN.out; omega)))
            go_wp2
            go_ret
            exact ⟨ret_bool HF.out.symm, Fr.of_drewN _ _ _⟩
  · have HF : Hid (mayS s = false) := Lib.hid (may_false (.inl ht))
    go_enter Try.func35, Try.ntmps35
    go_wp2_with (first | (go_at_call 50; refine (isTorn_any _ _ hs0).mono ?_; rintro e w' ⟨rfl, rfl⟩; rw [ht]) | (go_at_call 48; refine (len_any _ _ hs0).mono ?_; rintro e w' ⟨rfl, rfl⟩))
    go_ret
    exact ⟨ret_bool HF.out.symm, Fr.refl _ _⟩

set_option maxHeartbeats 2000000 in
theorem rmay_any (s : ByteArray) (w : World) (hs : s.size ≤ 100000) :
    Calls Try.prog 37 #[.string s] w (KeptPost (.bool (mayS s)) w) := by
  obtain ⟨n, hn⟩ : ∃ n, n = s.size / 2 := ⟨_, rfl⟩
  have HL : Hid ((cellsOf (atoms (bs s))).length = n) := Lib.hid (by simp [cellsOf, atoms_len, bs_len, hn])
  have hnb : n ≤ 50000 := by omega
  have HN := Lib.hid hn
  clear hn
  go_enter Try.func37, Try.ntmps37
  go_wp2_with fail
  refine (ratoms_any s _ hs).mono ?_
  rintro e w1 ⟨v, rfl, hrow, hk⟩
  rw [HL.out] at hrow
  obtain ⟨ao, c, rfl, _, hx⟩ := Reads.of_row hrow
  rw [HL.out]
  have HX := Lib.hid hx
  have HK := Lib.hid hk
  clear hrow hx hk
  go_wp2
  go_loop [4] (fun i => ∃ k : Nat, k ≤ n ∧ i = .int .i64 k ∧ Hid (∀ j : Nat, j < k → atS s j ≠ 0)) (fun i => n - (intOf i).toNat)
  case atStart => exact ⟨0, by omega, rfl, Lib.hid (fun i hi => by omega)⟩
  case round =>
    obtain ⟨k, hk, rfl, hall⟩ := hrel
    by_cases hlt : k < n
    · have hk1 : (k : Int) < n := by omega
      obtain ⟨z, hz⟩ : ∃ z, (atoms (bs s))[k]? = some z := ⟨_, List.getElem?_eq_getElem (by rw [atoms_len, bs_len]; have := HN.out; omega)⟩
      obtain ⟨g, off, rfl, _, hcell⟩ := HX.out k _ (cells_get hz)
      have HZ := Lib.hid (atS_get hz)
      clear hz
      by_cases hz0 : z = 0
      · have HF : Hid (mayS s = false) := Lib.hid (may_false (.inr (.inr (.inr ⟨k, by rw [← HN.out]; exact hlt, by rw [HZ.out, hz0]⟩))))
        have hz1 : (z == 0) = true := by simp [hz0]
        clear hz0
        go_wp2
        go_ret
        exact ⟨ret_bool HF.out.symm, HK.out⟩
      · have hz1 : (z == 0) = false := by simp [hz0]
        have HZ2 : Hid (∀ j : Nat, j < k + 1 → atS s j ≠ 0) := Lib.hid (fun j hj => by
          rcases Nat.lt_or_ge j k with h | h
          · exact hall.out j h
          · obtain rfl : j = k := by omega
            rw [HZ.out]; exact hz0)
        clear hz0
        go_wp2
        go_round
        case rel => exact ⟨k + 1, by omega, by go_num, HZ2⟩
        case measure => simp [intOf]; omega
    · have hk1 : ¬ (k : Int) < n := by omega
      have hall2 : ∀ j : Nat, j < s.size / 2 → atS s j ≠ 0 := fun j hj => hall.out j (by have := HN.out; omega)
      cases ht : tornB s
      · have ht1 : ((s.size : Int) % 2 == 0) = true := by have := tornB_false ht; rw [beq_iff_eq]; omega
        by_cases h0 : 1 ≤ n
        · have h1 : decide (1 ≤ (n : Int)) = true := by simp; omega
          have HF : Hid (mayS s = decide ((n : Int) ≤ 8)) := Lib.hid (by
            by_cases h8 : n ≤ 8
            · rw [may_true ht (by rw [← HN.out]; exact h0) (by rw [← HN.out]; exact h8) hall2]; simp; omega
            · rw [may_false (.inr (.inr (.inl (by rw [← HN.out]; omega))))]; simp; omega)
          clear h0 hall2
          go_wp2
          go_ret
          exact ⟨ret_bool HF.out.symm, HK.out⟩
        · have h1 : decide (1 ≤ (n : Int)) = false := by simp; omega
          have HF : Hid (mayS s = false) := Lib.hid (may_false (.inr (.inl (by rw [← HN.out]; omega))))
          clear h0 hall2
          go_wp2
          go_ret
          exact ⟨ret_bool HF.out.symm, HK.out⟩
      · have ht1 : ((s.size : Int) % 2 == 0) = false := by have := tornB_true ht; rw [beq_eq_false_iff_ne]; omega
        have HF : Hid (mayS s = false) := Lib.hid (may_false (.inl ht))
        clear hall2
        go_wp2
        go_ret
        exact ⟨ret_bool HF.out.symm, HK.out⟩

theorem less_same : ∀ (l : List UInt8), Op.bytesLess l l = false
  | [] => by simp [Op.bytesLess]
  | a :: r => by simp [Op.bytesLess, less_same r]
theorem less_at : ∀ (k : Nat) (l m : List UInt8) (x y : UInt8), (∀ j, j < k → l[j]? = m[j]?) → l[k]? = some x → m[k]? = some y → x ≠ y → Op.bytesLess l m = decide ((x.toNat : Int) < (y.toNat : Int))
  | 0, a :: r, b :: t, x, y, _, hx, hy, hne => by
    simp at hx hy
    subst hx hy
    have : (a == b) = false := by simp [hne]
    simp [Op.bytesLess, this, UInt8.lt_iff_toNat_lt]
  | k + 1, a :: r, b :: t, x, y, h, hx, hy, hne => by
    have h0 := h 0 (by omega)
    simp at h0 hx hy
    subst h0
    have ih := less_at k r t x y (fun j hj => by simpa using h (j + 1) (by omega)) hx hy hne
    simp [Op.bytesLess, ih]
  | _, [], _, _, _, _, h, _, _ => by simp at h
  | _, _ :: _, [], _, _, _, _, h, _ => by simp at h
theorem bl_asym : ∀ (l m : List UInt8), Op.bytesLess l m = true → Op.bytesLess m l = false
  | [], [], h => by simp [Op.bytesLess] at h
  | [], _ :: _, _ => by simp [Op.bytesLess]
  | _ :: _, [], h => by simp [Op.bytesLess] at h
  | a :: r, b :: t, h => by
    simp only [Op.bytesLess, Bool.or_eq_true, Bool.and_eq_true, decide_eq_true_eq, beq_iff_eq] at h
    simp only [Op.bytesLess, Bool.or_eq_false_iff, Bool.and_eq_false_iff, decide_eq_false_iff_not, beq_eq_false_iff_ne]
    rcases h with h | ⟨rfl, h⟩
    · rw [UInt8.lt_iff_toNat_lt] at h
      refine ⟨by rw [UInt8.lt_iff_toNat_lt]; omega, .inl (fun e => ?_)⟩
      subst e; omega
    · refine ⟨by rw [UInt8.lt_iff_toNat_lt]; omega, .inr (bl_asym r t h)⟩
theorem bl_total : ∀ (l m : List UInt8), l ≠ m → (Op.bytesLess l m || Op.bytesLess m l) = true
  | [], [], h => absurd rfl h
  | [], _ :: _, _ => by simp [Op.bytesLess]
  | _ :: _, [], h => by simp [Op.bytesLess]
  | a :: r, b :: t, h => by
    simp only [Op.bytesLess, Bool.or_eq_true, Bool.and_eq_true, decide_eq_true_eq, beq_iff_eq]
    by_cases e : a = b
    · subst e
      have := bl_total r t (fun e => h (by rw [e]))
      simp only [Bool.or_eq_true] at this
      rcases this with h1 | h1
      · exact .inl (.inr ⟨rfl, h1⟩)
      · exact .inr (.inr ⟨rfl, h1⟩)
    · have : a.toNat ≠ b.toNat := fun x => e (UInt8.toNat_inj.1 x)
      rw [UInt8.lt_iff_toNat_lt, UInt8.lt_iff_toNat_lt]
      rcases Nat.lt_or_gt_of_ne this with h1 | h1
      · exact .inl (.inl h1)
      · exact .inr (.inl h1)
theorem bl_trans : ∀ (l m n : List UInt8), Op.bytesLess l m = true → Op.bytesLess m n = true → Op.bytesLess l n = true
  | _, [], [], _, h => by simp [Op.bytesLess] at h
  | [], _, _ :: _, _, _ => by simp [Op.bytesLess]
  | _, _ :: _, [], _, h => by simp [Op.bytesLess] at h
  | _ :: _, [], _ :: _, h, _ => by simp [Op.bytesLess] at h
  | a :: r, b :: t, c :: u, h, k => by
    simp only [Op.bytesLess, Bool.or_eq_true, Bool.and_eq_true, decide_eq_true_eq, beq_iff_eq] at h k ⊢
    rw [UInt8.lt_iff_toNat_lt] at h k ⊢
    rcases h with h | ⟨rfl, h⟩ <;> rcases k with k | ⟨rfl, k⟩
    · exact .inl (by omega)
    · exact .inl h
    · exact .inl k
    · exact .inr ⟨rfl, bl_trans r t u h k⟩
theorem bl_ahead : ∀ (c l m : List UInt8), Op.bytesLess (c ++ l) (c ++ m) = Op.bytesLess l m
  | [], l, m => rfl
  | a :: r, l, m => by
    have ih := bl_ahead r l m
    simp [Op.bytesLess, ih]
theorem lessS_asym {a b : ByteArray} (h : lessS a b = true) : lessS b a = false := by
  unfold lessS at h ⊢
  split at h
  · rename_i e; rw [if_pos e.symm]; exact bl_asym _ _ h
  · rename_i e; rw [if_neg (fun x => e x.symm)]; simp at h ⊢; omega
theorem lessS_total {a b : ByteArray} (h : a ≠ b) (h1 : lessS a b = false) : lessS b a = true := by
  unfold lessS at h1 ⊢
  split at h1
  · rename_i e
    rw [if_pos e.symm]
    have := bl_total (bs a) (bs b) (fun x => h (bs_inj x))
    rw [h1] at this; simpa using this
  · rename_i e; rw [if_neg (fun x => e x.symm)]; simp at h1 ⊢; omega
theorem lessS_same (a : ByteArray) : lessS a a = false := by
  cases h : lessS a a with
  | false => rfl
  | true => exact (lessS_asym h).symm.trans h |>.symm
theorem lessS_trans {a b c : ByteArray} (h : lessS a b = true) (k : lessS b c = true) : lessS a c = true := by
  unfold lessS at h k ⊢
  split at h <;> split at k
  · rename_i e f; rw [if_pos (e.trans f)]; exact bl_trans _ _ _ h k
  · rename_i e f; simp at k; rw [if_neg (by omega)]; simp; omega
  · rename_i e f; simp at h; rw [if_neg (by omega)]; simp; omega
  · rename_i e f; simp at h k; rw [if_neg (by omega)]; simp; omega
theorem lessS_ahead (a b c : ByteArray) : lessS (c ++ a) (c ++ b) = lessS a b := by
  unfold lessS
  rw [bs_append, bs_append, bl_ahead]
  simp only [ByteArray.size_append]
  by_cases h : a.size = b.size
  · rw [if_pos h, if_pos (by omega)]
  · rw [if_neg h, if_neg (by omega)]
    rw [Bool.eq_iff_iff]; simp

theorem run_byteI (s : ByteArray) (k : Nat) (h : k < s.size) (wx : World) :
    (Instr.index 36 (.string s) (.int .i64 (k : Int))).run Try.prog wx = .ok (.int .u8 ((s[k]).toNat : Int)) wx := run_byte s k h _ rfl wx
set_option maxHeartbeats 2000000 in
theorem rless_any (a b : ByteArray) (w : World) (ha : a.size ≤ maxLen) (hb : b.size ≤ maxLen) :
    Calls Try.prog 34 #[.string a, .string b] w (DrewPost (.bool (lessS a b)) w) := by
  unfold maxLen at ha hb
  by_cases h : a.size = b.size
  · have HA : Hid (lessS a b = Op.bytesLess (bs a) (bs b)) := Lib.hid (by unfold lessS; rw [if_pos h])
    have h1 : ((a.size : Int) != (b.size : Int)) = false := by simp [h]
    have HE := Lib.hid h
    have he := Nat.le_of_eq h
    clear h
    go_enter Try.func34, Try.ntmps34
    go_wp2
    clear h1
    go_loopw [5] (fun i wr => ∃ k m : Nat, k ≤ a.size ∧ i = .int .i64 k ∧ wr = w.drewN m ∧ Hid (∀ j, j < k → (bs a)[j]? = (bs b)[j]?)) (fun i _ => a.size - (intOf i).toNat)
    case atStart => exact ⟨0, 0, by omega, rfl, rfl, Lib.hid (fun i hi => by omega)⟩
    case round =>
      obtain ⟨k, m, hk, rfl, rfl, hall⟩ := hrel
      by_cases hlt : k < a.size
      · have h1 : (k : Int) < a.size := by omega
        have hlb : k < b.size := by omega
        have x1 := fun wx => run_byteI a k hlt wx
        have x2 := fun wx => run_byteI b k hlb wx
        have G1 := Lib.hid (bs_get a k hlt)
        have G2 := Lib.hid (bs_get b k hlb)
        generalize a[k] = x at *
        generalize b[k] = y at *
        by_cases hxy : x = y
        · have hn : ((x.toNat : Int) != (y.toNat : Int)) = false := by simp [hxy]
          have HQ : Hid (∀ j, j < k + 1 → (bs a)[j]? = (bs b)[j]?) := Lib.hid (fun j hj => by
            rcases Nat.lt_or_ge j k with h' | h'
            · exact hall.out j h'
            · obtain rfl : j = k := by omega
              rw [G1.out, G2.out, hxy])
          clear hxy
          go_wp2
          go_quiet (fail)
          go_wp2
          go_roundw
          case rel => exact ⟨k + 1, _, by omega, by go_num, rfl, HQ⟩
          case measure => simp [intOf]; omega
        · have hn : ((x.toNat : Int) != (y.toNat : Int)) = true := by
            simp; intro e; exact hxy (UInt8.toNat_inj.1 (by omega))
          have HF := Lib.hid (less_at k _ _ x y hall.out G1.out G2.out hxy)
          clear hxy
          go_wp2
          go_quiet (fail)
          go_wp2
          go_quiet (fail)
          go_wp2
          go_ret
          rename_i n1
          exact ⟨ret_bool (by rw [HA.out, HF.out, Bool.eq_iff_iff]; simp), m + n1 + nq, by simp⟩
      · have HF : Hid (bs a = bs b) := Lib.hid (eq_of_take (by rw [bs_len, bs_len]; exact HE.out) (by rw [bs_len]; omega : k = _) hall.out)
        have h1 : ¬ (k : Int) < a.size := by omega
        go_wp2
        go_ret
        exact ⟨ret_bool (by rw [HA.out, HF.out, less_same]), _, rfl⟩
  · have HA : Hid (lessS a b = decide (a.size < b.size)) := Lib.hid (by unfold lessS; rw [if_neg h])
    have h1 : ((a.size : Int) != (b.size : Int)) = true := by simp; omega
    clear h
    go_enter Try.func34, Try.ntmps34
    go_wp2
    go_ret
    exact ⟨ret_bool (by rw [HA.out]), 0, rfl⟩

theorem Try.info5 : (Try.prog.info? 5).map (fun i => (i.zero, i.size, i.bytes)) = some (some (.int .u8 0), 1, 1) := by kernel_rfl
theorem Try.slice62 : SliceOf Try.prog 62 5 (.int .u8 0) 1 1 := slice_of Try.underlying62 Try.info5 rfl (by decide)
/-- bytes as cells -/
def bcells (l : List UInt8) : List Value := l.map (fun b => Value.int .u8 (b.toNat : Int))
theorem bcells_len (l : List UInt8) : (bcells l).length = l.length := by simp [bcells]
theorem bcells_append (l m : List UInt8) : bcells (l ++ m) = bcells l ++ bcells m := by simp [bcells]
theorem bcells_bs (s : ByteArray) : byteCells s = bcells (bs s) := rfl
/-- a row of bytes as a string -/
theorem run_to_string {w : World} {base : Nat} {v : Value} {l : List UInt8} {n : Nat} (h : w.ownsRow base 5 1 v n (bcells l)) : (convert 62 36 v).run Try.prog w = .ok (.string ⟨l.toArray⟩) w := by
  have hl : l.length = n := by have := h.1; simpa [bcells_len] using this
  rcases h.2 with ⟨rfl, h0⟩ | ⟨g, cap, cur, rfl, _⟩
  · rw [run_convert_bytes_nil w 62 5 Try.underlying62 Try.underlying5 0 0 36 Try.underlying36]
    have : l = [] := List.eq_nil_of_length_eq_zero (by omega)
    subst this; rfl
  · subst hl
    refine run_convert_bytes_back w 62 36 5 ⟨g, 0, none⟩ cap l Try.underlying62 Try.underlying5 Try.underlying36 (fun j hj => ?_)
    refine h.cells (g := g) rfl j _ ?_
    simp [bcells, List.getElem?_eq_getElem hj]

/-- a row that has the bytes of the first k atoms -/
def OfPart (w wr : World) (l : List Int) (k : Nat) (v : Value) : Prop :=
  wr.ownsRow w.heap.size 5 1 v (2 * k) (bcells (unatoms (l.take k))) ∧ Kept w wr
theorem OfPart.step {w wr wx w1 : World} {l : List Int} {k : Nat} {v v1 : Value} (h : OfPart w wr l k v) (hg : Good l) {x : Int} (hx : l[k]? = some x) (hw : Kept wr wx)
    (hp : AppPost wx w.heap.size 5 1 v (2 * k + 2) (bcells (unatoms (l.take k)) ++ [.int .u8 (x / 256), .int .u8 (x % 256)]) v1 w1) : OfPart w w1 l (k + 1) v1 := by
  have hb := hg x (List.mem_of_getElem? hx)
  refine ⟨?_, (hp.kept (h.2.trans hw) (fun g hg => (h.1.lt g hg).1)).1⟩
  have e : bcells (unatoms (l.take (k + 1))) = bcells (unatoms (l.take k)) ++ [.int .u8 (x / 256), .int .u8 (x % 256)] := by
    rw [List.take_add_one, hx, unatoms_append, bcells_append]
    simp only [Option.toList_some, unatoms, bcells, List.map_cons, List.map_nil, UInt8.toNat_ofNat']
    congr 3
    · congr 1; omega
    · congr 2; omega
  rw [e, show 2 * (k + 1) = 2 * k + 2 by omega]; exact hp.1

set_option maxHeartbeats 2000000 in
theorem of_any {w : World} {G : Nat → Prop} {v : Value} {l : List Int} (h : Reads w G v (cellsOf l)) (hg : Good l) (hl : l.length ≤ 100000) :
    Calls Try.prog 58 #[v] w (KeptPost (.string (ofS l)) w) := by
  obtain ⟨ao, c, rfl, _, hc⟩ := h
  have q1 : (cellsOf l).length = l.length := by simp [cellsOf]
  rw [q1]
  have HC := Lib.hid hc
  have HG := Lib.hid hg
  generalize hn : l.length = n at *
  have HN := Lib.hid hn
  clear hn q1 hc hg
  obtain ⟨i0, hi0, hz0, hz1, hz2⟩ := info_parts Try.info5
  have hi := Lib.hid hi0
  have Z0 := Lib.hid hz0
  have Z1 := Lib.hid hz1
  have Z2 := Lib.hid hz2
  clear hi0 hz0 hz1 hz2
  go_enter Try.func58, Try.ntmps58
  go_wp2_with (at_make; refine wpList_make_own _ rfl _ _ 62 rfl w.heap.size 5 i0 (.int .u8 0) 1 Try.underlying62 hi.out Z0.out Z1.out .i64 .i64 (2 * (n : Int)) (2 * n) rfl rfl (by omega) (by rw [Z2.out]; omega) (by unfold maxLen; omega) (Nat.le_refl _) ?_; intro w1 hown hgr)
  have H0 : Hid (OfPart w w1 l 0 (.slice (some ⟨w.heap.size, 0, none⟩) 0 (2 * n))) := Lib.hid ⟨by simpa [bcells, unatoms] using hown, (Fr.of_grown hgr).mono (fun _ _ h => by cases h)⟩
  clear hown hgr hi Z0 Z1 Z2
  go_loopw [3, 12] (fun v i wr => ∃ k : Nat, k ≤ n ∧ i = .int .i64 k ∧ Hid (OfPart w wr l k v)) (fun _ i _ => n - (intOf i).toNat)
  case atStart => exact ⟨0, by omega, rfl, H0⟩
  case round =>
    obtain ⟨k, hk, rfl, hp⟩ := hrel
    clear H0
    obtain ⟨bo, d, hv, hd⟩ := own_slice hp.out.1
    subst hv
    by_cases hlt : k < n
    · have h1 : (k : Int) < n := by omega
      obtain ⟨x, hx⟩ : ∃ x, l[k]? = some x := ⟨_, List.getElem?_eq_getElem (by have := HN.out; omega)⟩
      obtain ⟨hb0, hb1⟩ := HG.out x (List.mem_of_getElem? hx)
      obtain ⟨g, off, ha, _, hcell0⟩ := HC.out k _ (cells_get hx)
      have hcell := hp.out.2.cell hcell0 (fun x => x)
      subst ha
      have HX := Lib.hid hx
      clear hx hcell0
      have y1 := u8_in (x / 256) (by omega) (by omega)
      have y2 := u8_mod x
      go_wp2_with (at_builtin; refine list_app rfl (.tmp 16) (.tmp 22) 62 62 rfl Try.slice62 rfl (by exact own_kept hp.out.1 (Fr.of_alloc _ _ _)) rfl (by exact src_two Try.underlying62 (heap_alloc_new wr _) rfl rfl) (by unfold maxLen; omega) (by omega) (by have := hp.out.2.size; simp; omega) ?_; intro v1 w2 hp1; have Hp1 := Lib.hid (hp.out.step HG.out HX.out (Fr.of_alloc _ _ _) hp1); clear hp1)
      clear y1 y2
      go_roundw
      case rel => exact ⟨k + 1, by omega, by go_num, Hp1⟩
      case measure => simp [intOf]; omega
    · have hp2 : Hid (OfPart w wr l n (.slice bo (2 * k) d)) := by
        obtain rfl : k = n := by omega
        exact hp
      have hrow := hp2.out.1
      rw [List.take_of_length_le (by have := HN.out; omega)] at hrow
      have hconv : (convert 62 36 (.slice bo (2 * k) d)).run Try.prog wr = .ok (.string (ofS l)) wr := run_to_string hrow
      clear hrow
      go_wp2
      go_ret
      exact ⟨rfl, hp2.out.2⟩

set_option maxHeartbeats 2000000 in
theorem rof_any {w : World} {G : Nat → Prop} {v : Value} {l : List Int} (h : Reads w G v (cellsOf l)) (hg : Good l) (hl : l.length ≤ 100000) :
    Calls Try.prog 33 #[v] w (KeptPost (.string (ofS l)) w) := by
  obtain ⟨ao, c, rfl, _, hc⟩ := h
  have q1 : (cellsOf l).length = l.length := by simp [cellsOf]
  rw [q1]
  have HC := Lib.hid hc
  have HG := Lib.hid hg
  generalize hn : l.length = n at *
  have HN := Lib.hid hn
  clear hn q1 hc hg
  go_enter Try.func33, Try.ntmps33
  go_wp2
  have H0 : Hid (OfPart w (w.alloc (Obj.cells #[] 5)) l 0 (.slice (some ⟨w.heap.size, 0, none⟩) 0 0)) := Lib.hid ⟨own_new (heap_alloc_new w _) (Nat.le_refl _), Fr.of_alloc _ _ _⟩
  go_loopw [3, 4] (fun v i wr => ∃ k : Nat, k ≤ n ∧ i = .int .i64 k ∧ Hid (OfPart w wr l k v)) (fun _ i _ => n - (intOf i).toNat)
  case atStart => exact ⟨0, by omega, rfl, H0⟩
  case round =>
    obtain ⟨k, hk, rfl, hp⟩ := hrel
    clear H0
    obtain ⟨bo, d, hv, hd⟩ := own_slice hp.out.1
    subst hv
    by_cases hlt : k < n
    · have h1 : (k : Int) < n := by omega
      obtain ⟨x, hx⟩ : ∃ x, l[k]? = some x := ⟨_, List.getElem?_eq_getElem (by have := HN.out; omega)⟩
      obtain ⟨hb0, hb1⟩ := HG.out x (List.mem_of_getElem? hx)
      obtain ⟨g, off, ha, _, hcell0⟩ := HC.out k _ (cells_get hx)
      have hcell := hp.out.2.cell hcell0 (fun x => x)
      subst ha
      have HX := Lib.hid hx
      clear hx hcell0
      have y1 := u8_in (x / 256) (by omega) (by omega)
      have y2 := u8_in (x % 256) (by omega) (by omega)
      have y3 : x.tdiv 256 = x / 256 := Int.tdiv_eq_ediv_of_nonneg hb0
      have y4 : x.tmod 256 = x % 256 := Int.tmod_eq_emod_of_nonneg hb0
      have y5 := u16_in (x / 256) (by omega) (by omega)
      go_wp2
      go_region_law (refine step_app rfl (.tmp 12) (.tmp 25) 62 62 rfl Try.slice62 rfl (by exact own_kept hp.out.1 ((Fr.of_alloc _ _ _).trans (Fr.of_drew _ _))) rfl (by exact src_two Try.underlying62 (heap_alloc_new wr _) rfl rfl) (by unfold maxLen; omega) (by omega) (by have := hp.out.2.size; simp; omega) ?_; intro v1 w1 hp1; have Hp1 := Lib.hid (hp.out.step HG.out HX.out ((Fr.of_alloc _ _ _).trans (Fr.of_drew _ _)) hp1); clear hp1 hp)
      all_goals
        clear y1 y2 y3 y4 y5
        go_wp2
        go_roundw
        case rel => exact ⟨k + 1, by omega, by go_num, Hp1⟩
        case measure => simp [intOf]; omega
    · have hp2 : Hid (OfPart w wr l n (.slice bo (2 * k) d)) := by
        obtain rfl : k = n := by omega
        exact hp
      have hrow := hp2.out.1
      rw [List.take_of_length_le (by have := HN.out; omega)] at hrow
      have hconv : (convert 62 36 (.slice bo (2 * k) d)).run Try.prog wr = .ok (.string (ofS l)) wr := run_to_string hrow
      clear hrow
      go_wp2
      go_ret
      exact ⟨rfl, hp2.out.2⟩

/-- words as cells -/
def wcells (l : List ByteArray) : List Value := l.map Value.string
theorem wcells_get {l : List ByteArray} {i : Nat} {x : ByteArray} (h : l[i]? = some x) : (wcells l)[i]? = some (.string x) := by simp [wcells, h]
/-- the value holds words -/
def WordsAt (w : World) (v : Value) : Prop := ∃ m, Reads w (fun _ => True) v (wcells m) ∧ Small maxLen m ∧ m.length ≤ maxLen
theorem words_of {w : World} {v : Value} {r : Reach} {b : Nat} (hval : Value.okWide Try.prog w r b 22 v) (h : Holds Try.prog w 22 v.cells.toList) : WordsAt w v := by
  obtain ⟨ao, len, cap, rfl⟩ := okWide_slice Try.underlying22 hval
  have hC : Try.prog.cellsOf 36 = 1 := by kernel_rfl
  have : Inhabited ByteArray := ⟨ByteArray.empty⟩
  obtain ⟨l, h1, h2, h3⟩ := Holds.row (mk := Value.string) (R := fun x => x.size ≤ maxLen) (c := .slice ao len cap) h Try.underlying22 hC (fun cs hcs => by
    obtain ⟨x, hx, hw⟩ := hcs.string Try.underlying36
    exact ⟨x, hx, hw⟩)
  exact ⟨l, h1, h2, h3⟩

/-- the place of the first torn word; -1 if there is none -/
def idxS (l : List ByteArray) : Int := match l.findIdx? tornB with | some k => k | none => -1
theorem idxS_some {l : List ByteArray} {k : Nat} {x : ByteArray} (hx : l[k]? = some x) (ht : tornB x = true) (h : ∀ j y, j < k → l[j]? = some y → tornB y = false) : idxS l = k := by
  unfold idxS
  obtain ⟨hk, rfl⟩ := List.getElem?_eq_some_iff.1 hx
  have : l.findIdx? tornB = some k := by
    rw [List.findIdx?_eq_some_iff_getElem]
    exact ⟨hk, ht, fun j hj => by rw [h j _ hj (List.getElem?_eq_getElem (by omega))]; simp⟩
  rw [this]
theorem idxS_none {l : List ByteArray} (h : ∀ j y, j < l.length → l[j]? = some y → tornB y = false) : idxS l = -1 := by
  unfold idxS
  have : l.findIdx? tornB = none := by
    rw [List.findIdx?_eq_none_iff]
    intro x hx
    obtain ⟨j, hj⟩ := List.mem_iff_getElem?.1 hx
    exact h j x (List.getElem?_eq_some_iff.1 hj).1 hj
  rw [this]
theorem idxS_any (l : List ByteArray) : decide (0 ≤ idxS l) = l.any tornB := by
  unfold idxS
  cases h : l.findIdx? tornB with
  | none =>
    rw [List.findIdx?_eq_none_iff] at h
    have : l.any tornB = false := by rw [List.any_eq_false]; intro x hx; simp [h x hx]
    rw [this]; rfl
  | some k =>
    rw [List.findIdx?_eq_some_iff_getElem] at h
    obtain ⟨hk, ht, _⟩ := h
    have : l.any tornB = true := by rw [List.any_eq_true]; exact ⟨_, List.getElem_mem hk, ht⟩
    rw [this]; simp
theorem flat_take_le (l : List ByteArray) (k : Nat) : (flatS (l.take k)).length ≤ (flatS l).length := by
  conv => rhs; rw [← List.take_append_drop k l, flat_append]
  simp
theorem flat_take_succ {l : List ByteArray} {k : Nat} {x : ByteArray} (h : l[k]? = some x) : flatS (l.take (k + 1)) = flatS (l.take k) ++ bs x := by
  rw [List.take_add_one, h, flat_append]; simp [flatS]
theorem flat_even : ∀ {l : List ByteArray}, (l.any tornB = false) → (flatS l).length % 2 = 0
  | [], _ => rfl
  | s :: r, h => by
    simp only [List.any_cons, Bool.or_eq_false_iff] at h
    have ih := flat_even h.2
    have := tornB_false h.1
    simp only [flatS, List.length_append, bs_len]; omega
theorem catS_torn {l : List ByteArray} (h : l.any tornB = true) : catS l = (⟨#[]⟩, 2) := by unfold catS; rw [if_pos h]
theorem catS_large {l : List ByteArray} (h : l.any tornB = false) (h2 : 16 < (flatS l).length) : catS l = (⟨#[]⟩, 4) := by
  unfold catS; rw [if_neg (by simp [h]), if_pos h2]
theorem catS_ok {l : List ByteArray} (h : l.any tornB = false) (h2 : (flatS l).length ≤ 16) : catS l = (⟨(flatS l).toArray⟩, 0) := by
  unfold catS; rw [if_neg (by simp [h]), if_neg (by omega)]

set_option maxHeartbeats 1000000 in
theorem index_any {w : World} {G : Nat → Prop} {v : Value} {l : List ByteArray} (h : Reads w G v (wcells l)) (hl : l.length ≤ 100000) (hs : Small maxLen l) :
    Calls Try.prog 62 #[v, .func (.func 50) #[] #[]] w fun e w' => e = .returned (.int .i64 (idxS l)) ∧ w = w' := by
  obtain ⟨ao, c, rfl, _, hc⟩ := h
  have q1 : (wcells l).length = l.length := by simp [wcells]
  rw [q1]
  have HC := Lib.hid hc
  have HS := Lib.hid hs
  generalize hn : l.length = n at *
  have HN := Lib.hid hn
  clear hn q1 hc hs
  go_enter Try.func62, Try.ntmps62
  go_wp2
  go_loop [8] (fun i => ∃ k : Nat, k ≤ n ∧ i = .int .i64 k ∧ Hid (∀ j y, j < k → l[j]? = some y → tornB y = false)) (fun i => n - (intOf i).toNat)
  case atStart => exact ⟨0, by omega, rfl, Lib.hid (fun i y hi => by omega)⟩
  case round =>
    obtain ⟨k, hk, rfl, hall⟩ := hrel
    by_cases hlt : k < n
    · have h1 : (k : Int) < n := by omega
      obtain ⟨x, hx⟩ : ∃ x, l[k]? = some x := ⟨_, List.getElem?_eq_getElem (by have := HN.out; omega)⟩
      obtain ⟨g, off, rfl, _, hcell⟩ := HC.out k _ (wcells_get hx)
      have hsx := Lib.hid (HS.out x (List.mem_of_getElem? hx))
      have HX := Lib.hid hx
      clear hx
      cases ht : tornB x
      · have HA : Hid (∀ j y, j < k + 1 → l[j]? = some y → tornB y = false) := Lib.hid (fun j y hj hy => by
          rcases Nat.lt_or_ge j k with h | h
          · exact hall.out j y h hy
          · obtain rfl : j = k := by omega
            rw [HX.out] at hy; cases hy; exact ht)
        go_wp2_with (go_at_call 50; refine (isTorn_any _ _ hsx.out).mono ?_; rintro e w' ⟨rfl, rfl⟩; rw [ht])
        go_round
        case rel => exact ⟨k + 1, by omega, by go_num, HA⟩
        case measure => simp [intOf]; omega
      · have HA := Lib.hid (idxS_some HX.out ht hall.out)
        go_wp2_with (go_at_call 50; refine (isTorn_any _ _ hsx.out).mono ?_; rintro e w' ⟨rfl, rfl⟩; rw [ht])
        go_ret
        exact ⟨ret_int HA.out.symm, rfl⟩
    · have HA := Lib.hid (idxS_none (l := l) (fun j y hj hy => hall.out j y (by have := HN.out; omega) hy))
      go_wp2
      go_ret
      exact ⟨ret_int HA.out.symm, rfl⟩
set_option maxHeartbeats 1000000 in
theorem contains_any {w : World} {G : Nat → Prop} {v : Value} {l : List ByteArray} (h : Reads w G v (wcells l)) (hl : l.length ≤ 100000) (hs : Small maxLen l) :
    Calls Try.prog 57 #[v, .func (.func 50) #[] #[]] w fun e w' => e = .returned (.bool (l.any tornB)) ∧ w = w' := by
  have HA := Lib.hid (idxS_any l)
  have HR := Lib.hid h
  obtain ⟨ao, c, rfl, _, hc⟩ := h
  clear hc
  go_enter Try.func57, Try.ntmps57
  go_wp2_with fail
  refine (index_any HR.out hl hs).mono ?_
  rintro e w' ⟨rfl, rfl⟩
  go_wp2
  go_ret
  exact ⟨ret_bool HA.out, rfl⟩
/-- a row that has the bytes of the first k words -/
def CatPart (w wr : World) (l : List ByteArray) (k m : Nat) (v : Value) : Prop :=
  m = (flatS (l.take k)).length ∧ wr.ownsRow w.heap.size 5 1 v m (bcells (flatS (l.take k))) ∧ Kept w wr
theorem CatPart.step {w wr w1 : World} {l : List ByteArray} {k m : Nat} {v v1 : Value} (h : CatPart w wr l k m v) {x : ByteArray} (hx : l[k]? = some x)
    (hp : AppPost wr w.heap.size 5 1 v (m + x.size) (bcells (flatS (l.take k)) ++ byteCells x) v1 w1) : CatPart w w1 l (k + 1) (m + x.size) v1 := by
  have e := flat_take_succ hx
  refine ⟨by rw [e, h.1]; simp [bs_len], ?_, (hp.kept h.2.2 (fun g hg => (h.2.1.lt g hg).1)).1⟩
  rw [e, bcells_append, ← bcells_bs]; exact hp.1
set_option maxHeartbeats 2000000 in
theorem cat_any {w : World} {G : Nat → Prop} {v : Value} {l : List ByteArray} (h : Reads w G v (wcells l)) (hl : l.length ≤ 100000) (hs : Small 100000 l) :
    Calls Try.prog 44 #[v] w (PairPost (catS l) w) := by
  have HR := Lib.hid h
  have HS0 : Hid (Small maxLen l) := Lib.hid (fun s h => by have := hs s h; unfold maxLen; omega)
  obtain ⟨ao, c, rfl, _, hc⟩ := h
  have q1 : (wcells l).length = l.length := by simp [wcells]
  have HC := Lib.hid hc
  have HS := Lib.hid hs
  rw [q1] at HR ⊢
  generalize hn : l.length = n at *
  have HN := Lib.hid hn
  clear hn q1 hc hs
  cases ht : l.any tornB
  · go_enter Try.func44, Try.ntmps44
    go_wp2_with (go_at_call 57; refine (contains_any HR.out (by rw [HN.out]; exact hl) HS0.out).mono ?_; rintro e w' ⟨rfl, rfl⟩; rw [ht])
    have HT := Lib.hid ht
    clear ht
    have H0 : Hid (CatPart w w l 0 0 (.slice none 0 0)) := Lib.hid ⟨rfl, by simpa [bcells, flatS] using own_nil w _ 5 1, Fr.refl _ _⟩
    go_loopw [4, 11] (fun v i wr => ∃ k m : Nat, k ≤ n ∧ i = .int .i64 k ∧ m ≤ 16 ∧ Hid (CatPart w wr l k m v)) (fun _ i _ => n - (intOf i).toNat)
    case atStart => exact ⟨0, 0, by omega, rfl, by omega, H0⟩
    case round =>
      obtain ⟨k, m, hk, rfl, hm, hp⟩ := hrel
      clear H0
      obtain ⟨bo, d, hv, hd⟩ := own_slice hp.out.2.1
      subst hv
      by_cases hlt : k < n
      · have h1 : (k : Int) < n := by omega
        obtain ⟨x, hx⟩ : ∃ x, l[k]? = some x := ⟨_, List.getElem?_eq_getElem (by have := HN.out; omega)⟩
        obtain ⟨g, off, ha, _, hcell0⟩ := HC.out k _ (wcells_get hx)
        have hcell := hp.out.2.2.cell hcell0 (fun x => x)
        have hsx := HS.out x (List.mem_of_getElem? hx)
        subst ha
        have HX := Lib.hid hx
        clear hx hcell0
        by_cases h16 : 16 < m + x.size
        · have h2 : 16 < (m : Int) + (x.size : Int) := by omega
          have HA : Hid (catS l = (⟨#[]⟩, 4)) := Lib.hid (catS_large HT.out (by
            have := flat_take_le l (k + 1)
            rw [flat_take_succ HX.out, List.length_append, bs_len, ← hp.out.1] at this
            omega))
          go_wp2
          go_ret2
          exact ⟨pair_of HA.out, hp.out.2.2⟩
        · have h2 : ¬ 16 < (m : Int) + (x.size : Int) := by omega
          go_wp2_with (at_builtin; refine list_app rfl (.tmp 21) (.tmp 22) 62 36 rfl Try.slice62 rfl (by exact hp.out.2.1) rfl (by exact Src.ofString wr Try.underlying36 x) (by unfold maxLen; omega) (by omega) (by exact hp.out.2.2.size) ?_; intro v1 w2 hp1; have Hp1 := Lib.hid (hp.out.step HX.out hp1); clear hp1)
          go_roundw
          case rel => exact ⟨k + 1, m + x.size, by omega, by go_num, by omega, Hp1⟩
          case measure => simp [intOf]; omega
      · have hrow := hp.out.2.1
        have hfull : l.take k = l := List.take_of_length_le (by have := HN.out; omega)
        rw [hfull] at hrow
        have HA : Hid (catS l = (⟨(flatS l).toArray⟩, 0)) := Lib.hid (catS_ok HT.out (by have := hp.out.1; rw [hfull] at this; omega))
        have hconv : (convert 62 36 (.slice bo m d)).run Try.prog wr = .ok (.string ⟨(flatS l).toArray⟩) wr := run_to_string hrow
        clear hrow hfull
        go_wp2
        go_ret2
        exact ⟨pair_of HA.out, hp.out.2.2⟩
  · have HA := Lib.hid (catS_torn ht)
    go_enter Try.func44, Try.ntmps44
    go_wp2_with (go_at_call 57; refine (contains_any HR.out (by rw [HN.out]; exact hl) HS0.out).mono ?_; rintro e w' ⟨rfl, rfl⟩; rw [ht])
    go_ret2
    exact ⟨pair_of HA.out, Fr.refl _ _⟩

/-- a row that has the atoms of the first k words -/
def RcatPart (w wr : World) (l : List ByteArray) (k m : Nat) (v : Value) : Prop :=
  2 * m = (flatS (l.take k)).length ∧ wr.ownsRow w.heap.size 25 1 v m (cellsOf (atoms (flatS (l.take k)))) ∧ Kept w wr
theorem any_take {l : List ByteArray} {k : Nat} (h : l.any tornB = false) : (l.take k).any tornB = false := by
  rw [List.any_eq_false] at h ⊢
  exact fun x hx => h x (List.mem_of_mem_take hx)
theorem cells_atoms_append {a b : List UInt8} (h : a.length % 2 = 0) : cellsOf (atoms (a ++ b)) = cellsOf (atoms a) ++ cellsOf (atoms b) := by
  rw [atoms_append _ _ h]; simp [cellsOf]
theorem RcatPart.step {w wr wx w1 : World} {l : List ByteArray} {k m : Nat} {v v1 : Value} (h : RcatPart w wr l k m v) (ht : l.any tornB = false) {x : ByteArray} (hx : l[k]? = some x) (hw : Kept wr wx)
    (hp : AppPost wx w.heap.size 25 1 v (m + x.size / 2) (cellsOf (atoms (flatS (l.take k))) ++ cellsOf (atoms (bs x))) v1 w1) : RcatPart w w1 l (k + 1) (m + x.size / 2) v1 := by
  have e := flat_take_succ hx
  have hxe : x.size % 2 = 0 := tornB_false (by
    rw [List.any_eq_false] at ht
    simpa using ht x (List.mem_of_getElem? hx))
  refine ⟨by rw [e]; have := h.1; simp [bs_len]; omega, ?_, (hp.kept (h.2.2.trans hw) (fun g hg => (h.2.1.lt g hg).1)).1⟩
  rw [e, cells_atoms_append (flat_even (any_take ht))]; exact hp.1
theorem ofS_flat {l : List ByteArray} (h : l.any tornB = false) : ofS (atoms (flatS l)) = ⟨(flatS l).toArray⟩ := by
  unfold ofS; rw [unatoms_atoms _ (flat_even h)]
set_option maxHeartbeats 2000000 in
theorem rcat_any {w : World} {G : Nat → Prop} {v : Value} {l : List ByteArray} (h : Reads w G v (wcells l)) (hl : l.length ≤ 100000) (hs : Small 100000 l) :
    Calls Try.prog 45 #[v] w (PairPost (catS l) w) := by
  obtain ⟨ao, c, rfl, _, hc⟩ := h
  have q1 : (wcells l).length = l.length := by simp [wcells]
  have HC := Lib.hid hc
  have HS := Lib.hid hs
  rw [q1]
  generalize hn : l.length = n at *
  have HN := Lib.hid hn
  clear hn q1 hc hs
  go_enter Try.func45, Try.ntmps45
  go_wp2
  have H0 : Hid (RcatPart w (w.alloc (Obj.cells #[] 25)) l 0 0 (.slice (some ⟨w.heap.size, 0, none⟩) 0 0)) := Lib.hid ⟨rfl, own_new (heap_alloc_new w _) (Nat.le_refl _), Fr.of_alloc _ _ _⟩
  have HW : Hid (Kept w (w.alloc (Obj.cells #[] 25))) := Lib.hid (Fr.of_alloc _ _ _)
  generalize w.alloc (Obj.cells #[] 25) = wa at *
  go_loop [5] (fun i => ∃ k : Nat, k ≤ n ∧ i = .int .i64 k ∧ Hid (∀ j y, j < k → l[j]? = some y → tornB y = false)) (fun i => n - (intOf i).toNat)
  case atStart => exact ⟨0, by omega, rfl, Lib.hid (fun i y hi => by omega)⟩
  case round =>
    obtain ⟨k, hk, rfl, hall⟩ := hrel
    by_cases hlt : k < n
    · have h1 : (k : Int) < n := by omega
      obtain ⟨x, hx⟩ : ∃ x, l[k]? = some x := ⟨_, List.getElem?_eq_getElem (by have := HN.out; omega)⟩
      obtain ⟨g, off, rfl, _, hcell0⟩ := HC.out k _ (wcells_get hx)
      have hcell := HW.out.cell hcell0 (fun x => x)
      have hsx := HS.out x (List.mem_of_getElem? hx)
      have HX := Lib.hid hx
      clear hx hcell0
      cases ht : tornB x
      · have HA : Hid (∀ j y, j < k + 1 → l[j]? = some y → tornB y = false) := Lib.hid (fun j y hj hy => by
          rcases Nat.lt_or_ge j k with h | h
          · exact hall.out j y h hy
          · obtain rfl : j = k := by omega
            rw [HX.out] at hy; cases hy; exact ht)
        have ht1 : ((x.size : Int) % 2 == 1) = false := by have := tornB_false ht; rw [beq_eq_false_iff_ne]; omega
        clear ht
        go_wp2
        go_round
        case rel => exact ⟨k + 1, by omega, by go_num, HA⟩
        case measure => simp [intOf]; omega
      · have HA : Hid (catS l = (⟨#[]⟩, 2)) := Lib.hid (catS_torn (by rw [List.any_eq_true]; exact ⟨x, List.mem_of_getElem? HX.out, ht⟩))
        have ht1 : ((x.size : Int) % 2 == 1) = true := by have := tornB_true ht; rw [beq_iff_eq]; omega
        clear ht
        go_wp2
        go_ret2
        exact ⟨pair_of HA.out, HW.out⟩
    · have HT : Hid (l.any tornB = false) := Lib.hid (by
        rw [List.any_eq_false]
        intro x hx
        obtain ⟨j, hj⟩ := List.mem_iff_getElem?.1 hx
        have := hall.out j x (by have := (List.getElem?_eq_some_iff.1 hj).1; have := HN.out; omega) hj
        simp [this])
      clear hall
      go_wp2
      clear hlt
      go_loopw [4, 6] (fun v i wr => ∃ k m : Nat, k ≤ n ∧ i = .int .i64 k ∧ m ≤ 8 ∧ Hid (RcatPart w wr l k m v)) (fun _ i _ => n - (intOf i).toNat)
      case atStart => exact ⟨0, 0, by omega, rfl, by omega, H0⟩
      case round =>
        obtain ⟨k, m, hk, rfl, hm, hp⟩ := hrel
        clear H0
        obtain ⟨bo, d, hv, hd⟩ := own_slice hp.out.2.1
        subst hv
        by_cases hlt : k < n
        · have h1 : (k : Int) < n := by omega
          obtain ⟨x, hx⟩ : ∃ x, l[k]? = some x := ⟨_, List.getElem?_eq_getElem (by have := HN.out; omega)⟩
          obtain ⟨g, off, ha, _, hcell0⟩ := HC.out k _ (wcells_get hx)
          have hcell := hp.out.2.2.cell hcell0 (fun x => x)
          have hsx := HS.out x (List.mem_of_getElem? hx)
          subst ha
          have HX := Lib.hid hx
          clear hx hcell0
          go_wp2_with fail
          refine (ratoms_any x _ hsx).mono ?_
          rintro e w2 ⟨v2, rfl, hrow2, hk2⟩
          have hlen2 : (cellsOf (atoms (bs x))).length = x.size / 2 := by simp [cellsOf, atoms_len, bs_len]
          rw [hlen2] at hrow2
          have hr2 := Reads.of_row hrow2
          have hsrc : Src Try.prog 1 60 v2 (x.size / 2) (cellsOf (atoms (bs x))) w2 := by
            rw [← hlen2]; exact hr2.src Try.underlying60 one_u16
          have HSRC := Lib.hid hsrc
          have HK2 := Lib.hid hk2
          clear hlen2 hrow2 hr2 hsrc hk2
          have hdiv : x.size / 2 ≤ 50000 := by omega
          obtain ⟨q, hq⟩ : ∃ q, q = x.size / 2 := ⟨_, rfl⟩
          have HQ := Lib.hid hq
          have hq2 : q ≤ 50000 := by omega
          clear hq hdiv
          go_wp2_with (at_builtin; refine list_app rfl (.tmp 27) (.tmp 32) 60 60 rfl Try.slice60 rfl (by exact own_kept hp.out.2.1 HK2.out) rfl (by exact HSRC.out) (by have := HQ.out; unfold maxLen; omega) (by have := HQ.out; omega) (by have := hp.out.2.2.size; have := HK2.out.size; omega) ?_; intro v3 w3 hp1; have Hp1 := Lib.hid (hp.out.step HT.out HX.out HK2.out hp1); clear hp1; rw [← HQ.out] at Hp1; obtain ⟨b3, d3, hv3, hd3⟩ := own_slice Hp1.out.2.1; subst hv3)
          · have h8 : 8 < (m : Int) + (q : Int) := by first | assumption | omega
            have HA : Hid (catS l = (⟨#[]⟩, 4)) := Lib.hid (catS_large HT.out (by
              have := flat_take_le l (k + 1)
              have := Hp1.out.1
              omega))
            go_ret2
            exact ⟨pair_of HA.out, Hp1.out.2.2⟩
          · have h8 : ¬ 8 < (m : Int) + (q : Int) := by first | assumption | omega
            go_roundw
            case rel => exact ⟨k + 1, m + q, by omega, by go_num, by omega, Hp1⟩
            case measure => simp [intOf]; omega
        · have hfull : l.take k = l := List.take_of_length_le (by have := HN.out; omega)
          have hrow := hp.out.2.1
          rw [hfull] at hrow
          have hr := Lib.hid (Reads.of_row hrow)
          have hm2 : (atoms (flatS l)).length ≤ 100000 := by
            have := hrow.1
            simp [cellsOf] at this; omega
          have HA : Hid (catS l = (ofS (atoms (flatS l)), 0)) := Lib.hid (by
            rw [ofS_flat HT.out]
            exact catS_ok HT.out (by have := hp.out.1; rw [hfull] at this; omega))
          clear hrow hfull
          go_wp2_with fail
          refine (rof_any hr.out (atoms_good _) hm2).mono ?_
          rintro e w2 ⟨rfl, hk2⟩
          have HK2 := Lib.hid hk2
          clear hk2
          go_wp2
          go_ret2
          exact ⟨pair_of HA.out, hp.out.2.2.trans HK2.out⟩

theorem size32 (w : World) : (sizeOf (Try.prog.elem 60)).run Try.prog w = .ok 1 w := by
  obtain ⟨i0, hi, _, h1, _⟩ := info_parts Try.info25
  have : Try.prog.elem 60 = 25 := by kernel_rfl
  rw [this]
  simp [sizeOf, typeInfo, hi, h1]
theorem elem29 : Try.prog.underlying 60 = some (.slice (Try.prog.elem 60)) := by
  have : Try.prog.elem 60 = 25 := by kernel_rfl
  rw [this]; exact Try.underlying60
theorem reads_sliced {w : World} {G : Nat → Prop} {ao : Option Addr} {c : Nat} {l : List Int} (h : Reads w G (.slice ao l.length c) (cellsOf l)) {lo hi : Nat} (h1 : lo ≤ hi) (h2 : hi ≤ l.length) :
    Reads w G (sliced ao lo hi c 1) (cellsOf ((l.drop lo).take (hi - lo))) := by
  obtain ⟨ao', c', hv, hc, hx⟩ := h
  have hl : (cellsOf l).length = l.length := by simp [cellsOf]
  simp only [Value.slice.injEq] at hv
  obtain ⟨rfl, _, rfl⟩ := hv
  have hlen : (cellsOf ((l.drop lo).take (hi - lo))).length = hi - lo := by simp [cellsOf]; omega
  refine ⟨_, c - lo, by rw [hlen]; rfl, by rw [hlen]; omega, fun i x hi' => ?_⟩
  have hil : i < hi - lo := by rw [← hlen]; exact (List.getElem?_eq_some_iff.1 hi').1
  have hget : (cellsOf l)[lo + i]? = some x := by
    rw [← hi']; simp only [cellsOf, List.getElem?_map, List.getElem?_take, List.getElem?_drop, if_pos hil]
  obtain ⟨g, off, rfl, hg, hcell⟩ := hx (lo + i) x hget
  rw [if_neg (by omega)]
  refine ⟨g, off + lo, ?_, hg, ?_⟩
  · simp [Addr.add]
  · rw [← hcell]; congr 2; omega
theorem run_part {w : World} {G : Nat → Prop} {v : Value} {l : List Int} (h : Reads w G v (cellsOf l)) {lo hi : Nat} (h1 : lo ≤ hi) (h2 : hi ≤ l.length) {a b : Int} (ha : a = lo) (hb : b = hi) :
    ∃ v', Reads w G v' (cellsOf ((l.drop lo).take (hi - lo))) ∧ ∀ wx, (Instr.slice 60 v (some (.int .i64 a)) (some (.int .i64 b)) none).run Try.prog wx = .ok v' wx := by
  obtain ⟨ao, c, rfl, hc, hx⟩ := id h
  have hl : (cellsOf l).length = l.length := by simp [cellsOf]
  rw [hl] at h hc
  refine ⟨_, reads_sliced h h1 h2, fun wx => ?_⟩
  subst ha hb
  rw [run_slice_lh wx 60 ao _ c elem29 _ _ _ _ (by omega) (by omega) (by omega), size32]
  simp [Result.andThen]
theorem run_to {w : World} {G : Nat → Prop} {v : Value} {l : List Int} (h : Reads w G v (cellsOf l)) {hi : Nat} (h2 : hi ≤ l.length) {b : Int} (hb : b = hi) :
    ∃ v', Reads w G v' (cellsOf (l.take hi)) ∧ ∀ wx, (Instr.slice 60 v none (some (.int .i64 b)) none).run Try.prog wx = .ok v' wx := by
  obtain ⟨ao, c, rfl, hc, hx⟩ := id h
  have hl : (cellsOf l).length = l.length := by simp [cellsOf]
  rw [hl] at h hc
  have hr := reads_sliced h (Nat.zero_le hi) h2
  simp only [List.drop_zero, Nat.sub_zero] at hr
  refine ⟨_, hr, fun wx => ?_⟩
  subst hb
  rw [run_slice_h wx 60 ao _ c elem29 _ _ (by omega) (by omega), size32]
  simp [Result.andThen]
theorem run_from {w : World} {G : Nat → Prop} {v : Value} {l : List Int} (h : Reads w G v (cellsOf l)) {lo : Nat} (h1 : lo ≤ l.length) {a : Int} (ha : a = lo) :
    ∃ v', Reads w G v' (cellsOf (l.drop lo)) ∧ ∀ wx, (Instr.slice 60 v (some (.int .i64 a)) none none).run Try.prog wx = .ok v' wx := by
  obtain ⟨ao, c, rfl, hc, hx⟩ := id h
  have hl : (cellsOf l).length = l.length := by simp [cellsOf]
  rw [hl] at h hc
  have hr := reads_sliced h h1 (Nat.le_refl _)
  rw [List.take_of_length_le (by simp)] at hr
  refine ⟨_, hr, fun wx => ?_⟩
  subst ha
  rw [hl, run_slice_l wx 60 ao _ c elem29 _ _ (by omega) (by omega), size32]
  simp [Result.andThen]

theorem subS_torn {s : ByteArray} {i n : Int} (h : tornB s = true) : subS s i n = (⟨#[]⟩, 2) := by unfold subS; rw [if_pos h]
theorem subS_out {s : ByteArray} {i n : Int} (h : tornB s = false) (h2 : partB s i n = false) : subS s i n = (⟨#[]⟩, 5) := by unfold subS; rw [if_neg (by simp [h]), if_pos h2]
theorem subS_in {s : ByteArray} {a b : Nat} (h : tornB s = false) (h2 : a + b ≤ s.size / 2) : subS s a b = (s.extract (2 * a) (2 * (a + b)), 0) := by
  unfold subS; rw [if_neg (by simp [h]), if_neg (by unfold partB; simp; omega)]; simp
theorem part_nat {s : ByteArray} {i n : Int} (h : partB s i n = true) : ∃ a b : Nat, i = a ∧ n = b ∧ a + b ≤ s.size / 2 := by
  simp [partB] at h
  exact ⟨i.toNat, n.toNat, by omega, by omega, by omega⟩

theorem swapS_torn {s v : ByteArray} {i n : Int} (h : (tornB s || tornB v) = true) : swapS s i n v = (⟨#[]⟩, 2) := by unfold swapS; rw [if_pos h]
theorem swapS_out {s v : ByteArray} {i n : Int} (h : (tornB s || tornB v) = false) (h2 : partB s i n = false) : swapS s i n v = (⟨#[]⟩, 5) := by unfold swapS; rw [if_neg (by simp [h]), if_pos h2]
theorem swapS_in {s v : ByteArray} {a b : Nat} (h : (tornB s || tornB v) = false) (h2 : a + b ≤ s.size / 2) : swapS s a b v = catS [s.extract 0 (2 * a), v, s.extract (2 * (a + b)) s.size] := by
  unfold swapS; rw [if_neg (by simp [h]), if_neg (by unfold partB; simp; omega)]; simp
theorem flat_swap {s v : ByteArray} {a b : Nat} (h : tornB s = false) (hv : tornB v = false) (hab : a + b ≤ s.size / 2) :
    atoms (flatS [s.extract 0 (2 * a), v, s.extract (2 * (a + b)) s.size]) = (atoms (bs s)).take a ++ atoms (bs v) ++ (atoms (bs s)).drop (a + b) := by
  have h1 := tornB_false h
  have h2 := tornB_false hv
  have e1 : bs (s.extract 0 (2 * a)) = (bs s).take (2 * a) := by rw [bs_extract]; simp
  have e3 : bs (s.extract (2 * (a + b)) s.size) = (bs s).drop (2 * (a + b)) := by
    rw [bs_extract, List.take_of_length_le (by simp [bs_len])]
  simp only [flatS, List.append_nil, e1, e3]
  rw [atoms_append _ _ (by simp [bs_len]; omega), atoms_append _ _ (by rw [bs_len]; exact h2), atoms_take, atoms_drop, List.append_assoc]
theorem torn_swap {s v : ByteArray} {a b : Nat} (h : tornB s = false) (hv : tornB v = false) (hab : a + b ≤ s.size / 2) :
    [s.extract 0 (2 * a), v, s.extract (2 * (a + b)) s.size].any tornB = false := by
  have h1 := tornB_false h
  have g1 : tornB (s.extract 0 (2 * a)) = false := by simp [tornB]; omega
  have g3 : tornB (s.extract (2 * (a + b)) s.size) = false := by simp [tornB]; omega
  simp [g1, g3, hv]

/-- a place is told -/
def FindPost (w v : ByteArray) (i : Int) (W : World) (e : Ending) (W' : World) : Prop := ∃ r, e = .returned (.int .i64 r) ∧ FindIs w v i r ∧ Kept W W'
theorem find_none {w v : ByteArray} {i : Int} (h : tornB v = true ∨ v.size = 0) : FindIs w v i (-1) := by unfold FindIs; rw [if_pos h]
theorem find_not {w v : ByteArray} {i : Int} (h : tornB v = false) (h2 : v.size ≠ 0) (h3 : ∀ k : Nat, i ≤ k → standsB w v k = false) : FindIs w v i (-1) := by
  unfold FindIs; rw [if_neg (by simp [h, h2])]; exact .inl ⟨rfl, h3⟩
theorem find_at {w v : ByteArray} {i : Int} {k : Nat} (h : tornB v = false) (h2 : v.size ≠ 0) (h3 : i ≤ k) (h4 : standsB w v k = true) (h5 : ∀ j : Nat, j < k → i ≤ j → standsB w v j = false) : FindIs w v i k := by
  unfold FindIs; rw [if_neg (by simp [h, h2])]; exact .inr ⟨k, rfl, h3, h4, h5⟩
theorem stands_far {w v : ByteArray} {k : Nat} (hv : v.size ≠ 0) (h : w.size < 2 * k + v.size) : standsB w v k = false := by
  cases hs : standsB w v k with
  | false => rfl
  | true => have := stands_le hs (by omega); omega
theorem stands_eq {w v : ByteArray} {k : Nat} : ((w.extract (2 * k) (2 * k + v.size)).toList == v.toList) = standsB w v k := by
  rw [bs_toList, bs_toList, bs_extract, Nat.add_sub_cancel_left, Bool.eq_iff_iff]
  simp [standsB]

theorem flat3 (a b c : ByteArray) : (⟨(flatS [a, b, c]).toArray⟩ : ByteArray) = a ++ b ++ c := by
  apply bs_inj; rw [bs_mk, bs_append, bs_append]; simp [flatS]
theorem flat2 (a b : ByteArray) : (⟨(flatS [a, b]).toArray⟩ : ByteArray) = a ++ b := by
  apply bs_inj; rw [bs_mk, bs_append]; simp [flatS]
theorem any3 {a b c : ByteArray} : [a, b, c].any tornB = (tornB a || (tornB b || tornB c)) := by simp
theorem len3 (a b c : ByteArray) : (flatS [a, b, c]).length = a.size + b.size + c.size := by simp [flatS, bs_len]; omega
theorem len2 (a b : ByteArray) : (flatS [a, b]).length = a.size + b.size := by simp [flatS, bs_len]
theorem torn_append {a b : ByteArray} (ha : tornB a = false) (hb : tornB b = false) : tornB (a ++ b) = false := by
  have h1 := tornB_false ha
  have h2 := tornB_false hb
  simp [tornB, ByteArray.size_append]; omega
theorem app_assoc (a b c : ByteArray) : a ++ (b ++ c) = a ++ b ++ c := by
  apply bs_inj; simp [bs_append]
/-- what comes of three words that may be laid together -/
theorem cats_ok {a b c : ByteArray} (ha : tornB a = false) (hb : tornB b = false) (hc : tornB c = false) (h : a.size + b.size + c.size ≤ 16) :
    catS [a, b, c] = (a ++ b ++ c, 0) ∧ catS [a, b] = (a ++ b, 0) ∧ catS [b, c] = (b ++ c, 0) ∧ catS [a ++ b, c] = (a ++ b ++ c, 0) ∧ catS [a, b ++ c] = (a ++ b ++ c, 0) ∧
    catS [⟨#[]⟩, a, ⟨#[]⟩, b, c, ⟨#[]⟩] = (a ++ b ++ c, 0) := by
  have te : tornB ⟨#[]⟩ = false := by decide
  refine ⟨?_, ?_, ?_, ?_, ?_, ?_⟩
  · rw [catS_ok (by simp [ha, hb, hc]) (by rw [len3]; exact h), flat3]
  · rw [catS_ok (by simp [ha, hb]) (by rw [len2]; omega), flat2]
  · rw [catS_ok (by simp [hb, hc]) (by rw [len2]; omega), flat2]
  · rw [catS_ok (by simp [torn_append ha hb, hc]) (by rw [len2, ByteArray.size_append]; omega), flat2]
  · rw [catS_ok (by simp [torn_append hb hc, ha]) (by rw [len2, ByteArray.size_append]; omega), flat2, app_assoc]
  · have e : flatS [⟨#[]⟩, a, ⟨#[]⟩, b, c, ⟨#[]⟩] = flatS [a, b, c] := by simp [flatS, bs]
    rw [catS_ok (by simp [ha, hb, hc, te]) (by rw [e, len3]; exact h), e, flat3]

end Go.Proofs.Ytdapklamemalgaa
