/- Contracts and lemmas: Na -/
import Derived.Test.YtbfealhbdemhmaaGreatDoorKb
import Derived.Test.YtbfealhbdemhmaaGreatDoorAtm2
import Derived.Test.YtbfealhbdemhmaaGreatDoorS2
namespace Go.Proofs.YtbfealhbdemhmaaGreatDoor
set_option linter.unusedVariables false
set_option linter.unusedSimpArgs false
open Go.RowKit Go.ChangeShapes Go.WideShapes
set_option maxRecDepth 20000
theorem Holds.array {P : Program} {w : World} {t : TypeId} {cs : List Value} {n : Nat} {e : TypeId} (h : Holds P w t cs) (ht : P.underlying t = some (.array n e)) :
    cs.length = P.cellsOf t ∧ ∀ (i : Nat), i < n → Holds P w e ((cs.drop (i * P.cellsOf e)).take (P.cellsOf e)) := by
  obtain ⟨H, enc, base, spare, held, fuel, x, hf⟩ := h
  obtain ⟨xs, m, _, _, hl, hlen, hx⟩ := DataW.trod_array ht hf
  refine ⟨hl, fun i hi => ?_⟩
  have h1 := hx i hi
  rw [List.getElem?_eq_getElem (by omega)] at h1
  exact ⟨H, enc, base, spare, held, m, _, h1⟩
namespace Atm
def six (a b c d e f : Value) (k : Nat) : Value := match k with | 0 => a | 1 => b | 2 => c | 3 => d | 4 => e | _ => f
/-- a slice of strings that is read as data -/
theorem strs_of {w : World} {c : Value} (h : Holds Tryz.prog w 22 [c]) : ∃ l, Reads w (fun _ => True) c l ∧ (∀ s ∈ l, s.size ≤ maxLen) ∧ l.length ≤ maxLen := by
  rcases h.slice Tryz.underlying22 with h0 | ⟨a, len, cap, h1, hl, hm, hx⟩
  · simp at h0
    subst h0
    exact ⟨[], (⟨none, 0, rfl, fun i s h => by simp at h⟩ : Reads w (fun _ => True) (.slice none 0 0) []), by simp, by decide⟩
  · simp at h1
    subst h1
    have hC : Tryz.prog.cellsOf 9 = 1 := by kernel_rfl
    have key : ∀ i, i < len → ∃ s : ByteArray, s.size ≤ maxLen ∧ ∃ g off, some a = some ⟨g, off, none⟩ ∧ w.cell? ⟨g, off + i, none⟩ = some (.string s) := by
      intro i hi
      have ha : a = ⟨a.block, a.off, none⟩ := by
        obtain ⟨cs0, hl0, hc0, _⟩ := hx 0 (by omega)
        rw [hC] at hl0 hc0
        have h00 := hc0 0 (by omega)
        rw [List.getElem?_eq_getElem (by omega)] at h00
        have := spot_of_cell h00
        simp [Addr.add] at this
        cases a; simp_all
      obtain ⟨cs', hlen, hcell, hh⟩ := hx i hi
      rw [hC] at hlen hcell
      match cs', hlen with
      | [c0], _ =>
        obtain ⟨s, e1, ws⟩ := hh.string Tryz.underlying9
        simp at e1
        subst e1
        have := cell_form (hcell 0 (by omega))
        simp at this
        exact ⟨s, ws, a.block, a.off, ha ▸ rfl, this⟩
    have : Inhabited ByteArray := ⟨ByteArray.empty⟩
    obtain ⟨f, hf⟩ := Deep.choose_lt key
    refine ⟨(List.range len).map f, ⟨some a, cap, by simp, fun i x hi => ?_⟩, fun s hs => ?_, by simp; omega⟩
    · obtain ⟨hi', rfl⟩ := List.getElem?_eq_some_iff.1 hi
      simp at hi'
      obtain ⟨_, g, off, h1, h2⟩ := hf i hi'
      simp only [List.getElem_map, List.getElem_range]
      exact ⟨g, off, h1, trivial, h2⟩
    · obtain ⟨i, hi, rfl⟩ := List.mem_map.1 hs
      exact (hf i (by simpa using hi)).1
/-- six slices of strings -/
def Rows6At (w : World) (x : Value) : Prop :=
  ∃ (v : Nat → Value) (src : Nat → List ByteArray), x = .agg #[v 0, v 1, v 2, v 3, v 4, v 5] ∧ ∀ k, k < 6 → Reads w (fun _ => True) (v k) (src k) ∧ (∀ s ∈ src k, s.size ≤ maxLen) ∧ (src k).length ≤ maxLen
theorem rows6_of {w : World} {x : Value} {r : Reach} {b : Nat} (hval : Value.okWide Tryz.prog w r b 24 x) (h : Holds Tryz.prog w 24 x.cells.toList) : Rows6At w x := by
  simp only [Value.okWide, Tryz.underlying24] at hval
  obtain ⟨cs, rfl, hsz, _⟩ := hval
  have hC : Tryz.prog.cellsOf 24 = 6 := by kernel_rfl
  have h30 : Tryz.prog.cellsOf 22 = 1 := by kernel_rfl
  rw [hC] at hsz
  obtain ⟨l⟩ := cs
  match l, hsz with
  | [c0, c1, c2, c3, c4, c5], _ =>
    obtain ⟨_, hx⟩ := h.array Tryz.underlying24
    have g0 := hx 0 (by omega)
    have g1 := hx 1 (by omega)
    have g2 := hx 2 (by omega)
    have g3 := hx 3 (by omega)
    have g4 := hx 4 (by omega)
    have g5 := hx 5 (by omega)
    simp [h30, Value.cells] at g0 g1 g2 g3 g4 g5
    obtain ⟨l0, r0⟩ := strs_of g0
    obtain ⟨l1, r1⟩ := strs_of g1
    obtain ⟨l2, r2⟩ := strs_of g2
    obtain ⟨l3, r3⟩ := strs_of g3
    obtain ⟨l4, r4⟩ := strs_of g4
    obtain ⟨l5, r5⟩ := strs_of g5
    refine ⟨six c0 c1 c2 c3 c4 c5, fun k => match k with | 0 => l0 | 1 => l1 | 2 => l2 | 3 => l3 | 4 => l4 | _ => l5, rfl, ?_⟩
    intro k hk
    match k, hk with
    | 0, _ => exact r0
    | 1, _ => exact r1
    | 2, _ => exact r2
    | 3, _ => exact r3
    | 4, _ => exact r4
    | 5, _ => exact r5
end Atm

theorem atm_of {F : Nat → Prop} {a b : World} (h : Fr F a b) : Atm.Fr F a b := ⟨h.os, h.tape, h.output, h.size, h.block⟩
theorem atm_to {F : Nat → Prop} {a b : World} (h : Atm.Fr F a b) : Fr F a b := ⟨h.os, h.tape, h.output, h.size, h.block⟩
theorem Atm.Tab.later {w w' : World} {F : Nat → Prop} {B : Nat} {L : Nat → List ByteArray} (h : Atm.Tab w F B L) (hk : Kept w w') : Atm.Tab w' F B L := h.same (atm_of hk) (fun _ _ x => x)
theorem Atm.RTab.later {w w' : World} {F : Nat → Prop} {B : Nat} {L : Nat → List ByteArray} (h : Atm.RTab w F B L) (hk : Kept w w') : Atm.RTab w' F B L := h.same (atm_of hk) (fun _ _ x => x)

open Go.RowKit Go.ChangeShapes Go.WideShapes
set_option maxRecDepth 20000
/-- the atom that a term names, by a table; none: it hasn't got it -/
def termA (L : Nat → List ByteArray) (t : Tok) : Option Int :=
  if t.of = 0 then some 1 else if Atm.numS L t.of (strOf t.name) = 0 then none else some (t.of * 8192 + Atm.numS L t.of (strOf t.name))
/-- what a sign makes of two sets -/
def opL (k : Int) (a b : List ByteArray) : List ByteArray × Int :=
  if k = 2 then andL a b else if k = 3 then forL a b else if k = 4 then quoteL a b else asL a (atS ((b.head?).getD ⟨#[]⟩) 0)
/-- what an expression means, or what is wrong and where -/
def evalE (L : Nat → List ByteArray) : Ex → Except (Nat × Int) (List ByteArray)
  | .atom t => match termA L t with
    | some a => .ok [ofS [a]]
    | none => .error (0, 10)
  | .bin k a b => match evalE L a with
    | .error x => .error x
    | .ok x => match evalE L b with
      | .error (p, q) => .error (a.post.length + p, q)
      | .ok y => if (opL k x y).2 = 0 then .ok (opL k x y).1 else .error (a.post.length + b.post.length, (opL k x y).2)
/-- the same, term by term; the stack's top stands first -/
def runS (L : Nat → List ByteArray) : List Tok → List (List ByteArray) → Nat → List ByteArray × Nat × Int
  | [], st, _ => ((st.head?).getD [], 0, 0)
  | t :: r, st, i =>
    if t.kind = 1 then match termA L t with
      | some a => runS L r ([ofS [a]] :: st) (i + 1)
      | none => ([], i, 10)
    else if (opL t.kind (st.tail.headD []) (st.headD [])).2 = 0 then runS L r ((opL t.kind (st.tail.headD []) (st.headD [])).1 :: st.tail.tail) (i + 1)
    else ([], i, (opL t.kind (st.tail.headD []) (st.headD [])).2)
theorem run_atom {L : Nat → List ByteArray} {t : Tok} {r : List Tok} {st : List (List ByteArray)} {i : Nat} {a : Int} (h : t.kind = 1) (ha : termA L t = some a) : runS L (t :: r) st i = runS L r ([ofS [a]] :: st) (i + 1) := by
  rw [runS, if_pos h, ha]
theorem run_none {L : Nat → List ByteArray} {t : Tok} {r : List Tok} {st : List (List ByteArray)} {i : Nat} (h : t.kind = 1) (ha : termA L t = none) : runS L (t :: r) st i = ([], i, 10) := by
  rw [runS, if_pos h, ha]
theorem run_op {L : Nat → List ByteArray} {t : Tok} {r : List Tok} {st : List (List ByteArray)} {a b : List ByteArray} {i : Nat} (h : t.kind ≠ 1) (he : (opL t.kind a b).2 = 0) : runS L (t :: r) (b :: a :: st) i = runS L r ((opL t.kind a b).1 :: st) (i + 1) := by
  rw [runS, if_neg h]
  exact if_pos he
theorem run_bad {L : Nat → List ByteArray} {t : Tok} {r : List Tok} {st : List (List ByteArray)} {a b : List ByteArray} {i : Nat} (h : t.kind ≠ 1) (he : (opL t.kind a b).2 ≠ 0) : runS L (t :: r) (b :: a :: st) i = ([], i, (opL t.kind a b).2) := by
  rw [runS, if_neg h]
  exact if_neg he
theorem run_post {L : Nat → List ByteArray} : ∀ {e : Ex}, e.Ok → ∀ (r : List Tok) (st : List (List ByteArray)) (i : Nat),
    runS L (e.post ++ r) st i = match evalE L e with
      | .ok s => runS L r (s :: st) (i + e.post.length)
      | .error (p, q) => ([], i + p, q)
  | .atom t, h, r, st, i => by
    rw [evalE]
    cases ha : termA L t with
    | none =>
      simp only [Ex.post, List.singleton_append]
      rw [run_none h.1 ha]
      rfl
    | some a =>
      simp only [Ex.post, List.singleton_append]
      rw [run_atom h.1 ha]
      rfl
  | .bin k a b, h, r, st, i => by
    have ia := run_post (L := L) h.2.1 (b.post ++ (opT k :: r)) st i
    rw [evalE]
    have e0 : (Ex.bin k a b).post ++ r = a.post ++ (b.post ++ (opT k :: r)) := by simp [Ex.post]
    rw [e0, ia]
    cases ha : evalE L a with
    | error x => rfl
    | ok x =>
      simp only []
      have ib := run_post (L := L) h.2.2.1 (opT k :: r) (x :: st) (i + a.post.length)
      rw [ib]
      cases hb : evalE L b with
      | error y =>
        obtain ⟨p, q⟩ := y
        simp only []
        rw [Nat.add_assoc]
      | ok y =>
        simp only []
        have hk : (opT k).kind ≠ 1 := by
          show k ≠ 1
          rintro rfl
          exact h.1 rfl
        by_cases he : (opL k x y).2 = 0
        · rw [if_pos he, run_op hk he]
          simp only [Ex.post, List.length_append, List.length_cons, List.length_nil]
          congr 1
          omega
        · rw [if_neg he, run_bad hk he]
          simp only []
          rw [Nat.add_assoc]
          rfl
/-- what Run answers by a table -/
def RunIs (L : Nat → List ByteArray) (x : List Tok) (r : List ByteArray × Nat × Int) : Prop :=
  (∃ e, MayIs x e ∧ r = match evalE L e with
    | .ok s => (s, 0, 0)
    | .error (p, q) => ([], p, q)) ∨ ((∀ e, ¬ MayIs x e) ∧ r = ([], 0, 2))
theorem may_one {x : List Tok} {t t' : Ex} (h : MayIs x t) (h' : MayIs x t') : t = t' := (EndIs.unique (x := x) (p := []) (p' := []) ⟨h.1, by rw [h.2.1]; rfl⟩ ⟨h'.1, by rw [h'.2.1]; rfl⟩).2
theorem RunIs.unique {L : Nat → List ByteArray} {x : List Tok} {r r' : List ByteArray × Nat × Int} (h : RunIs L x r) (h' : RunIs L x r') : r = r' := by
  rcases h with ⟨e, h1, rfl⟩ | ⟨h1, rfl⟩ <;> rcases h' with ⟨e', h2, rfl⟩ | ⟨h2, rfl⟩
  · rw [may_one h1 h2]
  · exact absurd h1 (h2 e)
  · exact absurd h2 (h1 e')
  · rfl
theorem run_whole {L : Nat → List ByteArray} {x : List Tok} {e : Ex} (h : MayIs x e) : RunIs L x (runS L x [] 0) := by
  refine .inl ⟨e, h, ?_⟩
  have := run_post (L := L) h.1 [] [] 0
  rw [List.append_nil, ← h.2.1] at this
  rw [this]
  cases evalE L e with
  | ok s => simp [runS]
  | error y => simp
/-- what Read answers by a table -/
def Read6 (L : Nat → List ByteArray) (s : List UInt8) (r : List ByteArray × Nat × Int) : Prop :=
  ∃ x n q, ParseIs s x n q ∧ ((q ≠ 0 ∧ r = ([], n, q)) ∨ (q = 0 ∧ ∃ r', RunIs L x r' ∧ r = (r'.1, 0, r'.2.2)))
theorem Read6.unique {L : Nat → List ByteArray} {s : List UInt8} {r r' : List ByteArray × Nat × Int} (h : Read6 L s r) (h' : Read6 L s r') : r = r' := by
  obtain ⟨x, n, q, h1, h2⟩ := h
  obtain ⟨x', n', q', h3, h4⟩ := h'
  obtain ⟨rfl, rfl, rfl⟩ := h1.unique h3
  rcases h2 with ⟨hq, rfl⟩ | ⟨hq, r1, hr, rfl⟩ <;> rcases h4 with ⟨hq', rfl⟩ | ⟨hq', r2, hr', rfl⟩
  · rfl
  · exact absurd hq' hq
  · exact absurd hq hq'
  · rw [hr.unique hr']
/-- how an atom is said by a table; nothing: it isn't -/
def sayA (L : Nat → List ByteArray) (a : Int) : List UInt8 := wordS ⟨1, bs ((Atm.nameOf L a).getD ⟨#[]⟩), a / 8192⟩
/-- atoms one behind another -/
def sayW (L : Nat → List ByteArray) : Bool → Bool → List Int → Option (List UInt8)
  | _, _, [] => some []
  | only, first, a :: r =>
    if sayA L a = [] then none
    else (sayW L (only && (first || decide (a / 8192 = 5))) false r).map fun x =>
      (if first = true then [] else if (only && decide (a / 8192 = 5)) = true then [32, 97, 115, 32] else [32, 124, 32]) ++ (sayA L a ++ x)
/-- words one behind another -/
def sayL (L : Nat → List ByteArray) : Bool → List ByteArray → Option (List UInt8)
  | _, [] => some []
  | first, w :: r => match sayW L true true (atoms (bs w)) with
    | none => none
    | some x => (sayL L false r).map fun y => (if first = true then [] else [32, 97, 110, 100, 32]) ++ (x ++ y)
/-- what Show answers by a table -/
def showL (L : Nat → List ByteArray) (s : List ByteArray) : List UInt8 × Int :=
  if mayL s = false then ([], 2) else match sayL L true s with
    | some x => (x, 0)
    | none => ([], 10)

open Go.RowKit Go.ChangeShapes Go.WideShapes
set_option maxRecDepth 20000
/-- a row of sets of the call's own; the sets lie beside it -/
def SetsRow (w wr : World) (v : Value) (ls : List (List ByteArray)) : Prop :=
  ∃ vs : List Value, wr.ownsRow w.heap.size 33 1 v ls.length vs ∧ Kept w wr ∧ vs.length = ls.length ∧ ∀ (i : Nat) (x : List ByteArray) (u : Value), ls[i]? = some x → vs[i]? = some u → Reads wr (fun g => v.ownBlock ≠ some g) u (wcells x)
theorem Reads.strong {w : World} {G : Nat → Prop} {v : Value} {l : List Value} (h : Reads w G v l) : Reads w (fun g => G g ∧ g < w.heap.size) v l := by
  obtain ⟨ao, c, hv, hc, hx⟩ := h
  refine ⟨ao, c, hv, hc, fun i x hi => ?_⟩
  obtain ⟨g, off, h1, h2, h3⟩ := hx i x hi
  refine ⟨g, off, h1, ⟨h2, ?_⟩, h3⟩
  rcases Nat.lt_or_ge g w.heap.size with h | h
  · exact h
  · simp [World.cell?, Array.getElem?_eq_none h] at h3
theorem sets_nil {w wr : World} (hk : Kept w wr) : SetsRow w wr (.slice none 0 0) [] := ⟨[], own_nil _ _ _ _, hk, rfl, fun i x u h => by simp at h⟩
theorem sets_new {w wr : World} {g : Nat} (hk : Kept w wr) (h : wr.heap[g]? = some (.cells #[] 33 (0, 0))) (hg : w.heap.size ≤ g) : SetsRow w wr (.slice (some ⟨g, 0, none⟩) 0 0) [] :=
  ⟨[], own_new h hg, hk, rfl, fun i x u h => by simp at h⟩
theorem SetsRow.kept {w wr w1 : World} {v : Value} {ls : List (List ByteArray)} (h : SetsRow w wr v ls) (hk : Kept wr w1) : SetsRow w w1 v ls := by
  obtain ⟨vs, h1, h2, h3, h4⟩ := h
  exact ⟨vs, own_kept h1 hk, h2.trans hk, h3, fun i x u hx hu => (h4 i x u hx hu).new hk⟩
theorem SetsRow.form {w wr : World} {v : Value} {ls : List (List ByteArray)} (h : SetsRow w wr v ls) : ∃ ao c, v = .slice ao ls.length c ∧ ls.length ≤ c := by
  obtain ⟨vs, h1, _⟩ := h
  exact own_slice h1
/-- the cells of a row of sets -/
theorem SetsRow.cell {w wr : World} {v : Value} {ls : List (List ByteArray)} (h : SetsRow w wr v ls) (hn : ls.length ≠ 0) :
    ∃ g cap, v = .slice (some ⟨g, 0, none⟩) ls.length cap ∧ ls.length ≤ cap ∧ w.heap.size ≤ g ∧ g < wr.heap.size ∧ ∀ i x, ls[i]? = some x → ∃ u, wr.cell? ⟨g, i, none⟩ = some u ∧ Reads wr (fun g' => g' ≠ g) u (wcells x) := by
  obtain ⟨vs, h1, h2, h3, h4⟩ := h
  obtain ⟨g, cap, rfl, hc⟩ := own_some h1 hn
  refine ⟨g, cap, rfl, hc, (own_lt h1 (by simp [Value.ownBlock])).1, (own_lt h1 (by simp [Value.ownBlock])).2, fun i x hx => ?_⟩
  have hi := (List.getElem?_eq_some_iff.1 hx).1
  obtain ⟨u, hu⟩ : ∃ u, vs[i]? = some u := ⟨_, List.getElem?_eq_getElem (by omega)⟩
  exact ⟨u, own_at1 h1 hu, (h4 i x u hx hu).mono (fun g' hg e => hg (by simp [Value.ownBlock, e]))⟩
theorem own_one {w : World} {base n size : Nat} {e : TypeId} {v : Value} {xs ys : List Value} (h : w.ownsRow base e size v n xs) (h' : w.ownsRow base e size v n ys) : xs = ys := by
  have hx := h.1
  have hy := h'.1
  rcases h.2 with ⟨_, h0⟩ | ⟨g, cap, cur, hv, _, hg, _, _, _, ht⟩
  · subst h0
    simp at hx hy
    rw [hx, hy]
  · rcases h'.2 with ⟨hv', h0⟩ | ⟨g', cap', cur', hv', _, hg', _, _, _, ht'⟩
    · subst h0
      simp at hx hy
      rw [hx, hy]
    · rw [hv] at hv'
      cases hv'
      rw [hg] at hg'
      cases hg'
      rw [← ht, ← ht']
/-- one set more -/
theorem SetsRow.push {w wr w1 : World} {v v1 u : Value} {ls : List (List ByteArray)} {x : List ByteArray} {vs : List Value} (h : SetsRow w wr v ls)
    (ho : wr.ownsRow w.heap.size 33 1 v ls.length vs) (hr : Reads wr (fun g => v.ownBlock ≠ some g) u (wcells x)) (hp : AppPost wr w.heap.size 33 1 v (ls.length + 1) (vs ++ [u]) v1 w1) : SetsRow w w1 v1 (ls ++ [x]) := by
  obtain ⟨vs0, h1, h2, h3, h4⟩ := h
  have hv : ∀ g, v.ownBlock = some g → w.heap.size ≤ g := fun g hg => (own_lt h1 hg).1
  have hvs : vs = vs0 := own_one ho h1
  subst hvs
  have hst : ∀ {u : Value} {x : List ByteArray}, Reads wr (fun g => v.ownBlock ≠ some g) u (wcells x) → Reads w1 (fun g => v1.ownBlock ≠ some g) u (wcells x) := fun hr => by
    refine ((hr.strong).kept (Fr.of_grown hp.2.1) (fun k h1 h2 => h1.1 h2)).mono (fun g hg e => ?_)
    rcases hp.2.2 g e with h | h
    · exact hg.1 h
    · omega
  refine ⟨vs ++ [u], by have := hp.1; rw [List.length_append]; exact this, (hp.kept h2 hv).1, by simp [h3], fun i y t hy ht => ?_⟩
  rcases Nat.lt_or_ge i ls.length with hi | hi
  · rw [List.getElem?_append_left hi] at hy
    rw [List.getElem?_append_left (by omega)] at ht
    exact hst (h4 i y t hy ht)
  · rw [List.getElem?_append_right hi] at hy
    rw [List.getElem?_append_right (by omega), h3] at ht
    have hi0 : i - ls.length = 0 := by
      have := (List.getElem?_eq_some_iff.1 hy).1
      simp at this
      omega
    rw [hi0] at hy ht
    simp at hy ht
    subst hy
    subst ht
    exact hst hr
/-- the row cut short -/
theorem SetsRow.cut {w wr : World} {ls ms : List (List ByteArray)} {g cap : Nat} (h : SetsRow w wr (.slice (some ⟨g, 0, none⟩) (ls ++ ms).length cap) (ls ++ ms)) : SetsRow w wr (.slice (some ⟨g, 0, none⟩) ls.length cap) ls := by
  obtain ⟨vs, h1, h2, h3, h4⟩ := h
  refine ⟨vs.take ls.length, own_cut1 h1 (by simp), h2, by rw [List.length_take, h3]; simp, fun i x u hx hu => ?_⟩
  have hi := (List.getElem?_eq_some_iff.1 hx).1
  rw [List.getElem?_take, if_pos hi] at hu
  exact (h4 i x u (by rw [List.getElem?_append_left hi]; exact hx) hu).mono (fun g' hg => by simpa [Value.ownBlock] using hg)
/-- a new row that holds the first sets of another -/
theorem SetsRow.copy {w wr W : World} {v v2 : Value} {ls ms : List (List ByteArray)} {vs : List Value} (h : SetsRow w wr v (ls ++ ms)) (hv : wr.ownsRow w.heap.size 33 1 v (ls ++ ms).length vs) (hk : Kept wr W)
    (ho : W.ownsRow w.heap.size 33 1 v2 ls.length (vs.take ls.length)) (hb : ∀ g, v2.ownBlock = some g → wr.heap.size ≤ g) : SetsRow w W v2 ls := by
  obtain ⟨vs0, h1, h2, h3, h4⟩ := h
  have hvs : vs = vs0 := own_one hv h1
  subst hvs
  refine ⟨_, ho, h2.trans hk, by rw [List.length_take, h3]; simp, fun i x u hx hu => ?_⟩
  have hi := (List.getElem?_eq_some_iff.1 hx).1
  rw [List.getElem?_take, if_pos hi] at hu
  have := (h4 i x u (by rw [List.getElem?_append_left hi]; exact hx) hu).strong
  exact (this.new hk).mono (fun g hg e => by have := hb g e; have := hg.2; omega)
/-- where a row's values lie -/
theorem SetsRow.vals {w wr : World} {v : Value} {ls : List (List ByteArray)} (h : SetsRow w wr v ls) : ∃ vs, wr.ownsRow w.heap.size 33 1 v ls.length vs ∧ vs.length = ls.length := by
  obtain ⟨vs, h1, _, h3, _⟩ := h
  exact ⟨vs, h1, h3⟩
theorem Tryz.infoSet : (Tryz.prog.info? 33).map (fun i => (i.zero, i.size, i.bytes)) = some (some (.slice none 0 0), 1, 24) := by kernel_rfl
theorem Tryz.sliceSet : SliceOf Tryz.prog 69 33 (.slice none 0 0) 1 24 := slice_of Tryz.underlying69 Tryz.infoSet rfl (by decide)
theorem SetsRow.one {w wr : World} {v : Value} {ls : List (List ByteArray)} {vs : List Value} (h : SetsRow w wr v ls) (hv : wr.ownsRow w.heap.size 33 1 v ls.length vs) : ∀ u ∈ vs, u.oneCell' = true := fun u hu => by
  obtain ⟨vs0, h1, h2, h3, h4⟩ := h
  have hvs : vs = vs0 := own_one hv h1
  subst hvs
  obtain ⟨i, hi, rfl⟩ := List.getElem_of_mem hu
  obtain ⟨ao, c, he, _⟩ := h4 i ls[i] vs[i] (List.getElem?_eq_getElem (by omega)) (List.getElem?_eq_getElem hi)
  rw [he]
  rfl
/-- the first sets as a source -/
theorem SetsRow.src {P : Program} {w wr W : World} {ls ms : List (List ByteArray)} {vs : List Value} {g cap : Nat} (h : SetsRow w wr (.slice (some ⟨g, 0, none⟩) (ls ++ ms).length cap) (ls ++ ms)) (hv : wr.ownsRow w.heap.size 33 1 (.slice (some ⟨g, 0, none⟩) (ls ++ ms).length cap) (ls ++ ms).length vs) (hk : Kept wr W) {tx e' : TypeId} (ht : P.underlying tx = some (.slice e')) :
    Src P 1 tx (.slice (some ⟨g, 0, none⟩) ls.length cap) ls.length (vs.take ls.length) W := by
  have hl : vs.length = (ls ++ ms).length := by obtain ⟨vs0, h1, _, h3, _⟩ := h; rw [own_one hv h1]; exact h3
  have h2 := (Reads.of_row (own_cut1 (k := ls.length) hv (by simp))).new hk
  have h3 := h2.src ht (fun u hu => h.one hv u (List.mem_of_mem_take hu))
  have h4 : (vs.take ls.length).length = ls.length := by rw [List.length_take, hl]; simp
  rw [h4] at h3
  exact h3
theorem SetsRow.again {w wr W5 w7 : World} {v v1 : Value} {ls ms : List (List ByteArray)} {vs : List Value} (h : SetsRow w wr v (ls ++ ms)) (hv : wr.ownsRow w.heap.size 33 1 v (ls ++ ms).length vs) (hk : Kept wr W5)
    (hp : AppPost (W5.alloc (.cells #[] 33)) w.heap.size 33 1 (.slice (some ⟨W5.heap.size, 0, none⟩) 0 0) (0 + ls.length) ([] ++ vs.take ls.length) v1 w7) :
    SetsRow w w7 v1 ls ∧ Kept W5 w7 ∧ ∀ g, v1.ownBlock = some g → W5.heap.size ≤ g := by
  have hk7 : Kept W5 w7 := (Fr.of_alloc (fun _ => False) W5 (.cells #[] 33)).over (Fr.of_grown hp.2.1) (fun k e => by simp [Value.ownBlock] at e; omega)
  have hb : ∀ g, v1.ownBlock = some g → W5.heap.size ≤ g := fun g hg => by
    rcases hp.2.2 g hg with h | h
    · simp [Value.ownBlock] at h; omega
    · rw [World.size_alloc] at h; omega
  have h1 := hp.1
  rw [Nat.zero_add, List.nil_append] at h1
  exact ⟨h.copy hv (hk.trans hk7) h1 (fun g hg => Nat.le_trans hk.size (hb g hg)), hk7, hb⟩
theorem SetsRow.last {w W5 w7 w9 : World} {v1 v2 u : Value} {ls : List (List ByteArray)} {x : List ByteArray} {vs : List Value} {b : Nat} (h : SetsRow w w7 v1 ls) (hk : Kept W5 w7) (hb : ∀ g, v1.ownBlock = some g → W5.heap.size ≤ g)
    (hs : W5.ownsRow b 43 1 u x.length (wcells x)) {o : Obj} (hv : (w7.alloc o).ownsRow w.heap.size 33 1 v1 ls.length vs) (hp : AppPost (w7.alloc o) w.heap.size 33 1 v1 (ls.length + 1) (vs ++ [u]) v2 w9) : SetsRow w w9 v2 (ls ++ [x]) := by
  have hr := ((Reads.of_row hs).strong).new (hk.trans (Fr.of_alloc (fun _ => False) w7 o))
  exact (h.kept (Fr.of_alloc _ w7 o)).push hv (hr.mono (fun g hg e => by have := hb g e; have := hg.2; omega)) hp
theorem two_last {α : Type} {l : List α} (h : 2 ≤ l.length) : ∃ f a b, l = f ++ [a, b] := by
  rcases List.eq_nil_or_concat l with rfl | ⟨f, b, rfl⟩
  · simp at h
  · rcases List.eq_nil_or_concat f with rfl | ⟨e, a, rfl⟩
    · simp at h
    · exact ⟨e, a, b, by simp⟩
theorem may_bounds {a : List ByteArray} (h : mayL a = true) : a.length ≤ 100000 ∧ Small 100000 a := by
  obtain ⟨⟨_, h2⟩, h3, _⟩ := mayL_iff.1 h
  exact ⟨by omega, fun s hs => by have := (mayS_size (h3 s hs)).2.2.1; omega⟩

open Go.RowKit Go.ChangeShapes Go.WideShapes
set_option maxRecDepth 20000
/-- a table's names, as they are kept -/
structure TabL (L : Nat → List ByteArray) : Prop where
  nodup : ∀ k, (L k).Nodup
  few : ∀ k, (L k).length ≤ 4000
theorem atom_of {t : Tok} (h : AtomOk t) : (t.of = 0 ∧ t.name = [68]) ∨ (1 ≤ t.of ∧ t.of ≤ 5) := by
  have h2 := h.2
  unfold wordS at h2
  rw [if_pos h.1] at h2
  split at h2
  · rename_i hm; exact .inl hm
  · split at h2
    · rename_i hm; exact .inr hm.2.1
    · exact absurd rfl h2
theorem num_get {L : Nat → List ByteArray} (hL : TabL L) {k : Int} {s : ByteArray} (h : Atm.numS L k s ≠ 0) : (1 ≤ k ∧ k ≤ 5) ∧ Atm.numS L k s ≤ 4000 ∧ (L k.toNat)[Atm.numS L k s - 1]? = some s := by
  unfold Atm.numS at h ⊢
  split at h
  · rename_i hk
    rw [if_pos hk]
    refine ⟨hk, Nat.le_trans Atm.posOf_le (hL.few _), ?_⟩
    obtain ⟨n, hn⟩ : ∃ n, Atm.posOf (L k.toNat) s = n + 1 := ⟨Atm.posOf (L k.toNat) s - 1, by omega⟩
    rw [hn]
    exact Atm.posOf_get hn
  · exact absurd rfl h
theorem term_atom {L : Nat → List ByteArray} (hL : TabL L) {t : Tok} {a : Int} (ht : AtomOk t) (h : termA L t = some a) : 1 ≤ a ∧ a ≤ 65535 ∧ a / 8192 = t.of ∧ Atm.nameOf L a = some (strOf t.name) := by
  unfold termA at h
  split at h
  · rename_i h0
    cases h
    rcases atom_of ht with ⟨_, hn⟩ | hx
    · exact ⟨by omega, by omega, by rw [h0]; decide, by unfold Atm.nameOf; rw [if_pos rfl, hn]; rfl⟩
    · omega
  · split at h
    · cases h
    · rename_i h0 hn
      cases h
      obtain ⟨hk, h4, hg⟩ := num_get hL hn
      generalize Atm.numS L t.of (strOf t.name) = n at *
      have e1 : (t.of * 8192 + (n : Int)) / 8192 = t.of := by omega
      have e2 : (t.of * 8192 + (n : Int)) % 8192 = n := by omega
      refine ⟨by omega, by omega, e1, ?_⟩
      unfold Atm.nameOf
      rw [if_neg (by omega), e1, e2, if_pos ⟨hk.1, hk.2, by omega⟩]
      simpa using hg
theorem term_say {L : Nat → List ByteArray} (hL : TabL L) {t : Tok} {a : Int} (ht : AtomOk t) (h : termA L t = some a) : sayA L a = wordS t := by
  obtain ⟨_, _, h3, h4⟩ := term_atom hL ht h
  unfold sayA
  rw [h4, h3]
  show wordS ⟨1, bs (strOf t.name), t.of⟩ = _
  rw [bs_strOf, ← ht.1]
/-- the term of an atom -/
def termT (L : Nat → List ByteArray) (a : Int) : Tok := ⟨1, bs ((Atm.nameOf L a).getD ⟨#[]⟩), a / 8192⟩
theorem say_term {L : Nat → List ByteArray} {a : Int} (h : sayA L a ≠ []) : AtomOk (termT L a) := ⟨rfl, h⟩
theorem say_back {L : Nat → List ByteArray} (hL : TabL L) {a : Int} (h : sayA L a ≠ []) : termA L (termT L a) = some a := by
  have hok := say_term h
  rcases atom_of hok with ⟨h0, hn⟩ | ⟨h1, h5⟩
  · have h0' : a / 8192 = 0 := h0
    have hn' : bs ((Atm.nameOf L a).getD ⟨#[]⟩) = [68] := hn
    have ha : a = 1 := by
      by_cases e : a = 1
      · exact e
      · exfalso
        unfold Atm.nameOf at hn'
        rw [if_neg e, if_neg (by omega)] at hn'
        cases hn'
    unfold termA
    rw [if_pos h0, ha]
  · have h1' : 1 ≤ a / 8192 := h1
    have h5' : a / 8192 ≤ 5 := h5
    have hne : a ≠ 1 := by rintro rfl; revert h1'; decide
    have hmod : 1 ≤ a % 8192 ∧ ∃ s, (L (a / 8192).toNat)[(a % 8192).toNat - 1]? = some s := by
      have hw := hok.2
      by_cases hm : 1 ≤ a % 8192
      · refine ⟨hm, ?_⟩
        cases hg : (L (a / 8192).toNat)[(a % 8192).toNat - 1]? with
        | some s => exact ⟨s, rfl⟩
        | none =>
          exfalso
          have e : Atm.nameOf L a = none := by unfold Atm.nameOf; rw [if_neg hne, if_pos ⟨h1', h5', hm⟩, hg]
          apply hw
          unfold termT
          rw [e]
          unfold wordS
          rw [if_pos rfl, if_neg (by rintro ⟨hx, _⟩; have : a / 8192 = 0 := hx; omega), if_neg (by rintro ⟨hx, _⟩; have h0 : tMay [] = true := hx; revert h0; decide)]
      · exfalso
        have e : Atm.nameOf L a = none := by unfold Atm.nameOf; rw [if_neg hne, if_neg (fun x => hm x.2.2)]
        apply hw
        unfold termT
        rw [e]
        unfold wordS
        rw [if_pos rfl, if_neg (by rintro ⟨hx, _⟩; have : a / 8192 = 0 := hx; omega), if_neg (by rintro ⟨hx, _⟩; have h0 : tMay [] = true := hx; revert h0; decide)]
    obtain ⟨hm, s, hs⟩ := hmod
    have e : Atm.nameOf L a = some s := by unfold Atm.nameOf; rw [if_neg hne, if_pos ⟨h1', h5', hm⟩, hs]
    have hname : strOf (termT L a).name = s := by unfold termT; rw [e]; exact strOf_bs s
    have hof : (termT L a).of = a / 8192 := rfl
    have hp := Atm.posOf_some (hL.nodup _) hs
    have hnum : Atm.numS L (a / 8192) s = (a % 8192).toNat := by unfold Atm.numS; rw [if_pos ⟨h1', h5'⟩, hp]; omega
    unfold termA
    rw [hname, hof, if_neg (by omega), hnum, if_neg (by omega)]
    congr 1
    omega
theorem may_word {a : Int} (h1 : 1 ≤ a) (h2 : a ≤ 65535) : mayS (ofS [a]) = true := by
  have hg : Good [a] := fun x hx => by simp at hx; subst hx; omega
  unfold mayS
  have hs : (ofS [a]).size = 2 := by rw [ofS_size]; rfl
  have ht : tornB (ofS [a]) = false := by unfold tornB; rw [hs]; decide
  rw [ht, hs, bs_ofS, atoms_unatoms _ hg]
  simp
  omega
theorem may_single {x : ByteArray} (h : mayS x = true) : mayL [x] = true := by
  rw [mayL_iff]
  exact ⟨by simp, fun y hy => by simp at hy; subst hy; exact h, by simp [Rising]⟩
theorem quote_one {x y : ByteArray} (hx : mayS x = true) (hy : mayS y = true) (h : x.size + y.size ≤ 16) : quoteL [x] [y] = ([x ++ y], 0) := by
  rw [quoteL_may (may_single hx) (may_single hy)]
  have hc : crossL [x] [y] = [x ++ y] := by simp [crossL]
  rw [hc, if_neg (by unfold longB; simp; omega), right_self (by simp [Rising])]
  exact boundL_ok (by simp)
theorem opL_may {k : Int} {a b s : List ByteArray} (ha : mayL a = true) (hb : mayL b = true) (h : opL k a b = (s, 0)) : mayL s = true := by
  unfold opL at h
  split at h
  · exact (and_zero ha hb h).2
  · split at h
    · obtain ⟨q, d, hf⟩ := for_zero ha hb h
      exact (and_zero (quote_zero ha hb hf.fq).2.2 (quote_zero may_d hb hf.fd).2.2 hf.all).2
    · split at h
      · exact (quote_zero ha hb h).2.2
      · unfold asL at h
        rw [if_neg (by simp [ha])] at h
        split at h
        · cases h
        · rename_i hr
          have hr2 : atS ((b.head?).getD ⟨#[]⟩) 0 / 8192 = 5 := by simpa using hr
          have hg := atS_good ((b.head?).getD ⟨#[]⟩) 0
          exact (quote_zero ha (may_single (may_word (by omega) hg.2)) h).2.2
theorem eval_may {L : Nat → List ByteArray} (hL : TabL L) : ∀ {e : Ex} {s : List ByteArray}, e.Ok → evalE L e = .ok s → mayL s = true
  | .atom t, s, h, he => by
    rw [evalE] at he
    cases ha : termA L t with
    | none => rw [ha] at he; cases he
    | some a =>
      rw [ha] at he
      cases he
      obtain ⟨h1, h2, _⟩ := term_atom hL h ha
      exact may_single (may_word h1 h2)
  | .bin k a b, s, h, he => by
    rw [evalE] at he
    cases ha : evalE L a with
    | error x => rw [ha] at he; cases he
    | ok x =>
      rw [ha] at he
      cases hb : evalE L b with
      | error y => obtain ⟨p, q⟩ := y; rw [hb] at he; cases he
      | ok y =>
        rw [hb] at he
        simp only [] at he
        by_cases h0 : (opL k x y).2 = 0
        · rw [if_pos h0] at he
          cases he
          exact opL_may (eval_may hL h.2.1 ha) (eval_may hL h.2.2.1 hb) (Prod.ext rfl h0)
        · rw [if_neg h0] at he; cases he
/-- every atom of a word can be said -/
def Says (L : Nat → List ByteArray) (w : ByteArray) : Prop := ∀ a ∈ atoms (bs w), sayA L a ≠ []
theorem says_append {L : Nat → List ByteArray} {x y : ByteArray} (hx : Says L x) (hy : Says L y) (h : x.size % 2 = 0) : Says L (x ++ y) := fun a ha => by
  rw [bs_append, atoms_append _ _ (by rw [bs_len]; exact h)] at ha
  rcases List.mem_append.1 ha with ha | ha
  · exact hx a ha
  · exact hy a ha
theorem says_d (L : Nat → List ByteArray) : Says L (ofS [1]) := fun a ha => by
  rw [bs_ofS, atoms_unatoms _ (fun x hx => by simp at hx; subst hx; omega)] at ha
  simp at ha
  subst ha
  unfold sayA Atm.nameOf
  rw [if_pos rfl]
  decide
theorem says_cross {L : Nat → List ByteArray} {a b s : List ByteArray} (ha : mayL a = true) (hb : mayL b = true) (h : quoteL a b = (s, 0)) (sa : ∀ x ∈ a, Says L x) (sb : ∀ x ∈ b, Says L x) : ∀ x ∈ s, Says L x := fun x hx => by
  obtain ⟨rfl, _, _⟩ := quote_zero ha hb h
  obtain ⟨p, hp, q, hq, rfl⟩ := cross_mem.1 ((mem_right x _).1 hx)
  exact says_append (sa p hp) (sb q hq) (mayS_size (may_words ha p hp)).1
theorem says_and {L : Nat → List ByteArray} {a b s : List ByteArray} (ha : mayL a = true) (hb : mayL b = true) (h : andL a b = (s, 0)) (sa : ∀ x ∈ a, Says L x) (sb : ∀ x ∈ b, Says L x) : ∀ x ∈ s, Says L x := fun x hx => by
  obtain ⟨rfl, _⟩ := and_zero ha hb h
  rcases List.mem_append.1 ((mem_right x _).1 hx) with hx | hx
  · exact sa x hx
  · exact sb x hx
theorem eval_says {L : Nat → List ByteArray} (hL : TabL L) : ∀ {e : Ex} {s : List ByteArray}, e.Ok → evalE L e = .ok s → ∀ w ∈ s, Says L w
  | .atom t, s, h, he => by
    rw [evalE] at he
    cases ha : termA L t with
    | none => rw [ha] at he; cases he
    | some a =>
      rw [ha] at he
      cases he
      obtain ⟨h1, h2, _⟩ := term_atom hL h ha
      intro w hw b hb
      simp at hw
      subst hw
      rw [bs_ofS, atoms_unatoms _ (fun x hx => by simp at hx; subst hx; omega)] at hb
      simp at hb
      subst hb
      rw [term_say hL h ha]
      exact h.2
  | .bin k a b, s, h, he => by
    rw [evalE] at he
    cases ha : evalE L a with
    | error x => rw [ha] at he; cases he
    | ok x =>
      rw [ha] at he
      cases hb : evalE L b with
      | error y => obtain ⟨p, q⟩ := y; rw [hb] at he; cases he
      | ok y =>
        rw [hb] at he
        simp only [] at he
        by_cases h0 : (opL k x y).2 = 0
        · rw [if_pos h0] at he
          cases he
          have ma := eval_may hL h.2.1 ha
          have mb := eval_may hL h.2.2.1 hb
          have sa := eval_says hL h.2.1 ha
          have sb := eval_says hL h.2.2.1 hb
          have ho : opL k x y = ((opL k x y).1, 0) := Prod.ext rfl h0
          generalize (opL k x y).1 = s at *
          unfold opL at ho
          split at ho
          · exact says_and ma mb ho sa sb
          · split at ho
            · obtain ⟨q, d, hf⟩ := for_zero ma mb ho
              have mq := (quote_zero ma mb hf.fq).2.2
              have md := (quote_zero may_d mb hf.fd).2.2
              exact says_and mq md hf.all (says_cross ma mb hf.fq sa sb) (says_cross may_d mb hf.fd (fun z hz => by simp at hz; subst hz; exact says_d L) sb)
            · split at ho
              · exact says_cross ma mb ho sa sb
              · rename_i k2 k3 k4
                have hk5 : k = 5 := by rcases bind_cases h.1 with rfl | rfl | rfl | rfl <;> first | rfl | contradiction
                obtain ⟨t, rfl, hrole⟩ := h.2.2.2 hk5
                unfold asL at ho
                rw [if_neg (by simp [ma])] at ho
                split at ho
                · cases ho
                · rename_i hr
                  have hr2 : atS ((y.head?).getD ⟨#[]⟩) 0 / 8192 = 5 := by simpa using hr
                  have hg := atS_good ((y.head?).getD ⟨#[]⟩) 0
                  -- what the role says is the right part's word
                  rw [evalE] at hb
                  cases hta : termA L t with
                  | none => rw [hta] at hb; cases hb
                  | some c =>
                    rw [hta] at hb
                    cases hb
                    obtain ⟨c1, c2, _⟩ := term_atom hL h.2.2.1 hta
                    have e1 : atS (([ofS [c]].head?).getD ⟨#[]⟩) 0 = c := by
                      have : (atoms (bs (ofS [c])))[0]? = some c := by rw [bs_ofS, atoms_unatoms _ (fun x hx => by simp at hx; subst hx; omega)]; rfl
                      exact atS_get (i := 0) this
                    rw [e1] at ho
                    exact says_cross ma mb ho sa sb
        · rw [if_neg h0] at he; cases he

end Go.Proofs.YtbfealhbdemhmaaGreatDoor
