/- Contracts and lemmas: K3 -/
import Derived.Test.YtdapdpmplbifdaaDoorK2
namespace Go.Proofs.YtdapdpmplbifdaaDoor
set_option linter.unusedVariables false
set_option linter.unusedSimpArgs false
/-- the part that a row of signs begins with -/
def PT.prim : PT → PT
  | .atom t => .atom t
  | .par p => .par p
  | .bin _ a _ => a.prim
/-- the signs that follow, each with its right part -/
def PT.tail : PT → List (Int × PT)
  | .atom _ => []
  | .par _ => []
  | .bin op a b => a.tail ++ [(op, b)]
def tailT : List (Int × PT) → List Tok
  | [] => []
  | (op, b) :: r => opT op :: (b.toks ++ tailT r)
def tailX : List (Int × PT) → List Tok
  | [] => []
  | (op, b) :: r => b.ex.post ++ opT op :: tailX r
theorem tailT_append : ∀ a b : List (Int × PT), tailT (a ++ b) = tailT a ++ tailT b
  | [], b => rfl
  | (op, p) :: r, b => by simp [tailT, tailT_append r b]
theorem tailX_append : ∀ a b : List (Int × PT), tailX (a ++ b) = tailX a ++ tailX b
  | [], b => rfl
  | (op, p) :: r, b => by simp [tailX, tailX_append r b]
theorem PT.toks_spine : ∀ p : PT, p.toks = p.prim.toks ++ tailT p.tail
  | .atom t => by simp [PT.prim, PT.tail, tailT]
  | .par p => by simp [PT.prim, PT.tail, tailT]
  | .bin op a b => by
    have ih := PT.toks_spine a
    rw [PT.toks, ih]
    simp [PT.prim, PT.tail, tailT_append, tailT]
theorem PT.post_spine : ∀ p : PT, p.ex.post = p.prim.ex.post ++ tailX p.tail
  | .atom t => by simp [PT.prim, PT.tail, tailX]
  | .par p => by simp [PT.prim, PT.tail, tailX]
  | .bin op a b => by
    have ih := PT.post_spine a
    rw [PT.ex, Ex.post, ih]
    simp [PT.prim, PT.tail, tailX_append, tailX]
def headLe (u : Nat) : List (Int × PT) → Prop
  | [] => True
  | (o, _) :: _ => bindS o ≤ u
def TailOk (v : Nat) : List (Int × PT) → Prop
  | [] => True
  | (op, b) :: r => v ≤ bindS op ∧ bindS op ≠ 0 ∧ b.Ok ∧ bindS op < b.lev ∧ headLe (bindS op) r ∧ TailOk v r
theorem tailOk_mono {u v : Nat} (h : v ≤ u) : ∀ {l : List (Int × PT)}, TailOk u l → TailOk v l
  | [], _ => trivial
  | (op, b) :: r, ⟨h1, h2, h3, h4, h5, h6⟩ => ⟨Nat.le_trans h h1, h2, h3, h4, h5, tailOk_mono h h6⟩
theorem tailOk_append {op : Int} {b : PT} (hb : bindS op ≠ 0) (ho : b.Ok) (hl : bindS op < b.lev) : ∀ {l : List (Int × PT)}, TailOk (bindS op) l → TailOk (bindS op) (l ++ [(op, b)])
  | [], _ => ⟨Nat.le_refl _, hb, ho, hl, trivial, trivial⟩
  | (o, p) :: r, ⟨h1, h2, h3, h4, h5, h6⟩ => by
    refine ⟨h1, h2, h3, h4, ?_, tailOk_append hb ho hl h6⟩
    cases r with
    | nil => exact h1
    | cons y r => exact h5
theorem tail_ok : ∀ {p : PT} {v : Nat}, p.Ok → v ≤ p.lev → TailOk v p.tail
  | .atom t, v, _, _ => trivial
  | .par p, v, _, _ => trivial
  | .bin op a b, v, h, hv => by
    have ih := tail_ok (p := a) h.2.2.2.1 h.2.1
    exact tailOk_mono hv (tailOk_append h.1 h.2.2.2.2.1 h.2.2.1 ih)
/-- where the terms of a part end -/
def StopAt (v : Nat) (r : List Tok) : Prop := ∀ t s, r = t :: s → kbind t.kind < v
theorem kbind_op {k : Int} (h : bindS k ≠ 0) : kbind k = bindS k := by
  unfold kbind
  split
  · rename_i e; rw [e] at h; exact absurd rfl h
  · rfl
theorem stop_tail {u v : Nat} {l : List (Int × PT)} {r : List Tok} (h1 : headLe u l) (hr : StopAt v r) (hv : v ≤ u) (hl : TailOk v l) : StopAt (u + 1) (tailT l ++ r) := by
  intro t s he
  cases l with
  | nil => have := hr t s he; omega
  | cons y l =>
    obtain ⟨o, b⟩ := y
    simp only [tailT, List.cons_append, List.cons.injEq] at he
    obtain ⟨rfl, _⟩ := he
    show kbind o < u + 1
    rw [kbind_op hl.2.1]
    have : bindS o ≤ u := h1
    omega
theorem stop_close (r : List Tok) : StopAt 1 (opT 7 :: r) := by
  intro t s he
  simp only [List.cons.injEq] at he
  obtain ⟨rfl, _⟩ := he
  decide
theorem PT.prim_cases : ∀ {p : PT}, p.Ok → (∃ t, p.prim = .atom t ∧ AtomOk t) ∨ (∃ q, p.prim = .par q ∧ q.Ok)
  | .atom t, h => .inl ⟨t, rfl, h⟩
  | .par q, h => .inr ⟨q, rfl, h⟩
  | .bin op a b, h => PT.prim_cases (p := a) h.2.2.2.1
theorem post_le (p : PT) : p.ex.post.length ≤ p.toks.length := by have := PT.len p; omega

open Go.RowKit Go.ChangeShapes Go.WideShapes
/-- a block of one cell -/
def One (w : World) (g : Nat) (v : Value) : Prop := ∃ t, w.heap[g]? = some (.cells #[v] t (0, 0))
theorem One.cell {w : World} {g : Nat} {v : Value} (h : One w g v) : w.cell? ⟨g, 0, none⟩ = some v := by obtain ⟨t, h⟩ := h; rw [cell_whole h]; rfl
theorem One.fz {w : World} {g : Nat} {v : Value} (h : One w g v) : w.frozen? ⟨g, 0, none⟩ = false := by obtain ⟨t, h⟩ := h; simp [World.frozen?, h]
theorem One.lt {w : World} {g : Nat} {v : Value} (h : One w g v) : g < w.heap.size := by obtain ⟨t, h⟩ := h; exact (Array.getElem?_eq_some_iff.1 h).1
theorem One.fr {F : Nat → Prop} {w w' : World} {g : Nat} {v : Value} (h : One w g v) (hk : Fr F w w') (hF : ¬ F g) : One w' g v := by
  have hl := h.lt
  obtain ⟨t, h⟩ := h
  exact ⟨t, (hk.block g hl hF).trans h⟩
theorem One.kept {w w' : World} {g : Nat} {v : Value} (h : One w g v) (hk : Kept w w') : One w' g v := h.fr hk (fun x => x)
theorem One.put {w : World} {g : Nat} {v : Value} (x : Value) (h : One w g v) : One (w.setCell ⟨g, 0, none⟩ x) g x := by
  obtain ⟨t, h⟩ := h
  have := block_set (o := 0) (v := x) h
  exact ⟨t, by simpa using this⟩
theorem One.other {w : World} {g g' o : Nat} {v x : Value} (h : One w g v) (hn : g ≠ g') : One (w.setCell ⟨g', o, none⟩ x) g v := h.fr (Fr.of_setCell w ⟨g', o, none⟩ x) hn
theorem one_new (w : World) (v : Value) (t : TypeId) : One (w.alloc (.cells #[v] t)) w.heap.size v := ⟨t, heap_alloc_new w _⟩
/-- what a call turns: the blocks of C, and the row's -/
structure Mv (C : Nat → Prop) (v v' : Value) (w w' : World) : Prop where
  fr : Fr (fun g => C g ∨ v.ownBlock = some g) w w'
  own : ∀ g, v'.ownBlock = some g → v.ownBlock = some g ∨ w.heap.size ≤ g
theorem Mv.of_kept {C : Nat → Prop} {v : Value} {w w' : World} (h : Kept w w') : Mv C v v w w' := ⟨h.mono (fun _ _ x => x.elim), fun _ h => .inl h⟩
theorem Mv.trans {C : Nat → Prop} {v v' v'' : Value} {w w' w'' : World} (h : Mv C v v' w w') (k : Mv C v' v'' w' w'') : Mv C v v'' w w'' := by
  refine ⟨⟨k.fr.os.trans h.fr.os, k.fr.tape.trans h.fr.tape, k.fr.output.trans h.fr.output, Nat.le_trans h.fr.size k.fr.size, fun g hg hn => ?_⟩, fun g hg => ?_⟩
  · refine (k.fr.block g (Nat.lt_of_lt_of_le hg h.fr.size) (fun hc => ?_)).trans (h.fr.block g hg hn)
    rcases hc with hc | hc
    · exact hn (.inl hc)
    · rcases h.own g hc with h1 | h1
      · exact hn (.inr h1)
      · omega
  · rcases k.own g hg with h1 | h1
    · exact h.own g h1
    · exact .inr (Nat.le_trans h.fr.size h1)
theorem Mv.of_app {C : Nat → Prop} {w w' : World} {base size n : Nat} {e : TypeId} {v v' : Value} {xs : List Value} (h : AppPost w base e size v n xs v' w') : Mv C v v' w w' :=
  ⟨(Fr.of_grown h.2.1).mono (fun _ _ x => .inr x), h.2.2⟩
theorem Mv.of_set {C : Nat → Prop} {w : World} {g o : Nat} {v x : Value} (hC : C g) : Mv C v v w (w.setCell ⟨g, o, none⟩ x) :=
  ⟨(Fr.of_setCell w ⟨g, o, none⟩ x).mono (fun k _ e => by subst e; exact .inl hC), fun _ h => .inl h⟩
theorem own_lt {w : World} {base n size : Nat} {e : TypeId} {v : Value} {xs : List Value} (h : w.ownsRow base e size v n xs) {g : Nat} (hg : v.ownBlock = some g) : base ≤ g ∧ g < w.heap.size := by
  rcases h.2 with ⟨rfl, _⟩ | ⟨g', cap, cur, rfl, hb, h4, _⟩
  · simp [Value.ownBlock] at hg
  · simp [Value.ownBlock] at hg
    subst hg
    exact ⟨hb, (Array.getElem?_eq_some_iff.1 h4).1⟩
theorem Mv.four {C : Nat → Prop} {w w' : World} {base n size : Nat} {e : TypeId} {v v' : Value} {xs : List Value} {g : Nat} {a b c d : Value} (h : Mv C v v' w w') (ho : v.ownBlock ≠ some g) (hC : ¬ C g) (hf : Four w g a b c d) : Four w' g a b c d :=
  hf.fr h.fr (fun x => x.elim hC ho)
/-- an owned row is not touched by a store beside it -/
theorem own_beside {w : World} {base n size g o : Nat} {e : TypeId} {v x : Value} {xs : List Value} (h : w.ownsRow base e size v n xs) (hg : v.ownBlock ≠ some g) : (w.setCell ⟨g, o, none⟩ x).ownsRow base e size v n xs := by
  refine ⟨h.1, ?_⟩
  rcases h.2 with h2 | ⟨g', cap, cur, hv, hb, h4, h5⟩
  · exact .inl h2
  · refine .inr ⟨g', cap, cur, hv, hb, ?_, h5⟩
    have hne : g' ≠ g := by
      intro e
      subst e
      subst hv
      exact hg (by simp [Value.ownBlock])
    exact ((Fr.of_setCell w ⟨g, o, none⟩ x).block g' (Array.getElem?_eq_some_iff.1 h4).1 hne).trans h4
/-- where postfix stands: the boxes of l, x, at, next, and the row of terms -/
structure PS (w : World) (B bl bx ba bn : Nat) (lv : Value) (W : World) (i : Nat) (x : List Tok) (xv : Value) : Prop where
  kept : Kept w W
  ll : One W bl lv
  xx : One W bx xv
  aa : One W ba (.int .i64 (i : Int))
  nx : One W bn (.func (.func 50) #[] #[.pointer (some ⟨bl, 0, none⟩), .pointer (some ⟨ba, 0, none⟩), .pointer (some ⟨bn, 0, none⟩), .pointer (some ⟨bx, 0, none⟩)])
  row : W.ownsRow B 45 3 xv x.length (cellsX (toX x))
  hB : B ≤ W.heap.size
/-- the boxes lie apart, behind what was there -/
structure Apart (w : World) (B bl bx ba bn : Nat) : Prop where
  w0 : w.heap.size ≤ bl ∧ w.heap.size ≤ bx ∧ w.heap.size ≤ ba ∧ w.heap.size ≤ bn
  hb : bl < B ∧ bx < B ∧ ba < B ∧ bn < B
  h1 : bl ≠ bx
  h2 : bl ≠ ba
  h3 : bx ≠ ba
  h4 : bn ≠ bx
  h5 : bn ≠ ba
theorem PS.own {w : World} {B bl bx ba bn : Nat} {lv : Value} {W : World} {i : Nat} {x : List Tok} {xv : Value} (h : PS w B bl bx ba bn lv W i x xv) {g : Nat} (hg : xv.ownBlock = some g) : B ≤ g ∧ g < W.heap.size := own_lt h.row hg
theorem PS.later {w : World} {B bl bx ba bn : Nat} {lv : Value} {W W1 : World} {i : Nat} {x : List Tok} {xv : Value} (h : PS w B bl bx ba bn lv W i x xv) (hk : Kept W W1) : PS w B bl bx ba bn lv W1 i x xv :=
  ⟨h.kept.trans hk, h.ll.kept hk, h.xx.kept hk, h.aa.kept hk, h.nx.kept hk, own_kept h.row hk, Nat.le_trans h.hB hk.size⟩
theorem PS.step {w : World} {B bl bx ba bn : Nat} {lv : Value} {W : World} {i : Nat} {x : List Tok} {xv : Value} (h : PS w B bl bx ba bn lv W i x xv) (hA : Apart w B bl bx ba bn) (j : Nat) (v : Int) (hv : v = (j : Int)) : PS w B bl bx ba bn lv (W.setCell ⟨ba, 0, none⟩ (.int .i64 v)) j x xv := by
  subst hv
  have hne : ∀ g, g < B → xv.ownBlock ≠ some g := fun g hg e => by have := (h.own e).1; omega
  exact ⟨h.kept.over (Fr.of_setCell _ _ _) (fun k e => by subst e; exact hA.w0.2.2.1), h.ll.other hA.h2, h.xx.other hA.h3, h.aa.put _, h.nx.other hA.h5, own_beside h.row (hne _ hA.hb.2.2.1), by have := h.hB; have := (Fr.of_setCell W ⟨ba, 0, none⟩ (.int .i64 (j : Int))).size; omega⟩
theorem PS.app {w : World} {B bl bx ba bn : Nat} {lv : Value} {W W1 : World} {i : Nat} {x : List Tok} {xv v1 : Value} {t : Tok} (h : PS w B bl bx ba bn lv W i x xv) (hA : Apart w B bl bx ba bn)
    (hp : AppPost W B 45 3 xv (x.length + 1) (cellsX (toX x) ++ [.int .i64 t.kind, .int .i64 t.of, .string (strOf t.name)]) v1 W1) : PS w B bl bx ba bn lv (W1.setCell ⟨bx, 0, none⟩ v1) i (x ++ [t]) v1 := by
  have hw : ∀ g, xv.ownBlock = some g → w.heap.size ≤ g := fun g hg => by have := (h.own hg).1; have := hA.w0.1; have := hA.hb.1; omega
  have hf := Fr.of_grown hp.2.1
  have hne : ∀ g, g < B → ¬ (xv.ownBlock = some g) := fun g hg e => by have := (h.own e).1; omega
  have hlB : B ≤ W.heap.size ∨ ∀ g, v1.ownBlock = some g → B ≤ g := .inr (fun g hg => (own_lt hp.1 hg).1)
  have hne1 : ∀ g, g < B → v1.ownBlock ≠ some g := fun g hg e => by have := (own_lt hp.1 e).1; omega
  refine ⟨(h.kept.over hf (fun k e => hw k e)).over (Fr.of_setCell _ _ _) (fun k e => by subst e; exact hA.w0.2.1), (h.ll.fr hf (hne _ hA.hb.1)).other hA.h1, (h.xx.fr hf (hne _ hA.hb.2.1)).put _, (h.aa.fr hf (hne _ hA.hb.2.2.1)).other (Ne.symm hA.h3), (h.nx.fr hf (hne _ hA.hb.2.2.2)).other hA.h4, ?_, by have := h.hB; have := hf.size; have := (Fr.of_setCell W1 ⟨bx, 0, none⟩ v1).size; omega⟩
  have hr := own_beside (o := 0) (x := v1) hp.1 (hne1 _ hA.hb.2.1)
  rw [toX_append, cellsX_append, List.length_append]
  exact hr
theorem PS.box {w : World} {B bl bx ba bn : Nat} {lv : Value} {W W1 : World} {i m : Nat} {x : List Tok} {xv v1 : Value} {xs : List Value} (h : PS w B bl bx ba bn lv W i x xv) (hA : Apart w B bl bx ba bn)
    (hp : AppPost W B 45 3 xv m xs v1 W1) : One W1 bx xv :=
  h.xx.fr (Fr.of_grown hp.2.1) (fun e => by have := (h.own e).1; have := hA.hb.2.1; omega)
def CX (bx ba : Nat) (g : Nat) : Prop := g = bx ∨ g = ba
theorem PS.push {w : World} {B bl bx ba bn : Nat} {lv : Value} {W W0 W1 W2 : World} {i : Nat} {x : List Tok} {xv0 xv v1 : Value} {t : Tok} (h : PS w B bl bx ba bn lv W i x xv) (hA : Apart w B bl bx ba bn) (hm : Mv (CX bx ba) xv0 xv W0 W) (hk : Kept W W2)
    (hp : AppPost W2 B 45 3 xv (x.length + 1) (cellsX (toX x) ++ [.int .i64 t.kind, .int .i64 t.of, .string (strOf t.name)]) v1 W1) :
    PS w B bl bx ba bn lv (W1.setCell ⟨bx, 0, none⟩ v1) i (x ++ [t]) v1 ∧ Mv (CX bx ba) xv0 v1 W0 (W1.setCell ⟨bx, 0, none⟩ v1) :=
  ⟨(h.later hk).app hA hp, ((hm.trans (Mv.of_kept hk)).trans (Mv.of_app hp)).trans (Mv.of_set (.inl rfl))⟩
/-- where the tokens stand, as it is kept -/
def atOf (ba : Nat) (w : World) : Nat := (intOf ((w.cell? ⟨ba, 0, none⟩).getD undef)).toNat
theorem PS.atOf {w : World} {B bl bx ba bn : Nat} {lv : Value} {W : World} {i : Nat} {x : List Tok} {xv : Value} (h : PS w B bl bx ba bn lv W i x xv) : atOf ba W = i := by
  unfold Go.Proofs.YtdapdpmplbifdaaDoor.atOf
  rw [h.aa.cell]
  simp [intOf]

end Go.Proofs.YtdapdpmplbifdaaDoor
