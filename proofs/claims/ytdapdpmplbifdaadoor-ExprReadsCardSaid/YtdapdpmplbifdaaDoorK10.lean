/- Contracts and lemmas: K10 -/
import Derived.Test.YtdapdpmplbifdaaDoorK9
namespace Go.Proofs.YtdapdpmplbifdaaDoor
set_option linter.unusedVariables false
set_option linter.unusedSimpArgs false
open Go.RowKit Go.ChangeShapes Go.WideShapes
set_option maxRecDepth 20000
theorem pre_six (k : Int) : (tPre k).length ≤ 6 := by
  unfold tPre
  repeat' (first | (split; · decide) | simp)
theorem atom_len {t : Tok} (h : AtomOk t) : (wordS t).length ≤ 30 := by
  have h2 := h.2
  unfold wordS at h2 ⊢
  rw [if_pos h.1] at h2 ⊢
  split
  · decide
  · split
    · rename_i hm
      have := hm.1
      unfold tMay at this
      simp only [Bool.and_eq_true, decide_eq_true_eq] at this
      have h3 := pre_six t.of
      rw [List.length_append]
      omega
    · simp
theorem op_len {k : Int} (h : bindS k ≠ 0) : (wordS (opT k)).length ≤ 3 := by
  rcases bind_cases h with rfl | rfl | rfl | rfl <;> decide
def Ex.atoms : Ex → Nat
  | .atom _ => 1
  | .bin _ a b => a.atoms + b.atoms
theorem atoms_pos : ∀ e : Ex, 1 ≤ e.atoms
  | .atom _ => Nat.le_refl _
  | .bin _ a b => by have := atoms_pos a; simp only [Ex.atoms]; omega
theorem atoms_post : ∀ e : Ex, e.post.length + 1 = 2 * e.atoms
  | .atom _ => rfl
  | .bin _ a b => by
    have := atoms_post a
    have := atoms_post b
    simp only [Ex.post, Ex.atoms, List.length_append, List.length_cons, List.length_nil]
    omega
theorem can_cnt2 : ∀ (e : Ex) (v : Nat), (canS v e).cnt + 1 ≤ e.atoms
  | .atom t, v => Nat.le_refl _
  | .bin op a b, v => by
    have ia := can_cnt2 a (bindS op)
    have ib := can_cnt2 b (bindS op + 1)
    rw [canS]
    split <;> simp only [PT.cnt, Ex.atoms] <;> omega
theorem inf_sum : ∀ {e : Ex}, e.Ok → sumS e.inf + 3 ≤ 33 * e.atoms
  | .atom t, h => by
    have := atom_len h
    simp only [Ex.inf, Ex.atoms, sumS, List.map_cons, List.map_nil, List.sum_cons, List.sum_nil]
    omega
  | .bin op a b, h => by
    have ia := inf_sum h.2.1
    have ib := inf_sum h.2.2.1
    have := op_len h.1
    simp only [Ex.inf, Ex.atoms]
    unfold sumS at *
    simp only [List.map_append, List.map_cons, List.sum_append, List.sum_cons]
    omega
/-- a text is never too long -/
theorem text_fits {e : Ex} (h : e.Ok) (hn : e.post.length ≤ 200) : textS (canS 1 e).toks = (textE e, 0) := by
  have hok := can_ok e 1 h
  have h1 := PT.sum hok
  have h2 := PT.len (canS 1 e)
  rw [can_ex] at h1 h2
  have h3 := can_cnt2 e 1
  have h4 := atoms_post e
  have h5 := inf_sum h
  have h6 := join_len (canS 1 e).toks
  have hw := PT.words hok
  unfold textS
  rw [if_neg (by omega), if_neg (by
    intro ha
    obtain ⟨t, ht, h7⟩ := List.any_eq_true.1 ha
    exact hw t ht (of_decide_eq_true h7)), if_neg (by omega)]
  rfl
def toT (x : List Tok) : List TokB := x.map fun t => ⟨t.kind, strOf t.name, t.of, 0⟩
theorem toT_tok (x : List Tok) : (toT x).map TokB.tok = x := by
  unfold toT
  rw [List.map_map]
  conv => rhs; rw [← List.map_id x]
  apply List.map_congr_left
  intro t _
  show (⟨t.kind, bs (strOf t.name), t.of⟩ : Tok) = t
  rw [bs_strOf]
theorem toT_len (x : List Tok) : (toT x).length = x.length := by simp [toT]
theorem toT_append (x y : List Tok) : toT (x ++ y) = toT x ++ toT y := by simp [toT]
theorem cellsB_append : ∀ l m : List TokB, cellsB (l ++ m) = cellsB l ++ cellsB m
  | [], m => rfl
  | t :: l, m => by simp [cellsB, cellsB_append l m]
/-- where write stands: the boxes of x, l, write, and the row of tokens -/
structure WS (w : World) (B bx bl bw : Nat) (ao : Option Addr) (c : Nat) (W : World) (k : Nat) (M : List Tok) (lv : Value) : Prop where
  kept : Kept w W
  xx : One W bx (.slice ao k c)
  ll : One W bl lv
  ff : One W bw (.func (.func 31) #[] #[.pointer (some ⟨bx, 0, none⟩), .pointer (some ⟨bl, 0, none⟩), .pointer (some ⟨bw, 0, none⟩)])
  row : W.ownsRow B 31 4 lv M.length (cellsB (toT M))
  hB : B ≤ W.heap.size
structure Apart3 (w : World) (B bx bl bw : Nat) : Prop where
  w0 : w.heap.size ≤ bx ∧ w.heap.size ≤ bl ∧ w.heap.size ≤ bw
  hb : bx < B ∧ bl < B ∧ bw < B
  h1 : bx ≠ bl
  h2 : bw ≠ bx
  h3 : bw ≠ bl
theorem WS.own {w : World} {B bx bl bw : Nat} {ao : Option Addr} {c : Nat} {W : World} {k : Nat} {M : List Tok} {lv : Value} (h : WS w B bx bl bw ao c W k M lv) {g : Nat} (hg : lv.ownBlock = some g) : B ≤ g ∧ g < W.heap.size := own_lt h.row hg
theorem WS.later {w : World} {B bx bl bw : Nat} {ao : Option Addr} {c : Nat} {W W1 : World} {k : Nat} {M : List Tok} {lv : Value} (h : WS w B bx bl bw ao c W k M lv) (hk : Kept W W1) : WS w B bx bl bw ao c W1 k M lv :=
  ⟨h.kept.trans hk, h.xx.kept hk, h.ll.kept hk, h.ff.kept hk, own_kept h.row hk, Nat.le_trans h.hB hk.size⟩
theorem WS.step {w : World} {B bx bl bw : Nat} {ao : Option Addr} {c : Nat} {W : World} {k : Nat} {M : List Tok} {lv : Value} (h : WS w B bx bl bw ao c W k M lv) (hA : Apart3 w B bx bl bw) (j : Nat) : WS w B bx bl bw ao c (W.setCell ⟨bx, 0, none⟩ (.slice ao j c)) j M lv := by
  have hne : ∀ g, g < B → lv.ownBlock ≠ some g := fun g hg e => by have := (h.own e).1; omega
  exact ⟨h.kept.over (Fr.of_setCell _ _ _) (fun k e => by subst e; exact hA.w0.1), h.xx.put _, h.ll.other (Ne.symm hA.h1), h.ff.other hA.h2, own_beside h.row (hne _ hA.hb.1), by have := h.hB; have := (Fr.of_setCell W ⟨bx, 0, none⟩ (.slice ao j c)).size; omega⟩
theorem WS.box {w : World} {B bx bl bw : Nat} {ao : Option Addr} {c : Nat} {W W1 : World} {k m : Nat} {M : List Tok} {lv v1 : Value} {xs : List Value} (h : WS w B bx bl bw ao c W k M lv) (hA : Apart3 w B bx bl bw)
    (hp : AppPost W B 31 4 lv m xs v1 W1) : One W1 bl lv :=
  h.ll.fr (Fr.of_grown hp.2.1) (fun e => by have := (h.own e).1; have := hA.hb.2.1; omega)
theorem WS.push {w : World} {B bx bl bw : Nat} {ao : Option Addr} {c : Nat} {W W0 W1 W2 : World} {k : Nat} {M : List Tok} {lv0 lv v1 : Value} {t : Tok} (h0 : WS w B bx bl bw ao c W k M lv) (hA : Apart3 w B bx bl bw) (hm : Mv (CX bx bl) lv0 lv W0 W) (hk : Kept W W2)
    (hp : AppPost W2 B 31 4 lv (M.length + 1) (cellsB (toT M) ++ [.int .i64 t.kind, .string (strOf t.name), .int .i64 t.of, .int .i64 0]) v1 W1) :
    WS w B bx bl bw ao c (W1.setCell ⟨bl, 0, none⟩ v1) k (M ++ [t]) v1 ∧ Mv (CX bx bl) lv0 v1 W0 (W1.setCell ⟨bl, 0, none⟩ v1) := by
  have h := h0.later hk
  refine ⟨?_, ((hm.trans (Mv.of_kept hk)).trans (Mv.of_app hp)).trans (Mv.of_set (.inr rfl))⟩
  have hw : ∀ g, lv.ownBlock = some g → w.heap.size ≤ g := fun g hg => by have := (h.own hg).1; have := hA.w0.1; have := hA.hb.1; omega
  have hf := Fr.of_grown hp.2.1
  have hne : ∀ g, g < B → ¬ (lv.ownBlock = some g) := fun g hg e => by have := (h.own e).1; omega
  have hne1 : ∀ g, g < B → v1.ownBlock ≠ some g := fun g hg e => by have := (own_lt hp.1 e).1; omega
  refine ⟨(h.kept.over hf (fun k e => hw k e)).over (Fr.of_setCell _ _ _) (fun k e => by subst e; exact hA.w0.2.1), (h.xx.fr hf (hne _ hA.hb.1)).other hA.h1, (h.ll.fr hf (hne _ hA.hb.2.1)).put _, (h.ff.fr hf (hne _ hA.hb.2.2)).other hA.h3, ?_, by have := h.hB; have := hf.size; have := (Fr.of_setCell W1 ⟨bl, 0, none⟩ v1).size; omega⟩
  have hr := own_beside (o := 0) (x := v1) hp.1 (hne1 _ hA.hb.2.1)
  rw [toT_append, cellsB_append, List.length_append]
  exact hr
theorem Tryd.infoT : (Tryd.prog.info? 31).map (fun i => (i.zero, i.size, i.bytes)) = some (some (.agg #[.int .i64 0, .string ⟨#[]⟩, .int .i64 0, .int .i64 0]), 4, 40) := by kernel_rfl
theorem Tryd.sliceT : SliceOf Tryd.prog 29 31 (.agg #[.int .i64 0, .string ⟨#[]⟩, .int .i64 0, .int .i64 0]) 4 40 := slice_of Tryd.underlying29 Tryd.infoT rfl (by decide)
/-- what an expression's terms are, from the last on -/
theorem post_last (e : Ex) : ∃ y t, e.post = y ++ [t] := by
  cases e with
  | atom t => exact ⟨[], t, rfl⟩
  | bin op a b => exact ⟨a.post ++ b.post, opT op, by simp [Ex.post]⟩
theorem rev_par (p : PT) : (PT.par p).toks.reverse = [opT 7] ++ p.toks.reverse ++ [opT 6] := by simp [PT.toks]
theorem rev_bin (op : Int) (a b : PT) : (PT.bin op a b).toks.reverse = b.toks.reverse ++ [opT op] ++ a.toks.reverse := by simp [PT.toks]

end Go.Proofs.YtdapdpmplbifdaaDoor
