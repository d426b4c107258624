/- Contracts and lemmas: Le -/
import Derived.Test.YtbfealhbdemhmaaGreatDoorTt
import Derived.Laws.RangeAny
import Derived.Lib.OthersKept
namespace Go.Proofs.YtbfealhbdemhmaaGreatDoor
set_option linter.unusedVariables false
set_option linter.unusedSimpArgs false
open Go.RowKit Go.ChangeShapes Go.WideShapes
/-- how the tokens are written that are always written in one way -/
def fixL (k : Nat) : List UInt8 := if k = 2 then [97, 110, 100] else if k = 3 then [102, 111, 114] else if k = 4 then [124] else if k = 5 then [97, 115] else if k = 6 then [40] else if k = 7 then [41] else []
/-- the two tables of the package lie there -/
structure LaidT (w : World) : Prop where
  pre : ∀ k : Nat, k < 6 → w.cell? ⟨0, k, none⟩ = some (.string (strOf (tPre k)))
  fix : ∀ k : Nat, k < 8 → w.cell? ⟨1, k, none⟩ = some (.string (strOf (fixL k)))
theorem LaidT.kept {w w' : World} (h : LaidT w) (hk : Kept w w') : LaidT w' := ⟨fun k h1 => hk.cell (h.pre k h1) (fun x => x), fun k h1 => hk.cell (h.fix k h1) (fun x => x)⟩

open Go.RowKit Go.ChangeShapes Go.WideShapes
/-- what All tells: the tokens, the place, the error -/
def AllIs (l : List UInt8) (m : List (Tok × Nat)) (p : Nat) (q : Int) : Prop := (allS l = .ok m ∧ p = 0 ∧ q = 0) ∨ (allS l = .error (p, q) ∧ m = [])
def toB (m : List (Tok × Nat)) : List TokB := m.map fun x => ⟨x.1.kind, strOf x.1.name, x.1.of, x.2⟩
theorem AllIs.unique {l : List UInt8} {m m' : List (Tok × Nat)} {p p' : Nat} {q q' : Int} (h : AllIs l m p q) (h' : AllIs l m' p' q') : m = m' ∧ p = p' ∧ q = q' := by
  rcases h with ⟨h1, rfl, rfl⟩ | ⟨h1, rfl⟩ <;> rcases h' with ⟨h2, rfl, rfl⟩ | ⟨h2, rfl⟩ <;> rw [h1] at h2 <;> cases h2 <;> exact ⟨rfl, rfl, rfl⟩
theorem tokCells_get : ∀ (m : List (Tok × Nat)) (i : Nat) (x : Tok × Nat), m[i]? = some x → (tokCells m)[i * 4]? = some (.int .i64 x.1.kind) ∧ (tokCells m)[i * 4 + 1]? = some (.string (strOf x.1.name)) ∧ (tokCells m)[i * 4 + 2]? = some (.int .i64 x.1.of) ∧ (tokCells m)[i * 4 + 3]? = some (.int .i64 (x.2 : Int))
  | [], i, x, h => by simp at h
  | y :: m, 0, x, h => by
    simp at h
    subst h
    exact ⟨rfl, rfl, rfl, rfl⟩
  | y :: m, i + 1, x, h => by
    have ih := tokCells_get m i x (by simpa using h)
    have e : ∀ j, (tokCells (y :: m))[(i + 1) * 4 + j]? = (tokCells m)[i * 4 + j]? := fun j => by
      have : (i + 1) * 4 + j = (i * 4 + j) + 4 := by omega
      rw [this]
      rfl
    have e0 := e 0
    simp only [Nat.add_zero] at e0
    rw [e0, e 1, e 2, e 3]
    exact ih
theorem reads_nil (w : World) : ReadsT w (.slice none 0 0) [] := ⟨none, 0, rfl, Nat.le_refl _, fun i t h => by simp at h⟩
theorem part_reads {w wr : World} {m : List (Tok × Nat)} {v : Value} (h : AllPart w wr m v) : ReadsT wr v (toB m) := by
  have hlen : (toB m).length = m.length := by simp [toB]
  obtain ⟨h1, h2⟩ := h.1
  rcases h2 with ⟨rfl, h0⟩ | ⟨g, cap, cur, rfl, hb, h3⟩
  · have : m = [] := List.eq_nil_of_length_eq_zero h0
    subst this
    exact reads_nil _
  · obtain ⟨h4, h5, h6, h7, h8⟩ := h3
    have hcell : ∀ o y, (tokCells m)[o]? = some y → wr.cell? ⟨g, o, none⟩ = some y := by
      intro o y hy
      rw [cell_whole h4]
      rw [← h8, List.getElem?_take] at hy
      split at hy
      · simpa using hy
      · cases hy
    refine ⟨some ⟨g, 0, none⟩, cap, by rw [hlen], by rw [hlen]; exact h5, fun i t ht => ?_⟩
    unfold toB at ht
    rw [List.getElem?_map] at ht
    cases hm : m[i]? with
    | none => rw [hm] at ht; cases ht
    | some x =>
      rw [hm] at ht
      have ht2 : (⟨x.1.kind, strOf x.1.name, x.1.of, (x.2 : Int)⟩ : TokB) = t := by simpa using ht
      subst ht2
      obtain ⟨t0, t1, t2, t3⟩ := tokCells_get m i x hm
      refine ⟨g, 0, rfl, ?_, ?_, ?_, ?_⟩
      · rw [Nat.zero_add]; exact hcell _ _ t0
      · rw [Nat.zero_add]; exact hcell _ _ t1
      · rw [Nat.zero_add]; exact hcell _ _ t2
      · rw [Nat.zero_add]; exact hcell _ _ t3
theorem ReadsT.kept {w w' : World} {v : Value} {l : List TokB} (h : ReadsT w v l) (hk : Kept w w') : ReadsT w' v l := by
  obtain ⟨ao, c, h1, h2, h3⟩ := h
  refine ⟨ao, c, h1, h2, fun i t ht => ?_⟩
  obtain ⟨g, off, h4, c0, c1, c2, c3⟩ := h3 i t ht
  exact ⟨g, off, h4, hk.cell c0 (fun x => x), hk.cell c1 (fun x => x), hk.cell c2 (fun x => x), hk.cell c3 (fun x => x)⟩
theorem ReadsT.form {w : World} {v : Value} {l : List TokB} (h : ReadsT w v l) : ∃ ao c, v = .slice ao l.length c ∧ l.length ≤ c := by
  obtain ⟨ao, c, h1, h2, _⟩ := h
  exact ⟨ao, c, h1, h2⟩
def AllR (l : List UInt8) (w : World) (e : Ending) (w' : World) : Prop :=
  ∃ v m, ∃ (p : Nat) (q : Int), e = .returned (.tuple #[v, .int .i64 p, .int .i64 q]) ∧ ReadsT w' v (toB m) ∧ Kept w w' ∧ AllIs l m p q
theorem all_r {l : List UInt8} {w w' : World} {e : Ending} (h : AllPost l w e w') : AllR l w e w' := by
  unfold AllPost at h
  cases hs : allS l with
  | error x =>
    rw [hs] at h
    exact ⟨_, [], x.1, x.2, h.1, reads_nil _, h.2, .inr ⟨hs, rfl⟩⟩
  | ok m =>
    rw [hs] at h
    obtain ⟨v, h1, h2⟩ := h
    exact ⟨v, m, 0, 0, h1, part_reads h2, h2.2, .inl ⟨hs, rfl, rfl⟩⟩
theorem rallR (s : ByteArray) (w : World) (hs : s.size ≤ 1000000) : Calls Tryz.prog 63 #[.string s] w (AllR (bs s) w) := (rall_any s w hs).mono fun _ _ h => all_r h
theorem toB_tok (m : List (Tok × Nat)) : (toB m).map TokB.tok = m.map (·.1) := by
  unfold toB TokB.tok
  rw [List.map_map]
  apply List.map_congr_left
  intro x _
  show (⟨x.1.kind, bs (strOf x.1.name), x.1.of⟩ : Tok) = x.1
  rw [bs_strOf]
theorem word_name {t : Tok} (h : wordS t ≠ []) : t.name.length ≤ (wordS t).length := by
  unfold wordS at *
  split
  · rename_i h1
    rw [if_pos h1] at h
    split
    · rename_i h2; rw [h2.2]; exact Nat.le_refl _
    · rename_i h2
      rw [if_neg h2] at h
      split
      · rw [List.length_append]; omega
      · rename_i h3; rw [if_neg h3] at h; exact absurd rfl h
  · rename_i h1
    rw [if_neg h1] at h
    split
    · rename_i h2
      rw [if_pos h2] at h
      split
      · exact Nat.le_refl _
      · rename_i h3; rw [if_neg h3] at h; exact absurd rfl h
    · rename_i h2
      rw [if_neg h2] at h
      split
      · rename_i h3
        rw [if_pos h3] at h
        split
        · exact Nat.le_refl _
        · rename_i h4; rw [if_neg h4] at h; exact absurd rfl h
      · rename_i h3
        rw [if_neg h3] at h
        split
        · rename_i h4; rw [h4.1]; simp
        · rename_i h4; rw [if_neg h4] at h; exact absurd rfl h
theorem AllIs.toks {l : List UInt8} {m : List (Tok × Nat)} {p : Nat} {q : Int} (h : AllIs l m p q) : m.length ≤ 1000 ∧ ∀ t ∈ toB m, wordS t.tok ≠ [] ∧ t.name.size ≤ 40 := by
  have key : ∀ x ∈ m, wordS x.1 ≠ [] := by
    rcases h with ⟨h1, _, _⟩ | ⟨_, rfl⟩
    · obtain ⟨⟨nt, hr⟩, h2, h3⟩ := all_run h1
      obtain ⟨_, _, s3⟩ := run_sum m false nt 0 l hr
      exact fun x hx => s3 x.1 (List.mem_map.2 ⟨x, hx, rfl⟩)
    · intro x hx; cases hx
  refine ⟨?_, ?_⟩
  · rcases h with ⟨h1, _, _⟩ | ⟨_, rfl⟩
    · exact (all_run h1).2.1
    · simp
  · intro t ht
    unfold toB at ht
    obtain ⟨x, hx, rfl⟩ := List.mem_map.1 ht
    have h1 := key x hx
    have h2 := word_name h1
    have h3 := word_len x.1
    refine ⟨?_, by rw [strOf_size]; omega⟩
    unfold TokB.tok
    rw [bs_strOf]
    exact h1
theorem kept_call1 {P : Program} {f : FuncId} {args : Array Value} {w : World} {v : Value} {p : KeptW w} (h : Calls P f args p.wd (KeptPost v p.wd)) : Calls P f args p.wd fun e w'' => e = .returned v ∧ ∃ p' : KeptW w, w'' = p'.wd :=
  h.mono fun _ w'' ⟨he, hk⟩ => ⟨he, ⟨w'', p.kept.trans hk⟩, rfl⟩
/-- the cells of tokens -/
def cellsB : List TokB → List Value
  | [] => []
  | t :: l => .int .i64 t.kind :: .string t.name :: .int .i64 t.of :: .int .i64 t.pos :: cellsB l
theorem cellsB_len : ∀ l, (cellsB l).length = l.length * 4
  | [] => rfl
  | t :: l => by simp [cellsB, cellsB_len l]; omega
theorem cellsB_get : ∀ (m : List TokB) (i : Nat) (x : TokB), m[i]? = some x → (cellsB m)[i * 4]? = some (.int .i64 x.kind) ∧ (cellsB m)[i * 4 + 1]? = some (.string x.name) ∧ (cellsB m)[i * 4 + 2]? = some (.int .i64 x.of) ∧ (cellsB m)[i * 4 + 3]? = some (.int .i64 x.pos)
  | [], i, x, h => by simp at h
  | y :: m, 0, x, h => by
    simp at h
    subst h
    exact ⟨rfl, rfl, rfl, rfl⟩
  | y :: m, i + 1, x, h => by
    have ih := cellsB_get m i x (by simpa using h)
    have e : ∀ j, (cellsB (y :: m))[(i + 1) * 4 + j]? = (cellsB m)[i * 4 + j]? := fun j => by
      have : (i + 1) * 4 + j = (i * 4 + j) + 4 := by omega
      rw [this]
      rfl
    have e0 := e 0
    simp only [Nat.add_zero] at e0
    rw [e0, e 1, e 2, e 3]
    exact ih
theorem cellsB_one : ∀ l, ∀ u ∈ cellsB l, u.oneCell' = true
  | [], u, h => by cases h
  | t :: l, u, h => by
    simp only [cellsB, List.mem_cons] at h
    rcases h with rfl | rfl | rfl | rfl | h
    · rfl
    · rfl
    · rfl
    · rfl
    · exact cellsB_one l u h
theorem cellsB_div {l : List TokB} {j : Nat} {u : Value} (h : (cellsB l)[j]? = some u) : ∃ i x, l[i]? = some x ∧ j = i * 4 + j % 4 := by
  have hj := (List.getElem?_eq_some_iff.1 h).1
  rw [cellsB_len] at hj
  have hi : j / 4 < l.length := by omega
  exact ⟨j / 4, _, List.getElem?_eq_getElem hi, by omega⟩
theorem addr_add (g off j : Nat) : (⟨g, off, none⟩ : Addr).add j = ⟨g, off + j, none⟩ := by unfold Addr.add; split <;> simp_all
theorem reads_src {P : Program} {w : World} {v : Value} {l : List TokB} (h : ReadsT w v l) {tx e' : TypeId} (hk : P.underlying tx = some (.slice e')) : Src P 4 tx v l.length (cellsB l) w := by
  obtain ⟨ao, c, rfl, hc, hx⟩ := h
  rcases l with _ | ⟨y, r⟩
  · refine ⟨.inl ⟨_, hk⟩, fun _ => rfl, ?_, ?_, rfl, fun _ h => by cases h⟩
    · cases ao <;> simp [Builtin.firstCells, loadCells, loadCellsFrom, cellsB]
    · cases ao <;> simp [Builtin.firstCells, loadCells, loadCellsFrom, cellsB]
  · obtain ⟨g, off, rfl, _⟩ := hx 0 y rfl
    refine Src.ofSlice w hk _ _ _ _ (by rw [cellsB_len]) (fun j u hj => ?_) (cellsB_one _)
    obtain ⟨i, x, hi, hji⟩ := cellsB_div hj
    obtain ⟨g', off', he, c0, c1, c2, c3⟩ := hx i x hi
    cases he
    rw [addr_add]
    obtain ⟨t0, t1, t2, t3⟩ := cellsB_get _ i x hi
    have hm : j % 4 = 0 ∨ j % 4 = 1 ∨ j % 4 = 2 ∨ j % 4 = 3 := by omega
    rcases hm with hm | hm | hm | hm <;> rw [hm] at hji
    · simp only [Nat.add_zero] at hji
      subst hji
      rw [t0] at hj; cases hj
      exact c0
    · subst hji
      rw [t1] at hj; cases hj
      exact c1
    · subst hji
      rw [t2] at hj; cases hj
      exact c2
    · subst hji
      rw [t3] at hj; cases hj
      exact c3
theorem own_reads {w : World} {base : Nat} {v : Value} {l : List TokB} (h : w.ownsRow base 85 4 v l.length (cellsB l)) : ReadsT w v l := by
  obtain ⟨h1, h2⟩ := h
  rcases h2 with ⟨rfl, h0⟩ | ⟨g, cap, cur, rfl, hb, h4, h5, h6, h7, h8⟩
  · have : l = [] := List.eq_nil_of_length_eq_zero h0
    subst this
    exact reads_nil _
  · have hcell : ∀ o y, (cellsB l)[o]? = some y → w.cell? ⟨g, o, none⟩ = some y := by
      intro o y hy
      rw [cell_whole h4]
      rw [← h8, List.getElem?_take] at hy
      split at hy
      · simpa using hy
      · cases hy
    refine ⟨some ⟨g, 0, none⟩, cap, rfl, h5, fun i t ht => ?_⟩
    obtain ⟨t0, t1, t2, t3⟩ := cellsB_get l i t ht
    refine ⟨g, 0, rfl, ?_, ?_, ?_, ?_⟩
    · rw [Nat.zero_add]; exact hcell _ _ t0
    · rw [Nat.zero_add]; exact hcell _ _ t1
    · rw [Nat.zero_add]; exact hcell _ _ t2
    · rw [Nat.zero_add]; exact hcell _ _ t3
theorem all_err {l : List UInt8} {p : Nat} {q : Int} (h : allS l = .error (p, q)) : q ≠ 0 := by
  unfold allS at h
  split at h
  · cases h; decide
  · obtain ⟨k, m, hw⟩ := go_wrong l.length false 0 0 l p q (Nat.le_refl _) (by omega) h
    rcases hw.what with ⟨rfl, _⟩ | ⟨rfl, _⟩ <;> decide
theorem text_len {l : List Tok} {x : List UInt8} {q : Int} (h : textS l = (x, q)) : x.length ≤ 4000 := by
  unfold textS at h
  split at h
  · cases h; simp
  · split at h
    · cases h; simp
    · split at h
      · cases h; simp
      · cases h; omega

/-- the name that a text begins with, as the code tells it -/
def leadS (l : List UInt8) : List UInt8 := if (l.head?.map tLet).getD false = true then l.takeWhile tIn else []
/-- the token that is always written so -/
def fixK (s : List UInt8) : Int := if s = [97, 110, 100] then 2 else if s = [102, 111, 114] then 3 else if s = [124] then 4 else if s = [97, 115] then 5 else if s = [40] then 6 else if s = [41] then 7 else 0
/-- the kind that is written so in front of a name -/
def pkS (s : List UInt8) : Int := if s = [107, 101, 121] then 1 else if s = [99, 104, 97, 110] then 2 else if s = [103, 114, 111, 117, 112] then 4 else if s = [114, 111, 108, 101] then 5 else 0
/-- the token that begins with a name -/
def namedS (n b : List UInt8) : Tok := if fixK n ≠ 0 then ⟨fixK n, [], 0⟩ else if b.head? = some 58 ∧ pkS n ≠ 0 then ⟨1, leadS (b.drop 1), pkS n⟩ else ⟨1, n, 3⟩
/-- the token that a text seems to begin with -/
def firstS (l : List UInt8) : Tok :=
  if leadS l ≠ [] then namedS (leadS l) (l.drop (leadS l).length)
  else if l.takeWhile tDig ≠ [] then ⟨8, l.takeWhile tDig, 0⟩
  else if l.take 1 = [68] then ⟨1, [68], 0⟩
  else if fixK (l.take 1) ≠ 0 then ⟨fixK (l.take 1), [], 0⟩
  else ⟨9, l.take 1, 0⟩
theorem fix_word {s : List UInt8} (h : fixK s ≠ 0) : wordS ⟨fixK s, [], 0⟩ = s := by
  unfold fixK at *
  split
  · subst_vars; decide
  · split
    · subst_vars; decide
    · split
      · subst_vars; decide
      · split
        · subst_vars; decide
        · split
          · subst_vars; decide
          · split
            · subst_vars; decide
            · rename_i h1 h2 h3 h4 h5 h6
              rw [if_neg h1, if_neg h2, if_neg h3, if_neg h4, if_neg h5, if_neg h6] at h
              exact absurd rfl h
theorem pk_pre {s : List UInt8} (h : pkS s ≠ 0) : tPre (pkS s) = s ++ [58] := by
  unfold pkS at *
  split
  · subst_vars; decide
  · split
    · subst_vars; decide
    · split
      · subst_vars; decide
      · split
        · subst_vars; decide
        · rename_i h1 h2 h3 h4
          rw [if_neg h1, if_neg h2, if_neg h3, if_neg h4] at h
          exact absurd rfl h
theorem lead_prefix (l : List UInt8) : leadS l <+: l := by
  unfold leadS
  split
  · exact List.takeWhile_prefix _
  · exact List.nil_prefix
theorem prefix_drop {a l : List UInt8} (h : a <+: l) : l = a ++ l.drop a.length := by
  obtain ⟨r, rfl⟩ := h
  simp
theorem atom_word {n : List UInt8} {o : Int} (ho : o ≠ 0) (hw : wordS ⟨1, n, o⟩ ≠ []) : wordS ⟨1, n, o⟩ = tPre o ++ n := by
  unfold wordS at *
  rw [if_pos rfl, if_neg (by simp [ho])] at *
  split
  · rfl
  · rename_i hc
    simp only at hw hc
    rw [if_neg hc] at hw
    exact absurd rfl hw
theorem num_word {n : List UInt8} (hw : wordS ⟨8, n, 0⟩ ≠ []) : wordS ⟨8, n, 0⟩ = n := by
  unfold wordS at *
  rw [if_neg (by simp), if_pos rfl] at *
  split
  · rfl
  · rename_i hc
    simp only at hw hc
    rw [if_neg hc] at hw
    exact absurd rfl hw
theorem sgn_word {n : List UInt8} (hw : wordS ⟨9, n, 0⟩ ≠ []) : wordS ⟨9, n, 0⟩ = n := by
  unfold wordS at *
  rw [if_neg (by simp), if_neg (by simp), if_pos rfl] at *
  split
  · rfl
  · rename_i hc
    simp only at hw hc
    rw [if_neg hc] at hw
    exact absurd rfl hw
/-- what is written of the first token stands there -/
theorem first_pre {l : List UInt8} (h : wordS (firstS l) ≠ []) : l = wordS (firstS l) ++ l.drop (wordS (firstS l)).length := by
  apply prefix_drop
  unfold firstS at *
  split
  · rename_i h1
    rw [if_pos h1] at h
    unfold namedS at *
    split
    · rename_i h2
      rw [fix_word h2]
      exact lead_prefix l
    · rename_i h2
      rw [if_neg h2] at h
      split
      · rename_i h3
        rw [if_pos h3] at h
        rw [atom_word h3.2 h, pk_pre h3.2]
        have hl := prefix_drop (lead_prefix l)
        cases hb : l.drop (leadS l).length with
        | nil => rw [hb] at h3; simp at h3
        | cons c f =>
          rw [hb] at h3
          have hc : c = 58 := by simpa using h3.1
          subst hc
          rw [hb] at hl
          have e : leadS l ++ [58] ++ leadS ((58 :: f).drop 1) <+: leadS l ++ 58 :: f := by
            rw [List.append_assoc]
            apply (List.prefix_append_right_inj _).2
            show 58 :: leadS f <+: 58 :: f
            exact (List.cons_prefix_cons).2 ⟨rfl, lead_prefix f⟩
          rw [← hl] at e
          exact e
      · rename_i h3
        rw [if_neg h3] at h
        rw [atom_word (by decide) h]
        exact lead_prefix l
  · rename_i h1
    rw [if_neg h1] at h
    split
    · rename_i h2
      rw [if_pos h2] at h
      rw [num_word h]
      exact List.takeWhile_prefix _
    · rename_i h2
      rw [if_neg h2] at h
      split
      · rename_i h3
        have hw : wordS ⟨1, [68], 0⟩ = l.take 1 := by rw [h3]; decide
        rw [hw]
        exact List.take_prefix _ _
      · rename_i h3
        rw [if_neg h3] at h
        split
        · rename_i h4
          rw [fix_word h4]
          exact List.take_prefix _ _
        · rename_i h4
          rw [if_neg h4] at h
          rw [sgn_word h]
          exact List.take_prefix _ _
theorem lead_all {w r : List UInt8} (hw : w.all tIn = true) (hl : (w.head?.map tLet).getD false = true) (hr : ∀ c, r.head? = some c → tIn c = false) : leadS (w ++ r) = w := by
  cases w with
  | nil => simp at hl
  | cons c v =>
    unfold leadS
    have e : (((c :: v) ++ r).head?.map tLet).getD false = true := by simpa using hl
    rw [if_pos e, take_all hw hr]
theorem fine_in {r : List UInt8} (h : tFine r = true) : ∀ c, r.head? = some c → tIn c = false := by
  intro c hc
  have := fine_not h c hc
  cases hh : tIn c
  · rfl
  · rw [tBad_of_in hh] at this; cases this
theorem lead_may {w r : List UInt8} (hw : tMay w = true) (hr : tFine r = true) : leadS (w ++ r) = w := by
  obtain ⟨ha, _, c, v, rfl, hc⟩ := may_all hw
  exact lead_all ha (by simpa using hc) (fine_in hr)
theorem lead_none {l : List UInt8} (h : (l.head?.map tLet).getD false = false) : leadS l = [] := by
  unfold leadS; rw [if_neg (by rw [h]; decide)]
/-- the first token of what is written of a token is that token -/
theorem first_of {t : Tok} {r : List UInt8} (hw : wordS t ≠ []) (hr : Follow t r) : firstS (wordS t ++ r) = t := by
  obtain ⟨k, nm, o⟩ := t
  have hk : k = 1 ∨ k = 2 ∨ k = 3 ∨ k = 4 ∨ k = 5 ∨ k = 6 ∨ k = 7 ∨ k = 8 ∨ k = 9 := by
    unfold wordS at hw
    simp only at hw
    by_cases h1 : k = 1; · exact .inl h1
    by_cases h8 : k = 8; · simp [h8]
    by_cases h9 : k = 9; · simp [h9]
    rw [if_neg h1, if_neg h8, if_neg h9] at hw
    split at hw
    · by_cases h2 : k = 2; · simp [h2]
      by_cases h3 : k = 3; · simp [h3]
      by_cases h4 : k = 4; · simp [h4]
      by_cases h5 : k = 5; · simp [h5]
      by_cases h6 : k = 6; · simp [h6]
      by_cases h7 : k = 7; · simp [h7]
      rw [if_neg h2, if_neg h3, if_neg h4, if_neg h5, if_neg h6, if_neg h7] at hw
      exact absurd rfl hw
    · exact absurd rfl hw
  have kwd : ∀ (w : List UInt8) (kk : Int), tMay w = true → fixK w = kk → kk ≠ 0 → tFine r = true → firstS (w ++ r) = ⟨kk, [], 0⟩ := by
    intro w kk hm hkk h0 hf
    have hl := lead_may hm hf
    unfold firstS
    rw [hl, if_pos (may_ne hm)]
    unfold namedS
    rw [hkk, if_pos h0]
  have one : ∀ (c : UInt8), tLet c = false → tDig c = false → ∀ v : Tok, (if [c] = [68] then (⟨1, [68], 0⟩ : Tok) else if fixK [c] ≠ 0 then ⟨fixK [c], [], 0⟩ else ⟨9, [c], 0⟩) = v → firstS (c :: r) = v := by
    intro c h1 h2 v hv
    unfold firstS
    rw [lead_none (by simpa using h1), if_neg (by simp), if_neg (by simp [List.takeWhile_cons, h2])]
    exact hv
  rcases hk with rfl | rfl | rfl | rfl | rfl | rfl | rfl | rfl | rfl
  · have hf : tFine r = true := hr (by simp [sepB])
    unfold wordS at hw ⊢
    simp only [if_true] at hw ⊢
    by_cases hd : o = 0 ∧ nm = [68]
    · obtain ⟨rfl, rfl⟩ := hd
      simp only [and_self, if_true, List.cons_append, List.nil_append]
      exact one 68 (by decide) (by decide) _ (by simp)
    · rw [if_neg hd] at hw ⊢
      split at hw
      · rename_i hcond
        rw [if_pos hcond]
        obtain ⟨hm, ⟨ho1, ho2⟩, hkey⟩ := hcond
        have hl := lead_may hm hf
        have pre : ∀ (q : List UInt8) (oo : Int), q.all tIn = true → (q.head?.map tLet).getD false = true → fixK q = 0 → pkS q = oo → oo ≠ 0 → firstS (q ++ [58] ++ nm ++ r) = ⟨1, nm, oo⟩ := by
          intro q oo hq1 hq2 hq3 hq4 h0
          have e : leadS (q ++ [58] ++ nm ++ r) = q := by
            rw [List.append_assoc, List.append_assoc]
            exact lead_all hq1 hq2 (fun c hc => by simp at hc; subst hc; decide)
          have hne : q ≠ [] := by rintro rfl; simp at hq2
          unfold firstS
          rw [e, if_pos hne]
          unfold namedS
          have e2 : (q ++ [58] ++ nm ++ r).drop q.length = 58 :: (nm ++ r) := by simp
          rw [hq3, if_neg (by simp), e2, hq4, if_pos ⟨rfl, h0⟩]
          simp [hl]
        have ho : o = 1 ∨ o = 2 ∨ o = 3 ∨ o = 4 ∨ o = 5 := by omega
        rcases ho with rfl | rfl | rfl | rfl | rfl
        · exact pre [107, 101, 121] 1 (by decide) (by decide) (by decide) (by decide) (by decide)
        · exact pre [99, 104, 97, 110] 2 (by decide) (by decide) (by decide) (by decide) (by decide)
        · have e0 : tPre 3 ++ nm ++ r = nm ++ r := by simp [tPre]
          rw [e0]
          obtain ⟨ha, _, c, v, hcv, hc⟩ := may_all hm
          have hfx : fixK nm = 0 := by
            have h0 := hkey rfl
            unfold tKey at h0
            unfold fixK
            by_cases q1 : nm = [97, 110, 100]
            · rw [if_pos q1] at h0; cases h0
            · rw [if_neg q1] at h0 ⊢
              by_cases q2 : nm = [102, 111, 114]
              · rw [if_pos q2] at h0; cases h0
              · rw [if_neg q2] at h0 ⊢
                by_cases q3 : nm = [97, 115]
                · rw [if_pos q3] at h0; cases h0
                · have r1 : nm ≠ [124] := by rintro rfl; cases hcv; exact absurd hc (by decide)
                  have r2 : nm ≠ [40] := by rintro rfl; cases hcv; exact absurd hc (by decide)
                  have r3 : nm ≠ [41] := by rintro rfl; cases hcv; exact absurd hc (by decide)
                  rw [if_neg r1, if_neg q3, if_neg r2, if_neg r3]
          unfold firstS
          rw [hl, if_pos (may_ne hm)]
          unfold namedS
          have e2 : (nm ++ r).drop nm.length = r := by simp
          have h58 : r.head? ≠ some 58 := by
            intro hh
            have := fine_not hf 58 hh
            exact absurd this (by decide)
          rw [hfx, if_neg (by simp), e2, if_neg (fun hh => h58 hh.1)]
        · exact pre [103, 114, 111, 117, 112] 4 (by decide) (by decide) (by decide) (by decide) (by decide)
        · exact pre [114, 111, 108, 101] 5 (by decide) (by decide) (by decide) (by decide) (by decide)
      · exact absurd rfl hw
  · have hf : tFine r = true := hr (by simp [sepB])
    unfold wordS at hw ⊢
    simp at hw ⊢
    obtain ⟨rfl, rfl⟩ := hw
    simpa using kwd [97, 110, 100] 2 (by decide) (by decide) (by decide) hf
  · have hf : tFine r = true := hr (by simp [sepB])
    unfold wordS at hw ⊢
    simp at hw ⊢
    obtain ⟨rfl, rfl⟩ := hw
    simpa using kwd [102, 111, 114] 3 (by decide) (by decide) (by decide) hf
  · unfold wordS at hw ⊢
    simp at hw ⊢
    obtain ⟨rfl, rfl⟩ := hw
    simpa using one 124 (by decide) (by decide) _ (by simp [fixK])
  · have hf : tFine r = true := hr (by simp [sepB])
    unfold wordS at hw ⊢
    simp at hw ⊢
    obtain ⟨rfl, rfl⟩ := hw
    simpa using kwd [97, 115] 5 (by decide) (by decide) (by decide) hf
  · unfold wordS at hw ⊢
    simp at hw ⊢
    obtain ⟨rfl, rfl⟩ := hw
    simpa using one 40 (by decide) (by decide) _ (by simp [fixK])
  · unfold wordS at hw ⊢
    simp at hw ⊢
    obtain ⟨rfl, rfl⟩ := hw
    simpa using one 41 (by decide) (by decide) _ (by simp [fixK])
  · have hf : tFine r = true := hr (by simp [sepB])
    unfold wordS at hw ⊢
    rw [if_neg (by simp), if_pos rfl] at hw ⊢
    simp only at hw ⊢
    split at hw
    · rename_i hcond
      rw [if_pos hcond]
      obtain ⟨hn, rfl⟩ := hcond
      have hd : nm.all tDig = true := by unfold tNum at hn; simp only [Bool.and_eq_true] at hn; exact hn.1
      have htk := take_dig hd hf
      cases nm with
      | nil => exact absurd rfl hw
      | cons c v =>
        have hc : tDig c = true := by simp only [List.all_cons, Bool.and_eq_true] at hd; exact hd.1
        have hr1 : 48 ≤ c.toNat ∧ c.toNat ≤ 57 := by simpa [tDig] using hc
        have h1 : tLet c = false := by unfold tLet; simp; omega
        unfold firstS
        rw [lead_none (by simpa using h1), if_neg (by simp), htk, if_pos (by simp)]
    · exact absurd rfl hw
  · unfold wordS at hw ⊢
    rw [if_neg (by simp), if_neg (by simp), if_pos rfl] at hw ⊢
    simp only at hw ⊢
    split at hw
    · rename_i hcond
      rw [if_pos hcond]
      obtain ⟨hn, rfl⟩ := hcond
      match nm, hn with
      | [c], hn =>
        simp only [tSign, tOne, Bool.or_eq_true, beq_iff_eq] at hn
        rcases hn with rfl | rfl | rfl | rfl | rfl | rfl | rfl | rfl <;> exact one _ (by decide) (by decide) _ (by simp [fixK])
    · exact absurd rfl hw
/-- the sign that stands there, by the first token -/
theorem sign_first (l : List UInt8) : signS l = if wordS (firstS l) = [] ∨ (sepB (firstS l) = true ∧ tFine (l.drop (wordS (firstS l)).length) = false) then none else some (firstS l, (wordS (firstS l)).length) := by
  by_cases hc : wordS (firstS l) = [] ∨ (sepB (firstS l) = true ∧ tFine (l.drop (wordS (firstS l)).length) = false)
  · rw [if_pos hc]
    cases hs : signS l with
    | none => rfl
    | some x =>
      obtain ⟨t, k⟩ := x
      have ok := sign_ok hs
      have hf : firstS l = t := by
        have h := first_of ok.ne ok.follow
        rw [← ok.split] at h
        exact h
      rw [hf] at hc
      rcases hc with hc | ⟨h1, h2⟩
      · exact absurd hc ok.ne
      · have := ok.follow h1
        rw [ok.len, h2] at this
        cases this
  · rw [if_neg hc]
    have hw : wordS (firstS l) ≠ [] := fun h => hc (.inl h)
    have hr : Follow (firstS l) (l.drop (wordS (firstS l)).length) := fun h1 => by
      cases hh : tFine (l.drop (wordS (firstS l)).length)
      · exact absurd (.inr ⟨h1, hh⟩) hc
      · rfl
    have h := sign_of hw hr
    rw [← first_pre hw] at h
    exact h
/-- how many bytes are passed over -/
def blS : Bool → List UInt8 → Nat
  | _, [] => 0
  | nt, c :: r => if passB nt c = true then blS (noteS nt c) r + 1 else 0
theorem bl_le : ∀ (l : List UInt8) (nt : Bool), blS nt l ≤ l.length
  | [], _ => Nat.le_refl _
  | c :: r, nt => by
    unfold blS
    have := bl_le r (noteS nt c)
    split
    · simp; omega
    · simp
theorem bl_skips : ∀ (l : List UInt8) (nt : Bool), ∃ nt', skips nt (l.take (blS nt l)) = some nt' ∧ ∀ c, (l.drop (blS nt l)).head? = some c → passB nt' c = false
  | [], nt => ⟨nt, rfl, by simp⟩
  | c :: r, nt => by
    unfold blS
    by_cases h : passB nt c = true
    · rw [if_pos h]
      obtain ⟨nt', h1, h2⟩ := bl_skips r (noteS nt c)
      refine ⟨nt', ?_, by simpa using h2⟩
      rw [List.take_succ_cons, skips, if_pos h]
      exact h1
    · rw [if_neg h]
      exact ⟨nt, rfl, by simpa using h⟩
theorem bl_step {nt : Bool} {c : UInt8} {r : List UInt8} (h : passB nt c = true) : blS nt (c :: r) = blS (noteS nt c) r + 1 := by rw [blS, if_pos h]
theorem bl_stop {nt : Bool} {c : UInt8} {r : List UInt8} (h : passB nt c = false) : blS nt (c :: r) = 0 := by rw [blS, if_neg (by rw [h]; decide)]
/-- behind what is passed over -/
theorem go_bl (l : List UInt8) (nt : Bool) (p n : Nat) : ∃ nt', goS nt p n l = goS nt' (p + blS nt l) n (l.drop (blS nt l)) ∧ ∀ c, (l.drop (blS nt l)).head? = some c → passB nt' c = false := by
  obtain ⟨nt', h1, h2⟩ := bl_skips l nt
  refine ⟨nt', ?_, h2⟩
  have h := go_skip (l.take (blS nt l)) (l.drop (blS nt l)) nt nt' p n h1
  rw [List.take_append_drop, List.length_take, Nat.min_eq_left (bl_le l nt)] at h
  exact h

open Go.RowKit Go.ChangeShapes Go.WideShapes
def rUp (r : Int) : Bool := decide (65 ≤ r ∧ r ≤ 90)
def rBad (r : Int) : Bool := rIn r || (rUp r || decide (r = 58))
def rBlank (r : Int) : Bool := decide (r = 32) || (decide (r = 9) || decide (r = 10))
def tightB (k : Int) : Bool := decide (k = 1 ∨ k = 2 ∨ k = 3 ∨ k = 5 ∨ k = 8)
theorem up_byte (c : UInt8) : rUp (c.toNat : Int) = tUp c := by unfold rUp tUp; rw [decide_eq_decide]; omega
theorem bad_byte (c : UInt8) : rBad (c.toNat : Int) = tBad c := by
  unfold rBad tBad
  rw [in_byte, up_byte, byte_is c 58 58 rfl (by omega)]
  rfl
theorem blank_byte (c : UInt8) : rBlank (c.toNat : Int) = tBlank c := by
  unfold rBlank tBlank
  rw [byte_is c 32 32 rfl (by omega), byte_is c 9 9 rfl (by omega), byte_is c 10 10 rfl (by omega)]
  rfl
theorem rin_far {r : Int} (h : 128 ≤ r) : rIn r = false := by unfold rIn rLet rDig; simp; omega
theorem rdig_far {r : Int} (h : 128 ≤ r) : rDig r = false := by unfold rDig; simp; omega
theorem rbad_far {r : Int} (h : 128 ≤ r) : rBad r = false := by unfold rBad rIn rLet rDig rUp; simp; omega
theorem rblank_far {r : Int} (h : 128 ≤ r) : rBlank r = false := by unfold rBlank; simp; omega
theorem klet_any (r : Int) (w : World) : Calls Tryz.prog 151 #[.int .i32 r] w fun e w' => e = .returned (.bool (rLet r)) ∧ w = w' := by
  by_cases h1 : 97 ≤ r
  · by_cases h2 : r ≤ 122
    · have HA : Hid (rLet r = true) := Lib.hid (by unfold rLet; simp; omega)
      go_enter Tryz.func151, Tryz.ntmps151
      go_wp2
      go_ret
      exact ⟨ret_bool HA.out.symm, rfl⟩
    · have HA : Hid (rLet r = false) := Lib.hid (by unfold rLet; simp; omega)
      go_enter Tryz.func151, Tryz.ntmps151
      go_wp2
      go_ret
      exact ⟨ret_bool HA.out.symm, rfl⟩
  · have HA : Hid (rLet r = false) := Lib.hid (by unfold rLet; simp; omega)
    go_enter Tryz.func151, Tryz.ntmps151
    go_wp2
    go_ret
    exact ⟨ret_bool HA.out.symm, rfl⟩
theorem kup_any (r : Int) (w : World) : Calls Tryz.prog 134 #[.int .i32 r] w fun e w' => e = .returned (.bool (rUp r)) ∧ w = w' := by
  by_cases h1 : 65 ≤ r
  · by_cases h2 : r ≤ 90
    · have HA : Hid (rUp r = true) := Lib.hid (by unfold rUp; simp; omega)
      go_enter Tryz.func134, Tryz.ntmps134
      go_wp2
      go_ret
      exact ⟨ret_bool HA.out.symm, rfl⟩
    · have HA : Hid (rUp r = false) := Lib.hid (by unfold rUp; simp; omega)
      go_enter Tryz.func134, Tryz.ntmps134
      go_wp2
      go_ret
      exact ⟨ret_bool HA.out.symm, rfl⟩
  · have HA : Hid (rUp r = false) := Lib.hid (by unfold rUp; simp; omega)
    go_enter Tryz.func134, Tryz.ntmps134
    go_wp2
    go_ret
    exact ⟨ret_bool HA.out.symm, rfl⟩
theorem kdig_any (r : Int) (w : World) : Calls Tryz.prog 121 #[.int .i32 r] w fun e w' => e = .returned (.bool (rDig r)) ∧ w = w' := by
  by_cases h1 : 48 ≤ r
  · by_cases h2 : r ≤ 57
    · have HA : Hid (rDig r = true) := Lib.hid (by unfold rDig; simp; omega)
      go_enter Tryz.func121, Tryz.ntmps121
      go_wp2
      go_ret
      exact ⟨ret_bool HA.out.symm, rfl⟩
    · have HA : Hid (rDig r = false) := Lib.hid (by unfold rDig; simp; omega)
      go_enter Tryz.func121, Tryz.ntmps121
      go_wp2
      go_ret
      exact ⟨ret_bool HA.out.symm, rfl⟩
  · have HA : Hid (rDig r = false) := Lib.hid (by unfold rDig; simp; omega)
    go_enter Tryz.func121, Tryz.ntmps121
    go_wp2
    go_ret
    exact ⟨ret_bool HA.out.symm, rfl⟩
theorem kin_any (r : Int) (w : World) : Calls Tryz.prog 133 #[.int .i32 r] w fun e w' => e = .returned (.bool (rIn r)) ∧ w = w' := by
  cases h1 : rLet r
  · cases h2 : rDig r
    · by_cases h3 : r = 45
      · have HA : Hid (rIn r = true) := Lib.hid (by unfold rIn; rw [h1, h2]; simp [h3])
        have g3 : (r == 45) = true := by simp [h3]
        clear h3
        go_enter Tryz.func133, Tryz.ntmps133
        go_wp2_with (first | (go_at_call 151; refine (klet_any _ _).mono ?_; rintro e w' ⟨rfl, rfl⟩; rw [h1]) | (go_at_call 121; refine (kdig_any _ _).mono ?_; rintro e w' ⟨rfl, rfl⟩; rw [h2]))
        go_ret
        exact ⟨ret_bool HA.out.symm, rfl⟩
      · have g3 : (r == 45) = false := by simp [h3]
        by_cases h4 : r = 46
        · have HA : Hid (rIn r = true) := Lib.hid (by unfold rIn; rw [h1, h2]; simp [h4])
          have g4 : (r == 46) = true := by simp [h4]
          clear h3 h4
          go_enter Tryz.func133, Tryz.ntmps133
          go_wp2_with (first | (go_at_call 151; refine (klet_any _ _).mono ?_; rintro e w' ⟨rfl, rfl⟩; rw [h1]) | (go_at_call 121; refine (kdig_any _ _).mono ?_; rintro e w' ⟨rfl, rfl⟩; rw [h2]))
          go_ret
          exact ⟨ret_bool HA.out.symm, rfl⟩
        · have HA : Hid (rIn r = false) := Lib.hid (by unfold rIn; rw [h1, h2]; simp [h3, h4])
          have g4 : (r == 46) = false := by simp [h4]
          clear h3 h4
          go_enter Tryz.func133, Tryz.ntmps133
          go_wp2_with (first | (go_at_call 151; refine (klet_any _ _).mono ?_; rintro e w' ⟨rfl, rfl⟩; rw [h1]) | (go_at_call 121; refine (kdig_any _ _).mono ?_; rintro e w' ⟨rfl, rfl⟩; rw [h2]))
          go_ret
          exact ⟨ret_bool HA.out.symm, rfl⟩
    · have HA : Hid (rIn r = true) := Lib.hid (by unfold rIn; rw [h1, h2]; rfl)
      go_enter Tryz.func133, Tryz.ntmps133
      go_wp2_with (first | (go_at_call 151; refine (klet_any _ _).mono ?_; rintro e w' ⟨rfl, rfl⟩; rw [h1]) | (go_at_call 121; refine (kdig_any _ _).mono ?_; rintro e w' ⟨rfl, rfl⟩; rw [h2]))
      go_ret
      exact ⟨ret_bool HA.out.symm, rfl⟩
  · have HA : Hid (rIn r = true) := Lib.hid (by unfold rIn; rw [h1]; rfl)
    go_enter Tryz.func133, Tryz.ntmps133
    go_wp2_with (go_at_call 151; refine (klet_any _ _).mono ?_; rintro e w' ⟨rfl, rfl⟩; rw [h1])
    go_ret
    exact ⟨ret_bool HA.out.symm, rfl⟩
theorem kbad_any (r : Int) (w : World) : Calls Tryz.prog 132 #[.int .i32 r] w fun e w' => e = .returned (.bool (rBad r)) ∧ w = w' := by
  cases h1 : rIn r
  · cases h2 : rUp r
    · by_cases h3 : r = 58
      · have HA : Hid (rBad r = true) := Lib.hid (by unfold rBad; rw [h1, h2]; simp [h3])
        have g3 : (r == 58) = true := by simp [h3]
        clear h3
        go_enter Tryz.func132, Tryz.ntmps132
        go_wp2_with (first | (go_at_call 133; refine (kin_any _ _).mono ?_; rintro e w' ⟨rfl, rfl⟩; rw [h1]) | (go_at_call 134; refine (kup_any _ _).mono ?_; rintro e w' ⟨rfl, rfl⟩; rw [h2]))
        go_ret
        exact ⟨ret_bool HA.out.symm, rfl⟩
      · have HA : Hid (rBad r = false) := Lib.hid (by unfold rBad; rw [h1, h2]; simp [h3])
        have g3 : (r == 58) = false := by simp [h3]
        clear h3
        go_enter Tryz.func132, Tryz.ntmps132
        go_wp2_with (first | (go_at_call 133; refine (kin_any _ _).mono ?_; rintro e w' ⟨rfl, rfl⟩; rw [h1]) | (go_at_call 134; refine (kup_any _ _).mono ?_; rintro e w' ⟨rfl, rfl⟩; rw [h2]))
        go_ret
        exact ⟨ret_bool HA.out.symm, rfl⟩
    · have HA : Hid (rBad r = true) := Lib.hid (by unfold rBad; rw [h1, h2]; rfl)
      go_enter Tryz.func132, Tryz.ntmps132
      go_wp2_with (first | (go_at_call 133; refine (kin_any _ _).mono ?_; rintro e w' ⟨rfl, rfl⟩; rw [h1]) | (go_at_call 134; refine (kup_any _ _).mono ?_; rintro e w' ⟨rfl, rfl⟩; rw [h2]))
      go_ret
      exact ⟨ret_bool HA.out.symm, rfl⟩
  · have HA : Hid (rBad r = true) := Lib.hid (by unfold rBad; rw [h1]; rfl)
    go_enter Tryz.func132, Tryz.ntmps132
    go_wp2_with (go_at_call 133; refine (kin_any _ _).mono ?_; rintro e w' ⟨rfl, rfl⟩; rw [h1])
    go_ret
    exact ⟨ret_bool HA.out.symm, rfl⟩
theorem kblank_any (r : Int) (w : World) : Calls Tryz.prog 129 #[.int .i32 r] w fun e w' => e = .returned (.bool (rBlank r)) ∧ w = w' := by
  have go : ∀ b1 b2 b3 : Bool, (r == 32) = b1 → (r == 9) = b2 → (r == 10) = b3 → Hid (rBlank r = (b1 || (b2 || b3))) := by
    intro b1 b2 b3 h1 h2 h3
    refine Lib.hid ?_
    rw [← h1, ← h2, ← h3]
    rfl
  cases h1 : (r == 32) <;> cases h2 : (r == 9) <;> cases h3 : (r == 10)
  all_goals
    have HA := go _ _ _ h1 h2 h3
    clear go
    go_enter Tryz.func129, Tryz.ntmps129
    go_wp2
    go_ret
    exact ⟨ret_bool HA.out.symm, rfl⟩
theorem ktight_any (k : Int) (w : World) : Calls Tryz.prog 103 #[.int .i64 k] w fun e w' => e = .returned (.bool (tightB k)) ∧ w = w' := by
  have go : ∀ b : Bool, tightB k = b → Hid (tightB k = b) := fun b h => Lib.hid h
  by_cases h1 : k = 1
  · subst h1
    go_enter Tryz.func103, Tryz.ntmps103
    go_wp2
    go_ret
    exact ⟨rfl, rfl⟩
  by_cases h8 : k = 8
  · subst h8
    go_enter Tryz.func103, Tryz.ntmps103
    go_wp2
    go_ret
    exact ⟨rfl, rfl⟩
  by_cases h2 : k = 2
  · subst h2
    go_enter Tryz.func103, Tryz.ntmps103
    go_wp2
    go_ret
    exact ⟨rfl, rfl⟩
  by_cases h3 : k = 3
  · subst h3
    go_enter Tryz.func103, Tryz.ntmps103
    go_wp2
    go_ret
    exact ⟨rfl, rfl⟩
  by_cases h5 : k = 5
  · subst h5
    go_enter Tryz.func103, Tryz.ntmps103
    go_wp2
    go_ret
    exact ⟨rfl, rfl⟩
  have HA : Hid (tightB k = false) := Lib.hid (by unfold tightB; simp [h1, h2, h3, h5, h8])
  have g1 : (k == 1) = false := by simp [h1]
  have g2 : (k == 2) = false := by simp [h2]
  have g3 : (k == 3) = false := by simp [h3]
  have g5 : (k == 5) = false := by simp [h5]
  have g8 : (k == 8) = false := by simp [h8]
  clear h1 h2 h3 h5 h8 go
  go_enter Tryz.func103, Tryz.ntmps103
  go_wp2
  go_ret
  exact ⟨ret_bool HA.out.symm, rfl⟩

open Go.RowKit Go.ChangeShapes Go.WideShapes
theorem scan_len {q : UInt8 → Bool} {s : ByteArray} {pos : Nat} (h : Scan q s 0 pos) (hp : pos < s.size → q (s.get! pos) = false) : ((bs s).takeWhile q).length = pos := by
  have := (h.stop hp).2.1
  simpa using this
theorem wide_pos {s : ByteArray} {pos : Nat} (hlt : pos < s.size) : 1 ≤ (Utf8.decode s pos).2 := by
  by_cases h128 : (s[pos]'hlt).toNat < 128
  · rw [decode_ascii s pos hlt h128]; exact Nat.le_refl _
  · exact (decode_high s pos hlt (by omega)).2
theorem decode_small {s : ByteArray} {pos : Nat} (hlt : pos < s.size) (h : (s.get! pos).toNat < 128) : Utf8.decode s pos = ((s.get! pos).toNat, 1) := by
  rw [get_bang s pos hlt] at h ⊢
  exact decode_ascii s pos hlt h
theorem decode_far {s : ByteArray} {pos : Nat} (hlt : pos < s.size) (h : 128 ≤ (s.get! pos).toNat) : (128 : Int) ≤ ((Utf8.decode s pos).1 : Nat) := by
  rw [get_bang s pos hlt] at h
  have := (decode_high s pos hlt h).1
  omega
/-- what is told of the rune at a place by its first byte -/
theorem rune_tells {p : Int → Bool} {q : UInt8 → Bool} (hb : ∀ c : UInt8, p c.toNat = q c) (hf : ∀ r : Int, 128 ≤ r → p r = false) {s : ByteArray} {pos : Nat} (hlt : pos < s.size) :
    p ((Utf8.decode s pos).1 : Nat) = q (s.get! pos) ∧ (q (s.get! pos) = true → (Utf8.decode s pos).2 = 1) := by
  by_cases h : (s.get! pos).toNat < 128
  · rw [decode_small hlt h]
    exact ⟨hb _, fun _ => rfl⟩
  · have h2 : q (s.get! pos) = false := by rw [← hb]; exact hf _ (by omega)
    rw [h2]
    exact ⟨hf _ (decode_far hlt (by omega)), fun e => by cases e⟩
set_option maxHeartbeats 1000000 in
theorem klead_any (g : Nat) (p : Int → Bool) (q : UInt8 → Bool) (eg : ∀ args w, (callFunc g args).run Tryz.prog w = .ok (.enter g args) w)
    (hp : ∀ (r : Int) (W : World), Calls Tryz.prog g #[.int .i32 r] W fun e w' => e = .returned (.bool (p r)) ∧ W = w')
    (hb : ∀ c : UInt8, p c.toNat = q c) (hf : ∀ r : Int, 128 ≤ r → p r = false) (s : ByteArray) (w : World) (hs : s.size ≤ 1000000) :
    Calls Tryz.prog 120 #[.string s, .func (.func g) #[] #[]] w (KeptPost (.int .i64 (((bs s).takeWhile q).length : Nat)) w) := by
  have H0 : Hid ((w.iter s 0).heap[w.heap.size]? = some (.stringIter s 0) ∧ Kept w (w.iter s 0)) := Lib.hid ⟨World.iter_heap w s 0, Fr.of_alloc _ _ _⟩
  have H1 : Hid (Scan q s 0 0) := Lib.hid (.first (Nat.zero_le _))
  have HP := Lib.hid hp
  have HB := Lib.hid hb
  have HF := Lib.hid hf
  clear hp hb hf
  go_enter Tryz.func120, Tryz.ntmps120
  go_wp2
  generalize hg : w.heap.size = g0 at H0 ⊢
  have HG := Lib.hid hg
  clear hg
  generalize w.iter s 0 = w1 at H0 ⊢
  go_loopw [] (fun wr => ∃ pos : Nat, pos ≤ s.size ∧ Hid (wr.heap[g0]? = some (.stringIter s pos) ∧ Kept w wr) ∧ Hid (Scan q s 0 pos)) (fun wr => s.size - posOf wr g0)
  case atStart => exact ⟨0, Nat.zero_le _, H0, H1⟩
  case round =>
    obtain ⟨pos, hps, hit, hat⟩ := hrel
    clear H0 H1
    have HPO : Hid (posOf wr g0 = pos) := Lib.hid (posOf_is hit.out.1)
    by_cases hlt : pos < s.size
    · have hnext := fun ty => Go.Lib.run_next_any_at (P := Tryz.prog) wr g0 s pos ty hit.out.1 hlt
      have HN : Hid ((wr.iterAt g0 s (pos + (Utf8.decode s pos).2)).heap[g0]? = some (.stringIter s (pos + (Utf8.decode s pos).2)) ∧ Kept w (wr.iterAt g0 s (pos + (Utf8.decode s pos).2))) := Lib.hid ⟨Go.Lib.iterAt_heap wr g0 s pos _ hit.out.1, iter_kept hit.out.2 (by rw [HG.out]; exact Nat.le_refl _)⟩
      have HD : Hid (1 ≤ (Utf8.decode s pos).2) := Lib.hid (wide_pos hlt)
      have HT := Lib.hid (rune_tells HB.out HF.out hlt)
      cases hq : q (s.get! pos)
      · have HL := Lib.hid (scan_len hat.out (fun _ => hq))
        have HR : Hid (p ((Utf8.decode s pos).1 : Nat) = false) := Lib.hid (HT.out.1.trans hq)
        clear HT hq
        generalize (Utf8.decode s pos).2 = d2 at *
        generalize (Utf8.decode s pos).1 = d1 at *
        go_wp2_with fail
        refine (HP.out _ _).mono ?_
        rintro e w' ⟨rfl, rfl⟩
        rw [HR.out]
        go_wp2
        go_ret
        exact ⟨ret_int (by rw [HL.out]), HN.out.2⟩
      · have HM := Lib.hid (hat.out.more hlt hq)
        have HR : Hid (p ((Utf8.decode s pos).1 : Nat) = true) := Lib.hid (HT.out.1.trans hq)
        have h1 := HT.out.2 hq
        clear HT hq
        rw [h1] at hnext HN HD
        generalize (Utf8.decode s pos).2 = d2 at *
        generalize (Utf8.decode s pos).1 = d1 at *
        subst h1
        go_wp2_with fail
        refine (HP.out _ _).mono ?_
        rintro e w' ⟨rfl, rfl⟩
        rw [HR.out]
        go_wp2
        go_roundw
        case rel => exact ⟨pos + 1, hlt, HN, HM⟩
        case measure => rw [posOf_is HN.out.1, HPO.out]; omega
    · obtain rfl : pos = s.size := by omega
      have hnext := fun ty => Go.Lib.run_next_end_at (P := Tryz.prog) wr g0 s s.size ty hit.out.1 hlt
      have HL := Lib.hid (scan_len hat.out (fun hh => absurd hh hlt))
      go_wp2
      go_ret
      exact ⟨ret_int (by rw [HL.out]), hit.out.2⟩

open Go.RowKit Go.ChangeShapes Go.WideShapes
theorem head_get {s : ByteArray} (h : 0 < s.size) : ((bs s).head?.map tLet).getD false = tLet (s.get! 0) := by
  have := drop_at h
  rw [List.drop_zero] at this
  rw [this]; rfl
theorem lead_stop {s : ByteArray} {pos : Nat} (h : Scan tIn s 0 pos) (hp : pos < s.size → tIn (s.get! pos) = false) (hl : ((bs s).head?.map tLet).getD false = true) : strOf (leadS (bs s)) = s.extract 0 pos := by
  have h1 := (h.stop hp).1
  rw [List.drop_zero] at h1
  unfold leadS
  rw [if_pos hl, h1, ← strOf_extract h.2.1, List.drop_zero]
theorem lead_end {s : ByteArray} (h : Scan tIn s 0 s.size) (hl : 0 < s.size → ((bs s).head?.map tLet).getD false = true) : strOf (leadS (bs s)) = s := by
  rcases Nat.eq_zero_or_pos s.size with h0 | h0
  · have : bs s = [] := List.eq_nil_of_length_eq_zero (by rw [bs_len]; exact h0)
    rw [this, lead_none rfl]
    exact bs_inj (by rw [bs_strOf, this])
  · have h1 := (h.stop (fun hh => absurd hh (Nat.lt_irrefl _))).1
    rw [List.drop_zero, Nat.sub_zero, List.take_of_length_le (by rw [bs_len]; exact Nat.le_refl _)] at h1
    unfold leadS
    rw [if_pos (hl h0), h1, strOf_bs]
theorem let_far1 {r : Int} (h : 128 ≤ r) : rLet r = false := let_far (.inr h)
set_option maxHeartbeats 1000000 in
theorem kname_any (s : ByteArray) (w : World) (hs : s.size ≤ 1000000) :
    Calls Tryz.prog 130 #[.string s] w (KeptPost (.string (strOf (leadS (bs s)))) w) := by
  have H0 : Hid ((w.iter s 0).heap[w.heap.size]? = some (.stringIter s 0) ∧ Kept w (w.iter s 0)) := Lib.hid ⟨World.iter_heap w s 0, Fr.of_alloc _ _ _⟩
  have H1 : Hid (Scan tIn s 0 0) := Lib.hid (.first (Nat.zero_le _))
  go_enter Tryz.func130, Tryz.ntmps130
  go_wp2
  generalize hg : w.heap.size = g0 at H0 ⊢
  have HG := Lib.hid hg
  clear hg
  generalize w.iter s 0 = w1 at H0 ⊢
  go_loopw [] (fun wr => ∃ pos : Nat, pos ≤ s.size ∧ Hid (wr.heap[g0]? = some (.stringIter s pos) ∧ Kept w wr) ∧ Hid (Scan tIn s 0 pos) ∧ Hid (0 < pos → ((bs s).head?.map tLet).getD false = true)) (fun wr => s.size - posOf wr g0)
  case atStart => exact ⟨0, Nat.zero_le _, H0, H1, Lib.hid (fun h => absurd h (Nat.lt_irrefl _))⟩
  case round =>
    obtain ⟨pos, hps, hit, hat, hle⟩ := hrel
    clear H0 H1
    have HPO : Hid (posOf wr g0 = pos) := Lib.hid (posOf_is hit.out.1)
    by_cases hlt : pos < s.size
    · have hnext := fun ty => Go.Lib.run_next_any_at (P := Tryz.prog) wr g0 s pos ty hit.out.1 hlt
      have HN : Hid ((wr.iterAt g0 s (pos + (Utf8.decode s pos).2)).heap[g0]? = some (.stringIter s (pos + (Utf8.decode s pos).2)) ∧ Kept w (wr.iterAt g0 s (pos + (Utf8.decode s pos).2))) := Lib.hid ⟨Go.Lib.iterAt_heap wr g0 s pos _ hit.out.1, iter_kept hit.out.2 (by rw [HG.out]; exact Nat.le_refl _)⟩
      have HI := Lib.hid (rune_tells in_byte (fun r h => rin_far h) hlt)
      have HL := Lib.hid (rune_tells let_byte (fun r h => let_far1 h) hlt)
      have hki : (pos : Int) ≤ (s.size : Int) := by omega
      by_cases h0 : pos = 0
      · have g1 : ((pos : Int) == 0) = true := by simp [h0]
        have HH : Hid (((bs s).head?.map tLet).getD false = tLet (s.get! pos)) := Lib.hid (by rw [h0] at hlt ⊢; exact head_get hlt)
        cases hl : tLet (s.get! pos)
        · have HR : Hid (rLet ((Utf8.decode s pos).1 : Nat) = false) := Lib.hid (HL.out.1.trans hl)
          have HA : Hid (leadS (bs s) = []) := Lib.hid (lead_none (by rw [HH.out, hl]))
          clear HI HL hl HH h0
          generalize (Utf8.decode s pos).2 = d2 at *
          generalize (Utf8.decode s pos).1 = d1 at *
          go_wp2_with (go_at_call 151; refine (klet_any _ _).mono ?_; rintro e w' ⟨rfl, rfl⟩; rw [HR.out])
          go_ret
          exact ⟨ret_str (by rw [HA.out]; rfl), HN.out.2⟩
        · have hq := tIn_of_let hl
          have HR : Hid (rLet ((Utf8.decode s pos).1 : Nat) = true) := Lib.hid (HL.out.1.trans hl)
          have HR2 : Hid (rIn ((Utf8.decode s pos).1 : Nat) = true) := Lib.hid (HI.out.1.trans hq)
          have HA : Hid (((bs s).head?.map tLet).getD false = true) := Lib.hid (by rw [HH.out, hl])
          have HM := Lib.hid (hat.out.more hlt hq)
          have h1 := HI.out.2 hq
          clear HI HL hl HH h0 hq
          rw [h1] at hnext HN
          generalize (Utf8.decode s pos).2 = d2 at *
          generalize (Utf8.decode s pos).1 = d1 at *
          subst h1
          go_wp2_with (first | (go_at_call 151; refine (klet_any _ _).mono ?_; rintro e w' ⟨rfl, rfl⟩; rw [HR.out]) | (go_at_call 133; refine (kin_any _ _).mono ?_; rintro e w' ⟨rfl, rfl⟩; rw [HR2.out]))
          go_roundw
          case rel => exact ⟨pos + 1, hlt, HN, HM, Lib.hid (fun _ => HA.out)⟩
          case measure => rw [posOf_is HN.out.1, HPO.out]; omega
      · have g1 : ((pos : Int) == 0) = false := by simp [h0]
        have HA := Lib.hid (hle.out (by omega))
        cases hq : tIn (s.get! pos)
        · have HR2 : Hid (rIn ((Utf8.decode s pos).1 : Nat) = false) := Lib.hid (HI.out.1.trans hq)
          have HS := Lib.hid (lead_stop hat.out (fun _ => hq) HA.out)
          clear HI HL hq h0
          generalize (Utf8.decode s pos).2 = d2 at *
          generalize (Utf8.decode s pos).1 = d1 at *
          go_wp2_with (go_at_call 133; refine (kin_any _ _).mono ?_; rintro e w' ⟨rfl, rfl⟩; rw [HR2.out])
          go_ret
          exact ⟨ret_str (by rw [HS.out]), HN.out.2⟩
        · have HR2 : Hid (rIn ((Utf8.decode s pos).1 : Nat) = true) := Lib.hid (HI.out.1.trans hq)
          have HM := Lib.hid (hat.out.more hlt hq)
          have h1 := HI.out.2 hq
          clear HI HL hq h0
          rw [h1] at hnext HN
          generalize (Utf8.decode s pos).2 = d2 at *
          generalize (Utf8.decode s pos).1 = d1 at *
          subst h1
          go_wp2_with (go_at_call 133; refine (kin_any _ _).mono ?_; rintro e w' ⟨rfl, rfl⟩; rw [HR2.out])
          go_roundw
          case rel => exact ⟨pos + 1, hlt, HN, HM, Lib.hid (fun _ => HA.out)⟩
          case measure => rw [posOf_is HN.out.1, HPO.out]; omega
    · obtain rfl : pos = s.size := by omega
      have hnext := fun ty => Go.Lib.run_next_end_at (P := Tryz.prog) wr g0 s s.size ty hit.out.1 hlt
      have HS := Lib.hid (lead_end hat.out hle.out)
      go_wp2
      go_ret
      exact ⟨ret_str (by rw [HS.out]), hit.out.2⟩
theorem bl_wide (s : ByteArray) : ∀ (d pos : Nat), pos + d ≤ s.size → (∀ j, pos ≤ j → j < pos + d → 128 ≤ (s.get! j).toNat) → blS true ((bs s).drop pos) = d + blS true ((bs s).drop (pos + d))
  | 0, pos, _, _ => by simp
  | d + 1, pos, h, hj => by
    have h0 := hj pos (Nat.le_refl _) (by omega)
    have h35 : s.get! pos ≠ 35 := by intro e; rw [e] at h0; exact absurd h0 (by decide)
    have h10 : s.get! pos ≠ 10 := by intro e; rw [e] at h0; exact absurd h0 (by decide)
    have hn : noteS true (s.get! pos) = true := by unfold noteS; rw [if_neg h35, if_neg h10]
    have hp : passB true (s.get! pos) = true := by unfold passB; rw [hn]; rfl
    rw [drop_at (by omega), bl_step hp, hn, bl_wide s d (pos + 1) (by omega) (fun j h1 h2 => hj j (by omega) (by omega))]
    have e : pos + 1 + d = pos + (d + 1) := by omega
    rw [e]; omega
/-- on the way over what is passed over -/
def BlTo (s : ByteArray) (pos : Nat) (nt : Bool) : Prop := blS false (bs s) = pos + blS nt ((bs s).drop pos)
theorem BlTo.first (s : ByteArray) : BlTo s 0 false := by unfold BlTo; simp
theorem BlTo.step {s : ByteArray} {pos : Nat} {nt : Bool} (h : BlTo s pos nt) (hlt : pos < s.size) (hp : passB nt (s.get! pos) = true) : BlTo s (pos + 1) (noteS nt (s.get! pos)) := by
  unfold BlTo at *
  rw [h, drop_at hlt, bl_step hp]; omega
theorem BlTo.stop {s : ByteArray} {pos : Nat} {nt : Bool} (h : BlTo s pos nt) (hlt : pos < s.size) (hp : passB nt (s.get! pos) = false) : blS false (bs s) = pos := by
  unfold BlTo at *
  rw [h, drop_at hlt, bl_stop hp]; omega
theorem BlTo.wide {s : ByteArray} {pos : Nat} (h : BlTo s pos true) (hlt : pos < s.size) (hp : 128 ≤ (s.get! pos).toNat) : BlTo s (pos + (Utf8.decode s pos).2) true := by
  unfold BlTo at *
  have hd := decode_len s pos hlt
  rw [h, bl_wide s (Utf8.decode s pos).2 pos hd.1 (fun j h1 h2 => by
    rcases Nat.eq_or_lt_of_le h1 with rfl | h3
    · exact hp
    · exact hd.2 j h3 h2)]
  omega
theorem BlTo.ends {s : ByteArray} {nt : Bool} (h : BlTo s s.size nt) : blS false (bs s) = s.size := by
  unfold BlTo at *
  rw [h, List.drop_eq_nil_of_le (by rw [bs_len]; exact Nat.le_refl _)]; rfl
set_option maxHeartbeats 1000000 in
theorem kblanks_any (s : ByteArray) (w : World) (hs : s.size ≤ 1000000) :
    Calls Tryz.prog 101 #[.string s] w (KeptPost (.int .i64 (blS false (bs s) : Nat)) w) := by
  have H0 : Hid ((w.iter s 0).heap[w.heap.size]? = some (.stringIter s 0) ∧ Kept w (w.iter s 0)) := Lib.hid ⟨World.iter_heap w s 0, Fr.of_alloc _ _ _⟩
  have H1 : Hid (BlTo s 0 false) := Lib.hid (.first s)
  go_enter Tryz.func101, Tryz.ntmps101
  go_wp2
  generalize hg : w.heap.size = g0 at H0 ⊢
  have HG := Lib.hid hg
  clear hg
  generalize w.iter s 0 = w1 at H0 ⊢
  go_loopw [3] (fun v wr => ∃ (pos : Nat) (nt : Bool), v = .bool nt ∧ pos ≤ s.size ∧ Hid (wr.heap[g0]? = some (.stringIter s pos) ∧ Kept w wr) ∧ Hid (BlTo s pos nt)) (fun _ wr => s.size - posOf wr g0)
  case atStart => exact ⟨0, false, rfl, Nat.zero_le _, H0, H1⟩
  case round =>
    obtain ⟨pos, nt, rfl, hps, hit, hat⟩ := hrel
    clear H0 H1
    have HPO : Hid (posOf wr g0 = pos) := Lib.hid (posOf_is hit.out.1)
    by_cases hlt : pos < s.size
    · have hnext := fun ty => Go.Lib.run_next_any_at (P := Tryz.prog) wr g0 s pos ty hit.out.1 hlt
      have HN : Hid ((wr.iterAt g0 s (pos + (Utf8.decode s pos).2)).heap[g0]? = some (.stringIter s (pos + (Utf8.decode s pos).2)) ∧ Kept w (wr.iterAt g0 s (pos + (Utf8.decode s pos).2))) := Lib.hid ⟨Go.Lib.iterAt_heap wr g0 s pos _ hit.out.1, iter_kept hit.out.2 (by rw [HG.out]; exact Nat.le_refl _)⟩
      have HD : Hid (1 ≤ (Utf8.decode s pos).2 ∧ pos + (Utf8.decode s pos).2 ≤ s.size) := Lib.hid ⟨wide_pos hlt, (decode_len s pos hlt).1⟩
      have HB := Lib.hid (rune_tells blank_byte (fun r h => rblank_far h) hlt)
      by_cases h128 : (s.get! pos).toNat < 128
      · have hd := decode_small hlt h128
        have HST : Hid (passB nt (s.get! pos) = true → BlTo s (pos + 1) (noteS nt (s.get! pos))) := Lib.hid (hat.out.step hlt)
        have HSP : Hid (passB nt (s.get! pos) = false → blS false (bs s) = pos) := Lib.hid (hat.out.stop hlt)
        rw [hd] at hnext HN HB
        simp only at hnext HN HB
        clear hd HD
        generalize s.get! pos = c at *
        by_cases e35 : c = 35
        · have g35 := eq_yes 35 35 rfl (by omega) e35
          have HP1 : Hid (BlTo s (pos + 1) true) := Lib.hid (by
            have h1 : noteS nt c = true := by unfold noteS; rw [if_pos e35]
            have h2 := HST.out (by unfold passB; rw [h1]; rfl)
            rw [h1] at h2; exact h2)
          clear e35 HST HSP HB h128
          go_wp2
          all_goals
            go_roundw
            case rel => exact ⟨pos + 1, true, rfl, hlt, HN, HP1⟩
            case measure => rw [posOf_is HN.out.1, HPO.out]; omega
        · have g35 := eq_no 35 35 rfl (by omega) e35
          by_cases e10 : c = 10
          · have g10 : ((c.toNat : Int) != 10) = false := by subst e10; rfl
            have HR : Hid (rBlank (c.toNat : Int) = true) := Lib.hid (by subst e10; rfl)
            have HP1 : Hid (BlTo s (pos + 1) false) := Lib.hid (by
              have h1 : noteS nt c = false := by unfold noteS; rw [if_neg e35, if_pos e10]
              have h2 := HST.out (by unfold passB; rw [h1, e10]; rfl)
              rw [h1] at h2; exact h2)
            clear e35 e10 HST HSP HB h128
            cases nt
            all_goals
              go_wp2_with (go_at_call 129; refine (kblank_any _ _).mono ?_; rintro e w' ⟨rfl, rfl⟩; rw [HR.out])
              go_roundw
              case rel => exact ⟨pos + 1, false, rfl, hlt, HN, HP1⟩
              case measure => rw [posOf_is HN.out.1, HPO.out]; omega
          · have g10 : ((c.toNat : Int) != 10) = true := by rw [bne, eq_no 10 10 rfl (by omega) e10]; rfl
            have hnn : noteS nt c = nt := by unfold noteS; rw [if_neg e35, if_neg e10]
            cases nt
            · cases hb : tBlank c
              · have HR : Hid (rBlank (c.toNat : Int) = false) := Lib.hid (HB.out.1.trans hb)
                have HA := Lib.hid (HSP.out (by unfold passB; rw [hnn, hb]; rfl))
                clear e35 e10 HST HSP HB h128 hnn hb
                go_wp2_with (go_at_call 129; refine (kblank_any _ _).mono ?_; rintro e w' ⟨rfl, rfl⟩; rw [HR.out])
                go_ret
                exact ⟨ret_int (by rw [HA.out]), HN.out.2⟩
              · have HR : Hid (rBlank (c.toNat : Int) = true) := Lib.hid (HB.out.1.trans hb)
                have HP1 : Hid (BlTo s (pos + 1) false) := Lib.hid (by
                  have h2 := HST.out (by unfold passB; rw [hnn, hb]; rfl)
                  rw [hnn] at h2; exact h2)
                clear e35 e10 HST HSP HB h128 hnn hb
                go_wp2_with (go_at_call 129; refine (kblank_any _ _).mono ?_; rintro e w' ⟨rfl, rfl⟩; rw [HR.out])
                go_roundw
                case rel => exact ⟨pos + 1, false, rfl, hlt, HN, HP1⟩
                case measure => rw [posOf_is HN.out.1, HPO.out]; omega
            · have HP1 : Hid (BlTo s (pos + 1) true) := Lib.hid (by
                have h2 := HST.out (by unfold passB; rw [hnn]; rfl)
                rw [hnn] at h2; exact h2)
              clear e35 e10 HST HSP HB h128 hnn
              go_wp2
              go_roundw
              case rel => exact ⟨pos + 1, true, rfl, hlt, HN, HP1⟩
              case measure => rw [posOf_is HN.out.1, HPO.out]; omega
      · have hfar := decode_far hlt (by omega : 128 ≤ (s.get! pos).toNat)
        have hnn : noteS nt (s.get! pos) = nt := by
          unfold noteS
          rw [if_neg (by intro e; rw [e] at h128; exact h128 (by decide)), if_neg (by intro e; rw [e] at h128; exact h128 (by decide))]
        have hb : tBlank (s.get! pos) = false := by
          rw [← blank_byte]
          exact rblank_far (by omega)
        have HR : Hid (rBlank ((Utf8.decode s pos).1 : Nat) = false) := Lib.hid (HB.out.1.trans hb)
        cases nt
        · have HA := Lib.hid (hat.out.stop hlt (by unfold passB; rw [hnn, hb]; rfl))
          clear h128 hnn hb HB HD
          generalize (Utf8.decode s pos).2 = d2 at *
          generalize (Utf8.decode s pos).1 = d1 at *
          have g35 : ((d1 : Int) == 35) = false := by rw [beq_eq_false_iff_ne]; omega
          have g10 : ((d1 : Int) != 10) = true := by rw [bne_iff_ne]; omega
          clear hfar
          go_wp2_with (go_at_call 129; refine (kblank_any _ _).mono ?_; rintro e w' ⟨rfl, rfl⟩; rw [HR.out])
          go_ret
          exact ⟨ret_int (by rw [HA.out]), HN.out.2⟩
        · have HP1 := Lib.hid (hat.out.wide hlt (by omega))
          clear h128 hnn hb HB
          generalize (Utf8.decode s pos).2 = d2 at *
          generalize (Utf8.decode s pos).1 = d1 at *
          have g35 : ((d1 : Int) == 35) = false := by rw [beq_eq_false_iff_ne]; omega
          have g10 : ((d1 : Int) != 10) = true := by rw [bne_iff_ne]; omega
          clear hfar
          go_wp2
          go_roundw
          case rel => exact ⟨pos + d2, true, rfl, HD.out.2, HN, HP1⟩
          case measure => rw [posOf_is HN.out.1, HPO.out]; have := HD.out; omega
    · obtain rfl : pos = s.size := by omega
      have hnext := fun ty => Go.Lib.run_next_end_at (P := Tryz.prog) wr g0 s s.size ty hit.out.1 hlt
      have HS := Lib.hid hat.out.ends
      go_wp2
      go_ret
      exact ⟨ret_int (by rw [HS.out]), hit.out.2⟩
theorem bad_len (l : List UInt8) : decide ((0 : Int) < ((l.takeWhile tBad).length : Nat)) = !tFine l := by
  cases l with
  | nil => rfl
  | cons c r =>
    show _ = !(!tBad c)
    cases h : tBad c <;> simp [List.takeWhile_cons, h]
theorem ksticks_any (s : ByteArray) (w : World) (hs : s.size ≤ 1000000) :
    Calls Tryz.prog 104 #[.string s] w (KeptPost (.bool (!tFine (bs s))) w) := by
  have HC : Hid (∀ W, Calls Tryz.prog 120 #[.string s, .func (.func 132) #[] #[]] W (KeptPost (.int .i64 (((bs s).takeWhile tBad).length : Nat)) W)) :=
    Lib.hid (fun W => klead_any 132 rBad tBad (fun args w => by kernel_rfl) kbad_any bad_byte (fun r h => rbad_far h) s W hs)
  have HB := Lib.hid (bad_len (bs s))
  generalize ((bs s).takeWhile tBad).length = n at *
  go_enter Tryz.func104, Tryz.ntmps104
  go_wp2_with fail
  refine (HC.out _).mono ?_
  rintro e w1 ⟨rfl, hk⟩
  have HK := Lib.hid hk
  clear hk
  go_wp2
  all_goals
    go_ret
    exact ⟨ret_bool (by rw [← HB.out]; simp), HK.out⟩

open Go.RowKit Go.ChangeShapes Go.WideShapes
theorem fix_none {s : List UInt8} (h : ∀ j, j < 8 → fixL j ≠ s) : fixK s = 0 := by
  unfold fixK
  rw [if_neg (fun e => h 2 (by decide) e.symm), if_neg (fun e => h 3 (by decide) e.symm), if_neg (fun e => h 4 (by decide) e.symm), if_neg (fun e => h 5 (by decide) e.symm), if_neg (fun e => h 6 (by decide) e.symm), if_neg (fun e => h 7 (by decide) e.symm)]
theorem fix_hit {s : List UInt8} {k : Nat} (hk : k < 8) (h : ∀ j, j < k → fixL j ≠ s) (e : fixL k = s) : fixK s = (k : Int) := by
  have hc : k = 0 ∨ k = 1 ∨ k = 2 ∨ k = 3 ∨ k = 4 ∨ k = 5 ∨ k = 6 ∨ k = 7 := by omega
  rcases hc with rfl | rfl | rfl | rfl | rfl | rfl | rfl | rfl
  · rw [← e]; decide
  · exact absurd e (h 0 (by decide))
  all_goals (rw [← e]; decide)
theorem idx8 (k : Nat) (hk : k < 8) (W : World) : (Instr.index 155 (.agg #[.string (strOf (fixL 0)), .string (strOf (fixL 1)), .string (strOf (fixL 2)), .string (strOf (fixL 3)), .string (strOf (fixL 4)), .string (strOf (fixL 5)), .string (strOf (fixL 6)), .string (strOf (fixL 7))]) (.int .i64 (k : Int))).run Tryz.prog W = .ok (.string (strOf (fixL k))) W := by
  have hc : k = 0 ∨ k = 1 ∨ k = 2 ∨ k = 3 ∨ k = 4 ∨ k = 5 ∨ k = 6 ∨ k = 7 := by omega
  rcases hc with rfl | rfl | rfl | rfl | rfl | rfl | rfl | rfl <;> simp [Instr.index, run_underlying Tryz.underlying155, asInt, asIntOf, part, Tryz.isAgg9]
theorem idx6 (k : Nat) (hk : k < 6) (W : World) : (Instr.index 152 (.agg #[.string (strOf (tPre 0)), .string (strOf (tPre 1)), .string (strOf (tPre 2)), .string (strOf (tPre 3)), .string (strOf (tPre 4)), .string (strOf (tPre 5))]) (.int .i64 (k : Int))).run Tryz.prog W = .ok (.string (strOf (tPre k))) W := by
  have hc : k = 0 ∨ k = 1 ∨ k = 2 ∨ k = 3 ∨ k = 4 ∨ k = 5 := by omega
  rcases hc with rfl | rfl | rfl | rfl | rfl | rfl <;> simp [Instr.index, run_underlying Tryz.underlying152, asInt, asIntOf, part, Tryz.isAgg9]
set_option maxHeartbeats 1000000 in
theorem kfixed_any (s : ByteArray) (w : World) (hL : LaidT w) :
    Calls Tryz.prog 119 #[.string s] w fun e w' => e = .returned (.int .i64 (fixK (bs s))) ∧ w = w' := by
  have f0 := hL.fix 0 (by decide)
  have f1 := hL.fix 1 (by decide)
  have f2 := hL.fix 2 (by decide)
  have f3 := hL.fix 3 (by decide)
  have f4 := hL.fix 4 (by decide)
  have f5 := hL.fix 5 (by decide)
  have f6 := hL.fix 6 (by decide)
  have f7 := hL.fix 7 (by decide)
  clear hL
  go_enter Tryz.func119, Tryz.ntmps119
  go_wp2
  clear f0 f1 f2 f3 f4 f5 f6 f7
  go_loop [6] (fun i => ∃ k : Nat, k ≤ 8 ∧ i = .int .i64 k ∧ Hid (∀ j, j < k → fixL j ≠ bs s)) (fun i => 8 - (intOf i).toNat)
  case atStart => exact ⟨0, by omega, rfl, Lib.hid (fun j h => by omega)⟩
  case round =>
    obtain ⟨k, hk, rfl, hall⟩ := hrel
    by_cases hlt : k < 8
    · have hlti : (k : Int) < 8 := by omega
      have hidx := idx8 k hlt
      by_cases he : fixL k = bs s
      · have HA := Lib.hid (fix_hit hlt hall.out he)
        have hq : ((strOf (fixL k)).toList == s.toList) = true := by rw [bs_toList, bs_strOf, bs_toList, he]; simp
        clear he
        generalize strOf (fixL k) = x at *
        go_wp2
        go_ret
        exact ⟨ret_int HA.out.symm, rfl⟩
      · have HA : Hid (∀ j, j < k + 1 → fixL j ≠ bs s) := Lib.hid (fun j hj => by
          rcases Nat.lt_or_ge j k with h | h
          · exact hall.out j h
          · obtain rfl : j = k := by omega
            exact he)
        have hq : ((strOf (fixL k)).toList == s.toList) = false := by rw [bs_toList, bs_strOf, bs_toList]; simpa using he
        clear he
        generalize strOf (fixL k) = x at *
        go_wp2
        go_round
        case rel => exact ⟨k + 1, by omega, by go_num, HA⟩
        case measure => simp [intOf]; omega
    · have hlti : ¬ (k : Int) < 8 := by omega
      have HA := Lib.hid (fix_none (fun j hj => hall.out j (by omega)))
      go_wp2
      go_ret
      exact ⟨ret_int HA.out.symm, rfl⟩
theorem fixw_all (k : Int) : wordS ⟨k, [], 0⟩ = if 0 ≤ k ∧ k < 8 then fixL k.toNat else [] := by
  by_cases h1 : k = 1
  · subst h1; decide
  by_cases h8 : k = 8
  · subst h8; decide
  by_cases h9 : k = 9
  · subst h9; decide
  rw [word_plain k [] 0 h1 h8 h9, if_pos ⟨rfl, rfl⟩]
  by_cases h : 0 ≤ k ∧ k < 8
  · rw [if_pos h]
    obtain ⟨n, rfl⟩ : ∃ n : Nat, k = n := ⟨k.toNat, by omega⟩
    have hc : n = 0 ∨ n = 2 ∨ n = 3 ∨ n = 4 ∨ n = 5 ∨ n = 6 ∨ n = 7 := by omega
    rcases hc with rfl | rfl | rfl | rfl | rfl | rfl | rfl <;> decide
  · rw [if_neg h, if_neg (by omega), if_neg (by omega), if_neg (by omega), if_neg (by omega), if_neg (by omega), if_neg (by omega)]
theorem kfixword_any (k : Int) (w : World) (hL : LaidT w) :
    Calls Tryz.prog 92 #[.int .i64 k] w fun e w' => e = .returned (.string (strOf (wordS ⟨k, [], 0⟩))) ∧ w = w' := by
  have HW := Lib.hid (fixw_all k)
  by_cases h0 : k < 0
  · have HA : Hid (wordS ⟨k, [], 0⟩ = []) := Lib.hid (by rw [HW.out, if_neg (by omega)])
    clear hL
    go_enter Tryz.func92, Tryz.ntmps92
    go_wp2
    go_ret
    exact ⟨ret_str (by rw [HA.out]; rfl), rfl⟩
  · by_cases h7 : 8 ≤ k
    · have HA : Hid (wordS ⟨k, [], 0⟩ = []) := Lib.hid (by rw [HW.out, if_neg (by omega)])
      clear hL
      go_enter Tryz.func92, Tryz.ntmps92
      go_wp2
      go_ret
      exact ⟨ret_str (by rw [HA.out]; rfl), rfl⟩
    · obtain ⟨n, rfl⟩ : ∃ n : Nat, k = n := ⟨k.toNat, by omega⟩
      have hn : n < 8 := by omega
      have HA : Hid (wordS ⟨(n : Int), [], 0⟩ = fixL n) := Lib.hid (by rw [HW.out, if_pos (by omega)]; rfl)
      have c0 := hL.fix n hn
      have g0 : ¬ (n : Int) < 0 := by omega
      have g8 : ¬ (8 : Int) ≤ (n : Int) := by omega
      have g9 : (n : Int) < 8 := by omega
      clear h0 h7 hL HW
      generalize hx : strOf (fixL n) = x at *
      have HX := Lib.hid hx
      clear hx
      go_enter Tryz.func92, Tryz.ntmps92
      go_wp2
      go_ret
      exact ⟨ret_str (by rw [HA.out]; exact HX.out.symm), rfl⟩

open Go.RowKit Go.ChangeShapes Go.WideShapes
/-- a letter -/
def amLetB (c : UInt8) : Bool := decide (97 ≤ (c.toNat : Int) ∧ (c.toNat : Int) ≤ 122)
/-- a further byte -/
def amFurB (c : UInt8) : Bool := decide ((48 ≤ (c.toNat : Int) ∧ (c.toNat : Int) ≤ 57) ∨ (c.toNat : Int) = 45 ∨ (c.toNat : Int) = 46)
def amOkB (c : UInt8) : Bool := amLetB c || amFurB c
/-- may be a name -/
def amMayB (s : List UInt8) : Bool := decide (1 ≤ s.length ∧ s.length ≤ 24) && (s.head?.map amLetB).getD false && s.all amOkB

set_option maxHeartbeats 400000 in
theorem amLetter_any (c : UInt8) (w : World) :
    Calls Tryz.prog 117 #[.int .u8 c.toNat] w fun e w' => e = .returned (.bool (amLetB c)) ∧ w = w' := by
  have hc := c.toNat_lt
  unfold amLetB
  go_enter Tryz.func117, Tryz.ntmps117
  go_wp2
  all_goals (go_ret; exact ⟨ret_bool (by simp; try omega), rfl⟩)

set_option maxHeartbeats 400000 in
theorem amFurther_any (c : UInt8) (w : World) :
    Calls Tryz.prog 118 #[.int .u8 c.toNat] w fun e w' => e = .returned (.bool (amFurB c)) ∧ w = w' := by
  have hc := c.toNat_lt
  unfold amFurB
  go_enter Tryz.func118, Tryz.ntmps118
  go_wp2
  all_goals (go_ret; exact ⟨ret_bool (by first | rfl | (rw [Bool.eq_iff_iff]; simp; done) | (rw [Bool.eq_iff_iff]; simp; omega)), rfl⟩)

theorem am_all_take (p : UInt8 → Bool) (s : ByteArray) (k : Nat) (h : k < s.size) :
    (s.data.toList.take (k + 1)).all p = ((s.data.toList.take k).all p && p s[k]) := by
  rw [List.take_succ_eq_append_getElem (by simpa using h)]
  simp [List.all_append]
  rfl

set_option maxHeartbeats 400000 in
theorem amay0_any (s : ByteArray) (w : World) (hs : s.size ≤ maxLen) :
    Calls Tryz.prog 86 #[.string s] w fun e w' => e = .returned (.bool (amMayB s.data.toList)) ∧ w = w' := by
  unfold maxLen at hs
  have hlen : s.data.toList.length = s.size := by simp
  by_cases h0 : s.size = 0
  · have hv : Hid (amMayB s.data.toList = false) := by simp [Hid, amMayB, hlen, h0]
    go_enter Tryz.func86, Tryz.ntmps86
    go_wp2
    go_ret
    exact ⟨ret_bool hv.out.symm, rfl⟩
  by_cases h1 : 24 < s.size
  · have hv : Hid (amMayB s.data.toList = false) := by simp [Hid, amMayB, hlen]; omega
    go_enter Tryz.func86, Tryz.ntmps86
    go_wp2
    go_ret
    exact ⟨ret_bool hv.out.symm, rfl⟩
  have hp : 0 < s.size := by omega
  have hhead : s.data.toList.head? = some s[0] := by
    rw [List.head?_eq_getElem?, List.getElem?_eq_getElem (by simpa using hp)]; rfl
  by_cases h2 : amLetB s[0] = false
  · have hv : Hid (amMayB s.data.toList = false) := by simp [Hid, amMayB, hhead, h2]
    clear hhead
    go_enter Tryz.func86, Tryz.ntmps86
    go_wp2_with (go_at_call 117; refine (amLetter_any _ _).mono ?_; rintro e w' ⟨rfl, rfl⟩)
    go_ret
    exact ⟨ret_bool hv.out.symm, rfl⟩
  have h3 : amLetB s[0] = true := by simpa using h2
  have hv : Hid (amMayB s.data.toList = s.data.toList.all amOkB) := by
    simp [Hid, amMayB, hhead, h3]; intro _; omega
  have g0 : ((s.size : Int) == 0) = false := by simpa using h0
  have g1 : decide (24 < (s.size : Int)) = false := by simp; omega
  clear hhead h2 h0 h1 hlen
  go_enter Tryz.func86, Tryz.ntmps86
  go_wp2_with (go_at_call 117; refine (amLetter_any _ _).mono ?_; rintro e w' ⟨rfl, rfl⟩)
  clear h3 g0 g1
  go_loop [3, 20] (fun _ i => ∃ k : Nat, k ≤ s.size ∧ i = .int .i64 k ∧ (s.data.toList.take k).all amOkB = true) (fun _ i => s.size - (intOf i).toNat)
  case atStart => exact ⟨0, by omega, rfl, rfl⟩
  case round =>
    obtain ⟨k, hk, rfl, hall⟩ := hrel
    have Hall := Lib.hid hall
    clear hall
    by_cases hlt : k < s.size
    · have hts := Lib.hid (am_all_take amOkB s k hlt)
      cases hl : amLetB s[k]
      · cases hf : amFurB s[k]
        · go_wp2_with (first | (go_at_call 117; refine (amLetter_any _ _).mono ?_; rintro e w' ⟨rfl, rfl⟩) | (go_at_call 118; refine (amFurther_any _ _).mono ?_; rintro e w' ⟨rfl, rfl⟩))
          go_ret
          refine ⟨ret_bool ?_, rfl⟩
          rw [hv.out]
          symm
          rw [List.all_eq_false]
          exact ⟨s[k], by simp [ByteArray.getElem_eq_getElem_data], by simp [amOkB, hl, hf]⟩
        · go_wp2_with (first | (go_at_call 117; refine (amLetter_any _ _).mono ?_; rintro e w' ⟨rfl, rfl⟩) | (go_at_call 118; refine (amFurther_any _ _).mono ?_; rintro e w' ⟨rfl, rfl⟩))
          go_round
          case rel => exact ⟨k + 1, by omega, by go_num, by rw [hts.out, Hall.out]; simp [amOkB, hl, hf]⟩
          case measure => simp [intOf]; omega
      · go_wp2_with (first | (go_at_call 117; refine (amLetter_any _ _).mono ?_; rintro e w' ⟨rfl, rfl⟩) | (go_at_call 118; refine (amFurther_any _ _).mono ?_; rintro e w' ⟨rfl, rfl⟩))
        go_round
        case rel => exact ⟨k + 1, by omega, by go_num, by rw [hts.out, Hall.out]; simp [amOkB, hl]⟩
        case measure => simp [intOf]; omega
    · go_wp2
      go_ret
      refine ⟨ret_bool ?_, rfl⟩
      rw [hv.out]
      have := Hall.out
      rw [List.take_of_length_le (by simp; omega)] at this
      exact this.symm
theorem am_let (c : UInt8) : amLetB c = tLet c := by unfold amLetB tLet; rw [decide_eq_decide]; omega
theorem am_ok (c : UInt8) : amOkB c = tIn c := by
  have h1 := dig_byte c
  have h2 := byte_is c 45 45 rfl (by omega)
  have h3 := byte_is c 46 46 rfl (by omega)
  unfold amOkB tIn
  rw [am_let, ← h1, show (c == 45) = (c == UInt8.ofNat 45) from rfl, show (c == 46) = (c == UInt8.ofNat 46) from rfl, ← h2, ← h3]
  unfold amFurB rDig
  simp only [Bool.decide_or]
theorem am_may (l : List UInt8) : amMayB l = tMay l := by
  unfold amMayB tMay
  rw [show amLetB = tLet from funext am_let, show amOkB = tIn from funext am_ok, Bool.and_assoc]
theorem amay_any (s : ByteArray) (w : World) (hs : s.size ≤ maxLen) :
    Calls Tryz.prog 86 #[.string s] w fun e w' => e = .returned (.bool (tMay (bs s))) ∧ w = w' := by
  rw [← am_may]
  exact amay0_any s w hs

end Go.Proofs.YtbfealhbdemhmaaGreatDoor
