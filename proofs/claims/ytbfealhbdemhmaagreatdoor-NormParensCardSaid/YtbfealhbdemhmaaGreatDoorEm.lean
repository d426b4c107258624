/- Contracts and lemmas: Em -/
import Derived.Test.YtbfealhbdemhmaaGreatDoorLe
namespace Go.Proofs.YtbfealhbdemhmaaGreatDoor
set_option linter.unusedVariables false
set_option linter.unusedSimpArgs false
/-- how closely a sign binds; 0: it is none -/
def bindS (k : Int) : Nat := if k = 2 then 1 else if k = 3 then 2 else if k = 4 then 3 else if k = 5 then 4 else 0
theorem bind_le (k : Int) : bindS k ≤ 4 := by unfold bindS; split <;> (try split) <;> (try split) <;> (try split) <;> omega
theorem bind_cases {k : Int} (h : bindS k ≠ 0) : k = 2 ∨ k = 3 ∨ k = 4 ∨ k = 5 := by
  unfold bindS at h
  by_cases h2 : k = 2
  · exact .inl h2
  · by_cases h3 : k = 3
    · exact .inr (.inl h3)
    · by_cases h4 : k = 4
      · exact .inr (.inr (.inl h4))
      · by_cases h5 : k = 5
        · exact .inr (.inr (.inr h5))
        · rw [if_neg h2, if_neg h3, if_neg h4, if_neg h5] at h; exact absurd rfl h
/-- a token without a name -/
def opT (k : Int) : Tok := ⟨k, [], 0⟩
/-- an atom that is written -/
def AtomOk (t : Tok) : Prop := t.kind = 1 ∧ wordS t ≠ []
/-- an expression -/
inductive Ex where
  | atom (t : Tok)
  | bin (op : Int) (a b : Ex)
def Ex.lvl : Ex → Nat
  | .atom _ => 5
  | .bin op _ _ => bindS op
/-- in postfix form -/
def Ex.post : Ex → List Tok
  | .atom t => [t]
  | .bin op a b => a.post ++ (b.post ++ [opT op])
def Ex.Ok : Ex → Prop
  | .atom t => AtomOk t
  | .bin op a b => bindS op ≠ 0 ∧ a.Ok ∧ b.Ok ∧ (op = 5 → ∃ t, b = .atom t ∧ t.of = 5)
def Ex.deep : Ex → Nat
  | .atom _ => 1
  | .bin _ a b => max a.deep b.deep + 1
/-- an expression with its parentheses -/
inductive PT where
  | atom (t : Tok)
  | par (p : PT)
  | bin (op : Int) (a b : PT)
def PT.toks : PT → List Tok
  | .atom t => [t]
  | .par p => opT 6 :: (p.toks ++ [opT 7])
  | .bin op a b => a.toks ++ opT op :: b.toks
def PT.ex : PT → Ex
  | .atom t => .atom t
  | .par p => p.ex
  | .bin op a b => .bin op a.ex b.ex
def PT.lev : PT → Nat
  | .atom _ => 5
  | .par _ => 5
  | .bin op _ _ => bindS op
def PT.Ok : PT → Prop
  | .atom t => AtomOk t
  | .par p => p.Ok
  | .bin op a b => bindS op ≠ 0 ∧ bindS op ≤ a.lev ∧ bindS op < b.lev ∧ a.Ok ∧ b.Ok ∧ (op = 5 → ∃ t, b = .atom t ∧ t.of = 5)
def PT.dep : PT → Nat
  | .atom _ => 0
  | .par p => p.dep + 1
  | .bin _ a b => max a.dep b.dep
/-- how many parentheses -/
def PT.cnt : PT → Nat
  | .atom _ => 0
  | .par p => p.cnt + 1
  | .bin _ a b => a.cnt + b.cnt
theorem PT.lev_pos {p : PT} (h : p.Ok) : 1 ≤ p.lev := by
  cases p with
  | atom t => simp [PT.lev]
  | par p => simp [PT.lev]
  | bin op a b => have := h.1; simp only [PT.lev]; omega
theorem PT.lev_le (p : PT) : p.lev ≤ 5 := by
  cases p with
  | atom t => simp [PT.lev]
  | par p => simp [PT.lev]
  | bin op a b => have := bind_le op; simp only [PT.lev]; omega
theorem PT.toks_ne (p : PT) : p.toks ≠ [] := by
  cases p <;> simp [PT.toks]
theorem PT.toks_pos (p : PT) : 0 < p.toks.length := List.length_pos_iff.2 p.toks_ne
theorem Ex.post_ne (e : Ex) : e.post ≠ [] := by
  cases e <;> simp [Ex.post]
theorem PT.ex_ok : ∀ {p : PT}, p.Ok → p.ex.Ok
  | .atom t, h => h
  | .par p, h => PT.ex_ok (p := p) h
  | .bin op a b, h => ⟨h.1, PT.ex_ok h.2.2.2.1, PT.ex_ok h.2.2.2.2.1, fun e => by
      obtain ⟨t, ht, ho⟩ := h.2.2.2.2.2 e
      subst ht
      exact ⟨t, rfl, ho⟩⟩
/-- the signs and atoms in their order -/
def Ex.inf : Ex → List Tok
  | .atom t => [t]
  | .bin op a b => a.inf ++ opT op :: b.inf
def notPar (t : Tok) : Bool := decide (t.kind ≠ 6 ∧ t.kind ≠ 7)
theorem atom_notPar {t : Tok} (h : AtomOk t) : notPar t = true := by
  unfold notPar
  rw [h.1]
  decide
theorem op_notPar {k : Int} (h : bindS k ≠ 0) : notPar (opT k) = true := by
  rcases bind_cases h with rfl | rfl | rfl | rfl <;> decide
theorem PT.inf : ∀ {p : PT}, p.Ok → p.toks.filter notPar = p.ex.inf
  | .atom t, h => by simp [PT.toks, PT.ex, Ex.inf, atom_notPar h]
  | .par p, h => by
    have ih := PT.inf (p := p) h
    have h6 : notPar (opT 6) = false := by decide
    have h7 : notPar (opT 7) = false := by decide
    simp [PT.toks, PT.ex, List.filter_append, h6, h7, ih]
  | .bin op a b, h => by
    have ia := PT.inf h.2.2.2.1
    have ib := PT.inf h.2.2.2.2.1
    simp [PT.toks, PT.ex, Ex.inf, List.filter_append, op_notPar h.1, ia, ib]
theorem Ex.inf_len : ∀ e : Ex, e.inf.length = e.post.length
  | .atom t => rfl
  | .bin op a b => by
    have ia := Ex.inf_len a
    have ib := Ex.inf_len b
    simp [Ex.inf, Ex.post, ia, ib]
/-- how many opened -/
def openN (l : List Tok) : Nat := (l.filter (fun t => decide (t.kind = 6))).length
theorem PT.openN_is : ∀ {p : PT}, p.Ok → openN p.toks = p.cnt
  | .atom t, h => by simp [PT.toks, PT.cnt, openN, h.1]
  | .par p, h => by
    have ih := PT.openN_is (p := p) h
    unfold openN at *
    simp [PT.toks, PT.cnt, List.filter_append, opT, ih]
  | .bin op a b, h => by
    have ia := PT.openN_is h.2.2.2.1
    have ib := PT.openN_is h.2.2.2.2.1
    have ho : decide ((opT op).kind = 6) = false := by rcases bind_cases h.1 with rfl | rfl | rfl | rfl <;> decide
    unfold openN at *
    simp only [PT.toks, PT.cnt, List.filter_append, List.length_append, List.filter_cons, ho]
    simp [ia, ib]
/-! the written form -/
def canS : Nat → Ex → PT
  | _, .atom t => .atom t
  | v, .bin op a b => if bindS op < v then .par (.bin op (canS (bindS op) a) (canS (bindS op + 1) b)) else .bin op (canS (bindS op) a) (canS (bindS op + 1) b)
theorem can_par (v : Nat) (e : Ex) (h : e.lvl < v) (hv : v ≤ 5) (he : 1 ≤ e.lvl) : canS v e = .par (canS 1 e) := by
  cases e with
  | atom t => simp only [Ex.lvl] at h; omega
  | bin op a b =>
    simp only [Ex.lvl] at h he
    rw [canS, if_pos h, canS, if_neg (by omega)]
theorem can_none (v : Nat) (e : Ex) (h : ¬ e.lvl < v) (he : 1 ≤ e.lvl) : canS v e = canS 1 e := by
  cases e with
  | atom t => rfl
  | bin op a b =>
    simp only [Ex.lvl] at h he
    rw [canS, if_neg h, canS, if_neg (by omega)]
theorem Ex.lvl_pos {e : Ex} (h : e.Ok) : 1 ≤ e.lvl := by
  cases e with
  | atom t => simp [Ex.lvl]
  | bin op a b => have := h.1; simp only [Ex.lvl]; omega
theorem can_ex : ∀ (e : Ex) (v : Nat), (canS v e).ex = e
  | .atom t, v => rfl
  | .bin op a b, v => by
    have ia := can_ex a (bindS op)
    have ib := can_ex b (bindS op + 1)
    rw [canS]
    split <;> simp [PT.ex, ia, ib]
theorem can_lev : ∀ (e : Ex) (v : Nat), e.Ok → v ≤ 5 → v ≤ (canS v e).lev
  | .atom t, v, _, hv => by simpa [canS, PT.lev] using hv
  | .bin op a b, v, h, hv => by
    rw [canS]
    split
    · simpa [PT.lev] using hv
    · simp only [PT.lev]; omega
theorem can_ok : ∀ (e : Ex) (v : Nat), e.Ok → (canS v e).Ok
  | .atom t, v, h => h
  | .bin op a b, v, h => by
    have hb := bind_le op
    have ia := can_ok a (bindS op) h.2.1
    have ib := can_ok b (bindS op + 1) h.2.2.1
    have la := can_lev a (bindS op) h.2.1 (by omega)
    have lb := can_lev b (bindS op + 1) h.2.2.1 (by omega)
    have key : (PT.bin op (canS (bindS op) a) (canS (bindS op + 1) b)).Ok := ⟨h.1, la, by omega, ia, ib, fun e => by
      obtain ⟨t, ht, ho⟩ := h.2.2.2 e
      subst ht
      exact ⟨t, rfl, ho⟩⟩
    rw [canS]
    split
    · exact key
    · exact key
/-- what is written has no more parentheses, nor deeper ones -/
theorem can_few : ∀ (p : PT) (v : Nat), p.Ok → v ≤ p.lev → (canS v p.ex).cnt ≤ p.cnt ∧ (canS v p.ex).dep ≤ p.dep
  | .atom t, v, _, _ => ⟨Nat.le_refl _, Nat.le_refl _⟩
  | .par p, v, h, hv => by
    have hl := PT.lev_pos (p := p) h
    obtain ⟨i1, i2⟩ := can_few p 1 h hl
    have he := Ex.lvl_pos (PT.ex_ok (p := p) h)
    simp only [PT.lev] at hv
    show (canS v p.ex).cnt ≤ p.cnt + 1 ∧ (canS v p.ex).dep ≤ p.dep + 1
    by_cases hc : p.ex.lvl < v
    · rw [can_par v p.ex hc hv he]
      exact ⟨by simp only [PT.cnt]; omega, by simp only [PT.dep]; omega⟩
    · rw [can_none v p.ex hc he]
      exact ⟨by omega, by omega⟩
  | .bin op a b, v, h, hv => by
    simp only [PT.lev] at hv
    obtain ⟨a1, a2⟩ := can_few a (bindS op) h.2.2.2.1 h.2.1
    obtain ⟨b1, b2⟩ := can_few b (bindS op + 1) h.2.2.2.2.1 h.2.2.1
    show (canS v (.bin op a.ex b.ex)).cnt ≤ a.cnt + b.cnt ∧ (canS v (.bin op a.ex b.ex)).dep ≤ max a.dep b.dep
    rw [canS, if_neg (by omega)]
    simp only [PT.cnt, PT.dep]
    omega

/-- where a token stands that may not, or the end does -/
def chkS (hv ga : Bool) (op i : Nat) : List Tok → Option (Nat × Int)
  | [] => if hv = true ∧ op = 0 then none else some (i, 2)
  | t :: r =>
    if hv = false ∧ t.kind = 1 ∧ (ga = false ∨ t.of = 5) then chkS true false op (i + 1) r
    else if hv = false ∧ t.kind = 6 ∧ ga = false then (if op = 100 then some (i, 3) else chkS false false (op + 1) (i + 1) r)
    else if hv = true ∧ t.kind = 7 ∧ 0 < op then chkS true false (op - 1) (i + 1) r
    else if hv = true ∧ bindS t.kind ≠ 0 then chkS false (decide (t.kind = 5)) op (i + 1) r
    else some (i, 2)
/-- all of them are written -/
def WordsOk (l : List Tok) : Prop := ∀ t ∈ l, wordS t ≠ []
theorem tok_plain {t : Tok} (h : wordS t ≠ []) (h1 : t.kind ≠ 1) (h8 : t.kind ≠ 8) (h9 : t.kind ≠ 9) : t = opT t.kind := by
  obtain ⟨k, n, o⟩ := t
  unfold wordS at h
  simp only at h h1 h8 h9
  rw [if_neg h1, if_neg h8, if_neg h9] at h
  by_cases hc : n = [] ∧ o = 0
  · obtain ⟨rfl, rfl⟩ := hc; rfl
  · rw [if_neg hc] at h; exact absurd rfl h
theorem tok_op {t : Tok} (h : wordS t ≠ []) (hb : bindS t.kind ≠ 0) : t = opT t.kind := by
  apply tok_plain h <;> intro e <;> rw [e] at hb <;> exact absurd hb (by decide)
theorem tok_open {t : Tok} (h : wordS t ≠ []) (hb : t.kind = 6) : t = opT 6 := by
  have := tok_plain h (by omega) (by omega) (by omega)
  rwa [hb] at this
theorem tok_close {t : Tok} (h : wordS t ≠ []) (hb : t.kind = 7) : t = opT 7 := by
  have := tok_plain h (by omega) (by omega) (by omega)
  rwa [hb] at this
/-- an operand more, behind a sign -/
def insP : PT → Int → PT → PT
  | .bin o a c, op, b => if bindS op ≤ bindS o then .bin op (.bin o a c) b else .bin o a (insP c op b)
  | p, op, b => .bin op p b
theorem ins_toks : ∀ (p : PT) (op : Int) (b : PT), (insP p op b).toks = p.toks ++ opT op :: b.toks
  | .atom t, op, b => rfl
  | .par p, op, b => rfl
  | .bin o a c, op, b => by
    rw [insP]
    split
    · rfl
    · have ih := ins_toks c op b
      simp [PT.toks, ih]
theorem ins_lev : ∀ (p : PT) (op : Int) (b : PT), min (bindS op) p.lev ≤ (insP p op b).lev
  | .atom t, op, b => by simp only [insP, PT.lev]; omega
  | .par p, op, b => by simp only [insP, PT.lev]; omega
  | .bin o a c, op, b => by
    rw [insP]
    split
    · simp only [PT.lev]; omega
    · simp only [PT.lev]; omega
theorem ins_ok : ∀ (p : PT) (op : Int) (b : PT), p.Ok → bindS op ≠ 0 → b.Ok → b.lev = 5 → (op = 5 → ∃ t, b = .atom t ∧ t.of = 5) → (insP p op b).Ok
  | .atom t, op, b, hp, ho, hb, hl, h5 => ⟨ho, by have := bind_le op; simp only [PT.lev]; omega, by have := bind_le op; omega, hp, hb, h5⟩
  | .par p, op, b, hp, ho, hb, hl, h5 => ⟨ho, by have := bind_le op; simp only [PT.lev]; omega, by have := bind_le op; omega, hp, hb, h5⟩
  | .bin o a c, op, b, hp, ho, hb, hl, h5 => by
    have hop := bind_le op
    rw [insP]
    split
    · rename_i h
      exact ⟨ho, by simp only [PT.lev]; omega, by omega, hp, hb, h5⟩
    · rename_i h
      have ih := ins_ok c op b hp.2.2.2.2.1 ho hb hl h5
      have il := ins_lev c op b
      refine ⟨hp.1, hp.2.1, ?_, hp.2.2.2.1, ih, fun e => ?_⟩
      · have := hp.2.2.1; omega
      · rw [e] at h
        have h4 : bindS 5 = 4 := rfl
        omega
/-- what was begun: a left part and its sign -/
abbrev Beg := Option (PT × Int)
def begT : Beg → List Tok
  | none => []
  | some (p, op) => p.toks ++ [opT op]
def begOk : Beg → Prop
  | none => True
  | some (p, op) => p.Ok ∧ bindS op ≠ 0
def begAdd : Beg → PT → PT
  | none, b => b
  | some (p, op), b => insP p op b
def begAs : Beg → Bool
  | none => false
  | some (_, op) => decide (op = 5)
theorem begAdd_toks (f : Beg) (b : PT) : (begAdd f b).toks = begT f ++ b.toks := by
  cases f with
  | none => rfl
  | some x => obtain ⟨p, op⟩ := x; simp [begAdd, begT, ins_toks]
theorem begAdd_ok {f : Beg} {b : PT} (hf : begOk f) (hb : b.Ok) (hl : b.lev = 5) (h5 : begAs f = true → ∃ t, b = .atom t ∧ t.of = 5) : (begAdd f b).Ok := by
  cases f with
  | none => exact hb
  | some x =>
    obtain ⟨p, op⟩ := x
    exact ins_ok p op b hf.1 hf.2 hb hl (fun e => h5 (by simp [begAs, e]))
/-- the tokens of what is open -/
def stkT : List Beg → List Tok
  | [] => []
  | f :: s => stkT s ++ (begT f ++ [opT 6])
/-- what passes is an expression with its parentheses -/
theorem chk_tree : ∀ (r : List Tok) (i : Nat), WordsOk r →
    (∀ (f : Beg) (s : List Beg), begOk f → (∀ g ∈ s, begOk g ∧ begAs g = false) → chkS false (begAs f) s.length i r = none → ∃ p : PT, p.Ok ∧ p.toks = stkT s ++ (begT f ++ r)) ∧
    (∀ (q : PT) (s : List Beg), q.Ok → (∀ g ∈ s, begOk g ∧ begAs g = false) → chkS true false s.length i r = none → ∃ p : PT, p.Ok ∧ p.toks = stkT s ++ (q.toks ++ r))
  | [], i, _ => by
    refine ⟨fun f s hf hs h => ?_, fun q s hq hs h => ?_⟩
    · rw [chkS, if_neg (by simp)] at h; cases h
    · cases s with
      | nil => exact ⟨q, hq, by simp [stkT]⟩
      | cons g s => rw [chkS, if_neg (by simp)] at h; cases h
  | t :: r, i, hw => by
    have hwt := hw t (by simp)
    obtain ⟨ih1, ih2⟩ := chk_tree r (i + 1) (fun x hx => hw x (by simp [hx]))
    refine ⟨fun f s hf hs h => ?_, fun q s hq hs h => ?_⟩
    · rw [chkS] at h
      split at h
      · rename_i hc
        have hat : (PT.atom t).Ok := ⟨hc.2.1, hwt⟩
        obtain ⟨p, hp, ht⟩ := ih2 (begAdd f (.atom t)) s (begAdd_ok hf hat rfl (fun e => ⟨t, rfl, by
          rcases hc.2.2 with h1 | h1
          · rw [h1] at e; cases e
          · exact h1⟩)) hs h
        exact ⟨p, hp, by rw [ht, begAdd_toks]; simp [PT.toks]⟩
      · split at h
        · rename_i hc
          split at h
          · cases h
          · have ht6 := tok_open hwt hc.2.1
            obtain ⟨p, hp, ht⟩ := ih1 none (f :: s) trivial (by
              intro g hg
              rcases List.mem_cons.1 hg with rfl | hg
              · exact ⟨hf, hc.2.2⟩
              · exact hs g hg) (by simpa [begAs] using h)
            exact ⟨p, hp, by rw [ht, ht6]; simp [stkT, begT]⟩
        · rw [if_neg (by simp), if_neg (by simp)] at h; cases h
    · rw [chkS, if_neg (by simp), if_neg (by simp)] at h
      split at h
      · rename_i hc
        cases s with
        | nil => simp at hc
        | cons g s =>
          have ht7 := tok_close hwt hc.2.1
          have hg := hs g (by simp)
          have hpar : (PT.par q).Ok := hq
          obtain ⟨p, hp, ht⟩ := ih2 (begAdd g (.par q)) s (begAdd_ok hg.1 hpar rfl (fun e => by rw [hg.2] at e; cases e)) (fun x hx => hs x (by simp [hx])) (by simpa using h)
          exact ⟨p, hp, by rw [ht, begAdd_toks, ht7]; simp [stkT, PT.toks]⟩
      · split at h
        · rename_i hc
          have hto := tok_op hwt hc.2
          obtain ⟨p, hp, ht⟩ := ih1 (some (q, t.kind)) s ⟨hq, hc.2⟩ hs h
          refine ⟨p, hp, ?_⟩
          rw [ht]
          conv => rhs; rw [hto]
          simp [begT]
        · cases h
theorem chk_ok {l : List Tok} (hw : WordsOk l) (h : chkS false false 0 0 l = none) : ∃ p : PT, p.Ok ∧ p.toks = l := by
  obtain ⟨p, hp, ht⟩ := (chk_tree l 0 hw).1 none [] trivial (by simp) h
  exact ⟨p, hp, by simpa [stkT, begT] using ht⟩
/-- an expression with its parentheses passes, if not too many are open -/
theorem chk_pt : ∀ (p : PT) (ga : Bool) (op i : Nat) (r : List Tok), p.Ok → (ga = true → ∃ t, p = .atom t ∧ t.of = 5) →
    (op + p.dep ≤ 100 → chkS false ga op i (p.toks ++ r) = chkS true false op (i + p.toks.length) r) ∧ (100 < op + p.dep → op ≤ 100 → ∃ j, chkS false ga op i (p.toks ++ r) = some (j, 3))
  | .atom t, ga, op, i, r, h, ha => by
    refine ⟨fun _ => ?_, fun h1 h2 => by simp only [PT.dep] at h1; omega⟩
    simp only [PT.toks, List.cons_append, List.nil_append, List.length_singleton]
    rw [chkS, if_pos ⟨rfl, h.1, by
      cases ga
      · exact .inl rfl
      · obtain ⟨t', e, ho⟩ := ha rfl
        cases e
        exact .inr ho⟩]
  | .par p, ga, op, i, r, h, ha => by
    have has : ga = false := by
      cases ga
      · rfl
      · obtain ⟨t', e, _⟩ := ha rfl; cases e
    subst has
    have ih := chk_pt p false (op + 1) (i + 1) (opT 7 :: r) h (fun e => by cases e)
    have e0 : (PT.par p).toks ++ r = opT 6 :: (p.toks ++ (opT 7 :: r)) := by simp [PT.toks]
    have e1 : (PT.par p).toks.length = p.toks.length + 2 := by simp [PT.toks]
    rw [e0, e1]
    have k6 : (opT 6).kind = 6 := rfl
    have k7 : (opT 7).kind = 7 := rfl
    simp only [PT.dep]
    refine ⟨fun h1 => ?_, fun h1 h2 => ?_⟩
    · rw [chkS, if_neg (by rw [k6]; simp), if_pos ⟨rfl, k6, rfl⟩, if_neg (by omega), ih.1 (by omega)]
      rw [chkS, if_neg (by simp), if_neg (by simp), if_pos ⟨rfl, k7, by omega⟩]
      congr 1
      omega
    · rw [chkS, if_neg (by rw [k6]; simp), if_pos ⟨rfl, k6, rfl⟩]
      by_cases h100 : op = 100
      · rw [if_pos h100]; exact ⟨i, rfl⟩
      · rw [if_neg h100]
        exact ih.2 (by omega) (by omega)
  | .bin o a b, ga, op, i, r, h, ha => by
    have has : ga = false := by
      cases ga
      · rfl
      · obtain ⟨t', e, _⟩ := ha rfl; cases e
    subst has
    have ia := chk_pt a false op i (opT o :: (b.toks ++ r)) h.2.2.2.1 (fun e => by cases e)
    have ib := chk_pt b (decide (o = 5)) op (i + a.toks.length + 1) r h.2.2.2.2.1 (fun e => h.2.2.2.2.2 (by simpa using e))
    have e0 : (PT.bin o a b).toks ++ r = a.toks ++ opT o :: (b.toks ++ r) := by simp [PT.toks]
    have e1 : (PT.bin o a b).toks.length = a.toks.length + 1 + b.toks.length := by simp [PT.toks]; omega
    have ko : (opT o).kind = o := rfl
    have k7 : o ≠ 7 := by rcases bind_cases h.1 with rfl | rfl | rfl | rfl <;> decide
    rw [e0, e1]
    simp only [PT.dep]
    have step : ∀ j, chkS true false op j (opT o :: (b.toks ++ r)) = chkS false (decide (o = 5)) op (j + 1) (b.toks ++ r) := fun j => by
      rw [chkS, if_neg (by simp), if_neg (by simp), if_neg (by rw [ko]; simp [k7]), if_pos ⟨rfl, by rw [ko]; exact h.1⟩, ko]
    refine ⟨fun h1 => ?_, fun h1 h2 => ?_⟩
    · rw [ia.1 (by omega), step, ib.1 (by omega)]
      congr 1; omega
    · by_cases h3 : 100 < op + a.dep
      · exact ia.2 h3 h2
      · rw [ia.1 (by omega), step]
        exact ib.2 (by omega) h2
theorem chk_whole {p : PT} (h : p.Ok) : (p.dep ≤ 100 → chkS false false 0 0 p.toks = none) ∧ (100 < p.dep → ∃ j, chkS false false 0 0 p.toks = some (j, 3)) := by
  have := chk_pt p false 0 0 [] h (fun e => by cases e)
  rw [List.append_nil] at this
  refine ⟨fun h1 => ?_, fun h1 => this.2 (by omega) (by omega)⟩
  rw [this.1 (by omega), chkS, if_pos ⟨rfl, rfl⟩]
theorem opT_word {k : Int} (h : bindS k ≠ 0 ∨ k = 6 ∨ k = 7) : wordS (opT k) ≠ [] := by
  rcases h with h | rfl | rfl
  · rcases bind_cases h with rfl | rfl | rfl | rfl <;> decide
  · decide
  · decide
theorem PT.words : ∀ {p : PT}, p.Ok → WordsOk p.toks
  | .atom t, h => by
    intro x hx
    simp [PT.toks] at hx
    subst hx
    exact h.2
  | .par p, h => by
    have ih := PT.words (p := p) h
    intro x hx
    simp only [PT.toks, List.mem_cons, List.mem_append, List.not_mem_nil, or_false] at hx
    rcases hx with rfl | hx | rfl
    · exact opT_word (.inr (.inl rfl))
    · exact ih x hx
    · exact opT_word (.inr (.inr rfl))
  | .bin o a b, h => by
    have ia := PT.words h.2.2.2.1
    have ib := PT.words h.2.2.2.2.1
    intro x hx
    simp only [PT.toks, List.mem_append, List.mem_cons] at hx
    rcases hx with hx | rfl | hx
    · exact ia x hx
    · exact opT_word (.inl h.1)
    · exact ib x hx
/-- the search for the last of the loosest signs that are in no parentheses -/
def scanS (i op : Nat) (at_ : Option Nat) (low : Nat) : List Tok → Option Nat
  | [] => at_
  | t :: r =>
    let o1 := if t.kind = 6 then op + 1 else if t.kind = 7 then op - 1 else op
    if o1 = 0 ∧ bindS t.kind ≠ 0 ∧ bindS t.kind ≤ low then scanS (i + 1) o1 (some i) (bindS t.kind) r else scanS (i + 1) o1 at_ low r
def updA (p : PT) (i : Nat) (at_ : Option Nat) (low : Nat) : Option Nat :=
  match p with
  | .bin o a _ => if bindS o ≤ low then some (i + a.toks.length) else at_
  | _ => at_
def updL (p : PT) (low : Nat) : Nat :=
  match p with
  | .bin o _ _ => if bindS o ≤ low then bindS o else low
  | _ => low
theorem scan_pt : ∀ (p : PT) (i op : Nat) (at_ : Option Nat) (low : Nat) (r : List Tok), p.Ok →
    (0 < op → scanS i op at_ low (p.toks ++ r) = scanS (i + p.toks.length) op at_ low r) ∧ (op = 0 → scanS i op at_ low (p.toks ++ r) = scanS (i + p.toks.length) 0 (updA p i at_ low) (updL p low) r)
  | .atom t, i, op, at_, low, r, h => by
    have hb : bindS t.kind = 0 := by rw [h.1]; decide
    have h6 : t.kind ≠ 6 := by rw [h.1]; decide
    have h7 : t.kind ≠ 7 := by rw [h.1]; decide
    have key : scanS i op at_ low (t :: r) = scanS (i + 1) op at_ low r := by
      rw [scanS]
      simp only [if_neg h6, if_neg h7]
      rw [if_neg (by rw [hb]; simp)]
    refine ⟨fun _ => key, fun e => ?_⟩
    subst e
    exact key
  | .par p, i, op, at_, low, r, h => by
    have ih := (scan_pt p (i + 1) (op + 1) at_ low (opT 7 :: r) h).1 (by omega)
    have e0 : (PT.par p).toks ++ r = opT 6 :: (p.toks ++ (opT 7 :: r)) := by simp [PT.toks]
    have e1 : (PT.par p).toks.length = p.toks.length + 2 := by simp [PT.toks]
    have k6 : (opT 6).kind = 6 := rfl
    have k7 : (opT 7).kind = 7 := rfl
    have key : scanS i op at_ low ((PT.par p).toks ++ r) = scanS (i + (PT.par p).toks.length) op at_ low r := by
      rw [e0, e1, scanS]
      simp only [k6, if_true]
      rw [if_neg (by omega), ih, scanS]
      simp only [k7, if_neg (show ¬ (7 : Int) = 6 by decide), if_true]
      rw [if_neg (by have : bindS 7 = 0 := rfl; omega)]
      have e2 : i + 1 + p.toks.length + 1 = i + (p.toks.length + 2) := by omega
      rw [e2]
      rfl
    exact ⟨fun _ => key, fun e => by subst e; exact key⟩
  | .bin o a b, i, op, at_, low, r, h => by
    have e0 : (PT.bin o a b).toks ++ r = a.toks ++ opT o :: (b.toks ++ r) := by simp [PT.toks]
    have e1 : (PT.bin o a b).toks.length = a.toks.length + 1 + b.toks.length := by simp [PT.toks]; omega
    have ko : (opT o).kind = o := rfl
    have k6 : o ≠ 6 := by rcases bind_cases h.1 with rfl | rfl | rfl | rfl <;> decide
    have k7 : o ≠ 7 := by rcases bind_cases h.1 with rfl | rfl | rfl | rfl <;> decide
    have la := h.2.1
    have lb := h.2.2.1
    refine ⟨fun hop => ?_, fun hop => ?_⟩
    · rw [e0, (scan_pt a i op at_ low _ h.2.2.2.1).1 hop, scanS]
      simp only [ko, if_neg k6, if_neg k7]
      rw [if_neg (by omega), (scan_pt b _ op at_ low r h.2.2.2.2.1).1 hop, e1]
      congr 1; omega
    · subst hop
      rw [e0, (scan_pt a i 0 at_ low _ h.2.2.2.1).2 rfl, scanS]
      simp only [ko, if_neg k6, if_neg k7]
      have hla : bindS o ≤ updL a low ↔ bindS o ≤ low := by
        cases a with
        | atom t => exact Iff.rfl
        | par p => exact Iff.rfl
        | bin o2 a2 b2 =>
          simp only [PT.lev] at la
          simp only [updL]
          split <;> omega
      by_cases hc : bindS o ≤ low
      · rw [if_pos ⟨trivial, h.1, hla.2 hc⟩, (scan_pt b _ 0 _ _ r h.2.2.2.2.1).2 rfl, e1]
        have hb : updA b (i + a.toks.length + 1) (some (i + a.toks.length)) (bindS o) = some (i + a.toks.length) ∧ updL b (bindS o) = bindS o := by
          cases b with
          | atom t => exact ⟨rfl, rfl⟩
          | par p => exact ⟨rfl, rfl⟩
          | bin o2 a2 b2 =>
            simp only [PT.lev] at lb
            simp only [updA, updL]
            rw [if_neg (by omega), if_neg (by omega)]
            exact ⟨rfl, rfl⟩
        rw [hb.1, hb.2]
        simp only [updA, updL]
        rw [if_pos hc, if_pos hc]
        congr 1; omega
      · rw [if_neg (fun e => hc (hla.1 e.2.2)), (scan_pt b _ 0 _ _ r h.2.2.2.2.1).2 rfl, e1]
        have hall : ∀ (q : PT) (j : Nat), bindS o ≤ q.lev → updA q j at_ low = at_ ∧ updL q low = low := by
          intro q j hq
          cases q with
          | atom t => exact ⟨rfl, rfl⟩
          | par p => exact ⟨rfl, rfl⟩
          | bin o2 a2 b2 =>
            simp only [PT.lev] at hq
            simp only [updA, updL]
            rw [if_neg (by omega), if_neg (by omega)]
            exact ⟨rfl, rfl⟩
        rw [(hall a i la).1, (hall a i la).2, (hall b _ (by omega)).1, (hall b i (by omega)).2]
        simp only [updA, updL]
        rw [if_neg hc, if_neg hc]
        congr 1; omega
theorem scan_whole {p : PT} (h : p.Ok) : scanS 0 0 none 9 p.toks = updA p 0 none 9 := by
  have := (scan_pt p 0 0 none 9 [] h).2 rfl
  rw [List.append_nil] at this
  rw [this, scanS]
/-- there is one way to read -/
theorem toks_one : ∀ (p q : PT), p.Ok → q.Ok → p.toks = q.toks → p = q
  | p, q, hp, hq, h => by
    have hs : updA p 0 none 9 = updA q 0 none 9 := by rw [← scan_whole hp, ← scan_whole hq, h]
    cases p with
    | atom t =>
      cases q with
      | atom u => simp [PT.toks] at h; rw [h]
      | par q => have := congrArg List.length h; simp [PT.toks] at this
      | bin o a b => have := congrArg List.length h; have h1 := a.toks_pos; simp [PT.toks] at this; omega
    | par p =>
      cases q with
      | atom u => have := congrArg List.length h; simp [PT.toks] at this
      | par q =>
        simp only [PT.toks, List.cons.injEq, true_and] at h
        have := List.append_inj_left' h rfl
        rw [toks_one p q hp hq this]
      | bin o a b =>
        simp only [updA] at hs
        rw [if_pos (by have := bind_le o; omega)] at hs
        cases hs
    | bin o a b =>
      cases q with
      | atom u => have := congrArg List.length h; have h1 := a.toks_pos; simp [PT.toks] at this; omega
      | par q =>
        simp only [updA] at hs
        rw [if_pos (by have := bind_le o; omega)] at hs
        cases hs
      | bin o2 a2 b2 =>
        simp only [updA] at hs
        rw [if_pos (by have := bind_le o; omega), if_pos (by have := bind_le o2; omega)] at hs
        have hl : a.toks.length = a2.toks.length := by simpa using hs
        simp only [PT.toks] at h
        obtain ⟨h1, h2⟩ := List.append_inj h hl
        simp only [List.cons.injEq] at h2
        have ho : o = o2 := congrArg Tok.kind h2.1
        rw [toks_one a a2 hp.2.2.2.1 hq.2.2.2.1 h1, toks_one b b2 hp.2.2.2.2.1 hq.2.2.2.2.1 h2.2, ho]
termination_by p => p

/-- the last expression of terms, and those ahead of it -/
structure EndIs (x p : List Tok) (e : Ex) : Prop where
  ok : e.Ok
  is : x = p ++ e.post
theorem post_one : ∀ (e e' : Ex) (p p' : List Tok), e.Ok → e'.Ok → p ++ e.post = p' ++ e'.post → p = p' ∧ e = e'
  | .atom t, .atom t', p, p', h, h', he => by
    simp only [Ex.post] at he
    obtain ⟨h1, h2⟩ := List.append_inj' he rfl
    simp at h2
    exact ⟨h1, by rw [h2]⟩
  | .atom t, .bin o a b, p, p', h, h', he => by
    simp only [Ex.post] at he
    rw [← List.append_assoc, ← List.append_assoc] at he
    obtain ⟨h1, h2⟩ := List.append_inj' he rfl
    simp at h2
    have := h.1
    rw [h2] at this
    rcases bind_cases h'.1 with rfl | rfl | rfl | rfl <;> exact absurd this (by decide)
  | .bin o a b, .atom t, p, p', h, h', he => by
    simp only [Ex.post] at he
    rw [← List.append_assoc, ← List.append_assoc] at he
    obtain ⟨h1, h2⟩ := List.append_inj' he rfl
    simp at h2
    have := h'.1
    rw [← h2] at this
    rcases bind_cases h.1 with rfl | rfl | rfl | rfl <;> exact absurd this (by decide)
  | .bin o a b, .bin o' a' b', p, p', h, h', he => by
    simp only [Ex.post] at he
    rw [← List.append_assoc, ← List.append_assoc, ← List.append_assoc, ← List.append_assoc] at he
    obtain ⟨h1, h2⟩ := List.append_inj' he rfl
    simp at h2
    have ho : o = o' := congrArg Tok.kind h2
    obtain ⟨h3, h4⟩ := post_one b b' _ _ h.2.2.1 h'.2.2.1 h1
    obtain ⟨h5, h6⟩ := post_one a a' _ _ h.2.1 h'.2.1 h3
    exact ⟨h5, by rw [ho, h4, h6]⟩
theorem EndIs.unique {x p p' : List Tok} {e e' : Ex} (h : EndIs x p e) (h' : EndIs x p' e') : p = p' ∧ e = e' := post_one e e' p p' h.ok h'.ok (by rw [← h.is, ← h'.is])
theorem EndIs.atom {y : List Tok} {t : Tok} (h : AtomOk t) : EndIs (y ++ [t]) y (.atom t) := ⟨h, rfl⟩
theorem EndIs.bin {y q p : List Tok} {a b : Ex} {k : Int} (hb : EndIs y q b) (ha : EndIs q p a) (hk : bindS k ≠ 0) (h5 : k = 5 → ∃ t, b = .atom t ∧ t.of = 5) : EndIs (y ++ [opT k]) p (.bin k a b) :=
  ⟨⟨hk, ha.ok, hb.ok, h5⟩, by rw [hb.is, ha.is]; simp [Ex.post]⟩
/-- what the last term makes -/
theorem EndIs.inv {y p : List Tok} {t : Tok} {e : Ex} (h : EndIs (y ++ [t]) p e) :
    (AtomOk t ∧ e = .atom t ∧ p = y) ∨ (∃ k a b q, t = opT k ∧ e = .bin k a b ∧ EndIs y q b ∧ EndIs q p a ∧ bindS k ≠ 0 ∧ (k = 5 → ∃ t, b = .atom t ∧ t.of = 5)) := by
  obtain ⟨h1, h2⟩ := h
  cases e with
  | atom u =>
    left
    simp only [Ex.post] at h2
    obtain ⟨h3, h4⟩ := List.append_inj' h2 rfl
    simp at h4
    subst h4
    exact ⟨h1, rfl, h3.symm⟩
  | bin k a b =>
    right
    simp only [Ex.post] at h2
    rw [← List.append_assoc, ← List.append_assoc] at h2
    obtain ⟨h3, h4⟩ := List.append_inj' h2 rfl
    simp at h4
    exact ⟨k, a, b, p ++ a.post, h4, rfl, ⟨h1.2.2.1, h3⟩, ⟨h1.2.1, rfl⟩, h1.1, h1.2.2.2⟩
theorem EndIs.word {y p : List Tok} {t : Tok} {e : Ex} (h : EndIs (y ++ [t]) p e) : wordS t ≠ [] := by
  rcases h.inv with ⟨h1, _⟩ | ⟨k, a, b, q, rfl, _, _, _, hk, _⟩
  · exact h1.2
  · exact opT_word (.inl hk)
theorem EndIs.nil {p : List Tok} {e : Ex} (h : EndIs [] p e) : False := by
  have := congrArg List.length h.is
  have hp := List.length_pos_iff.2 e.post_ne
  rw [List.length_append, List.length_nil] at this
  omega
/-- an atom of the kind Role is the last part -/
theorem EndIs.role {y q : List Tok} {t : Tok} {b : Ex} (h : EndIs (y ++ [t]) q b) : (∃ u, b = .atom u ∧ u.of = 5) ↔ (t.kind = 1 ∧ t.of = 5) := by
  rcases h.inv with ⟨h1, rfl, _⟩ | ⟨k, a, b', q', rfl, rfl, _, _, hk, _⟩
  · constructor
    · rintro ⟨u, hu, ho⟩
      cases hu
      exact ⟨h1.1, ho⟩
    · rintro ⟨_, ho⟩
      exact ⟨t, rfl, ho⟩
  · constructor
    · rintro ⟨u, hu, _⟩; cases hu
    · rintro ⟨h1, _⟩
      rcases bind_cases hk with rfl | rfl | rfl | rfl <;> exact absurd h1 (by decide)
theorem joinS_append : ∀ (a b : List (List UInt8)), a ≠ [] → b ≠ [] → joinS (a ++ b) = joinS a ++ 32 :: joinS b
  | [], b, h, _ => absurd rfl h
  | [w], [], _, h => absurd rfl h
  | [w], v :: b, _, _ => rfl
  | w :: v :: r, b, _, hb => by
    show w ++ 32 :: joinS (v :: r ++ b) = (w ++ 32 :: joinS (v :: r)) ++ 32 :: joinS b
    rw [joinS_append (v :: r) b (by simp) hb]
    simp
/-- an expression's text -/
def textE (e : Ex) : List UInt8 := joinS ((canS 1 e).toks.map wordS)
/-- a part of a text, in parentheses or not -/
def partE (v : Nat) (e : Ex) : List UInt8 := if e.lvl < v then [40, 32] ++ (textE e ++ [32, 41]) else textE e
theorem part_is (v : Nat) (e : Ex) (h : e.Ok) (hv : v ≤ 5) : joinS ((canS v e).toks.map wordS) = partE v e := by
  have he := Ex.lvl_pos h
  unfold partE
  by_cases hc : e.lvl < v
  · rw [if_pos hc, can_par v e hc hv he]
    have e0 : (PT.par (canS 1 e)).toks.map wordS = [[40]] ++ ((canS 1 e).toks.map wordS ++ [[41]]) := by
      simp only [PT.toks, List.map_cons, List.map_append, List.map_nil]
      rfl
    rw [e0, joinS_append _ _ (by simp) (by simp), joinS_append _ _ (by simp [PT.toks_ne]) (by simp)]
    simp [joinS, textE]
  · rw [if_neg hc, can_none v e hc he]
    rfl
theorem text_atom (t : Tok) : textE (.atom t) = wordS t := rfl
theorem text_bin {op : Int} {a b : Ex} (h : (Ex.bin op a b).Ok) : textE (.bin op a b) = partE (bindS op) a ++ 32 :: (wordS (opT op) ++ 32 :: partE (bindS op + 1) b) := by
  have hb := bind_le op
  have h1 := h.1
  unfold textE
  rw [canS, if_neg (by omega)]
  simp only [PT.toks, List.map_append, List.map_cons]
  rw [joinS_append _ _ (by simp [PT.toks_ne]) (by simp), part_is _ a h.2.1 (by omega), show wordS (opT op) :: List.map wordS (canS (bindS op + 1) b).toks = [wordS (opT op)] ++ List.map wordS (canS (bindS op + 1) b).toks from rfl,
    joinS_append _ _ (by simp) (by simp [PT.toks_ne]), part_is _ b h.2.2.1 (by omega)]
  simp [joinS]
theorem PT.len : ∀ p : PT, p.toks.length = p.ex.post.length + 2 * p.cnt
  | .atom t => rfl
  | .par p => by
    have ih := PT.len p
    simp only [PT.toks, PT.ex, PT.cnt, List.length_cons, List.length_append, List.length_nil]
    omega
  | .bin op a b => by
    have ia := PT.len a
    have ib := PT.len b
    simp only [PT.toks, PT.ex, PT.cnt, Ex.post, List.length_cons, List.length_append, List.length_nil]
    omega
theorem can_cnt : ∀ (e : Ex) (v : Nat), (canS v e).cnt + 1 ≤ e.post.length
  | .atom t, v => Nat.le_refl _
  | .bin op a b, v => by
    have ia := can_cnt a (bindS op)
    have ib := can_cnt b (bindS op + 1)
    rw [canS]
    split <;> simp only [PT.cnt, Ex.post, List.length_append, List.length_cons, List.length_nil] <;> omega
/-- what is written is read again -/
theorem text_tokens {e : Ex} (h : e.Ok) (hn : e.post.length ≤ 200) (h4 : (textE e).length ≤ 4000) : ∃ m, allS (textE e) = .ok m ∧ m.map (·.1) = (canS 1 e).toks := by
  have hok := can_ok e 1 h
  obtain ⟨m, hr, hm⟩ := run_join (canS 1 e).toks 0 (PT.words hok)
  refine ⟨m, ?_, hm⟩
  have hlen : m.length = (canS 1 e).toks.length := by rw [← hm, List.length_map]
  have h1 := PT.len (canS 1 e)
  have h2 := can_cnt e 1
  rw [can_ex] at h1
  unfold allS
  rw [if_neg (by omega)]
  exact run_ok hr (by omega)
theorem PT.sum : ∀ {p : PT}, p.Ok → sumS p.toks = sumS p.ex.inf + 2 * p.cnt
  | .atom t, h => rfl
  | .par p, h => by
    have ih := PT.sum (p := p) h
    unfold sumS at *
    simp only [PT.toks, PT.ex, PT.cnt, List.map_cons, List.map_append, List.map_nil, List.sum_cons, List.sum_append, List.sum_nil]
    rw [ih]
    have h6 : (wordS (opT 6)).length = 1 := by decide
    have h7 : (wordS (opT 7)).length = 1 := by decide
    omega
  | .bin op a b, h => by
    have ia := PT.sum h.2.2.2.1
    have ib := PT.sum h.2.2.2.2.1
    unfold sumS at *
    simp only [PT.toks, PT.ex, PT.cnt, Ex.inf, List.map_cons, List.map_append, List.sum_cons, List.sum_append]
    rw [ia, ib]
    omega
/-- what is read is written with at most twice as many bytes -/
theorem text_short {p : PT} (h : p.Ok) {s : List UInt8} {m : List (Tok × Nat)} {nt : Bool} (hr : Run false 0 s m nt) (hm : m.map (·.1) = p.toks) : (textE p.ex).length ≤ 2 * s.length := by
  have he := PT.ex_ok h
  have hl := PT.lev_pos h
  have hc := (can_few p 1 h hl).1
  have hok := can_ok p.ex 1 he
  obtain ⟨s1, s2, _⟩ := run_sum m false nt 0 s hr
  rw [hm] at s1 s2
  have hj := join_len (canS 1 p.ex).toks
  have hs1 := PT.sum hok
  have hs2 := PT.sum h
  rw [can_ex] at hs1
  have hl1 := PT.len (canS 1 p.ex)
  have hl2 := PT.len p
  rw [can_ex] at hl1
  have hml : m.length = p.toks.length := by rw [← hm, List.length_map]
  unfold textE
  omega

/-- the first that is not written -/
def badS (i : Nat) : List Tok → Option Nat
  | [] => none
  | t :: r => if wordS t = [] then some i else badS (i + 1) r
theorem bad_none : ∀ {l : List Tok} {i : Nat}, badS i l = none ↔ WordsOk l
  | [], i => ⟨fun _ t h => (by cases h), fun _ => rfl⟩
  | t :: r, i => by
    rw [badS]
    split
    · rename_i h
      exact ⟨fun e => (by cases e), fun e => absurd h (e t (by simp))⟩
    · rename_i h
      rw [bad_none (l := r)]
      constructor
      · intro e x hx
        rcases List.mem_cons.1 hx with rfl | hx
        · exact h
        · exact e x hx
      · intro e x hx
        exact e x (by simp [hx])
/-- what tokens' expression is -/
def ReadIs (l x : List Tok) (p : Nat) (q : Int) : Prop :=
  (badS 0 l = some p ∧ x = [] ∧ q = 2) ∨
  (badS 0 l = none ∧ chkS false false 0 0 l = some (p, q) ∧ x = []) ∨
  (badS 0 l = none ∧ chkS false false 0 0 l = none ∧ ∃ t : PT, t.Ok ∧ t.toks = l ∧ ((t.ex.post.length ≤ 200 ∧ x = t.ex.post ∧ p = 0 ∧ q = 0) ∨ (200 < t.ex.post.length ∧ x = [] ∧ p = l.length ∧ q = 3)))
theorem ReadIs.unique {l x x' : List Tok} {p p' : Nat} {q q' : Int} (h : ReadIs l x p q) (h' : ReadIs l x' p' q') : x = x' ∧ p = p' ∧ q = q' := by
  rcases h with ⟨a1, rfl, rfl⟩ | ⟨a1, a2, rfl⟩ | ⟨a1, a2, t, t1, t2, t3⟩ <;> rcases h' with ⟨b1, rfl, rfl⟩ | ⟨b1, b2, rfl⟩ | ⟨b1, b2, u, u1, u2, u3⟩
  · rw [a1] at b1; cases b1; exact ⟨rfl, rfl, rfl⟩
  · rw [a1] at b1; cases b1
  · rw [a1] at b1; cases b1
  · rw [a1] at b1; cases b1
  · rw [a2] at b2; cases b2; exact ⟨rfl, rfl, rfl⟩
  · rw [a2] at b2; cases b2
  · rw [a1] at b1; cases b1
  · rw [a2] at b2; cases b2
  · have := toks_one t u t1 u1 (by rw [t2, u2])
    subst this
    rcases t3 with ⟨c1, rfl, rfl, rfl⟩ | ⟨c1, rfl, rfl, rfl⟩ <;> rcases u3 with ⟨d1, rfl, rfl, rfl⟩ | ⟨d1, rfl, rfl, rfl⟩
    · exact ⟨rfl, rfl, rfl⟩
    · omega
    · omega
    · exact ⟨rfl, rfl, rfl⟩
theorem chk_err : ∀ {l : List Tok} {hv ga : Bool} {op i p : Nat} {q : Int}, chkS hv ga op i l = some (p, q) → (q = 2 ∨ q = 3) ∧ i ≤ p ∧ p ≤ i + l.length
  | [], hv, ga, op, i, p, q, h => by
    rw [chkS] at h
    split at h
    · cases h
    · cases h; exact ⟨.inl rfl, by omega, by simp⟩
  | t :: r, hv, ga, op, i, p, q, h => by
    rw [chkS] at h
    have ih := fun hv ga op (h : chkS hv ga op (i + 1) r = some (p, q)) => chk_err h
    simp only [List.length_cons]
    split at h
    · have := ih _ _ _ h; exact ⟨this.1, by omega, by omega⟩
    · split at h
      · split at h
        · cases h; exact ⟨.inr rfl, by omega, by omega⟩
        · have := ih _ _ _ h; exact ⟨this.1, by omega, by omega⟩
      · split at h
        · have := ih _ _ _ h; exact ⟨this.1, by omega, by omega⟩
        · split at h
          · have := ih _ _ _ h; exact ⟨this.1, by omega, by omega⟩
          · cases h; exact ⟨.inl rfl, by omega, by omega⟩
theorem bad_some : ∀ {l : List Tok} {i p : Nat}, badS i l = some p → i ≤ p ∧ p < i + l.length
  | [], i, p, h => by cases h
  | t :: r, i, p, h => by
    rw [badS] at h
    simp only [List.length_cons]
    split at h
    · cases h; omega
    · have := bad_some h; omega
theorem ReadIs.zero {l x : List Tok} {p : Nat} (h : ReadIs l x p 0) : ∃ t : PT, t.Ok ∧ t.toks = l ∧ t.dep ≤ 100 ∧ x = t.ex.post ∧ t.ex.post.length ≤ 200 ∧ p = 0 := by
  rcases h with ⟨_, _, h⟩ | ⟨_, h, _⟩ | ⟨a1, a2, t, t1, t2, ⟨c1, rfl, rfl, _⟩ | ⟨_, _, _, h⟩⟩
  · cases h
  · rcases (chk_err h).1 with h | h <;> cases h
  · refine ⟨t, t1, t2, ?_, rfl, c1, rfl⟩
    rcases Nat.lt_or_ge 100 t.dep with hd | hd
    · obtain ⟨j, hj⟩ := (chk_whole t1).2 hd
      rw [t2, a2] at hj; cases hj
    · exact hd
  · cases h
theorem ReadIs.other {l x : List Tok} {p : Nat} {q : Int} (h : ReadIs l x p q) (hq : q ≠ 0) : x = [] ∧ p ≤ l.length ∧ (q = 2 ∨ q = 3) := by
  rcases h with ⟨h1, rfl, rfl⟩ | ⟨_, h1, rfl⟩ | ⟨a1, a2, t, t1, t2, ⟨_, _, _, h⟩ | ⟨_, rfl, rfl, rfl⟩⟩
  · have := bad_some h1; exact ⟨rfl, by omega, .inl rfl⟩
  · have := chk_err h1; exact ⟨rfl, by omega, this.1⟩
  · exact absurd h hq
  · exact ⟨rfl, Nat.le_refl _, .inr rfl⟩
/-- an expression with its parentheses is read, if not too many are open, and it isn't too long -/
theorem read_tree {t : PT} (h : t.Ok) (hd : t.dep ≤ 100) (hn : t.ex.post.length ≤ 200) : ReadIs t.toks t.ex.post 0 0 :=
  .inr (.inr ⟨bad_none.2 (PT.words h), (chk_whole h).1 hd, t, h, rfl, .inl ⟨hn, rfl, rfl, rfl⟩⟩)
theorem read_deep {t : PT} (h : t.Ok) (hd : 100 < t.dep) : ∃ j, ReadIs t.toks [] j 3 := by
  obtain ⟨j, hj⟩ := (chk_whole h).2 hd
  exact ⟨j, .inr (.inl ⟨bad_none.2 (PT.words h), hj, rfl⟩)⟩
/-- the place in the text -/
def placeS (m : List (Tok × Nat)) (n p : Nat) (q : Int) : Nat := if q = 0 then 0 else match m[p]? with
  | some x => x.2
  | none => if q = 3 then 0 else n
/-- what a text's expression is -/
def ParseIs (s : List UInt8) (x : List Tok) (n : Nat) (q : Int) : Prop :=
  (allS s = .error (n, q) ∧ x = []) ∨ (∃ m p, allS s = .ok m ∧ ReadIs (m.map (·.1)) x p q ∧ n = placeS m s.length p q)
theorem ParseIs.unique {s : List UInt8} {x x' : List Tok} {n n' : Nat} {q q' : Int} (h : ParseIs s x n q) (h' : ParseIs s x' n' q') : x = x' ∧ n = n' ∧ q = q' := by
  rcases h with ⟨a1, rfl⟩ | ⟨m, p, a1, a2, rfl⟩ <;> rcases h' with ⟨b1, rfl⟩ | ⟨m', p', b1, b2, rfl⟩
  · rw [a1] at b1; cases b1; exact ⟨rfl, rfl, rfl⟩
  · rw [a1] at b1; cases b1
  · rw [a1] at b1; cases b1
  · rw [a1] at b1; cases b1
    obtain ⟨rfl, rfl, rfl⟩ := a2.unique b2
    exact ⟨rfl, rfl, rfl⟩
theorem all_err2 {l : List UInt8} {p : Nat} {q : Int} (h : allS l = .error (p, q)) : q = 2 ∨ q = 3 := by
  unfold allS at h
  split at h
  · cases h; exact .inr rfl
  · obtain ⟨k, m, hw⟩ := go_wrong l.length false 0 0 l p q (Nat.le_refl _) (by omega) h
    rcases hw.what with ⟨rfl, _⟩ | ⟨rfl, _⟩
    · exact .inl rfl
    · exact .inr rfl
theorem ParseIs.zero {s : List UInt8} {x : List Tok} {n : Nat} (h : ParseIs s x n 0) :
    ∃ (m : List (Tok × Nat)) (t : PT) (nt : Bool), allS s = .ok m ∧ Run false 0 s m nt ∧ t.Ok ∧ m.map (·.1) = t.toks ∧ t.dep ≤ 100 ∧ x = t.ex.post ∧ t.ex.post.length ≤ 200 ∧ n = 0 := by
  rcases h with ⟨h1, _⟩ | ⟨m, p, h1, h2, rfl⟩
  · rcases all_err2 h1 with h | h <;> cases h
  · obtain ⟨t, t1, t2, t3, t4, t5, _⟩ := h2.zero
    obtain ⟨⟨nt, hr⟩, _, _⟩ := all_run h1
    exact ⟨m, t, nt, h1, hr, t1, t2.symm, t3, t4, t5, by unfold placeS; rw [if_pos rfl]⟩
theorem ParseIs.other {s : List UInt8} {x : List Tok} {n : Nat} {q : Int} (h : ParseIs s x n q) (hq : q ≠ 0) : x = [] ∧ (q = 2 ∨ q = 3) := by
  rcases h with ⟨h1, rfl⟩ | ⟨m, p, h1, h2, rfl⟩
  · exact ⟨rfl, all_err2 h1⟩
  · have := h2.other hq; exact ⟨this.1, this.2.2⟩
theorem parse_tree {s : List UInt8} {m : List (Tok × Nat)} {t : PT} (h : allS s = .ok m) (hm : m.map (·.1) = t.toks) (ht : t.Ok) (hd : t.dep ≤ 100) (hn : t.ex.post.length ≤ 200) : ParseIs s t.ex.post 0 0 :=
  .inr ⟨m, 0, h, by rw [hm]; exact read_tree ht hd hn, rfl⟩
theorem parse_deep {s : List UInt8} {m : List (Tok × Nat)} {t : PT} (h : allS s = .ok m) (hm : m.map (·.1) = t.toks) (ht : t.Ok) (hd : 100 < t.dep) : ∃ n, ParseIs s [] n 3 := by
  obtain ⟨j, hj⟩ := read_deep ht hd
  exact ⟨_, .inr ⟨m, j, h, by rw [hm]; exact hj, rfl⟩⟩
/-- what is written is read as it was, or too many parentheses are open -/
theorem back_one {e : Ex} (h : e.Ok) (hn : e.post.length ≤ 200) (h4 : (textE e).length ≤ 4000) : ParseIs (textE e) e.post 0 0 ∨ ((∃ n, ParseIs (textE e) [] n 3) ∧ 100 < (canS 1 e).dep) := by
  obtain ⟨m, h1, h2⟩ := text_tokens h hn h4
  have hok := can_ok e 1 h
  rcases Nat.lt_or_ge 100 (canS 1 e).dep with hd | hd
  · exact .inr ⟨parse_deep h1 h2 hok hd, hd⟩
  · left
    have := parse_tree h1 h2 hok hd (by rw [can_ex]; exact hn)
    rwa [can_ex] at this
/-- what is read can be written, and is read alike -/
theorem back_two {s : List UInt8} {x : List Tok} {n : Nat} (h : ParseIs s x n 0) : ∃ e : Ex, e.Ok ∧ x = e.post ∧ x.length ≤ 200 ∧ (4000 < (textE e).length → 900 < s.length) ∧ ((textE e).length ≤ 4000 → ParseIs (textE e) x 0 0) := by
  obtain ⟨m, t, nt, h1, hr, h2, h3, h4, rfl, h6, _⟩ := h.zero
  have he := PT.ex_ok h2
  refine ⟨t.ex, he, rfl, h6, fun hl => ?_, fun hl => ?_⟩
  · have := text_short h2 hr h3; omega
  · rcases back_one he h6 hl with hb | ⟨_, hd⟩
    · exact hb
    · have := (can_few t 1 h2 (PT.lev_pos h2)).2
      omega
/-- are more than 100 open at some place? -/
def overT (o : Nat) : List Tok → Bool
  | [] => false
  | t :: r => if t.kind = 6 then (if 100 ≤ o then true else overT (o + 1) r) else if t.kind = 7 then overT (o - 1) r else overT o r
theorem over_pt : ∀ (p : PT) (o : Nat) (r : List Tok), p.Ok → o ≤ 100 → (o + p.dep ≤ 100 → overT o (p.toks ++ r) = overT o r) ∧ (100 < o + p.dep → overT o (p.toks ++ r) = true)
  | .atom t, o, r, h, ho => by
    have h6 : t.kind ≠ 6 := by rw [h.1]; decide
    have h7 : t.kind ≠ 7 := by rw [h.1]; decide
    refine ⟨fun _ => ?_, fun h1 => by simp only [PT.dep] at h1; omega⟩
    show overT o (t :: r) = _
    rw [overT, if_neg h6, if_neg h7]
  | .par p, o, r, h, ho => by
    have e0 : (PT.par p).toks ++ r = opT 6 :: (p.toks ++ (opT 7 :: r)) := by simp [PT.toks]
    rw [e0, overT, if_pos (show (opT 6).kind = 6 from rfl)]
    simp only [PT.dep]
    by_cases hc : 100 ≤ o
    · rw [if_pos hc]
      exact ⟨fun h1 => by omega, fun _ => rfl⟩
    · rw [if_neg hc]
      have ih := over_pt p (o + 1) (opT 7 :: r) h (by omega)
      refine ⟨fun h1 => ?_, fun h1 => ih.2 (by omega)⟩
      rw [ih.1 (by omega), overT, if_neg (show ¬ (opT 7).kind = 6 by decide), if_pos (show (opT 7).kind = 7 from rfl)]
      rfl
  | .bin op a b, o, r, h, ho => by
    have e0 : (PT.bin op a b).toks ++ r = a.toks ++ opT op :: (b.toks ++ r) := by simp [PT.toks]
    have k6 : (opT op).kind ≠ 6 := by rcases bind_cases h.1 with rfl | rfl | rfl | rfl <;> decide
    have k7 : (opT op).kind ≠ 7 := by rcases bind_cases h.1 with rfl | rfl | rfl | rfl <;> decide
    have ia := over_pt a o (opT op :: (b.toks ++ r)) h.2.2.2.1 ho
    have ib := over_pt b o r h.2.2.2.2.1 ho
    rw [e0]
    simp only [PT.dep]
    have step : overT o (opT op :: (b.toks ++ r)) = overT o (b.toks ++ r) := by rw [overT, if_neg k6, if_neg k7]
    refine ⟨fun h1 => ?_, fun h1 => ?_⟩
    · rw [ia.1 (by omega), step, ib.1 (by omega)]
    · by_cases h3 : 100 < o + a.dep
      · exact ia.2 h3
      · rw [ia.1 (by omega), step]; exact ib.2 (by omega)
/-- the same of a text -/
def overB (o : Int) : List UInt8 → Bool
  | [] => false
  | c :: r => if 100 < (if c = 40 then o + 1 else if c = 41 then o - 1 else o) then true else overB (if c = 40 then o + 1 else if c = 41 then o - 1 else o) r
def noPar (c : UInt8) : Bool := decide (c ≠ 40 ∧ c ≠ 41)
theorem over_skip : ∀ (w r : List UInt8) (o : Int), w.all noPar = true → o ≤ 100 → overB o (w ++ r) = overB o r
  | [], r, o, _, _ => rfl
  | c :: w, r, o, h, ho => by
    simp only [List.all_cons, Bool.and_eq_true] at h
    have hc : c ≠ 40 ∧ c ≠ 41 := by simpa [noPar] using h.1
    show overB o (c :: (w ++ r)) = _
    rw [overB, if_neg hc.1, if_neg hc.2, if_neg (by omega)]
    exact over_skip w r o h.2 ho
theorem in_noPar {c : UInt8} (h : tIn c = true) : noPar c = true := by
  unfold noPar
  rw [decide_eq_true_eq]
  constructor <;> (rintro rfl; exact absurd h (by decide))
theorem word_noPar {t : Tok} (h6 : t.kind ≠ 6) (h7 : t.kind ≠ 7) : (wordS t).all noPar = true := by
  have hall : ∀ l : List UInt8, l.all tIn = true → l.all noPar = true := fun l h => by
    rw [List.all_eq_true] at h ⊢
    exact fun x hx => in_noPar (h x hx)
  unfold wordS
  split
  · split
    · decide
    · split
      · rename_i h
        have hm := (may_all h.1).1
        rw [List.all_append, hall _ hm, Bool.and_true]
        obtain ⟨h1, h2⟩ := h.2.1
        have hc : t.of = 1 ∨ t.of = 2 ∨ t.of = 3 ∨ t.of = 4 ∨ t.of = 5 := by omega
        rcases hc with h | h | h | h | h <;> rw [h] <;> decide
      · rfl
  · split
    · split
      · rename_i h
        have : t.name.all tDig = true := by have := h.1; unfold tNum at this; simp only [Bool.and_eq_true] at this; exact this.1
        apply hall
        rw [List.all_eq_true] at this ⊢
        exact fun x hx => tIn_of_dig (this x hx)
      · rfl
    · split
      · split
        · rename_i h
          have hs := h.1
          match hn : t.name, hs with
          | [c], hs =>
            simp only [tSign, tOne, Bool.or_eq_true, beq_iff_eq] at hs
            rcases hs with rfl | rfl | rfl | rfl | rfl | rfl | rfl | rfl <;> decide
        · rfl
      · split
        · first | rw [if_neg h6, if_neg h7] | skip
          split
          · decide
          · split
            · decide
            · split
              · decide
              · split <;> decide
        · rfl
theorem over_word (t : Tok) (r : List UInt8) (o : Nat) (hw : wordS t ≠ []) (ho : o ≤ 100) (h7 : t.kind = 7 → 0 < o) :
    overB (o : Int) (wordS t ++ r) = if t.kind = 6 then (if 100 ≤ o then true else overB ((o + 1 : Nat) : Int) r) else if t.kind = 7 then overB ((o - 1 : Nat) : Int) r else overB (o : Int) r := by
  by_cases k6 : t.kind = 6
  · have := tok_open hw k6
    rw [if_pos k6, this]
    have e : wordS (opT 6) = [40] := by decide
    rw [e]
    show overB (o : Int) (40 :: r) = _
    rw [overB, if_pos rfl]
    by_cases hc : 100 ≤ o
    · rw [if_pos (by omega), if_pos hc]
    · rw [if_neg (by omega), if_neg hc]
      rfl
  · by_cases k7 : t.kind = 7
    · have := tok_close hw k7
      have h0 := h7 k7
      rw [if_neg k6, if_pos k7, this]
      have e : wordS (opT 7) = [41] := by decide
      rw [e]
      show overB (o : Int) (41 :: r) = _
      rw [overB, if_neg (show ¬ (41 : UInt8) = 40 by decide), if_pos rfl, if_neg (by omega)]
      congr 1
      omega
    · rw [if_neg k6, if_neg k7]
      exact over_skip _ r _ (word_noPar k6 k7) (by omega)
/-- never fewer than none are open -/
def Nest (o : Nat) : List Tok → Prop
  | [] => True
  | t :: r => (t.kind = 7 → 0 < o) ∧ Nest (if t.kind = 6 then o + 1 else if t.kind = 7 then o - 1 else o) r
theorem over_text : ∀ (l : List Tok) (o : Nat), WordsOk l → Nest o l → o ≤ 100 → overT o l = true → overB (o : Int) (joinS (l.map wordS)) = true
  | [], o, _, _, _, h => by cases h
  | [t], o, hw, hn, ho, h => by
    have h1 := over_word t [] o (hw t (by simp)) ho hn.1
    rw [List.append_nil] at h1
    show overB (o : Int) (wordS t) = true
    rw [h1]
    rw [overT] at h
    by_cases k6 : t.kind = 6
    · rw [if_pos k6] at h ⊢
      by_cases hc : 100 ≤ o
      · rw [if_pos hc]
      · rw [if_neg hc] at h; cases h
    · rw [if_neg k6] at h
      split at h <;> cases h
  | t :: u :: r, o, hw, hn, ho, h => by
    have h1 := over_word t (32 :: joinS ((u :: r).map wordS)) o (hw t (by simp)) ho hn.1
    show overB (o : Int) (wordS t ++ 32 :: joinS ((u :: r).map wordS)) = true
    rw [h1]
    have hw2 : WordsOk (u :: r) := fun x hx => hw x (by simp [hx])
    have skip : ∀ o' : Nat, o' ≤ 100 → overB (o' : Int) (32 :: joinS ((u :: r).map wordS)) = overB (o' : Int) (joinS ((u :: r).map wordS)) := fun o' ho' => over_skip [32] _ o' (by decide) (by omega)
    rw [overT] at h
    have hn2 := hn.2
    by_cases k6 : t.kind = 6
    · rw [if_pos k6] at h hn2 ⊢
      by_cases hc : 100 ≤ o
      · rw [if_pos hc]
      · rw [if_neg hc] at h ⊢
        rw [skip _ (by omega)]
        exact over_text (u :: r) (o + 1) hw2 hn2 (by omega) h
    · rw [if_neg k6] at h hn2 ⊢
      by_cases k7 : t.kind = 7
      · rw [if_pos k7] at h hn2 ⊢
        rw [skip _ (by omega)]
        exact over_text (u :: r) (o - 1) hw2 hn2 (by omega) h
      · rw [if_neg k7] at h hn2 ⊢
        rw [skip _ ho]
        exact over_text (u :: r) o hw2 hn2 ho h
theorem nest_pt : ∀ (p : PT) (o : Nat) (r : List Tok), p.Ok → Nest o r → Nest o (p.toks ++ r)
  | .atom t, o, r, h, hr => by
    have h6 : t.kind ≠ 6 := by rw [h.1]; decide
    have h7 : t.kind ≠ 7 := by rw [h.1]; decide
    refine ⟨fun e => absurd e h7, ?_⟩
    rw [if_neg h6, if_neg h7]
    exact hr
  | .par p, o, r, h, hr => by
    have e0 : (PT.par p).toks ++ r = opT 6 :: (p.toks ++ (opT 7 :: r)) := by simp [PT.toks]
    rw [e0]
    refine ⟨fun e => absurd e (by decide), ?_⟩
    rw [if_pos (show (opT 6).kind = 6 from rfl)]
    refine nest_pt p (o + 1) _ h ⟨fun _ => by omega, ?_⟩
    rw [if_neg (show ¬ (opT 7).kind = 6 by decide), if_pos (show (opT 7).kind = 7 from rfl)]
    exact hr
  | .bin op a b, o, r, h, hr => by
    have e0 : (PT.bin op a b).toks ++ r = a.toks ++ opT op :: (b.toks ++ r) := by simp [PT.toks]
    have k6 : (opT op).kind ≠ 6 := by rcases bind_cases h.1 with rfl | rfl | rfl | rfl <;> decide
    have k7 : (opT op).kind ≠ 7 := by rcases bind_cases h.1 with rfl | rfl | rfl | rfl <;> decide
    rw [e0]
    refine nest_pt a o _ h.2.2.2.1 ⟨fun e => absurd e k7, ?_⟩
    rw [if_neg k6, if_neg k7]
    exact nest_pt b o r h.2.2.2.2.1 hr
theorem deep_text {e : Ex} (h : e.Ok) (hd : 100 < (canS 1 e).dep) : overB 0 (textE e) = true := by
  have hok := can_ok e 1 h
  have h1 := (over_pt (canS 1 e) 0 [] hok (by omega)).2 (by omega)
  have h2 := nest_pt (canS 1 e) 0 [] hok trivial
  rw [List.append_nil] at h1 h2
  exact over_text _ 0 (PT.words hok) h2 (by omega) h1

/-- places further on -/
def shiftS (d : Nat) (m : List (Tok × Nat)) : List (Tok × Nat) := m.map fun x => (x.1, x.2 + d)
theorem shift_fst (d : Nat) (m : List (Tok × Nat)) : (shiftS d m).map (·.1) = m.map (·.1) := by
  unfold shiftS
  rw [List.map_map]
  rfl
theorem run_shift : ∀ (m : List (Tok × Nat)) (nt nt' : Bool) (p d : Nat) (l : List UInt8), Run nt p l m nt' → Run nt (p + d) l (shiftS d m) nt'
  | [], nt, nt', p, d, l, h => h
  | (t, q) :: m, nt, nt', p, d, l, h => by
    obtain ⟨b, rest, rfl, rfl, hb, hw, hf, hr⟩ := h
    have ih := run_shift m false nt' _ d rest hr
    refine ⟨b, rest, rfl, by omega, hb, hw, hf, ?_⟩
    have e : p + b.length + (wordS t).length + d = p + b.length + d + (wordS t).length := by omega
    rw [e] at ih
    exact ih
theorem run_join2 : ∀ (m m2 : List (Tok × Nat)) (nt nt1 nt2 : Bool) (p : Nat) (l b : List UInt8), Run nt p l m nt1 → tFine b = true → Run nt1 (p + l.length) b m2 nt2 → Run nt p (l ++ b) (m ++ m2) nt2
  | [], m2, nt, nt1, nt2, p, l, b, h, _, h2 => run_lead h h2
  | (t, q) :: m, m2, nt, nt1, nt2, p, l, b, h, hf, h2 => by
    obtain ⟨a, rest, rfl, rfl, ha, hw, hfo, hr⟩ := h
    have ih := run_join2 m m2 false nt1 nt2 _ rest b hr hf (by
      have e : p + a.length + (wordS t).length + rest.length = p + (a ++ (wordS t ++ rest)).length := by simp; omega
      rw [e]; exact h2)
    exact ⟨a, rest ++ b, by simp, rfl, ha, hw, follow_append hfo hf, ih⟩
theorem go_many : ∀ (m : List (Tok × Nat)) (nt nt' : Bool) (p n : Nat) (l : List UInt8), Run nt p l m nt' → n ≤ 1000 → 1000 < n + m.length → ∃ q, goS nt p n l = .error (q, 3)
  | [], nt, nt', p, n, l, _, h1, h2 => by simp at h2; omega
  | (t, q) :: m, nt, nt', p, n, l, h, h1, h2 => by
    obtain ⟨b, rest, rfl, rfl, hb, hw, hf, hr⟩ := h
    simp only [List.length_cons] at h2
    rw [go_skip b _ nt false p n hb]
    by_cases hn : n = 1000
    · have hs := sign_of hw hf
      cases hv : wordS t with
      | nil => exact absurd hv hw
      | cons c v =>
        rw [hv] at hs
        simp only [List.cons_append] at hs ⊢
        have hp : ¬ passB false c = true := fun h => by rw [pass_none h] at hs; cases hs
        rw [goS, if_neg hp, hs]
        simp only [if_pos hn]
        exact ⟨_, rfl⟩
    · rw [go_sign hw hf hn]
      obtain ⟨q, hq⟩ := go_many m false nt' _ (n + 1) rest hr (by omega) (by omega)
      exact ⟨q, by rw [hq]; rfl⟩
theorem all_of_run {l : List UInt8} {m : List (Tok × Nat)} {nt : Bool} (h : Run false 0 l m nt) (hl : l.length ≤ 4000) : (m.length ≤ 1000 → allS l = .ok m) ∧ (1000 < m.length → ∃ q, allS l = .error (q, 3)) := by
  unfold allS
  rw [if_neg (by omega)]
  exact ⟨fun h1 => run_ok h (by omega), fun h1 => go_many m false nt 0 0 l h (by omega) (by omega)⟩
theorem skip_line (nt : Bool) : skips nt [10] = some false := by cases nt <;> decide
/-- a line's end and a parenthesis behind a text -/
theorem run_close {s : List UInt8} {m : List (Tok × Nat)} {nt : Bool} {p : Nat} (h : Run false p s m nt) : Run false p (s ++ [10, 41]) (m ++ [(opT 7, p + s.length + 1)]) false := by
  refine run_join2 m _ false nt false p s [10, 41] h (by decide) ⟨[10], [], by decide, rfl, skip_line nt, by decide, fun e => absurd e (by decide), rfl⟩
/-- a parenthesis ahead of a text -/
theorem run_open {s : List UInt8} {m : List (Tok × Nat)} {nt : Bool} (h : Run false 0 s m nt) : Run false 0 (40 :: s) ((opT 6, 0) :: shiftS 1 m) nt :=
  ⟨[], s, rfl, rfl, rfl, by decide, fun e => absurd e (by decide), by
    have h1 := run_shift m false nt 0 1 s h
    have e : 0 + (wordS (opT 6)).length = 0 + 1 := by decide
    rw [e]
    exact h1⟩
theorem chk_close {t : PT} (h : t.Ok) (hd : t.dep ≤ 100) : chkS false false 0 0 (t.toks ++ [opT 7]) = some (t.toks.length, 2) := by
  rw [(chk_pt t false 0 0 [opT 7] h (fun e => by cases e)).1 (by omega)]
  rw [chkS, if_neg (by simp), if_neg (by simp), if_neg (by simp), if_neg (by rintro ⟨_, h⟩; exact h (by decide))]
  simp
theorem chk_open {t : PT} (h : t.Ok) : (t.dep < 100 → chkS false false 0 0 (opT 6 :: t.toks) = some (t.toks.length + 1, 2)) ∧ (100 ≤ t.dep → ∃ j, chkS false false 0 0 (opT 6 :: t.toks) = some (j, 3)) := by
  have h1 := chk_pt t false 1 1 [] h (fun e => by cases e)
  rw [List.append_nil] at h1
  have k6 : (opT 6).kind = 6 := rfl
  refine ⟨fun hd => ?_, fun hd => ?_⟩
  · rw [chkS, if_neg (by rw [k6]; simp), if_pos ⟨rfl, k6, rfl⟩, if_neg (by omega), h1.1 (by omega), chkS, if_neg (by simp)]
    congr 2; omega
  · rw [chkS, if_neg (by rw [k6]; simp), if_pos ⟨rfl, k6, rfl⟩, if_neg (by omega)]
    exact h1.2 (by omega) (by omega)
/-- a parenthesis more around it changes nothing -/
theorem open_around {s : List UInt8} {x : List Tok} {n : Nat} (h : ParseIs s x n 0) (hs : s.length ≤ 3000) : ParseIs (40 :: (s ++ [10, 41])) x 0 0 ∨ ∃ k, ParseIs (40 :: (s ++ [10, 41])) [] k 3 := by
  obtain ⟨m, t, nt, h1, hr, h2, h3, h4, rfl, h6, _⟩ := h.zero
  have hrun := run_open (run_close hr)
  have hall := all_of_run hrun (by simp; omega)
  rcases Nat.lt_or_ge 1000 ((opT 6, 0) :: shiftS 1 (m ++ [(opT 7, 0 + s.length + 1)])).length with hm | hm
  · obtain ⟨q, hq⟩ := hall.2 hm
    exact .inr ⟨q, .inl ⟨hq, rfl⟩⟩
  · have ha := hall.1 hm
    have hpt : (PT.par t).Ok := h2
    have htoks : ((opT 6, 0) :: shiftS 1 (m ++ [(opT 7, 0 + s.length + 1)])).map (·.1) = (PT.par t).toks := by
      rw [List.map_cons, shift_fst, List.map_append, h3]
      rfl
    rcases Nat.lt_or_ge 100 (PT.par t).dep with hd | hd
    · exact .inr (parse_deep ha htoks hpt hd)
    · exact .inl (show ParseIs _ (PT.par t).ex.post 0 0 from parse_tree ha htoks hpt hd h6)
/-- one that isn't open is wrong -/
theorem open_close {s : List UInt8} {x : List Tok} {n : Nat} (h : ParseIs s x n 0) (hs : s.length ≤ 3000) : ParseIs (s ++ [10, 41]) [] (s.length + 1) 2 ∨ ∃ k, ParseIs (s ++ [10, 41]) [] k 3 := by
  obtain ⟨m, t, nt, h1, hr, h2, h3, h4, rfl, h6, _⟩ := h.zero
  have hall := all_of_run (run_close hr) (by simp; omega)
  rcases Nat.lt_or_ge 1000 (m ++ [(opT 7, 0 + s.length + 1)]).length with hm | hm
  · obtain ⟨q, hq⟩ := hall.2 hm
    exact .inr ⟨q, .inl ⟨hq, rfl⟩⟩
  · have ha := hall.1 hm
    have hml : m.length = t.toks.length := by rw [← h3, List.length_map]
    have htoks : (m ++ [(opT 7, 0 + s.length + 1)]).map (·.1) = t.toks ++ [opT 7] := by rw [List.map_append, h3]; rfl
    left
    refine .inr ⟨_, t.toks.length, ha, ?_, ?_⟩
    · rw [htoks]
      refine .inr (.inl ⟨bad_none.2 ?_, chk_close h2 h4, rfl⟩)
      intro y hy
      rcases List.mem_append.1 hy with hy | hy
      · exact PT.words h2 y hy
      · rw [List.mem_singleton] at hy; subst hy; decide
    · unfold placeS
      rw [if_neg (by decide), ← hml, List.getElem?_append_right (Nat.le_refl _)]
      simp
/-- one that isn't closed is wrong -/
theorem open_open {s : List UInt8} {x : List Tok} {n : Nat} (h : ParseIs s x n 0) (hs : s.length ≤ 3000) : ParseIs (40 :: s) [] (s.length + 1) 2 ∨ ∃ k, ParseIs (40 :: s) [] k 3 := by
  obtain ⟨m, t, nt, h1, hr, h2, h3, h4, rfl, h6, _⟩ := h.zero
  have hall := all_of_run (run_open hr) (by simp; omega)
  rcases Nat.lt_or_ge 1000 ((opT 6, 0) :: shiftS 1 m).length with hm | hm
  · obtain ⟨q, hq⟩ := hall.2 hm
    exact .inr ⟨q, .inl ⟨hq, rfl⟩⟩
  · have ha := hall.1 hm
    have hml : m.length = t.toks.length := by rw [← h3, List.length_map]
    have htoks : ((opT 6, 0) :: shiftS 1 m).map (·.1) = opT 6 :: t.toks := by rw [List.map_cons, shift_fst, h3]
    have hbad : badS 0 (opT 6 :: t.toks) = none := by
      refine bad_none.2 ?_
      intro y hy
      rcases List.mem_cons.1 hy with rfl | hy
      · decide
      · exact PT.words h2 y hy
    rcases Nat.lt_or_ge t.dep 100 with hd | hd
    · left
      refine .inr ⟨_, t.toks.length + 1, ha, ?_, ?_⟩
      · rw [htoks]
        exact .inr (.inl ⟨hbad, (chk_open h2).1 hd, rfl⟩)
      · unfold placeS
        rw [if_neg (by decide), List.getElem?_eq_none (by simp [shiftS]; omega)]
        simp
    · right
      obtain ⟨j, hj⟩ := (chk_open h2).2 hd
      exact ⟨_, .inr ⟨_, j, ha, by rw [htoks]; exact .inr (.inl ⟨hbad, hj, rfl⟩), rfl⟩⟩
/-- two expressions are none -/
theorem joins_none {a b e : Ex} (ha : a.Ok) (hb : b.Ok) (he : e.Ok) : a.post ++ b.post ≠ e.post := by
  intro h
  have h1 : EndIs (a.post ++ b.post) a.post b := ⟨hb, rfl⟩
  have h2 : EndIs (a.post ++ b.post) [] e := ⟨he, by simpa using h⟩
  exact a.post_ne (h1.unique h2).1
/-- with a sign behind they are one -/
theorem joins_some {a b : Ex} (ha : a.Ok) (hb : b.Ok) {op : Int} (ho : bindS op ≠ 0) (h5 : op = 5 → ∃ t, b = .atom t ∧ t.of = 5) : (Ex.bin op a b).Ok ∧ (a.post ++ b.post) ++ [opT op] = (Ex.bin op a b).post :=
  ⟨⟨ho, ha, hb, h5⟩, by simp [Ex.post]⟩
theorem joins_wrong {a b e : Ex} (ha : a.Ok) (hb : b.Ok) (he : e.Ok) (h5 : ¬ ∃ t, b = .atom t ∧ t.of = 5) : (a.post ++ b.post) ++ [opT 5] ≠ e.post := by
  intro h
  have h2 : EndIs ((a.post ++ b.post) ++ [opT 5]) [] e := ⟨he, by simpa using h⟩
  rcases h2.inv with ⟨h3, _⟩ | ⟨k, a', b', q, hk, rfl, h4, _, _, h6⟩
  · exact absurd h3.1 (by decide)
  · have h1 : EndIs (a.post ++ b.post) a.post b := ⟨hb, rfl⟩
    have hbb := (h1.unique h4).2
    have hk5 : (5 : Int) = k := congrArg Tok.kind hk
    exact h5 (by rw [hbb]; exact h6 hk5.symm)
theorem role_one {b : Ex} (hb : b.Ok) : (∃ t, b = .atom t ∧ t.of = 5) ↔ (b.post.length = 1 ∧ ∃ t, b.post[0]? = some t ∧ t.of = 5) := by
  cases b with
  | atom t =>
    constructor
    · rintro ⟨u, hu, ho⟩
      cases hu
      exact ⟨rfl, t, rfl, ho⟩
    · rintro ⟨_, u, hu, ho⟩
      simp [Ex.post] at hu
      exact ⟨t, rfl, by rw [hu]; exact ho⟩
  | bin op a c =>
    constructor
    · rintro ⟨u, hu, _⟩; cases hu
    · rintro ⟨h, _⟩
      have h1 := List.length_pos_iff.2 a.post_ne
      have h2 := List.length_pos_iff.2 c.post_ne
      simp [Ex.post] at h
      omega
/-- an expression of a text and its written form have the same signs, and atoms, in the same order, and the latter has no more parentheses -/
theorem few_same {s : List UInt8} {x : List Tok} {n : Nat} (h : ParseIs s x n 0) : ∃ (e : Ex) (m : List (Tok × Nat)), e.Ok ∧ x = e.post ∧ allS s = .ok m ∧ ((textE e).length ≤ 4000 → ∃ m2, allS (textE e) = .ok m2 ∧
    openN (m2.map (·.1)) ≤ openN (m.map (·.1)) ∧ (m2.map (·.1)).filter notPar = e.inf ∧ (m.map (·.1)).filter notPar = e.inf ∧ e.inf.length = x.length) := by
  obtain ⟨m, t, nt, h1, hr, h2, h3, h4, rfl, h6, _⟩ := h.zero
  have he := PT.ex_ok h2
  refine ⟨t.ex, m, he, rfl, h1, fun hl => ?_⟩
  obtain ⟨m2, hm2, hx2⟩ := text_tokens he h6 hl
  have hok := can_ok t.ex 1 he
  refine ⟨m2, hm2, ?_, ?_, ?_, Ex.inf_len _⟩
  · rw [hx2, h3, PT.openN_is hok, PT.openN_is h2]
    exact (can_few t 1 h2 (PT.lev_pos h2)).1
  · rw [hx2, PT.inf hok, can_ex]
  · rw [h3, PT.inf h2]

open Go.RowKit Go.ChangeShapes Go.WideShapes
/-- a term as it lies in memory -/
structure TrmB where
  op : Int
  of : Int
  name : ByteArray
def TrmB.tok (t : TrmB) : Tok := ⟨t.op, bs t.name, t.of⟩
/-- a slice of terms -/
def ReadsX (w : World) (v : Value) (l : List TrmB) : Prop :=
  ∃ ao c, v = .slice ao l.length c ∧ l.length ≤ c ∧ ∀ i t, l[i]? = some t → ∃ g off, ao = some ⟨g, off, none⟩ ∧ w.cell? ⟨g, off + i * 3, none⟩ = some (.int .i64 t.op) ∧ w.cell? ⟨g, off + i * 3 + 1, none⟩ = some (.int .i64 t.of) ∧ w.cell? ⟨g, off + i * 3 + 2, none⟩ = some (.string t.name)
theorem readsX_nil (w : World) : ReadsX w (.slice none 0 0) [] := ⟨none, 0, rfl, Nat.le_refl _, fun i t h => by simp at h⟩
theorem ReadsX.kept {w w' : World} {v : Value} {l : List TrmB} (h : ReadsX w v l) (hk : Kept w w') : ReadsX w' v l := by
  obtain ⟨ao, c, h1, h2, h3⟩ := h
  refine ⟨ao, c, h1, h2, fun i t ht => ?_⟩
  obtain ⟨g, off, h4, c0, c1, c2⟩ := h3 i t ht
  exact ⟨g, off, h4, hk.cell c0 (fun x => x), hk.cell c1 (fun x => x), hk.cell c2 (fun x => x)⟩
theorem ReadsX.form {w : World} {v : Value} {l : List TrmB} (h : ReadsX w v l) : ∃ ao c, v = .slice ao l.length c ∧ l.length ≤ c := by
  obtain ⟨ao, c, h1, h2, _⟩ := h
  exact ⟨ao, c, h1, h2⟩
/-- the cells of terms -/
def cellsX : List TrmB → List Value
  | [] => []
  | t :: l => .int .i64 t.op :: .int .i64 t.of :: .string t.name :: cellsX l
theorem cellsX_len : ∀ l, (cellsX l).length = l.length * 3
  | [] => rfl
  | t :: l => by simp [cellsX, cellsX_len l]; omega
theorem cellsX_append : ∀ l m : List TrmB, cellsX (l ++ m) = cellsX l ++ cellsX m
  | [], m => rfl
  | t :: l, m => by simp [cellsX, cellsX_append l m]
theorem cellsX_get : ∀ (m : List TrmB) (i : Nat) (x : TrmB), m[i]? = some x → (cellsX m)[i * 3]? = some (.int .i64 x.op) ∧ (cellsX m)[i * 3 + 1]? = some (.int .i64 x.of) ∧ (cellsX m)[i * 3 + 2]? = some (.string x.name)
  | [], i, x, h => by simp at h
  | y :: m, 0, x, h => by
    simp at h
    subst h
    exact ⟨rfl, rfl, rfl⟩
  | y :: m, i + 1, x, h => by
    have ih := cellsX_get m i x (by simpa using h)
    have e : ∀ j, (cellsX (y :: m))[(i + 1) * 3 + j]? = (cellsX m)[i * 3 + j]? := fun j => by
      have : (i + 1) * 3 + j = (i * 3 + j) + 3 := by omega
      rw [this]
      rfl
    have e0 := e 0
    simp only [Nat.add_zero] at e0
    rw [e0, e 1, e 2]
    exact ih
theorem cellsX_one : ∀ l, ∀ u ∈ cellsX l, u.oneCell' = true
  | [], u, h => by cases h
  | t :: l, u, h => by
    simp only [cellsX, List.mem_cons] at h
    rcases h with rfl | rfl | rfl | h
    · rfl
    · rfl
    · rfl
    · exact cellsX_one l u h
theorem cellsX_div {l : List TrmB} {j : Nat} {u : Value} (h : (cellsX l)[j]? = some u) : ∃ i x, l[i]? = some x ∧ j = i * 3 + j % 3 := by
  have hj := (List.getElem?_eq_some_iff.1 h).1
  rw [cellsX_len] at hj
  have hi : j / 3 < l.length := by omega
  exact ⟨j / 3, _, List.getElem?_eq_getElem hi, by omega⟩
theorem readsX_src {P : Program} {w : World} {v : Value} {l : List TrmB} (h : ReadsX w v l) {tx e' : TypeId} (hk : P.underlying tx = some (.slice e')) : Src P 3 tx v l.length (cellsX l) w := by
  obtain ⟨ao, c, rfl, hc, hx⟩ := h
  rcases l with _ | ⟨y, r⟩
  · refine ⟨.inl ⟨_, hk⟩, fun _ => rfl, ?_, ?_, rfl, fun _ h => by cases h⟩
    · cases ao <;> simp [Builtin.firstCells, loadCells, loadCellsFrom, cellsX]
    · cases ao <;> simp [Builtin.firstCells, loadCells, loadCellsFrom, cellsX]
  · obtain ⟨g, off, rfl, _⟩ := hx 0 y rfl
    refine Src.ofSlice w hk _ _ _ _ (by rw [cellsX_len]) (fun j u hj => ?_) (cellsX_one _)
    obtain ⟨i, x, hi, hji⟩ := cellsX_div hj
    obtain ⟨g', off', he, c0, c1, c2⟩ := hx i x hi
    cases he
    rw [addr_add]
    obtain ⟨t0, t1, t2⟩ := cellsX_get _ i x hi
    have hm : j % 3 = 0 ∨ j % 3 = 1 ∨ j % 3 = 2 := by omega
    rcases hm with hm | hm | hm <;> rw [hm] at hji
    · simp only [Nat.add_zero] at hji
      subst hji
      rw [t0] at hj; cases hj
      exact c0
    · subst hji
      rw [t1] at hj; cases hj
      exact c1
    · subst hji
      rw [t2] at hj; cases hj
      exact c2
theorem own_readsX {w : World} {base : Nat} {v : Value} {l : List TrmB} (h : w.ownsRow base 52 3 v l.length (cellsX l)) : ReadsX w v l := by
  obtain ⟨h1, h2⟩ := h
  rcases h2 with ⟨rfl, h0⟩ | ⟨g, cap, cur, rfl, hb, h4, h5, h6, h7, h8⟩
  · have : l = [] := List.eq_nil_of_length_eq_zero h0
    subst this
    exact readsX_nil _
  · have hcell : ∀ o y, (cellsX l)[o]? = some y → w.cell? ⟨g, o, none⟩ = some y := by
      intro o y hy
      rw [cell_whole h4]
      rw [← h8, List.getElem?_take] at hy
      split at hy
      · simpa using hy
      · cases hy
    refine ⟨some ⟨g, 0, none⟩, cap, rfl, h5, fun i t ht => ?_⟩
    obtain ⟨t0, t1, t2⟩ := cellsX_get l i t ht
    refine ⟨g, 0, rfl, ?_, ?_, ?_⟩
    · rw [Nat.zero_add]; exact hcell _ _ t0
    · rw [Nat.zero_add]; exact hcell _ _ t1
    · rw [Nat.zero_add]; exact hcell _ _ t2
def toX (x : List Tok) : List TrmB := x.map fun t => ⟨t.kind, t.of, strOf t.name⟩
theorem toX_tok (x : List Tok) : (toX x).map TrmB.tok = x := by
  unfold toX
  rw [List.map_map]
  conv => rhs; rw [← List.map_id x]
  apply List.map_congr_left
  intro t _
  show (⟨t.kind, bs (strOf t.name), t.of⟩ : Tok) = t
  rw [bs_strOf]
theorem toX_len (x : List Tok) : (toX x).length = x.length := by simp [toX]
theorem toX_append (x y : List Tok) : toX (x ++ y) = toX x ++ toX y := by simp [toX]
theorem Tryz.infoX : (Tryz.prog.info? 52).map (fun i => (i.zero, i.size, i.bytes)) = some (some (.agg #[.int .i64 0, .int .i64 0, .string ⟨#[]⟩]), 3, 32) := by kernel_rfl
theorem Tryz.sliceX : SliceOf Tryz.prog 25 52 (.agg #[.int .i64 0, .int .i64 0, .string ⟨#[]⟩]) 3 32 := slice_of Tryz.underlying25 Tryz.infoX rfl (by decide)
theorem src_three {P : Program} {w : World} {g : Nat} {a b c : Value} {e tx e' : TypeId} (hk : P.underlying tx = some (.slice e')) (h : w.heap[g]? = some (.cells #[a, b, c] e (0, 0))) (h0 : a.oneCell' = true) (h1 : b.oneCell' = true) (h2 : c.oneCell' = true) :
    Src P 3 tx (.slice (some ⟨g, 0, none⟩) 1 1) 1 [a, b, c] w :=
  Src.ofSlice w hk _ _ _ _ rfl (fun j x hx => by
    match j, hx with
    | 0, hx => simp at hx; subst hx; simp [Addr.add, World.cell?, h]
    | 1, hx => simp at hx; subst hx; simp [Addr.add, World.cell?, h]
    | 2, hx => simp at hx; subst hx; simp [Addr.add, World.cell?, h]) (fun x hx => by simp at hx; rcases hx with rfl | rfl | rfl <;> assumption)
/-- a part of a slice of tokens -/
theorem ReadsT.upto {w : World} {ao : Option Addr} {n c : Nat} {l : List TokB} (h : ReadsT w (.slice ao n c) l) (k : Nat) (hk : k ≤ l.length) : ReadsT w (.slice ao k c) (l.take k) := by
  obtain ⟨ao', c', he, hc, hx⟩ := h
  cases he
  have hl : (l.take k).length = k := by rw [List.length_take]; omega
  refine ⟨ao, c, by rw [hl], by omega, fun i t ht => ?_⟩
  rw [List.getElem?_take] at ht
  split at ht
  · exact hx i t ht
  · cases ht
theorem ReadsT.from {w : World} {g off n c : Nat} {l : List TokB} (h : ReadsT w (.slice (some ⟨g, off, none⟩) n c) l) (k : Nat) (hk : k ≤ l.length) : ReadsT w (.slice (some ⟨g, off + k * 4, none⟩) (n - k) (c - k)) (l.drop k) := by
  obtain ⟨ao', c', he, hc, hx⟩ := h
  cases he
  have hl : (l.drop k).length = l.length - k := List.length_drop
  refine ⟨_, c - k, by rw [hl], by omega, fun i t ht => ?_⟩
  rw [List.getElem?_drop] at ht
  obtain ⟨g', off', he, c0, c1, c2, c3⟩ := hx _ t ht
  cases he
  have e : off + k * 4 + i * 4 = off + (k + i) * 4 := by omega
  refine ⟨g, off + k * 4, rfl, ?_, ?_, ?_, ?_⟩ <;> rw [e] <;> assumption
theorem ReadsX.upto {w : World} {ao : Option Addr} {n c : Nat} {l : List TrmB} (h : ReadsX w (.slice ao n c) l) (k : Nat) (hk : k ≤ l.length) : ReadsX w (.slice ao k c) (l.take k) := by
  obtain ⟨ao', c', he, hc, hx⟩ := h
  cases he
  have hl : (l.take k).length = k := by rw [List.length_take]; omega
  refine ⟨ao, c, by rw [hl], by omega, fun i t ht => ?_⟩
  rw [List.getElem?_take] at ht
  split at ht
  · exact hx i t ht
  · cases ht
theorem rbinds_any (k : Int) (w : World) : Calls Tryz.prog 116 #[.int .i64 k] w fun e w' => e = .returned (.int .i64 (bindS k : Nat)) ∧ w = w' := by
  by_cases h2 : k = 2
  · subst h2
    go_enter Tryz.func116, Tryz.ntmps116
    go_wp2
    go_ret
    exact ⟨rfl, rfl⟩
  by_cases h3 : k = 3
  · subst h3
    go_enter Tryz.func116, Tryz.ntmps116
    go_wp2
    go_ret
    exact ⟨rfl, rfl⟩
  by_cases h4 : k = 4
  · subst h4
    go_enter Tryz.func116, Tryz.ntmps116
    go_wp2
    go_ret
    exact ⟨rfl, rfl⟩
  by_cases h5 : k = 5
  · subst h5
    go_enter Tryz.func116, Tryz.ntmps116
    go_wp2
    go_ret
    exact ⟨rfl, rfl⟩
  have HA : Hid (bindS k = 0) := Lib.hid (by unfold bindS; rw [if_neg h2, if_neg h3, if_neg h4, if_neg h5])
  have g2 : (k == 2) = false := by simp [h2]
  have g3 : (k == 3) = false := by simp [h3]
  have g4 : (k == 4) = false := by simp [h4]
  have g5 : (k == 5) = false := by simp [h5]
  clear h2 h3 h4 h5
  go_enter Tryz.func116, Tryz.ntmps116
  go_wp2
  go_ret
  exact ⟨ret_int (by rw [HA.out]; rfl), rfl⟩

end Go.Proofs.YtbfealhbdemhmaaGreatDoor
