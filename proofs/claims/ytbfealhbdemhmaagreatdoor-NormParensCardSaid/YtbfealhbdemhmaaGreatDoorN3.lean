/- Contracts and lemmas: N3 -/
import Derived.Test.YtbfealhbdemhmaaGreatDoorNa
namespace Go.Proofs.YtbfealhbdemhmaaGreatDoor
set_option linter.unusedVariables false
set_option linter.unusedSimpArgs false
open Go.RowKit Go.ChangeShapes Go.WideShapes
set_option maxRecDepth 20000
theorem pre_six (k : Int) : (tPre k).length ≤ 6 := by
  unfold tPre
  repeat' (first | (split; · decide) | simp)
theorem atom_len {t : Tok} (h : AtomOk t) : (wordS t).length ≤ 30 := by
  have h2 := h.2
  unfold wordS at h2 ⊢
  rw [if_pos h.1] at h2 ⊢
  split
  · decide
  · split
    · rename_i hm
      have := hm.1
      unfold tMay at this
      simp only [Bool.and_eq_true, decide_eq_true_eq] at this
      have h3 := pre_six t.of
      rw [List.length_append]
      omega
    · simp
theorem op_len {k : Int} (h : bindS k ≠ 0) : (wordS (opT k)).length ≤ 3 := by
  rcases bind_cases h with rfl | rfl | rfl | rfl <;> decide
def Ex.atoms : Ex → Nat
  | .atom _ => 1
  | .bin _ a b => a.atoms + b.atoms
theorem atoms_pos : ∀ e : Ex, 1 ≤ e.atoms
  | .atom _ => Nat.le_refl _
  | .bin _ a b => by have := atoms_pos a; simp only [Ex.atoms]; omega
theorem atoms_post : ∀ e : Ex, e.post.length + 1 = 2 * e.atoms
  | .atom _ => rfl
  | .bin _ a b => by
    have := atoms_post a
    have := atoms_post b
    simp only [Ex.post, Ex.atoms, List.length_append, List.length_cons, List.length_nil]
    omega
theorem can_cnt2 : ∀ (e : Ex) (v : Nat), (canS v e).cnt + 1 ≤ e.atoms
  | .atom t, v => Nat.le_refl _
  | .bin op a b, v => by
    have ia := can_cnt2 a (bindS op)
    have ib := can_cnt2 b (bindS op + 1)
    rw [canS]
    split <;> simp only [PT.cnt, Ex.atoms] <;> omega
theorem inf_sum : ∀ {e : Ex}, e.Ok → sumS e.inf + 3 ≤ 33 * e.atoms
  | .atom t, h => by
    have := atom_len h
    simp only [Ex.inf, Ex.atoms, sumS, List.map_cons, List.map_nil, List.sum_cons, List.sum_nil]
    omega
  | .bin op a b, h => by
    have ia := inf_sum h.2.1
    have ib := inf_sum h.2.2.1
    have := op_len h.1
    simp only [Ex.inf, Ex.atoms]
    unfold sumS at *
    simp only [List.map_append, List.map_cons, List.sum_append, List.sum_cons]
    omega
/-- a text is never too long -/
theorem text_fits {e : Ex} (h : e.Ok) (hn : e.post.length ≤ 200) : textS (canS 1 e).toks = (textE e, 0) := by
  have hok := can_ok e 1 h
  have h1 := PT.sum hok
  have h2 := PT.len (canS 1 e)
  rw [can_ex] at h1 h2
  have h3 := can_cnt2 e 1
  have h4 := atoms_post e
  have h5 := inf_sum h
  have h6 := join_len (canS 1 e).toks
  have hw := PT.words hok
  unfold textS
  rw [if_neg (by omega), if_neg (by
    intro ha
    obtain ⟨t, ht, h7⟩ := List.any_eq_true.1 ha
    exact hw t ht (of_decide_eq_true h7)), if_neg (by omega)]
  rfl

open Go.RowKit Go.ChangeShapes Go.WideShapes
set_option maxRecDepth 20000
/-- a word's text as a tree: 'as' as long as roles follow, then bars -/
def wordP (L : Nat → List ByteArray) : Bool → PT → List Int → PT
  | _, p, [] => p
  | only, p, a :: r => wordP L (only && decide (a / 8192 = 5)) (.bin (if (only && decide (a / 8192 = 5)) = true then 5 else 4) p (.atom (termT L a))) r
def wholeW (L : Nat → List ByteArray) (w : ByteArray) : PT := match atoms (bs w) with
  | a :: r => wordP L true (.atom (termT L a)) r
  | [] => .atom (opT 0)
def setP (L : Nat → List ByteArray) : PT → List ByteArray → PT
  | p, [] => p
  | p, w :: r => setP L (.bin 2 p (wholeW L w)) r
theorem join_two (x : List (List UInt8)) (u v : List UInt8) (h : x ≠ []) : joinS (x ++ [u, v]) = joinS x ++ 32 :: (u ++ 32 :: v) := by
  rw [joinS_append _ _ h (by simp)]
  rfl
theorem wordP_text (L : Nat → List ByteArray) : ∀ (r : List Int) (only : Bool) (p : PT) (x : List UInt8), sayW L only false r = some x → joinS ((wordP L only p r).toks.map wordS) = joinS (p.toks.map wordS) ++ x
  | [], only, p, x, h => by
    rw [sayW] at h
    cases h
    simp [wordP]
  | a :: r, only, p, x, h => by
    rw [sayW] at h
    split at h
    · cases h
    · obtain ⟨y, hy, hx⟩ := Option.map_eq_some_iff.1 h
      have e0 : (only && (false || decide (a / 8192 = 5))) = (only && decide (a / 8192 = 5)) := by simp
      rw [e0] at hy
      have ih := wordP_text L r _ (.bin (if (only && decide (a / 8192 = 5)) = true then 5 else 4) p (.atom (termT L a))) y hy
      rw [wordP, ih]
      have hp : p.toks.map wordS ≠ [] := by simp [PT.toks_ne]
      have e1 : (PT.bin (if (only && decide (a / 8192 = 5)) = true then 5 else 4) p (.atom (termT L a))).toks.map wordS = p.toks.map wordS ++ [wordS (opT (if (only && decide (a / 8192 = 5)) = true then 5 else 4)), wordS (termT L a)] := by simp [PT.toks]
      rw [e1, join_two _ _ _ hp, ← hx]
      have e2 : wordS (termT L a) = sayA L a := rfl
      rw [e2]
      cases hb : (only && decide (a / 8192 = 5))
      · have e3 : wordS (opT (if false = true then 5 else 4)) = [124] := by decide
        rw [e3]
        simp
      · have e3 : wordS (opT (if true = true then 5 else 4)) = [97, 115] := by decide
        rw [e3]
        simp
theorem wordP_ok {L : Nat → List ByteArray} : ∀ (r : List Int) (only : Bool) (p : PT), p.Ok → 3 ≤ p.lev → (only = true → 4 ≤ p.lev) → (∀ a ∈ r, sayA L a ≠ []) → (wordP L only p r).Ok ∧ 3 ≤ (wordP L only p r).lev
  | [], only, p, h, h3, _, _ => ⟨h, h3⟩
  | a :: r, only, p, h, h3, h4, hs => by
    rw [wordP]
    have hat := say_term (hs a (by simp))
    cases hb : (only && decide (a / 8192 = 5))
    · refine wordP_ok r false _ ⟨by decide, h3, (by show (3 : Nat) < 5; omega), h, hat, fun e => absurd e (by decide)⟩ (Nat.le_refl 3) (fun e => by cases e) (fun b hb => hs b (by simp [hb]))
    · simp only [Bool.and_eq_true, decide_eq_true_eq] at hb
      exact wordP_ok r true _ ⟨by decide, h4 hb.1, (by show (4 : Nat) < 5; omega), h, hat, fun _ => ⟨_, rfl, hb.2⟩⟩ (by show (3 : Nat) ≤ 4; omega) (fun _ => Nat.le_refl 4) (fun b hb => hs b (by simp [hb]))
theorem may_list {l : List Int} (hg : Good l) (h1 : 1 ≤ l.length) (h8 : l.length ≤ 8) (hz : ∀ a ∈ l, a ≠ 0) : mayS (ofS l) = true := by
  have hs : (ofS l).size = 2 * l.length := ofS_size l
  unfold mayS
  have ht : tornB (ofS l) = false := by unfold tornB; rw [hs]; simp
  rw [ht, hs, bs_ofS, atoms_unatoms _ hg]
  simp only [Bool.not_false, Bool.true_and, Bool.and_eq_true, decide_eq_true_eq, List.all_eq_true]
  exact ⟨by omega, fun x hx => by simpa using hz x hx⟩
theorem ofS_append (l m : List Int) : ofS l ++ ofS m = ofS (l ++ m) := bs_inj (by rw [bs_append, bs_ofS, bs_ofS, bs_ofS, unatoms_append])
theorem wordP_eval {L : Nat → List ByteArray} (hL : TabL L) : ∀ (r : List Int) (only : Bool) (p : PT) (l : List Int), evalE L p.ex = .ok [ofS l] → 1 ≤ l.length → Good (l ++ r) → (∀ a ∈ l ++ r, a ≠ 0) → (l ++ r).length ≤ 8 → (∀ a ∈ r, sayA L a ≠ []) → evalE L (wordP L only p r).ex = .ok [ofS (l ++ r)]
  | [], only, p, l, h, _, _, _, _, _ => by rw [wordP, List.append_nil]; exact h
  | a :: r, only, p, l, h, h1, hg, hz, h8, hs => by
    have hsa := hs a (by simp)
    have hl8 : l.length + 1 ≤ 8 := by simp only [List.length_append, List.length_cons] at h8; omega
    have hgl : Good l := fun x hx => hg x (by simp [hx])
    have hga : 0 ≤ a ∧ a ≤ 65535 := hg a (by simp)
    have hza := hz a (by simp)
    have ml := may_list hgl h1 (by omega) (fun x hx => hz x (by simp [hx]))
    have ma := may_word (by omega : 1 ≤ a) hga.2
    have hq : quoteL [ofS l] [ofS [a]] = ([ofS (l ++ [a])], 0) := by
      rw [quote_one ml ma (by rw [ofS_size, ofS_size]; simp; omega), ofS_append]
    have ht := say_back hL hsa
    have hev : evalE L (PT.bin (if (only && decide (a / 8192 = 5)) = true then 5 else 4) p (.atom (termT L a))).ex = .ok [ofS (l ++ [a])] := by
      simp only [PT.ex]
      rw [evalE, h]
      simp only []
      rw [evalE, ht]
      simp only []
      cases hb : (only && decide (a / 8192 = 5))
      · have e : opL (if false = true then 5 else 4) [ofS l] [ofS [a]] = quoteL [ofS l] [ofS [a]] := by unfold opL; rw [if_neg (by decide), if_neg (by decide), if_pos (by decide)]
        rw [e, hq]
        simp
      · simp only [Bool.and_eq_true, decide_eq_true_eq] at hb
        have e1 : atS (([ofS [a]].head?).getD ⟨#[]⟩) 0 = a := by
          have : (atoms (bs (ofS [a])))[0]? = some a := by rw [bs_ofS, atoms_unatoms _ (fun x hx => by simp at hx; subst hx; exact hga)]; rfl
          exact atS_get (i := 0) this
        have e : opL (if true = true then 5 else 4) [ofS l] [ofS [a]] = quoteL [ofS l] [ofS [a]] := by
          unfold opL
          rw [if_neg (by decide), if_neg (by decide), if_neg (by decide), e1, asL_ok (may_single ml) (by simp [hb.2])]
        rw [e, hq]
        simp
    rw [wordP]
    have := wordP_eval hL r (only && decide (a / 8192 = 5)) _ (l ++ [a]) hev (by simp) (by simpa using hg) (by simpa using hz) (by simpa using h8) (fun b hb => hs b (by simp [hb]))
    simpa using this
/-- a word that may be, and is said, is what its text means -/
theorem word_means {L : Nat → List ByteArray} (hL : TabL L) {w : ByteArray} (hm : mayS w = true) (hs : Says L w) :
    (wholeW L w).Ok ∧ 3 ≤ (wholeW L w).lev ∧ evalE L (wholeW L w).ex = .ok [w] ∧ (∀ x, sayW L true true (atoms (bs w)) = some x → joinS ((wholeW L w).toks.map wordS) = x) := by
  have hz := mayS_size hm
  have hal : (atoms (bs w)).length = w.size / 2 := by rw [atoms_len, bs_len]
  have hnz : ∀ a ∈ atoms (bs w), a ≠ 0 := by
    unfold mayS at hm
    simp only [Bool.and_eq_true, List.all_eq_true] at hm
    intro a ha
    simpa using hm.2.2 a ha
  have hback : ofS (atoms (bs w)) = w := bs_inj (by rw [bs_ofS]; exact unatoms_atoms _ (by rw [bs_len]; exact hz.1))
  have hgood := atoms_good (bs w)
  unfold wholeW
  unfold Says at hs
  cases hl : atoms (bs w) with
  | nil => rw [hl] at hal; simp at hal; omega
  | cons a r =>
    rw [hl] at hs hnz hgood hback hal
    have hat := say_term (hs a (by simp))
    have hga : 0 ≤ a ∧ a ≤ 65535 := hgood a (by simp)
    have hza := hnz a (by simp)
    have h1 := wordP_ok (L := L) r true (.atom (termT L a)) hat (by simp [PT.lev]) (fun _ => by simp [PT.lev]) (fun b hb => hs b (by simp [hb]))
    have h2 := wordP_eval hL r true (.atom (termT L a)) [a] (by simp only [PT.ex]; rw [evalE, say_back hL (hs a (by simp))]) (by simp) (by simpa using hgood) (by simpa using hnz) (by simp only [List.singleton_append, List.length_cons] at hal ⊢; omega) (fun b hb => hs b (by simp [hb]))
    refine ⟨h1.1, h1.2, by rw [h2]; simp only [List.singleton_append]; rw [hback], fun x hx => ?_⟩
    rw [sayW] at hx
    split at hx
    · cases hx
    · obtain ⟨y, hy, hxy⟩ := Option.map_eq_some_iff.1 hx
      have e0 : (true && (true || decide (a / 8192 = 5))) = true := by simp
      rw [e0] at hy
      rw [wordP_text L r true _ y hy, ← hxy]
      simp [PT.toks, joinS, termT, sayA]
theorem setP_ok {L : Nat → List ByteArray} (hL : TabL L) : ∀ (s : List ByteArray) (p : PT), p.Ok → (∀ w ∈ s, mayS w = true ∧ Says L w) → (setP L p s).Ok
  | [], p, h, _ => h
  | w :: r, p, h, hs => by
    obtain ⟨h1, h2, _⟩ := word_means hL (hs w (by simp)).1 (hs w (by simp)).2
    exact setP_ok hL r _ ⟨by decide, PT.lev_pos h, by show bindS 2 < _; have : bindS 2 = 1 := rfl; omega, h, h1, fun e => absurd e (by decide)⟩ (fun v hv => hs v (by simp [hv]))
theorem setP_text {L : Nat → List ByteArray} (hL : TabL L) : ∀ (s : List ByteArray) (p : PT) (x : List UInt8), (∀ w ∈ s, mayS w = true ∧ Says L w) → sayL L false s = some x → joinS ((setP L p s).toks.map wordS) = joinS (p.toks.map wordS) ++ x
  | [], p, x, _, h => by
    rw [sayL] at h
    cases h
    simp [setP]
  | w :: r, p, x, hs, h => by
    rw [sayL] at h
    split at h
    · cases h
    · rename_i y hy
      obtain ⟨z, hz, hx⟩ := Option.map_eq_some_iff.1 h
      obtain ⟨_, _, _, h4⟩ := word_means hL (hs w (by simp)).1 (hs w (by simp)).2
      have ih := setP_text hL r (.bin 2 p (wholeW L w)) z (fun v hv => hs v (by simp [hv])) hz
      rw [setP, ih]
      have e1 : (PT.bin 2 p (wholeW L w)).toks.map wordS = p.toks.map wordS ++ ([wordS (opT 2)] ++ (wholeW L w).toks.map wordS) := by simp [PT.toks]
      rw [e1, joinS_append _ _ (by simp [PT.toks_ne]) (by simp), joinS_append _ _ (by simp) (by simp [PT.toks_ne]), h4 y hy, ← hx]
      have e2 : joinS [wordS (opT 2)] = [97, 110, 100] := by decide
      rw [e2]
      simp
theorem rising_split {l m : List ByteArray} (h : Rising (l ++ m)) : Rising l := (List.pairwise_append.1 h).1
theorem setP_eval {L : Nat → List ByteArray} (hL : TabL L) : ∀ (s : List ByteArray) (p : PT) (d : List ByteArray), evalE L p.ex = .ok d → 1 ≤ d.length → Rising (d ++ s) → (d ++ s).length ≤ 16 → (∀ w ∈ d ++ s, mayS w = true) → (∀ w ∈ s, Says L w) → evalE L (setP L p s).ex = .ok (d ++ s)
  | [], p, d, h, _, _, _, _, _ => by rw [setP, List.append_nil]; exact h
  | w :: r, p, d, h, h1, hr, h16, hm, hs => by
    obtain ⟨_, _, h3, _⟩ := word_means hL (hm w (by simp)) (hs w (by simp))
    have hr1 : Rising (d ++ [w]) := rising_split (m := r) (by simpa using hr)
    have hl : d.length + 1 ≤ 16 := by simp only [List.length_append, List.length_cons] at h16; omega
    have md : mayL d = true := mayL_iff.2 ⟨⟨h1, by omega⟩, fun x hx => hm x (by simp [hx]), rising_split hr1⟩
    have ha : andL d [w] = (d ++ [w], 0) := by
      rw [andL_may md (may_single (hm w (by simp))), right_self hr1]
      exact boundL_ok (by simp; omega)
    have hev : evalE L (PT.bin 2 p (wholeW L w)).ex = .ok (d ++ [w]) := by
      simp only [PT.ex]
      rw [evalE, h]
      simp only []
      rw [h3]
      simp only []
      have e : opL 2 d [w] = andL d [w] := by unfold opL; rw [if_pos rfl]
      rw [e, ha]
      simp
    rw [setP]
    have := setP_eval hL r _ (d ++ [w]) hev (by simp) (by simpa using hr) (by simpa using h16) (by simpa using hm) (fun v hv => hs v (by simp [hv]))
    simpa using this
/-- no parentheses -/
def Plain (p : PT) : Prop := p.cnt = 0 ∧ p.dep = 0
theorem wordP_plain (L : Nat → List ByteArray) : ∀ (r : List Int) (only : Bool) (p : PT), Plain p → Plain (wordP L only p r) ∧ (wordP L only p r).ex.atoms = p.ex.atoms + r.length
  | [], only, p, h => ⟨h, rfl⟩
  | a :: r, only, p, h => by
    have := wordP_plain L r (only && decide (a / 8192 = 5)) (.bin (if (only && decide (a / 8192 = 5)) = true then 5 else 4) p (.atom (termT L a))) ⟨by simp [PT.cnt, h.1], by simp [PT.dep, h.2]⟩
    rw [wordP]
    refine ⟨this.1, ?_⟩
    rw [this.2]
    simp only [PT.ex, Ex.atoms, List.length_cons]
    omega
theorem wholeW_plain (L : Nat → List ByteArray) {w : ByteArray} (hm : mayS w = true) : Plain (wholeW L w) ∧ (wholeW L w).ex.atoms = (atoms (bs w)).length := by
  have hz := mayS_size hm
  have hal : (atoms (bs w)).length = w.size / 2 := by rw [atoms_len, bs_len]
  unfold wholeW
  cases hl : atoms (bs w) with
  | nil => rw [hl] at hal; simp at hal; omega
  | cons a r =>
    have := wordP_plain L r true (.atom (termT L a)) ⟨rfl, rfl⟩
    refine ⟨this.1, ?_⟩
    simp only []
    rw [this.2]
    simp [PT.ex, Ex.atoms, Nat.add_comm]
/-- how many atoms a set has -/
def atomsN (s : List ByteArray) : Nat := (s.map fun w => (atoms (bs w)).length).sum
theorem setP_plain (L : Nat → List ByteArray) : ∀ (s : List ByteArray) (p : PT), Plain p → (∀ w ∈ s, mayS w = true) → Plain (setP L p s) ∧ (setP L p s).ex.atoms = p.ex.atoms + atomsN s
  | [], p, h, _ => ⟨h, by simp [setP, atomsN]⟩
  | w :: r, p, h, hm => by
    obtain ⟨h1, h2⟩ := wholeW_plain L (hm w (by simp))
    have := setP_plain L r (.bin 2 p (wholeW L w)) ⟨by simp [PT.cnt, h.1, h1.1], by simp [PT.dep, h.2, h1.2]⟩ (fun v hv => hm v (by simp [hv]))
    rw [setP]
    refine ⟨this.1, ?_⟩
    rw [this.2]
    simp only [PT.ex, Ex.atoms, atomsN, List.map_cons, List.sum_cons, h2]
    omega
theorem plain_text {p : PT} (h : p.Ok) (hp : Plain p) (hn : p.ex.atoms ≤ 90) : ParseIs (joinS (p.toks.map wordS)) p.ex.post 0 0 := by
  have hw := PT.words h
  obtain ⟨m, hr, hm⟩ := run_join p.toks 0 hw
  have h1 := PT.sum h
  have h2 := PT.len p
  have h3 := atoms_post p.ex
  have h4 := inf_sum (PT.ex_ok h)
  have h5 := join_len p.toks
  have hlen : m.length = p.toks.length := by rw [← hm, List.length_map]
  rw [hp.1] at h1 h2
  refine parse_tree (m := m) ?_ hm h (by rw [hp.2]; omega) (by omega)
  unfold allS
  rw [if_neg (by omega)]
  exact run_ok hr (by omega)
theorem says_all {L : Nat → List ByteArray} : ∀ (l : List Int) (only first : Bool) (x : List UInt8), sayW L only first l = some x → ∀ a ∈ l, sayA L a ≠ []
  | [], _, _, _, _, a, ha => by cases ha
  | b :: r, only, first, x, h, a, ha => by
    rw [sayW] at h
    split at h
    · cases h
    · rename_i hb
      obtain ⟨y, hy, _⟩ := Option.map_eq_some_iff.1 h
      rcases List.mem_cons.1 ha with rfl | ha
      · exact hb
      · exact says_all r _ _ y hy a ha
theorem says_sets {L : Nat → List ByteArray} : ∀ (s : List ByteArray) (first : Bool) (x : List UInt8), sayL L first s = some x → ∀ w ∈ s, Says L w
  | [], _, _, _, w, hw => by cases hw
  | v :: r, first, x, h, w, hw => by
    rw [sayL] at h
    split at h
    · cases h
    · rename_i y hy
      obtain ⟨z, hz, _⟩ := Option.map_eq_some_iff.1 h
      rcases List.mem_cons.1 hw with rfl | hw
      · exact says_all _ _ _ y hy
      · exact says_sets r _ z hz w hw
/-- a set's text is read as that set -/
theorem show_back {L : Nat → List ByteArray} (hL : TabL L) {s : List ByteArray} {x : List UInt8} (h : showL L s = (x, 0)) (hn : atomsN s ≤ 90) : Read6 L x (s, 0, 0) := by
  unfold showL at h
  split at h
  · cases h
  · rename_i hm
    have hm : mayL s = true := by simpa using hm
    obtain ⟨⟨h1, h16⟩, hw, hr⟩ := mayL_iff.1 hm
    split at h
    · rename_i y hy
      cases h
      have hsay := says_sets s true x hy
      match s, h1, h16, hw, hr, hy, hsay, hn with
      | w :: r, h1, h16, hw, hr, hy, hsay, hn =>
        rw [sayL] at hy
        split at hy
        · cases hy
        · rename_i y1 hy1
          obtain ⟨z, hz, hx⟩ := Option.map_eq_some_iff.1 hy
          obtain ⟨w1, w2, w3, w4⟩ := word_means hL (hw w (by simp)) (hsay w (by simp))
          obtain ⟨p1, p2⟩ := wholeW_plain L (hw w (by simp))
          have hok := setP_ok hL r (wholeW L w) w1 (fun v hv => ⟨hw v (by simp [hv]), hsay v (by simp [hv])⟩)
          have hev := setP_eval hL r (wholeW L w) [w] w3 (by simp) (by simpa using hr) (by simpa using h16) (by simpa using hw) (fun v hv => hsay v (by simp [hv]))
          have hpl := setP_plain L r (wholeW L w) p1 (fun v hv => hw v (by simp [hv]))
          have htx := setP_text hL r (wholeW L w) z (fun v hv => ⟨hw v (by simp [hv]), hsay v (by simp [hv])⟩) hz
          have hat : (setP L (wholeW L w) r).ex.atoms ≤ 90 := by
            rw [hpl.2, p2]
            simp only [atomsN, List.map_cons, List.sum_cons] at hn
            unfold atomsN
            exact hn
          have hpa := plain_text hok hpl.1 hat
          rw [htx, w4 y1 hy1] at hpa
          have hxx : x = y1 ++ z := by rw [← hx]; simp
          rw [← hxx] at hpa
          have hlen : (setP L (wholeW L w) r).ex.post.length ≤ 200 := by have := atoms_post (setP L (wholeW L w) r).ex; omega
          refine ⟨_, 0, 0, hpa, .inr ⟨rfl, (w :: r, 0, 0), .inl ⟨_, ⟨PT.ex_ok hok, rfl, hlen⟩, ?_⟩, rfl⟩⟩
          rw [hev]
          rfl
    · cases h
theorem say_some {L : Nat → List ByteArray} : ∀ (l : List Int) (only first : Bool), (∀ a ∈ l, sayA L a ≠ []) → ∃ x, sayW L only first l = some x
  | [], _, _, _ => ⟨[], rfl⟩
  | b :: r, only, first, h => by
    obtain ⟨y, hy⟩ := say_some r (only && (first || decide (b / 8192 = 5))) false (fun a ha => h a (by simp [ha]))
    rw [sayW, if_neg (h b (by simp)), hy]
    exact ⟨_, rfl⟩
theorem says_some {L : Nat → List ByteArray} : ∀ (s : List ByteArray) (first : Bool), (∀ w ∈ s, Says L w) → ∃ x, sayL L first s = some x
  | [], _, _ => ⟨[], rfl⟩
  | w :: r, first, h => by
    obtain ⟨x, hx⟩ := say_some (atoms (bs w)) true true (h w (by simp))
    obtain ⟨y, hy⟩ := says_some r false (fun v hv => h v (by simp [hv]))
    rw [sayL, hx]
    simp only []
    rw [hy]
    exact ⟨_, rfl⟩
theorem eval_err {L : Nat → List ByteArray} : ∀ {e : Ex} {p : Nat} {q : Int}, evalE L e = .error (p, q) → q ≠ 0
  | .atom t, p, q, h => by
    rw [evalE] at h
    split at h
    · cases h
    · cases h; decide
  | .bin k a b, p, q, h => by
    rw [evalE] at h
    cases ha : evalE L a with
    | error x =>
      obtain ⟨p1, q1⟩ := x
      rw [ha] at h
      cases h
      exact eval_err ha
    | ok x =>
      rw [ha] at h
      simp only [] at h
      cases hb : evalE L b with
      | error y =>
        obtain ⟨p1, q1⟩ := y
        rw [hb] at h
        cases h
        exact eval_err hb
      | ok y =>
        rw [hb] at h
        simp only [] at h
        split at h
        · cases h
        · rename_i h0
          cases h
          exact h0
/-- what is read can be shown -/
theorem read_shows {L : Nat → List ByteArray} (hL : TabL L) {t : List UInt8} {s : List ByteArray} {n : Nat} (h : Read6 L t (s, n, 0)) : mayL s = true ∧ ∃ x, showL L s = (x, 0) := by
  obtain ⟨x, n', q, h1, h2⟩ := h
  rcases h2 with ⟨hq, he⟩ | ⟨hq, r', hr, he⟩
  · have := congrArg (fun z => z.2.2) he
    exact absurd this.symm hq
  · have e1 : s = r'.1 := congrArg (fun z => z.1) he
    have e2 : (0 : Int) = r'.2.2 := congrArg (fun z => z.2.2) he
    rcases hr with ⟨e, hm, rfl⟩ | ⟨_, rfl⟩
    · cases hev : evalE L e with
      | ok d =>
        rw [hev] at e1
        simp only [] at e1
        subst e1
        have hmay := eval_may hL hm.1 hev
        have hsay := eval_says hL hm.1 hev
        obtain ⟨y, hy⟩ := says_some s true hsay
        exact ⟨hmay, y, by unfold showL; rw [if_neg (by simp [hmay]), hy]⟩
      | error y =>
        exfalso
        obtain ⟨p, q'⟩ := y
        rw [hev] at e2
        simp only [] at e2
        exact eval_err hev e2.symm
    · exact absurd e2 (by decide)

open Go.RowKit Go.ChangeShapes Go.WideShapes
set_option maxRecDepth 20000
def Ex.leaves : Ex → List Tok
  | .atom t => [t]
  | .bin _ a b => a.leaves ++ b.leaves
def AllOp (k : Int) : Ex → Prop
  | .atom _ => True
  | .bin o a b => o = k ∧ AllOp k a ∧ AllOp k b
/-- the words of atoms; none: one of them isn't there -/
def valsL (L : Nat → List ByteArray) : List Tok → Option (List ByteArray)
  | [] => some []
  | t :: r => match termA L t with
    | none => none
    | some a => (valsL L r).map (ofS [a] :: ·)
theorem vals_append {L : Nat → List ByteArray} : ∀ (x y : List Tok), valsL L (x ++ y) = match valsL L x with
    | none => none
    | some a => (valsL L y).map (a ++ ·)
  | [], y => by simp [valsL]
  | t :: r, y => by
    have ih := vals_append (L := L) r y
    rw [List.cons_append, valsL, valsL, ih]
    cases termA L t with
    | none => rfl
    | some a =>
      simp only []
      cases valsL L r with
      | none => rfl
      | some b => cases valsL L y <;> simp
theorem vals_len {L : Nat → List ByteArray} : ∀ (x : List Tok) (ws : List ByteArray), valsL L x = some ws → ws.length = x.length
  | [], ws, h => by rw [valsL] at h; cases h; rfl
  | t :: r, ws, h => by
    rw [valsL] at h
    cases ha : termA L t with
    | none => rw [ha] at h; cases h
    | some a =>
      rw [ha] at h
      obtain ⟨y, hy, rfl⟩ := Option.map_eq_some_iff.1 h
      simp [vals_len r y hy]
theorem leaves_pos : ∀ e : Ex, 1 ≤ e.leaves.length
  | .atom _ => Nat.le_refl _
  | .bin _ a b => by have := leaves_pos a; simp only [Ex.leaves, List.length_append]; omega
theorem rising_one (x : ByteArray) : rightS [x] = [x] := right_self (by simp [Rising])
/-- nothing but 'and' -/
theorem and_tree {L : Nat → List ByteArray} (hL : TabL L) : ∀ (e : Ex), e.Ok → AllOp 2 e → e.leaves.length ≤ 16 →
    (valsL L e.leaves = none → ∃ p, evalE L e = .error (p, 10)) ∧ (∀ ws, valsL L e.leaves = some ws → evalE L e = .ok (rightS ws))
  | .atom t, h, _, _ => by
    rw [Ex.leaves, valsL]
    cases ha : termA L t with
    | none => exact ⟨fun _ => ⟨0, by rw [evalE, ha]⟩, fun ws hw => by cases hw⟩
    | some a =>
      refine ⟨fun hn => ?_, fun ws hw => ?_⟩
      · simp [valsL] at hn
      · simp [valsL] at hw
        subst hw
        rw [evalE, ha, rising_one]
  | .bin o a b, h, ho, hl => by
    obtain ⟨rfl, ha, hb⟩ := ho
    simp only [Ex.leaves, List.length_append] at hl
    have pa := leaves_pos a
    have pb := leaves_pos b
    obtain ⟨a1, a2⟩ := and_tree hL a h.2.1 ha (by omega)
    obtain ⟨b1, b2⟩ := and_tree hL b h.2.2.1 hb (by omega)
    rw [Ex.leaves, vals_append, evalE]
    cases hva : valsL L a.leaves with
    | none =>
      obtain ⟨p, hp⟩ := a1 hva
      rw [hp]
      exact ⟨fun _ => ⟨p, rfl⟩, fun ws hw => by cases hw⟩
    | some x =>
      have ea := a2 x hva
      rw [ea]
      simp only []
      cases hvb : valsL L b.leaves with
      | none =>
        obtain ⟨p, hp⟩ := b1 hvb
        rw [hp]
        exact ⟨fun _ => ⟨_, rfl⟩, fun ws hw => by cases hw⟩
      | some y =>
        have eb := b2 y hvb
        rw [eb]
        refine ⟨fun hn => (by cases hn), fun ws hw => ?_⟩
        cases hw
        simp only []
        have ma := eval_may hL h.2.1 ea
        have mb := eval_may hL h.2.2.1 eb
        have e1 : opL 2 (rightS x) (rightS y) = (rightS (x ++ y), 0) := by
          unfold opL
          rw [if_pos rfl, andL_may ma mb, right_same (l := rightS x ++ rightS y) (m := x ++ y) (fun z => by simp [mem_right])]
          have hlx := vals_len _ _ hva
          have hly := vals_len _ _ hvb
          have h1 := right_length (x ++ y)
          have h2 : (rightS (x ++ y)).length ≠ 0 := by
            intro h0
            have h3 := List.eq_nil_of_length_eq_zero h0
            cases hx : x with
            | nil => rw [hx] at hlx; simp at hlx; omega
            | cons z r =>
              have := (mem_right z (x ++ y)).2 (by rw [hx]; simp)
              rw [h3] at this
              cases this
          rw [List.length_append] at h1
          exact boundL_ok (by omega)
        rw [e1]
        rfl
def catW : List ByteArray → ByteArray
  | [] => ⟨#[]⟩
  | x :: r => x ++ catW r
theorem bs_catW : ∀ l : List ByteArray, bs (catW l) = (l.map bs).flatten
  | [] => rfl
  | x :: r => by simp [catW, bs_append, bs_catW r]
theorem catW_append (x y : List ByteArray) : catW x ++ catW y = catW (x ++ y) := bs_inj (by rw [bs_append, bs_catW, bs_catW, bs_catW]; simp)
theorem catW_size {L : Nat → List ByteArray} : ∀ (x : List Tok) (ws : List ByteArray), valsL L x = some ws → (catW ws).size = 2 * x.length
  | [], ws, h => by rw [valsL] at h; cases h; rfl
  | t :: r, ws, h => by
    rw [valsL] at h
    cases ha : termA L t with
    | none => rw [ha] at h; cases h
    | some a =>
      rw [ha] at h
      obtain ⟨y, hy, rfl⟩ := Option.map_eq_some_iff.1 h
      have ih := catW_size r y hy
      have := ofS_size [a]
      simp only [catW, ByteArray.size_append, List.length_cons, List.length_nil] at *
      omega
/-- nothing but bars -/
theorem quote_tree {L : Nat → List ByteArray} (hL : TabL L) : ∀ (e : Ex), e.Ok → AllOp 4 e → e.leaves.length ≤ 8 →
    (valsL L e.leaves = none → ∃ p, evalE L e = .error (p, 10)) ∧ (∀ ws, valsL L e.leaves = some ws → evalE L e = .ok [catW ws])
  | .atom t, h, _, _ => by
    rw [Ex.leaves, valsL]
    cases ha : termA L t with
    | none => exact ⟨fun _ => ⟨0, by rw [evalE, ha]⟩, fun ws hw => by cases hw⟩
    | some a =>
      refine ⟨fun hn => ?_, fun ws hw => ?_⟩
      · simp [valsL] at hn
      · simp [valsL] at hw
        subst hw
        rw [evalE, ha]
        have : catW [ofS [a]] = ofS [a] := bs_inj (by rw [bs_catW]; simp)
        rw [this]
  | .bin o a b, h, ho, hl => by
    obtain ⟨rfl, ha, hb⟩ := ho
    simp only [Ex.leaves, List.length_append] at hl
    have pa := leaves_pos a
    have pb := leaves_pos b
    obtain ⟨a1, a2⟩ := quote_tree hL a h.2.1 ha (by omega)
    obtain ⟨b1, b2⟩ := quote_tree hL b h.2.2.1 hb (by omega)
    rw [Ex.leaves, vals_append, evalE]
    cases hva : valsL L a.leaves with
    | none =>
      obtain ⟨p, hp⟩ := a1 hva
      rw [hp]
      exact ⟨fun _ => ⟨p, rfl⟩, fun ws hw => by cases hw⟩
    | some x =>
      have ea := a2 x hva
      rw [ea]
      simp only []
      cases hvb : valsL L b.leaves with
      | none =>
        obtain ⟨p, hp⟩ := b1 hvb
        rw [hp]
        exact ⟨fun _ => ⟨_, rfl⟩, fun ws hw => by cases hw⟩
      | some y =>
        have eb := b2 y hvb
        rw [eb]
        refine ⟨fun hn => (by cases hn), fun ws hw => ?_⟩
        cases hw
        simp only []
        have ma := may_words (eval_may hL h.2.1 ea) _ (List.mem_singleton.2 rfl)
        have mb := may_words (eval_may hL h.2.2.1 eb) _ (List.mem_singleton.2 rfl)
        have e1 : opL 4 [catW x] [catW y] = ([catW (x ++ y)], 0) := by
          unfold opL
          rw [if_neg (by decide), if_neg (by decide), if_pos rfl, quote_one ma mb (by rw [catW_size _ _ hva, catW_size _ _ hvb]; omega), catW_append]
        rw [e1]
        rfl
/-- two trees over the same atoms, with nothing but one sign: they mean the same -/
theorem tree_same {L : Nat → List ByteArray} (hL : TabL L) {k : Int} (hk : k = 2 ∨ k = 4) {e f : Ex} (he : e.Ok) (hf : f.Ok) (oe : AllOp k e) (of' : AllOp k f) (hl : e.leaves = f.leaves) (h8 : e.leaves.length ≤ 8) :
    (∃ s, evalE L e = .ok s ∧ evalE L f = .ok s) ∨ (∃ p q, evalE L e = .error (p, 10) ∧ evalE L f = .error (q, 10)) := by
  rcases hk with rfl | rfl
  · obtain ⟨a1, a2⟩ := and_tree hL e he oe (by omega)
    obtain ⟨b1, b2⟩ := and_tree hL f hf of' (by rw [← hl]; omega)
    rw [← hl] at b1 b2
    cases hv : valsL L e.leaves with
    | none => obtain ⟨p, hp⟩ := a1 hv; obtain ⟨q, hq⟩ := b1 hv; exact .inr ⟨p, q, hp, hq⟩
    | some ws => exact .inl ⟨_, a2 ws hv, b2 ws hv⟩
  · obtain ⟨a1, a2⟩ := quote_tree hL e he oe h8
    obtain ⟨b1, b2⟩ := quote_tree hL f hf of' (by rw [← hl]; exact h8)
    rw [← hl] at b1 b2
    cases hv : valsL L e.leaves with
    | none => obtain ⟨p, hp⟩ := a1 hv; obtain ⟨q, hq⟩ := b1 hv; exact .inr ⟨p, q, hp, hq⟩
    | some ws => exact .inl ⟨_, a2 ws hv, b2 ws hv⟩
/-- from the left on -/
def leftE (k : Int) : Ex → List Tok → Ex
  | e, [] => e
  | e, t :: r => leftE k (.bin k e (.atom t)) r
def leftP (k : Int) : List Tok → List Tok
  | [] => []
  | t :: r => t :: r.flatMap fun u => [u, opT k]
theorem left_post (k : Int) : ∀ (r : List Tok) (e : Ex), (leftE k e r).post = e.post ++ r.flatMap fun u => [u, opT k]
  | [], e => by simp [leftE]
  | t :: r, e => by rw [leftE, left_post k r]; simp [Ex.post]
theorem left_ok {k : Int} (hk : k = 2 ∨ k = 4) : ∀ (r : List Tok) (e : Ex), e.Ok → (∀ t ∈ r, AtomOk t) → (leftE k e r).Ok
  | [], e, h, _ => h
  | t :: r, e, h, hr => left_ok hk r _ ⟨by rcases hk with rfl | rfl <;> decide, h, hr t (by simp), fun e5 => by rcases hk with rfl | rfl <;> exact absurd e5 (by decide)⟩ (fun u hu => hr u (by simp [hu]))
theorem left_all (k : Int) : ∀ (r : List Tok) (e : Ex), AllOp k e → AllOp k (leftE k e r)
  | [], e, h => h
  | t :: r, e, h => left_all k r _ ⟨rfl, h, trivial⟩
theorem left_leaves (k : Int) : ∀ (r : List Tok) (e : Ex), (leftE k e r).leaves = e.leaves ++ r
  | [], e => by simp [leftE]
  | t :: r, e => by rw [leftE, left_leaves k r]; simp [Ex.leaves]
/-- from the right on -/
def rightE (k : Int) : Tok → List Tok → Ex
  | t, [] => .atom t
  | t, u :: r => .bin k (.atom t) (rightE k u r)
def rightP (k : Int) (l : List Tok) : List Tok := l ++ List.replicate (l.length - 1) (opT k)
theorem right_post (k : Int) : ∀ (r : List Tok) (t : Tok), (rightE k t r).post = t :: r ++ List.replicate r.length (opT k)
  | [], t => by simp [rightE, Ex.post]
  | u :: r, t => by rw [rightE, Ex.post, right_post k r]; simp [Ex.post, List.replicate_succ']
theorem right_ok {k : Int} (hk : k = 2 ∨ k = 4) : ∀ (r : List Tok) (t : Tok), AtomOk t → (∀ u ∈ r, AtomOk u) → (rightE k t r).Ok
  | [], t, h, _ => h
  | u :: r, t, h, hr => ⟨by rcases hk with rfl | rfl <;> decide, h, right_ok hk r u (hr u (by simp)) (fun v hv => hr v (by simp [hv])), fun e5 => by rcases hk with rfl | rfl <;> exact absurd e5 (by decide)⟩
theorem right_all (k : Int) : ∀ (r : List Tok) (t : Tok), AllOp k (rightE k t r)
  | [], t => trivial
  | u :: r, t => ⟨rfl, trivial, right_all k r u⟩
theorem right_leaves (k : Int) : ∀ (r : List Tok) (t : Tok), (rightE k t r).leaves = t :: r
  | [], t => rfl
  | u :: r, t => by rw [rightE, Ex.leaves, right_leaves k r]; rfl
/-- parted in two -/
def midP (k : Int) (n : Nat) (l : List Tok) : List Tok := leftP k (l.take n) ++ (leftP k (l.drop n) ++ [opT k])
theorem run_same {L : Nat → List ByteArray} (hL : TabL L) {k : Int} (hk : k = 2 ∨ k = 4) {e f : Ex} {x y : List Tok} {r r' : List ByteArray × Nat × Int} (he : MayIs x e) (hf : MayIs y f) (oe : AllOp k e) (of' : AllOp k f) (hl : e.leaves = f.leaves) (h8 : e.leaves.length ≤ 8)
    (hr : RunIs L x r) (hr' : RunIs L y r') : r.1 = r'.1 ∧ r.2.2 = r'.2.2 := by
  have hx : RunIs L x (match evalE L e with | .ok s => (s, 0, 0) | .error (p, q) => ([], p, q)) := .inl ⟨e, he, rfl⟩
  have hy : RunIs L y (match evalE L f with | .ok s => (s, 0, 0) | .error (p, q) => ([], p, q)) := .inl ⟨f, hf, rfl⟩
  rw [hr.unique hx, hr'.unique hy]
  rcases tree_same hL hk he.1 hf.1 oe of' hl h8 with ⟨s, h1, h2⟩ | ⟨p, q, h1, h2⟩
  · rw [h1, h2]; exact ⟨rfl, rfl⟩
  · rw [h1, h2]; exact ⟨rfl, rfl⟩
theorem run_not {L : Nat → List ByteArray} {x : List Tok} {r : List ByteArray × Nat × Int} {t : Tok} (ht : t ∈ x) (hw : wordS t = []) (hr : RunIs L x r) : r = ([], 0, 2) := by
  rcases hr with ⟨e, h1, _⟩ | ⟨_, h⟩
  · exact absurd hw (post_terms h1.1 t (by rw [← h1.2.1]; exact ht)).1
  · exact h
theorem mem_leftP {k : Int} {t : Tok} {l : List Tok} (h : t ∈ l) : t ∈ leftP k l := by
  cases l with
  | nil => cases h
  | cons u r =>
    rcases List.mem_cons.1 h with rfl | h
    · simp [leftP]
    · simp only [leftP, List.mem_cons, List.mem_flatMap]
      exact .inr ⟨t, h, by simp⟩
/-- parentheses change nothing where there is nothing but one sign -/
theorem parens_same {L : Nat → List ByteArray} (hL : TabL L) {k : Int} (hk : k = 2 ∨ k = 4) {l : List Tok} {n : Nat} {r1 r2 r3 : List ByteArray × Nat × Int} (h2 : 2 ≤ l.length) (h8 : l.length ≤ 8) (hat : ∀ t ∈ l, t.kind = 1) (hn1 : 1 ≤ n) (hn2 : n < l.length)
    (hr1 : RunIs L (leftP k l) r1) (hr2 : RunIs L (rightP k l) r2) (hr3 : RunIs L (midP k n l) r3) : (r1.1 = r2.1 ∧ r1.2.2 = r2.2.2) ∧ (r1.1 = r3.1 ∧ r1.2.2 = r3.2.2) := by
  by_cases hw : ∃ t ∈ l, wordS t = []
  · obtain ⟨t, ht, hw⟩ := hw
    have a1 := run_not (mem_leftP ht) hw hr1
    have a2 := run_not (by unfold rightP; simp [ht]) hw hr2
    have hm : t ∈ midP k n l := by
      unfold midP
      rw [← List.take_append_drop n l] at ht
      rcases List.mem_append.1 ht with ht | ht
      · exact List.mem_append.2 (.inl (mem_leftP ht))
      · exact List.mem_append.2 (.inr (List.mem_append.2 (.inl (mem_leftP ht))))
    have a3 := run_not hm hw hr3
    rw [a1, a2, a3]
    exact ⟨⟨rfl, rfl⟩, rfl, rfl⟩
  · have hok : ∀ t ∈ l, AtomOk t := fun t ht => ⟨hat t ht, fun e => hw ⟨t, ht, e⟩⟩
    have hbk : bindS k ≠ 0 := by rcases hk with rfl | rfl <;> decide
    -- the three trees
    have L1 : ∀ m : List Tok, m ≠ [] → (∀ t ∈ m, AtomOk t) → ∃ e : Ex, e.Ok ∧ AllOp k e ∧ e.leaves = m ∧ e.post = leftP k m := fun m hm hmo => by
      cases m with
      | nil => exact absurd rfl hm
      | cons t r => exact ⟨leftE k (.atom t) r, left_ok hk r _ (hmo t (by simp)) (fun u hu => hmo u (by simp [hu])), left_all k r _ trivial, by rw [left_leaves]; rfl, by rw [left_post]; rfl⟩
    obtain ⟨e1, a1, b1, c1, d1⟩ := L1 l (by intro e; rw [e] at h2; simp at h2) hok
    obtain ⟨e2, a2, b2, c2, d2⟩ : ∃ e : Ex, e.Ok ∧ AllOp k e ∧ e.leaves = l ∧ e.post = rightP k l := by
      cases l with
      | nil => simp at h2
      | cons t r => exact ⟨rightE k t r, right_ok hk r t (hok t (by simp)) (fun u hu => hok u (by simp [hu])), right_all k r t, right_leaves k r t, by rw [right_post]; unfold rightP; simp⟩
    have ht1 : (l.take n).length = n := by rw [List.length_take]; omega
    have hd1 : (l.drop n).length = l.length - n := List.length_drop
    obtain ⟨e4, a4, b4, c4, d4⟩ := L1 (l.take n) (by intro e; rw [e] at ht1; simp at ht1; omega) (fun t ht => hok t (List.mem_of_mem_take ht))
    obtain ⟨e5, a5, b5, c5, d5⟩ := L1 (l.drop n) (by intro e; rw [e] at hd1; simp at hd1; omega) (fun t ht => hok t (List.mem_of_mem_drop ht))
    have a3 : (Ex.bin k e4 e5).Ok := ⟨hbk, a4, a5, fun x => by rcases hk with rfl | rfl <;> exact absurd x (by decide)⟩
    have b3 : AllOp k (Ex.bin k e4 e5) := ⟨rfl, b4, b5⟩
    have c3 : (Ex.bin k e4 e5).leaves = l := by rw [Ex.leaves, c4, c5, List.take_append_drop]
    have d3 : (Ex.bin k e4 e5).post = midP k n l := by rw [Ex.post, d4, d5]; rfl
    have lp : ∀ (r : List Tok), (r.flatMap fun u => [u, opT k]).length = 2 * r.length := fun r => by
      induction r with
      | nil => rfl
      | cons u r ih => simp only [List.flatMap_cons, List.length_append, List.length_cons, List.length_nil, ih]; omega
    have ll : ∀ m : List Tok, (leftP k m).length ≤ 2 * m.length := fun m => by
      cases m with
      | nil => simp [leftP]
      | cons t r => simp only [leftP, List.length_cons, lp]; omega
    have m1 : MayIs (leftP k l) e1 := ⟨a1, d1.symm, by have := ll l; omega⟩
    have m2 : MayIs (rightP k l) e2 := ⟨a2, d2.symm, by unfold rightP; simp; omega⟩
    have m3 : MayIs (midP k n l) (.bin k e4 e5) := ⟨a3, d3.symm, by
      have h1 := ll (l.take n)
      have h2 := ll (l.drop n)
      unfold midP
      simp only [List.length_append, List.length_cons, List.length_nil]
      omega⟩
    exact ⟨run_same hL hk m1 m2 b1 b2 (by rw [c1, c2]) (by rw [c1]; exact h8) hr1 hr2, run_same hL hk m1 m3 b1 b3 (by rw [c1, c3]) (by rw [c1]; exact h8) hr1 hr3⟩

open Go.RowKit Go.ChangeShapes Go.WideShapes
set_option maxRecDepth 20000
theorem join_may {x y : List Tok} {e f : Ex} {k : Int} (h1 : MayIs x e) (h2 : MayIs y f) (hk : bindS k ≠ 0) (h5 : k = 5 → ∃ t, f = .atom t ∧ t.of = 5) (hl : x.length + y.length + 1 ≤ 200) : MayIs (x ++ y ++ [opT k]) (.bin k e f) :=
  ⟨⟨hk, h1.1, h2.1, h5⟩, by rw [h1.2.1, h2.2.1]; simp [Ex.post], by simp only [List.length_append, List.length_cons, List.length_nil]; omega⟩
theorem join_not {x y : List Tok} {e f : Ex} (h1 : MayIs x e) (h2 : MayIs y f) (h5 : ¬ ∃ t, f = .atom t ∧ t.of = 5) (g : Ex) : ¬ MayIs (x ++ y ++ [opT 5]) g := fun hm => by
  have hE : EndIs ((x ++ y) ++ [opT 5]) [] g := ⟨hm.1, by rw [hm.2.1]; rfl⟩
  rcases hE.inv with ⟨h3, _⟩ | ⟨k, a, b, q, h3, _, h4, _, _, h6⟩
  · exact absurd h3.1 (by decide)
  · have hf : EndIs (x ++ y) x f := ⟨h2.1, by rw [h2.2.1]⟩
    obtain ⟨_, rfl⟩ := h4.unique hf
    have : k = 5 := by have := congrArg Tok.kind h3; exact this.symm
    exact h5 (h6 this)
theorem join_role {y : List Tok} {f : Ex} (h2 : MayIs y f) : (∃ t, f = .atom t ∧ t.of = 5) ↔ ∃ t, y = [t] ∧ t.of = 5 := by
  constructor
  · rintro ⟨t, rfl, ho⟩
    exact ⟨t, h2.2.1, ho⟩
  · rintro ⟨t, rfl, ho⟩
    cases f with
    | atom u =>
      have := h2.2.1
      simp only [Ex.post] at this
      cases this
      exact ⟨_, rfl, ho⟩
    | bin k a b =>
      exfalso
      have h3 := congrArg List.length h2.2.1
      have ha := List.length_pos_iff.2 a.post_ne
      have hb := List.length_pos_iff.2 b.post_ne
      simp only [Ex.post, List.length_append, List.length_cons, List.length_nil] at h3
      omega
/-- what a sign between two expressions means -/
theorem join_run {L : Nat → List ByteArray} {x y : List Tok} {e f : Ex} {k : Int} {a b : List ByteArray} {r : List ByteArray × Nat × Int} (h1 : MayIs x e) (h2 : MayIs y f) (hk : bindS k ≠ 0) (h5 : k = 5 → ∃ t, f = .atom t ∧ t.of = 5) (hl : x.length + y.length + 1 ≤ 200)
    (ha : evalE L e = .ok a) (hb : evalE L f = .ok b) (hr : RunIs L (x ++ y ++ [opT k]) r) : r = if (opL k a b).2 = 0 then ((opL k a b).1, 0, 0) else ([], x.length + y.length, (opL k a b).2) := by
  have hz : RunIs L (x ++ y ++ [opT k]) (match evalE L (.bin k e f) with | .ok s => (s, 0, 0) | .error (p, q) => ([], p, q)) := .inl ⟨_, join_may h1 h2 hk h5 hl, rfl⟩
  rw [hr.unique hz, evalE, ha]
  simp only []
  rw [hb]
  simp only []
  by_cases h0 : (opL k a b).2 = 0
  · rw [if_pos h0, if_pos h0]
  · rw [if_neg h0, if_neg h0, h1.2.1, h2.2.1]
theorem run_ok_may {L : Nat → List ByteArray} {x : List Tok} {s : List ByteArray} {n : Nat} (hr : RunIs L x (s, n, 0)) : ∃ e, MayIs x e ∧ evalE L e = .ok s := by
  rcases hr with ⟨e, h1, h2⟩ | ⟨_, h2⟩
  · cases he : evalE L e with
    | ok d =>
      rw [he] at h2
      have := congrArg (fun z => z.1) h2
      simp only [] at this
      exact ⟨e, h1, by rw [this]; exact he⟩
    | error y =>
      obtain ⟨p, q⟩ := y
      rw [he] at h2
      have := congrArg (fun z => z.2.2) h2
      simp only [] at this
      exact absurd this.symm (eval_err he)
  · have h3 : (0 : Int) = 2 := congrArg (fun z => z.2.2) h2
    exact absurd h3 (by decide)

open Go.RowKit Go.ChangeShapes Go.WideShapes
set_option maxRecDepth 20000
theorem left_zero {k : Int} {l : List Tok} {t : Tok} (h : l[0]? = some t) : leftP k (l.take 1) = [t] := by
  cases l with
  | nil => simp at h
  | cons a r => simp at h; subst h; simp [leftP]
theorem left_next {k : Int} {l : List Tok} {j : Nat} {t : Tok} (hj : 0 < j) (h : l[j]? = some t) : leftP k (l.take (j + 1)) = leftP k (l.take j) ++ [t, opT k] := by
  cases l with
  | nil => simp at h
  | cons a r =>
    obtain ⟨i, rfl⟩ : ∃ i, j = i + 1 := ⟨j - 1, by omega⟩
    simp at h
    obtain ⟨hi, rfl⟩ := List.getElem?_eq_some_iff.1 h
    have e : (r.take (i + 1)).flatMap (fun u => [u, opT k]) = (r.take i).flatMap (fun u => [u, opT k]) ++ [r[i], opT k] := by
      rw [List.take_succ_eq_append_getElem hi, List.flatMap_append]
      rfl
    show leftP k (a :: r.take (i + 1)) = leftP k (a :: r.take i) ++ _
    rw [leftP, leftP, e]
    rfl
/-- the third expression on the way -/
def midI (k : Int) (n : Nat) (l : List Tok) (j : Nat) : List Tok := if j ≤ n then leftP k (l.take j) else leftP k (l.take n) ++ leftP k ((l.drop n).take (j - n))
theorem mid_zero {k : Int} {n : Nat} {l : List Tok} {t : Tok} (hn : 1 ≤ n) (h : l[0]? = some t) : midI k n l 1 = [t] := by
  unfold midI
  rw [if_pos hn, left_zero h]
theorem mid_low {k : Int} {n : Nat} {l : List Tok} {j : Nat} {t : Tok} (hj : 0 < j) (hn : j < n) (h : l[j]? = some t) : midI k n l (j + 1) = midI k n l j ++ [t, opT k] := by
  unfold midI
  rw [if_pos (show j + 1 ≤ n by omega), if_pos (show j ≤ n by omega), left_next hj h]
theorem mid_at {k : Int} {n : Nat} {l : List Tok} {t : Tok} (h : l[n]? = some t) : midI k n l (n + 1) = midI k n l n ++ [t] := by
  unfold midI
  rw [if_neg (by omega), if_pos (Nat.le_refl n), show n + 1 - n = 1 by omega, left_zero (t := t) (by rw [List.getElem?_drop]; exact h)]
theorem mid_high {k : Int} {n : Nat} {l : List Tok} {j : Nat} {t : Tok} (hj : n < j) (h : l[j]? = some t) : midI k n l (j + 1) = midI k n l j ++ [t, opT k] := by
  unfold midI
  rw [if_neg (by omega), if_neg (by omega), show j + 1 - n = (j - n) + 1 by omega, left_next (t := t) (by omega) (by rw [List.getElem?_drop, show n + (j - n) = j by omega]; exact h), List.append_assoc]
theorem mid_end {k : Int} {n : Nat} {l : List Tok} (hn : n < l.length) : midI k n l l.length ++ [opT k] = midP k n l := by
  unfold midI midP
  have e : (l.drop n).take (l.length - n) = l.drop n := List.take_of_length_le (by rw [List.length_drop]; omega)
  rw [if_neg (by omega), e, List.append_assoc]
theorem right_end {k : Int} {l : List Tok} : rightP k l = l ++ List.replicate (l.length - 1) (opT k) := rfl

end Go.Proofs.YtbfealhbdemhmaaGreatDoor
