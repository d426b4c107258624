/- Contracts and lemmas: K7 -/
import Derived.Test.YtdapdpmplbifdaaDoorK6
namespace Go.Proofs.YtdapdpmplbifdaaDoor
set_option linter.unusedVariables false
set_option linter.unusedSimpArgs false
/-- parts that are laid one behind another -/
def flatE : List Ex → List Tok
  | [] => []
  | e :: r => e.post ++ flatE r
theorem flatE_append : ∀ a b : List Ex, flatE (a ++ b) = flatE a ++ flatE b
  | [], b => rfl
  | e :: r, b => by simp [flatE, flatE_append r b]
theorem flatE_one (e : Ex) : flatE [e] = e.post := by simp [flatE]
/-- how many are laid behind terms -/
def laidS : List Tok → Int
  | [] => 0
  | t :: r => (if t.kind = 1 then 1 else -1) + laidS r
theorem laid_append : ∀ a b : List Tok, laidS (a ++ b) = laidS a + laidS b
  | [], b => by simp [laidS]
  | t :: r, b => by simp only [List.cons_append, laidS, laid_append r b]; omega
theorem laid_post : ∀ {e : Ex}, e.Ok → laidS e.post = 1
  | .atom t, h => by simp [Ex.post, laidS, h.1]
  | .bin op a b, h => by
    have ia := laid_post h.2.1
    have ib := laid_post h.2.2.1
    have ho : ¬ op = 1 := by rintro rfl; exact h.1 rfl
    rw [Ex.post, laid_append, laid_append, ia, ib]
    simp only [laidS, opT, if_neg ho]
    omega
def AllOk (es : List Ex) : Prop := ∀ e ∈ es, e.Ok
theorem laid_flat : ∀ {es : List Ex}, AllOk es → laidS (flatE es) = es.length
  | [], _ => rfl
  | e :: r, h => by
    rw [flatE, laid_append, laid_post (h e (by simp)), laid_flat (fun x hx => h x (by simp [hx]))]
    simp only [List.length_cons]
    omega
theorem post_prefix : ∀ {e : Ex}, e.Ok → ∀ i, ∃ es, AllOk es ∧ e.post.take i = flatE es
  | .atom t, h, i => by
    cases i with
    | zero => exact ⟨[], fun _ hx => by simp at hx, rfl⟩
    | succ i => exact ⟨[.atom t], fun x hx => by simp at hx; subst hx; exact h, by simp [flatE, Ex.post]⟩
  | .bin op a b, h, i => by
    by_cases h1 : i ≤ a.post.length
    · obtain ⟨es, h2, h3⟩ := post_prefix h.2.1 i
      exact ⟨es, h2, by rw [Ex.post, List.take_append_of_le_length h1, h3]⟩
    · by_cases h4 : i ≤ a.post.length + b.post.length
      · obtain ⟨es, h2, h3⟩ := post_prefix h.2.2.1 (i - a.post.length)
        refine ⟨a :: es, fun x hx => ?_, ?_⟩
        · rcases List.mem_cons.1 hx with rfl | hx
          · exact h.2.1
          · exact h2 x hx
        · rw [Ex.post, List.take_append, List.take_of_length_le (by omega), List.take_append_of_le_length (by omega), h3]
          rfl
      · refine ⟨[.bin op a b], fun x hx => by simp at hx; subst hx; exact h, ?_⟩
        rw [List.take_of_length_le (by simp only [Ex.post, List.length_append, List.length_cons, List.length_nil]; omega)]
        simp [flatE]
theorem post_terms : ∀ {e : Ex}, e.Ok → ∀ t ∈ e.post, wordS t ≠ [] ∧ kbind t.kind ≠ 0
  | .atom u, h, t, ht => by
    simp [Ex.post] at ht
    subst ht
    exact ⟨h.2, by rw [h.1]; decide⟩
  | .bin op a b, h, t, ht => by
    simp only [Ex.post, List.mem_append, List.mem_cons, List.mem_nil_iff, or_false] at ht
    rcases ht with ht | ht | ht
    · exact post_terms h.2.1 t ht
    · exact post_terms h.2.2.1 t ht
    · subst ht
      exact ⟨opT_word (.inl h.1), by show kbind op ≠ 0; rw [kbind_op h.1]; exact h.1⟩
/-- the parts that terms have laid -/
structure Stk (L : List Tok) (k : Nat) (es : List Ex) : Prop where
  ok : AllOk es
  is : L.take k = flatE es
theorem stk_zero (L : List Tok) : Stk L 0 [] := ⟨fun _ h => by simp at h, rfl⟩
theorem take_snoc {L : List Tok} {k : Nat} {t : Tok} (ht : L[k]? = some t) : L.take (k + 1) = L.take k ++ [t] := by
  have hk := (List.getElem?_eq_some_iff.1 ht).1
  rw [List.take_succ_eq_append_getElem hk]
  congr 1
  rw [(List.getElem?_eq_some_iff.1 ht).2]
theorem stk_bad {L : List Tok} {k : Nat} {t : Tok} (ht : L[k]? = some t) (hb : wordS t = [] ∨ kbind t.kind = 0) (e : Ex) : ¬ MayIs L e := by
  rintro ⟨h1, h2, _⟩
  have := post_terms h1 t (by rw [← h2]; exact List.mem_of_getElem? ht)
  rcases hb with hb | hb
  · exact this.1 hb
  · exact this.2 hb
theorem Stk.atom {L : List Tok} {k : Nat} {t : Tok} {es : List Ex} (h : Stk L k es) (ht : L[k]? = some t) (hk : t.kind = 1) (hw : wordS t ≠ []) : Stk L (k + 1) (es ++ [.atom t]) :=
  ⟨fun x hx => by
    rcases List.mem_append.1 hx with hx | hx
    · exact h.ok x hx
    · simp at hx; subst hx; exact ⟨hk, hw⟩, by rw [take_snoc ht, h.is, flatE_append, flatE_one]; rfl⟩
/-- what a whole expression says of its beginning -/
theorem may_prefix {L : List Tok} {k : Nat} {t : Tok} {e : Ex} {es : List Ex} (h : Stk L k es) (hm : MayIs L e) (ht : L[k]? = some t) (hk : t.kind ≠ 1) :
    2 ≤ es.length ∧ ∃ q op b, t = opT op ∧ EndIs (L.take k) q b ∧ (op = 5 → ∃ u, b = .atom u ∧ u.of = 5) := by
  obtain ⟨h1, h2, _⟩ := hm
  obtain ⟨fs, h3, h4⟩ := post_prefix h1 (k + 1)
  rw [← h2, take_snoc ht] at h4
  have h5 := congrArg laidS h4
  rw [laid_append, h.is, laid_flat h.ok, laid_flat h3] at h5
  simp only [laidS, if_neg hk] at h5
  rcases List.eq_nil_or_concat fs with rfl | ⟨gs, f, rfl⟩
  · simp [flatE] at h4
  · have hl : (gs.concat f).length = gs.length + 1 := by simp
    rw [hl] at h5
    refine ⟨by omega, ?_⟩
    rw [List.concat_eq_append, flatE_append, flatE_one] at h4
    have hf : f.Ok := h3 f (by simp)
    have hE : EndIs (L.take k ++ [t]) (flatE gs) f := ⟨hf, h4⟩
    rcases hE.inv with ⟨h6, _⟩ | ⟨op, a, b, q, h6, _, h7, _, _, h8⟩
    · exact absurd h6.1 hk
    · exact ⟨q, op, b, h6, h7, h8⟩
theorem stk_few {L : List Tok} {k : Nat} {t : Tok} {es : List Ex} (h : Stk L k es) (ht : L[k]? = some t) (hk : t.kind ≠ 1) (hn : es.length < 2) (e : Ex) : ¬ MayIs L e := fun hm => by
  have := (may_prefix h hm ht hk).1
  omega
theorem stk_role {L : List Tok} {j : Nat} {t u : Tok} {es : List Ex} (h : Stk L (j + 1) es) (ht : L[j + 1]? = some t) (hu : L[j]? = some u) (hk : t.kind = 5) (ho : u.of ≠ 5) (e : Ex) : ¬ MayIs L e := fun hm => by
  obtain ⟨_, q, op, b, h1, h2, h3⟩ := may_prefix h hm ht (by rw [hk]; decide)
  have h5 : op = 5 := by have := congrArg Tok.kind h1; rw [hk] at this; exact this.symm
  obtain ⟨v, rfl, hv⟩ := h3 h5
  have := h2.is
  rw [take_snoc hu] at this
  simp only [Ex.post] at this
  obtain ⟨_, h6⟩ := List.append_inj' this rfl
  simp at h6
  rw [h6] at ho
  exact ho hv
theorem Stk.op {L : List Tok} {k : Nat} {t : Tok} {es : List Ex} (h : Stk L k es) (ht : L[k]? = some t) (hk : bindS t.kind ≠ 0) (hw : wordS t ≠ []) (hn : 2 ≤ es.length) (h5 : t.kind = 5 → ∃ j u, k = j + 1 ∧ L[j]? = some u ∧ u.of = 5) :
    ∃ es' a b, es = es' ++ [a, b] ∧ Stk L (k + 1) (es' ++ [.bin t.kind a b]) := by
  rcases List.eq_nil_or_concat es with rfl | ⟨fs, b, rfl⟩
  · simp at hn
  rcases List.eq_nil_or_concat fs with rfl | ⟨gs, a, rfl⟩
  · simp at hn
  have e0 : (gs.concat a).concat b = gs ++ [a, b] := by simp
  rw [e0] at h
  have hb : b.Ok := h.ok b (by simp)
  have ha : a.Ok := h.ok a (by simp)
  refine ⟨gs, a, b, e0, fun x hx => ?_, ?_⟩
  · rcases List.mem_append.1 hx with hx | hx
    · exact h.ok x (by simp [hx])
    · simp at hx
      subst hx
      refine ⟨hk, ha, hb, fun e5 => ?_⟩
      obtain ⟨j, u, rfl, hu, ho⟩ := h5 e5
      have h6 := h.is
      rw [take_snoc hu, flatE_append, show flatE [a, b] = a.post ++ b.post by simp [flatE], ← List.append_assoc] at h6
      have hE : EndIs (L.take j ++ [u]) (flatE gs ++ a.post) b := ⟨hb, h6⟩
      rcases hE.inv with ⟨h7, h8, _⟩ | ⟨op, a', b', q, h7, _⟩
      · exact ⟨u, h8, ho⟩
      · rw [h7] at ho; cases ho
  · rw [take_snoc ht, h.is, flatE_append, flatE_append, flatE_one, tok_op hw hk]
    simp [flatE, Ex.post, opT]
theorem Stk.done {L : List Tok} {k : Nat} {e : Ex} (h : Stk L k [e]) (hk : L.length ≤ k) (hl : L.length ≤ 200) : MayIs L e := by
  refine ⟨h.ok e (by simp), ?_, hl⟩
  have := h.is
  rw [List.take_of_length_le hk, flatE_one] at this
  exact this
theorem Stk.not {L : List Tok} {k : Nat} {es : List Ex} (h : Stk L k es) (hk : L.length ≤ k) (hn : es.length ≠ 1) (e : Ex) : ¬ MayIs L e := fun hm => by
  have h1 := h.is
  rw [List.take_of_length_le hk] at h1
  have h2 := laid_flat h.ok
  rw [← h1, hm.2.1, laid_post hm.1] at h2
  omega

end Go.Proofs.YtdapdpmplbifdaaDoor
