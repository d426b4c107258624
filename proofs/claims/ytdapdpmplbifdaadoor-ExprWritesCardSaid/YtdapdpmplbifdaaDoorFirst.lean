/- Contracts and lemmas: First -/
import Derived.Test.YtdapdpmplbifdaaDoorLa
namespace Go.Proofs.YtdapdpmplbifdaaDoor
set_option linter.unusedVariables false
set_option linter.unusedSimpArgs false
/-- the name that a text begins with, as the code tells it -/
def leadS (l : List UInt8) : List UInt8 := if (l.head?.map tLet).getD false = true then l.takeWhile tIn else []
/-- the token that is always written so -/
def fixK (s : List UInt8) : Int := if s = [97, 110, 100] then 2 else if s = [102, 111, 114] then 3 else if s = [124] then 4 else if s = [97, 115] then 5 else if s = [40] then 6 else if s = [41] then 7 else 0
/-- the kind that is written so in front of a name -/
def pkS (s : List UInt8) : Int := if s = [107, 101, 121] then 1 else if s = [99, 104, 97, 110] then 2 else if s = [103, 114, 111, 117, 112] then 4 else if s = [114, 111, 108, 101] then 5 else 0
/-- the token that begins with a name -/
def namedS (n b : List UInt8) : Tok := if fixK n ≠ 0 then ⟨fixK n, [], 0⟩ else if b.head? = some 58 ∧ pkS n ≠ 0 then ⟨1, leadS (b.drop 1), pkS n⟩ else ⟨1, n, 3⟩
/-- the token that a text seems to begin with -/
def firstS (l : List UInt8) : Tok :=
  if leadS l ≠ [] then namedS (leadS l) (l.drop (leadS l).length)
  else if l.takeWhile tDig ≠ [] then ⟨8, l.takeWhile tDig, 0⟩
  else if l.take 1 = [68] then ⟨1, [68], 0⟩
  else if fixK (l.take 1) ≠ 0 then ⟨fixK (l.take 1), [], 0⟩
  else ⟨9, l.take 1, 0⟩
theorem fix_word {s : List UInt8} (h : fixK s ≠ 0) : wordS ⟨fixK s, [], 0⟩ = s := by
  unfold fixK at *
  split
  · subst_vars; decide
  · split
    · subst_vars; decide
    · split
      · subst_vars; decide
      · split
        · subst_vars; decide
        · split
          · subst_vars; decide
          · split
            · subst_vars; decide
            · rename_i h1 h2 h3 h4 h5 h6
              rw [if_neg h1, if_neg h2, if_neg h3, if_neg h4, if_neg h5, if_neg h6] at h
              exact absurd rfl h
theorem pk_pre {s : List UInt8} (h : pkS s ≠ 0) : tPre (pkS s) = s ++ [58] := by
  unfold pkS at *
  split
  · subst_vars; decide
  · split
    · subst_vars; decide
    · split
      · subst_vars; decide
      · split
        · subst_vars; decide
        · rename_i h1 h2 h3 h4
          rw [if_neg h1, if_neg h2, if_neg h3, if_neg h4] at h
          exact absurd rfl h
theorem lead_prefix (l : List UInt8) : leadS l <+: l := by
  unfold leadS
  split
  · exact List.takeWhile_prefix _
  · exact List.nil_prefix
theorem prefix_drop {a l : List UInt8} (h : a <+: l) : l = a ++ l.drop a.length := by
  obtain ⟨r, rfl⟩ := h
  simp
theorem atom_word {n : List UInt8} {o : Int} (ho : o ≠ 0) (hw : wordS ⟨1, n, o⟩ ≠ []) : wordS ⟨1, n, o⟩ = tPre o ++ n := by
  unfold wordS at *
  rw [if_pos rfl, if_neg (by simp [ho])] at *
  split
  · rfl
  · rename_i hc
    simp only at hw hc
    rw [if_neg hc] at hw
    exact absurd rfl hw
theorem num_word {n : List UInt8} (hw : wordS ⟨8, n, 0⟩ ≠ []) : wordS ⟨8, n, 0⟩ = n := by
  unfold wordS at *
  rw [if_neg (by simp), if_pos rfl] at *
  split
  · rfl
  · rename_i hc
    simp only at hw hc
    rw [if_neg hc] at hw
    exact absurd rfl hw
theorem sgn_word {n : List UInt8} (hw : wordS ⟨9, n, 0⟩ ≠ []) : wordS ⟨9, n, 0⟩ = n := by
  unfold wordS at *
  rw [if_neg (by simp), if_neg (by simp), if_pos rfl] at *
  split
  · rfl
  · rename_i hc
    simp only at hw hc
    rw [if_neg hc] at hw
    exact absurd rfl hw
/-- what is written of the first token stands there -/
theorem first_pre {l : List UInt8} (h : wordS (firstS l) ≠ []) : l = wordS (firstS l) ++ l.drop (wordS (firstS l)).length := by
  apply prefix_drop
  unfold firstS at *
  split
  · rename_i h1
    rw [if_pos h1] at h
    unfold namedS at *
    split
    · rename_i h2
      rw [fix_word h2]
      exact lead_prefix l
    · rename_i h2
      rw [if_neg h2] at h
      split
      · rename_i h3
        rw [if_pos h3] at h
        rw [atom_word h3.2 h, pk_pre h3.2]
        have hl := prefix_drop (lead_prefix l)
        cases hb : l.drop (leadS l).length with
        | nil => rw [hb] at h3; simp at h3
        | cons c f =>
          rw [hb] at h3
          have hc : c = 58 := by simpa using h3.1
          subst hc
          rw [hb] at hl
          have e : leadS l ++ [58] ++ leadS ((58 :: f).drop 1) <+: leadS l ++ 58 :: f := by
            rw [List.append_assoc]
            apply (List.prefix_append_right_inj _).2
            show 58 :: leadS f <+: 58 :: f
            exact (List.cons_prefix_cons).2 ⟨rfl, lead_prefix f⟩
          rw [← hl] at e
          exact e
      · rename_i h3
        rw [if_neg h3] at h
        rw [atom_word (by decide) h]
        exact lead_prefix l
  · rename_i h1
    rw [if_neg h1] at h
    split
    · rename_i h2
      rw [if_pos h2] at h
      rw [num_word h]
      exact List.takeWhile_prefix _
    · rename_i h2
      rw [if_neg h2] at h
      split
      · rename_i h3
        have hw : wordS ⟨1, [68], 0⟩ = l.take 1 := by rw [h3]; decide
        rw [hw]
        exact List.take_prefix _ _
      · rename_i h3
        rw [if_neg h3] at h
        split
        · rename_i h4
          rw [fix_word h4]
          exact List.take_prefix _ _
        · rename_i h4
          rw [if_neg h4] at h
          rw [sgn_word h]
          exact List.take_prefix _ _
theorem lead_all {w r : List UInt8} (hw : w.all tIn = true) (hl : (w.head?.map tLet).getD false = true) (hr : ∀ c, r.head? = some c → tIn c = false) : leadS (w ++ r) = w := by
  cases w with
  | nil => simp at hl
  | cons c v =>
    unfold leadS
    have e : (((c :: v) ++ r).head?.map tLet).getD false = true := by simpa using hl
    rw [if_pos e, take_all hw hr]
theorem fine_in {r : List UInt8} (h : tFine r = true) : ∀ c, r.head? = some c → tIn c = false := by
  intro c hc
  have := fine_not h c hc
  cases hh : tIn c
  · rfl
  · rw [tBad_of_in hh] at this; cases this
theorem lead_may {w r : List UInt8} (hw : tMay w = true) (hr : tFine r = true) : leadS (w ++ r) = w := by
  obtain ⟨ha, _, c, v, rfl, hc⟩ := may_all hw
  exact lead_all ha (by simpa using hc) (fine_in hr)
theorem lead_none {l : List UInt8} (h : (l.head?.map tLet).getD false = false) : leadS l = [] := by
  unfold leadS; rw [if_neg (by rw [h]; decide)]
/-- the first token of what is written of a token is that token -/
theorem first_of {t : Tok} {r : List UInt8} (hw : wordS t ≠ []) (hr : Follow t r) : firstS (wordS t ++ r) = t := by
  obtain ⟨k, nm, o⟩ := t
  have hk : k = 1 ∨ k = 2 ∨ k = 3 ∨ k = 4 ∨ k = 5 ∨ k = 6 ∨ k = 7 ∨ k = 8 ∨ k = 9 := by
    unfold wordS at hw
    simp only at hw
    by_cases h1 : k = 1; · exact .inl h1
    by_cases h8 : k = 8; · simp [h8]
    by_cases h9 : k = 9; · simp [h9]
    rw [if_neg h1, if_neg h8, if_neg h9] at hw
    split at hw
    · by_cases h2 : k = 2; · simp [h2]
      by_cases h3 : k = 3; · simp [h3]
      by_cases h4 : k = 4; · simp [h4]
      by_cases h5 : k = 5; · simp [h5]
      by_cases h6 : k = 6; · simp [h6]
      by_cases h7 : k = 7; · simp [h7]
      rw [if_neg h2, if_neg h3, if_neg h4, if_neg h5, if_neg h6, if_neg h7] at hw
      exact absurd rfl hw
    · exact absurd rfl hw
  have kwd : ∀ (w : List UInt8) (kk : Int), tMay w = true → fixK w = kk → kk ≠ 0 → tFine r = true → firstS (w ++ r) = ⟨kk, [], 0⟩ := by
    intro w kk hm hkk h0 hf
    have hl := lead_may hm hf
    unfold firstS
    rw [hl, if_pos (may_ne hm)]
    unfold namedS
    rw [hkk, if_pos h0]
  have one : ∀ (c : UInt8), tLet c = false → tDig c = false → ∀ v : Tok, (if [c] = [68] then (⟨1, [68], 0⟩ : Tok) else if fixK [c] ≠ 0 then ⟨fixK [c], [], 0⟩ else ⟨9, [c], 0⟩) = v → firstS (c :: r) = v := by
    intro c h1 h2 v hv
    unfold firstS
    rw [lead_none (by simpa using h1), if_neg (by simp), if_neg (by simp [List.takeWhile_cons, h2])]
    exact hv
  rcases hk with rfl | rfl | rfl | rfl | rfl | rfl | rfl | rfl | rfl
  · have hf : tFine r = true := hr (by simp [sepB])
    unfold wordS at hw ⊢
    simp only [if_true] at hw ⊢
    by_cases hd : o = 0 ∧ nm = [68]
    · obtain ⟨rfl, rfl⟩ := hd
      simp only [and_self, if_true, List.cons_append, List.nil_append]
      exact one 68 (by decide) (by decide) _ (by simp)
    · rw [if_neg hd] at hw ⊢
      split at hw
      · rename_i hcond
        rw [if_pos hcond]
        obtain ⟨hm, ⟨ho1, ho2⟩, hkey⟩ := hcond
        have hl := lead_may hm hf
        have pre : ∀ (q : List UInt8) (oo : Int), q.all tIn = true → (q.head?.map tLet).getD false = true → fixK q = 0 → pkS q = oo → oo ≠ 0 → firstS (q ++ [58] ++ nm ++ r) = ⟨1, nm, oo⟩ := by
          intro q oo hq1 hq2 hq3 hq4 h0
          have e : leadS (q ++ [58] ++ nm ++ r) = q := by
            rw [List.append_assoc, List.append_assoc]
            exact lead_all hq1 hq2 (fun c hc => by simp at hc; subst hc; decide)
          have hne : q ≠ [] := by rintro rfl; simp at hq2
          unfold firstS
          rw [e, if_pos hne]
          unfold namedS
          have e2 : (q ++ [58] ++ nm ++ r).drop q.length = 58 :: (nm ++ r) := by simp
          rw [hq3, if_neg (by simp), e2, hq4, if_pos ⟨rfl, h0⟩]
          simp [hl]
        have ho : o = 1 ∨ o = 2 ∨ o = 3 ∨ o = 4 ∨ o = 5 := by omega
        rcases ho with rfl | rfl | rfl | rfl | rfl
        · exact pre [107, 101, 121] 1 (by decide) (by decide) (by decide) (by decide) (by decide)
        · exact pre [99, 104, 97, 110] 2 (by decide) (by decide) (by decide) (by decide) (by decide)
        · have e0 : tPre 3 ++ nm ++ r = nm ++ r := by simp [tPre]
          rw [e0]
          obtain ⟨ha, _, c, v, hcv, hc⟩ := may_all hm
          have hfx : fixK nm = 0 := by
            have h0 := hkey rfl
            unfold tKey at h0
            unfold fixK
            by_cases q1 : nm = [97, 110, 100]
            · rw [if_pos q1] at h0; cases h0
            · rw [if_neg q1] at h0 ⊢
              by_cases q2 : nm = [102, 111, 114]
              · rw [if_pos q2] at h0; cases h0
              · rw [if_neg q2] at h0 ⊢
                by_cases q3 : nm = [97, 115]
                · rw [if_pos q3] at h0; cases h0
                · have r1 : nm ≠ [124] := by rintro rfl; cases hcv; exact absurd hc (by decide)
                  have r2 : nm ≠ [40] := by rintro rfl; cases hcv; exact absurd hc (by decide)
                  have r3 : nm ≠ [41] := by rintro rfl; cases hcv; exact absurd hc (by decide)
                  rw [if_neg r1, if_neg q3, if_neg r2, if_neg r3]
          unfold firstS
          rw [hl, if_pos (may_ne hm)]
          unfold namedS
          have e2 : (nm ++ r).drop nm.length = r := by simp
          have h58 : r.head? ≠ some 58 := by
            intro hh
            have := fine_not hf 58 hh
            exact absurd this (by decide)
          rw [hfx, if_neg (by simp), e2, if_neg (fun hh => h58 hh.1)]
        · exact pre [103, 114, 111, 117, 112] 4 (by decide) (by decide) (by decide) (by decide) (by decide)
        · exact pre [114, 111, 108, 101] 5 (by decide) (by decide) (by decide) (by decide) (by decide)
      · exact absurd rfl hw
  · have hf : tFine r = true := hr (by simp [sepB])
    unfold wordS at hw ⊢
    simp at hw ⊢
    obtain ⟨rfl, rfl⟩ := hw
    simpa using kwd [97, 110, 100] 2 (by decide) (by decide) (by decide) hf
  · have hf : tFine r = true := hr (by simp [sepB])
    unfold wordS at hw ⊢
    simp at hw ⊢
    obtain ⟨rfl, rfl⟩ := hw
    simpa using kwd [102, 111, 114] 3 (by decide) (by decide) (by decide) hf
  · unfold wordS at hw ⊢
    simp at hw ⊢
    obtain ⟨rfl, rfl⟩ := hw
    simpa using one 124 (by decide) (by decide) _ (by simp [fixK])
  · have hf : tFine r = true := hr (by simp [sepB])
    unfold wordS at hw ⊢
    simp at hw ⊢
    obtain ⟨rfl, rfl⟩ := hw
    simpa using kwd [97, 115] 5 (by decide) (by decide) (by decide) hf
  · unfold wordS at hw ⊢
    simp at hw ⊢
    obtain ⟨rfl, rfl⟩ := hw
    simpa using one 40 (by decide) (by decide) _ (by simp [fixK])
  · unfold wordS at hw ⊢
    simp at hw ⊢
    obtain ⟨rfl, rfl⟩ := hw
    simpa using one 41 (by decide) (by decide) _ (by simp [fixK])
  · have hf : tFine r = true := hr (by simp [sepB])
    unfold wordS at hw ⊢
    rw [if_neg (by simp), if_pos rfl] at hw ⊢
    simp only at hw ⊢
    split at hw
    · rename_i hcond
      rw [if_pos hcond]
      obtain ⟨hn, rfl⟩ := hcond
      have hd : nm.all tDig = true := by unfold tNum at hn; simp only [Bool.and_eq_true] at hn; exact hn.1
      have htk := take_dig hd hf
      cases nm with
      | nil => exact absurd rfl hw
      | cons c v =>
        have hc : tDig c = true := by simp only [List.all_cons, Bool.and_eq_true] at hd; exact hd.1
        have hr1 : 48 ≤ c.toNat ∧ c.toNat ≤ 57 := by simpa [tDig] using hc
        have h1 : tLet c = false := by unfold tLet; simp; omega
        unfold firstS
        rw [lead_none (by simpa using h1), if_neg (by simp), htk, if_pos (by simp)]
    · exact absurd rfl hw
  · unfold wordS at hw ⊢
    rw [if_neg (by simp), if_neg (by simp), if_pos rfl] at hw ⊢
    simp only at hw ⊢
    split at hw
    · rename_i hcond
      rw [if_pos hcond]
      obtain ⟨hn, rfl⟩ := hcond
      match nm, hn with
      | [c], hn =>
        simp only [tSign, tOne, Bool.or_eq_true, beq_iff_eq] at hn
        rcases hn with rfl | rfl | rfl | rfl | rfl | rfl | rfl | rfl <;> exact one _ (by decide) (by decide) _ (by simp [fixK])
    · exact absurd rfl hw
/-- the sign that stands there, by the first token -/
theorem sign_first (l : List UInt8) : signS l = if wordS (firstS l) = [] ∨ (sepB (firstS l) = true ∧ tFine (l.drop (wordS (firstS l)).length) = false) then none else some (firstS l, (wordS (firstS l)).length) := by
  by_cases hc : wordS (firstS l) = [] ∨ (sepB (firstS l) = true ∧ tFine (l.drop (wordS (firstS l)).length) = false)
  · rw [if_pos hc]
    cases hs : signS l with
    | none => rfl
    | some x =>
      obtain ⟨t, k⟩ := x
      have ok := sign_ok hs
      have hf : firstS l = t := by
        have h := first_of ok.ne ok.follow
        rw [← ok.split] at h
        exact h
      rw [hf] at hc
      rcases hc with hc | ⟨h1, h2⟩
      · exact absurd hc ok.ne
      · have := ok.follow h1
        rw [ok.len, h2] at this
        cases this
  · rw [if_neg hc]
    have hw : wordS (firstS l) ≠ [] := fun h => hc (.inl h)
    have hr : Follow (firstS l) (l.drop (wordS (firstS l)).length) := fun h1 => by
      cases hh : tFine (l.drop (wordS (firstS l)).length)
      · exact absurd (.inr ⟨h1, hh⟩) hc
      · rfl
    have h := sign_of hw hr
    rw [← first_pre hw] at h
    exact h
/-- how many bytes are passed over -/
def blS : Bool → List UInt8 → Nat
  | _, [] => 0
  | nt, c :: r => if passB nt c = true then blS (noteS nt c) r + 1 else 0
theorem bl_le : ∀ (l : List UInt8) (nt : Bool), blS nt l ≤ l.length
  | [], _ => Nat.le_refl _
  | c :: r, nt => by
    unfold blS
    have := bl_le r (noteS nt c)
    split
    · simp; omega
    · simp
theorem bl_skips : ∀ (l : List UInt8) (nt : Bool), ∃ nt', skips nt (l.take (blS nt l)) = some nt' ∧ ∀ c, (l.drop (blS nt l)).head? = some c → passB nt' c = false
  | [], nt => ⟨nt, rfl, by simp⟩
  | c :: r, nt => by
    unfold blS
    by_cases h : passB nt c = true
    · rw [if_pos h]
      obtain ⟨nt', h1, h2⟩ := bl_skips r (noteS nt c)
      refine ⟨nt', ?_, by simpa using h2⟩
      rw [List.take_succ_cons, skips, if_pos h]
      exact h1
    · rw [if_neg h]
      exact ⟨nt, rfl, by simpa using h⟩
theorem bl_step {nt : Bool} {c : UInt8} {r : List UInt8} (h : passB nt c = true) : blS nt (c :: r) = blS (noteS nt c) r + 1 := by rw [blS, if_pos h]
theorem bl_stop {nt : Bool} {c : UInt8} {r : List UInt8} (h : passB nt c = false) : blS nt (c :: r) = 0 := by rw [blS, if_neg (by rw [h]; decide)]
/-- behind what is passed over -/
theorem go_bl (l : List UInt8) (nt : Bool) (p n : Nat) : ∃ nt', goS nt p n l = goS nt' (p + blS nt l) n (l.drop (blS nt l)) ∧ ∀ c, (l.drop (blS nt l)).head? = some c → passB nt' c = false := by
  obtain ⟨nt', h1, h2⟩ := bl_skips l nt
  refine ⟨nt', ?_, h2⟩
  have h := go_skip (l.take (blS nt l)) (l.drop (blS nt l)) nt nt' p n h1
  rw [List.take_append_drop, List.length_take, Nat.min_eq_left (bl_le l nt)] at h
  exact h

end Go.Proofs.YtdapdpmplbifdaaDoor
