/- Contracts and lemmas: Back -/
import Derived.Test.YthceckpeccbpiaaDoorArgs
namespace Go.Proofs.YthceckpeccbpiaaDoor
set_option linter.unusedVariables false
set_option linter.unusedSimpArgs false
open Go.RowKit Go.ChangeShapes Go.WideShapes
theorem all_err {l : List UInt8} {p : Nat} {q : Int} (h : allS l = .error (p, q)) : q ≠ 0 := by
  unfold allS at h
  split at h
  · cases h; decide
  · obtain ⟨k, m, hw⟩ := go_wrong l.length false 0 0 l p q (Nat.le_refl _) (by omega) h
    rcases hw.what with ⟨rfl, _⟩ | ⟨rfl, _⟩ <;> decide
theorem text_len {l : List Tok} {x : List UInt8} {q : Int} (h : textS l = (x, q)) : x.length ≤ 4000 := by
  unfold textS at h
  split at h
  · cases h; simp
  · split at h
    · cases h; simp
    · split at h
      · cases h; simp
      · cases h; omega
theorem same_back {l : List TokB} {m : List (Tok × Nat)} (h : m.map (·.1) = l.map TokB.tok) : sameS false l (toB m) = true := by
  unfold sameS
  rw [decide_eq_true_eq]
  have e : ∀ x : List TokB, x.map (keyT false) = (x.map TokB.tok).map (fun t => (t.kind, t.name, t.of, (0 : Int))) := fun x => by
    rw [List.map_map]
    apply List.map_congr_left
    intro t _
    rfl
  rw [e, e, toB_tok, h]
theorem large_no {l : List TokB} (h : largeT l = false) : l.length ≤ 1100 ∧ ∀ t ∈ l, t.name.size ≤ 100 := by
  unfold largeT at h
  rw [Bool.or_eq_false_iff, decide_eq_false_iff_not, List.any_eq_false] at h
  refine ⟨by omega, fun t ht => ?_⟩
  have := h.2 t ht
  simpa using this
set_option maxHeartbeats 4000000 in
theorem tokenBack_walk {w : World} (v : Value) (hv : TokList w v) (s : ByteArray) (hs : s.size ≤ maxLen) (hL : LaidT w) :
    Calls Tryd.prog 5 #[v, .string s] w fun e w' => e = .returned (.bool true) ∧ Kept w w' := by
  obtain ⟨l, hr, hlm, hnm⟩ := hv
  have HL := Lib.hid hL
  have HR := Lib.hid hr
  clear hL hr hnm
  cases hlg : largeT l
  · by_cases h8 : 8192 < s.size
    · have h8i : (8192 : Int) < s.size := by omega
      go_enter Tryd.func5, Tryd.ntmps5
      go_wp2_with fail
      refine (kawake_any _ HL.out).mono ?_
      rintro e w1 ⟨rfl, hk1⟩
      have HK1 := Lib.hid hk1
      clear hk1
      go_wp2_with (go_at_call 13; refine (klarge_any (HR.out.kept HK1.out) (by unfold maxLen at hlm; omega)).mono ?_; rintro e w' ⟨rfl, rfl⟩; rw [hlg])
      go_ret
      exact ⟨rfl, HK1.out⟩
    · have h8i : ¬ (8192 : Int) < s.size := by omega
      have hno := large_no hlg
      have HT : Hid (∀ W, LaidT W → ReadsT W v l → Calls Tryd.prog 14 #[v] W (KeptPost (textV (textS (l.map TokB.tok))) W)) := Lib.hid (fun W hW h => ktext_any h (by omega) (fun t ht => by have := hno.2 t ht; omega) hW)
      have hln : l.length ≤ 1100 := hno.1
      have HBK : Hid (∀ x, textS (l.map TokB.tok) = (x, 0) → _) := Lib.hid (fun x hx => text_back hx)
      have HZ : Hid (∀ x q, textS (l.map TokB.tok) = (x, q) → x.length ≤ 4000) := Lib.hid (fun x q hx => text_len hx)
      clear hno
      generalize htx : textS (l.map TokB.tok) = r at *
      obtain ⟨x, q⟩ := r
      have HXL := Lib.hid (HZ.out x q rfl)
      have HT2 : Hid (∀ W, LaidT W → ReadsT W v l → Calls Tryd.prog 14 #[v] W (KeptPost (.tuple #[.string (strOf x), .int .i64 q]) W)) := HT
      have HBK2 : Hid (q = 0 → ∃ m, allS x = .ok m ∧ m.map (·.1) = l.map TokB.tok) := Lib.hid (fun e => HBK.out x (by rw [e]))
      clear HT HBK HZ htx
      go_enter Tryd.func5, Tryd.ntmps5
      go_wp2_with fail
      refine (kawake_any _ HL.out).mono ?_
      rintro e w1 ⟨rfl, hk1⟩
      have HK1 := Lib.hid hk1
      clear hk1
      go_wp2_with (go_at_call 13; refine (klarge_any (HR.out.kept HK1.out) (by unfold maxLen at hlm; omega)).mono ?_; rintro e w' ⟨rfl, rfl⟩; rw [hlg])
      refine (HT2.out _ (HL.out.kept HK1.out) (HR.out.kept HK1.out)).mono ?_
      rintro e w2 ⟨rfl, hk2⟩
      have HK2 := Lib.hid (HK1.out.trans hk2)
      clear hk2 HT2 HK1 hlg
      by_cases hq0 : q = 0
      · subst hq0
        obtain ⟨m, hm, he⟩ := HBK2.out rfl
        have HSM := Lib.hid (same_back he)
        have HLM : Hid ((toB m).length ≤ 1000) := Lib.hid (by unfold toB; rw [List.length_map]; exact (all_run hm).2.1)
        have HA : Hid (∀ W, LaidT W → Calls Tryd.prog 10 #[.string (strOf x)] W fun e w' => ∃ v, e = .returned (.tuple #[v, .int .i64 0, .int .i64 0]) ∧ ReadsT w' v (toB m) ∧ Kept W w') := Lib.hid (fun W hW => (kallR (strOf x) W (by rw [strOf_size]; have := HXL.out; omega) hW).mono (fun e w' h => by
          obtain ⟨v, m', p, q, he, hr, hk, hi⟩ := h
          rw [bs_strOf] at hi
          obtain ⟨rfl, rfl, rfl⟩ := hi.unique (.inl ⟨hm, rfl, rfl⟩)
          exact ⟨v, he, hr, hk⟩))
        clear hm he HBK2
        go_wp2_with fail
        refine (HA.out _ (HL.out.kept HK2.out)).mono ?_
        rintro e w3 ⟨v3, rfl, hr3, hk3⟩
        have HK3 := Lib.hid (HK2.out.trans hk3)
        have HR3 := Lib.hid hr3
        have HS : Hid (∀ W, ReadsT W v l → ReadsT W v3 (toB m) → Calls Tryd.prog 12 #[v, v3, .bool false] W (KeptPost (.bool true) W)) := Lib.hid (fun W h1 h2 => by
          have h := ksame_any h1 h2 false (by omega) (by have := HLM.out; omega)
          rwa [HSM.out] at h)
        clear hr3 hk3 HA HSM HLM HK2
        go_wp2_with fail
        refine (HS.out _ (HR.out.kept HK3.out) HR3.out).mono ?_
        rintro e w4 ⟨rfl, hk4⟩
        have HK4 := Lib.hid (HK3.out.trans hk4)
        clear hk4 HS HR3 HK3 HXL
        go_wp2_with fail
        refine (kallR s _ (by omega) (HL.out.kept HK4.out)).mono ?_
        rintro e w8 ⟨v8, m8, p8, q8, rfl, hr, hk8, hi⟩
        have HI := Lib.hid hi
        have HR8 := Lib.hid hr
        have HK8 := Lib.hid (HK4.out.trans hk8)
        obtain ⟨ao8, c8, rfl, hc8⟩ := hr.form
        clear hr hi hk8
        by_cases hq : q8 = 0
        · subst hq
          have HE : Hid (allS (bs s) = .ok m8) := Lib.hid (by
            rcases HI.out with ⟨h, _, _⟩ | ⟨h, _⟩
            · exact h
            · exact absurd rfl (all_err h))
          have HTX : Hid (∀ W, LaidT W → ReadsT W (.slice ao8 (toB m8).length c8) (toB m8) → Calls Tryd.prog 14 #[.slice ao8 (toB m8).length c8] W (KeptPost (textV (textS (m8.map (·.1)))) W)) := Lib.hid (fun W hW hr => by
            have h := ktext_any hr (by unfold toB; rw [List.length_map]; have := HI.out.toks.1; omega) (fun t ht => by have := (HI.out.toks.2 t ht).2; omega) hW
            rwa [toB_tok] at h)
          have HRT := Lib.hid (read_text HE.out)
          have HBK : Hid (∀ x, textS (m8.map (·.1)) = (x, 0) → _) := Lib.hid (fun x hx => text_back hx)
          have HZ : Hid (∀ x q, textS (m8.map (·.1)) = (x, q) → x.length ≤ 4000) := Lib.hid (fun x q hx => text_len hx)
          have HM8 : Hid ((toB m8).length ≤ 1000) := Lib.hid (by unfold toB; rw [List.length_map]; exact HI.out.toks.1)
          generalize htx : textS (m8.map (·.1)) = r at *
          obtain ⟨x, q⟩ := r
          have HXL := Lib.hid (HZ.out x q rfl)
          have HTX2 : Hid (∀ W, LaidT W → ReadsT W (.slice ao8 (toB m8).length c8) (toB m8) → Calls Tryd.prog 14 #[.slice ao8 (toB m8).length c8] W (KeptPost (.tuple #[.string (strOf x), .int .i64 q]) W)) := HTX
          have HRT2 : Hid (q = 0 ∨ (q = 2 ∧ 1900 < (bs s).length)) := HRT
          have HBK2 : Hid (q = 0 → ∃ m, allS x = .ok m ∧ m.map (·.1) = m8.map (·.1)) := Lib.hid (fun e => HBK.out x (by rw [e]))
          clear HTX HRT HBK HZ HE HI htx
          have hm8 := HM8.out
          generalize hn8 : (toB m8).length = n8 at *
          have HN8 := Lib.hid hn8
          clear hn8
          go_wp2_with fail
          refine (HTX2.out _ (HL.out.kept HK8.out) HR8.out).mono ?_
          rintro e w9 ⟨rfl, hk9⟩
          have HK9 := Lib.hid (HK8.out.trans hk9)
          have HR9 := Lib.hid (HR8.out.kept hk9)
          clear hk9 HTX2 HR8
          by_cases hq0 : q = 0
          · subst hq0
            obtain ⟨m9, hm9, he9⟩ := HBK2.out rfl
            have HSM := Lib.hid (same_back (l := toB m8) (m := m9) (by rw [toB_tok]; exact he9))
            have HL9 : Hid ((toB m9).length ≤ 1000) := Lib.hid (by unfold toB; rw [List.length_map]; exact (all_run hm9).2.1)
            have HA9 : Hid (∀ W, LaidT W → Calls Tryd.prog 10 #[.string (strOf x)] W fun e w' => ∃ v, e = .returned (.tuple #[v, .int .i64 0, .int .i64 0]) ∧ ReadsT w' v (toB m9) ∧ Kept W w') := Lib.hid (fun W hW => (kallR (strOf x) W (by rw [strOf_size]; have := HXL.out; omega) hW).mono (fun e w' h => by
              obtain ⟨v, m, p, q, he, hr, hk, hi⟩ := h
              rw [bs_strOf] at hi
              obtain ⟨rfl, rfl, rfl⟩ := hi.unique (.inl ⟨hm9, rfl, rfl⟩)
              exact ⟨v, he, hr, hk⟩))
            clear hm9 he9 HBK2 HRT2
            go_wp2_with fail
            refine (HA9.out _ (HL.out.kept HK9.out)).mono ?_
            rintro e w10 ⟨v10, rfl, hr10, hk10⟩
            have HK10 := Lib.hid (HK9.out.trans hk10)
            have HR10 := Lib.hid (HR9.out.kept hk10)
            have HR11 := Lib.hid hr10
            have HS : Hid (∀ W, ReadsT W (.slice ao8 n8 c8) (toB m8) → ReadsT W v10 (toB m9) → Calls Tryd.prog 12 #[.slice ao8 n8 c8, v10, .bool false] W (KeptPost (.bool true) W)) := Lib.hid (fun W h1 h2 => by
              have h := ksame_any h1 h2 false (by rw [HN8.out]; omega) (by have := HL9.out; omega)
              rwa [HSM.out] at h)
            clear hr10 hk10 HA9 HSM HL9 HR9 HK9
            go_wp2_with fail
            refine (HS.out _ HR10.out HR11.out).mono ?_
            rintro e w11 ⟨rfl, hk11⟩
            have HK11 := Lib.hid (HK10.out.trans hk11)
            clear hk11
            go_wp2
            go_ret
            exact ⟨rfl, HK11.out⟩
          · have hqb : (q != 0) = true := by simp [hq0]
            have hsl : (1900 : Int) < (s.size : Int) := by
              rcases HRT2.out with h | ⟨_, h⟩
              · exact absurd h hq0
              · rw [bs_len] at h; omega
            clear HRT2 HBK2 hq0
            go_wp2
            go_ret
            exact ⟨rfl, HK9.out⟩
        · have hqb : (q8 != 0) = true := by simp [hq]
          have hm8 : m8 = [] := by
            rcases HI.out with ⟨_, _, h⟩ | ⟨_, h⟩
            · exact absurd h hq
            · exact h
          subst hm8
          have hl0 : (toB []).length = 0 := rfl
          rw [hl0]
          clear hq HI HR8
          go_wp2
          go_ret
          exact ⟨rfl, HK8.out⟩
      · have hqb : (q == 0) = false := by simp [hq0]
        clear hq0 HBK2 HXL
        go_wp2_with fail
        refine (kallR s _ (by omega) (HL.out.kept HK2.out)).mono ?_
        rintro e w8 ⟨v8, m8, p8, q8, rfl, hr, hk8, hi⟩
        have HI := Lib.hid hi
        have HR8 := Lib.hid hr
        have HK8 := Lib.hid (HK2.out.trans hk8)
        obtain ⟨ao8, c8, rfl, hc8⟩ := hr.form
        clear hr hi hk8
        by_cases hq : q8 = 0
        · subst hq
          have HE : Hid (allS (bs s) = .ok m8) := Lib.hid (by
            rcases HI.out with ⟨h, _, _⟩ | ⟨h, _⟩
            · exact h
            · exact absurd rfl (all_err h))
          have HTX : Hid (∀ W, LaidT W → ReadsT W (.slice ao8 (toB m8).length c8) (toB m8) → Calls Tryd.prog 14 #[.slice ao8 (toB m8).length c8] W (KeptPost (textV (textS (m8.map (·.1)))) W)) := Lib.hid (fun W hW hr => by
            have h := ktext_any hr (by unfold toB; rw [List.length_map]; have := HI.out.toks.1; omega) (fun t ht => by have := (HI.out.toks.2 t ht).2; omega) hW
            rwa [toB_tok] at h)
          have HRT := Lib.hid (read_text HE.out)
          have HBK : Hid (∀ x, textS (m8.map (·.1)) = (x, 0) → _) := Lib.hid (fun x hx => text_back hx)
          have HZ : Hid (∀ x q, textS (m8.map (·.1)) = (x, q) → x.length ≤ 4000) := Lib.hid (fun x q hx => text_len hx)
          have HM8 : Hid ((toB m8).length ≤ 1000) := Lib.hid (by unfold toB; rw [List.length_map]; exact HI.out.toks.1)
          generalize htx : textS (m8.map (·.1)) = r at *
          obtain ⟨x, q⟩ := r
          have HXL := Lib.hid (HZ.out x q rfl)
          have HTX2 : Hid (∀ W, LaidT W → ReadsT W (.slice ao8 (toB m8).length c8) (toB m8) → Calls Tryd.prog 14 #[.slice ao8 (toB m8).length c8] W (KeptPost (.tuple #[.string (strOf x), .int .i64 q]) W)) := HTX
          have HRT2 : Hid (q = 0 ∨ (q = 2 ∧ 1900 < (bs s).length)) := HRT
          have HBK2 : Hid (q = 0 → ∃ m, allS x = .ok m ∧ m.map (·.1) = m8.map (·.1)) := Lib.hid (fun e => HBK.out x (by rw [e]))
          clear HTX HRT HBK HZ HE HI htx
          have hm8 := HM8.out
          generalize hn8 : (toB m8).length = n8 at *
          have HN8 := Lib.hid hn8
          clear hn8
          go_wp2_with fail
          refine (HTX2.out _ (HL.out.kept HK8.out) HR8.out).mono ?_
          rintro e w9 ⟨rfl, hk9⟩
          have HK9 := Lib.hid (HK8.out.trans hk9)
          have HR9 := Lib.hid (HR8.out.kept hk9)
          clear hk9 HTX2 HR8
          by_cases hq0 : q = 0
          · subst hq0
            obtain ⟨m9, hm9, he9⟩ := HBK2.out rfl
            have HSM := Lib.hid (same_back (l := toB m8) (m := m9) (by rw [toB_tok]; exact he9))
            have HL9 : Hid ((toB m9).length ≤ 1000) := Lib.hid (by unfold toB; rw [List.length_map]; exact (all_run hm9).2.1)
            have HA9 : Hid (∀ W, LaidT W → Calls Tryd.prog 10 #[.string (strOf x)] W fun e w' => ∃ v, e = .returned (.tuple #[v, .int .i64 0, .int .i64 0]) ∧ ReadsT w' v (toB m9) ∧ Kept W w') := Lib.hid (fun W hW => (kallR (strOf x) W (by rw [strOf_size]; have := HXL.out; omega) hW).mono (fun e w' h => by
              obtain ⟨v, m, p, q, he, hr, hk, hi⟩ := h
              rw [bs_strOf] at hi
              obtain ⟨rfl, rfl, rfl⟩ := hi.unique (.inl ⟨hm9, rfl, rfl⟩)
              exact ⟨v, he, hr, hk⟩))
            clear hm9 he9 HBK2 HRT2
            go_wp2_with fail
            refine (HA9.out _ (HL.out.kept HK9.out)).mono ?_
            rintro e w10 ⟨v10, rfl, hr10, hk10⟩
            have HK10 := Lib.hid (HK9.out.trans hk10)
            have HR10 := Lib.hid (HR9.out.kept hk10)
            have HR11 := Lib.hid hr10
            have HS : Hid (∀ W, ReadsT W (.slice ao8 n8 c8) (toB m8) → ReadsT W v10 (toB m9) → Calls Tryd.prog 12 #[.slice ao8 n8 c8, v10, .bool false] W (KeptPost (.bool true) W)) := Lib.hid (fun W h1 h2 => by
              have h := ksame_any h1 h2 false (by rw [HN8.out]; omega) (by have := HL9.out; omega)
              rwa [HSM.out] at h)
            clear hr10 hk10 HA9 HSM HL9 HR9 HK9
            go_wp2_with fail
            refine (HS.out _ HR10.out HR11.out).mono ?_
            rintro e w11 ⟨rfl, hk11⟩
            have HK11 := Lib.hid (HK10.out.trans hk11)
            clear hk11
            go_wp2
            go_ret
            exact ⟨rfl, HK11.out⟩
          · have hqb : (q != 0) = true := by simp [hq0]
            have hsl : (1900 : Int) < (s.size : Int) := by
              rcases HRT2.out with h | ⟨_, h⟩
              · exact absurd h hq0
              · rw [bs_len] at h; omega
            clear HRT2 HBK2 hq0
            go_wp2
            go_ret
            exact ⟨rfl, HK9.out⟩
        · have hqb : (q8 != 0) = true := by simp [hq]
          have hm8 : m8 = [] := by
            rcases HI.out with ⟨_, _, h⟩ | ⟨_, h⟩
            · exact absurd h hq
            · exact h
          subst hm8
          have hl0 : (toB []).length = 0 := rfl
          rw [hl0]
          clear hq HI HR8
          go_wp2
          go_ret
          exact ⟨rfl, HK8.out⟩
  · go_enter Tryd.func5, Tryd.ntmps5
    go_wp2_with fail
    refine (kawake_any _ HL.out).mono ?_
    rintro e w1 ⟨rfl, hk1⟩
    have HK1 := Lib.hid hk1
    clear hk1
    go_wp2_with (go_at_call 13; refine (klarge_any (HR.out.kept HK1.out) (by unfold maxLen at hlm; omega)).mono ?_; rintro e w' ⟨rfl, rfl⟩; rw [hlg])
    go_ret
    exact ⟨rfl, HK1.out⟩

end Go.Proofs.YthceckpeccbpiaaDoor
