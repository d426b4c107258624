/- Contracts and lemmas: Places -/
import Derived.Test.YthceckpeccbpiaaDoorBack
namespace Go.Proofs.YthceckpeccbpiaaDoor
set_option linter.unusedVariables false
set_option linter.unusedSimpArgs false
open Go.RowKit Go.ChangeShapes Go.WideShapes
theorem err_place {l : List UInt8} {p : Nat} {q : Int} (h : allS l = .error (p, q)) : p ≤ l.length := by
  unfold allS at h
  split at h
  · cases h; omega
  · obtain ⟨k, m, hw⟩ := go_wrong l.length false 0 0 l p q (Nat.le_refl _) (by omega) h
    have h1 := hw.place
    have h2 := hw.inside
    omega
theorem skips_step {X : List UInt8} {j : Nat} {nt nte : Bool} {c : UInt8} (h : skips false (X.take j) = some nt) (he : skips false X = some nte) (hc : X[j]? = some c) : passB nt c = true ∧ skips false (X.take (j + 1)) = some (noteS nt c) := by
  have hj := (List.getElem?_eq_some_iff.1 hc).1
  have e1 : X = X.take j ++ c :: X.drop (j + 1) := by
    have h1 : X.drop j = c :: X.drop (j + 1) := by
      rw [List.drop_eq_getElem_cons hj]
      congr 1
      exact (List.getElem?_eq_some_iff.1 hc).2
    rw [← h1, List.take_append_drop]
  have h2 := skips_append (X.take j) (c :: X.drop (j + 1)) false nt h
  rw [← e1, he] at h2
  have hp : passB nt c = true := by
    cases hp : passB nt c
    · rw [skips, if_neg (by rw [hp]; decide)] at h2; cases h2
    · rfl
  refine ⟨hp, ?_⟩
  rw [List.take_add_one, hc]
  have h3 := skips_append (X.take j) [c] false nt h
  rw [show (some c).toList = [c] from rfl, h3, skips, if_pos hp]
  rfl
/-- the place behind the first tokens -/
def PlaceTo (s : ByteArray) (m : List (Tok × Nat)) (nt : Bool) (i a : Nat) : Prop := a ≤ s.size ∧ Run false a ((bs s).drop a) (m.drop i) nt
/-- one token further -/
structure PlaceOne (s : ByteArray) (m : List (Tok × Nat)) (nt : Bool) (i a : Nat) (t : Tok) (q : Nat) : Prop where
  le : a ≤ q
  inside : q + (wordS t).length ≤ s.size
  skip : skips false (((bs s).drop a).take (q - a)) = some false
  ne : wordS t ≠ []
  word : s.extract q (q + (wordS t).length) = strOf (wordS t)
  next : PlaceTo s m nt (i + 1) (q + (wordS t).length)
theorem PlaceTo.one {s : ByteArray} {m : List (Tok × Nat)} {nt : Bool} {i a : Nat} {t : Tok} {q : Nat} (h : PlaceTo s m nt i a) (hm : m[i]? = some (t, q)) : PlaceOne s m nt i a t q := by
  obtain ⟨ha, hr⟩ := h
  have hi := (List.getElem?_eq_some_iff.1 hm).1
  have hd : m.drop i = (t, q) :: m.drop (i + 1) := by
    rw [List.drop_eq_getElem_cons hi]
    congr 1
    exact (List.getElem?_eq_some_iff.1 hm).2
  rw [hd] at hr
  obtain ⟨b, rest, hl, hq, hs, hw, hf, hrun⟩ := hr
  have hlen := congrArg List.length hl
  rw [List.length_drop, bs_len, List.length_append, List.length_append] at hlen
  have hqa : q - a = b.length := by omega
  have hdq : (bs s).drop q = wordS t ++ rest := by
    have : (bs s).drop q = ((bs s).drop a).drop b.length := by rw [List.drop_drop]; congr 1
    rw [this, hl, List.drop_left]
  refine ⟨by omega, by omega, by rw [hl, hqa, List.take_left]; exact hs, hw, ?_, ⟨by omega, ?_⟩⟩
  · have e : q + (wordS t).length - q = (wordS t).length := by omega
    rw [← strOf_extract (by omega), e, hdq, List.take_left]
  · have : (bs s).drop (q + (wordS t).length) = rest := by
      rw [← List.drop_drop, hdq, List.drop_left]
    rw [this]
    exact hrun
theorem PlaceTo.last {s : ByteArray} {m : List (Tok × Nat)} {nt : Bool} {i a : Nat} (h : PlaceTo s m nt i a) (hi : m.length ≤ i) : skips false (((bs s).drop a).take (s.size - a)) = some nt := by
  obtain ⟨ha, hr⟩ := h
  rw [List.drop_eq_nil_of_le hi] at hr
  rw [List.take_of_length_le (by rw [List.length_drop, bs_len]; exact Nat.le_refl _)]
  exact hr
theorem piece_get {s : ByteArray} {a e k : Nat} (h1 : a ≤ k) (h2 : k < e) (h3 : e ≤ s.size) : (((bs s).drop a).take (e - a))[k - a]? = some (s.get! k) := by
  rw [List.getElem?_take, if_pos (by omega), List.getElem?_drop, show a + (k - a) = k by omega, bs_at (by omega)]
theorem toB_get {m : List (Tok × Nat)} {i : Nat} {x : Tok × Nat} (h : m[i]? = some x) : (toB m)[i]? = some ⟨x.1.kind, strOf x.1.name, x.1.of, x.2⟩ := by
  unfold toB; rw [List.getElem?_map, h]; rfl
set_option maxRecDepth 20000 in
set_option maxHeartbeats 8000000 in
theorem tokenPlaces_walk {w : World} (s : ByteArray) (hs : s.size ≤ maxLen) (hL : LaidT w) :
    Calls Tryd.prog 7 #[.string s] w fun e w' => e = .returned (.bool true) ∧ Kept w w' := by
  have HL := Lib.hid hL
  clear hL
  by_cases h8 : 8192 < s.size
  · have h8i : (8192 : Int) < s.size := by omega
    go_enter Tryd.func7, Tryd.ntmps7
    go_wp2_with fail
    refine (kawake_any _ HL.out).mono ?_
    rintro e w1 ⟨rfl, hk1⟩
    have HK1 := Lib.hid hk1
    clear hk1
    go_wp2
    go_ret
    exact ⟨rfl, HK1.out⟩
  · have h8i : ¬ (8192 : Int) < s.size := by omega
    go_enter Tryd.func7, Tryd.ntmps7
    go_wp2_with fail
    refine (kawake_any _ HL.out).mono ?_
    rintro e w1 ⟨rfl, hk1⟩
    have HK1 := Lib.hid hk1
    clear hk1
    go_wp2_with fail
    refine (kallR s _ (by omega) (HL.out.kept HK1.out)).mono ?_
    rintro e w2 ⟨v, m, p, q, rfl, hr, hk2, hi⟩
    have HI := Lib.hid hi
    have HK2 := Lib.hid (HK1.out.trans hk2)
    obtain ⟨ao, c0, rfl, hc, hcells⟩ := hr
    have HCE := Lib.hid hcells
    clear hi hk2 HK1 hcells
    by_cases hq : q = 0
    · subst hq
      have HE : Hid (allS (bs s) = .ok m) := Lib.hid (by
        rcases HI.out with ⟨h, _, _⟩ | ⟨h, _⟩
        · exact h
        · exact absurd rfl (all_err h))
      have hp0 : p = 0 := by
        rcases HI.out with ⟨_, h, _⟩ | ⟨h, _⟩
        · exact h
        · exact absurd rfl (all_err h)
      subst hp0
      obtain ⟨⟨nt0, hrun⟩, hml, _⟩ := all_run HE.out
      have H0 : Hid (PlaceTo s m nt0 0 0) := Lib.hid ⟨by omega, by simpa using hrun⟩
      have HTK := Lib.hid HI.out.toks.2
      have hlen : (toB m).length = m.length := by simp [toB]
      rw [hlen] at hc ⊢
      have HML : Hid (m.length ≤ 1000) := Lib.hid hml
      clear hrun HE HI hlen hml
      generalize hn : m.length = n at *
      have HN := Lib.hid hn
      have hn1 := HML.out
      clear hn
      have HK0 : Hid (Kept w2 w2) := Lib.hid (Fr.refl _ _)
      go_wp2
      go_loopw [6, 7] (fun av iv wr => ∃ (i a : Nat), iv = .int .i64 i ∧ av = .int .i64 a ∧ i ≤ n + 1 ∧ a ≤ s.size ∧ Hid (Kept w2 wr) ∧ Hid (i ≤ n → PlaceTo s m nt0 i a)) (fun _ iv _ => n + 1 - (intOf iv).toNat)
      case atStart => exact ⟨0, 0, rfl, rfl, by omega, by omega, HK0, Lib.hid (fun _ => H0.out)⟩
      case round =>
        obtain ⟨i, a, rfl, rfl, hi, ha, hkr, hto⟩ := hrel
        clear H0 HK0
        by_cases hle : i ≤ n
        · have hlei : (i : Int) ≤ (n : Int) := by omega
          have HTO := Lib.hid (hto.out hle)
          clear hto
          by_cases hlt : i < n
          · have hlti : (i : Int) < (n : Int) := by omega
            obtain ⟨⟨t, e⟩, hx⟩ : ∃ x, m[i]? = some x := ⟨_, List.getElem?_eq_getElem (by have := HN.out; omega)⟩
            have HO := Lib.hid (HTO.out.one hx)
            obtain ⟨g, off, rfl, d0, d1, d2, d3⟩ := HCE.out i _ (toB_get hx)
            have hb0 := hkr.out.cell d0 (fun x => x)
            have hb1 := hkr.out.cell d1 (fun x => x)
            have hb2 := hkr.out.cell d2 (fun x => x)
            have hb3 := hkr.out.cell d3 (fun x => x)
            have hnm := (HTK.out _ (List.mem_of_getElem? (toB_get hx))).2
            have HW : Hid (∀ W, LaidT W → Calls Tryd.prog 16 #[.agg #[.int .i64 t.kind, .string (strOf t.name), .int .i64 t.of, .int .i64 (e : Int)]] W (KeptPost (.string (strOf (wordS t))) W)) := Lib.hid (fun W hW => by
              have := kword_any t.kind (strOf t.name) t.of e W (by simpa using Nat.le_trans hnm (by decide)) hW
              rw [bs_strOf] at this
              exact this)
            have hae := HO.out.le
            have hin := HO.out.inside
            have HNX := Lib.hid HO.out.next
            have HWO := Lib.hid HO.out.word
            have HNE := Lib.hid HO.out.ne
            have HXS := Lib.hid HO.out.skip
            have HXG : Hid (∀ k, a ≤ k → k < e → (((bs s).drop a).take (e - a))[k - a]? = some (s.get! k)) := Lib.hid (fun k h1 h2 => piece_get h1 h2 (by omega))
            have HXT : Hid ((((bs s).drop a).take (e - a)).take (e - a) = ((bs s).drop a).take (e - a)) := Lib.hid (by rw [List.take_take, Nat.min_self])
            have hws : (strOf (wordS t)).size = (wordS t).length := strOf_size _
            generalize ((bs s).drop a).take (e - a) = X at *
            generalize wordS t = wd at *
            have hei : (e : Int) ≤ (s.size : Int) := by omega
            have h1i : ¬ (e : Int) < (a : Int) := by omega
            have h2i : ¬ (s.size : Int) < (e : Int) := by omega
            have h3i : ¬ (s.size : Int) - (e : Int) < (wd.length : Int) := by omega
            have h4i : (e : Int) + (wd.length : Int) ≤ (s.size : Int) := by omega
            have h5i : ((e : Int) + (wd.length : Int)).toNat = e + wd.length := by omega
            have h6i : (0 : Int) ≤ (e : Int) + (wd.length : Int) := by omega
            have h7i : (e : Int) ≤ (e : Int) + (wd.length : Int) := by omega
            have q1 : ¬ (strOf wd).toList = [] := by rw [bs_toList, bs_strOf]; exact HNE.out
            have q2 : (strOf wd).toList.isEmpty = false := by simpa using q1
            have q3 : ((strOf wd).toList == []) = false := by simpa using q1
            clear d0 d1 d2 d3 hx HO HTO hnm
            go_wp2
            go_loop [9, 10] (fun nv kv => ∃ (k : Nat) (nt : Bool), kv = .int .i64 k ∧ nv = .bool nt ∧ a ≤ k ∧ k ≤ e ∧ Hid (skips false (X.take (k - a)) = some nt)) (fun _ kv => e - (intOf kv).toNat)
            case atStart => exact ⟨a, false, rfl, rfl, by omega, by omega, Lib.hid (by rw [Nat.sub_self]; rfl)⟩
            case round =>
              obtain ⟨k, nt, rfl, rfl, hak, hke, hsk⟩ := hrel
              by_cases hlt2 : k < e
              · have hlt2i : (k : Int) < (e : Int) := by omega
                have hks : k < s.size := by omega
                have x1 := run_at s k hks
                have HST := Lib.hid (skips_step hsk.out HXS.out (HXG.out k hak hlt2))
                have e1 : k - a + 1 = k + 1 - a := by omega
                rw [e1] at HST
                clear e1 hsk
                generalize s.get! k = c at *
                by_cases e35 : c = 35
                · have g35 := eq_yes 35 35 rfl (by omega) e35
                  have g10 : ((c.toNat : Int) == 10) = false := by subst e35; rfl
                  have HN : Hid (skips false (X.take (k + 1 - a)) = some true) := Lib.hid (by have := HST.out.2; rwa [show noteS nt c = true by unfold noteS; rw [if_pos e35]] at this)
                  clear e35 HST
                  go_wp2
                  go_round
                  case rel => exact ⟨k + 1, true, by go_num, rfl, by omega, by omega, HN⟩
                  case measure => simp [intOf]; omega
                · have g35 := eq_no 35 35 rfl (by omega) e35
                  by_cases e10 : c = 10
                  · have g10 := eq_yes 10 10 rfl (by omega) e10
                    have g32 : ((c.toNat : Int) != 32) = true := by subst e10; rfl
                    have g9 : ((c.toNat : Int) != 9) = true := by subst e10; rfl
                    have g10n : ((c.toNat : Int) != 10) = false := by subst e10; rfl
                    have HN : Hid (skips false (X.take (k + 1 - a)) = some false) := Lib.hid (by have := HST.out.2; rwa [show noteS nt c = false by unfold noteS; rw [if_neg e35, if_pos e10]] at this)
                    clear e35 e10 HST
                    go_wp2
                    go_round
                    case rel => exact ⟨k + 1, false, by go_num, rfl, by omega, by omega, HN⟩
                    case measure => simp [intOf]; omega
                  · have g10 := eq_no 10 10 rfl (by omega) e10
                    have hnn : noteS nt c = nt := by unfold noteS; rw [if_neg e35, if_neg e10]
                    have HN : Hid (skips false (X.take (k + 1 - a)) = some nt) := Lib.hid (by have := HST.out.2; rwa [hnn] at this)
                    have HB : Hid (nt = false → tBlank c = true) := Lib.hid (fun h => by have := HST.out.1; unfold passB at this; rw [hnn, h] at this; simpa using this)
                    clear HST hnn e35
                    cases nt
                    · have hb := HB.out rfl
                      have hor : c = 32 ∨ c = 9 := by
                        unfold tBlank at hb
                        simp [e10] at hb
                        exact hb
                      clear hb HB e10
                      rcases hor with e32 | e9
                      · have g32 : ((c.toNat : Int) != 32) = false := by subst e32; rfl
                        clear e32
                        go_wp2
                        go_round
                        case rel => exact ⟨k + 1, false, by go_num, rfl, by omega, by omega, HN⟩
                        case measure => simp [intOf]; omega
                      · have g32 : ((c.toNat : Int) != 32) = true := by subst e9; rfl
                        have g9 : ((c.toNat : Int) != 9) = false := by subst e9; rfl
                        clear e9
                        go_wp2
                        go_round
                        case rel => exact ⟨k + 1, false, by go_num, rfl, by omega, by omega, HN⟩
                        case measure => simp [intOf]; omega
                    · clear HB e10
                      go_wp2
                      go_round
                      case rel => exact ⟨k + 1, true, by go_num, rfl, by omega, by omega, HN⟩
                      case measure => simp [intOf]; omega
              · have hlt2i : ¬ (k : Int) < (e : Int) := by omega
                obtain rfl : k = e := by omega
                have hfin : nt = false := by
                  have h1 := hsk.out
                  rw [HXT.out, HXS.out] at h1
                  exact (Option.some.inj h1).symm
                subst hfin
                have hwq := HWO.out
                clear hsk
                go_wp2_with fail
                refine (HW.out _ (HL.out.kept (HK2.out.trans hkr.out))).mono ?_
                rintro e' w3 ⟨rfl, hk3⟩
                have HK3 := Lib.hid (hkr.out.trans hk3)
                clear hk3
                go_wp2
                go_roundw
                case rel => exact ⟨i + 1, k + wd.length, by go_num, by go_num, by omega, by omega, HK3, Lib.hid (fun _ => HNX.out)⟩
                case measure => simp [intOf]; omega
          · have hlti : ¬ (i : Int) < (n : Int) := by omega
            have HXS := Lib.hid (HTO.out.last (by rw [HN.out]; omega))
            have HXG : Hid (∀ k, a ≤ k → k < s.size → (((bs s).drop a).take (s.size - a))[k - a]? = some (s.get! k)) := Lib.hid (fun k h1 h2 => piece_get h1 h2 (by omega))
            generalize ((bs s).drop a).take (s.size - a) = X at *
            have h1i : ¬ (s.size : Int) < (a : Int) := by omega
            clear HTO
            go_wp2
            go_loop [9, 10] (fun nv kv => ∃ (k : Nat) (nt : Bool), kv = .int .i64 k ∧ nv = .bool nt ∧ a ≤ k ∧ k ≤ s.size ∧ Hid (skips false (X.take (k - a)) = some nt)) (fun _ kv => s.size - (intOf kv).toNat)
            case atStart => exact ⟨a, false, rfl, rfl, by omega, by omega, Lib.hid (by rw [Nat.sub_self]; rfl)⟩
            case round =>
              obtain ⟨k, nt, rfl, rfl, hak, hke, hsk⟩ := hrel
              by_cases hlt2 : k < s.size
              · have hlt2i : (k : Int) < (s.size : Int) := by omega
                have hks : k < s.size := by omega
                have x1 := run_at s k hks
                have HST := Lib.hid (skips_step hsk.out HXS.out (HXG.out k hak hlt2))
                have e1 : k - a + 1 = k + 1 - a := by omega
                rw [e1] at HST
                clear e1 hsk
                generalize s.get! k = c at *
                by_cases e35 : c = 35
                · have g35 := eq_yes 35 35 rfl (by omega) e35
                  have g10 : ((c.toNat : Int) == 10) = false := by subst e35; rfl
                  have HN : Hid (skips false (X.take (k + 1 - a)) = some true) := Lib.hid (by have := HST.out.2; rwa [show noteS nt c = true by unfold noteS; rw [if_pos e35]] at this)
                  clear e35 HST
                  go_wp2
                  go_round
                  case rel => exact ⟨k + 1, true, by go_num, rfl, by omega, by omega, HN⟩
                  case measure => simp [intOf]; omega
                · have g35 := eq_no 35 35 rfl (by omega) e35
                  by_cases e10 : c = 10
                  · have g10 := eq_yes 10 10 rfl (by omega) e10
                    have g32 : ((c.toNat : Int) != 32) = true := by subst e10; rfl
                    have g9 : ((c.toNat : Int) != 9) = true := by subst e10; rfl
                    have g10n : ((c.toNat : Int) != 10) = false := by subst e10; rfl
                    have HN : Hid (skips false (X.take (k + 1 - a)) = some false) := Lib.hid (by have := HST.out.2; rwa [show noteS nt c = false by unfold noteS; rw [if_neg e35, if_pos e10]] at this)
                    clear e35 e10 HST
                    go_wp2
                    go_round
                    case rel => exact ⟨k + 1, false, by go_num, rfl, by omega, by omega, HN⟩
                    case measure => simp [intOf]; omega
                  · have g10 := eq_no 10 10 rfl (by omega) e10
                    have hnn : noteS nt c = nt := by unfold noteS; rw [if_neg e35, if_neg e10]
                    have HN : Hid (skips false (X.take (k + 1 - a)) = some nt) := Lib.hid (by have := HST.out.2; rwa [hnn] at this)
                    have HB : Hid (nt = false → tBlank c = true) := Lib.hid (fun h => by have := HST.out.1; unfold passB at this; rw [hnn, h] at this; simpa using this)
                    clear HST hnn e35
                    cases nt
                    · have hb := HB.out rfl
                      have hor : c = 32 ∨ c = 9 := by
                        unfold tBlank at hb
                        simp [e10] at hb
                        exact hb
                      clear hb HB e10
                      rcases hor with e32 | e9
                      · have g32 : ((c.toNat : Int) != 32) = false := by subst e32; rfl
                        clear e32
                        go_wp2
                        go_round
                        case rel => exact ⟨k + 1, false, by go_num, rfl, by omega, by omega, HN⟩
                        case measure => simp [intOf]; omega
                      · have g32 : ((c.toNat : Int) != 32) = true := by subst e9; rfl
                        have g9 : ((c.toNat : Int) != 9) = false := by subst e9; rfl
                        clear e9
                        go_wp2
                        go_round
                        case rel => exact ⟨k + 1, false, by go_num, rfl, by omega, by omega, HN⟩
                        case measure => simp [intOf]; omega
                    · clear HB e10
                      go_wp2
                      go_round
                      case rel => exact ⟨k + 1, true, by go_num, rfl, by omega, by omega, HN⟩
                      case measure => simp [intOf]; omega
              · have hlt2i : ¬ (k : Int) < (s.size : Int) := by omega
                obtain rfl : k = s.size := by omega
                clear hsk
                cases nt
                all_goals
                  go_wp2
                  go_roundw
                  case rel => exact ⟨i + 1, a, by go_num, rfl, by omega, ha, hkr, Lib.hid (fun h => by omega)⟩
                  case measure => simp [intOf]; omega
        · have hlei : ¬ (i : Int) ≤ (n : Int) := by omega
          go_wp2
          go_ret
          exact ⟨rfl, HK2.out.trans hkr.out⟩
    · have hqb : (q != 0) = true := by simp [hq]
      have hm : m = [] ∧ p ≤ s.size := by
        rcases HI.out with ⟨_, _, h⟩ | ⟨h, h2⟩
        · exact absurd h hq
        · have := err_place h; rw [bs_len] at this; exact ⟨h2, this⟩
      obtain ⟨rfl, hps⟩ := hm
      have hpi : (p : Int) ≤ (s.size : Int) := by omega
      have hl0 : (toB []).length = 0 := rfl
      rw [hl0]
      clear hq HI HCE
      go_wp2
      go_ret
      exact ⟨rfl, HK2.out⟩

end Go.Proofs.YthceckpeccbpiaaDoor
