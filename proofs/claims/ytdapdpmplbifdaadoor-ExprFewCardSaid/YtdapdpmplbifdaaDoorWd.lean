/- Contracts and lemmas: Wd -/
import Derived.Test.YtdapdpmplbifdaaDoorFix
import Derived.Test.YtdapdpmplbifdaaDoorMay
import Derived.Laws.Concat
import Derived.Shelf.Strings.Search3
import Derived.Test.YtdapdpmplbifdaaDoorShelf
namespace Go.Proofs.YtdapdpmplbifdaaDoor
set_option linter.unusedVariables false
set_option linter.unusedSimpArgs false
open Go.RowKit Go.ChangeShapes Go.WideShapes
theorem may_fix {s : List UInt8} (h : tMay s = true) : fixK s = tKey s := by
  obtain ⟨_, _, c, v, rfl, hc⟩ := may_all h
  unfold fixK tKey
  have r1 : c :: v ≠ [124] := by intro e; cases e; exact absurd hc (by decide)
  have r2 : c :: v ≠ [40] := by intro e; cases e; exact absurd hc (by decide)
  have r3 : c :: v ≠ [41] := by intro e; cases e; exact absurd hc (by decide)
  rw [if_neg r1, if_neg r2, if_neg r3]
set_option maxHeartbeats 1000000 in
theorem katom_any (o : Int) (x : ByteArray) (w : World) (hs : x.size ≤ 1000000) (hL : LaidT w) :
    Calls Tryd.prog 58 #[.int .i64 o, .string x] w fun e w' => e = .returned (.string (strOf (wordS ⟨1, bs x, o⟩))) ∧ w = w' := by
  have HL := Lib.hid hL
  clear hL
  by_cases h0 : o = 0
  · subst h0
    by_cases hd : bs x = [68]
    · have hD : (x.toList == [68]) = true := str_yes hd
      have HW : Hid (strOf (wordS ⟨1, bs x, 0⟩) = x) := Lib.hid (by rw [word_10, if_pos hd]; exact bs_inj (by rw [bs_strOf, hd]))
      clear hd
      go_enter Tryd.func58, Tryd.ntmps58
      go_wp2
      go_ret
      exact ⟨ret_str HW.out.symm, rfl⟩
    · have hD : (x.toList == [68]) = false := str_no hd
      have HW : Hid (strOf (wordS ⟨1, bs x, 0⟩) = ⟨#[]⟩) := Lib.hid (by rw [word_10, if_neg hd]; rfl)
      clear hd
      go_enter Tryd.func58, Tryd.ntmps58
      go_wp2
      go_ret
      exact ⟨ret_str HW.out.symm, rfl⟩
  · have g0 : (o == 0) = false := by simp [h0]
    have HW1 := Lib.hid (word_1 (bs x) o h0)
    by_cases hl : o < 1
    · have HW : Hid (strOf (wordS ⟨1, bs x, o⟩) = ⟨#[]⟩) := Lib.hid (by rw [HW1.out, if_neg (by omega)]; rfl)
      have gl : o ≤ 0 := by omega
      clear h0
      go_enter Tryd.func58, Tryd.ntmps58
      go_wp2
      go_ret
      exact ⟨ret_str HW.out.symm, rfl⟩
    · have gl : ¬ o ≤ 0 := by omega
      by_cases h5 : 5 < o
      · have HW : Hid (strOf (wordS ⟨1, bs x, o⟩) = ⟨#[]⟩) := Lib.hid (by rw [HW1.out, if_neg (by omega)]; rfl)
        have g6 : 6 ≤ o := by omega
        clear h0
        go_enter Tryd.func58, Tryd.ntmps58
        go_wp2
        go_ret
        exact ⟨ret_str HW.out.symm, rfl⟩
      · have l1 : 1 ≤ o := by omega
        have l5 : o ≤ 5 := by omega
        have g6 : ¬ 6 ≤ o := by omega
        cases hm : tMay (bs x)
        · have HW : Hid (strOf (wordS ⟨1, bs x, o⟩) = ⟨#[]⟩) := Lib.hid (by rw [HW1.out, if_neg (by simp [hm])]; rfl)
          have HM : Hid (∀ W, Calls Tryd.prog 78 #[.string x] W fun e w' => e = .returned (.bool false) ∧ W = w') := Lib.hid (fun W => by rw [← hm]; exact amay_any x W (by unfold maxLen; omega))
          clear h0 hm
          go_enter Tryd.func58, Tryd.ntmps58
          go_wp2_with (go_at_call 78; refine (HM.out _).mono ?_; rintro e w' ⟨rfl, rfl⟩)
          go_ret
          exact ⟨ret_str HW.out.symm, rfl⟩
        · have HM : Hid (∀ W, Calls Tryd.prog 78 #[.string x] W fun e w' => e = .returned (.bool true) ∧ W = w') := Lib.hid (fun W => by rw [← hm]; exact amay_any x W (by unfold maxLen; omega))
          have HF := Lib.hid (may_fix hm)
          obtain ⟨n, rfl⟩ : ∃ n : Nat, o = n := ⟨o.toNat, by omega⟩
          have hn : n < 6 := by omega
          have c0 := HL.out.pre n hn
          have g7 : (n : Int) < 6 := by omega
          have g8 : (0 : Int) ≤ (n : Int) := by omega
          have hcat : ∀ W, (Op.stringOp .add (strOf (tPre (n : Int))) x).run Tryd.prog W = .ok (.string (strOf (tPre (n : Int)) ++ x)) W := fun W => run_string_add_sum _ _ _ (by rw [strOf_size]; have := pre_len (n : Int); omega)
          by_cases h3 : n = 3
          · subst h3
            by_cases hk : tKey (bs x) = 0
            · have HK : Hid (∀ W, LaidT W → Calls Tryd.prog 73 #[.string x] W fun e w' => e = .returned (.int .i64 0) ∧ W = w') := Lib.hid (fun W h => by rw [← hk, ← HF.out]; exact kfixed_any x W h)
              have HW : Hid (strOf (wordS ⟨1, bs x, ((3 : Nat) : Int)⟩) = strOf (tPre ((3 : Nat) : Int)) ++ x) := Lib.hid (by rw [HW1.out, if_pos ⟨hm, ⟨l1, l5⟩, fun _ => hk⟩, strOf_append])
              clear h0 hk hm HW1
              generalize strOf (tPre ((3 : Nat) : Int)) = y at *
              go_enter Tryd.func58, Tryd.ntmps58
              go_wp2_with (first | (go_at_call 78; refine (HM.out _).mono ?_; rintro e w' ⟨rfl, rfl⟩) | (go_at_call 73; refine (HK.out _ HL.out).mono ?_; rintro e w' ⟨rfl, rfl⟩))
              go_ret
              exact ⟨ret_str HW.out.symm, rfl⟩
            · have hkb : (tKey (bs x) != 0) = true := by simp [hk]
              have HK : Hid (∀ W, LaidT W → Calls Tryd.prog 73 #[.string x] W fun e w' => e = .returned (.int .i64 (tKey (bs x))) ∧ W = w') := Lib.hid (fun W h => by rw [← HF.out]; exact kfixed_any x W h)
              have HW : Hid (strOf (wordS ⟨1, bs x, ((3 : Nat) : Int)⟩) = ⟨#[]⟩) := Lib.hid (by rw [HW1.out, if_neg (by simp [hk])]; rfl)
              clear h0 hk hm HW1 HF
              generalize tKey (bs x) = q at *
              go_enter Tryd.func58, Tryd.ntmps58
              go_wp2_with (first | (go_at_call 78; refine (HM.out _).mono ?_; rintro e w' ⟨rfl, rfl⟩) | (go_at_call 73; refine (HK.out _ HL.out).mono ?_; rintro e w' ⟨rfl, rfl⟩))
              go_ret
              exact ⟨ret_str HW.out.symm, rfl⟩
          · have g3 : ((n : Int) == 3) = false := by simp; omega
            have HW : Hid (strOf (wordS ⟨1, bs x, (n : Int)⟩) = strOf (tPre (n : Int)) ++ x) := Lib.hid (by rw [HW1.out, if_pos ⟨hm, ⟨l1, l5⟩, fun e => by omega⟩, strOf_append])
            clear h0 hm HW1 h3
            generalize strOf (tPre (n : Int)) = y at *
            go_enter Tryd.func58, Tryd.ntmps58
            go_wp2_with (go_at_call 78; refine (HM.out _).mono ?_; rintro e w' ⟨rfl, rfl⟩)
            go_ret
            exact ⟨ret_str HW.out.symm, rfl⟩
theorem take_short {p : UInt8 → Bool} : ∀ {l : List UInt8}, (l.takeWhile p).length < l.length → l.all p = false
  | [], h => by simp at h
  | c :: r, h => by
    cases hc : p c
    · simp [hc]
    · simp only [List.takeWhile_cons, hc, if_true, List.length_cons] at h
      simp only [List.all_cons, hc, Bool.true_and]
      exact take_short (by omega)
theorem take_whole {p : UInt8 → Bool} {l : List UInt8} (h : ¬ (l.takeWhile p).length < l.length) : l.all p = true := by
  have e : l.takeWhile p = l := (List.takeWhile_prefix p).eq_of_length_le (by omega)
  rw [← e]; exact List.all_takeWhile
set_option maxHeartbeats 1000000 in
theorem knum_any (s : ByteArray) (w : World) (hs : s.size ≤ 1000000) : Calls Tryd.prog 59 #[.string s] w (KeptPost (.bool (tNum (bs s))) w) := by
  have HN : Hid (tNum (bs s) = ((bs s).all tDig && (decide (1 ≤ s.size ∧ s.size ≤ 9) && (decide ((bs s).head? ≠ some 48) || decide (s.size = 1))))) := Lib.hid (by unfold tNum; rw [bs_len])
  by_cases h0 : s.size = 0
  · have g0 : ((s.size : Int) == 0) = true := by simp [h0]
    have HA : Hid (tNum (bs s) = false) := Lib.hid (by rw [HN.out]; simp [h0])
    go_enter Tryd.func59, Tryd.ntmps59
    go_wp2
    go_ret
    exact ⟨ret_bool HA.out.symm, Fr.refl _ _⟩
  · have g0 : ((s.size : Int) == 0) = false := by rw [beq_eq_false_iff_ne]; omega
    by_cases h9 : 9 < s.size
    · have g9 : (9 : Int) < (s.size : Int) := by omega
      have HA : Hid (tNum (bs s) = false) := Lib.hid (by rw [HN.out, show decide (1 ≤ s.size ∧ s.size ≤ 9) = false from by simp only [decide_eq_false_iff_not]; omega]; simp)
      clear h0
      go_enter Tryd.func59, Tryd.ntmps59
      go_wp2
      go_ret
      exact ⟨ret_bool HA.out.symm, Fr.refl _ _⟩
    · have g9 : ¬ (9 : Int) < (s.size : Int) := by omega
      have HC : Hid (∀ W, Calls Tryd.prog 71 #[.string s, .func (.func 72) #[] #[]] W (KeptPost (.int .i64 (((bs s).takeWhile tDig).length : Nat)) W)) :=
        Lib.hid (fun W => klead_any 72 rDig tDig (fun args w => by kernel_rfl) kdig_any dig_byte (fun r h => rdig_far h) s W hs)
      have HT1 : Hid (((bs s).takeWhile tDig).length < s.size → (bs s).all tDig = false) := Lib.hid (fun h => take_short (by rw [bs_len]; exact h))
      have HT2 : Hid (¬ ((bs s).takeWhile tDig).length < s.size → (bs s).all tDig = true) := Lib.hid (fun h => take_whole (by rw [bs_len]; exact h))
      generalize ((bs s).takeWhile tDig).length = n at *
      by_cases hn : n < s.size
      · have gn : (n : Int) < (s.size : Int) := by omega
        have HA : Hid (tNum (bs s) = false) := Lib.hid (by rw [HN.out, HT1.out hn]; rfl)
        clear h0 hn
        go_enter Tryd.func59, Tryd.ntmps59
        go_wp2_with fail
        refine (HC.out _).mono ?_
        rintro e w1 ⟨rfl, hk⟩
        have HK := Lib.hid hk
        clear hk
        go_wp2
        go_ret
        exact ⟨ret_bool HA.out.symm, HK.out⟩
      · have gn : ¬ (n : Int) < (s.size : Int) := by omega
        have x1 : ∀ wx : World, Sem.run Tryd.prog (Instr.index 9 (Value.string s) (Value.int IntKind.i64 0)) wx = Result.ok (Value.int IntKind.u8 (s.get! 0).toNat) wx := run_at s 0 (by omega)
        have hd0 := drop_at (s := s) (a := 0) (by omega)
        rw [List.drop_zero] at hd0
        have HH : Hid ((bs s).head? = some (s.get! 0)) := Lib.hid (by rw [hd0]; rfl)
        have HB : Hid (tNum (bs s) = (decide (s.get! 0 ≠ 48) || decide (s.size = 1))) := Lib.hid (by rw [HN.out, HT2.out hn, HH.out]; simp; omega)
        have HE : Hid (bs s = [48] ↔ (s.get! 0 = 48 ∧ s.size = 1)) := Lib.hid (by
          constructor
          · intro e
            have h1 := HH.out
            have h2 := bs_len s
            rw [e] at h1 h2
            exact ⟨(Option.some.inj h1).symm, h2.symm⟩
          · rintro ⟨e1, e2⟩
            have h2 := bs_len s
            rw [hd0, e2] at h2
            rw [hd0, e1]
            have : (bs s).drop (0 + 1) = [] := List.eq_nil_of_length_eq_zero (by simpa using h2)
            rw [this])
        clear hd0
        generalize s.get! 0 = c at *
        by_cases hz : bs s = [48]
        · have gz : (s.toList == [48]) = true := str_yes hz
          have HA : Hid (tNum (bs s) = true) := Lib.hid (by rw [HB.out]; simp [(HE.out.1 hz).2])
          clear h0 hn hz
          go_enter Tryd.func59, Tryd.ntmps59
          go_wp2_with fail
          refine (HC.out _).mono ?_
          rintro e w1 ⟨rfl, hk⟩
          have HK := Lib.hid hk
          clear hk
          go_wp2
          go_ret
          exact ⟨ret_bool HA.out.symm, HK.out⟩
        · have gz : (s.toList == [48]) = false := str_no hz
          by_cases h48 : c = 48
          · have g48 : ((c.toNat : Int) != 48) = false := by subst h48; rfl
            have HA : Hid (tNum (bs s) = false) := Lib.hid (by
              have : s.size ≠ 1 := fun e => hz (HE.out.2 ⟨h48, e⟩)
              rw [HB.out]; simp [h48, this])
            clear h0 hn hz h48
            go_enter Tryd.func59, Tryd.ntmps59
            go_wp2_with fail
            refine (HC.out _).mono ?_
            rintro e w1 ⟨rfl, hk⟩
            have HK := Lib.hid hk
            clear hk
            go_wp2
            go_ret
            exact ⟨ret_bool HA.out.symm, HK.out⟩
          · have g48 : ((c.toNat : Int) != 48) = true := by rw [bne, eq_no 48 48 rfl (by omega) h48]; rfl
            have HA : Hid (tNum (bs s) = true) := Lib.hid (by rw [HB.out]; simp [h48])
            clear h0 hn hz h48
            go_enter Tryd.func59, Tryd.ntmps59
            go_wp2_with fail
            refine (HC.out _).mono ?_
            rintro e w1 ⟨rfl, hk⟩
            have HK := Lib.hid hk
            clear hk
            go_wp2
            go_ret
            exact ⟨ret_bool HA.out.symm, HK.out⟩
theorem signs_index (c : UInt8) : decide (0 ≤ Lib.indexByte [61, 44, 59, 60, 62, 33, 63, 42] c) = tOne c := by
  by_cases h1 : c = 61
  · subst h1; decide
  by_cases h2 : c = 44
  · subst h2; decide
  by_cases h3 : c = 59
  · subst h3; decide
  by_cases h4 : c = 60
  · subst h4; decide
  by_cases h5 : c = 62
  · subst h5; decide
  by_cases h6 : c = 33
  · subst h6; decide
  by_cases h7 : c = 63
  · subst h7; decide
  by_cases h8 : c = 42
  · subst h8; decide
  have e : ∀ n : UInt8, c ≠ n → (n == c) = false := fun n h => by rw [beq_eq_false_iff_ne]; exact fun e => h e.symm
  simp [Lib.indexByte, tOne, h1, h2, h3, h4, h5, h6, h7, h8, e 61 h1, e 44 h2, e 59 h3, e 60 h4, e 62 h5, e 33 h6, e 63 h7, e 42 h8]
theorem ksign_any (s : ByteArray) (w : World) : Calls Tryd.prog 60 #[.string s] w fun e w' => e = .returned (.bool (tSign (bs s))) ∧ w = w' := by
  by_cases h1 : s.size = 1
  · have g1 : ((s.size : Int) == 1) = true := by simp; omega
    obtain ⟨c, rfl⟩ : ∃ c, s = ⟨#[c]⟩ := by
      obtain ⟨⟨l⟩⟩ := s
      match l, h1 with
      | [c], _ => exact ⟨c, rfl⟩
    have HC : Hid (∀ W, Calls Tryd.prog 79 #[.string ⟨#[61, 44, 59, 60, 62, 33, 63, 42]⟩, .string ⟨#[c]⟩] W fun e w' => e = .returned (.bool (tOne c)) ∧ w' = W) := Lib.hid (fun W => by
      rw [← signs_index]
      exact Any.strings_Contains_one Tryd.containsL ⟨#[61, 44, 59, 60, 62, 33, 63, 42]⟩ c W)
    have HA : Hid (tSign (bs ⟨#[c]⟩) = tOne c) := Lib.hid rfl
    go_enter Tryd.func60, Tryd.ntmps60
    go_wp2_with (go_at_call 79; refine (HC.out _).mono ?_; rintro e w' ⟨rfl, rfl⟩)
    go_ret
    exact ⟨ret_bool HA.out.symm, rfl⟩
  · have g1 : ((s.size : Int) == 1) = false := by simp; omega
    have HA : Hid (tSign (bs s) = false) := Lib.hid (by
      have h2 := bs_len s
      generalize bs s = l at *
      match l, h2 with
      | [], _ => rfl
      | [c], h2 => exact absurd h2.symm h1
      | _ :: _ :: _, _ => rfl)
    clear h1
    go_enter Tryd.func60, Tryd.ntmps60
    go_wp2
    go_ret
    exact ⟨ret_bool HA.out.symm, rfl⟩

end Go.Proofs.YtdapdpmplbifdaaDoor
