/- Contracts and lemmas: Tk -/
import Derived.Test.YtbfealhbdemhmaaGreatDoorLe
import Derived.Test.YtbfealhbdemhmaaGreatDoorShelf
import Derived.Laws.Concat
import Derived.Shelf.Strings.Search3
import Derived.Test.YtbfealhbdemhmaaGreatDoorShelf
import Derived.Laws.ResultCell
import Derived.Shelf.Small.Wraps
namespace Go.Proofs.YtbfealhbdemhmaaGreatDoor
set_option linter.unusedVariables false
set_option linter.unusedSimpArgs false
open Go.RowKit Go.ChangeShapes Go.WideShapes
theorem may_fix {s : List UInt8} (h : tMay s = true) : fixK s = tKey s := by
  obtain ⟨_, _, c, v, rfl, hc⟩ := may_all h
  unfold fixK tKey
  have r1 : c :: v ≠ [124] := by intro e; cases e; exact absurd hc (by decide)
  have r2 : c :: v ≠ [40] := by intro e; cases e; exact absurd hc (by decide)
  have r3 : c :: v ≠ [41] := by intro e; cases e; exact absurd hc (by decide)
  rw [if_neg r1, if_neg r2, if_neg r3]
set_option maxHeartbeats 1000000 in
theorem katom_any (o : Int) (x : ByteArray) (w : World) (hs : x.size ≤ 1000000) (hL : LaidT w) :
    Calls Tryz.prog 89 #[.int .i64 o, .string x] w fun e w' => e = .returned (.string (strOf (wordS ⟨1, bs x, o⟩))) ∧ w = w' := by
  have HL := Lib.hid hL
  clear hL
  by_cases h0 : o = 0
  · subst h0
    by_cases hd : bs x = [68]
    · have hD : (x.toList == [68]) = true := str_yes hd
      have HW : Hid (strOf (wordS ⟨1, bs x, 0⟩) = x) := Lib.hid (by rw [word_10, if_pos hd]; exact bs_inj (by rw [bs_strOf, hd]))
      clear hd
      go_enter Tryz.func89, Tryz.ntmps89
      go_wp2
      go_ret
      exact ⟨ret_str HW.out.symm, rfl⟩
    · have hD : (x.toList == [68]) = false := str_no hd
      have HW : Hid (strOf (wordS ⟨1, bs x, 0⟩) = ⟨#[]⟩) := Lib.hid (by rw [word_10, if_neg hd]; rfl)
      clear hd
      go_enter Tryz.func89, Tryz.ntmps89
      go_wp2
      go_ret
      exact ⟨ret_str HW.out.symm, rfl⟩
  · have g0 : (o == 0) = false := by simp [h0]
    have HW1 := Lib.hid (word_1 (bs x) o h0)
    by_cases hl : o < 1
    · have HW : Hid (strOf (wordS ⟨1, bs x, o⟩) = ⟨#[]⟩) := Lib.hid (by rw [HW1.out, if_neg (by omega)]; rfl)
      have gl : o ≤ 0 := by omega
      clear h0
      go_enter Tryz.func89, Tryz.ntmps89
      go_wp2
      go_ret
      exact ⟨ret_str HW.out.symm, rfl⟩
    · have gl : ¬ o ≤ 0 := by omega
      by_cases h5 : 5 < o
      · have HW : Hid (strOf (wordS ⟨1, bs x, o⟩) = ⟨#[]⟩) := Lib.hid (by rw [HW1.out, if_neg (by omega)]; rfl)
        have g6 : 6 ≤ o := by omega
        clear h0
        go_enter Tryz.func89, Tryz.ntmps89
        go_wp2
        go_ret
        exact ⟨ret_str HW.out.symm, rfl⟩
      · have l1 : 1 ≤ o := by omega
        have l5 : o ≤ 5 := by omega
        have g6 : ¬ 6 ≤ o := by omega
        cases hm : tMay (bs x)
        · have HW : Hid (strOf (wordS ⟨1, bs x, o⟩) = ⟨#[]⟩) := Lib.hid (by rw [HW1.out, if_neg (by simp [hm])]; rfl)
          have HM : Hid (∀ W, Calls Tryz.prog 86 #[.string x] W fun e w' => e = .returned (.bool false) ∧ W = w') := Lib.hid (fun W => by rw [← hm]; exact amay_any x W (by unfold maxLen; omega))
          clear h0 hm
          go_enter Tryz.func89, Tryz.ntmps89
          go_wp2_with (go_at_call 86; refine (HM.out _).mono ?_; rintro e w' ⟨rfl, rfl⟩)
          go_ret
          exact ⟨ret_str HW.out.symm, rfl⟩
        · have HM : Hid (∀ W, Calls Tryz.prog 86 #[.string x] W fun e w' => e = .returned (.bool true) ∧ W = w') := Lib.hid (fun W => by rw [← hm]; exact amay_any x W (by unfold maxLen; omega))
          have HF := Lib.hid (may_fix hm)
          obtain ⟨n, rfl⟩ : ∃ n : Nat, o = n := ⟨o.toNat, by omega⟩
          have hn : n < 6 := by omega
          have c0 := HL.out.pre n hn
          have g7 : (n : Int) < 6 := by omega
          have g8 : (0 : Int) ≤ (n : Int) := by omega
          have hcat : ∀ W, (Op.stringOp .add (strOf (tPre (n : Int))) x).run Tryz.prog W = .ok (.string (strOf (tPre (n : Int)) ++ x)) W := fun W => run_string_add_sum _ _ _ (by rw [strOf_size]; have := pre_len (n : Int); omega)
          by_cases h3 : n = 3
          · subst h3
            by_cases hk : tKey (bs x) = 0
            · have HK : Hid (∀ W, LaidT W → Calls Tryz.prog 119 #[.string x] W fun e w' => e = .returned (.int .i64 0) ∧ W = w') := Lib.hid (fun W h => by rw [← hk, ← HF.out]; exact kfixed_any x W h)
              have HW : Hid (strOf (wordS ⟨1, bs x, ((3 : Nat) : Int)⟩) = strOf (tPre ((3 : Nat) : Int)) ++ x) := Lib.hid (by rw [HW1.out, if_pos ⟨hm, ⟨l1, l5⟩, fun _ => hk⟩, strOf_append])
              clear h0 hk hm HW1
              generalize strOf (tPre ((3 : Nat) : Int)) = y at *
              go_enter Tryz.func89, Tryz.ntmps89
              go_wp2_with (first | (go_at_call 86; refine (HM.out _).mono ?_; rintro e w' ⟨rfl, rfl⟩) | (go_at_call 119; refine (HK.out _ HL.out).mono ?_; rintro e w' ⟨rfl, rfl⟩))
              go_ret
              exact ⟨ret_str HW.out.symm, rfl⟩
            · have hkb : (tKey (bs x) != 0) = true := by simp [hk]
              have HK : Hid (∀ W, LaidT W → Calls Tryz.prog 119 #[.string x] W fun e w' => e = .returned (.int .i64 (tKey (bs x))) ∧ W = w') := Lib.hid (fun W h => by rw [← HF.out]; exact kfixed_any x W h)
              have HW : Hid (strOf (wordS ⟨1, bs x, ((3 : Nat) : Int)⟩) = ⟨#[]⟩) := Lib.hid (by rw [HW1.out, if_neg (by simp [hk])]; rfl)
              clear h0 hk hm HW1 HF
              generalize tKey (bs x) = q at *
              go_enter Tryz.func89, Tryz.ntmps89
              go_wp2_with (first | (go_at_call 86; refine (HM.out _).mono ?_; rintro e w' ⟨rfl, rfl⟩) | (go_at_call 119; refine (HK.out _ HL.out).mono ?_; rintro e w' ⟨rfl, rfl⟩))
              go_ret
              exact ⟨ret_str HW.out.symm, rfl⟩
          · have g3 : ((n : Int) == 3) = false := by simp; omega
            have HW : Hid (strOf (wordS ⟨1, bs x, (n : Int)⟩) = strOf (tPre (n : Int)) ++ x) := Lib.hid (by rw [HW1.out, if_pos ⟨hm, ⟨l1, l5⟩, fun e => by omega⟩, strOf_append])
            clear h0 hm HW1 h3
            generalize strOf (tPre (n : Int)) = y at *
            go_enter Tryz.func89, Tryz.ntmps89
            go_wp2_with (go_at_call 86; refine (HM.out _).mono ?_; rintro e w' ⟨rfl, rfl⟩)
            go_ret
            exact ⟨ret_str HW.out.symm, rfl⟩
theorem take_short {p : UInt8 → Bool} : ∀ {l : List UInt8}, (l.takeWhile p).length < l.length → l.all p = false
  | [], h => by simp at h
  | c :: r, h => by
    cases hc : p c
    · simp [hc]
    · simp only [List.takeWhile_cons, hc, if_true, List.length_cons] at h
      simp only [List.all_cons, hc, Bool.true_and]
      exact take_short (by omega)
theorem take_whole {p : UInt8 → Bool} {l : List UInt8} (h : ¬ (l.takeWhile p).length < l.length) : l.all p = true := by
  have e : l.takeWhile p = l := (List.takeWhile_prefix p).eq_of_length_le (by omega)
  rw [← e]; exact List.all_takeWhile
set_option maxHeartbeats 1000000 in
theorem knum_any (s : ByteArray) (w : World) (hs : s.size ≤ 1000000) : Calls Tryz.prog 90 #[.string s] w (KeptPost (.bool (tNum (bs s))) w) := by
  have HN : Hid (tNum (bs s) = ((bs s).all tDig && (decide (1 ≤ s.size ∧ s.size ≤ 9) && (decide ((bs s).head? ≠ some 48) || decide (s.size = 1))))) := Lib.hid (by unfold tNum; rw [bs_len])
  by_cases h0 : s.size = 0
  · have g0 : ((s.size : Int) == 0) = true := by simp [h0]
    have HA : Hid (tNum (bs s) = false) := Lib.hid (by rw [HN.out]; simp [h0])
    go_enter Tryz.func90, Tryz.ntmps90
    go_wp2
    go_ret
    exact ⟨ret_bool HA.out.symm, Fr.refl _ _⟩
  · have g0 : ((s.size : Int) == 0) = false := by rw [beq_eq_false_iff_ne]; omega
    by_cases h9 : 9 < s.size
    · have g9 : (9 : Int) < (s.size : Int) := by omega
      have HA : Hid (tNum (bs s) = false) := Lib.hid (by rw [HN.out, show decide (1 ≤ s.size ∧ s.size ≤ 9) = false from by simp only [decide_eq_false_iff_not]; omega]; simp)
      clear h0
      go_enter Tryz.func90, Tryz.ntmps90
      go_wp2
      go_ret
      exact ⟨ret_bool HA.out.symm, Fr.refl _ _⟩
    · have g9 : ¬ (9 : Int) < (s.size : Int) := by omega
      have HC : Hid (∀ W, Calls Tryz.prog 120 #[.string s, .func (.func 121) #[] #[]] W (KeptPost (.int .i64 (((bs s).takeWhile tDig).length : Nat)) W)) :=
        Lib.hid (fun W => klead_any 121 rDig tDig (fun args w => by kernel_rfl) kdig_any dig_byte (fun r h => rdig_far h) s W hs)
      have HT1 : Hid (((bs s).takeWhile tDig).length < s.size → (bs s).all tDig = false) := Lib.hid (fun h => take_short (by rw [bs_len]; exact h))
      have HT2 : Hid (¬ ((bs s).takeWhile tDig).length < s.size → (bs s).all tDig = true) := Lib.hid (fun h => take_whole (by rw [bs_len]; exact h))
      generalize ((bs s).takeWhile tDig).length = n at *
      by_cases hn : n < s.size
      · have gn : (n : Int) < (s.size : Int) := by omega
        have HA : Hid (tNum (bs s) = false) := Lib.hid (by rw [HN.out, HT1.out hn]; rfl)
        clear h0 hn
        go_enter Tryz.func90, Tryz.ntmps90
        go_wp2_with fail
        refine (HC.out _).mono ?_
        rintro e w1 ⟨rfl, hk⟩
        have HK := Lib.hid hk
        clear hk
        go_wp2
        go_ret
        exact ⟨ret_bool HA.out.symm, HK.out⟩
      · have gn : ¬ (n : Int) < (s.size : Int) := by omega
        have x1 : ∀ wx : World, Sem.run Tryz.prog (Instr.index 9 (Value.string s) (Value.int IntKind.i64 0)) wx = Result.ok (Value.int IntKind.u8 (s.get! 0).toNat) wx := run_at s 0 (by omega)
        have hd0 := drop_at (s := s) (a := 0) (by omega)
        rw [List.drop_zero] at hd0
        have HH : Hid ((bs s).head? = some (s.get! 0)) := Lib.hid (by rw [hd0]; rfl)
        have HB : Hid (tNum (bs s) = (decide (s.get! 0 ≠ 48) || decide (s.size = 1))) := Lib.hid (by rw [HN.out, HT2.out hn, HH.out]; simp; omega)
        have HE : Hid (bs s = [48] ↔ (s.get! 0 = 48 ∧ s.size = 1)) := Lib.hid (by
          constructor
          · intro e
            have h1 := HH.out
            have h2 := bs_len s
            rw [e] at h1 h2
            exact ⟨(Option.some.inj h1).symm, h2.symm⟩
          · rintro ⟨e1, e2⟩
            have h2 := bs_len s
            rw [hd0, e2] at h2
            rw [hd0, e1]
            have : (bs s).drop (0 + 1) = [] := List.eq_nil_of_length_eq_zero (by simpa using h2)
            rw [this])
        clear hd0
        generalize s.get! 0 = c at *
        by_cases hz : bs s = [48]
        · have gz : (s.toList == [48]) = true := str_yes hz
          have HA : Hid (tNum (bs s) = true) := Lib.hid (by rw [HB.out]; simp [(HE.out.1 hz).2])
          clear h0 hn hz
          go_enter Tryz.func90, Tryz.ntmps90
          go_wp2_with fail
          refine (HC.out _).mono ?_
          rintro e w1 ⟨rfl, hk⟩
          have HK := Lib.hid hk
          clear hk
          go_wp2
          go_ret
          exact ⟨ret_bool HA.out.symm, HK.out⟩
        · have gz : (s.toList == [48]) = false := str_no hz
          by_cases h48 : c = 48
          · have g48 : ((c.toNat : Int) != 48) = false := by subst h48; rfl
            have HA : Hid (tNum (bs s) = false) := Lib.hid (by
              have : s.size ≠ 1 := fun e => hz (HE.out.2 ⟨h48, e⟩)
              rw [HB.out]; simp [h48, this])
            clear h0 hn hz h48
            go_enter Tryz.func90, Tryz.ntmps90
            go_wp2_with fail
            refine (HC.out _).mono ?_
            rintro e w1 ⟨rfl, hk⟩
            have HK := Lib.hid hk
            clear hk
            go_wp2
            go_ret
            exact ⟨ret_bool HA.out.symm, HK.out⟩
          · have g48 : ((c.toNat : Int) != 48) = true := by rw [bne, eq_no 48 48 rfl (by omega) h48]; rfl
            have HA : Hid (tNum (bs s) = true) := Lib.hid (by rw [HB.out]; simp [h48])
            clear h0 hn hz h48
            go_enter Tryz.func90, Tryz.ntmps90
            go_wp2_with fail
            refine (HC.out _).mono ?_
            rintro e w1 ⟨rfl, hk⟩
            have HK := Lib.hid hk
            clear hk
            go_wp2
            go_ret
            exact ⟨ret_bool HA.out.symm, HK.out⟩
theorem signs_index (c : UInt8) : decide (0 ≤ Lib.indexByte [61, 44, 59, 60, 62, 33, 63, 42] c) = tOne c := by
  by_cases h1 : c = 61
  · subst h1; decide
  by_cases h2 : c = 44
  · subst h2; decide
  by_cases h3 : c = 59
  · subst h3; decide
  by_cases h4 : c = 60
  · subst h4; decide
  by_cases h5 : c = 62
  · subst h5; decide
  by_cases h6 : c = 33
  · subst h6; decide
  by_cases h7 : c = 63
  · subst h7; decide
  by_cases h8 : c = 42
  · subst h8; decide
  have e : ∀ n : UInt8, c ≠ n → (n == c) = false := fun n h => by rw [beq_eq_false_iff_ne]; exact fun e => h e.symm
  simp [Lib.indexByte, tOne, h1, h2, h3, h4, h5, h6, h7, h8, e 61 h1, e 44 h2, e 59 h3, e 60 h4, e 62 h5, e 33 h6, e 63 h7, e 42 h8]
theorem ksign_any (s : ByteArray) (w : World) : Calls Tryz.prog 91 #[.string s] w fun e w' => e = .returned (.bool (tSign (bs s))) ∧ w = w' := by
  by_cases h1 : s.size = 1
  · have g1 : ((s.size : Int) == 1) = true := by simp; omega
    obtain ⟨c, rfl⟩ : ∃ c, s = ⟨#[c]⟩ := by
      obtain ⟨⟨l⟩⟩ := s
      match l, h1 with
      | [c], _ => exact ⟨c, rfl⟩
    have HC : Hid (∀ W, Calls Tryz.prog 122 #[.string ⟨#[61, 44, 59, 60, 62, 33, 63, 42]⟩, .string ⟨#[c]⟩] W fun e w' => e = .returned (.bool (tOne c)) ∧ w' = W) := Lib.hid (fun W => by
      rw [← signs_index]
      exact Any.strings_Contains_one Tryz.containsL ⟨#[61, 44, 59, 60, 62, 33, 63, 42]⟩ c W)
    have HA : Hid (tSign (bs ⟨#[c]⟩) = tOne c) := Lib.hid rfl
    go_enter Tryz.func91, Tryz.ntmps91
    go_wp2_with (go_at_call 122; refine (HC.out _).mono ?_; rintro e w' ⟨rfl, rfl⟩)
    go_ret
    exact ⟨ret_bool HA.out.symm, rfl⟩
  · have g1 : ((s.size : Int) == 1) = false := by simp; omega
    have HA : Hid (tSign (bs s) = false) := Lib.hid (by
      have h2 := bs_len s
      generalize bs s = l at *
      match l, h2 with
      | [], _ => rfl
      | [c], h2 => exact absurd h2.symm h1
      | _ :: _ :: _, _ => rfl)
    clear h1
    go_enter Tryz.func91, Tryz.ntmps91
    go_wp2
    go_ret
    exact ⟨ret_bool HA.out.symm, rfl⟩

open Go.RowKit Go.ChangeShapes Go.WideShapes
set_option maxHeartbeats 2000000 in
theorem kword_any (k : Int) (x : ByteArray) (o p : Int) (w : World) (hs : x.size ≤ 1000000) (hL : LaidT w) :
    Calls Tryz.prog 52 #[tokA k x o p] w (KeptPost (.string (strOf (wordS ⟨k, bs x, o⟩))) w) := by
  have H0 : Hid (Four (w.alloc (.cells #[.int .i64 k, .string x, .int .i64 o, .int .i64 p] 85)) w.heap.size (.int .i64 k) (.string x) (.int .i64 o) (.int .i64 p) ∧ Kept w (w.alloc (.cells #[.int .i64 k, .string x, .int .i64 o, .int .i64 p] 85)) ∧ LaidT (w.alloc (.cells #[.int .i64 k, .string x, .int .i64 o, .int .i64 p] 85))) := Lib.hid ⟨four_new _ _ _ _ _ _, Fr.of_alloc _ _ _, hL.kept (Fr.of_alloc _ _ _)⟩
  clear hL
  unfold tokA
  by_cases h1 : k = 1
  · subst h1
    go_enter Tryz.func52, Tryz.ntmps52
    go_wp2_with (go_at_call 89; refine (katom_any _ _ _ hs H0.out.2.2).mono ?_; rintro e w' ⟨rfl, rfl⟩)
    go_ret
    exact ⟨rfl, H0.out.2.1⟩
  · have k1 : (k == 1) = false := by simp [h1]
    by_cases h0 : o = 0
    · subst h0
      have HFW : Hid (bs x = [] → strOf (wordS ⟨k, bs x, 0⟩) = strOf (wordS ⟨k, [], 0⟩)) := Lib.hid (fun h => by rw [h])
      by_cases h8 : k = 8
      · subst h8
        cases hm : tNum (bs x)
        · have HC : Hid (∀ W, Calls Tryz.prog 90 #[.string x] W (KeptPost (.bool false) W)) := Lib.hid (fun W => by rw [← hm]; exact knum_any x W hs)
          by_cases hx : bs x = []
          · have hE : x.toList = [] := by rw [bs_toList]; exact hx
            have HA := Lib.hid (HFW.out hx)
            clear hx hm
            go_enter Tryz.func52, Tryz.ntmps52
            go_wp2_with fail
            refine (HC.out _).mono ?_
            rintro e w1 ⟨rfl, hk⟩
            have H2 : Hid (Four w1 w.heap.size (.int .i64 8) (.string x) (.int .i64 0) (.int .i64 p) ∧ Kept w w1 ∧ LaidT w1) := Lib.hid ⟨H0.out.1.kept hk, H0.out.2.1.trans hk, H0.out.2.2.kept hk⟩
            have c0 := H2.out.1.c0
            have c1 := H2.out.1.c1
            clear hk H0
            go_wp2_with (go_at_call 92; refine (kfixword_any _ _ H2.out.2.2).mono ?_; rintro e w' ⟨rfl, rfl⟩)
            go_ret
            exact ⟨ret_str HA.out.symm, H2.out.2.1⟩
          · have hE : ¬ x.toList = [] := by rw [bs_toList]; exact hx
            have hE2 : x.toList.isEmpty = false := by rw [bs_toList]; simpa using hx
            have hE3 : (x.toList == []) = false := by rw [bs_toList]; simpa using hx
            have HA : Hid (strOf (wordS ⟨8, bs x, 0⟩) = ⟨#[]⟩) := Lib.hid (by rw [word_8, if_neg (by simp [hm])]; rfl)
            clear hx hm
            go_enter Tryz.func52, Tryz.ntmps52
            go_wp2_with fail
            refine (HC.out _).mono ?_
            rintro e w1 ⟨rfl, hk⟩
            have H2 : Hid (Four w1 w.heap.size (.int .i64 8) (.string x) (.int .i64 0) (.int .i64 p) ∧ Kept w w1 ∧ LaidT w1) := Lib.hid ⟨H0.out.1.kept hk, H0.out.2.1.trans hk, H0.out.2.2.kept hk⟩
            have c0 := H2.out.1.c0
            have c1 := H2.out.1.c1
            clear hk H0
            go_wp2
            go_ret
            exact ⟨ret_str HA.out.symm, H2.out.2.1⟩
        · have HC : Hid (∀ W, Calls Tryz.prog 90 #[.string x] W (KeptPost (.bool true) W)) := Lib.hid (fun W => by rw [← hm]; exact knum_any x W hs)
          have HA : Hid (strOf (wordS ⟨8, bs x, 0⟩) = x) := Lib.hid (by rw [word_8, if_pos ⟨hm, rfl⟩, strOf_bs])
          clear hm
          go_enter Tryz.func52, Tryz.ntmps52
          go_wp2_with fail
          refine (HC.out _).mono ?_
          rintro e w1 ⟨rfl, hk⟩
          have H2 : Hid (Four w1 w.heap.size (.int .i64 8) (.string x) (.int .i64 0) (.int .i64 p) ∧ Kept w w1 ∧ LaidT w1) := Lib.hid ⟨H0.out.1.kept hk, H0.out.2.1.trans hk, H0.out.2.2.kept hk⟩
          have c0 := H2.out.1.c0
          have c1 := H2.out.1.c1
          clear hk H0
          go_wp2
          go_ret
          exact ⟨ret_str HA.out.symm, H2.out.2.1⟩
      · have k8 : (k == 8) = false := by simp [h8]
        by_cases h9 : k = 9
        · subst h9
          cases hm : tSign (bs x)
          · have HC : Hid (∀ W, Calls Tryz.prog 91 #[.string x] W (KeptPost (.bool false) W)) := Lib.hid (fun W => by rw [← hm]; exact (ksign_any x W).mono (fun e w1 h => ⟨h.1, h.2 ▸ Fr.refl _ _⟩))
            by_cases hx : bs x = []
            · have hE : x.toList = [] := by rw [bs_toList]; exact hx
              have HA := Lib.hid (HFW.out hx)
              clear hx hm
              go_enter Tryz.func52, Tryz.ntmps52
              go_wp2_with fail
              refine (HC.out _).mono ?_
              rintro e w1 ⟨rfl, hk⟩
              have H2 : Hid (Four w1 w.heap.size (.int .i64 9) (.string x) (.int .i64 0) (.int .i64 p) ∧ Kept w w1 ∧ LaidT w1) := Lib.hid ⟨H0.out.1.kept hk, H0.out.2.1.trans hk, H0.out.2.2.kept hk⟩
              have c0 := H2.out.1.c0
              have c1 := H2.out.1.c1
              clear hk H0
              go_wp2_with (go_at_call 92; refine (kfixword_any _ _ H2.out.2.2).mono ?_; rintro e w' ⟨rfl, rfl⟩)
              go_ret
              exact ⟨ret_str HA.out.symm, H2.out.2.1⟩
            · have hE : ¬ x.toList = [] := by rw [bs_toList]; exact hx
              have hE2 : x.toList.isEmpty = false := by rw [bs_toList]; simpa using hx
              have hE3 : (x.toList == []) = false := by rw [bs_toList]; simpa using hx
              have HA : Hid (strOf (wordS ⟨9, bs x, 0⟩) = ⟨#[]⟩) := Lib.hid (by rw [word_9, if_neg (by simp [hm])]; rfl)
              clear hx hm
              go_enter Tryz.func52, Tryz.ntmps52
              go_wp2_with fail
              refine (HC.out _).mono ?_
              rintro e w1 ⟨rfl, hk⟩
              have H2 : Hid (Four w1 w.heap.size (.int .i64 9) (.string x) (.int .i64 0) (.int .i64 p) ∧ Kept w w1 ∧ LaidT w1) := Lib.hid ⟨H0.out.1.kept hk, H0.out.2.1.trans hk, H0.out.2.2.kept hk⟩
              have c0 := H2.out.1.c0
              have c1 := H2.out.1.c1
              clear hk H0
              go_wp2
              go_ret
              exact ⟨ret_str HA.out.symm, H2.out.2.1⟩
          · have HC : Hid (∀ W, Calls Tryz.prog 91 #[.string x] W (KeptPost (.bool true) W)) := Lib.hid (fun W => by rw [← hm]; exact (ksign_any x W).mono (fun e w1 h => ⟨h.1, h.2 ▸ Fr.refl _ _⟩))
            have HA : Hid (strOf (wordS ⟨9, bs x, 0⟩) = x) := Lib.hid (by rw [word_9, if_pos ⟨hm, rfl⟩, strOf_bs])
            clear hm
            go_enter Tryz.func52, Tryz.ntmps52
            go_wp2_with fail
            refine (HC.out _).mono ?_
            rintro e w1 ⟨rfl, hk⟩
            have H2 : Hid (Four w1 w.heap.size (.int .i64 9) (.string x) (.int .i64 0) (.int .i64 p) ∧ Kept w w1 ∧ LaidT w1) := Lib.hid ⟨H0.out.1.kept hk, H0.out.2.1.trans hk, H0.out.2.2.kept hk⟩
            have c0 := H2.out.1.c0
            have c1 := H2.out.1.c1
            clear hk H0
            go_wp2
            go_ret
            exact ⟨ret_str HA.out.symm, H2.out.2.1⟩
        · have k9 : (k == 9) = false := by simp [h9]
          by_cases hx : bs x = []
          · have hE : x.toList = [] := by rw [bs_toList]; exact hx
            have HA := Lib.hid (HFW.out hx)
            have c0 := H0.out.1.c0
            clear hx h1 h8 h9
            go_enter Tryz.func52, Tryz.ntmps52
            go_wp2_with (go_at_call 92; refine (kfixword_any _ _ H0.out.2.2).mono ?_; rintro e w' ⟨rfl, rfl⟩)
            go_ret
            exact ⟨ret_str HA.out.symm, H0.out.2.1⟩
          · have hE : ¬ x.toList = [] := by rw [bs_toList]; exact hx
            have hE2 : x.toList.isEmpty = false := by rw [bs_toList]; simpa using hx
            have hE3 : (x.toList == []) = false := by rw [bs_toList]; simpa using hx
            have HA : Hid (strOf (wordS ⟨k, bs x, 0⟩) = ⟨#[]⟩) := Lib.hid (by rw [word_plain k (bs x) 0 h1 h8 h9, if_neg (by simp [hx])]; rfl)
            clear hx h1 h8 h9
            go_enter Tryz.func52, Tryz.ntmps52
            go_wp2
            go_ret
            exact ⟨ret_str HA.out.symm, H0.out.2.1⟩
    · have g0 : (o != 0) = true := by simp [h0]
      have HA : Hid (strOf (wordS ⟨k, bs x, o⟩) = ⟨#[]⟩) := Lib.hid (by
        by_cases h8 : k = 8
        · subst h8; rw [word_8, if_neg (by simp [h0])]; rfl
        by_cases h9 : k = 9
        · subst h9; rw [word_9, if_neg (by simp [h0])]; rfl
        rw [word_plain k (bs x) o h1 h8 h9, if_neg (by simp [h0])]; rfl)
      clear h1 h0
      go_enter Tryz.func52, Tryz.ntmps52
      go_wp2
      go_ret
      exact ⟨ret_str HA.out.symm, H0.out.2.1⟩

open Go.RowKit Go.ChangeShapes Go.WideShapes
theorem pk_hit {s : List UInt8} {k : Nat} (hk : k < 6) (e : tPre (k : Int) = s ++ [58]) : pkS s = k ∧ pkS s ≠ 0 := by
  have hd : s = (tPre (k : Int)).dropLast := by rw [e]; simp
  have hc : k = 0 ∨ k = 1 ∨ k = 2 ∨ k = 3 ∨ k = 4 ∨ k = 5 := by omega
  rcases hc with rfl | rfl | rfl | rfl | rfl | rfl
  · have := congrArg List.length e; simp [tPre] at this
  · rw [hd]; decide
  · rw [hd]; decide
  · have := congrArg List.length e; simp [tPre] at this
  · rw [hd]; decide
  · rw [hd]; decide
theorem pk_none {s : List UInt8} (h : ∀ j : Nat, j < 6 → tPre (j : Int) ≠ s ++ [58]) : pkS s = 0 := by
  unfold pkS
  rw [if_neg (fun e => h 1 (by decide) (by rw [e]; decide)), if_neg (fun e => h 2 (by decide) (by rw [e]; decide)), if_neg (fun e => h 4 (by decide) (by rw [e]; decide)), if_neg (fun e => h 5 (by decide) (by rw [e]; decide))]
/-- a token's result cell, not yet written -/
structure Res (w W : World) (g : Nat) : Prop where
  r : Four W g (.int .i64 0) (.string ⟨#[]⟩) (.int .i64 0) (.int .i64 0)
  kept : Kept w W
  laid : LaidT W
  n0 : w.heap.size ≤ g
theorem Res.later {w W W1 : World} {g : Nat} (h : Res w W g) (hk : Kept W W1) : Res w W1 g := ⟨h.r.kept hk, h.kept.trans hk, h.laid.kept hk, h.n0⟩
theorem res_new {w : World} (hL : LaidT w) : Res w (w.alloc (Obj.cells #[.int .i64 0, .string ⟨#[]⟩, .int .i64 0, .int .i64 0] 85)) w.heap.size := ⟨four_new _ _ _ _ _ _, Fr.of_alloc _ _ _, hL.kept (Fr.of_alloc _ _ _), Nat.le_refl _⟩
theorem results_one_cell {fn : Func} {p : Tmp} {ty : TypeId} (h : fn.results = #[.cell p ty]) (tmps : Array Value) (P : Program) (w : World) :
    (results fn tmps).run P w = ((asAddr (tmps.getD p undef)).run P w).andThen fun a w₁ => (loadVar ty a).run P w₁ := by
  simp only [results, h]
  simp [Sem.run_bind, Result.andThen]
theorem named_ret {W : World} {g : Nat} {a b c d : Value} {tmps : Array Value} (h : Four W g a b c d) (h4 : tmps.getD 4 undef = .pointer (some ⟨g, 0, none⟩)) :
    (results Tryz.f131 tmps).run Tryz.prog W = .ok (.agg #[a, b, c, d]) W := by
  have c0 := h.c0
  have c1 := h.c1
  have c2 := h.c2
  have c3 := h.c3
  rw [results_one_cell rfl, h4]
  go_simp
set_option maxHeartbeats 2000000 in
theorem knamed_any (n b : ByteArray) (w : World) (hn : n.size ≤ 1000000) (hb : b.size ≤ 1000000) (hL : LaidT w) :
    Calls Tryz.prog 131 #[.string n, .string b] w (KeptPost (tokV (namedS (bs n) (bs b)) 0) w) := by
  have H0 := Lib.hid (res_new hL)
  clear hL
  by_cases hk0 : fixK (bs n) = 0
  · have HF : Hid (∀ W, LaidT W → Calls Tryz.prog 119 #[.string n] W fun e w' => e = .returned (.int .i64 0) ∧ W = w') := Lib.hid (fun W h => by rw [← hk0]; exact kfixed_any n W h)
    have HV : Hid (namedS (bs n) (bs b) = if (bs b).head? = some 58 ∧ pkS (bs n) ≠ 0 then ⟨1, leadS ((bs b).drop 1), pkS (bs n)⟩ else ⟨1, bs n, 3⟩) := Lib.hid (by unfold namedS; rw [if_neg (by simp [hk0])])
    clear hk0
    cases hp : Lib.hasPrefix (bs b) [58]
    · have HC : Hid (∀ W, ∃ y : ByteArray, Calls Tryz.prog 152 #[.string b, .string ⟨#[58]⟩] W fun e w' => e = .returned (.tuple #[.string y, .bool false]) ∧ w' = W) := Lib.hid (fun W => ⟨_, by rw [← hp]; exact Any.strings_CutPrefix Tryz.cutPrefixL b ⟨#[58]⟩ W⟩)
      have HA : Hid (tokV (namedS (bs n) (bs b)) 0 = .agg #[.int .i64 1, .string n, .int .i64 3, .int .i64 0]) := Lib.hid (by
        rw [HV.out, if_neg]
        · unfold tokV; rw [strOf_bs]; rfl
        · rintro ⟨h1, _⟩
          cases hl : bs b with
          | nil => rw [hl] at h1; cases h1
          | cons c r =>
            rw [hl] at h1 hp
            have : c = 58 := by simpa using h1
            subst this
            exact absurd hp (by simp [Lib.hasPrefix]))
      clear hp
      go_enter Tryz.func131, Tryz.ntmps131
      go_wp2_with fail
      generalize w.alloc _ = w0 at H0 ⊢
      generalize w.heap.size = g0 at H0 ⊢
      refine (HF.out _ H0.out.laid).mono ?_
      rintro e w1 ⟨rfl, rfl⟩
      go_wp2_with fail
      obtain ⟨y, hy⟩ := HC.out w0
      refine hy.mono ?_
      clear hy
      rintro e w1 ⟨rfl, rfl⟩
      have r0 := H0.out.r.c0
      have r1 := H0.out.r.c1
      have r2 := H0.out.r.c2
      have r3 := H0.out.r.c3
      have f0 := H0.out.r.fz 0
      have f1 := H0.out.r.fz 1
      have f2 := H0.out.r.fz 2
      have f3 := H0.out.r.fz 3
      go_wp2
      clear r0 r1 r2 r3 f0 f1 f2 f3
      refine bodyPost_ret (named_ret H0.out.r.put rfl) rfl ⟨?_, put_kept H0.out.kept H0.out.n0⟩
      rw [HA.out]
    · obtain ⟨f, hf⟩ : ∃ f, bs b = 58 :: f := by
        unfold Lib.hasPrefix at hp
        obtain ⟨r, hr⟩ := List.isPrefixOf_iff_prefix.1 hp
        exact ⟨r, hr.symm⟩
      have HC : Hid (∀ W, Calls Tryz.prog 152 #[.string b, .string ⟨#[58]⟩] W fun e w' => e = .returned (.tuple #[.string (strOf f), .bool true]) ∧ w' = W) := Lib.hid (fun W => by
        have h1 := Any.strings_CutPrefix Tryz.cutPrefixL b ⟨#[58]⟩ W
        have h2 : Lib.trimPrefix b.data.toList [58] = f := by
          show Lib.trimPrefix (bs b) [58] = f
          unfold Lib.trimPrefix
          rw [if_pos hp, hf]; rfl
        refine h1.mono ?_
        rintro e w' ⟨rfl, rfl⟩
        refine ⟨?_, rfl⟩
        show Ending.returned (.tuple #[.string ⟨(Lib.trimPrefix b.data.toList [58]).toArray⟩, .bool (Lib.hasPrefix (bs b) [58])]) = _
        rw [h2, hp]; rfl)
      have hfs : (strOf f).size ≤ 1000000 := by
        rw [strOf_size]
        have := bs_len b
        rw [hf, List.length_cons] at this
        omega
      have HV2 : Hid (namedS (bs n) (bs b) = if pkS (bs n) ≠ 0 then ⟨1, leadS f, pkS (bs n)⟩ else ⟨1, bs n, 3⟩) := Lib.hid (by
        rw [HV.out, hf]
        by_cases hq : pkS (bs n) ≠ 0
        · rw [if_pos ⟨rfl, hq⟩, if_pos hq]; rfl
        · rw [if_neg (fun e => hq e.2), if_neg hq])
      have HLN : Hid (∀ W, Calls Tryz.prog 130 #[.string (strOf f)] W (KeptPost (.string (strOf (leadS f))) W)) := Lib.hid (fun W => by
        have := kname_any (strOf f) W hfs
        rwa [bs_strOf] at this)
      have hcat : ∀ W, (Op.stringOp .add n ⟨#[58]⟩).run Tryz.prog W = .ok (.string (n ++ ⟨#[58]⟩)) W := fun W => run_string_add_sum _ _ _ (by have h1 : (⟨#[58]⟩ : ByteArray).size = 1 := rfl; omega)
      have HY : Hid (bs (n ++ ⟨#[58]⟩) = bs n ++ [58]) := Lib.hid (by rw [bs_append]; rfl)
      generalize n ++ ⟨#[58]⟩ = y at hcat HY
      clear hp hf HV hfs
      go_enter Tryz.func131, Tryz.ntmps131
      go_wp2_with fail
      generalize w.alloc _ = w0 at H0 ⊢
      generalize w.heap.size = g0 at H0 ⊢
      refine (HF.out _ H0.out.laid).mono ?_
      rintro e w1 ⟨rfl, rfl⟩
      have p0 := H0.out.laid.pre 0 (by decide)
      have p1 := H0.out.laid.pre 1 (by decide)
      have p2 := H0.out.laid.pre 2 (by decide)
      have p3 := H0.out.laid.pre 3 (by decide)
      have p4 := H0.out.laid.pre 4 (by decide)
      have p5 := H0.out.laid.pre 5 (by decide)
      go_wp2_with (go_at_call 152; refine (HC.out _).mono ?_; rintro e w' ⟨rfl, rfl⟩)
      clear p0 p1 p2 p3 p4 p5
      go_loop [23] (fun i => ∃ k : Nat, k ≤ 6 ∧ i = .int .i64 k ∧ Hid (∀ j : Nat, j < k → tPre (j : Int) ≠ bs n ++ [58])) (fun i => 6 - (intOf i).toNat)
      case atStart => exact ⟨0, by omega, rfl, Lib.hid (fun j h => by omega)⟩
      case round =>
        obtain ⟨k, hk, rfl, hall⟩ := hrel
        by_cases hlt : k < 6
        · have hlti : (k : Int) < 6 := by omega
          have hidx := idx6 k hlt
          by_cases he : tPre (k : Int) = bs n ++ [58]
          · have HA : Hid (tokV (namedS (bs n) (bs b)) 0 = .agg #[.int .i64 1, .string (strOf (leadS f)), .int .i64 (k : Int), .int .i64 0]) := Lib.hid (by
              have hq := pk_hit hlt he
              rw [HV2.out, if_pos hq.2, hq.1]
              rfl)
            have hq : ((strOf (tPre (k : Int))).toList == y.toList) = true := by rw [bs_toList, bs_strOf, bs_toList, HY.out, he]; simp
            clear he
            generalize strOf (tPre (k : Int)) = x at *
            go_wp2_with fail
            refine (HLN.out _).mono ?_
            rintro e w1 ⟨rfl, hk1⟩
            have H1 := Lib.hid (H0.out.later hk1)
            clear hk1
            have r0 := H1.out.r.c0
            have r1 := H1.out.r.c1
            have r2 := H1.out.r.c2
            have r3 := H1.out.r.c3
            have f0 := H1.out.r.fz 0
            have f1 := H1.out.r.fz 1
            have f2 := H1.out.r.fz 2
            have f3 := H1.out.r.fz 3
            go_wp2
            clear r0 r1 r2 r3 f0 f1 f2 f3
            refine bodyPost_ret (named_ret H1.out.r.put rfl) rfl ⟨?_, put_kept H1.out.kept H1.out.n0⟩
            rw [HA.out]
          · have HA : Hid (∀ j : Nat, j < k + 1 → tPre (j : Int) ≠ bs n ++ [58]) := Lib.hid (fun j hj => by
              rcases Nat.lt_or_ge j k with h | h
              · exact hall.out j h
              · obtain rfl : j = k := by omega
                exact he)
            have hq : ((strOf (tPre (k : Int))).toList == y.toList) = false := by rw [bs_toList, bs_strOf, bs_toList, HY.out]; simpa using he
            clear he
            generalize strOf (tPre (k : Int)) = x at *
            go_wp2
            go_round
            case rel => exact ⟨k + 1, by omega, by go_num, HA⟩
            case measure => simp [intOf]; omega
        · have hlti : ¬ (k : Int) < 6 := by omega
          have HA : Hid (tokV (namedS (bs n) (bs b)) 0 = .agg #[.int .i64 1, .string n, .int .i64 3, .int .i64 0]) := Lib.hid (by
            have hq := pk_none (fun j hj => hall.out j (by omega))
            rw [HV2.out, if_neg (by simp [hq])]
            unfold tokV; rw [strOf_bs]; rfl)
          have r0 := H0.out.r.c0
          have r1 := H0.out.r.c1
          have r2 := H0.out.r.c2
          have r3 := H0.out.r.c3
          have f0 := H0.out.r.fz 0
          have f1 := H0.out.r.fz 1
          have f2 := H0.out.r.fz 2
          have f3 := H0.out.r.fz 3
          go_wp2
          clear r0 r1 r2 r3 f0 f1 f2 f3
          refine bodyPost_ret (named_ret H0.out.r.put rfl) rfl ⟨?_, put_kept H0.out.kept H0.out.n0⟩
          rw [HA.out]
  · have hkb : (fixK (bs n) != 0) = true := by simp [hk0]
    have HF : Hid (∀ W, LaidT W → Calls Tryz.prog 119 #[.string n] W fun e w' => e = .returned (.int .i64 (fixK (bs n))) ∧ W = w') := Lib.hid (fun W h => kfixed_any n W h)
    have HA : Hid (tokV (namedS (bs n) (bs b)) 0 = .agg #[.int .i64 (fixK (bs n)), .string ⟨#[]⟩, .int .i64 0, .int .i64 0]) := Lib.hid (by unfold namedS; rw [if_pos hk0]; rfl)
    clear hk0
    generalize fixK (bs n) = q at *
    go_enter Tryz.func131, Tryz.ntmps131
    go_wp2_with fail
    generalize w.alloc _ = w0 at H0 ⊢
    generalize w.heap.size = g0 at H0 ⊢
    refine (HF.out _ H0.out.laid).mono ?_
    rintro e w1 ⟨rfl, rfl⟩
    have r0 := H0.out.r.c0
    have r1 := H0.out.r.c1
    have r2 := H0.out.r.c2
    have r3 := H0.out.r.c3
    have f0 := H0.out.r.fz 0
    have f1 := H0.out.r.fz 1
    have f2 := H0.out.r.fz 2
    have f3 := H0.out.r.fz 3
    go_wp2
    clear r0 r1 r2 r3 f0 f1 f2 f3
    refine bodyPost_ret (named_ret H0.out.r.put rfl) rfl ⟨?_, put_kept H0.out.kept H0.out.n0⟩
    rw [HA.out]

open Go.RowKit Go.ChangeShapes Go.WideShapes
theorem first_ret {W : World} {g : Nat} {a b c d : Value} {tmps : Array Value} (h : Four W g a b c d) (h4 : tmps.getD 2 undef = .pointer (some ⟨g, 0, none⟩)) :
    (results Tryz.f102 tmps).run Tryz.prog W = .ok (.agg #[a, b, c, d]) W := by
  have c0 := h.c0
  have c1 := h.c1
  have c2 := h.c2
  have c3 := h.c3
  rw [results_one_cell rfl, h4]
  go_simp
theorem bs_from {s : ByteArray} {a : Nat} (h : a ≤ s.size) : bs (s.extract a s.size) = (bs s).drop a := by
  rw [bs_extract, List.take_of_length_le]
  rw [List.length_drop, bs_len]; exact Nat.le_refl _
theorem bs_to {s : ByteArray} {a : Nat} : bs (s.extract 0 a) = (bs s).take a := by
  rw [bs_extract]; simp
set_option maxHeartbeats 2000000 in
theorem kfirst_any (s : ByteArray) (w : World) (hs : s.size ≤ 1000000) (h0 : 0 < s.size) (hL : LaidT w) :
    Calls Tryz.prog 102 #[.string s] w (KeptPost (tokV (firstS (bs s)) 0) w) := by
  have H0 := Lib.hid (res_new hL)
  clear hL
  have hpl := (lead_prefix (bs s)).length_le
  rw [bs_len] at hpl
  have HN : Hid (∀ W, Calls Tryz.prog 130 #[.string s] W (KeptPost (.string (strOf (leadS (bs s)))) W)) := Lib.hid (fun W => kname_any s W hs)
  by_cases hl : leadS (bs s) = []
  · have hE : (strOf (leadS (bs s))).toList = [] := by rw [bs_toList, bs_strOf]; exact hl
    have hE1 : (strOf (leadS (bs s))).toList.isEmpty = true := by rw [hE]; rfl
    have hE2 : ((strOf (leadS (bs s))).toList == []) = true := by rw [hE]; rfl
    have HV : Hid (firstS (bs s) = _) := Lib.hid (by unfold firstS; rw [if_neg (by simp [hl])])
    have HD : Hid (∀ W, Calls Tryz.prog 120 #[.string s, .func (.func 121) #[] #[]] W (KeptPost (.int .i64 (((bs s).takeWhile tDig).length : Nat)) W)) :=
      Lib.hid (fun W => klead_any 121 rDig tDig (fun args w => by kernel_rfl) kdig_any dig_byte (fun r h => rdig_far h) s W hs)
    clear hl hpl
    generalize strOf (leadS (bs s)) = nm at *
    by_cases hd : (bs s).takeWhile tDig = []
    · have HV2 : Hid (firstS (bs s) = if (bs s).take 1 = [68] then ⟨1, [68], 0⟩ else if fixK ((bs s).take 1) ≠ 0 then ⟨fixK ((bs s).take 1), [], 0⟩ else ⟨9, (bs s).take 1, 0⟩) := Lib.hid (by rw [HV.out, if_neg (by simp [hd])])
      rw [hd] at HD
      clear hd HV
      have h1i : (1 : Int) ≤ (s.size : Int) := by omega
      have HB : Hid (bs (s.extract 0 1) = (bs s).take 1) := Lib.hid bs_to
      rw [← HB.out] at HV2
      generalize hy : s.extract 0 1 = y at *
      have HY := Lib.hid hy
      clear hy HB
      by_cases e68 : bs y = [68]
      · have q68 : (y.toList == [68]) = true := str_yes e68
        have HA : Hid (tokV (firstS (bs s)) 0 = .agg #[.int .i64 1, .string y, .int .i64 0, .int .i64 0]) := Lib.hid (by
          rw [HV2.out, if_pos e68]; unfold tokV; rw [← e68, strOf_bs]; rfl)
        clear e68 HV2
        go_enter Tryz.func102, Tryz.ntmps102
        go_wp2_with fail
        generalize w.alloc _ = w0 at H0 ⊢
        generalize w.heap.size = g0 at H0 ⊢
        refine (HN.out _).mono ?_
        rintro e w1 ⟨rfl, hk1⟩
        have H1 := Lib.hid (H0.out.later hk1)
        clear hk1
        go_wp2_with fail
        refine (HD.out _).mono ?_
        rintro e w2 ⟨rfl, hk2⟩
        have H2 := Lib.hid (H1.out.later hk2)
        clear hk2
        have r0 := H2.out.r.c0
        have r1 := H2.out.r.c1
        have r2 := H2.out.r.c2
        have r3 := H2.out.r.c3
        have f0 := H2.out.r.fz 0
        have f1 := H2.out.r.fz 1
        have f2 := H2.out.r.fz 2
        have f3 := H2.out.r.fz 3
        have HYY := HY.out
        go_wp2
        clear r0 r1 r2 r3 f0 f1 f2 f3
        refine bodyPost_ret (first_ret H2.out.r.put rfl) rfl ⟨?_, put_kept H2.out.kept H2.out.n0⟩
        rw [HA.out]
      · have q68 : (y.toList == [68]) = false := str_no e68
        by_cases hf : fixK (bs y) = 0
        · have HA : Hid (tokV (firstS (bs s)) 0 = .agg #[.int .i64 9, .string y, .int .i64 0, .int .i64 0]) := Lib.hid (by
            rw [HV2.out, if_neg e68, if_neg (by simp [hf])]; unfold tokV; rw [strOf_bs]; rfl)
          have HF : Hid (∀ W, LaidT W → Calls Tryz.prog 119 #[.string y] W fun e w' => e = .returned (.int .i64 0) ∧ W = w') := Lib.hid (fun W h => by rw [← hf]; exact kfixed_any y W h)
          clear e68 HV2 hf
          go_enter Tryz.func102, Tryz.ntmps102
          go_wp2_with fail
          generalize w.alloc _ = w0 at H0 ⊢
          generalize w.heap.size = g0 at H0 ⊢
          refine (HN.out _).mono ?_
          rintro e w1 ⟨rfl, hk1⟩
          have H1 := Lib.hid (H0.out.later hk1)
          clear hk1
          go_wp2_with fail
          refine (HD.out _).mono ?_
          rintro e w2 ⟨rfl, hk2⟩
          have H2 := Lib.hid (H1.out.later hk2)
          clear hk2
          have HYY := HY.out
          go_wp2_with fail
          refine (HF.out _ H2.out.laid).mono ?_
          rintro e w3 ⟨rfl, rfl⟩
          have r0 := H2.out.r.c0
          have r1 := H2.out.r.c1
          have r2 := H2.out.r.c2
          have r3 := H2.out.r.c3
          have f0 := H2.out.r.fz 0
          have f1 := H2.out.r.fz 1
          have f2 := H2.out.r.fz 2
          have f3 := H2.out.r.fz 3
          go_wp2
          clear r0 r1 r2 r3 f0 f1 f2 f3
          refine bodyPost_ret (first_ret H2.out.r.put rfl) rfl ⟨?_, put_kept H2.out.kept H2.out.n0⟩
          rw [HA.out]
        · have HA : Hid (tokV (firstS (bs s)) 0 = .agg #[.int .i64 (fixK (bs y)), .string ⟨#[]⟩, .int .i64 0, .int .i64 0]) := Lib.hid (by
            rw [HV2.out, if_neg e68, if_pos hf]; rfl)
          have HF : Hid (∀ W, LaidT W → Calls Tryz.prog 119 #[.string y] W fun e w' => e = .returned (.int .i64 (fixK (bs y))) ∧ W = w') := Lib.hid (fun W h => kfixed_any y W h)
          have hfb : (fixK (bs y) != 0) = true := by simp [hf]
          clear e68 HV2 hf
          generalize fixK (bs y) = q at *
          go_enter Tryz.func102, Tryz.ntmps102
          go_wp2_with fail
          generalize w.alloc _ = w0 at H0 ⊢
          generalize w.heap.size = g0 at H0 ⊢
          refine (HN.out _).mono ?_
          rintro e w1 ⟨rfl, hk1⟩
          have H1 := Lib.hid (H0.out.later hk1)
          clear hk1
          go_wp2_with fail
          refine (HD.out _).mono ?_
          rintro e w2 ⟨rfl, hk2⟩
          have H2 := Lib.hid (H1.out.later hk2)
          clear hk2
          have HYY := HY.out
          go_wp2_with fail
          refine (HF.out _ H2.out.laid).mono ?_
          rintro e w3 ⟨rfl, rfl⟩
          have r0 := H2.out.r.c0
          have r1 := H2.out.r.c1
          have r2 := H2.out.r.c2
          have r3 := H2.out.r.c3
          have f0 := H2.out.r.fz 0
          have f1 := H2.out.r.fz 1
          have f2 := H2.out.r.fz 2
          have f3 := H2.out.r.fz 3
          go_wp2
          clear r0 r1 r2 r3 f0 f1 f2 f3
          refine bodyPost_ret (first_ret H2.out.r.put rfl) rfl ⟨?_, put_kept H2.out.kept H2.out.n0⟩
          rw [HA.out]
    · have hn0 : 0 < ((bs s).takeWhile tDig).length := List.length_pos_iff.2 hd
      have hn1 : ((bs s).takeWhile tDig).length ≤ s.size := by
        have := (List.takeWhile_prefix (l := bs s) tDig).length_le
        rwa [bs_len] at this
      have HX : Hid (strOf ((bs s).takeWhile tDig) = s.extract 0 ((bs s).takeWhile tDig).length) := Lib.hid (bs_inj (by
        rw [bs_strOf, bs_to]
        exact List.prefix_iff_eq_take.1 (List.takeWhile_prefix tDig)))
      have HA : Hid (tokV (firstS (bs s)) 0 = .agg #[.int .i64 8, .string (s.extract 0 ((bs s).takeWhile tDig).length), .int .i64 0, .int .i64 0]) := Lib.hid (by
        rw [HV.out, if_pos (by simpa using hd)]; unfold tokV; simp only; rw [HX.out]; rfl)
      clear hd HV HX
      generalize ((bs s).takeWhile tDig).length = m at *
      have hni : (0 : Int) < (m : Int) := by omega
      have hnl : (m : Int) ≤ (s.size : Int) := by omega
      go_enter Tryz.func102, Tryz.ntmps102
      go_wp2_with fail
      generalize w.alloc _ = w0 at H0 ⊢
      generalize w.heap.size = g0 at H0 ⊢
      refine (HN.out _).mono ?_
      rintro e w1 ⟨rfl, hk1⟩
      have H1 := Lib.hid (H0.out.later hk1)
      clear hk1
      go_wp2_with fail
      refine (HD.out _).mono ?_
      rintro e w2 ⟨rfl, hk2⟩
      have H2 := Lib.hid (H1.out.later hk2)
      clear hk2
      have r0 := H2.out.r.c0
      have r1 := H2.out.r.c1
      have r2 := H2.out.r.c2
      have r3 := H2.out.r.c3
      have f0 := H2.out.r.fz 0
      have f1 := H2.out.r.fz 1
      have f2 := H2.out.r.fz 2
      have f3 := H2.out.r.fz 3
      go_wp2
      clear r0 r1 r2 r3 f0 f1 f2 f3
      refine bodyPost_ret (first_ret H2.out.r.put rfl) rfl ⟨?_, put_kept H2.out.kept H2.out.n0⟩
      rw [HA.out]
  · have hE : ¬ (strOf (leadS (bs s))).toList = [] := by rw [bs_toList, bs_strOf]; exact hl
    have hE1 : (strOf (leadS (bs s))).toList.isEmpty = false := by rw [bs_toList, bs_strOf]; simpa using hl
    have hE2 : ((strOf (leadS (bs s))).toList == []) = false := by rw [bs_toList, bs_strOf]; simpa using hl
    have hsz : (strOf (leadS (bs s))).size = (leadS (bs s)).length := strOf_size _
    have HNM : Hid (∀ W, LaidT W → Calls Tryz.prog 131 #[.string (strOf (leadS (bs s))), .string (s.extract (strOf (leadS (bs s))).size s.size)] W (KeptPost (tokV (firstS (bs s)) 0) W)) := Lib.hid (fun W hW => by
      have h1 := knamed_any (strOf (leadS (bs s))) (s.extract (strOf (leadS (bs s))).size s.size) W (by omega) (by rw [ByteArray.size_extract]; omega) hW
      rw [bs_strOf, bs_from (by omega), hsz] at h1
      have e : firstS (bs s) = namedS (leadS (bs s)) ((bs s).drop (leadS (bs s)).length) := by unfold firstS; rw [if_pos (by simpa using hl)]
      rw [e, hsz]
      exact h1)
    have hle : ((strOf (leadS (bs s))).size : Int) ≤ (s.size : Int) := by omega
    clear hl hpl hsz
    generalize strOf (leadS (bs s)) = nm at *
    unfold tokV at *
    generalize firstS (bs s) = t at *
    go_enter Tryz.func102, Tryz.ntmps102
    go_wp2_with fail
    generalize w.alloc _ = w0 at H0 ⊢
    generalize w.heap.size = g0 at H0 ⊢
    refine (HN.out _).mono ?_
    rintro e w1 ⟨rfl, hk1⟩
    have H1 := Lib.hid (H0.out.later hk1)
    clear hk1
    go_wp2_with fail
    refine (HNM.out _ H1.out.laid).mono ?_
    rintro e w2 ⟨rfl, hk2⟩
    have H2 := Lib.hid (H1.out.later hk2)
    clear hk2
    have r0 := H2.out.r.c0
    have r1 := H2.out.r.c1
    have r2 := H2.out.r.c2
    have r3 := H2.out.r.c3
    have f0 := H2.out.r.fz 0
    have f1 := H2.out.r.fz 1
    have f2 := H2.out.r.fz 2
    have f3 := H2.out.r.fz 3
    go_wp2
    clear r0 r1 r2 r3 f0 f1 f2 f3
    exact bodyPost_ret (first_ret H2.out.r.put rfl) rfl ⟨rfl, put_kept H2.out.kept H2.out.n0⟩

open Go.RowKit Go.ChangeShapes Go.WideShapes
theorem first_name (l : List UInt8) : (firstS l).name.length ≤ l.length + 1 := by
  have h1 := (lead_prefix l).length_le
  have h2 := (List.takeWhile_prefix (l := l) tDig).length_le
  have h3 := (lead_prefix ((l.drop (leadS l).length).drop 1)).length_le
  unfold firstS
  split
  · unfold namedS
    split
    · simp
    · split
      · simp only [List.length_drop] at h3 ⊢; omega
      · simp only; omega
  · split
    · simp only; omega
    · split
      · simp
      · split
        · simp
        · simp only [List.length_take]; omega
/-- the tokens up to a place, behind what is passed over -/
def AllAt (s : ByteArray) (k : Nat) (toks : List (Tok × Nat)) : Prop := ∃ nt, AllTo s k nt toks ∧ ∀ c, ((bs s).drop k).head? = some c → passB nt c = false
theorem AllTo.bl {s : ByteArray} {k : Nat} {nt : Bool} {toks : List (Tok × Nat)} (h : AllTo s k nt toks) : AllAt s (k + blS nt ((bs s).drop k)) toks := by
  obtain ⟨nt', h1, h2⟩ := go_bl ((bs s).drop k) nt k toks.length
  rw [List.drop_drop] at h1 h2
  refine ⟨nt', ?_, h2⟩
  unfold AllTo at h ⊢
  rw [h, h1]
theorem AllAt.to {s : ByteArray} {k : Nat} {toks : List (Tok × Nat)} (h : AllAt s k toks) (hk : k < s.size) : AllTo s k false toks ∧ passB false (s.get! k) = false := by
  obtain ⟨nt, h1, h2⟩ := h
  have h3 := h2 (s.get! k) (by rw [drop_at hk]; rfl)
  obtain ⟨h4, rfl⟩ := pass_false (by rw [h3]; decide)
  exact ⟨h1, h4⟩
theorem AllAt.done {s : ByteArray} {k : Nat} {toks : List (Tok × Nat)} (h : AllAt s k toks) (hk : ¬ k < s.size) (h4 : s.size ≤ 4000) : allS (bs s) = .ok toks := by
  obtain ⟨nt, h1, _⟩ := h
  exact h1.done hk h4
theorem word_in (l : List UInt8) : (wordS (firstS l)).length ≤ l.length := by
  by_cases h : wordS (firstS l) = []
  · rw [h]; simp
  · have := congrArg List.length (first_pre h)
    rw [List.length_append] at this
    omega
theorem sign_no {l : List UInt8} (h : wordS (firstS l) = [] ∨ (sepB (firstS l) = true ∧ tFine (l.drop (wordS (firstS l)).length) = false)) : signS l = none := by rw [sign_first, if_pos h]
theorem sign_yes {l : List UInt8} (h1 : wordS (firstS l) ≠ []) (h2 : sepB (firstS l) = true → tFine (l.drop (wordS (firstS l)).length) = true) : signS l = some (firstS l, (wordS (firstS l)).length) := by
  rw [sign_first, if_neg]
  rintro (h | ⟨h3, h4⟩)
  · exact h1 h
  · rw [h2 h3] at h4; cases h4
set_option maxHeartbeats 4000000 in
theorem kall_any (s : ByteArray) (w : World) (hs : s.size ≤ 1000000) (hL : LaidT w) : Calls Tryz.prog 61 #[.string s] w (AllPost (bs s) w) := by
  by_cases h4 : s.size ≤ 4000
  · have h4i : ¬ (4000 : Int) < s.size := by omega
    have HB0 : Hid (∀ W, Calls Tryz.prog 101 #[.string s] W (KeptPost (.int .i64 (blS false (bs s) : Nat)) W)) := Lib.hid (fun W => kblanks_any s W hs)
    have HA0 : Hid (AllAt s (blS false (bs s)) []) := Lib.hid (by have := (AllTo.first s).bl; simpa using this)
    have hb0 : blS false (bs s) ≤ s.size := by have := bl_le (bs s) false; rwa [bs_len] at this
    have HL := Lib.hid hL
    clear hL
    generalize blS false (bs s) = k0 at *
    go_enter Tryz.func61, Tryz.ntmps61
    go_wp2_with fail
    refine (HB0.out _).mono ?_
    rintro e w1 ⟨rfl, hk1⟩
    have H0 : Hid (AllPart w w1 [] (.slice none 0 0) ∧ LaidT w1) := Lib.hid ⟨⟨own_nil _ _ _ _, hk1⟩, HL.out.kept hk1⟩
    clear hk1 HB0
    go_wp2
    go_loopw [5, 6] (fun v i wr => ∃ (k : Nat) (toks : List (Tok × Nat)) (n : Nat), i = .int .i64 k ∧ toks.length = n ∧ n ≤ 1000 ∧ k ≤ s.size ∧ Hid (AllAt s k toks) ∧ Hid (AllPart w wr toks v ∧ LaidT wr)) (fun _ i _ => s.size - (intOf i).toNat)
    case atStart => exact ⟨k0, [], 0, rfl, rfl, by omega, hb0, HA0, H0⟩
    case round =>
      obtain ⟨k, toks, n, rfl, hn, hn1, hk, hto, hp⟩ := hrel
      clear H0 HA0 hb0
      obtain ⟨bo, d, hv, hd⟩ := own_slice hp.out.1.1
      rw [hn] at hv hd
      subst hv
      have HNL := Lib.hid hn
      clear hn
      by_cases hlt : k < s.size
      · have hlti : (k : Int) < s.size := by omega
        have hle : (k : Int) ≤ s.size := by omega
        have HTO := Lib.hid (hto.out.to hlt)
        have hbk : bs (s.extract k s.size) = (bs s).drop k := bs_from (by omega)
        have hxs : (s.extract k s.size).size = s.size - k := by rw [ByteArray.size_extract]; omega
        have HF : Hid (∀ W, LaidT W → Calls Tryz.prog 102 #[.string (s.extract k s.size)] W (KeptPost (tokV (firstS ((bs s).drop k)) 0) W)) := Lib.hid (fun W hW => by
          rw [← hbk]
          exact kfirst_any _ W (by omega) (by omega) hW)
        have hwi := word_in ((bs s).drop k)
        have hfn := first_name ((bs s).drop k)
        rw [List.length_drop, bs_len] at hwi hfn
        have HW : Hid (∀ W, LaidT W → Calls Tryz.prog 52 #[tokV (firstS ((bs s).drop k)) 0] W (KeptPost (.string (strOf (wordS (firstS ((bs s).drop k))))) W)) := Lib.hid (fun W hW => by
          have := kword_any (firstS ((bs s).drop k)).kind (strOf (firstS ((bs s).drop k)).name) (firstS ((bs s).drop k)).of 0 W (by rw [strOf_size]; omega) hW
          rw [bs_strOf] at this
          exact this)
        have HNO : Hid (_ → signS ((bs s).drop k) = none) := Lib.hid (sign_no (l := (bs s).drop k))
        have HYE : Hid (_ → _ → signS ((bs s).drop k) = some (firstS ((bs s).drop k), (wordS (firstS ((bs s).drop k))).length)) := Lib.hid (sign_yes (l := (bs s).drop k))
        have HST : Hid (∀ W, Calls Tryz.prog 104 #[.string (s.extract (k + (wordS (firstS ((bs s).drop k))).length) s.size)] W (KeptPost (.bool (!tFine (((bs s).drop k).drop (wordS (firstS ((bs s).drop k))).length))) W)) := Lib.hid (fun W => by
          have := ksticks_any (s.extract (k + (wordS (firstS ((bs s).drop k))).length) s.size) W (by rw [ByteArray.size_extract]; omega)
          rw [bs_from (by omega)] at this
          rw [List.drop_drop]
          exact this)
        have HBL : Hid (∀ W, Calls Tryz.prog 101 #[.string (s.extract (k + (wordS (firstS ((bs s).drop k))).length) s.size)] W (KeptPost (.int .i64 (blS false ((bs s).drop (k + (wordS (firstS ((bs s).drop k))).length)) : Nat)) W)) := Lib.hid (fun W => by
          have := kblanks_any (s.extract (k + (wordS (firstS ((bs s).drop k))).length) s.size) W (by rw [ByteArray.size_extract]; omega)
          rwa [bs_from (by omega)] at this)
        have hsep : sepB (firstS ((bs s).drop k)) = tightB (firstS ((bs s).drop k)).kind := rfl
        have hws : (strOf (wordS (firstS ((bs s).drop k)))).size = (wordS (firstS ((bs s).drop k))).length := strOf_size _
        have hbl2 := bl_le ((bs s).drop (k + (wordS (firstS ((bs s).drop k))).length)) false
        rw [List.length_drop, bs_len] at hbl2
        rw [hsep] at HNO HYE
        have HE1 : Hid (wordS (firstS ((bs s).drop k)) = [] → (strOf (wordS (firstS ((bs s).drop k)))).toList = []) := Lib.hid (fun h => by rw [bs_toList, bs_strOf, h])
        have HE2 : Hid (wordS (firstS ((bs s).drop k)) ≠ [] → ¬ (strOf (wordS (firstS ((bs s).drop k)))).toList = []) := Lib.hid (fun h => by rw [bs_toList, bs_strOf]; exact h)
        have HBT : Hid (AllTo s (k + (wordS (firstS ((bs s).drop k))).length) false (toks ++ [(firstS ((bs s).drop k), k)]) → AllAt s (k + (wordS (firstS ((bs s).drop k))).length + blS false ((bs s).drop (k + (wordS (firstS ((bs s).drop k))).length))) (toks ++ [(firstS ((bs s).drop k), k)])) := Lib.hid (fun h => h.bl)
        clear hbk hxs hsep hfn
        generalize blS false ((bs s).drop (k + (wordS (firstS ((bs s).drop k))).length)) = bn at *
        generalize wordS (firstS ((bs s).drop k)) = wd at *
        generalize firstS ((bs s).drop k) = t at *
        go_wp2_with fail
        refine (HF.out _ hp.out.2).mono ?_
        rintro e w2 ⟨rfl, hk2⟩
        have H2 : Hid (AllPart w w2 toks (.slice bo n d) ∧ LaidT w2) := Lib.hid ⟨hp.out.1.kept hk2, hp.out.2.kept hk2⟩
        clear hk2
        unfold tokV at *
        have H3 : Hid (Kept w2 (w2.alloc (.cells #[.int .i64 t.kind, .string (strOf t.name), .int .i64 t.of, .int .i64 0] 85)) ∧ LaidT (w2.alloc (.cells #[.int .i64 t.kind, .string (strOf t.name), .int .i64 t.of, .int .i64 0] 85)) ∧ Four (w2.alloc (.cells #[.int .i64 t.kind, .string (strOf t.name), .int .i64 t.of, .int .i64 0] 85)) w2.heap.size (.int .i64 t.kind) (.string (strOf t.name)) (.int .i64 t.of) (.int .i64 0)) := Lib.hid ⟨Fr.of_alloc _ _ _, H2.out.2.kept (Fr.of_alloc _ _ _), four_new _ _ _ _ _ _⟩
        go_wp2_with fail
        generalize hg : w2.heap.size = g at H3 ⊢
        have HG := Lib.hid hg
        clear hg
        generalize w2.alloc _ = w3 at H3 ⊢
        refine (HW.out _ H3.out.2.1).mono ?_
        rintro e w4 ⟨rfl, hk4⟩
        have H4 : Hid (Kept w2 w4 ∧ LaidT w4 ∧ Four w4 g (.int .i64 t.kind) (.string (strOf t.name)) (.int .i64 t.of) (.int .i64 0)) := Lib.hid ⟨H3.out.1.trans hk4, H3.out.2.1.kept hk4, H3.out.2.2.kept hk4⟩
        clear hk4 H3 HF HW
        have c0 := H4.out.2.2.c0
        have hki : (k : Int) + (wd.length : Int) ≤ (s.size : Int) := by omega
        have hki0 : (0 : Int) ≤ (k : Int) + (wd.length : Int) := by omega
        have hkn : ((k : Int) + (wd.length : Int)).toNat = k + wd.length := by omega
        by_cases hwd : wd = []
        · have q1 := HE1.out hwd
          have q2 : (strOf wd).toList.isEmpty = true := by rw [q1]; rfl
          have q3 : ((strOf wd).toList == []) = true := by rw [q1]; rfl
          have HA := Lib.hid (HTO.out.1.none hlt h4 HTO.out.2 (HNO.out (.inl hwd)))
          clear hwd HNO HYE HE1 HE2 HBT HST HBL
          go_wp2
          go_ret3
          exact all_error HA.out rfl (H2.out.1.2.trans H4.out.1)
        · have q1 := HE2.out hwd
          have q2 : (strOf wd).toList.isEmpty = false := by simpa using q1
          have q3 : ((strOf wd).toList == []) = false := by simpa using q1
          cases ht : tightB t.kind
          · clear HST
            have HS := Lib.hid (HYE.out hwd (fun e => by rw [ht] at e; cases e))
            clear HNO HYE HE1 HE2
            by_cases h1000 : n = 1000
            · have HA := Lib.hid (HTO.out.1.full hlt h4 HTO.out.2 HS.out (by rw [HNL.out]; exact h1000))
              have gn : ((n : Int) == 1000) = true := by subst h1000; rfl
              clear hwd h1000 HBT HBL
              go_wp2_with (go_at_call 103; refine (ktight_any _ _).mono ?_; rintro e w' ⟨rfl, rfl⟩; rw [ht])
              go_ret3
              exact all_error HA.out rfl (H2.out.1.2.trans H4.out.1)
            · have hO := HTO.out.1.one hlt HTO.out.2 HS.out (by rw [HNL.out]; exact h1000)
              have HBT2 := Lib.hid (HBT.out hO.1)
              have hj1 := hO.2.1
              have hj2 := hO.2.2
              have gn : ((n : Int) == 1000) = false := by rw [beq_eq_false_iff_ne]; omega
              have hn999 : n + 1 ≤ 1000 := by omega
              clear hwd h1000 HBT hO
              have H6 : Hid (AllPart w (w4.setCell ⟨g, 3, none⟩ (.int .i64 (k : Int))) toks (.slice bo n d)) := Lib.hid (H2.out.1.kept (one_kept H4.out.1 (by rw [HG.out]; exact Nat.le_refl _)))
              have HSR : Hid (Src Tryz.prog 4 104 (.slice (some ⟨w4.heap.size, 0, none⟩) 1 1) 1 [.int .i64 t.kind, .string (strOf t.name), .int .i64 t.of, .int .i64 (k : Int)] ((w4.setCell ⟨g, 3, none⟩ (.int .i64 (k : Int))).alloc (.cells #[.int .i64 t.kind, .string (strOf t.name), .int .i64 t.of, .int .i64 (k : Int)] 85))) := Lib.hid (src_four Tryz.underlying104 (by have := heap_alloc_new (w4.setCell ⟨g, 3, none⟩ (.int .i64 (k : Int))) (.cells #[.int .i64 t.kind, .string (strOf t.name), .int .i64 t.of, .int .i64 (k : Int)] 85); rwa [show (w4.setCell ⟨g, 3, none⟩ (.int .i64 (k : Int))).heap.size = w4.heap.size from by simp [World.setCell]] at this) rfl rfl rfl rfl)
              have d0 := H4.out.2.2.c0
              have d1 := H4.out.2.2.c1
              have d2 := H4.out.2.2.c2
              have d3 := H4.out.2.2.c3
              have f3 := H4.out.2.2.fz 3
              go_wp2_with (first | (go_at_call 103; refine (ktight_any _ _).mono ?_; rintro e w' ⟨rfl, rfl⟩; rw [ht]) | (at_builtin; refine list_app rfl (.tmp 49) (.tmp 51) 104 104 rfl Tryz.slice104 rfl (by exact own_kept H6.out.1 (Fr.of_alloc _ _ _)) rfl (by exact HSR.out) (by rw [HNL.out]; unfold maxLen; omega) (by rw [HNL.out]; omega) (by have := H6.out.2.size; simp at this ⊢; omega) ?_; intro v2 w7 hq; have H7 := Lib.hid (AllPart.step ⟨own_kept H6.out.1 (Fr.of_alloc _ _ _), H6.out.2.trans (Fr.of_alloc _ _ _)⟩ hq); clear hq))
              refine (HBL.out _).mono ?_
              rintro e w8 ⟨rfl, hk8⟩
              have H8 := Lib.hid (H7.out.kept hk8)
              have HL8 := Lib.hid (HL.out.kept H8.out.2)
              clear hk8
              go_wp2
              go_roundw
              case rel => exact ⟨k + wd.length + bn, toks ++ [(t, k)], n + 1, by go_num, by simp [HNL.out], hn999, by omega, HBT2, Lib.hid ⟨H8.out, HL8.out⟩⟩
              case measure => simp [intOf]; omega
          · cases hf : tFine (((bs s).drop k).drop wd.length)
            · have HA := Lib.hid (HTO.out.1.none hlt h4 HTO.out.2 (HNO.out (.inr ⟨ht, hf⟩)))
              clear hwd HNO HYE HE1 HE2 HBT HBL
              go_wp2_with (go_at_call 103; refine (ktight_any _ _).mono ?_; rintro e w' ⟨rfl, rfl⟩; rw [ht])
              refine (HST.out _).mono ?_
              rintro e w5 ⟨rfl, hk5⟩
              rw [hf]
              have H5 : Hid (Kept w2 w5 ∧ LaidT w5 ∧ Four w5 g (.int .i64 t.kind) (.string (strOf t.name)) (.int .i64 t.of) (.int .i64 0)) := Lib.hid ⟨H4.out.1.trans hk5, H4.out.2.1.kept hk5, H4.out.2.2.kept hk5⟩
              clear hk5
              go_wp2
              go_ret3
              exact all_error HA.out rfl (H2.out.1.2.trans H5.out.1)
            · have HS := Lib.hid (HYE.out hwd (fun _ => hf))
              clear HNO HYE HE1 HE2
              by_cases h1000 : n = 1000
              · have HA := Lib.hid (HTO.out.1.full hlt h4 HTO.out.2 HS.out (by rw [HNL.out]; exact h1000))
                have gn : ((n : Int) == 1000) = true := by subst h1000; rfl
                clear hwd h1000 HBT HBL
                go_wp2_with (go_at_call 103; refine (ktight_any _ _).mono ?_; rintro e w' ⟨rfl, rfl⟩; rw [ht])
                refine (HST.out _).mono ?_
                rintro e w5 ⟨rfl, hk5⟩
                rw [hf]
                have H5 : Hid (Kept w2 w5 ∧ LaidT w5 ∧ Four w5 g (.int .i64 t.kind) (.string (strOf t.name)) (.int .i64 t.of) (.int .i64 0)) := Lib.hid ⟨H4.out.1.trans hk5, H4.out.2.1.kept hk5, H4.out.2.2.kept hk5⟩
                clear hk5
                go_wp2_with fail
                go_ret3
                exact all_error HA.out rfl (H2.out.1.2.trans H5.out.1)
              · have hO := HTO.out.1.one hlt HTO.out.2 HS.out (by rw [HNL.out]; exact h1000)
                have HBT2 := Lib.hid (HBT.out hO.1)
                have hj1 := hO.2.1
                have hj2 := hO.2.2
                have gn : ((n : Int) == 1000) = false := by rw [beq_eq_false_iff_ne]; omega
                have hn999 : n + 1 ≤ 1000 := by omega
                clear hwd h1000 HBT hO
                go_wp2_with (go_at_call 103; refine (ktight_any _ _).mono ?_; rintro e w' ⟨rfl, rfl⟩; rw [ht])
                refine (HST.out _).mono ?_
                rintro e w5 ⟨rfl, hk5⟩
                rw [hf]
                have H5 : Hid (Kept w2 w5 ∧ LaidT w5 ∧ Four w5 g (.int .i64 t.kind) (.string (strOf t.name)) (.int .i64 t.of) (.int .i64 0)) := Lib.hid ⟨H4.out.1.trans hk5, H4.out.2.1.kept hk5, H4.out.2.2.kept hk5⟩
                clear hk5
                have H6 : Hid (AllPart w (w5.setCell ⟨g, 3, none⟩ (.int .i64 (k : Int))) toks (.slice bo n d)) := Lib.hid (H2.out.1.kept (one_kept H5.out.1 (by rw [HG.out]; exact Nat.le_refl _)))
                have HSR : Hid (Src Tryz.prog 4 104 (.slice (some ⟨w5.heap.size, 0, none⟩) 1 1) 1 [.int .i64 t.kind, .string (strOf t.name), .int .i64 t.of, .int .i64 (k : Int)] ((w5.setCell ⟨g, 3, none⟩ (.int .i64 (k : Int))).alloc (.cells #[.int .i64 t.kind, .string (strOf t.name), .int .i64 t.of, .int .i64 (k : Int)] 85))) := Lib.hid (src_four Tryz.underlying104 (by have := heap_alloc_new (w5.setCell ⟨g, 3, none⟩ (.int .i64 (k : Int))) (.cells #[.int .i64 t.kind, .string (strOf t.name), .int .i64 t.of, .int .i64 (k : Int)] 85); rwa [show (w5.setCell ⟨g, 3, none⟩ (.int .i64 (k : Int))).heap.size = w5.heap.size from by simp [World.setCell]] at this) rfl rfl rfl rfl)
                have d0 := H5.out.2.2.c0
                have d1 := H5.out.2.2.c1
                have d2 := H5.out.2.2.c2
                have d3 := H5.out.2.2.c3
                have f3 := H5.out.2.2.fz 3
                go_wp2_with (at_builtin; refine list_app rfl (.tmp 49) (.tmp 51) 104 104 rfl Tryz.slice104 rfl (by exact own_kept H6.out.1 (Fr.of_alloc _ _ _)) rfl (by exact HSR.out) (by rw [HNL.out]; unfold maxLen; omega) (by rw [HNL.out]; omega) (by have := H6.out.2.size; simp at this ⊢; omega) ?_; intro v2 w7 hq; have H7 := Lib.hid (AllPart.step ⟨own_kept H6.out.1 (Fr.of_alloc _ _ _), H6.out.2.trans (Fr.of_alloc _ _ _)⟩ hq); clear hq)
                refine (HBL.out _).mono ?_
                rintro e w8 ⟨rfl, hk8⟩
                have H8 := Lib.hid (H7.out.kept hk8)
                have HL8 := Lib.hid (HL.out.kept H8.out.2)
                clear hk8
                go_wp2
                go_roundw
                case rel => exact ⟨k + wd.length + bn, toks ++ [(t, k)], n + 1, by go_num, by simp [HNL.out], hn999, by omega, HBT2, Lib.hid ⟨H8.out, HL8.out⟩⟩
                case measure => simp [intOf]; omega
      · have hlti : ¬ (k : Int) < s.size := by omega
        have HA := Lib.hid (hto.out.done hlt h4)
        go_wp2
        go_ret3
        exact all_ok HA.out rfl hp.out.1
  · have h4i : (4000 : Int) < s.size := by omega
    have HA : Hid (allS (bs s) = .error (0, 3)) := Lib.hid (by unfold allS; rw [if_pos (by rw [bs_len]; omega)])
    clear h4
    go_enter Tryz.func61, Tryz.ntmps61
    go_wp2
    go_ret3
    exact all_error HA.out rfl (Fr.refl _ _)

open Go.RowKit Go.ChangeShapes Go.WideShapes
theorem kallR (s : ByteArray) (w : World) (hs : s.size ≤ 1000000) (hL : LaidT w) : Calls Tryz.prog 61 #[.string s] w (AllR (bs s) w) := (kall_any s w hs hL).mono fun _ _ h => all_r h

end Go.Proofs.YtbfealhbdemhmaaGreatDoor
