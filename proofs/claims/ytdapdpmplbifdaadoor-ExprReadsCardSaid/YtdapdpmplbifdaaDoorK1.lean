/- Contracts and lemmas: K1 -/
import Derived.Test.YtdapdpmplbifdaaDoorText
import Derived.Test.YtdapdpmplbifdaaDoorChk
import Derived.Laws.ResultCell
namespace Go.Proofs.YtdapdpmplbifdaaDoor
set_option linter.unusedVariables false
set_option linter.unusedSimpArgs false
open Go.RowKit Go.ChangeShapes Go.WideShapes
set_option maxRecDepth 20000
/-- how closely a kind binds, an atom too -/
def kbind (k : Int) : Nat := if k = 1 then 5 else bindS k
theorem kbind_other {k : Int} (h : k ≠ 1) : kbind k = bindS k := by unfold kbind; rw [if_neg h]
theorem kbind_zero {k : Int} : kbind k = 0 ↔ (k ≠ 1 ∧ bindS k = 0) := by
  unfold kbind
  split
  · rename_i h; exact ⟨fun e => (by cases e), fun e => absurd h e.1⟩
  · rename_i h; exact ⟨fun e => ⟨h, e⟩, fun e => e.2⟩
theorem kbinding_any (k : Int) (w : World) : Calls Tryd.prog 32 #[.int .i64 k] w fun e w' => e = .returned (.int .i64 (kbind k : Nat)) ∧ w = w' := by
  by_cases h2 : k = 2
  · subst h2
    go_enter Tryd.func32, Tryd.ntmps32
    go_wp2
    go_ret
    exact ⟨rfl, rfl⟩
  by_cases h3 : k = 3
  · subst h3
    go_enter Tryd.func32, Tryd.ntmps32
    go_wp2
    go_ret
    exact ⟨rfl, rfl⟩
  by_cases h4 : k = 4
  · subst h4
    go_enter Tryd.func32, Tryd.ntmps32
    go_wp2
    go_ret
    exact ⟨rfl, rfl⟩
  by_cases h5 : k = 5
  · subst h5
    go_enter Tryd.func32, Tryd.ntmps32
    go_wp2
    go_ret
    exact ⟨rfl, rfl⟩
  by_cases h1 : k = 1
  · subst h1
    go_enter Tryd.func32, Tryd.ntmps32
    go_wp2
    go_ret
    exact ⟨rfl, rfl⟩
  have HA : Hid (kbind k = 0) := Lib.hid (by unfold kbind bindS; rw [if_neg h1, if_neg h2, if_neg h3, if_neg h4, if_neg h5])
  have g1 : (k == 1) = false := by simp [h1]
  have g2 : (k == 2) = false := by simp [h2]
  have g3 : (k == 3) = false := by simp [h3]
  have g4 : (k == 4) = false := by simp [h4]
  have g5 : (k == 5) = false := by simp [h5]
  clear h1 h2 h3 h4 h5
  go_enter Tryd.func32, Tryd.ntmps32
  go_wp2
  go_ret
  exact ⟨ret_int (by rw [HA.out]; rfl), rfl⟩
theorem kends_any (k : Int) (w : World) : Calls Tryd.prog 49 #[.int .i64 k] w fun e w' => e = .returned (.bool (decide (k = 1 ∨ k = 7))) ∧ w = w' := by
  by_cases h1 : k = 1
  · subst h1
    go_enter Tryd.func49, Tryd.ntmps49
    go_wp2
    go_ret
    exact ⟨rfl, rfl⟩
  by_cases h7 : k = 7
  · subst h7
    go_enter Tryd.func49, Tryd.ntmps49
    go_wp2
    go_ret
    exact ⟨rfl, rfl⟩
  have HA : Hid (decide (k = 1 ∨ k = 7) = false) := Lib.hid (by simp [h1, h7])
  have g1 : (k == 1) = false := by simp [h1]
  have g7 : (k == 7) = false := by simp [h7]
  clear h1 h7
  go_enter Tryd.func49, Tryd.ntmps49
  go_wp2
  go_ret
  exact ⟨ret_bool HA.out.symm, rfl⟩
def trmA (k o : Int) (x : ByteArray) : Value := .agg #[.int .i64 k, .int .i64 o, .string x]
theorem tokof_ret {W : World} {g : Nat} {a b c d : Value} {tmps : Array Value} (h : Four W g a b c d) (h4 : tmps.getD 2 undef = .pointer (some ⟨g, 0, none⟩)) :
    (results Tryd.f33 tmps).run Tryd.prog W = .ok (.agg #[a, b, c, d]) W := by
  have c0 := h.c0
  have c1 := h.c1
  have c2 := h.c2
  have c3 := h.c3
  rw [results_one_cell rfl, h4]
  go_simp
theorem four_new2 (w : World) (o : Obj) (a b c d : Value) (t : TypeId) : Four ((w.alloc o).alloc (.cells #[a, b, c, d] t)) (w.heap.size + 1) a b c d := by
  have := four_new (w.alloc o) a b c d t
  rwa [World.size_alloc] at this
theorem ktokof_any (k o : Int) (x : ByteArray) (w : World) : Calls Tryd.prog 33 #[trmA k o x] w (KeptPost (tokA k x o 0) w) := by
  have H0 := Lib.hid (four_new2 w (Obj.cells #[.int .i64 k, .int .i64 o, .string x] 45) (.int .i64 k) (.string x) (.int .i64 o) (.int .i64 0) 31)
  unfold trmA tokA
  go_enter Tryd.func33, Tryd.ntmps33
  go_wp2
  exact bodyPost_ret (tokof_ret H0.out rfl) rfl ⟨rfl, (Fr.of_alloc _ _ _).trans (Fr.of_alloc _ _ _)⟩
/-- a block of three cells -/
def Thr3 (w : World) (g : Nat) (a b c : Value) : Prop := ∃ t, w.heap[g]? = some (.cells #[a, b, c] t (0, 0))
theorem Thr3.c0 {w : World} {g : Nat} {a b c : Value} (h : Thr3 w g a b c) : w.cell? ⟨g, 0, none⟩ = some a := by obtain ⟨t, h⟩ := h; rw [cell_whole h]; rfl
theorem Thr3.c1 {w : World} {g : Nat} {a b c : Value} (h : Thr3 w g a b c) : w.cell? ⟨g, 1, none⟩ = some b := by obtain ⟨t, h⟩ := h; rw [cell_whole h]; rfl
theorem Thr3.c2 {w : World} {g : Nat} {a b c : Value} (h : Thr3 w g a b c) : w.cell? ⟨g, 2, none⟩ = some c := by obtain ⟨t, h⟩ := h; rw [cell_whole h]; rfl
theorem Thr3.lt {w : World} {g : Nat} {a b c : Value} (h : Thr3 w g a b c) : g < w.heap.size := by obtain ⟨t, h⟩ := h; exact (Array.getElem?_eq_some_iff.1 h).1
theorem Thr3.fr {F : Nat → Prop} {w w' : World} {g : Nat} {a b c : Value} (h : Thr3 w g a b c) (hk : Fr F w w') (hF : ¬ F g) : Thr3 w' g a b c := by
  have hl := h.lt
  obtain ⟨t, h⟩ := h
  exact ⟨t, (hk.block g hl hF).trans h⟩
theorem Thr3.kept {w w' : World} {g : Nat} {a b c : Value} (h : Thr3 w g a b c) (hk : Kept w w') : Thr3 w' g a b c := h.fr hk (fun x => x)
theorem Four.fr {F : Nat → Prop} {w w' : World} {g : Nat} {a b c d : Value} (h : Four w g a b c d) (hk : Fr F w w') (hF : ¬ F g) : Four w' g a b c d := by
  have hl := h.lt
  obtain ⟨t, h⟩ := h
  exact ⟨t, (hk.block g hl hF).trans h⟩
theorem thr3_new (w : World) (a b c : Value) (t : TypeId) : Thr3 (w.alloc (.cells #[a, b, c] t)) w.heap.size a b c := ⟨t, heap_alloc_new w _⟩
theorem thr3_new2 (w : World) (o : Obj) (a b c : Value) (t : TypeId) : Thr3 ((w.alloc o).alloc (.cells #[a, b, c] t)) (w.heap.size + 1) a b c := by
  have := thr3_new (w.alloc o) a b c t
  rwa [World.size_alloc] at this
theorem trmof_ret {W : World} {g : Nat} {a b c : Value} {tmps : Array Value} (h : Thr3 W g a b c) (h4 : tmps.getD 2 undef = .pointer (some ⟨g, 0, none⟩)) :
    (results Tryd.f51 tmps).run Tryd.prog W = .ok (.agg #[a, b, c]) W := by
  have c0 := h.c0
  have c1 := h.c1
  have c2 := h.c2
  rw [results_one_cell rfl, h4]
  go_simp
theorem ktrmof_any (k o p : Int) (x : ByteArray) (w : World) : Calls Tryd.prog 51 #[tokA k x o p] w (KeptPost (trmA k o x) w) := by
  have H0 := Lib.hid (thr3_new2 w (Obj.cells #[.int .i64 k, .string x, .int .i64 o, .int .i64 p] 31) (.int .i64 k) (.int .i64 o) (.string x) 45)
  unfold trmA tokA
  go_enter Tryd.func51, Tryd.ntmps51
  go_wp2
  exact bodyPost_ret (trmof_ret H0.out rfl) rfl ⟨rfl, (Fr.of_alloc _ _ _).trans (Fr.of_alloc _ _ _)⟩
/-- may a token stand behind one of that kind? -/
def mayB (b op k o : Int) : Bool :=
  if k = 1 ∨ k = 6 then decide (¬ (b = 1 ∨ b = 7) ∧ (b ≠ 5 ∨ o = 5))
  else if bindS k ≠ 0 then decide (b = 1 ∨ b = 7)
  else decide (k = 7 ∧ (b = 1 ∨ b = 7) ∧ 0 < op)
set_option maxHeartbeats 2000000 in
theorem kmayf_any (b op k o p : Int) (x : ByteArray) (w : World) : Calls Tryd.prog 48 #[.int .i64 b, .int .i64 op, tokA k x o p] w (KeptPost (.bool (mayB b op k o)) w) := by
  have HE : Hid (∀ W, Calls Tryd.prog 49 #[.int .i64 b] W fun e w' => e = .returned (.bool (decide (b = 1 ∨ b = 7))) ∧ W = w') := Lib.hid (fun W => kends_any b W)
  have HK : Hid (Kept w (w.alloc (.cells #[.int .i64 k, .string x, .int .i64 o, .int .i64 p] 31))) := Lib.hid (Fr.of_alloc _ _ _)
  unfold tokA
  by_cases k1 : k = 1
  · subst k1
    by_cases hb : b = 1 ∨ b = 7
    · have HA : Hid (mayB b op 1 o = false) := Lib.hid (by simp [mayB, hb])
      rw [decide_eq_true hb] at HE
      clear hb
      go_enter Tryd.func48, Tryd.ntmps48
      go_wp2_with (go_at_call 49; refine (HE.out _).mono ?_; rintro e w' ⟨rfl, rfl⟩)
      go_ret
      exact ⟨ret_bool HA.out.symm, HK.out⟩
    · rw [decide_eq_false hb] at HE
      by_cases h5 : b = 5
      · by_cases ho : o = 5
        · have HA : Hid (mayB b op 1 o = true) := Lib.hid (by simp [mayB, hb, ho])
          subst h5
          subst ho
          clear hb
          go_enter Tryd.func48, Tryd.ntmps48
          go_wp2_with (go_at_call 49; refine (HE.out _).mono ?_; rintro e w' ⟨rfl, rfl⟩)
          go_ret
          exact ⟨ret_bool HA.out.symm, HK.out⟩
        · have HA : Hid (mayB b op 1 o = false) := Lib.hid (by simp [mayB, hb, ho, h5])
          have go : (o == 5) = false := by simp [ho]
          subst h5
          clear hb ho
          go_enter Tryd.func48, Tryd.ntmps48
          go_wp2_with (go_at_call 49; refine (HE.out _).mono ?_; rintro e w' ⟨rfl, rfl⟩)
          go_ret
          exact ⟨ret_bool HA.out.symm, HK.out⟩
      · have HA : Hid (mayB b op 1 o = true) := Lib.hid (by simp [mayB, hb, h5])
        have g5 : (b != 5) = true := by simp [h5]
        clear hb h5
        go_enter Tryd.func48, Tryd.ntmps48
        go_wp2_with (go_at_call 49; refine (HE.out _).mono ?_; rintro e w' ⟨rfl, rfl⟩)
        go_ret
        exact ⟨ret_bool HA.out.symm, HK.out⟩
  by_cases k6 : k = 6
  · subst k6
    by_cases hb : b = 1 ∨ b = 7
    · have HA : Hid (mayB b op 6 o = false) := Lib.hid (by simp [mayB, hb])
      rw [decide_eq_true hb] at HE
      clear hb
      go_enter Tryd.func48, Tryd.ntmps48
      go_wp2_with (go_at_call 49; refine (HE.out _).mono ?_; rintro e w' ⟨rfl, rfl⟩)
      go_ret
      exact ⟨ret_bool HA.out.symm, HK.out⟩
    · rw [decide_eq_false hb] at HE
      by_cases h5 : b = 5
      · by_cases ho : o = 5
        · have HA : Hid (mayB b op 6 o = true) := Lib.hid (by simp [mayB, hb, ho])
          subst h5
          subst ho
          clear hb
          go_enter Tryd.func48, Tryd.ntmps48
          go_wp2_with (go_at_call 49; refine (HE.out _).mono ?_; rintro e w' ⟨rfl, rfl⟩)
          go_ret
          exact ⟨ret_bool HA.out.symm, HK.out⟩
        · have HA : Hid (mayB b op 6 o = false) := Lib.hid (by simp [mayB, hb, ho, h5])
          have go : (o == 5) = false := by simp [ho]
          subst h5
          clear hb ho
          go_enter Tryd.func48, Tryd.ntmps48
          go_wp2_with (go_at_call 49; refine (HE.out _).mono ?_; rintro e w' ⟨rfl, rfl⟩)
          go_ret
          exact ⟨ret_bool HA.out.symm, HK.out⟩
      · have HA : Hid (mayB b op 6 o = true) := Lib.hid (by simp [mayB, hb, h5])
        have g5 : (b != 5) = true := by simp [h5]
        clear hb h5
        go_enter Tryd.func48, Tryd.ntmps48
        go_wp2_with (go_at_call 49; refine (HE.out _).mono ?_; rintro e w' ⟨rfl, rfl⟩)
        go_ret
        exact ⟨ret_bool HA.out.symm, HK.out⟩
  by_cases k2 : k = 2
  · subst k2
    have HA : Hid (mayB b op 2 o = decide (b = 1 ∨ b = 7)) := Lib.hid rfl
    generalize decide (b = 1 ∨ b = 7) = bb at *
    go_enter Tryd.func48, Tryd.ntmps48
    go_wp2_with (go_at_call 49; refine (HE.out _).mono ?_; rintro e w' ⟨rfl, rfl⟩)
    go_ret
    exact ⟨ret_bool HA.out.symm, HK.out⟩
  by_cases k3 : k = 3
  · subst k3
    have HA : Hid (mayB b op 3 o = decide (b = 1 ∨ b = 7)) := Lib.hid rfl
    generalize decide (b = 1 ∨ b = 7) = bb at *
    go_enter Tryd.func48, Tryd.ntmps48
    go_wp2_with (go_at_call 49; refine (HE.out _).mono ?_; rintro e w' ⟨rfl, rfl⟩)
    go_ret
    exact ⟨ret_bool HA.out.symm, HK.out⟩
  by_cases k4 : k = 4
  · subst k4
    have HA : Hid (mayB b op 4 o = decide (b = 1 ∨ b = 7)) := Lib.hid rfl
    generalize decide (b = 1 ∨ b = 7) = bb at *
    go_enter Tryd.func48, Tryd.ntmps48
    go_wp2_with (go_at_call 49; refine (HE.out _).mono ?_; rintro e w' ⟨rfl, rfl⟩)
    go_ret
    exact ⟨ret_bool HA.out.symm, HK.out⟩
  by_cases k5 : k = 5
  · subst k5
    have HA : Hid (mayB b op 5 o = decide (b = 1 ∨ b = 7)) := Lib.hid rfl
    generalize decide (b = 1 ∨ b = 7) = bb at *
    go_enter Tryd.func48, Tryd.ntmps48
    go_wp2_with (go_at_call 49; refine (HE.out _).mono ?_; rintro e w' ⟨rfl, rfl⟩)
    go_ret
    exact ⟨ret_bool HA.out.symm, HK.out⟩
  have HB : Hid (bindS k = 0) := Lib.hid (by unfold bindS; rw [if_neg k2, if_neg k3, if_neg k4, if_neg k5])
  have g1 : (k == 1) = false := by simp [k1]
  have g2 : (k == 2) = false := by simp [k2]
  have g3 : (k == 3) = false := by simp [k3]
  have g4 : (k == 4) = false := by simp [k4]
  have g5 : (k == 5) = false := by simp [k5]
  have g6 : (k == 6) = false := by simp [k6]
  by_cases k7 : k = 7
  · subst k7
    by_cases hb : b = 1 ∨ b = 7
    · rw [decide_eq_true hb] at HE
      by_cases ho : 0 < op
      · have HA : Hid (mayB b op 7 o = true) := Lib.hid (by simp [mayB, hb, ho, HB.out])
        clear hb k1 k2 k3 k4 k5 k6 g1 g2 g3 g4 g5 g6
        go_enter Tryd.func48, Tryd.ntmps48
        go_wp2_with (go_at_call 49; refine (HE.out _).mono ?_; rintro e w' ⟨rfl, rfl⟩)
        go_ret
        exact ⟨ret_bool HA.out.symm, HK.out⟩
      · have HA : Hid (mayB b op 7 o = false) := Lib.hid (by simp [mayB, hb, ho, HB.out])
        clear hb k1 k2 k3 k4 k5 k6 g1 g2 g3 g4 g5 g6
        go_enter Tryd.func48, Tryd.ntmps48
        go_wp2_with (go_at_call 49; refine (HE.out _).mono ?_; rintro e w' ⟨rfl, rfl⟩)
        go_ret
        exact ⟨ret_bool (by rw [HA.out]; simp [ho]), HK.out⟩
    · rw [decide_eq_false hb] at HE
      have HA : Hid (mayB b op 7 o = false) := Lib.hid (by simp [mayB, hb, HB.out])
      clear hb k1 k2 k3 k4 k5 k6 g1 g2 g3 g4 g5 g6
      go_enter Tryd.func48, Tryd.ntmps48
      go_wp2_with (go_at_call 49; refine (HE.out _).mono ?_; rintro e w' ⟨rfl, rfl⟩)
      go_ret
      exact ⟨ret_bool HA.out.symm, HK.out⟩
  have HA : Hid (mayB b op k o = false) := Lib.hid (by simp [mayB, k1, k6, k7, HB.out])
  have g7 : (k == 7) = false := by simp [k7]
  clear k1 k2 k3 k4 k5 k6 k7
  go_enter Tryd.func48, Tryd.ntmps48
  go_wp2_with (go_at_call 49; refine (HE.out _).mono ?_; rintro e w' ⟨rfl, rfl⟩)
  go_ret
  exact ⟨ret_bool HA.out.symm, HK.out⟩

end Go.Proofs.YtdapdpmplbifdaaDoor
