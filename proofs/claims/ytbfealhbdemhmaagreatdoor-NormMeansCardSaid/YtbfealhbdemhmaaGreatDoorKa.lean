/- Contracts and lemmas: Ka -/
import Derived.Test.YtbfealhbdemhmaaGreatDoorTk
import Derived.Test.YtbfealhbdemhmaaGreatDoorCt
import Derived.Laws.ResultCell
namespace Go.Proofs.YtbfealhbdemhmaaGreatDoor
set_option linter.unusedVariables false
set_option linter.unusedSimpArgs false
open Go.RowKit Go.ChangeShapes Go.WideShapes
set_option maxRecDepth 20000
/-- how closely a kind binds, an atom too -/
def kbind (k : Int) : Nat := if k = 1 then 5 else bindS k
theorem kbind_other {k : Int} (h : k ≠ 1) : kbind k = bindS k := by unfold kbind; rw [if_neg h]
theorem kbind_zero {k : Int} : kbind k = 0 ↔ (k ≠ 1 ∧ bindS k = 0) := by
  unfold kbind
  split
  · rename_i h; exact ⟨fun e => (by cases e), fun e => absurd h e.1⟩
  · rename_i h; exact ⟨fun e => ⟨h, e⟩, fun e => e.2⟩
theorem kbinding_any (k : Int) (w : World) : Calls Tryz.prog 51 #[.int .i64 k] w fun e w' => e = .returned (.int .i64 (kbind k : Nat)) ∧ w = w' := by
  by_cases h2 : k = 2
  · subst h2
    go_enter Tryz.func51, Tryz.ntmps51
    go_wp2
    go_ret
    exact ⟨rfl, rfl⟩
  by_cases h3 : k = 3
  · subst h3
    go_enter Tryz.func51, Tryz.ntmps51
    go_wp2
    go_ret
    exact ⟨rfl, rfl⟩
  by_cases h4 : k = 4
  · subst h4
    go_enter Tryz.func51, Tryz.ntmps51
    go_wp2
    go_ret
    exact ⟨rfl, rfl⟩
  by_cases h5 : k = 5
  · subst h5
    go_enter Tryz.func51, Tryz.ntmps51
    go_wp2
    go_ret
    exact ⟨rfl, rfl⟩
  by_cases h1 : k = 1
  · subst h1
    go_enter Tryz.func51, Tryz.ntmps51
    go_wp2
    go_ret
    exact ⟨rfl, rfl⟩
  have HA : Hid (kbind k = 0) := Lib.hid (by unfold kbind bindS; rw [if_neg h1, if_neg h2, if_neg h3, if_neg h4, if_neg h5])
  have g1 : (k == 1) = false := by simp [h1]
  have g2 : (k == 2) = false := by simp [h2]
  have g3 : (k == 3) = false := by simp [h3]
  have g4 : (k == 4) = false := by simp [h4]
  have g5 : (k == 5) = false := by simp [h5]
  clear h1 h2 h3 h4 h5
  go_enter Tryz.func51, Tryz.ntmps51
  go_wp2
  go_ret
  exact ⟨ret_int (by rw [HA.out]; rfl), rfl⟩
theorem kends_any (k : Int) (w : World) : Calls Tryz.prog 136 #[.int .i64 k] w fun e w' => e = .returned (.bool (decide (k = 1 ∨ k = 7))) ∧ w = w' := by
  by_cases h1 : k = 1
  · subst h1
    go_enter Tryz.func136, Tryz.ntmps136
    go_wp2
    go_ret
    exact ⟨rfl, rfl⟩
  by_cases h7 : k = 7
  · subst h7
    go_enter Tryz.func136, Tryz.ntmps136
    go_wp2
    go_ret
    exact ⟨rfl, rfl⟩
  have HA : Hid (decide (k = 1 ∨ k = 7) = false) := Lib.hid (by simp [h1, h7])
  have g1 : (k == 1) = false := by simp [h1]
  have g7 : (k == 7) = false := by simp [h7]
  clear h1 h7
  go_enter Tryz.func136, Tryz.ntmps136
  go_wp2
  go_ret
  exact ⟨ret_bool HA.out.symm, rfl⟩
def trmA (k o : Int) (x : ByteArray) : Value := .agg #[.int .i64 k, .int .i64 o, .string x]
theorem tokof_ret {W : World} {g : Nat} {a b c d : Value} {tmps : Array Value} (h : Four W g a b c d) (h4 : tmps.getD 2 undef = .pointer (some ⟨g, 0, none⟩)) :
    (results Tryz.f53 tmps).run Tryz.prog W = .ok (.agg #[a, b, c, d]) W := by
  have c0 := h.c0
  have c1 := h.c1
  have c2 := h.c2
  have c3 := h.c3
  rw [results_one_cell rfl, h4]
  go_simp
theorem four_new2 (w : World) (o : Obj) (a b c d : Value) (t : TypeId) : Four ((w.alloc o).alloc (.cells #[a, b, c, d] t)) (w.heap.size + 1) a b c d := by
  have := four_new (w.alloc o) a b c d t
  rwa [World.size_alloc] at this
theorem ktokof_any (k o : Int) (x : ByteArray) (w : World) : Calls Tryz.prog 53 #[trmA k o x] w (KeptPost (tokA k x o 0) w) := by
  have H0 := Lib.hid (four_new2 w (Obj.cells #[.int .i64 k, .int .i64 o, .string x] 52) (.int .i64 k) (.string x) (.int .i64 o) (.int .i64 0) 85)
  unfold trmA tokA
  go_enter Tryz.func53, Tryz.ntmps53
  go_wp2
  exact bodyPost_ret (tokof_ret H0.out rfl) rfl ⟨rfl, (Fr.of_alloc _ _ _).trans (Fr.of_alloc _ _ _)⟩
/-- a block of three cells -/
def Thr3 (w : World) (g : Nat) (a b c : Value) : Prop := ∃ t, w.heap[g]? = some (.cells #[a, b, c] t (0, 0))
theorem Thr3.c0 {w : World} {g : Nat} {a b c : Value} (h : Thr3 w g a b c) : w.cell? ⟨g, 0, none⟩ = some a := by obtain ⟨t, h⟩ := h; rw [cell_whole h]; rfl
theorem Thr3.c1 {w : World} {g : Nat} {a b c : Value} (h : Thr3 w g a b c) : w.cell? ⟨g, 1, none⟩ = some b := by obtain ⟨t, h⟩ := h; rw [cell_whole h]; rfl
theorem Thr3.c2 {w : World} {g : Nat} {a b c : Value} (h : Thr3 w g a b c) : w.cell? ⟨g, 2, none⟩ = some c := by obtain ⟨t, h⟩ := h; rw [cell_whole h]; rfl
theorem Thr3.lt {w : World} {g : Nat} {a b c : Value} (h : Thr3 w g a b c) : g < w.heap.size := by obtain ⟨t, h⟩ := h; exact (Array.getElem?_eq_some_iff.1 h).1
theorem Thr3.fr {F : Nat → Prop} {w w' : World} {g : Nat} {a b c : Value} (h : Thr3 w g a b c) (hk : Fr F w w') (hF : ¬ F g) : Thr3 w' g a b c := by
  have hl := h.lt
  obtain ⟨t, h⟩ := h
  exact ⟨t, (hk.block g hl hF).trans h⟩
theorem Thr3.kept {w w' : World} {g : Nat} {a b c : Value} (h : Thr3 w g a b c) (hk : Kept w w') : Thr3 w' g a b c := h.fr hk (fun x => x)
theorem Four.fr {F : Nat → Prop} {w w' : World} {g : Nat} {a b c d : Value} (h : Four w g a b c d) (hk : Fr F w w') (hF : ¬ F g) : Four w' g a b c d := by
  have hl := h.lt
  obtain ⟨t, h⟩ := h
  exact ⟨t, (hk.block g hl hF).trans h⟩
theorem thr3_new (w : World) (a b c : Value) (t : TypeId) : Thr3 (w.alloc (.cells #[a, b, c] t)) w.heap.size a b c := ⟨t, heap_alloc_new w _⟩
theorem thr3_new2 (w : World) (o : Obj) (a b c : Value) (t : TypeId) : Thr3 ((w.alloc o).alloc (.cells #[a, b, c] t)) (w.heap.size + 1) a b c := by
  have := thr3_new (w.alloc o) a b c t
  rwa [World.size_alloc] at this
theorem trmof_ret {W : World} {g : Nat} {a b c : Value} {tmps : Array Value} (h : Thr3 W g a b c) (h4 : tmps.getD 2 undef = .pointer (some ⟨g, 0, none⟩)) :
    (results Tryz.f138 tmps).run Tryz.prog W = .ok (.agg #[a, b, c]) W := by
  have c0 := h.c0
  have c1 := h.c1
  have c2 := h.c2
  rw [results_one_cell rfl, h4]
  go_simp
theorem ktrmof_any (k o p : Int) (x : ByteArray) (w : World) : Calls Tryz.prog 138 #[tokA k x o p] w (KeptPost (trmA k o x) w) := by
  have H0 := Lib.hid (thr3_new2 w (Obj.cells #[.int .i64 k, .string x, .int .i64 o, .int .i64 p] 85) (.int .i64 k) (.int .i64 o) (.string x) 52)
  unfold trmA tokA
  go_enter Tryz.func138, Tryz.ntmps138
  go_wp2
  exact bodyPost_ret (trmof_ret H0.out rfl) rfl ⟨rfl, (Fr.of_alloc _ _ _).trans (Fr.of_alloc _ _ _)⟩
/-- may a token stand behind one of that kind? -/
def mayB (b op k o : Int) : Bool :=
  if k = 1 ∨ k = 6 then decide (¬ (b = 1 ∨ b = 7) ∧ (b ≠ 5 ∨ o = 5))
  else if bindS k ≠ 0 then decide (b = 1 ∨ b = 7)
  else decide (k = 7 ∧ (b = 1 ∨ b = 7) ∧ 0 < op)
set_option maxHeartbeats 2000000 in
theorem kmayf_any (b op k o p : Int) (x : ByteArray) (w : World) : Calls Tryz.prog 135 #[.int .i64 b, .int .i64 op, tokA k x o p] w (KeptPost (.bool (mayB b op k o)) w) := by
  have HE : Hid (∀ W, Calls Tryz.prog 136 #[.int .i64 b] W fun e w' => e = .returned (.bool (decide (b = 1 ∨ b = 7))) ∧ W = w') := Lib.hid (fun W => kends_any b W)
  have HK : Hid (Kept w (w.alloc (.cells #[.int .i64 k, .string x, .int .i64 o, .int .i64 p] 85))) := Lib.hid (Fr.of_alloc _ _ _)
  unfold tokA
  by_cases k1 : k = 1
  · subst k1
    by_cases hb : b = 1 ∨ b = 7
    · have HA : Hid (mayB b op 1 o = false) := Lib.hid (by simp [mayB, hb])
      rw [decide_eq_true hb] at HE
      clear hb
      go_enter Tryz.func135, Tryz.ntmps135
      go_wp2_with (go_at_call 136; refine (HE.out _).mono ?_; rintro e w' ⟨rfl, rfl⟩)
      go_ret
      exact ⟨ret_bool HA.out.symm, HK.out⟩
    · rw [decide_eq_false hb] at HE
      by_cases h5 : b = 5
      · by_cases ho : o = 5
        · have HA : Hid (mayB b op 1 o = true) := Lib.hid (by simp [mayB, hb, ho])
          subst h5
          subst ho
          clear hb
          go_enter Tryz.func135, Tryz.ntmps135
          go_wp2_with (go_at_call 136; refine (HE.out _).mono ?_; rintro e w' ⟨rfl, rfl⟩)
          go_ret
          exact ⟨ret_bool HA.out.symm, HK.out⟩
        · have HA : Hid (mayB b op 1 o = false) := Lib.hid (by simp [mayB, hb, ho, h5])
          have go : (o == 5) = false := by simp [ho]
          subst h5
          clear hb ho
          go_enter Tryz.func135, Tryz.ntmps135
          go_wp2_with (go_at_call 136; refine (HE.out _).mono ?_; rintro e w' ⟨rfl, rfl⟩)
          go_ret
          exact ⟨ret_bool HA.out.symm, HK.out⟩
      · have HA : Hid (mayB b op 1 o = true) := Lib.hid (by simp [mayB, hb, h5])
        have g5 : (b != 5) = true := by simp [h5]
        clear hb h5
        go_enter Tryz.func135, Tryz.ntmps135
        go_wp2_with (go_at_call 136; refine (HE.out _).mono ?_; rintro e w' ⟨rfl, rfl⟩)
        go_ret
        exact ⟨ret_bool HA.out.symm, HK.out⟩
  by_cases k6 : k = 6
  · subst k6
    by_cases hb : b = 1 ∨ b = 7
    · have HA : Hid (mayB b op 6 o = false) := Lib.hid (by simp [mayB, hb])
      rw [decide_eq_true hb] at HE
      clear hb
      go_enter Tryz.func135, Tryz.ntmps135
      go_wp2_with (go_at_call 136; refine (HE.out _).mono ?_; rintro e w' ⟨rfl, rfl⟩)
      go_ret
      exact ⟨ret_bool HA.out.symm, HK.out⟩
    · rw [decide_eq_false hb] at HE
      by_cases h5 : b = 5
      · by_cases ho : o = 5
        · have HA : Hid (mayB b op 6 o = true) := Lib.hid (by simp [mayB, hb, ho])
          subst h5
          subst ho
          clear hb
          go_enter Tryz.func135, Tryz.ntmps135
          go_wp2_with (go_at_call 136; refine (HE.out _).mono ?_; rintro e w' ⟨rfl, rfl⟩)
          go_ret
          exact ⟨ret_bool HA.out.symm, HK.out⟩
        · have HA : Hid (mayB b op 6 o = false) := Lib.hid (by simp [mayB, hb, ho, h5])
          have go : (o == 5) = false := by simp [ho]
          subst h5
          clear hb ho
          go_enter Tryz.func135, Tryz.ntmps135
          go_wp2_with (go_at_call 136; refine (HE.out _).mono ?_; rintro e w' ⟨rfl, rfl⟩)
          go_ret
          exact ⟨ret_bool HA.out.symm, HK.out⟩
      · have HA : Hid (mayB b op 6 o = true) := Lib.hid (by simp [mayB, hb, h5])
        have g5 : (b != 5) = true := by simp [h5]
        clear hb h5
        go_enter Tryz.func135, Tryz.ntmps135
        go_wp2_with (go_at_call 136; refine (HE.out _).mono ?_; rintro e w' ⟨rfl, rfl⟩)
        go_ret
        exact ⟨ret_bool HA.out.symm, HK.out⟩
  by_cases k2 : k = 2
  · subst k2
    have HA : Hid (mayB b op 2 o = decide (b = 1 ∨ b = 7)) := Lib.hid rfl
    generalize decide (b = 1 ∨ b = 7) = bb at *
    go_enter Tryz.func135, Tryz.ntmps135
    go_wp2_with (go_at_call 136; refine (HE.out _).mono ?_; rintro e w' ⟨rfl, rfl⟩)
    go_ret
    exact ⟨ret_bool HA.out.symm, HK.out⟩
  by_cases k3 : k = 3
  · subst k3
    have HA : Hid (mayB b op 3 o = decide (b = 1 ∨ b = 7)) := Lib.hid rfl
    generalize decide (b = 1 ∨ b = 7) = bb at *
    go_enter Tryz.func135, Tryz.ntmps135
    go_wp2_with (go_at_call 136; refine (HE.out _).mono ?_; rintro e w' ⟨rfl, rfl⟩)
    go_ret
    exact ⟨ret_bool HA.out.symm, HK.out⟩
  by_cases k4 : k = 4
  · subst k4
    have HA : Hid (mayB b op 4 o = decide (b = 1 ∨ b = 7)) := Lib.hid rfl
    generalize decide (b = 1 ∨ b = 7) = bb at *
    go_enter Tryz.func135, Tryz.ntmps135
    go_wp2_with (go_at_call 136; refine (HE.out _).mono ?_; rintro e w' ⟨rfl, rfl⟩)
    go_ret
    exact ⟨ret_bool HA.out.symm, HK.out⟩
  by_cases k5 : k = 5
  · subst k5
    have HA : Hid (mayB b op 5 o = decide (b = 1 ∨ b = 7)) := Lib.hid rfl
    generalize decide (b = 1 ∨ b = 7) = bb at *
    go_enter Tryz.func135, Tryz.ntmps135
    go_wp2_with (go_at_call 136; refine (HE.out _).mono ?_; rintro e w' ⟨rfl, rfl⟩)
    go_ret
    exact ⟨ret_bool HA.out.symm, HK.out⟩
  have HB : Hid (bindS k = 0) := Lib.hid (by unfold bindS; rw [if_neg k2, if_neg k3, if_neg k4, if_neg k5])
  have g1 : (k == 1) = false := by simp [k1]
  have g2 : (k == 2) = false := by simp [k2]
  have g3 : (k == 3) = false := by simp [k3]
  have g4 : (k == 4) = false := by simp [k4]
  have g5 : (k == 5) = false := by simp [k5]
  have g6 : (k == 6) = false := by simp [k6]
  by_cases k7 : k = 7
  · subst k7
    by_cases hb : b = 1 ∨ b = 7
    · rw [decide_eq_true hb] at HE
      by_cases ho : 0 < op
      · have HA : Hid (mayB b op 7 o = true) := Lib.hid (by simp [mayB, hb, ho, HB.out])
        clear hb k1 k2 k3 k4 k5 k6 g1 g2 g3 g4 g5 g6
        go_enter Tryz.func135, Tryz.ntmps135
        go_wp2_with (go_at_call 136; refine (HE.out _).mono ?_; rintro e w' ⟨rfl, rfl⟩)
        go_ret
        exact ⟨ret_bool HA.out.symm, HK.out⟩
      · have HA : Hid (mayB b op 7 o = false) := Lib.hid (by simp [mayB, hb, ho, HB.out])
        clear hb k1 k2 k3 k4 k5 k6 g1 g2 g3 g4 g5 g6
        go_enter Tryz.func135, Tryz.ntmps135
        go_wp2_with (go_at_call 136; refine (HE.out _).mono ?_; rintro e w' ⟨rfl, rfl⟩)
        go_ret
        exact ⟨ret_bool (by rw [HA.out]; simp [ho]), HK.out⟩
    · rw [decide_eq_false hb] at HE
      have HA : Hid (mayB b op 7 o = false) := Lib.hid (by simp [mayB, hb, HB.out])
      clear hb k1 k2 k3 k4 k5 k6 g1 g2 g3 g4 g5 g6
      go_enter Tryz.func135, Tryz.ntmps135
      go_wp2_with (go_at_call 136; refine (HE.out _).mono ?_; rintro e w' ⟨rfl, rfl⟩)
      go_ret
      exact ⟨ret_bool HA.out.symm, HK.out⟩
  have HA : Hid (mayB b op k o = false) := Lib.hid (by simp [mayB, k1, k6, k7, HB.out])
  have g7 : (k == 7) = false := by simp [k7]
  clear k1 k2 k3 k4 k5 k6 k7
  go_enter Tryz.func135, Tryz.ntmps135
  go_wp2_with (go_at_call 136; refine (HE.out _).mono ?_; rintro e w' ⟨rfl, rfl⟩)
  go_ret
  exact ⟨ret_bool HA.out.symm, HK.out⟩

open Go.RowKit Go.ChangeShapes Go.WideShapes
set_option maxRecDepth 20000
theorem chk_step {t : Tok} {r : List Tok} {b : Int} {op k : Nat} (hw : wordS t ≠ []) :
    chkS (decide (b = 1 ∨ b = 7)) (decide (b = 5)) op k (t :: r) =
      if mayB b op t.kind t.of = false then some (k, 2)
      else if t.kind = 6 then (if op = 100 then some (k, 3) else chkS false false (op + 1) (k + 1) r)
      else chkS (decide (t.kind = 1 ∨ t.kind = 7)) (decide (t.kind = 5)) (if t.kind = 7 then op - 1 else op) (k + 1) r := by
  by_cases k1 : t.kind = 1
  · have e : mayB b op t.kind t.of = decide (¬ (b = 1 ∨ b = 7) ∧ (b ≠ 5 ∨ t.of = 5)) := by unfold mayB; rw [if_pos (.inl k1)]
    rw [e]
    by_cases hb : b = 1 ∨ b = 7
    · rw [if_pos (by simp [hb]), decide_eq_true hb, chk_not (by rw [k1]; simp) (by rw [k1]; rfl)]
    · rw [decide_eq_false hb]
      by_cases h5 : b = 5
      · by_cases ho : t.of = 5
        · rw [if_neg (by simp [hb, ho]), chk_atom k1 (.inr ho), k1]
          rfl
        · rw [if_pos (by simp [hb, ho, h5]), chk_no (by simp [ho, h5]) (by rw [k1]; simp)]
      · rw [if_neg (by simp [hb, h5]), chk_atom k1 (.inl (by simp [h5])), k1]
        rfl
  by_cases k6 : t.kind = 6
  · have e : mayB b op t.kind t.of = decide (¬ (b = 1 ∨ b = 7) ∧ (b ≠ 5 ∨ t.of = 5)) := by unfold mayB; rw [if_pos (.inr k6)]
    have ho : t.of = 0 := by rw [tok_open hw k6]; rfl
    rw [e]
    by_cases hb : b = 1 ∨ b = 7
    · rw [if_pos (by simp [hb]), decide_eq_true hb, chk_not (by rw [k6]; simp) (by rw [k6]; rfl)]
    · rw [decide_eq_false hb]
      by_cases h5 : b = 5
      · rw [if_pos (by simp [hb, ho, h5]), chk_no (by rw [k6]; simp) (by simp [h5])]
      · rw [if_neg (by simp [hb, h5]), if_pos k6, decide_eq_false h5]
        by_cases h100 : op = 100
        · subst h100
          rw [chk_many k6, if_pos rfl]
        · rw [chk_open1 k6 h100, if_neg h100]
  by_cases k7 : t.kind = 7
  · have e : mayB b op t.kind t.of = decide ((b = 1 ∨ b = 7) ∧ (0 : Int) < (op : Int)) := by
      unfold mayB
      rw [if_neg (by simp [k7]), if_neg (by rw [k7]; decide)]
      simp [k7]
    rw [e]
    by_cases hb : b = 1 ∨ b = 7
    · rw [decide_eq_true hb]
      by_cases h0 : 0 < op
      · rw [if_neg (by simp [hb, h0]), if_neg k6, chk_close1 k7 h0, k7]
        rfl
      · rw [if_pos (by simp [h0]), chk_not (fun x => h0 x.2) (by rw [k7]; rfl)]
    · rw [if_pos (by simp [hb]), decide_eq_false hb, chk_no (by simp [k1]) (by simp [k6])]
  by_cases hk : bindS t.kind = 0
  · have e : mayB b op t.kind t.of = false := by unfold mayB; rw [if_neg (by simp [k1, k6]), if_neg (by simp [hk])]; simp [k7]
    rw [if_pos e]
    by_cases hb : b = 1 ∨ b = 7
    · rw [decide_eq_true hb, chk_not (by simp [k7]) hk]
    · rw [decide_eq_false hb, chk_no (by simp [k1]) (by simp [k6])]
  · have e : mayB b op t.kind t.of = decide (b = 1 ∨ b = 7) := by unfold mayB; rw [if_neg (by simp [k1, k6]), if_pos hk]
    rw [e]
    by_cases hb : b = 1 ∨ b = 7
    · rw [if_neg (by simp [hb]), if_neg k6, decide_eq_true hb, chk_sign hk, if_neg k7]
      rw [decide_eq_false (by simp [k1, k7] : ¬ (t.kind = 1 ∨ t.kind = 7))]
    · rw [if_pos (by simp [hb]), decide_eq_false hb, chk_no (by simp [k1]) (by simp [k6])]
theorem may_seven {b o : Int} {op : Nat} (h : mayB b op 7 o = true) : 0 < op := by
  unfold mayB at h
  rw [if_neg (by simp), if_neg (by decide)] at h
  have := of_decide_eq_true h
  omega
/-- what the tokens' fault is -/
def faultR (l : List Tok) : Nat × Int := match badS 0 l with
  | some i => (i, 2)
  | none => match chkS false false 0 0 l with
    | some x => x
    | none => if 200 < (l.filter notPar).length then (l.length, 3) else (0, 0)
theorem take_get {α : Type} {l : List α} {k : Nat} {t : α} (h : l[k]? = some t) : l.take (k + 1) = l.take k ++ [t] := by
  rw [List.take_add_one, h]; rfl
set_option maxHeartbeats 8000000 in
theorem kfault_any {w : World} {v : Value} {l : List TokB} (h : ReadsT w v l) (hl : l.length ≤ 1000000) (hs : ∀ t ∈ l, t.name.size ≤ 1000000) (hL : LaidT w) :
    Calls Tryz.prog 105 #[v] w (KeptPost (checkV (faultR (l.map TokB.tok))) w) := by
  obtain ⟨ao, c, rfl, _, hc⟩ := h
  have HC := Lib.hid hc
  have HS := Lib.hid hs
  have HL := Lib.hid hL
  have HM : Hid ((l.map TokB.tok).length = l.length) := Lib.hid (by simp)
  have HG : Hid (∀ (k : Nat) (t : TokB), l[k]? = some t → (l.map TokB.tok)[k]? = some t.tok) := Lib.hid (fun k t ht => by rw [List.getElem?_map, ht]; rfl)
  clear hc hs hL
  generalize l.map TokB.tok = L at *
  generalize hn : l.length = n at *
  have HN := Lib.hid hn
  clear hn
  have H0 : Hid (Kept w w) := Lib.hid (Fr.refl _ _)
  have H1 : Hid (badS 0 L = badS 0 (L.drop 0)) := Lib.hid rfl
  go_enter Tryz.func105, Tryz.ntmps105
  go_wp2
  go_loopw [13] (fun iv wr => ∃ k : Nat, iv = .int .i64 k ∧ k ≤ n ∧ Hid (Kept w wr) ∧ Hid (badS 0 L = badS k (L.drop k))) (fun iv _ => n - (intOf iv).toNat)
  case atStart => exact ⟨0, rfl, by omega, H0, H1⟩
  case round =>
    obtain ⟨k, rfl, hk, hkr, hto⟩ := hrel
    clear H0 H1
    by_cases hlt : k < n
    · have hlti : (k : Int) < n := by omega
      obtain ⟨t, ht⟩ : ∃ t, l[k]? = some t := ⟨_, List.getElem?_eq_getElem (by have := HN.out; omega)⟩
      obtain ⟨g, off, rfl, d0, d1, d2, d3⟩ := HC.out k t ht
      have hsz := HS.out t (List.mem_of_getElem? ht)
      have c0 := hkr.out.cell d0 (fun x => x)
      have c1 := hkr.out.cell d1 (fun x => x)
      have c2 := hkr.out.cell d2 (fun x => x)
      have c3 := hkr.out.cell d3 (fun x => x)
      have HKA : Hid (Kept w (wr.alloc (.cells #[.int .i64 t.kind, .string t.name, .int .i64 t.of, .int .i64 t.pos] 85))) := Lib.hid (hkr.out.trans (Fr.of_alloc _ _ _))
      have HW : Hid (∀ W, LaidT W → Calls Tryz.prog 52 #[.agg #[.int .i64 t.kind, .string t.name, .int .i64 t.of, .int .i64 t.pos]] W (KeptPost (.string (strOf (wordS t.tok))) W)) := Lib.hid (fun W hW => kword_any t.kind t.name t.of t.pos W hsz hW)
      have HST : Hid (badS 0 L = if wordS t.tok = [] then some k else badS (k + 1) (L.drop (k + 1))) := Lib.hid (by rw [hto.out, drop_get (HG.out k t ht), badS])
      clear ht d0 d1 d2 d3 hto
      by_cases hw : wordS t.tok = []
      · have q1 : (strOf (wordS t.tok)).toList = [] := by rw [bs_toList, bs_strOf]; exact hw
        have q2 : (strOf (wordS t.tok)).toList.isEmpty = true := by rw [q1]; rfl
        have q3 : ((strOf (wordS t.tok)).toList == []) = true := by rw [q1]; rfl
        have HA : Hid (faultR L = (k, 2)) := Lib.hid (by unfold faultR; rw [HST.out, if_pos hw])
        clear hw HST
        go_wp2_with fail
        refine (HW.out _ (HL.out.kept HKA.out)).mono ?_
        rintro e w2 ⟨rfl, hk2⟩
        have HK2 := Lib.hid (HKA.out.trans hk2)
        clear hk2
        go_wp2
        go_ret2
        exact ⟨by rw [HA.out]; rfl, HK2.out⟩
      · have q1 : ¬ (strOf (wordS t.tok)).toList = [] := by rw [bs_toList, bs_strOf]; exact hw
        have q2 : (strOf (wordS t.tok)).toList.isEmpty = false := by simpa using q1
        have q3 : ((strOf (wordS t.tok)).toList == []) = false := by simpa using q1
        have HB := Lib.hid (HST.out.trans (if_neg hw))
        clear hw HST
        go_wp2_with fail
        refine (HW.out _ (HL.out.kept HKA.out)).mono ?_
        rintro e w2 ⟨rfl, hk2⟩
        have HK2 := Lib.hid (HKA.out.trans hk2)
        clear hk2
        go_wp2
        first
          | (go_roundw
             case rel => exact ⟨k + 1, by go_num, by omega, HK2, HB⟩
             case measure => simp [intOf]; omega)
          | exact ⟨⟨k + 1, by go_num, by omega, HK2, HB⟩, by simp [intOf]; omega⟩
    · have hlti : ¬ (k : Int) < n := by omega
      have HB0 : Hid (badS 0 L = none) := Lib.hid (by rw [hto.out, List.drop_eq_nil_of_le (by rw [HM.out]; omega)]; rfl)
      have HCR : Hid (faultR L = match chkS false false 0 0 L with | some x => x | none => if 200 < (L.filter notPar).length then (L.length, 3) else (0, 0)) := Lib.hid (by unfold faultR; rw [HB0.out])
      have HWO := Lib.hid (bad_none.1 HB0.out)
      have H2 : Hid (chkS false false 0 0 L = chkS (decide ((0 : Int) = 1 ∨ (0 : Int) = 7)) (decide ((0 : Int) = 5)) 0 0 (L.drop 0)) := Lib.hid rfl
      have H3 : Hid (0 = ((L.take 0).filter notPar).length) := Lib.hid rfl
      clear hto hlt
      go_wp2
      have hkr0 := hkr
      go_loopw [6, 7, 8, 25] (fun bv ov tv iv wr => ∃ (k tm : Nat) (b : Int) (op : Nat), bv = .int .i64 b ∧ ov = .int .i64 op ∧ tv = .int .i64 tm ∧ iv = .int .i64 k ∧ k ≤ n ∧ op ≤ 100 ∧ tm ≤ k ∧ Hid (Kept w wr) ∧ Hid (chkS false false 0 0 L = chkS (decide (b = 1 ∨ b = 7)) (decide (b = 5)) op k (L.drop k)) ∧ Hid (tm = ((L.take k).filter notPar).length)) (fun _ _ _ iv _ => n - (intOf iv).toNat)
      case atStart => exact ⟨0, 0, 0, 0, rfl, rfl, rfl, rfl, by omega, by omega, by omega, hkr0, H2, H3⟩
      case round =>
        obtain ⟨k, tm, b, op, rfl, rfl, rfl, rfl, hk, hop, htm, hkr, hto, hft⟩ := hrel
        clear H2 H3 hkr0
        by_cases hlt : k < n
        · have hlti : (k : Int) < n := by omega
          obtain ⟨t, ht⟩ : ∃ t, l[k]? = some t := ⟨_, List.getElem?_eq_getElem (by have := HN.out; omega)⟩
          obtain ⟨g, off, rfl, d0, d1, d2, d3⟩ := HC.out k t ht
          have c0 := hkr.out.cell d0 (fun x => x)
          have c1 := hkr.out.cell d1 (fun x => x)
          have c2 := hkr.out.cell d2 (fun x => x)
          have c3 := hkr.out.cell d3 (fun x => x)
          have HKA : Hid (Kept w (wr.alloc (.cells #[.int .i64 t.kind, .string t.name, .int .i64 t.of, .int .i64 t.pos] 85))) := Lib.hid (hkr.out.trans (Fr.of_alloc _ _ _))
          have H4A := Lib.hid (four_new wr (.int .i64 t.kind) (.string t.name) (.int .i64 t.of) (.int .i64 t.pos) 85)
          have HST := Lib.hid (chk_step (b := b) (op := op) (k := k) (r := L.drop (k + 1)) (HWO.out _ (List.mem_of_getElem? (HG.out k t ht))))
          have HTO : Hid (chkS false false 0 0 L = chkS (decide (b = 1 ∨ b = 7)) (decide (b = 5)) op k (t.tok :: L.drop (k + 1))) := Lib.hid (by rw [hto.out, drop_get (HG.out k t ht)])
          have HTK : Hid (((L.take (k + 1)).filter notPar).length = tm + (if notPar t.tok = true then 1 else 0)) := Lib.hid (by rw [take_get (HG.out k t ht), List.filter_append, List.length_append, ← hft.out, List.filter_cons]; split <;> rfl)
          have htk : t.tok.kind = t.kind := rfl
          have hto2 : t.tok.of = t.of := rfl
          rw [htk, hto2] at HST
          have HMY : Hid (∀ W, Calls Tryz.prog 135 #[.int .i64 b, .int .i64 op, .agg #[.int .i64 t.kind, .string t.name, .int .i64 t.of, .int .i64 t.pos]] W (KeptPost (.bool (mayB b op t.kind t.of)) W)) := Lib.hid (fun W => kmayf_any b op t.kind t.of t.pos t.name W)
          clear hto hft ht d0 d1 d2 d3 htk hto2
          go_wp2_with fail
          refine (HMY.out _).mono ?_
          rintro e w2 ⟨rfl, hk2⟩
          have H42 := Lib.hid (H4A.out.kept hk2)
          have HK2 := Lib.hid (HKA.out.trans hk2)
          clear hk2 H4A HKA
          generalize wr.heap.size = ga at *
          have e0 := H42.out.c0
          cases hm : mayB b op t.kind t.of
          · have HA : Hid (faultR L = (k, 2)) := Lib.hid (by rw [HCR.out, HTO.out, HST.out, if_pos hm])
            clear HST HTO HMY
            go_wp2
            go_ret2
            exact ⟨by rw [HA.out]; rfl, HK2.out⟩
          · have hmf : ¬ mayB b op t.kind t.of = false := by rw [hm]; decide
            by_cases k6 : t.kind = 6
            · have g6 : (t.kind == 6) = true := by simp [k6]
              by_cases h100 : op = 100
              · have HA : Hid (faultR L = (k, 3)) := Lib.hid (by rw [HCR.out, HTO.out, HST.out, if_neg hmf, if_pos k6, if_pos h100])
                have g100 : ((op : Int) == 100) = true := by rw [beq_iff_eq]; omega
                clear HST HTO HMY hmf k6
                go_wp2
                go_ret2
                exact ⟨by rw [HA.out]; rfl, HK2.out⟩
              · have g100 : ((op : Int) == 100) = false := by rw [beq_eq_false_iff_ne]; omega
                have HN2 : Hid (chkS false false 0 0 L = chkS (decide (t.kind = 1 ∨ t.kind = 7)) (decide (t.kind = 5)) (op + 1) (k + 1) (L.drop (k + 1))) := Lib.hid (by rw [HTO.out, HST.out, if_neg hmf, if_pos k6, if_neg h100, k6]; rfl)
                have HF2 : Hid (tm = ((L.take (k + 1)).filter notPar).length) := Lib.hid (by rw [HTK.out, if_neg (by show ¬ notPar t.tok = true; unfold notPar; rw [show t.tok.kind = 6 from k6]; decide)]; rfl)
                clear HST HTO HMY HTK hmf k6
                go_wp2
                go_roundw
                case rel => exact ⟨k + 1, tm, t.kind, op + 1, rfl, by go_num, rfl, by go_num, by omega, by omega, by omega, HK2, HN2, HF2⟩
                case measure => simp [intOf]; omega
            · have g6 : (t.kind == 6) = false := by simp [k6]
              by_cases k7 : t.kind = 7
              · have g7 : (t.kind == 7) = true := by simp [k7]
                have h0 : 0 < op := by rw [k7] at hm; exact may_seven hm
                have HN2 : Hid (chkS false false 0 0 L = chkS (decide (t.kind = 1 ∨ t.kind = 7)) (decide (t.kind = 5)) (op - 1) (k + 1) (L.drop (k + 1))) := Lib.hid (by rw [HTO.out, HST.out, if_neg hmf, if_neg k6, if_pos k7])
                have HF2 : Hid (tm = ((L.take (k + 1)).filter notPar).length) := Lib.hid (by rw [HTK.out, if_neg (by show ¬ notPar t.tok = true; unfold notPar; rw [show t.tok.kind = 7 from k7]; decide)]; rfl)
                clear HST HTO HMY HTK hmf k7 k6
                go_wp2
                go_roundw
                case rel => exact ⟨k + 1, tm, t.kind, op - 1, rfl, by go_num, rfl, by go_num, by omega, by omega, by omega, HK2, HN2, HF2⟩
                case measure => simp [intOf]; omega
              · have g7 : (t.kind == 7) = false := by simp [k7]
                have HN2 : Hid (chkS false false 0 0 L = chkS (decide (t.kind = 1 ∨ t.kind = 7)) (decide (t.kind = 5)) op (k + 1) (L.drop (k + 1))) := Lib.hid (by rw [HTO.out, HST.out, if_neg hmf, if_neg k6, if_neg k7])
                have HF2 : Hid (tm + 1 = ((L.take (k + 1)).filter notPar).length) := Lib.hid (by rw [HTK.out, if_pos (by show notPar t.tok = true; unfold notPar; exact decide_eq_true ⟨k6, k7⟩)])
                clear HST HTO HMY HTK hmf k7 k6
                go_wp2
                go_roundw
                case rel => exact ⟨k + 1, tm + 1, t.kind, op, rfl, rfl, by go_num, by go_num, by omega, by omega, by omega, HK2, HN2, HF2⟩
                case measure => simp [intOf]; omega
        · have hlti : ¬ (k : Int) < n := by omega
          have HE : Hid (chkS false false 0 0 L = if decide (b = 1 ∨ b = 7) = true ∧ op = 0 then none else some (k, 2)) := Lib.hid (by rw [hto.out, List.drop_eq_nil_of_le (by rw [HM.out]; omega), chkS])
          have HFT : Hid (tm = (L.filter notPar).length) := Lib.hid (by rw [hft.out, List.take_of_length_le (by rw [HM.out]; omega)])
          have hkn : Hid (k = n) := Lib.hid (by omega)
          have HEN : Hid (∀ W, Calls Tryz.prog 136 #[.int .i64 b] W fun e w' => e = .returned (.bool (decide (b = 1 ∨ b = 7))) ∧ W = w') := Lib.hid (fun W => kends_any b W)
          clear hto hft
          generalize decide (b = 1 ∨ b = 7) = hv at *
          cases hv
          · have HA : Hid (faultR L = (n, 2)) := Lib.hid (by rw [HCR.out, HE.out, if_neg (by simp), hkn.out])
            clear HE hkn
            go_wp2_with (go_at_call 136; refine (HEN.out _).mono ?_; rintro e w' ⟨rfl, rfl⟩)
            go_ret2
            exact ⟨by rw [HA.out]; rfl, hkr.out⟩
          · by_cases h0 : op = 0
            · have h0i : ¬ (0 : Int) < (op : Int) := by omega
              by_cases h200 : 200 < tm
              · have h2i : (200 : Int) < (tm : Int) := by omega
                have HA : Hid (faultR L = (n, 3)) := Lib.hid (by rw [HCR.out, HE.out, if_pos ⟨rfl, h0⟩]; simp only []; rw [if_pos (by rw [← HFT.out]; exact h200), HM.out])
                clear HE hkn h200
                go_wp2_with (go_at_call 136; refine (HEN.out _).mono ?_; rintro e w' ⟨rfl, rfl⟩)
                go_ret2
                exact ⟨by rw [HA.out]; rfl, hkr.out⟩
              · have h2i : ¬ (200 : Int) < (tm : Int) := by omega
                have HA : Hid (faultR L = (0, 0)) := Lib.hid (by rw [HCR.out, HE.out, if_pos ⟨rfl, h0⟩]; simp only []; rw [if_neg (by rw [← HFT.out]; exact h200)])
                clear HE hkn h200
                go_wp2_with (go_at_call 136; refine (HEN.out _).mono ?_; rintro e w' ⟨rfl, rfl⟩)
                go_ret2
                exact ⟨by rw [HA.out]; rfl, hkr.out⟩
            · have HA : Hid (faultR L = (n, 2)) := Lib.hid (by rw [HCR.out, HE.out, if_neg (by simp [h0]), hkn.out])
              have h0i : (0 : Int) < (op : Int) := by omega
              clear HE hkn
              go_wp2_with (go_at_call 136; refine (HEN.out _).mono ?_; rintro e w' ⟨rfl, rfl⟩)
              go_ret2
              exact ⟨by rw [HA.out]; rfl, hkr.out⟩

/-- the part that a row of signs begins with -/
def PT.prim : PT → PT
  | .atom t => .atom t
  | .par p => .par p
  | .bin _ a _ => a.prim
/-- the signs that follow, each with its right part -/
def PT.tail : PT → List (Int × PT)
  | .atom _ => []
  | .par _ => []
  | .bin op a b => a.tail ++ [(op, b)]
def tailT : List (Int × PT) → List Tok
  | [] => []
  | (op, b) :: r => opT op :: (b.toks ++ tailT r)
def tailX : List (Int × PT) → List Tok
  | [] => []
  | (op, b) :: r => b.ex.post ++ opT op :: tailX r
theorem tailT_append : ∀ a b : List (Int × PT), tailT (a ++ b) = tailT a ++ tailT b
  | [], b => rfl
  | (op, p) :: r, b => by simp [tailT, tailT_append r b]
theorem tailX_append : ∀ a b : List (Int × PT), tailX (a ++ b) = tailX a ++ tailX b
  | [], b => rfl
  | (op, p) :: r, b => by simp [tailX, tailX_append r b]
theorem PT.toks_spine : ∀ p : PT, p.toks = p.prim.toks ++ tailT p.tail
  | .atom t => by simp [PT.prim, PT.tail, tailT]
  | .par p => by simp [PT.prim, PT.tail, tailT]
  | .bin op a b => by
    have ih := PT.toks_spine a
    rw [PT.toks, ih]
    simp [PT.prim, PT.tail, tailT_append, tailT]
theorem PT.post_spine : ∀ p : PT, p.ex.post = p.prim.ex.post ++ tailX p.tail
  | .atom t => by simp [PT.prim, PT.tail, tailX]
  | .par p => by simp [PT.prim, PT.tail, tailX]
  | .bin op a b => by
    have ih := PT.post_spine a
    rw [PT.ex, Ex.post, ih]
    simp [PT.prim, PT.tail, tailX_append, tailX]
def headLe (u : Nat) : List (Int × PT) → Prop
  | [] => True
  | (o, _) :: _ => bindS o ≤ u
def TailOk (v : Nat) : List (Int × PT) → Prop
  | [] => True
  | (op, b) :: r => v ≤ bindS op ∧ bindS op ≠ 0 ∧ b.Ok ∧ bindS op < b.lev ∧ headLe (bindS op) r ∧ TailOk v r
theorem tailOk_mono {u v : Nat} (h : v ≤ u) : ∀ {l : List (Int × PT)}, TailOk u l → TailOk v l
  | [], _ => trivial
  | (op, b) :: r, ⟨h1, h2, h3, h4, h5, h6⟩ => ⟨Nat.le_trans h h1, h2, h3, h4, h5, tailOk_mono h h6⟩
theorem tailOk_append {op : Int} {b : PT} (hb : bindS op ≠ 0) (ho : b.Ok) (hl : bindS op < b.lev) : ∀ {l : List (Int × PT)}, TailOk (bindS op) l → TailOk (bindS op) (l ++ [(op, b)])
  | [], _ => ⟨Nat.le_refl _, hb, ho, hl, trivial, trivial⟩
  | (o, p) :: r, ⟨h1, h2, h3, h4, h5, h6⟩ => by
    refine ⟨h1, h2, h3, h4, ?_, tailOk_append hb ho hl h6⟩
    cases r with
    | nil => exact h1
    | cons y r => exact h5
theorem tail_ok : ∀ {p : PT} {v : Nat}, p.Ok → v ≤ p.lev → TailOk v p.tail
  | .atom t, v, _, _ => trivial
  | .par p, v, _, _ => trivial
  | .bin op a b, v, h, hv => by
    have ih := tail_ok (p := a) h.2.2.2.1 h.2.1
    exact tailOk_mono hv (tailOk_append h.1 h.2.2.2.2.1 h.2.2.1 ih)
/-- where the terms of a part end -/
def StopAt (v : Nat) (r : List Tok) : Prop := ∀ t s, r = t :: s → kbind t.kind < v
theorem kbind_op {k : Int} (h : bindS k ≠ 0) : kbind k = bindS k := by
  unfold kbind
  split
  · rename_i e; rw [e] at h; exact absurd rfl h
  · rfl
theorem stop_tail {u v : Nat} {l : List (Int × PT)} {r : List Tok} (h1 : headLe u l) (hr : StopAt v r) (hv : v ≤ u) (hl : TailOk v l) : StopAt (u + 1) (tailT l ++ r) := by
  intro t s he
  cases l with
  | nil => have := hr t s he; omega
  | cons y l =>
    obtain ⟨o, b⟩ := y
    simp only [tailT, List.cons_append, List.cons.injEq] at he
    obtain ⟨rfl, _⟩ := he
    show kbind o < u + 1
    rw [kbind_op hl.2.1]
    have : bindS o ≤ u := h1
    omega
theorem stop_close (r : List Tok) : StopAt 1 (opT 7 :: r) := by
  intro t s he
  simp only [List.cons.injEq] at he
  obtain ⟨rfl, _⟩ := he
  decide
theorem PT.prim_cases : ∀ {p : PT}, p.Ok → (∃ t, p.prim = .atom t ∧ AtomOk t) ∨ (∃ q, p.prim = .par q ∧ q.Ok)
  | .atom t, h => .inl ⟨t, rfl, h⟩
  | .par q, h => .inr ⟨q, rfl, h⟩
  | .bin op a b, h => PT.prim_cases (p := a) h.2.2.2.1
theorem post_le (p : PT) : p.ex.post.length ≤ p.toks.length := by have := PT.len p; omega

open Go.RowKit Go.ChangeShapes Go.WideShapes
/-- a block of one cell -/
def One (w : World) (g : Nat) (v : Value) : Prop := ∃ t, w.heap[g]? = some (.cells #[v] t (0, 0))
theorem One.cell {w : World} {g : Nat} {v : Value} (h : One w g v) : w.cell? ⟨g, 0, none⟩ = some v := by obtain ⟨t, h⟩ := h; rw [cell_whole h]; rfl
theorem One.fz {w : World} {g : Nat} {v : Value} (h : One w g v) : w.frozen? ⟨g, 0, none⟩ = false := by obtain ⟨t, h⟩ := h; simp [World.frozen?, h]
theorem One.lt {w : World} {g : Nat} {v : Value} (h : One w g v) : g < w.heap.size := by obtain ⟨t, h⟩ := h; exact (Array.getElem?_eq_some_iff.1 h).1
theorem One.fr {F : Nat → Prop} {w w' : World} {g : Nat} {v : Value} (h : One w g v) (hk : Fr F w w') (hF : ¬ F g) : One w' g v := by
  have hl := h.lt
  obtain ⟨t, h⟩ := h
  exact ⟨t, (hk.block g hl hF).trans h⟩
theorem One.kept {w w' : World} {g : Nat} {v : Value} (h : One w g v) (hk : Kept w w') : One w' g v := h.fr hk (fun x => x)
theorem One.put {w : World} {g : Nat} {v : Value} (x : Value) (h : One w g v) : One (w.setCell ⟨g, 0, none⟩ x) g x := by
  obtain ⟨t, h⟩ := h
  have := block_set (o := 0) (v := x) h
  exact ⟨t, by simpa using this⟩
theorem One.other {w : World} {g g' o : Nat} {v x : Value} (h : One w g v) (hn : g ≠ g') : One (w.setCell ⟨g', o, none⟩ x) g v := h.fr (Fr.of_setCell w ⟨g', o, none⟩ x) hn
theorem one_new (w : World) (v : Value) (t : TypeId) : One (w.alloc (.cells #[v] t)) w.heap.size v := ⟨t, heap_alloc_new w _⟩
/-- what a call turns: the blocks of C, and the row's -/
structure Mv (C : Nat → Prop) (v v' : Value) (w w' : World) : Prop where
  fr : Fr (fun g => C g ∨ v.ownBlock = some g) w w'
  own : ∀ g, v'.ownBlock = some g → v.ownBlock = some g ∨ w.heap.size ≤ g
theorem Mv.of_kept {C : Nat → Prop} {v : Value} {w w' : World} (h : Kept w w') : Mv C v v w w' := ⟨h.mono (fun _ _ x => x.elim), fun _ h => .inl h⟩
theorem Mv.trans {C : Nat → Prop} {v v' v'' : Value} {w w' w'' : World} (h : Mv C v v' w w') (k : Mv C v' v'' w' w'') : Mv C v v'' w w'' := by
  refine ⟨⟨k.fr.os.trans h.fr.os, k.fr.tape.trans h.fr.tape, k.fr.output.trans h.fr.output, Nat.le_trans h.fr.size k.fr.size, fun g hg hn => ?_⟩, fun g hg => ?_⟩
  · refine (k.fr.block g (Nat.lt_of_lt_of_le hg h.fr.size) (fun hc => ?_)).trans (h.fr.block g hg hn)
    rcases hc with hc | hc
    · exact hn (.inl hc)
    · rcases h.own g hc with h1 | h1
      · exact hn (.inr h1)
      · omega
  · rcases k.own g hg with h1 | h1
    · exact h.own g h1
    · exact .inr (Nat.le_trans h.fr.size h1)
theorem Mv.of_app {C : Nat → Prop} {w w' : World} {base size n : Nat} {e : TypeId} {v v' : Value} {xs : List Value} (h : AppPost w base e size v n xs v' w') : Mv C v v' w w' :=
  ⟨(Fr.of_grown h.2.1).mono (fun _ _ x => .inr x), h.2.2⟩
theorem Mv.of_set {C : Nat → Prop} {w : World} {g o : Nat} {v x : Value} (hC : C g) : Mv C v v w (w.setCell ⟨g, o, none⟩ x) :=
  ⟨(Fr.of_setCell w ⟨g, o, none⟩ x).mono (fun k _ e => by subst e; exact .inl hC), fun _ h => .inl h⟩
theorem own_lt {w : World} {base n size : Nat} {e : TypeId} {v : Value} {xs : List Value} (h : w.ownsRow base e size v n xs) {g : Nat} (hg : v.ownBlock = some g) : base ≤ g ∧ g < w.heap.size := by
  rcases h.2 with ⟨rfl, _⟩ | ⟨g', cap, cur, rfl, hb, h4, _⟩
  · simp [Value.ownBlock] at hg
  · simp [Value.ownBlock] at hg
    subst hg
    exact ⟨hb, (Array.getElem?_eq_some_iff.1 h4).1⟩
theorem Mv.four {C : Nat → Prop} {w w' : World} {base n size : Nat} {e : TypeId} {v v' : Value} {xs : List Value} {g : Nat} {a b c d : Value} (h : Mv C v v' w w') (ho : v.ownBlock ≠ some g) (hC : ¬ C g) (hf : Four w g a b c d) : Four w' g a b c d :=
  hf.fr h.fr (fun x => x.elim hC ho)
/-- an owned row is not touched by a store beside it -/
theorem own_beside {w : World} {base n size g o : Nat} {e : TypeId} {v x : Value} {xs : List Value} (h : w.ownsRow base e size v n xs) (hg : v.ownBlock ≠ some g) : (w.setCell ⟨g, o, none⟩ x).ownsRow base e size v n xs := by
  refine ⟨h.1, ?_⟩
  rcases h.2 with h2 | ⟨g', cap, cur, hv, hb, h4, h5⟩
  · exact .inl h2
  · refine .inr ⟨g', cap, cur, hv, hb, ?_, h5⟩
    have hne : g' ≠ g := by
      intro e
      subst e
      subst hv
      exact hg (by simp [Value.ownBlock])
    exact ((Fr.of_setCell w ⟨g, o, none⟩ x).block g' (Array.getElem?_eq_some_iff.1 h4).1 hne).trans h4
/-- where postfix stands: the boxes of l, x, at, next, and the row of terms -/
structure PS (w : World) (B bl bx ba bn : Nat) (lv : Value) (W : World) (i : Nat) (x : List Tok) (xv : Value) : Prop where
  kept : Kept w W
  ll : One W bl lv
  xx : One W bx xv
  aa : One W ba (.int .i64 (i : Int))
  nx : One W bn (.func (.func 137) #[] #[.pointer (some ⟨bl, 0, none⟩), .pointer (some ⟨ba, 0, none⟩), .pointer (some ⟨bn, 0, none⟩), .pointer (some ⟨bx, 0, none⟩)])
  row : W.ownsRow B 52 3 xv x.length (cellsX (toX x))
  hB : B ≤ W.heap.size
/-- the boxes lie apart, behind what was there -/
structure Apart (w : World) (B bl bx ba bn : Nat) : Prop where
  w0 : w.heap.size ≤ bl ∧ w.heap.size ≤ bx ∧ w.heap.size ≤ ba ∧ w.heap.size ≤ bn
  hb : bl < B ∧ bx < B ∧ ba < B ∧ bn < B
  h1 : bl ≠ bx
  h2 : bl ≠ ba
  h3 : bx ≠ ba
  h4 : bn ≠ bx
  h5 : bn ≠ ba
theorem PS.own {w : World} {B bl bx ba bn : Nat} {lv : Value} {W : World} {i : Nat} {x : List Tok} {xv : Value} (h : PS w B bl bx ba bn lv W i x xv) {g : Nat} (hg : xv.ownBlock = some g) : B ≤ g ∧ g < W.heap.size := own_lt h.row hg
theorem PS.later {w : World} {B bl bx ba bn : Nat} {lv : Value} {W W1 : World} {i : Nat} {x : List Tok} {xv : Value} (h : PS w B bl bx ba bn lv W i x xv) (hk : Kept W W1) : PS w B bl bx ba bn lv W1 i x xv :=
  ⟨h.kept.trans hk, h.ll.kept hk, h.xx.kept hk, h.aa.kept hk, h.nx.kept hk, own_kept h.row hk, Nat.le_trans h.hB hk.size⟩
theorem PS.step {w : World} {B bl bx ba bn : Nat} {lv : Value} {W : World} {i : Nat} {x : List Tok} {xv : Value} (h : PS w B bl bx ba bn lv W i x xv) (hA : Apart w B bl bx ba bn) (j : Nat) (v : Int) (hv : v = (j : Int)) : PS w B bl bx ba bn lv (W.setCell ⟨ba, 0, none⟩ (.int .i64 v)) j x xv := by
  subst hv
  have hne : ∀ g, g < B → xv.ownBlock ≠ some g := fun g hg e => by have := (h.own e).1; omega
  exact ⟨h.kept.over (Fr.of_setCell _ _ _) (fun k e => by subst e; exact hA.w0.2.2.1), h.ll.other hA.h2, h.xx.other hA.h3, h.aa.put _, h.nx.other hA.h5, own_beside h.row (hne _ hA.hb.2.2.1), by have := h.hB; have := (Fr.of_setCell W ⟨ba, 0, none⟩ (.int .i64 (j : Int))).size; omega⟩
theorem PS.app {w : World} {B bl bx ba bn : Nat} {lv : Value} {W W1 : World} {i : Nat} {x : List Tok} {xv v1 : Value} {t : Tok} (h : PS w B bl bx ba bn lv W i x xv) (hA : Apart w B bl bx ba bn)
    (hp : AppPost W B 52 3 xv (x.length + 1) (cellsX (toX x) ++ [.int .i64 t.kind, .int .i64 t.of, .string (strOf t.name)]) v1 W1) : PS w B bl bx ba bn lv (W1.setCell ⟨bx, 0, none⟩ v1) i (x ++ [t]) v1 := by
  have hw : ∀ g, xv.ownBlock = some g → w.heap.size ≤ g := fun g hg => by have := (h.own hg).1; have := hA.w0.1; have := hA.hb.1; omega
  have hf := Fr.of_grown hp.2.1
  have hne : ∀ g, g < B → ¬ (xv.ownBlock = some g) := fun g hg e => by have := (h.own e).1; omega
  have hlB : B ≤ W.heap.size ∨ ∀ g, v1.ownBlock = some g → B ≤ g := .inr (fun g hg => (own_lt hp.1 hg).1)
  have hne1 : ∀ g, g < B → v1.ownBlock ≠ some g := fun g hg e => by have := (own_lt hp.1 e).1; omega
  refine ⟨(h.kept.over hf (fun k e => hw k e)).over (Fr.of_setCell _ _ _) (fun k e => by subst e; exact hA.w0.2.1), (h.ll.fr hf (hne _ hA.hb.1)).other hA.h1, (h.xx.fr hf (hne _ hA.hb.2.1)).put _, (h.aa.fr hf (hne _ hA.hb.2.2.1)).other (Ne.symm hA.h3), (h.nx.fr hf (hne _ hA.hb.2.2.2)).other hA.h4, ?_, by have := h.hB; have := hf.size; have := (Fr.of_setCell W1 ⟨bx, 0, none⟩ v1).size; omega⟩
  have hr := own_beside (o := 0) (x := v1) hp.1 (hne1 _ hA.hb.2.1)
  rw [toX_append, cellsX_append, List.length_append]
  exact hr
theorem PS.box {w : World} {B bl bx ba bn : Nat} {lv : Value} {W W1 : World} {i m : Nat} {x : List Tok} {xv v1 : Value} {xs : List Value} (h : PS w B bl bx ba bn lv W i x xv) (hA : Apart w B bl bx ba bn)
    (hp : AppPost W B 52 3 xv m xs v1 W1) : One W1 bx xv :=
  h.xx.fr (Fr.of_grown hp.2.1) (fun e => by have := (h.own e).1; have := hA.hb.2.1; omega)
def CX (bx ba : Nat) (g : Nat) : Prop := g = bx ∨ g = ba
theorem PS.push {w : World} {B bl bx ba bn : Nat} {lv : Value} {W W0 W1 W2 : World} {i : Nat} {x : List Tok} {xv0 xv v1 : Value} {t : Tok} (h : PS w B bl bx ba bn lv W i x xv) (hA : Apart w B bl bx ba bn) (hm : Mv (CX bx ba) xv0 xv W0 W) (hk : Kept W W2)
    (hp : AppPost W2 B 52 3 xv (x.length + 1) (cellsX (toX x) ++ [.int .i64 t.kind, .int .i64 t.of, .string (strOf t.name)]) v1 W1) :
    PS w B bl bx ba bn lv (W1.setCell ⟨bx, 0, none⟩ v1) i (x ++ [t]) v1 ∧ Mv (CX bx ba) xv0 v1 W0 (W1.setCell ⟨bx, 0, none⟩ v1) :=
  ⟨(h.later hk).app hA hp, ((hm.trans (Mv.of_kept hk)).trans (Mv.of_app hp)).trans (Mv.of_set (.inl rfl))⟩
/-- where the tokens stand, as it is kept -/
def atOf (ba : Nat) (w : World) : Nat := (intOf ((w.cell? ⟨ba, 0, none⟩).getD undef)).toNat
theorem PS.atOf {w : World} {B bl bx ba bn : Nat} {lv : Value} {W : World} {i : Nat} {x : List Tok} {xv : Value} (h : PS w B bl bx ba bn lv W i x xv) : atOf ba W = i := by
  unfold Go.Proofs.YtbfealhbdemhmaaGreatDoor.atOf
  rw [h.aa.cell]
  simp [intOf]

end Go.Proofs.YtbfealhbdemhmaaGreatDoor
