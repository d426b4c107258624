/- Contracts and lemmas: Named -/
import Derived.Test.YtdapdpmplbifdaaDoorWord
import Derived.Laws.ResultCell
import Derived.Shelf.Small.Wraps
import Derived.Test.YtdapdpmplbifdaaDoorShelf
namespace Go.Proofs.YtdapdpmplbifdaaDoor
set_option linter.unusedVariables false
set_option linter.unusedSimpArgs false
open Go.RowKit Go.ChangeShapes Go.WideShapes
theorem pk_hit {s : List UInt8} {k : Nat} (hk : k < 6) (e : tPre (k : Int) = s ++ [58]) : pkS s = k ∧ pkS s ≠ 0 := by
  have hd : s = (tPre (k : Int)).dropLast := by rw [e]; simp
  have hc : k = 0 ∨ k = 1 ∨ k = 2 ∨ k = 3 ∨ k = 4 ∨ k = 5 := by omega
  rcases hc with rfl | rfl | rfl | rfl | rfl | rfl
  · have := congrArg List.length e; simp [tPre] at this
  · rw [hd]; decide
  · rw [hd]; decide
  · have := congrArg List.length e; simp [tPre] at this
  · rw [hd]; decide
  · rw [hd]; decide
theorem pk_none {s : List UInt8} (h : ∀ j : Nat, j < 6 → tPre (j : Int) ≠ s ++ [58]) : pkS s = 0 := by
  unfold pkS
  rw [if_neg (fun e => h 1 (by decide) (by rw [e]; decide)), if_neg (fun e => h 2 (by decide) (by rw [e]; decide)), if_neg (fun e => h 4 (by decide) (by rw [e]; decide)), if_neg (fun e => h 5 (by decide) (by rw [e]; decide))]
/-- a token's result cell, not yet written -/
structure Res (w W : World) (g : Nat) : Prop where
  r : Four W g (.int .i64 0) (.string ⟨#[]⟩) (.int .i64 0) (.int .i64 0)
  kept : Kept w W
  laid : LaidT W
  n0 : w.heap.size ≤ g
theorem Res.later {w W W1 : World} {g : Nat} (h : Res w W g) (hk : Kept W W1) : Res w W1 g := ⟨h.r.kept hk, h.kept.trans hk, h.laid.kept hk, h.n0⟩
theorem res_new {w : World} (hL : LaidT w) : Res w (w.alloc (Obj.cells #[.int .i64 0, .string ⟨#[]⟩, .int .i64 0, .int .i64 0] 31)) w.heap.size := ⟨four_new _ _ _ _ _ _, Fr.of_alloc _ _ _, hL.kept (Fr.of_alloc _ _ _), Nat.le_refl _⟩
theorem results_one_cell {fn : Func} {p : Tmp} {ty : TypeId} (h : fn.results = #[.cell p ty]) (tmps : Array Value) (P : Program) (w : World) :
    (results fn tmps).run P w = ((asAddr (tmps.getD p undef)).run P w).andThen fun a w₁ => (loadVar ty a).run P w₁ := by
  simp only [results, h]
  simp [Sem.run_bind, Result.andThen]
theorem named_ret {W : World} {g : Nat} {a b c d : Value} {tmps : Array Value} (h : Four W g a b c d) (h4 : tmps.getD 4 undef = .pointer (some ⟨g, 0, none⟩)) :
    (results Tryd.f70 tmps).run Tryd.prog W = .ok (.agg #[a, b, c, d]) W := by
  have c0 := h.c0
  have c1 := h.c1
  have c2 := h.c2
  have c3 := h.c3
  rw [results_one_cell rfl, h4]
  go_simp
set_option maxHeartbeats 2000000 in
theorem knamed_any (n b : ByteArray) (w : World) (hn : n.size ≤ 1000000) (hb : b.size ≤ 1000000) (hL : LaidT w) :
    Calls Tryd.prog 70 #[.string n, .string b] w (KeptPost (tokV (namedS (bs n) (bs b)) 0) w) := by
  have H0 := Lib.hid (res_new hL)
  clear hL
  by_cases hk0 : fixK (bs n) = 0
  · have HF : Hid (∀ W, LaidT W → Calls Tryd.prog 73 #[.string n] W fun e w' => e = .returned (.int .i64 0) ∧ W = w') := Lib.hid (fun W h => by rw [← hk0]; exact kfixed_any n W h)
    have HV : Hid (namedS (bs n) (bs b) = if (bs b).head? = some 58 ∧ pkS (bs n) ≠ 0 then ⟨1, leadS ((bs b).drop 1), pkS (bs n)⟩ else ⟨1, bs n, 3⟩) := Lib.hid (by unfold namedS; rw [if_neg (by simp [hk0])])
    clear hk0
    cases hp : Lib.hasPrefix (bs b) [58]
    · have HC : Hid (∀ W, ∃ y : ByteArray, Calls Tryd.prog 82 #[.string b, .string ⟨#[58]⟩] W fun e w' => e = .returned (.tuple #[.string y, .bool false]) ∧ w' = W) := Lib.hid (fun W => ⟨_, by rw [← hp]; exact Any.strings_CutPrefix Tryd.cutPrefixL b ⟨#[58]⟩ W⟩)
      have HA : Hid (tokV (namedS (bs n) (bs b)) 0 = .agg #[.int .i64 1, .string n, .int .i64 3, .int .i64 0]) := Lib.hid (by
        rw [HV.out, if_neg]
        · unfold tokV; rw [strOf_bs]; rfl
        · rintro ⟨h1, _⟩
          cases hl : bs b with
          | nil => rw [hl] at h1; cases h1
          | cons c r =>
            rw [hl] at h1 hp
            have : c = 58 := by simpa using h1
            subst this
            exact absurd hp (by simp [Lib.hasPrefix]))
      clear hp
      go_enter Tryd.func70, Tryd.ntmps70
      go_wp2_with fail
      generalize w.alloc _ = w0 at H0 ⊢
      generalize w.heap.size = g0 at H0 ⊢
      refine (HF.out _ H0.out.laid).mono ?_
      rintro e w1 ⟨rfl, rfl⟩
      go_wp2_with fail
      obtain ⟨y, hy⟩ := HC.out w0
      refine hy.mono ?_
      clear hy
      rintro e w1 ⟨rfl, rfl⟩
      have r0 := H0.out.r.c0
      have r1 := H0.out.r.c1
      have r2 := H0.out.r.c2
      have r3 := H0.out.r.c3
      have f0 := H0.out.r.fz 0
      have f1 := H0.out.r.fz 1
      have f2 := H0.out.r.fz 2
      have f3 := H0.out.r.fz 3
      go_wp2
      clear r0 r1 r2 r3 f0 f1 f2 f3
      refine bodyPost_ret (named_ret H0.out.r.put rfl) rfl ⟨?_, put_kept H0.out.kept H0.out.n0⟩
      rw [HA.out]
    · obtain ⟨f, hf⟩ : ∃ f, bs b = 58 :: f := by
        unfold Lib.hasPrefix at hp
        obtain ⟨r, hr⟩ := List.isPrefixOf_iff_prefix.1 hp
        exact ⟨r, hr.symm⟩
      have HC : Hid (∀ W, Calls Tryd.prog 82 #[.string b, .string ⟨#[58]⟩] W fun e w' => e = .returned (.tuple #[.string (strOf f), .bool true]) ∧ w' = W) := Lib.hid (fun W => by
        have h1 := Any.strings_CutPrefix Tryd.cutPrefixL b ⟨#[58]⟩ W
        have h2 : Lib.trimPrefix b.data.toList [58] = f := by
          show Lib.trimPrefix (bs b) [58] = f
          unfold Lib.trimPrefix
          rw [if_pos hp, hf]; rfl
        refine h1.mono ?_
        rintro e w' ⟨rfl, rfl⟩
        refine ⟨?_, rfl⟩
        show Ending.returned (.tuple #[.string ⟨(Lib.trimPrefix b.data.toList [58]).toArray⟩, .bool (Lib.hasPrefix (bs b) [58])]) = _
        rw [h2, hp]; rfl)
      have hfs : (strOf f).size ≤ 1000000 := by
        rw [strOf_size]
        have := bs_len b
        rw [hf, List.length_cons] at this
        omega
      have HV2 : Hid (namedS (bs n) (bs b) = if pkS (bs n) ≠ 0 then ⟨1, leadS f, pkS (bs n)⟩ else ⟨1, bs n, 3⟩) := Lib.hid (by
        rw [HV.out, hf]
        by_cases hq : pkS (bs n) ≠ 0
        · rw [if_pos ⟨rfl, hq⟩, if_pos hq]; rfl
        · rw [if_neg (fun e => hq e.2), if_neg hq])
      have HLN : Hid (∀ W, Calls Tryd.prog 69 #[.string (strOf f)] W (KeptPost (.string (strOf (leadS f))) W)) := Lib.hid (fun W => by
        have := kname_any (strOf f) W hfs
        rwa [bs_strOf] at this)
      have hcat : ∀ W, (Op.stringOp .add n ⟨#[58]⟩).run Tryd.prog W = .ok (.string (n ++ ⟨#[58]⟩)) W := fun W => run_string_add_sum _ _ _ (by have h1 : (⟨#[58]⟩ : ByteArray).size = 1 := rfl; omega)
      have HY : Hid (bs (n ++ ⟨#[58]⟩) = bs n ++ [58]) := Lib.hid (by rw [bs_append]; rfl)
      generalize n ++ ⟨#[58]⟩ = y at hcat HY
      clear hp hf HV hfs
      go_enter Tryd.func70, Tryd.ntmps70
      go_wp2_with fail
      generalize w.alloc _ = w0 at H0 ⊢
      generalize w.heap.size = g0 at H0 ⊢
      refine (HF.out _ H0.out.laid).mono ?_
      rintro e w1 ⟨rfl, rfl⟩
      have p0 := H0.out.laid.pre 0 (by decide)
      have p1 := H0.out.laid.pre 1 (by decide)
      have p2 := H0.out.laid.pre 2 (by decide)
      have p3 := H0.out.laid.pre 3 (by decide)
      have p4 := H0.out.laid.pre 4 (by decide)
      have p5 := H0.out.laid.pre 5 (by decide)
      go_wp2_with (go_at_call 82; refine (HC.out _).mono ?_; rintro e w' ⟨rfl, rfl⟩)
      clear p0 p1 p2 p3 p4 p5
      go_loop [23] (fun i => ∃ k : Nat, k ≤ 6 ∧ i = .int .i64 k ∧ Hid (∀ j : Nat, j < k → tPre (j : Int) ≠ bs n ++ [58])) (fun i => 6 - (intOf i).toNat)
      case atStart => exact ⟨0, by omega, rfl, Lib.hid (fun j h => by omega)⟩
      case round =>
        obtain ⟨k, hk, rfl, hall⟩ := hrel
        by_cases hlt : k < 6
        · have hlti : (k : Int) < 6 := by omega
          have hidx := idx6 k hlt
          by_cases he : tPre (k : Int) = bs n ++ [58]
          · have HA : Hid (tokV (namedS (bs n) (bs b)) 0 = .agg #[.int .i64 1, .string (strOf (leadS f)), .int .i64 (k : Int), .int .i64 0]) := Lib.hid (by
              have hq := pk_hit hlt he
              rw [HV2.out, if_pos hq.2, hq.1]
              rfl)
            have hq : ((strOf (tPre (k : Int))).toList == y.toList) = true := by rw [bs_toList, bs_strOf, bs_toList, HY.out, he]; simp
            clear he
            generalize strOf (tPre (k : Int)) = x at *
            go_wp2_with fail
            refine (HLN.out _).mono ?_
            rintro e w1 ⟨rfl, hk1⟩
            have H1 := Lib.hid (H0.out.later hk1)
            clear hk1
            have r0 := H1.out.r.c0
            have r1 := H1.out.r.c1
            have r2 := H1.out.r.c2
            have r3 := H1.out.r.c3
            have f0 := H1.out.r.fz 0
            have f1 := H1.out.r.fz 1
            have f2 := H1.out.r.fz 2
            have f3 := H1.out.r.fz 3
            go_wp2
            clear r0 r1 r2 r3 f0 f1 f2 f3
            refine bodyPost_ret (named_ret H1.out.r.put rfl) rfl ⟨?_, put_kept H1.out.kept H1.out.n0⟩
            rw [HA.out]
          · have HA : Hid (∀ j : Nat, j < k + 1 → tPre (j : Int) ≠ bs n ++ [58]) := Lib.hid (fun j hj => by
              rcases Nat.lt_or_ge j k with h | h
              · exact hall.out j h
              · obtain rfl : j = k := by omega
                exact he)
            have hq : ((strOf (tPre (k : Int))).toList == y.toList) = false := by rw [bs_toList, bs_strOf, bs_toList, HY.out]; simpa using he
            clear he
            generalize strOf (tPre (k : Int)) = x at *
            go_wp2
            go_round
            case rel => exact ⟨k + 1, by omega, by go_num, HA⟩
            case measure => simp [intOf]; omega
        · have hlti : ¬ (k : Int) < 6 := by omega
          have HA : Hid (tokV (namedS (bs n) (bs b)) 0 = .agg #[.int .i64 1, .string n, .int .i64 3, .int .i64 0]) := Lib.hid (by
            have hq := pk_none (fun j hj => hall.out j (by omega))
            rw [HV2.out, if_neg (by simp [hq])]
            unfold tokV; rw [strOf_bs]; rfl)
          have r0 := H0.out.r.c0
          have r1 := H0.out.r.c1
          have r2 := H0.out.r.c2
          have r3 := H0.out.r.c3
          have f0 := H0.out.r.fz 0
          have f1 := H0.out.r.fz 1
          have f2 := H0.out.r.fz 2
          have f3 := H0.out.r.fz 3
          go_wp2
          clear r0 r1 r2 r3 f0 f1 f2 f3
          refine bodyPost_ret (named_ret H0.out.r.put rfl) rfl ⟨?_, put_kept H0.out.kept H0.out.n0⟩
          rw [HA.out]
  · have hkb : (fixK (bs n) != 0) = true := by simp [hk0]
    have HF : Hid (∀ W, LaidT W → Calls Tryd.prog 73 #[.string n] W fun e w' => e = .returned (.int .i64 (fixK (bs n))) ∧ W = w') := Lib.hid (fun W h => kfixed_any n W h)
    have HA : Hid (tokV (namedS (bs n) (bs b)) 0 = .agg #[.int .i64 (fixK (bs n)), .string ⟨#[]⟩, .int .i64 0, .int .i64 0]) := Lib.hid (by unfold namedS; rw [if_pos hk0]; rfl)
    clear hk0
    generalize fixK (bs n) = q at *
    go_enter Tryd.func70, Tryd.ntmps70
    go_wp2_with fail
    generalize w.alloc _ = w0 at H0 ⊢
    generalize w.heap.size = g0 at H0 ⊢
    refine (HF.out _ H0.out.laid).mono ?_
    rintro e w1 ⟨rfl, rfl⟩
    have r0 := H0.out.r.c0
    have r1 := H0.out.r.c1
    have r2 := H0.out.r.c2
    have r3 := H0.out.r.c3
    have f0 := H0.out.r.fz 0
    have f1 := H0.out.r.fz 1
    have f2 := H0.out.r.fz 2
    have f3 := H0.out.r.fz 3
    go_wp2
    clear r0 r1 r2 r3 f0 f1 f2 f3
    refine bodyPost_ret (named_ret H0.out.r.put rfl) rfl ⟨?_, put_kept H0.out.kept H0.out.n0⟩
    rw [HA.out]

end Go.Proofs.YtdapdpmplbifdaaDoor
