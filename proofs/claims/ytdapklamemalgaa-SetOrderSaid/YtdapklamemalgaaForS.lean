/- What Quote, As and For do. -/
import Derived.Test.YtdapklamemalgaaQuote
namespace Go.Proofs.Ytdapklamemalgaa
set_option linter.unusedVariables false
set_option linter.unusedSimpArgs false
open Go.RowKit Go.ChangeShapes Go.WideShapes

theorem quoteL_bad {a b : List ByteArray} (h : (mayL a && mayL b) = false) : quoteL a b = ([], 2) := by unfold quoteL; rw [if_pos h]
theorem quoteL_long {a b : List ByteArray} (h : (mayL a && mayL b) = true) (h2 : longB (crossL a b) = true) : quoteL a b = ([], 4) := by unfold quoteL; rw [if_neg (by simp [h]), if_pos h2]
theorem small_of {n m : Nat} {l : List ByteArray} (h : Small n l) (hn : n ≤ m) : Small m l := fun s hs => Nat.le_trans (h s hs) hn
theorem small_long {l : List ByteArray} (h : longB l = false) : Small maxLen l := fun s hs => by
  have := longB_false h s hs
  unfold maxLen; omega
theorem cross_le {a b : List ByteArray} (ha : mayL a = true) (hb : mayL b = true) : (crossL a b).length ≤ 256 := by
  rw [cross_len]
  exact Nat.mul_le_mul (mayL_iff.1 ha).1.2 (mayL_iff.1 hb).1.2
set_option maxHeartbeats 1000000 in
theorem quote_any {w : World} {G : Nat → Prop} {va vb : Value} {a b : List ByteArray} (ha : Reads w G va (wcells a)) (hb : Reads w G vb (wcells b)) (hla : a.length ≤ 100000) (hlb : b.length ≤ 100000) (hsa : Small maxLen a) (hsb : Small maxLen b) :
    Calls Try.prog 19 #[va, vb] w (SetPost (quoteL a b) w) := by
  have HA := Lib.hid ha
  have HB := Lib.hid hb
  have HSA := Lib.hid hsa
  have HSB := Lib.hid hsb
  clear ha hb hsa hsb
  cases hm : mayL a
  · have HE : Hid (quoteL a b = ([], 2)) := Lib.hid (quoteL_bad (by simp [hm]))
    go_enter Try.func19, Try.ntmps19
    go_wp2_with fail
    refine (may_set HA.out hla HSA.out).mono ?_
    rintro e w' ⟨rfl, hk1⟩
    rw [hm]
    have HK := Lib.hid hk1
    clear hk1
    go_wp2
    go_ret2
    exact set_post HE.out (own_nil _ _ _ _) HK.out
  · cases hm2 : mayL b
    · have HE : Hid (quoteL a b = ([], 2)) := Lib.hid (quoteL_bad (by simp [hm2]))
      go_enter Try.func19, Try.ntmps19
      go_wp2_with fail
      refine (may_set HA.out hla HSA.out).mono ?_
      rintro e w' ⟨rfl, hk1⟩
      rw [hm]
      have HK := Lib.hid hk1
      clear hk1
      go_wp2_with fail
      refine (may_set (HB.out.new HK.out) hlb HSB.out).mono ?_
      rintro e w' ⟨rfl, hk1⟩
      rw [hm2]
      replace HK := Lib.hid (HK.out.trans hk1)
      clear hk1
      go_wp2
      go_ret2
      exact set_post HE.out (own_nil _ _ _ _) HK.out
    · have HM := Lib.hid hm
      have HM2 := Lib.hid hm2
      cases hlong : longB (crossL a b)
      · have HE := Lib.hid (of_cross (a := a) (b := b) (by simp [hm, hm2]) hlong)
        have HS := Lib.hid (small_long hlong)
        have HC := Lib.hid (collL_ok hlong)
        clear hlong
        go_enter Try.func19, Try.ntmps19
        go_wp2_with fail
        refine (may_set HA.out hla HSA.out).mono ?_
        rintro e w' ⟨rfl, hk1⟩
        rw [hm]
        have HK := Lib.hid hk1
        clear hk1
        go_wp2_with fail
        refine (may_set (HB.out.new HK.out) hlb HSB.out).mono ?_
        rintro e w2 ⟨rfl, hk1⟩
        rw [hm2]
        replace HK := Lib.hid (HK.out.trans hk1)
        clear hk1 hm hm2
        go_wp2_with fail
        refine (collect_any (HA.out.new HK.out) (HB.out.new HK.out) HM.out HM2.out).mono ?_
        rintro e w3 ⟨v3, rfl, ho3, hk3⟩
        rw [HC.out] at ho3 ⊢
        replace HK := Lib.hid (HK.out.trans hk3)
        have HR := Lib.hid (Reads.of_row ho3)
        clear hk3 ho3
        go_wp2_with fail
        refine (of_set HR.out (by have := cross_le HM.out HM2.out; omega) HS.out).mono ?_
        rintro e w4 ⟨v4, rfl, ho4, hk4⟩
        have HP : Hid (SetPost (ofL (crossL a b)) w (.returned (.tuple #[v4, .int .i64 (ofL (crossL a b)).2])) w4) := Lib.hid (set_later ⟨v4, rfl, ho4, hk4⟩ HK.out)
        clear ho4 hk4
        go_wp2
        go_ret2
        rw [← HE.out]
        exact HP.out
      · have HE := Lib.hid (quoteL_long (a := a) (b := b) (by simp [hm, hm2]) hlong)
        have HC := Lib.hid (collL_long hlong)
        clear hlong
        go_enter Try.func19, Try.ntmps19
        go_wp2_with fail
        refine (may_set HA.out hla HSA.out).mono ?_
        rintro e w' ⟨rfl, hk1⟩
        rw [hm]
        have HK := Lib.hid hk1
        clear hk1
        go_wp2_with fail
        refine (may_set (HB.out.new HK.out) hlb HSB.out).mono ?_
        rintro e w2 ⟨rfl, hk1⟩
        rw [hm2]
        replace HK := Lib.hid (HK.out.trans hk1)
        clear hk1 hm hm2
        go_wp2_with fail
        refine (collect_any (HA.out.new HK.out) (HB.out.new HK.out) HM.out HM2.out).mono ?_
        rintro e w3 ⟨v3, rfl, ho3, hk3⟩
        rw [HC.out]
        replace HK := Lib.hid (HK.out.trans hk3)
        clear hk3 ho3
        go_wp2
        go_ret2
        exact set_post HE.out (own_nil _ _ _ _) HK.out

theorem good_one {x : Int} (h0 : 0 ≤ x) (h1 : x ≤ 65535) : Good [x] := fun y hy => by
  rw [List.mem_singleton] at hy; subst hy; exact ⟨h0, h1⟩
theorem alone_any (x : Int) (w : World) (h0 : 0 ≤ x) (h1 : x ≤ 65535) : Calls Try.prog 46 #[.int .u16 x] w (WordsPost w [ofS [x]]) := by
  have HG := Lib.hid (good_one h0 h1)
  have HR := Lib.hid (reads_built (heap_alloc_new w (Obj.cells #[.int .u16 x] 25)))
  clear h0 h1
  go_enter Try.func46, Try.ntmps46
  go_wp2_with fail
  refine (of_any (l := [x]) HR.out HG.out (by simp)).mono ?_
  rintro e w1 ⟨rfl, hk1⟩
  have HK : Hid (Kept w w1) := Lib.hid ((Fr.of_alloc _ _ _).trans hk1)
  clear hk1
  go_wp2
  go_ret
  refine ⟨_, rfl, ?_, HK.out.trans (Fr.of_alloc _ _ _)⟩
  exact own_built (heap_alloc_new w1 (Obj.cells #[.string (ofS [x])] 36)) HK.out.size (by simp [maxLen])
theorem boundL_len (s : List ByteArray) : (boundL s).1.length ≤ 16 := by
  unfold boundL
  split
  · simp
  · simp; omega
theorem boundL_mem {s : List ByteArray} {x : ByteArray} (h : x ∈ (boundL s).1) : x ∈ s := by
  unfold boundL at h
  split at h
  · simp at h
  · exact h
theorem quoteL_len (a b : List ByteArray) : (quoteL a b).1.length ≤ 16 := by
  unfold quoteL
  split
  · simp
  · split
    · simp
    · exact boundL_len _
theorem quoteL_small (a b : List ByteArray) : Small 16 (quoteL a b).1 := by
  intro s hs
  unfold quoteL at hs
  split at hs
  · simp at hs
  · split at hs
    · simp at hs
    · rename_i h
      exact longB_false (by simpa using h) s ((mem_right _ _).1 (boundL_mem hs))
theorem asL_bad {a : List ByteArray} {r : Int} (h : mayL a = false) : asL a r = ([], 2) := by unfold asL; rw [if_pos h]
theorem asL_kind {a : List ByteArray} {r : Int} (h : mayL a = true) (h2 : decide (r / 8192 = 5) = false) : asL a r = ([], 1) := by unfold asL; rw [if_neg (by simp [h]), if_pos h2]
theorem asL_ok {a : List ByteArray} {r : Int} (h : mayL a = true) (h2 : decide (r / 8192 = 5) = true) : asL a r = quoteL a [ofS [r]] := by unfold asL; rw [if_neg (by simp [h]), if_neg (by simp [h2])]
theorem small_one (r : Int) : Small maxLen [ofS [r]] := fun s hs => by
  rw [List.mem_singleton] at hs
  subst hs
  rw [ofS_size]
  unfold maxLen
  simp
set_option maxHeartbeats 1000000 in
theorem as_any {w : World} {G : Nat → Prop} {va : Value} {a : List ByteArray} {r : Int} (ha : Reads w G va (wcells a)) (hla : a.length ≤ 100000) (hsa : Small maxLen a) (h0 : 0 ≤ r) (h1 : r ≤ 65535) :
    Calls Try.prog 23 #[va, .int .u16 r] w (SetPost (asL a r) w) := by
  have HA := Lib.hid ha
  have HSA := Lib.hid hsa
  clear ha hsa
  cases hm : mayL a
  · have HE := Lib.hid (asL_bad (r := r) hm)
    go_enter Try.func23, Try.ntmps23
    go_wp2_with fail
    refine (may_set HA.out hla HSA.out).mono ?_
    rintro e w' ⟨rfl, hk1⟩
    rw [hm]
    have HK := Lib.hid hk1
    clear hk1
    go_wp2
    go_ret2
    exact set_post HE.out (own_nil _ _ _ _) HK.out
  · have e1 : r.tdiv 8192 = r / 8192 := Int.tdiv_eq_ediv_of_nonneg h0
    have e2 : IntKind.u16.wrap (r / 8192) = r / 8192 := u16_in _ (by omega) (by omega)
    cases hr : decide (r / 8192 = 5)
    · have HE := Lib.hid (asL_kind hm hr)
      have e3 : (r / 8192 != 5) = true := by simpa using hr
      clear hr
      go_enter Try.func23, Try.ntmps23
      go_wp2_with fail
      refine (may_set HA.out hla HSA.out).mono ?_
      rintro e w' ⟨rfl, hk1⟩
      rw [hm]
      have HK := Lib.hid hk1
      clear hk1
      go_wp2
      go_ret2
      exact set_post HE.out (own_nil _ _ _ _) HK.out
    · have HE := Lib.hid (asL_ok hm hr)
      have e3 : (r / 8192 != 5) = false := by simpa using hr
      clear hr
      go_enter Try.func23, Try.ntmps23
      go_wp2_with fail
      refine (may_set HA.out hla HSA.out).mono ?_
      rintro e w' ⟨rfl, hk1⟩
      rw [hm]
      have HK := Lib.hid hk1
      clear hk1
      go_wp2_with fail
      refine (alone_any r _ h0 h1).mono ?_
      rintro e w2 ⟨v2, rfl, ho2, hk2⟩
      replace HK := Lib.hid (HK.out.trans hk2)
      have HR := Lib.hid (Reads.of_row ho2).any
      clear hk2 ho2 e1 e2 e3
      go_wp2_with fail
      refine (quote_any (HA.out.new HK.out).any HR.out hla (by simp) HSA.out (small_one r)).mono ?_
      rintro e w4 ⟨v4, rfl, ho4, hk4⟩
      have HP : Hid (SetPost (quoteL a [ofS [r]]) w (.returned (.tuple #[v4, .int .i64 (quoteL a [ofS [r]]).2])) w4) := Lib.hid (set_later ⟨v4, rfl, ho4, hk4⟩ HK.out)
      clear ho4 hk4
      go_wp2
      go_ret2
      rw [HE.out]
      exact HP.out
theorem forL_one {a b x : List ByteArray} {e : Int} (h : quoteL a b = (x, e)) (he : e ≠ 0) : forL a b = ([], e) := by
  unfold forL
  rw [h, if_pos (by simpa using he)]
theorem forL_two {a b x y : List ByteArray} {e : Int} (h : quoteL a b = (x, 0)) (h2 : quoteL [ofS [1]] b = (y, e)) (he : e ≠ 0) : forL a b = ([], e) := by
  unfold forL
  rw [h, h2, if_neg (by simp), if_pos (by simpa using he)]
theorem forL_ok {a b x y : List ByteArray} (h : quoteL a b = (x, 0)) (h2 : quoteL [ofS [1]] b = (y, 0)) : forL a b = andL x y := by
  unfold forL
  rw [h, h2, if_neg (by simp), if_neg (by simp)]
set_option maxHeartbeats 1000000 in
theorem for_any {w : World} {G : Nat → Prop} {va vb : Value} {a b : List ByteArray} (ha : Reads w G va (wcells a)) (hb : Reads w G vb (wcells b)) (hla : a.length ≤ 100000) (hlb : b.length ≤ 100000) (hsa : Small maxLen a) (hsb : Small maxLen b) :
    Calls Try.prog 21 #[va, vb] w (SetPost (forL a b) w) := by
  have HA := Lib.hid ha
  have HB := Lib.hid hb
  have HSA := Lib.hid hsa
  have HSB := Lib.hid hsb
  clear ha hb hsa hsb
  obtain ⟨x, e1, hx⟩ : ∃ x e, quoteL a b = (x, e) := ⟨_, _, rfl⟩
  obtain ⟨y, e2, hy⟩ : ∃ y e, quoteL [ofS [1]] b = (y, e) := ⟨_, _, rfl⟩
  have HX := Lib.hid hx
  have HY := Lib.hid hy
  have hlx := quoteL_len a b
  have hly := quoteL_len [ofS [1]] b
  have hsx := quoteL_small a b
  have hsy := quoteL_small [ofS [1]] b
  rw [hx] at hlx hsx
  rw [hy] at hly hsy
  have HLX : Hid (x.length ≤ 16) := Lib.hid hlx
  have HLY : Hid (y.length ≤ 16) := Lib.hid hly
  have HSX : Hid (Small maxLen x) := Lib.hid (small_of hsx (by unfold maxLen; omega))
  have HSY : Hid (Small maxLen y) := Lib.hid (small_of hsy (by unfold maxLen; omega))
  clear hlx hly hsx hsy hx hy
  by_cases h1 : e1 = 0
  · subst h1
    by_cases h2 : e2 = 0
    · subst h2
      have HE := Lib.hid (forL_ok HX.out HY.out)
      go_enter Try.func21, Try.ntmps21
      go_wp2_with fail
      refine (quote_any HA.out HB.out hla hlb HSA.out HSB.out).mono ?_
      rintro e w1 ⟨v1, rfl, ho1, hk1⟩
      rw [HX.out] at ho1 ⊢
      have HK := Lib.hid hk1
      have HR1 := Lib.hid (Reads.of_row ho1).any
      clear hk1 ho1
      go_wp2_with fail
      refine (alone_any 1 _ (by omega) (by omega)).mono ?_
      rintro e w2 ⟨v2, rfl, ho2, hk2⟩
      replace HR1 := Lib.hid (HR1.out.new hk2)
      replace HK := Lib.hid (HK.out.trans hk2)
      have HR2 := Lib.hid (Reads.of_row ho2).any
      clear hk2 ho2
      go_wp2_with fail
      refine (quote_any HR2.out (HB.out.new HK.out).any (by simp) hlb (small_one 1) HSB.out).mono ?_
      rintro e w3 ⟨v3, rfl, ho3, hk3⟩
      rw [HY.out] at ho3 ⊢
      replace HR1 := Lib.hid (HR1.out.new hk3)
      replace HK := Lib.hid (HK.out.trans hk3)
      have HR3 := Lib.hid (Reads.of_row ho3).any
      clear hk3 ho3
      go_wp2_with fail
      refine (and_any HR1.out HR3.out (by have := HLX.out; omega) (by have := HLY.out; omega) HSX.out HSY.out).mono ?_
      rintro e w4 ⟨v4, rfl, ho4, hk4⟩
      have HP : Hid (SetPost (andL x y) w (.returned (.tuple #[v4, .int .i64 (andL x y).2])) w4) := Lib.hid (set_later ⟨v4, rfl, ho4, hk4⟩ HK.out)
      clear ho4 hk4
      go_wp2
      go_ret2
      rw [HE.out]
      exact HP.out
    · have HE := Lib.hid (forL_two HX.out HY.out h2)
      have g2 : (e2 != 0) = true := by simpa using h2
      clear h2
      go_enter Try.func21, Try.ntmps21
      go_wp2_with fail
      refine (quote_any HA.out HB.out hla hlb HSA.out HSB.out).mono ?_
      rintro e w1 ⟨v1, rfl, ho1, hk1⟩
      rw [HX.out] at ho1 ⊢
      have HK := Lib.hid hk1
      clear hk1 ho1
      go_wp2_with fail
      refine (alone_any 1 _ (by omega) (by omega)).mono ?_
      rintro e w2 ⟨v2, rfl, ho2, hk2⟩
      replace HK := Lib.hid (HK.out.trans hk2)
      have HR2 := Lib.hid (Reads.of_row ho2).any
      clear hk2 ho2
      go_wp2_with fail
      refine (quote_any HR2.out (HB.out.new HK.out).any (by simp) hlb (small_one 1) HSB.out).mono ?_
      rintro e w3 ⟨v3, rfl, ho3, hk3⟩
      rw [HY.out]
      replace HK := Lib.hid (HK.out.trans hk3)
      clear hk3 ho3
      go_wp2
      go_ret2
      exact set_post HE.out (own_nil _ _ _ _) HK.out
  · have HE := Lib.hid (forL_one HX.out h1)
    have g1 : (e1 != 0) = true := by simpa using h1
    clear h1
    go_enter Try.func21, Try.ntmps21
    go_wp2_with fail
    refine (quote_any HA.out HB.out hla hlb HSA.out HSB.out).mono ?_
    rintro e w1 ⟨v1, rfl, ho1, hk1⟩
    rw [HX.out]
    have HK := Lib.hid hk1
    clear hk1 ho1
    go_wp2
    go_ret2
    exact set_post HE.out (own_nil _ _ _ _) HK.out
end Go.Proofs.Ytdapklamemalgaa
