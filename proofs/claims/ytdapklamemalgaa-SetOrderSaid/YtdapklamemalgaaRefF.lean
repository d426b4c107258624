/- What the document's As and For do. -/
import Derived.Test.YtdapklamemalgaaRefQ
namespace Go.Proofs.Ytdapklamemalgaa
set_option linter.unusedVariables false
set_option linter.unusedSimpArgs false
open Go.RowKit Go.ChangeShapes Go.WideShapes

theorem small_one2 (r : Int) : Small 100000 [ofS [r]] := fun s hs => by
  rw [List.mem_singleton] at hs
  subst hs
  rw [ofS_size]
  simp
set_option maxHeartbeats 1000000 in
theorem ras_any {w : World} {G : Nat → Prop} {va : Value} {a : List ByteArray} {r : Int} (ha : Reads w G va (wcells a)) (hla : a.length ≤ 100000) (hsa : Small 100000 a) (h0 : 0 ≤ r) (h1 : r ≤ 65535) :
    Calls Try.prog 24 #[va, .int .u16 r] w (SetPost (asL a r) w) := by
  have HA := Lib.hid ha
  have HSA := Lib.hid hsa
  clear ha hsa
  cases hm : mayL a
  · have HE := Lib.hid (asL_bad (r := r) hm)
    go_enter Try.func24, Try.ntmps24
    go_wp2_with fail
    refine (rmay_set HA.out hla HSA.out).mono ?_
    rintro e w' ⟨rfl, hk1⟩
    rw [hm]
    have HK := Lib.hid hk1
    clear hk1
    go_wp2
    go_ret2
    exact set_post HE.out (own_nil _ _ _ _) HK.out
  · by_cases hr1 : r < 40960
    · have HE := Lib.hid (asL_kind (r := r) hm (by simp; omega))
      go_enter Try.func24, Try.ntmps24
      go_wp2_with fail
      refine (rmay_set HA.out hla HSA.out).mono ?_
      rintro e w' ⟨rfl, hk1⟩
      rw [hm]
      have HK := Lib.hid hk1
      clear hk1
      go_wp2
      go_ret2
      exact set_post HE.out (own_nil _ _ _ _) HK.out
    · by_cases hr2 : 49152 ≤ r
      · have HE := Lib.hid (asL_kind (r := r) hm (by simp; omega))
        go_enter Try.func24, Try.ntmps24
        go_wp2_with fail
        refine (rmay_set HA.out hla HSA.out).mono ?_
        rintro e w' ⟨rfl, hk1⟩
        rw [hm]
        have HK := Lib.hid hk1
        clear hk1
        go_wp2
        go_ret2
        exact set_post HE.out (own_nil _ _ _ _) HK.out
      · have HE := Lib.hid (asL_ok (r := r) hm (by simp; omega))
        have HG := Lib.hid (good_one h0 h1)
        go_enter Try.func24, Try.ntmps24
        go_wp2_with fail
        refine (rmay_set HA.out hla HSA.out).mono ?_
        rintro e w1 ⟨rfl, hk1⟩
        rw [hm]
        have HK := Lib.hid hk1
        clear hk1
        have HR := Lib.hid (reads_built (heap_alloc_new w1 (Obj.cells #[.int .u16 r] 25)))
        go_wp2_with fail
        refine (rof_any (l := [r]) HR.out HG.out (by simp)).mono ?_
        rintro e w2 ⟨rfl, hk2⟩
        replace HK := Lib.hid ((HK.out.trans (Fr.of_alloc _ _ _)).trans hk2)
        clear hk2 HR
        have HR2 := Lib.hid (reads_built (heap_alloc_new w2 (Obj.cells #[.string (ofS [r])] 36))).any
        go_wp2_with fail
        refine (rquote_any (b := [ofS [r]]) ((HA.out.new HK.out).new (Fr.of_alloc _ _ _)).any HR2.out hla (by simp) HSA.out (small_one2 r)).mono ?_
        rintro e w4 ⟨v4, rfl, ho4, hk4⟩
        have HP : Hid (SetPost (quoteL a [ofS [r]]) w (.returned (.tuple #[v4, .int .i64 (quoteL a [ofS [r]]).2])) w4) := Lib.hid (set_later ⟨v4, rfl, ho4, hk4⟩ (HK.out.trans (Fr.of_alloc _ _ _)))
        clear ho4 hk4
        go_wp2
        go_ret2
        rw [HE.out]
        exact HP.out
set_option maxHeartbeats 1000000 in
theorem rfor_any {w : World} {G : Nat → Prop} {va vb : Value} {a b : List ByteArray} (ha : Reads w G va (wcells a)) (hb : Reads w G vb (wcells b)) (hla : a.length ≤ 100000) (hlb : b.length ≤ 100000) (hsa : Small 100000 a) (hsb : Small 100000 b) :
    Calls Try.prog 22 #[va, vb] w (SetPost (forL a b) w) := by
  have HA := Lib.hid ha
  have HB := Lib.hid hb
  have HSA := Lib.hid hsa
  have HSB := Lib.hid hsb
  clear ha hb hsa hsb
  obtain ⟨x, e1, hx⟩ : ∃ x e, quoteL a b = (x, e) := ⟨_, _, rfl⟩
  obtain ⟨y, e2, hy⟩ : ∃ y e, quoteL [ofS [1]] b = (y, e) := ⟨_, _, rfl⟩
  have HX := Lib.hid hx
  have HY := Lib.hid hy
  have hlx := quoteL_len a b
  have hly := quoteL_len [ofS [1]] b
  have hsx := quoteL_small a b
  have hsy := quoteL_small [ofS [1]] b
  rw [hx] at hlx hsx
  rw [hy] at hly hsy
  have HLX : Hid (x.length ≤ 16) := Lib.hid hlx
  have HLY : Hid (y.length ≤ 16) := Lib.hid hly
  have HSX : Hid (Small 100000 x) := Lib.hid (small_of hsx (by omega))
  have HSY : Hid (Small 100000 y) := Lib.hid (small_of hsy (by omega))
  have HG := Lib.hid (good_one (x := 1) (by omega) (by omega))
  clear hlx hly hsx hsy hx hy
  by_cases h1 : e1 = 0
  · subst h1
    by_cases h2 : e2 = 0
    · subst h2
      have HE := Lib.hid (forL_ok HX.out HY.out)
      go_enter Try.func22, Try.ntmps22
      go_wp2_with fail
      refine (rquote_any HA.out HB.out hla hlb HSA.out HSB.out).mono ?_
      rintro e w1 ⟨v1, rfl, ho1, hk1⟩
      rw [HX.out] at ho1 ⊢
      have HK := Lib.hid hk1
      have HR1 := Lib.hid (Reads.of_row ho1).any
      clear hk1 ho1
      have HR := Lib.hid (reads_built (heap_alloc_new w1 (Obj.cells #[.int .u16 1] 25)))
      go_wp2_with fail
      refine (rof_any (l := [1]) HR.out HG.out (by simp)).mono ?_
      rintro e w2 ⟨rfl, hk2⟩
      replace HR1 := Lib.hid ((HR1.out.new (Fr.of_alloc _ _ _)).new hk2)
      replace HK := Lib.hid ((HK.out.trans (Fr.of_alloc _ _ _)).trans hk2)
      clear hk2 HR
      have HR2 := Lib.hid (reads_built (heap_alloc_new w2 (Obj.cells #[.string (ofS [1])] 36))).any
      go_wp2_with fail
      refine (rquote_any (a := [ofS [1]]) HR2.out ((HB.out.new HK.out).new (Fr.of_alloc _ _ _)).any (by simp) hlb (small_one2 1) HSB.out).mono ?_
      rintro e w3 ⟨v3, rfl, ho3, hk3⟩
      rw [HY.out] at ho3 ⊢
      replace HR1 := Lib.hid ((HR1.out.new (Fr.of_alloc _ _ _)).new hk3)
      replace HK := Lib.hid ((HK.out.trans (Fr.of_alloc _ _ _)).trans hk3)
      have HR3 := Lib.hid (Reads.of_row ho3).any
      clear hk3 ho3
      go_wp2_with fail
      refine (rand_any HR1.out HR3.out (by have := HLX.out; omega) (by have := HLY.out; omega) HSX.out HSY.out).mono ?_
      rintro e w4 ⟨v4, rfl, ho4, hk4⟩
      have HP : Hid (SetPost (andL x y) w (.returned (.tuple #[v4, .int .i64 (andL x y).2])) w4) := Lib.hid (set_later ⟨v4, rfl, ho4, hk4⟩ HK.out)
      clear ho4 hk4
      go_wp2
      go_ret2
      rw [HE.out]
      exact HP.out
    · have HE := Lib.hid (forL_two HX.out HY.out h2)
      have g2 : (e2 != 0) = true := by simpa using h2
      clear h2
      go_enter Try.func22, Try.ntmps22
      go_wp2_with fail
      refine (rquote_any HA.out HB.out hla hlb HSA.out HSB.out).mono ?_
      rintro e w1 ⟨v1, rfl, ho1, hk1⟩
      rw [HX.out] at ho1 ⊢
      have HK := Lib.hid hk1
      clear hk1 ho1
      have HR := Lib.hid (reads_built (heap_alloc_new w1 (Obj.cells #[.int .u16 1] 25)))
      go_wp2_with fail
      refine (rof_any (l := [1]) HR.out HG.out (by simp)).mono ?_
      rintro e w2 ⟨rfl, hk2⟩
      replace HK := Lib.hid ((HK.out.trans (Fr.of_alloc _ _ _)).trans hk2)
      clear hk2 HR
      have HR2 := Lib.hid (reads_built (heap_alloc_new w2 (Obj.cells #[.string (ofS [1])] 36))).any
      go_wp2_with fail
      refine (rquote_any (a := [ofS [1]]) HR2.out ((HB.out.new HK.out).new (Fr.of_alloc _ _ _)).any (by simp) hlb (small_one2 1) HSB.out).mono ?_
      rintro e w3 ⟨v3, rfl, ho3, hk3⟩
      rw [HY.out]
      replace HK := Lib.hid ((HK.out.trans (Fr.of_alloc _ _ _)).trans hk3)
      clear hk3 ho3
      go_wp2
      go_ret2
      exact set_post HE.out (own_nil _ _ _ _) HK.out
  · have HE := Lib.hid (forL_one HX.out h1)
    have g1 : (e1 != 0) = true := by simpa using h1
    clear h1
    go_enter Try.func22, Try.ntmps22
    go_wp2_with fail
    refine (rquote_any HA.out HB.out hla hlb HSA.out HSB.out).mono ?_
    rintro e w1 ⟨v1, rfl, ho1, hk1⟩
    rw [HX.out]
    have HK := Lib.hid hk1
    clear hk1 ho1
    go_wp2
    go_ret2
    exact set_post HE.out (own_nil _ _ _ _) HK.out
end Go.Proofs.Ytdapklamemalgaa
