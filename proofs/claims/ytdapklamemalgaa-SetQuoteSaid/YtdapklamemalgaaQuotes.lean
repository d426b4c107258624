/- SetQuote' walk. -/
import Derived.Test.YtdapklamemalgaaAnds
namespace Go.Proofs.Ytdapklamemalgaa
set_option linter.unusedVariables false
set_option linter.unusedSimpArgs false
open Go.RowKit Go.ChangeShapes Go.WideShapes


set_option maxHeartbeats 4000000 in
theorem setQuote_walk {w : World} (v1 : Value) (h1 : SetAt w v1) (v2 : Value) (h2 : SetAt w v2) (v3 : Value) (h3 : SetAt w v3) :
    Calls Try.prog 6 #[v1, v2, v3] w fun e w' => e = .returned (.bool true) ∧ Fr (fun _ => False) w w' := by
  obtain ⟨a, ha, hsa, hla⟩ := h1
  have HA := Lib.hid ha
  have HSA := Lib.hid hsa
  have HLA := Lib.hid hla
  obtain ⟨ao, ac, rfl, _, _⟩ := ha
  rw [wcells_len] at HA ⊢
  obtain ⟨na, hna⟩ : ∃ n, n = a.length := ⟨_, rfl⟩
  rw [← hna] at HA ⊢
  have HNA := Lib.hid hna
  clear hna hsa hla
  obtain ⟨b, hb, hsb, hlb⟩ := h2
  have HB := Lib.hid hb
  have HSB := Lib.hid hsb
  have HLB := Lib.hid hlb
  obtain ⟨bo, bc, rfl, _, _⟩ := hb
  rw [wcells_len] at HB ⊢
  obtain ⟨nb, hnb⟩ : ∃ n, n = b.length := ⟨_, rfl⟩
  rw [← hnb] at HB ⊢
  have HNB := Lib.hid hnb
  clear hnb hsb hlb
  obtain ⟨c, hc, hsc, hlc⟩ := h3
  have HC := Lib.hid hc
  have HSC := Lib.hid hsc
  have HLC := Lib.hid hlc
  obtain ⟨co, cc, rfl, _, _⟩ := hc
  rw [wcells_len] at HC ⊢
  obtain ⟨nc, hnc⟩ : ∃ n, n = c.length := ⟨_, rfl⟩
  rw [← hnc] at HC ⊢
  have HNC := Lib.hid hnc
  clear hnc hsc hlc
  go_enter Try.func6, Try.ntmps6
  go_wp2_with fail
  refine (awake_any w).mono ?_
  rintro e w1 ⟨rfl, hk⟩
  have HK := Lib.hid hk
  clear hk
  go_wp2_with fail
  refine (large_any (ls := [a, b, c]) (g := w1.heap.size) (vs := [.slice ao na ac, .slice bo nb bc, .slice co nc cc]) (heap_alloc_new w1 _) (sets_three ((HA.out.new HK.out).new (Fr.of_alloc _ _ _)) ((HB.out.new HK.out).new (Fr.of_alloc _ _ _)) ((HC.out.new HK.out).new (Fr.of_alloc _ _ _)) HLA.out HLB.out HLC.out HSA.out HSB.out HSC.out) (by simp)).mono ?_
  rintro e w2 ⟨rfl, rfl⟩
  replace HK := Lib.hid (HK.out.trans (Fr.of_alloc (fun _ => False) w1 (Obj.cells #[.slice ao na ac, .slice bo nb bc, .slice co nc cc] 23)))
  cases hlg : largeB [a, b, c]
  rotate_left
  · clear hlg
    go_wp2
    go_ret
    exact ⟨rfl, HK.out⟩
  have FA := Lib.hid (fits_three hlg).1
  have FB := Lib.hid (fits_three hlg).2.1
  have FC := Lib.hid (fits_three hlg).2.2
  clear hlg HSA HLA HSB HLB HSC HLC
  generalize w1.alloc (Obj.cells #[.slice ao na ac, .slice bo nb bc, .slice co nc cc] 23) = w2 at *
  replace HA := Lib.hid (HA.out.new HK.out)
  replace HB := Lib.hid (HB.out.new HK.out)
  replace HC := Lib.hid (HC.out.new HK.out)
  go_wp2_with fail
  refine (may_set HA.out FA.out.len FA.out.max).mono ?_
  rintro e wm ⟨rfl, hk⟩
  replace HK := Lib.hid (HK.out.trans hk)
  replace HA := Lib.hid (HA.out.new hk)
  replace HB := Lib.hid (HB.out.new hk)
  replace HC := Lib.hid (HC.out.new hk)
  clear hk
  cases hma : mayL a
  · clear hma
    go_wp2
    go_ret
    exact ⟨rfl, HK.out⟩
  have MA := Lib.hid hma
  clear hma
  go_wp2_with fail
  refine (may_set HB.out FB.out.len FB.out.max).mono ?_
  rintro e wm ⟨rfl, hk⟩
  replace HK := Lib.hid (HK.out.trans hk)
  replace HA := Lib.hid (HA.out.new hk)
  replace HB := Lib.hid (HB.out.new hk)
  replace HC := Lib.hid (HC.out.new hk)
  clear hk
  cases hmb : mayL b
  · clear hmb
    go_wp2
    go_ret
    exact ⟨rfl, HK.out⟩
  have MB := Lib.hid hmb
  clear hmb
  go_wp2_with fail
  refine (may_set HC.out FC.out.len FC.out.max).mono ?_
  rintro e wm ⟨rfl, hk⟩
  replace HK := Lib.hid (HK.out.trans hk)
  replace HA := Lib.hid (HA.out.new hk)
  replace HB := Lib.hid (HB.out.new hk)
  replace HC := Lib.hid (HC.out.new hk)
  clear hk
  cases hmc : mayL c
  · clear hmc
    go_wp2
    go_ret
    exact ⟨rfl, HK.out⟩
  have MC := Lib.hid hmc
  clear hmc
  have hba : na ≤ 16 := by have := (mayL_iff.1 MA.out).1; have := HNA.out; omega
  have hbb : nb ≤ 16 := by have := (mayL_iff.1 MB.out).1; have := HNB.out; omega
  have hbc : nc ≤ 16 := by have := (mayL_iff.1 MC.out).1; have := HNC.out; omega
  obtain ⟨ab, e1, hab⟩ : ∃ x e, quoteL a b = (x, e) := ⟨_, _, rfl⟩
  have E1 := Lib.hid hab
  clear hab
  obtain ⟨bc, e2, hbc⟩ : ∃ x e, quoteL b c = (x, e) := ⟨_, _, rfl⟩
  have E2 := Lib.hid hbc
  clear hbc
  obtain ⟨ac, e3, hac⟩ : ∃ x e, quoteL a c = (x, e) := ⟨_, _, rfl⟩
  have E3 := Lib.hid hac
  clear hac
  obtain ⟨both, e4, hboth⟩ : ∃ x e, andL b c = (x, e) := ⟨_, _, rfl⟩
  have E4 := Lib.hid hboth
  clear hboth
  go_wp2_with fail
  refine (quote_any HA.out HB.out FA.out.len FB.out.len FA.out.max FB.out.max).mono ?_
  rintro e wc ⟨vHAB, rfl, ho, hk⟩
  rw [E1.out] at ho ⊢
  replace HK := Lib.hid (HK.out.trans hk)
  replace HA := Lib.hid (HA.out.new hk)
  replace HB := Lib.hid (HB.out.new hk)
  replace HC := Lib.hid (HC.out.new hk)
  clear hk
  have HAB := Lib.hid (Reads.of_row ho).any
  clear ho
  go_wp2_with fail
  refine (quote_any HB.out HC.out FB.out.len FC.out.len FB.out.max FC.out.max).mono ?_
  rintro e wc ⟨vHBC, rfl, ho, hk⟩
  rw [E2.out] at ho ⊢
  replace HK := Lib.hid (HK.out.trans hk)
  replace HA := Lib.hid (HA.out.new hk)
  replace HB := Lib.hid (HB.out.new hk)
  replace HC := Lib.hid (HC.out.new hk)
  replace HAB := Lib.hid (HAB.out.new hk)
  clear hk
  have HBC := Lib.hid (Reads.of_row ho).any
  clear ho
  by_cases h12 : e1 = 0 ∧ e2 = 0
  · obtain ⟨rfl, rfl⟩ := h12
    have MAB := Lib.hid (quote_zero MA.out MB.out E1.out).2.2
    have FAB := Lib.hid (fits_may MAB.out)
    have FBC := Lib.hid (fits_may (quote_zero MB.out MC.out E2.out).2.2)
    obtain ⟨x, e5, hx⟩ : ∃ x e, quoteL ab c = (x, e) := ⟨_, _, rfl⟩
    have E5 := Lib.hid hx
    have E5b : Hid (quoteL a bc = (x, e5)) := Lib.hid (by rw [← quote_assoc_of MA.out MB.out MC.out E1.out E2.out]; exact hx)
    have HLX : Hid (x.length ≤ 100000) := Lib.hid (by have := quoteL_len ab c; rw [hx] at this; simp only at this; omega)
    clear hx
    go_wp2_with fail
    refine (quote_any HAB.out HC.out FAB.out.len FC.out.len FAB.out.max FC.out.max).mono ?_
    rintro e wc ⟨vHX, rfl, ho, hk⟩
    rw [E5.out] at ho ⊢
    replace HK := Lib.hid (HK.out.trans hk)
    replace HA := Lib.hid (HA.out.new hk)
    replace HB := Lib.hid (HB.out.new hk)
    replace HC := Lib.hid (HC.out.new hk)
    replace HAB := Lib.hid (HAB.out.new hk)
    replace HBC := Lib.hid (HBC.out.new hk)
    clear hk
    have HX := Lib.hid (Reads.of_row ho).any
    clear ho
    go_wp2_with fail
    refine (quote_any HA.out HBC.out FA.out.len FBC.out.len FA.out.max FBC.out.max).mono ?_
    rintro e wc ⟨vHY, rfl, ho, hk⟩
    rw [E5b.out] at ho ⊢
    replace HK := Lib.hid (HK.out.trans hk)
    replace HA := Lib.hid (HA.out.new hk)
    replace HB := Lib.hid (HB.out.new hk)
    replace HC := Lib.hid (HC.out.new hk)
    replace HAB := Lib.hid (HAB.out.new hk)
    replace HBC := Lib.hid (HBC.out.new hk)
    replace HX := Lib.hid (HX.out.new hk)
    clear hk
    have HY := Lib.hid (Reads.of_row ho).any
    clear ho
    go_wp2_with fail
    refine (equal_kept HX.out HY.out HLX.out HLX.out).mono ?_
    rintro e we ⟨rfl, hk⟩
    rw [eq_self]
    replace HK := Lib.hid (HK.out.trans hk)
    replace HA := Lib.hid (HA.out.new hk)
    replace HB := Lib.hid (HB.out.new hk)
    replace HC := Lib.hid (HC.out.new hk)
    replace HAB := Lib.hid (HAB.out.new hk)
    replace HBC := Lib.hid (HBC.out.new hk)
    replace HX := Lib.hid (HX.out.new hk)
    replace HY := Lib.hid (HY.out.new hk)
    clear hk
    clear HX HY HBC
    go_wp2_with fail
    refine (quote_any HA.out HC.out FA.out.len FC.out.len FA.out.max FC.out.max).mono ?_
    rintro e wc ⟨vHAC, rfl, ho, hk⟩
    rw [E3.out] at ho ⊢
    replace HK := Lib.hid (HK.out.trans hk)
    replace HA := Lib.hid (HA.out.new hk)
    replace HB := Lib.hid (HB.out.new hk)
    replace HC := Lib.hid (HC.out.new hk)
    replace HAB := Lib.hid (HAB.out.new hk)
    clear hk
    have HAC := Lib.hid (Reads.of_row ho).any
    clear ho
    go_wp2_with fail
    refine (and_any HB.out HC.out FB.out.len FC.out.len FB.out.max FC.out.max).mono ?_
    rintro e wc ⟨vHBO, rfl, ho, hk⟩
    rw [E4.out] at ho ⊢
    replace HK := Lib.hid (HK.out.trans hk)
    replace HA := Lib.hid (HA.out.new hk)
    replace HB := Lib.hid (HB.out.new hk)
    replace HC := Lib.hid (HC.out.new hk)
    replace HAB := Lib.hid (HAB.out.new hk)
    replace HAC := Lib.hid (HAC.out.new hk)
    clear hk
    have HBO := Lib.hid (Reads.of_row ho).any
    clear ho
    by_cases h3 : e3 = 0
    rotate_left
    · have g3 := bne_zero h3
      clear h3
      go_wp2_with fail
      go_ret
      exact ⟨rfl, HK.out⟩
    subst h3
    by_cases h4 : e4 = 0
    rotate_left
    · have g4 := bne_zero h4
      clear h4
      go_wp2_with fail
      go_ret
      exact ⟨rfl, HK.out⟩
    subst h4
    have FAC := Lib.hid (fits_may (quote_zero MA.out MC.out E3.out).2.2)
    have FBO := Lib.hid (fits_may (and_zero MB.out MC.out E4.out).2)
    obtain ⟨y, e6, hy⟩ : ∃ x e, quoteL a both = (x, e) := ⟨_, _, rfl⟩
    have E6 := Lib.hid hy
    have E6b : Hid (andL ab ac = (y, e6)) := Lib.hid (by rw [← quote_over MA.out MB.out MC.out E1.out E3.out E4.out]; exact hy)
    have HLY : Hid (y.length ≤ 100000) := Lib.hid (by have := quoteL_len a both; rw [hy] at this; simp only at this; omega)
    clear hy
    go_wp2_with fail
    refine (quote_any HA.out HBO.out FA.out.len FBO.out.len FA.out.max FBO.out.max).mono ?_
    rintro e wc ⟨vHX, rfl, ho, hk⟩
    rw [E6.out] at ho ⊢
    replace HK := Lib.hid (HK.out.trans hk)
    replace HA := Lib.hid (HA.out.new hk)
    replace HB := Lib.hid (HB.out.new hk)
    replace HC := Lib.hid (HC.out.new hk)
    replace HAB := Lib.hid (HAB.out.new hk)
    replace HAC := Lib.hid (HAC.out.new hk)
    replace HBO := Lib.hid (HBO.out.new hk)
    clear hk
    have HX := Lib.hid (Reads.of_row ho).any
    clear ho
    go_wp2_with fail
    refine (and_any HAB.out HAC.out FAB.out.len FAC.out.len FAB.out.max FAC.out.max).mono ?_
    rintro e wc ⟨vHY, rfl, ho, hk⟩
    rw [E6b.out] at ho ⊢
    replace HK := Lib.hid (HK.out.trans hk)
    replace HA := Lib.hid (HA.out.new hk)
    replace HB := Lib.hid (HB.out.new hk)
    replace HC := Lib.hid (HC.out.new hk)
    replace HAB := Lib.hid (HAB.out.new hk)
    replace HAC := Lib.hid (HAC.out.new hk)
    replace HBO := Lib.hid (HBO.out.new hk)
    replace HX := Lib.hid (HX.out.new hk)
    clear hk
    have HY := Lib.hid (Reads.of_row ho).any
    clear ho
    go_wp2_with fail
    refine (equal_kept HX.out HY.out HLY.out HLY.out).mono ?_
    rintro e we ⟨rfl, hk⟩
    rw [eq_self]
    replace HK := Lib.hid (HK.out.trans hk)
    replace HA := Lib.hid (HA.out.new hk)
    replace HB := Lib.hid (HB.out.new hk)
    replace HC := Lib.hid (HC.out.new hk)
    replace HAB := Lib.hid (HAB.out.new hk)
    replace HAC := Lib.hid (HAC.out.new hk)
    replace HBO := Lib.hid (HBO.out.new hk)
    replace HX := Lib.hid (HX.out.new hk)
    replace HY := Lib.hid (HY.out.new hk)
    clear hk
    go_wp2_with fail
    go_ret
    exact ⟨rfl, HK.out⟩
  · have g12 : (e1 == 0) = false ∨ (e1 == 0) = true ∧ (e2 == 0) = false := by
      by_cases h1 : e1 = 0
      · right; exact ⟨by simp [h1], beq_zero (fun h2 => h12 ⟨h1, h2⟩)⟩
      · left; exact beq_zero h1
    clear h12
    rcases g12 with g1 | ⟨g1, g2⟩
    · go_wp2_with fail
      refine (quote_any HA.out HC.out FA.out.len FC.out.len FA.out.max FC.out.max).mono ?_
      rintro e wc ⟨vHAC, rfl, ho, hk⟩
      rw [E3.out] at ho ⊢
      replace HK := Lib.hid (HK.out.trans hk)
      replace HA := Lib.hid (HA.out.new hk)
      replace HB := Lib.hid (HB.out.new hk)
      replace HC := Lib.hid (HC.out.new hk)
      replace HAB := Lib.hid (HAB.out.new hk)
      clear hk
      have HAC := Lib.hid (Reads.of_row ho).any
      clear ho g1
      go_wp2_with fail
      refine (and_any HB.out HC.out FB.out.len FC.out.len FB.out.max FC.out.max).mono ?_
      rintro e wc ⟨vHBO, rfl, ho, hk⟩
      rw [E4.out] at ho ⊢
      replace HK := Lib.hid (HK.out.trans hk)
      replace HA := Lib.hid (HA.out.new hk)
      replace HB := Lib.hid (HB.out.new hk)
      replace HC := Lib.hid (HC.out.new hk)
      replace HAB := Lib.hid (HAB.out.new hk)
      replace HAC := Lib.hid (HAC.out.new hk)
      clear hk
      have HBO := Lib.hid (Reads.of_row ho).any
      clear ho
      by_cases h1 : e1 = 0
      rotate_left
      · have g1 := bne_zero h1
        clear h1
        go_wp2_with fail
        go_ret
        exact ⟨rfl, HK.out⟩
      subst h1
      have MAB := Lib.hid (quote_zero MA.out MB.out E1.out).2.2
      have FAB := Lib.hid (fits_may MAB.out)
      by_cases h3 : e3 = 0
      rotate_left
      · have g3 := bne_zero h3
        clear h3
        go_wp2_with fail
        go_ret
        exact ⟨rfl, HK.out⟩
      subst h3
      by_cases h4 : e4 = 0
      rotate_left
      · have g4 := bne_zero h4
        clear h4
        go_wp2_with fail
        go_ret
        exact ⟨rfl, HK.out⟩
      subst h4
      have FAC := Lib.hid (fits_may (quote_zero MA.out MC.out E3.out).2.2)
      have FBO := Lib.hid (fits_may (and_zero MB.out MC.out E4.out).2)
      obtain ⟨y, e6, hy⟩ : ∃ x e, quoteL a both = (x, e) := ⟨_, _, rfl⟩
      have E6 := Lib.hid hy
      have E6b : Hid (andL ab ac = (y, e6)) := Lib.hid (by rw [← quote_over MA.out MB.out MC.out E1.out E3.out E4.out]; exact hy)
      have HLY : Hid (y.length ≤ 100000) := Lib.hid (by have := quoteL_len a both; rw [hy] at this; simp only at this; omega)
      clear hy
      go_wp2_with fail
      refine (quote_any HA.out HBO.out FA.out.len FBO.out.len FA.out.max FBO.out.max).mono ?_
      rintro e wc ⟨vHX, rfl, ho, hk⟩
      rw [E6.out] at ho ⊢
      replace HK := Lib.hid (HK.out.trans hk)
      replace HA := Lib.hid (HA.out.new hk)
      replace HB := Lib.hid (HB.out.new hk)
      replace HC := Lib.hid (HC.out.new hk)
      replace HAB := Lib.hid (HAB.out.new hk)
      replace HAC := Lib.hid (HAC.out.new hk)
      replace HBO := Lib.hid (HBO.out.new hk)
      clear hk
      have HX := Lib.hid (Reads.of_row ho).any
      clear ho
      go_wp2_with fail
      refine (and_any HAB.out HAC.out FAB.out.len FAC.out.len FAB.out.max FAC.out.max).mono ?_
      rintro e wc ⟨vHY, rfl, ho, hk⟩
      rw [E6b.out] at ho ⊢
      replace HK := Lib.hid (HK.out.trans hk)
      replace HA := Lib.hid (HA.out.new hk)
      replace HB := Lib.hid (HB.out.new hk)
      replace HC := Lib.hid (HC.out.new hk)
      replace HAB := Lib.hid (HAB.out.new hk)
      replace HAC := Lib.hid (HAC.out.new hk)
      replace HBO := Lib.hid (HBO.out.new hk)
      replace HX := Lib.hid (HX.out.new hk)
      clear hk
      have HY := Lib.hid (Reads.of_row ho).any
      clear ho
      go_wp2_with fail
      refine (equal_kept HX.out HY.out HLY.out HLY.out).mono ?_
      rintro e we ⟨rfl, hk⟩
      rw [eq_self]
      replace HK := Lib.hid (HK.out.trans hk)
      replace HA := Lib.hid (HA.out.new hk)
      replace HB := Lib.hid (HB.out.new hk)
      replace HC := Lib.hid (HC.out.new hk)
      replace HAB := Lib.hid (HAB.out.new hk)
      replace HAC := Lib.hid (HAC.out.new hk)
      replace HBO := Lib.hid (HBO.out.new hk)
      replace HX := Lib.hid (HX.out.new hk)
      replace HY := Lib.hid (HY.out.new hk)
      clear hk
      go_wp2_with fail
      go_ret
      exact ⟨rfl, HK.out⟩
    · go_wp2_with fail
      refine (quote_any HA.out HC.out FA.out.len FC.out.len FA.out.max FC.out.max).mono ?_
      rintro e wc ⟨vHAC, rfl, ho, hk⟩
      rw [E3.out] at ho ⊢
      replace HK := Lib.hid (HK.out.trans hk)
      replace HA := Lib.hid (HA.out.new hk)
      replace HB := Lib.hid (HB.out.new hk)
      replace HC := Lib.hid (HC.out.new hk)
      replace HAB := Lib.hid (HAB.out.new hk)
      clear hk
      have HAC := Lib.hid (Reads.of_row ho).any
      clear ho g1 g2
      go_wp2_with fail
      refine (and_any HB.out HC.out FB.out.len FC.out.len FB.out.max FC.out.max).mono ?_
      rintro e wc ⟨vHBO, rfl, ho, hk⟩
      rw [E4.out] at ho ⊢
      replace HK := Lib.hid (HK.out.trans hk)
      replace HA := Lib.hid (HA.out.new hk)
      replace HB := Lib.hid (HB.out.new hk)
      replace HC := Lib.hid (HC.out.new hk)
      replace HAB := Lib.hid (HAB.out.new hk)
      replace HAC := Lib.hid (HAC.out.new hk)
      clear hk
      have HBO := Lib.hid (Reads.of_row ho).any
      clear ho
      by_cases h1 : e1 = 0
      rotate_left
      · have g1 := bne_zero h1
        clear h1
        go_wp2_with fail
        go_ret
        exact ⟨rfl, HK.out⟩
      subst h1
      have MAB := Lib.hid (quote_zero MA.out MB.out E1.out).2.2
      have FAB := Lib.hid (fits_may MAB.out)
      by_cases h3 : e3 = 0
      rotate_left
      · have g3 := bne_zero h3
        clear h3
        go_wp2_with fail
        go_ret
        exact ⟨rfl, HK.out⟩
      subst h3
      by_cases h4 : e4 = 0
      rotate_left
      · have g4 := bne_zero h4
        clear h4
        go_wp2_with fail
        go_ret
        exact ⟨rfl, HK.out⟩
      subst h4
      have FAC := Lib.hid (fits_may (quote_zero MA.out MC.out E3.out).2.2)
      have FBO := Lib.hid (fits_may (and_zero MB.out MC.out E4.out).2)
      obtain ⟨y, e6, hy⟩ : ∃ x e, quoteL a both = (x, e) := ⟨_, _, rfl⟩
      have E6 := Lib.hid hy
      have E6b : Hid (andL ab ac = (y, e6)) := Lib.hid (by rw [← quote_over MA.out MB.out MC.out E1.out E3.out E4.out]; exact hy)
      have HLY : Hid (y.length ≤ 100000) := Lib.hid (by have := quoteL_len a both; rw [hy] at this; simp only at this; omega)
      clear hy
      go_wp2_with fail
      refine (quote_any HA.out HBO.out FA.out.len FBO.out.len FA.out.max FBO.out.max).mono ?_
      rintro e wc ⟨vHX, rfl, ho, hk⟩
      rw [E6.out] at ho ⊢
      replace HK := Lib.hid (HK.out.trans hk)
      replace HA := Lib.hid (HA.out.new hk)
      replace HB := Lib.hid (HB.out.new hk)
      replace HC := Lib.hid (HC.out.new hk)
      replace HAB := Lib.hid (HAB.out.new hk)
      replace HAC := Lib.hid (HAC.out.new hk)
      replace HBO := Lib.hid (HBO.out.new hk)
      clear hk
      have HX := Lib.hid (Reads.of_row ho).any
      clear ho
      go_wp2_with fail
      refine (and_any HAB.out HAC.out FAB.out.len FAC.out.len FAB.out.max FAC.out.max).mono ?_
      rintro e wc ⟨vHY, rfl, ho, hk⟩
      rw [E6b.out] at ho ⊢
      replace HK := Lib.hid (HK.out.trans hk)
      replace HA := Lib.hid (HA.out.new hk)
      replace HB := Lib.hid (HB.out.new hk)
      replace HC := Lib.hid (HC.out.new hk)
      replace HAB := Lib.hid (HAB.out.new hk)
      replace HAC := Lib.hid (HAC.out.new hk)
      replace HBO := Lib.hid (HBO.out.new hk)
      replace HX := Lib.hid (HX.out.new hk)
      clear hk
      have HY := Lib.hid (Reads.of_row ho).any
      clear ho
      go_wp2_with fail
      refine (equal_kept HX.out HY.out HLY.out HLY.out).mono ?_
      rintro e we ⟨rfl, hk⟩
      rw [eq_self]
      replace HK := Lib.hid (HK.out.trans hk)
      replace HA := Lib.hid (HA.out.new hk)
      replace HB := Lib.hid (HB.out.new hk)
      replace HC := Lib.hid (HC.out.new hk)
      replace HAB := Lib.hid (HAB.out.new hk)
      replace HAC := Lib.hid (HAC.out.new hk)
      replace HBO := Lib.hid (HBO.out.new hk)
      replace HX := Lib.hid (HX.out.new hk)
      replace HY := Lib.hid (HY.out.new hk)
      clear hk
      go_wp2_with fail
      go_ret
      exact ⟨rfl, HK.out⟩
end Go.Proofs.Ytdapklamemalgaa
