/- SetAnd' walk. -/
import Derived.Test.YtdapklamemalgaaAlg
namespace Go.Proofs.Ytdapklamemalgaa
set_option linter.unusedVariables false
set_option linter.unusedSimpArgs false
open Go.RowKit Go.ChangeShapes Go.WideShapes

theorem fits_may {l : List ByteArray} (h : mayL l = true) : Fits l :=
  ⟨by have := (mayL_iff.1 h).1; omega, small_len h, small_le (small_len h)⟩
theorem bne_zero {e : Int} (h : e ≠ 0) : (e != 0) = true := by simpa using h
theorem beq_zero {e : Int} (h : e ≠ 0) : (e == 0) = false := by simpa using h

set_option maxHeartbeats 4000000 in
theorem setAnd_walk {w : World} (v1 : Value) (h1 : SetAt w v1) (v2 : Value) (h2 : SetAt w v2) (v3 : Value) (h3 : SetAt w v3) :
    Calls Try.prog 5 #[v1, v2, v3] w fun e w' => e = .returned (.bool true) ∧ Fr (fun _ => False) w w' := by
  obtain ⟨a, ha, hsa, hla⟩ := h1
  have HA := Lib.hid ha
  have HSA := Lib.hid hsa
  have HLA := Lib.hid hla
  obtain ⟨ao, ac, rfl, _, _⟩ := ha
  rw [wcells_len] at HA ⊢
  obtain ⟨na, hna⟩ : ∃ n, n = a.length := ⟨_, rfl⟩
  rw [← hna] at HA ⊢
  have HNA := Lib.hid hna
  clear hna hsa hla
  obtain ⟨b, hb, hsb, hlb⟩ := h2
  have HB := Lib.hid hb
  have HSB := Lib.hid hsb
  have HLB := Lib.hid hlb
  obtain ⟨bo, bc, rfl, _, _⟩ := hb
  rw [wcells_len] at HB ⊢
  obtain ⟨nb, hnb⟩ : ∃ n, n = b.length := ⟨_, rfl⟩
  rw [← hnb] at HB ⊢
  have HNB := Lib.hid hnb
  clear hnb hsb hlb
  obtain ⟨c, hc, hsc, hlc⟩ := h3
  have HC := Lib.hid hc
  have HSC := Lib.hid hsc
  have HLC := Lib.hid hlc
  obtain ⟨co, cc, rfl, _, _⟩ := hc
  rw [wcells_len] at HC ⊢
  obtain ⟨nc, hnc⟩ : ∃ n, n = c.length := ⟨_, rfl⟩
  rw [← hnc] at HC ⊢
  have HNC := Lib.hid hnc
  clear hnc hsc hlc
  go_enter Try.func5, Try.ntmps5
  go_wp2_with fail
  refine (awake_any w).mono ?_
  rintro e w1 ⟨rfl, hk⟩
  have HK := Lib.hid hk
  clear hk
  go_wp2_with fail
  refine (large_any (ls := [a, b, c]) (g := w1.heap.size) (vs := [.slice ao na ac, .slice bo nb bc, .slice co nc cc]) (heap_alloc_new w1 _) (sets_three ((HA.out.new HK.out).new (Fr.of_alloc _ _ _)) ((HB.out.new HK.out).new (Fr.of_alloc _ _ _)) ((HC.out.new HK.out).new (Fr.of_alloc _ _ _)) HLA.out HLB.out HLC.out HSA.out HSB.out HSC.out) (by simp)).mono ?_
  rintro e w2 ⟨rfl, rfl⟩
  replace HK := Lib.hid (HK.out.trans (Fr.of_alloc (fun _ => False) w1 (Obj.cells #[.slice ao na ac, .slice bo nb bc, .slice co nc cc] 23)))
  cases hlg : largeB [a, b, c]
  rotate_left
  · clear hlg
    go_wp2
    go_ret
    exact ⟨rfl, HK.out⟩
  have FA := Lib.hid (fits_three hlg).1
  have FB := Lib.hid (fits_three hlg).2.1
  have FC := Lib.hid (fits_three hlg).2.2
  clear hlg HSA HLA HSB HLB HSC HLC
  generalize w1.alloc (Obj.cells #[.slice ao na ac, .slice bo nb bc, .slice co nc cc] 23) = w2 at *
  replace HA := Lib.hid (HA.out.new HK.out)
  replace HB := Lib.hid (HB.out.new HK.out)
  replace HC := Lib.hid (HC.out.new HK.out)
  go_wp2_with fail
  refine (may_set HA.out FA.out.len FA.out.max).mono ?_
  rintro e wm ⟨rfl, hk⟩
  replace HK := Lib.hid (HK.out.trans hk)
  replace HA := Lib.hid (HA.out.new hk)
  replace HB := Lib.hid (HB.out.new hk)
  replace HC := Lib.hid (HC.out.new hk)
  clear hk
  cases hma : mayL a
  · clear hma
    go_wp2
    go_ret
    exact ⟨rfl, HK.out⟩
  have MA := Lib.hid hma
  clear hma
  go_wp2_with fail
  refine (may_set HB.out FB.out.len FB.out.max).mono ?_
  rintro e wm ⟨rfl, hk⟩
  replace HK := Lib.hid (HK.out.trans hk)
  replace HA := Lib.hid (HA.out.new hk)
  replace HB := Lib.hid (HB.out.new hk)
  replace HC := Lib.hid (HC.out.new hk)
  clear hk
  cases hmb : mayL b
  · clear hmb
    go_wp2
    go_ret
    exact ⟨rfl, HK.out⟩
  have MB := Lib.hid hmb
  clear hmb
  go_wp2_with fail
  refine (may_set HC.out FC.out.len FC.out.max).mono ?_
  rintro e wm ⟨rfl, hk⟩
  replace HK := Lib.hid (HK.out.trans hk)
  replace HA := Lib.hid (HA.out.new hk)
  replace HB := Lib.hid (HB.out.new hk)
  replace HC := Lib.hid (HC.out.new hk)
  clear hk
  cases hmc : mayL c
  · clear hmc
    go_wp2
    go_ret
    exact ⟨rfl, HK.out⟩
  have MC := Lib.hid hmc
  clear hmc
  have hba : na ≤ 16 := by have := (mayL_iff.1 MA.out).1; have := HNA.out; omega
  have hbb : nb ≤ 16 := by have := (mayL_iff.1 MB.out).1; have := HNB.out; omega
  have hbc : nc ≤ 16 := by have := (mayL_iff.1 MC.out).1; have := HNC.out; omega
  have E0 := Lib.hid (and_self_of MA.out)
  obtain ⟨ab, e1, hab⟩ : ∃ x e, andL a b = (x, e) := ⟨_, _, rfl⟩
  obtain ⟨bc, e2, hbc⟩ : ∃ x e, andL b c = (x, e) := ⟨_, _, rfl⟩
  have E1 := Lib.hid hab
  have E1b : Hid (andL b a = (ab, e1)) := Lib.hid (by rw [← and_comm_of MA.out MB.out]; exact hab)
  have E2 := Lib.hid hbc
  have hlab : ab.length ≤ 100000 := by have := andL_len a b; rw [hab] at this; simp only at this; omega
  have HLAB := Lib.hid hlab
  clear hab hbc hlab
  go_wp2_with fail
  refine (and_any HA.out HA.out FA.out.len FA.out.len FA.out.max FA.out.max).mono ?_
  rintro e wc ⟨vHAA, rfl, ho, hk⟩
  rw [E0.out] at ho ⊢
  replace HK := Lib.hid (HK.out.trans hk)
  replace HA := Lib.hid (HA.out.new hk)
  replace HB := Lib.hid (HB.out.new hk)
  replace HC := Lib.hid (HC.out.new hk)
  clear hk
  have HAA := Lib.hid (Reads.of_row ho).any
  clear ho
  go_wp2_with fail
  refine (equal_kept HAA.out HA.out FA.out.len FA.out.len).mono ?_
  rintro e we ⟨rfl, hk⟩
  rw [eq_self]
  replace HK := Lib.hid (HK.out.trans hk)
  replace HA := Lib.hid (HA.out.new hk)
  replace HB := Lib.hid (HB.out.new hk)
  replace HC := Lib.hid (HC.out.new hk)
  replace HAA := Lib.hid (HAA.out.new hk)
  clear hk
  clear HAA
  go_wp2_with fail
  refine (and_any HA.out HB.out FA.out.len FB.out.len FA.out.max FB.out.max).mono ?_
  rintro e wc ⟨vHAB, rfl, ho, hk⟩
  rw [E1.out] at ho ⊢
  replace HK := Lib.hid (HK.out.trans hk)
  replace HA := Lib.hid (HA.out.new hk)
  replace HB := Lib.hid (HB.out.new hk)
  replace HC := Lib.hid (HC.out.new hk)
  clear hk
  have HAB := Lib.hid (Reads.of_row ho).any
  obtain ⟨abo, abc, hvab, _⟩ := own_slice ho
  subst hvab
  clear ho
  go_wp2_with fail
  refine (and_any HB.out HA.out FB.out.len FA.out.len FB.out.max FA.out.max).mono ?_
  rintro e wc ⟨vHBA, rfl, ho, hk⟩
  rw [E1b.out] at ho ⊢
  replace HK := Lib.hid (HK.out.trans hk)
  replace HA := Lib.hid (HA.out.new hk)
  replace HB := Lib.hid (HB.out.new hk)
  replace HC := Lib.hid (HC.out.new hk)
  replace HAB := Lib.hid (HAB.out.new hk)
  clear hk
  have HBA := Lib.hid (Reads.of_row ho).any
  clear ho
  go_wp2_with fail
  refine (equal_kept HAB.out HBA.out HLAB.out HLAB.out).mono ?_
  rintro e we ⟨rfl, hk⟩
  rw [eq_self]
  replace HK := Lib.hid (HK.out.trans hk)
  replace HA := Lib.hid (HA.out.new hk)
  replace HB := Lib.hid (HB.out.new hk)
  replace HC := Lib.hid (HC.out.new hk)
  replace HAB := Lib.hid (HAB.out.new hk)
  replace HBA := Lib.hid (HBA.out.new hk)
  clear hk
  clear HBA
  by_cases h1 : e1 = 0
  rotate_left
  · obtain rfl := and_err MA.out MB.out E1.out h1
    clear h1
    go_wp2_with fail
    go_ret
    exact ⟨rfl, HK.out⟩
  subst h1
  have WI := Lib.hid (within_left MA.out MB.out E1.out)
  have MAB := Lib.hid (and_zero MA.out MB.out E1.out).2
  have FAB := Lib.hid (fits_may MAB.out)
  have hcount : ¬ (na : Int) + (nb : Int) < (ab.length : Int) := by have := WI.out.2.2; have := HNA.out; have := HNB.out; omega
  generalize hnab : ab.length = nab at hcount HAB ⊢
  have HNAB := Lib.hid hnab
  clear hnab
  go_wp2_with fail
  refine (within_any HA.out HAB.out FA.out.len FAB.out.len FA.out.max FAB.out.max).mono ?_
  rintro e wt ⟨rfl, hk⟩
  rw [WI.out.1]
  replace HK := Lib.hid (HK.out.trans hk)
  replace HA := Lib.hid (HA.out.new hk)
  replace HB := Lib.hid (HB.out.new hk)
  replace HC := Lib.hid (HC.out.new hk)
  replace HAB := Lib.hid (HAB.out.new hk)
  clear hk
  go_wp2_with fail
  refine (within_any HB.out HAB.out FB.out.len FAB.out.len FB.out.max FAB.out.max).mono ?_
  rintro e wt ⟨rfl, hk⟩
  rw [WI.out.2.1]
  replace HK := Lib.hid (HK.out.trans hk)
  replace HA := Lib.hid (HA.out.new hk)
  replace HB := Lib.hid (HB.out.new hk)
  replace HC := Lib.hid (HC.out.new hk)
  replace HAB := Lib.hid (HAB.out.new hk)
  clear hk
  go_wp2_with fail
  refine (and_any HB.out HC.out FB.out.len FC.out.len FB.out.max FC.out.max).mono ?_
  rintro e wc ⟨vHBC, rfl, ho, hk⟩
  rw [E2.out] at ho ⊢
  replace HK := Lib.hid (HK.out.trans hk)
  replace HA := Lib.hid (HA.out.new hk)
  replace HB := Lib.hid (HB.out.new hk)
  replace HC := Lib.hid (HC.out.new hk)
  replace HAB := Lib.hid (HAB.out.new hk)
  clear hk
  have HBC := Lib.hid (Reads.of_row ho).any
  clear ho
  by_cases h2 : e2 = 0
  rotate_left
  · obtain rfl := and_err MB.out MC.out E2.out h2
    clear h2
    go_wp2_with fail
    go_ret
    exact ⟨rfl, HK.out⟩
  subst h2
  have MBC := Lib.hid (and_zero MB.out MC.out E2.out).2
  have FBC := Lib.hid (fits_may MBC.out)
  obtain ⟨x, e3, hx⟩ : ∃ x e, andL ab c = (x, e) := ⟨_, _, rfl⟩
  have E3 := Lib.hid hx
  have E3b : Hid (andL a bc = (x, e3)) := Lib.hid (by rw [← and_assoc_of MA.out MB.out MC.out E1.out E2.out]; exact hx)
  have HLX : Hid (x.length ≤ 100000) := Lib.hid (by have := andL_len ab c; rw [hx] at this; simp only at this; omega)
  clear hx hcount
  go_wp2_with fail
  refine (and_any HAB.out HC.out FAB.out.len FC.out.len FAB.out.max FC.out.max).mono ?_
  rintro e wc ⟨vHX, rfl, ho, hk⟩
  rw [E3.out] at ho ⊢
  replace HK := Lib.hid (HK.out.trans hk)
  replace HA := Lib.hid (HA.out.new hk)
  replace HB := Lib.hid (HB.out.new hk)
  replace HC := Lib.hid (HC.out.new hk)
  replace HAB := Lib.hid (HAB.out.new hk)
  replace HBC := Lib.hid (HBC.out.new hk)
  clear hk
  have HX := Lib.hid (Reads.of_row ho).any
  clear ho
  go_wp2_with fail
  refine (and_any HA.out HBC.out FA.out.len FBC.out.len FA.out.max FBC.out.max).mono ?_
  rintro e wc ⟨vHY, rfl, ho, hk⟩
  rw [E3b.out] at ho ⊢
  replace HK := Lib.hid (HK.out.trans hk)
  replace HA := Lib.hid (HA.out.new hk)
  replace HB := Lib.hid (HB.out.new hk)
  replace HC := Lib.hid (HC.out.new hk)
  replace HAB := Lib.hid (HAB.out.new hk)
  replace HBC := Lib.hid (HBC.out.new hk)
  replace HX := Lib.hid (HX.out.new hk)
  clear hk
  have HY := Lib.hid (Reads.of_row ho).any
  clear ho
  go_wp2_with fail
  refine (equal_kept HX.out HY.out HLX.out HLX.out).mono ?_
  rintro e we ⟨rfl, hk⟩
  rw [eq_self]
  replace HK := Lib.hid (HK.out.trans hk)
  replace HA := Lib.hid (HA.out.new hk)
  replace HB := Lib.hid (HB.out.new hk)
  replace HC := Lib.hid (HC.out.new hk)
  replace HAB := Lib.hid (HAB.out.new hk)
  replace HBC := Lib.hid (HBC.out.new hk)
  replace HX := Lib.hid (HX.out.new hk)
  replace HY := Lib.hid (HY.out.new hk)
  clear hk
  go_wp2_with fail
  go_ret
  exact ⟨rfl, HK.out⟩
end Go.Proofs.Ytdapklamemalgaa
