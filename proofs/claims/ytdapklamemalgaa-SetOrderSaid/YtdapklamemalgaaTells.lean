/- SetTells' walk. -/
import Derived.Test.YtdapklamemalgaaLarge
namespace Go.Proofs.Ytdapklamemalgaa
set_option linter.unusedVariables false
set_option linter.unusedSimpArgs false
open Go.RowKit Go.ChangeShapes Go.WideShapes

/-- the value holds a set's words -/
def SetAt (w : World) (v : Value) : Prop := ∃ l, Reads w (fun _ => True) v (wcells l) ∧ Small maxLen l ∧ l.length ≤ maxLen
theorem sets_of {w : World} {v : Value} {r : Reach} {b : Nat} (hval : Value.okWide Try.prog w r b 23 v) (h : Holds Try.prog w 23 v.cells.toList) : SetAt w v := by
  obtain ⟨ao, len, cap, rfl⟩ := okWide_slice Try.underlying23 hval
  have hC : Try.prog.cellsOf 36 = 1 := by kernel_rfl
  have : Inhabited ByteArray := ⟨ByteArray.empty⟩
  obtain ⟨l, h1, h2, h3⟩ := Holds.row (mk := Value.string) (R := fun x => x.size ≤ maxLen) (c := .slice ao len cap) h Try.underlying23 hC (fun cs hcs => by
    obtain ⟨x, hx, hw⟩ := hcs.string Try.underlying36
    exact ⟨x, hx, hw⟩)
  exact ⟨l, h1, h2, h3⟩
theorem sets_two {w : World} {va vb : Value} {a b : List ByteArray} (ha : Reads w (fun _ => True) va (wcells a)) (hb : Reads w (fun _ => True) vb (wcells b)) (hla : a.length ≤ maxLen) (hlb : b.length ≤ maxLen) (hsa : Small maxLen a) (hsb : Small maxLen b) : Sets w [va, vb] [a, b] := by
  refine ⟨rfl, fun i l hl => ?_⟩
  match i with
  | 0 => cases hl; exact ⟨va, rfl, ha, hla, hsa⟩
  | 1 => cases hl; exact ⟨vb, rfl, hb, hlb, hsb⟩
  | n + 2 => simp at hl
theorem sets_one {w : World} {va : Value} {a : List ByteArray} (ha : Reads w (fun _ => True) va (wcells a)) (hla : a.length ≤ maxLen) (hsa : Small maxLen a) : Sets w [va] [a] := by
  refine ⟨rfl, fun i l hl => ?_⟩
  match i with
  | 0 => cases hl; exact ⟨va, rfl, ha, hla, hsa⟩
  | n + 1 => simp at hl
theorem sets_three {w : World} {va vb vc : Value} {a b c : List ByteArray} (ha : Reads w (fun _ => True) va (wcells a)) (hb : Reads w (fun _ => True) vb (wcells b)) (hc : Reads w (fun _ => True) vc (wcells c)) (hla : a.length ≤ maxLen) (hlb : b.length ≤ maxLen) (hlc : c.length ≤ maxLen) (hsa : Small maxLen a) (hsb : Small maxLen b) (hsc : Small maxLen c) : Sets w [va, vb, vc] [a, b, c] := by
  refine ⟨rfl, fun i l hl => ?_⟩
  match i with
  | 0 => cases hl; exact ⟨va, rfl, ha, hla, hsa⟩
  | 1 => cases hl; exact ⟨vb, rfl, hb, hlb, hsb⟩
  | 2 => cases hl; exact ⟨vc, rfl, hc, hlc, hsc⟩
  | n + 3 => simp at hl
/-- a set that isn't too large -/
structure Fits (l : List ByteArray) : Prop where
  len : l.length ≤ 100000
  small : Small 100000 l
  max : Small maxLen l
theorem fits_of {l : List ByteArray} (h : bigB l = false) : Fits l := by
  have := bigB_no h
  exact ⟨by omega, small_of this.2 (by omega), small_of this.2 (by unfold maxLen; omega)⟩
theorem fits_two {a b : List ByteArray} (h : largeB [a, b] = false) : Fits a ∧ Fits b := by
  unfold largeB at h
  simp at h
  exact ⟨fits_of h.1, fits_of h.2⟩
theorem fits_one {a : List ByteArray} (h : largeB [a] = false) : Fits a := by
  unfold largeB at h
  simp at h
  exact fits_of h
theorem fits_three {a b c : List ByteArray} (h : largeB [a, b, c] = false) : Fits a ∧ Fits b ∧ Fits c := by
  unfold largeB at h
  simp at h
  exact ⟨fits_of h.1, fits_of h.2.1, fits_of h.2.2⟩
set_option maxHeartbeats 4000000 in
theorem setTells_walk {w : World} (v1 : Value) (h1 : SetAt w v1) (v2 : Value) (h2 : SetAt w v2) (x : ByteArray) (hx : x.size ≤ maxLen) :
    Calls Try.prog 4 #[v1, v2, .string x] w fun e w' => e = .returned (.bool true) ∧ Fr (fun _ => False) w w' := by
  obtain ⟨a, ha, hsa, hla⟩ := h1
  obtain ⟨b, hb, hsb, hlb⟩ := h2
  have HA := Lib.hid ha
  have HB := Lib.hid hb
  have HSA := Lib.hid hsa
  have HSB := Lib.hid hsb
  have HLA := Lib.hid hla
  have HLB := Lib.hid hlb
  obtain ⟨ao, ca, rfl, _, _⟩ := ha
  obtain ⟨bo, cb, rfl, _, _⟩ := hb
  generalize (wcells a).length = na at *
  generalize (wcells b).length = nb at *
  clear hsa hsb hla hlb
  unfold maxLen at hx
  have HXM : Hid (x.size ≤ maxLen) := Lib.hid (by unfold maxLen; exact hx)
  go_enter Try.func4, Try.ntmps4
  go_wp2_with fail
  refine (awake_any w).mono ?_
  rintro e w1 ⟨rfl, hk⟩
  have HK := Lib.hid hk
  clear hk
  go_wp2_with fail
  refine (large_any (ls := [a, b]) (g := w1.heap.size) (vs := [.slice ao na ca, .slice bo nb cb]) (heap_alloc_new w1 _) (sets_two ((HA.out.new HK.out).new (Fr.of_alloc _ _ _)) ((HB.out.new HK.out).new (Fr.of_alloc _ _ _)) HLA.out HLB.out HSA.out HSB.out) (by simp)).mono ?_
  rintro e w2 ⟨rfl, rfl⟩
  replace HK := Lib.hid (HK.out.trans (Fr.of_alloc (fun _ => False) w1 (Obj.cells #[.slice ao na ca, .slice bo nb cb] 23)))
  cases hlg : largeB [a, b]
  · have FA := Lib.hid (fits_two hlg).1
    have FB := Lib.hid (fits_two hlg).2
    clear hlg
    by_cases hx100 : 100 < x.size
    · have g1 : 100 < (x.size : Int) := by omega
      go_wp2
      go_ret
      exact ⟨rfl, HK.out⟩
    · have g1 : ¬ 100 < (x.size : Int) := by omega
      clear hx100
      generalize w1.alloc (Obj.cells #[.slice ao na ca, .slice bo nb cb] 23) = w2 at *
      replace HA := Lib.hid (HA.out.new HK.out)
      replace HB := Lib.hid (HB.out.new HK.out)
      go_wp2_with fail
      refine (has_any HA.out FA.out.len HSA.out HXM.out).mono ?_
      rintro e w' ⟨rfl, rfl⟩
      go_wp2_with fail
      refine (rhas_any HA.out FA.out.len).mono ?_
      rintro e w' ⟨rfl, rfl⟩
      generalize hasL a x = r1
      go_wp2_with fail
      refine (within_any HA.out HB.out FA.out.len FB.out.len HSA.out HSB.out).mono ?_
      rintro e w3 ⟨rfl, hk⟩
      replace HA := Lib.hid (HA.out.new hk)
      replace HB := Lib.hid (HB.out.new hk)
      replace HK := Lib.hid (HK.out.trans hk)
      clear hk
      go_wp2_with fail
      refine (rwithin_any HA.out HB.out FA.out.len FB.out.len).mono ?_
      rintro e w' ⟨rfl, rfl⟩
      generalize withinL a b = r2
      go_wp2_with fail
      refine (same_any HA.out HB.out FA.out.len FB.out.len HSA.out HSB.out).mono ?_
      rintro e w4 ⟨rfl, hk⟩
      replace HA := Lib.hid (HA.out.new hk)
      replace HB := Lib.hid (HB.out.new hk)
      replace HK := Lib.hid (HK.out.trans hk)
      clear hk
      go_wp2_with fail
      refine (rsame_any HA.out HB.out FA.out.len FB.out.len).mono ?_
      rintro e w' ⟨rfl, rfl⟩
      generalize sameL a b = r3
      go_wp2_with fail
      refine (heavy_any HA.out FA.out.len FA.out.small).mono ?_
      rintro e w' ⟨rfl, rfl⟩
      go_wp2_with fail
      refine (rheavy_any HA.out FA.out.len FA.out.small).mono ?_
      rintro e w5 ⟨rfl, hk⟩
      replace HK := Lib.hid (HK.out.trans hk)
      clear hk
      generalize heavyL a = r4
      go_wp2_with fail
      go_ret
      exact ⟨rfl, HK.out⟩
  · clear hlg
    go_wp2
    go_ret
    exact ⟨rfl, HK.out⟩
end Go.Proofs.Ytdapklamemalgaa
