/- What asking whether one set's words are another one's does. -/
import Derived.Test.YtdapklamemalgaaMaps
import Derived.Test.YtdapklamemalgaaHasS
namespace Go.Proofs.Ytdapklamemalgaa
set_option linter.unusedVariables false
set_option linter.unusedSimpArgs false
open Go.RowKit Go.ChangeShapes Go.WideShapes

theorem within_not {a b : List ByteArray} {k : Nat} {x : ByteArray} (hx : a[k]? = some x) (h : hasL b x = false) : withinL a b = false := by
  unfold withinL
  rw [List.all_eq_false]
  exact ⟨x, List.mem_of_getElem? hx, by simp [h]⟩
theorem within_all {a b : List ByteArray} (h : ∀ j y, j < a.length → a[j]? = some y → hasL b y = true) : withinL a b = true := by
  unfold withinL
  rw [List.all_eq_true]
  intro x hx
  obtain ⟨i, hi⟩ := List.mem_iff_getElem?.1 hx
  exact h i x (List.getElem?_eq_some_iff.1 hi).1 hi
theorem make_any (n : Nat) (W : World) : (Instr.makeMap 56 (some (.int .i64 (n : Int)))).run Try.prog W = .ok (.map (some W.heap.size)) (W.alloc (.map #[] 0)) := by
  simp [Instr.makeMap, asInt, asIntOf, run_underlying Try.underlying56]
/-- a new map, and nothing else turned -/
def Known (w wr : World) (b : Nat) (l : List ByteArray) : Prop := KnowIs wr b l ∧ w.heap.size ≤ b ∧ Kept w wr
theorem Known.put {w wr : World} {b : Nat} {l : List ByteArray} {x : ByteArray} {o : Obj} (h : Known w wr b l) (hk : KnowIs (setObjAt wr b o) b (l ++ [x])) : Known w (setObjAt wr b o) b (l ++ [x]) :=
  ⟨hk, h.2.1, h.2.2.over (Fr.of_setObj wr b o) (fun j hj => by rw [hj]; exact h.2.1)⟩
theorem Known.kept {w wr w1 : World} {b : Nat} {l : List ByteArray} (h : Known w wr b l) (hk : Kept wr w1) : Known w w1 b l :=
  ⟨h.1.same (hk.block b h.1.lt (fun x => x)), h.2.1, h.2.2.trans hk⟩
set_option maxHeartbeats 1000000 in
theorem within_any {w : World} {G : Nat → Prop} {va vb : Value} {a b : List ByteArray} (ha : Reads w G va (wcells a)) (hb : Reads w G vb (wcells b)) (hla : a.length ≤ 100000) (hlb : b.length ≤ 100000) (hsa : Small maxLen a) (hsb : Small maxLen b) :
    Calls Try.prog 27 #[va, vb] w (KeptPost (.bool (withinL a b)) w) := by
  obtain ⟨ao, ca, rfl, _, hca⟩ := ha
  obtain ⟨bo, cb, rfl, _, hcb⟩ := hb
  rw [wcells_len, wcells_len]
  have HCA := Lib.hid hca
  have HCB := Lib.hid hcb
  have HSA := Lib.hid hsa
  have HSB := Lib.hid hsb
  clear hca hcb hsa hsb
  generalize hna : a.length = na at hla ⊢
  generalize hnb : b.length = nb at hlb ⊢
  have HNA := Lib.hid hna
  have HNB := Lib.hid hnb
  clear hna hnb
  have mm : ∀ W, (Instr.makeMap 56 (some (.int .i64 (nb : Int)))).run Try.prog W = .ok (.map (some W.heap.size)) (W.alloc (.map #[] 0)) := fun W => make_any nb W
  have H0 : Hid (Known w (w.alloc (.map #[] 0)) w.heap.size (b.take 0)) := Lib.hid ⟨KnowIs.made w, Nat.le_refl _, Fr.of_alloc _ _ _⟩
  go_enter Try.func27, Try.ntmps27
  go_wp2
  generalize w.alloc (.map #[] 0) = w1 at *
  generalize w.heap.size = mb at *
  clear mm
  go_loopw [17] (fun i wr => ∃ k : Nat, k ≤ nb ∧ i = .int .i64 k ∧ Hid (Known w wr mb (b.take k))) (fun i _ => nb - (intOf i).toNat)
  case atStart => exact ⟨0, by omega, rfl, H0⟩
  case round =>
    obtain ⟨k, hk, rfl, hp⟩ := hrel
    clear H0
    by_cases hlt : k < nb
    · have h1 : (k : Int) < nb := by omega
      obtain ⟨y, hy⟩ : ∃ y, b[k]? = some y := ⟨_, List.getElem?_eq_getElem (by have := HNB.out; omega)⟩
      obtain ⟨g, off, rfl, _, hcell0⟩ := HCB.out k _ (wcells_get hy)
      have hcell := hp.out.2.2.cell hcell0 (fun x => x)
      have hsy := Lib.hid (HSB.out y (List.mem_of_getElem? hy))
      have HY : Hid (b.take (k + 1) = b.take k ++ [y]) := Lib.hid (by rw [List.take_add_one, hy]; rfl)
      clear hy hcell0
      go_wp2_with (refine wpList_know rfl (.tmp 21) (.tmp 22) (.tmp 23) rfl mb (b.take k) y rfl rfl rfl hp.out.1 hsy.out ?_; intro ob hob; have Hob := Lib.hid (hp.out.put hob); clear hob)
      go_roundw
      case rel => exact ⟨k + 1, by omega, by go_num, by rw [HY.out]; exact Hob⟩
      case measure => simp [intOf]; omega
    · have hfull : b.take k = b := List.take_of_length_le (by have := HNB.out; omega)
      rw [hfull] at hp
      clear hfull
      go_wp2
      go_loopw [27] (fun i wr => ∃ k : Nat, k ≤ na ∧ i = .int .i64 k ∧ Hid (Known w wr mb b) ∧ Hid (∀ j y, j < k → a[j]? = some y → hasL b y = true)) (fun i _ => na - (intOf i).toNat)
      case atStart => exact ⟨0, by omega, rfl, hp, Lib.hid (fun i y hi => by omega)⟩
      case round =>
        obtain ⟨k', hk', rfl, hp, hall⟩ := hrel
        by_cases hlt2 : k' < na
        · have h2 : (k' : Int) < na := by omega
          obtain ⟨x, hx⟩ : ∃ x, a[k']? = some x := ⟨_, List.getElem?_eq_getElem (by have := HNA.out; omega)⟩
          obtain ⟨g, off, rfl, _, hcell0⟩ := HCA.out k' _ (wcells_get hx)
          have hcell := hp.out.2.2.cell hcell0 (fun x => x)
          have hlook := hp.out.1.look (HSA.out x (List.mem_of_getElem? hx))
          have HX := Lib.hid hx
          clear hx hcell0
          cases hh : hasL b x
          · have HA := Lib.hid (within_not HX.out hh)
            rw [hh] at hlook
            clear hh
            go_wp2
            go_ret
            exact ⟨ret_bool HA.out.symm, hp.out.2.2.trans (Fr.of_alloc _ _ _)⟩
          · have HA := Lib.hid (get_step hall.out HX.out (p := fun y => hasL b y = true) hh)
            rw [hh] at hlook
            clear hh
            go_wp2
            go_roundw
            case rel => exact ⟨k' + 1, by omega, by go_num, Lib.hid (hp.out.kept (Fr.of_alloc _ _ _)), HA⟩
            case measure => simp [intOf]; omega
        · have HA := Lib.hid (within_all (a := a) (b := b) (fun j y hj hy => hall.out j y (by have := HNA.out; omega) hy))
          go_wp2
          go_ret
          exact ⟨ret_bool HA.out.symm, hp.out.2.2⟩
theorem same_any {w : World} {G : Nat → Prop} {va vb : Value} {a b : List ByteArray} (ha : Reads w G va (wcells a)) (hb : Reads w G vb (wcells b)) (hla : a.length ≤ 100000) (hlb : b.length ≤ 100000) (hsa : Small maxLen a) (hsb : Small maxLen b) :
    Calls Try.prog 29 #[va, vb] w (KeptPost (.bool (sameL a b)) w) := by
  have HA := Lib.hid ha
  have HB := Lib.hid hb
  have HSA := Lib.hid hsa
  have HSB := Lib.hid hsb
  clear ha hb hsa hsb
  cases h1 : withinL a b
  · have HE : Hid (sameL a b = false) := Lib.hid (by unfold sameL; rw [h1]; rfl)
    go_enter Try.func29, Try.ntmps29
    go_wp2_with fail
    refine (within_any HA.out HB.out hla hlb HSA.out HSB.out).mono ?_
    rintro e w1 ⟨rfl, hk1⟩
    rw [h1]
    have HK := Lib.hid hk1
    clear hk1
    go_wp2
    go_ret
    exact ⟨ret_bool HE.out.symm, HK.out⟩
  · have HE : Hid (sameL a b = withinL b a) := Lib.hid (by unfold sameL; rw [h1]; rfl)
    go_enter Try.func29, Try.ntmps29
    go_wp2_with fail
    refine (within_any HA.out HB.out hla hlb HSA.out HSB.out).mono ?_
    rintro e w1 ⟨rfl, hk1⟩
    rw [h1]
    have HK := Lib.hid hk1
    clear hk1
    go_wp2_with fail
    refine (within_any (HB.out.new HK.out) (HA.out.new HK.out) hlb hla HSB.out HSA.out).mono ?_
    rintro e w2 ⟨rfl, hk1⟩
    replace HK := Lib.hid (HK.out.trans hk1)
    clear hk1
    generalize hb2 : withinL b a = b2 at *
    clear hb2
    go_wp2
    all_goals
      go_ret
      exact ⟨ret_bool HE.out.symm, HK.out⟩
end Go.Proofs.Ytdapklamemalgaa
