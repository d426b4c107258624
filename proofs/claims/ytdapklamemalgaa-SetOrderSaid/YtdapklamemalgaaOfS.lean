/- What making a set of words does, and what looking whether one may be. -/
import Derived.Test.YtdapklamemalgaaPut
namespace Go.Proofs.Ytdapklamemalgaa
set_option linter.unusedVariables false
set_option linter.unusedSimpArgs false
open Go.RowKit Go.ChangeShapes Go.WideShapes

/-- a set of the call's own, and what is wrong -/
def SetPost (r : List ByteArray × Int) (w : World) (en : Ending) (w' : World) : Prop :=
  ∃ v, en = .returned (.tuple #[v, .int .i64 r.2]) ∧ w'.ownsRow w.heap.size 36 1 v r.1.length (wcells r.1) ∧ Kept w w'
theorem set_post {r : List ByteArray × Int} {x : List ByteArray} {y : Int} {v : Value} {w w' : World} (h : r = (x, y)) (ho : w'.ownsRow w.heap.size 36 1 v x.length (wcells x)) (hk : Kept w w') : SetPost r w (.returned (.tuple #[v, .int .i64 y])) w' := by
  subst h; exact ⟨v, rfl, ho, hk⟩
theorem set_later {r : List ByteArray × Int} {w w1 w' : World} {en : Ending} (h : SetPost r w1 en w') (hk : Kept w w1) : SetPost r w en w' := by
  obtain ⟨v, he, ho, hk'⟩ := h
  refine ⟨v, he, own_base ho fun g hg => ?_, hk.trans hk'⟩
  rcases ho.2 with ⟨rfl, _⟩ | ⟨g', cap, cur, rfl, hb, _⟩
  · simp [Value.ownBlock] at hg
  · simp [Value.ownBlock] at hg
    have := hk.size
    omega
theorem boundL_no {s : List ByteArray} (h : s.length = 0 ∨ 16 < s.length) : boundL s = ([], 3) := by unfold boundL; rw [if_pos h]
theorem boundL_ok {s : List ByteArray} (h : ¬ (s.length = 0 ∨ 16 < s.length)) : boundL s = (s, 0) := by unfold boundL; rw [if_neg h]
theorem ofL_bad {l : List ByteArray} {k : Nat} {x : ByteArray} (hx : l[k]? = some x) (h : mayS x = false) : ofL l = ([], 2) := by
  unfold ofL
  rw [if_pos]
  rw [List.all_eq_false]
  exact ⟨x, List.mem_of_getElem? hx, by simp [h]⟩
theorem ofL_ok {l : List ByteArray} (h : ∀ j y, j < l.length → l[j]? = some y → mayS y = true) : ofL l = boundL (rightS l) := by
  unfold ofL
  rw [if_neg]
  simp only [Bool.not_eq_false, List.all_eq_true]
  intro x hx
  obtain ⟨i, hi⟩ := List.mem_iff_getElem?.1 hx
  exact h i x (List.getElem?_eq_some_iff.1 hi).1 hi
theorem get_step {l : List ByteArray} {k : Nat} {x : ByteArray} {p : ByteArray → Prop} (h : ∀ j y, j < k → l[j]? = some y → p y) (hx : l[k]? = some x) (hp : p x) : ∀ j y, j < k + 1 → l[j]? = some y → p y := by
  intro j y hj hy
  rcases Nat.lt_or_ge j k with h1 | h1
  · exact h j y h1 hy
  · obtain rfl : j = k := by omega
    rw [hx] at hy; cases hy; exact hp
set_option maxHeartbeats 1000000 in
theorem of_set {w : World} {G : Nat → Prop} {v : Value} {l : List ByteArray} (h : Reads w G v (wcells l)) (hl : l.length ≤ 100000) (hs : Small maxLen l) :
    Calls Try.prog 12 #[v] w (SetPost (ofL l) w) := by
  have HR := Lib.hid h
  obtain ⟨ao, c, rfl, _, hc⟩ := h
  rw [wcells_len] at HR ⊢
  have HC := Lib.hid hc
  have HS := Lib.hid hs
  have HN : Hid (l.length = l.length) := Lib.hid rfl
  clear hc hs
  generalize hn : l.length = n at HR HN hl ⊢
  replace HN := Lib.hid hn
  clear hn
  have H0 : Hid (Kept w w) := Lib.hid (Fr.refl _ _)
  go_enter Try.func12, Try.ntmps12
  go_wp2
  go_loopw [9] (fun i wr => ∃ k : Nat, k ≤ n ∧ i = .int .i64 k ∧ Hid (Kept w wr) ∧ Hid (∀ j y, j < k → l[j]? = some y → mayS y = true)) (fun i _ => n - (intOf i).toNat)
  case atStart => exact ⟨0, by omega, rfl, H0, Lib.hid (fun j y hj => by omega)⟩
  case round =>
    obtain ⟨k, hk, rfl, HK, hall⟩ := hrel
    clear H0
    by_cases hlt : k < n
    · have h1 : (k : Int) < n := by omega
      obtain ⟨x, hx⟩ : ∃ x, l[k]? = some x := ⟨_, List.getElem?_eq_getElem (by have := HN.out; omega)⟩
      obtain ⟨g, off, rfl, _, hcell0⟩ := HC.out k _ (wcells_get hx)
      have hcell := HK.out.cell hcell0 (fun x => x)
      have hsx := Lib.hid (HS.out x (List.mem_of_getElem? hx))
      have HX := Lib.hid hx
      clear hx hcell0
      cases hm : mayS x
      · have HA := Lib.hid (ofL_bad HX.out hm)
        go_wp2_with (go_at_call 35; refine (may_any _ _ hsx.out).mono ?_; rintro e w' ⟨rfl, hk1⟩; rw [hm]; replace HK := Lib.hid (HK.out.trans hk1); clear hk1)
        go_ret2
        exact set_post HA.out (own_nil _ _ _ _) HK.out
      · have HA := Lib.hid (get_step hall.out HX.out hm)
        go_wp2_with (go_at_call 35; refine (may_any _ _ hsx.out).mono ?_; rintro e w' ⟨rfl, hk1⟩; rw [hm]; replace HK := Lib.hid (HK.out.trans hk1); clear hk1)
        go_roundw
        case rel => exact ⟨k + 1, by omega, by go_num, HK, HA⟩
        case measure => simp [intOf]; omega
    · have HA := Lib.hid (ofL_ok (l := l) (fun j y hj hy => hall.out j y (by have := HN.out; omega) hy))
      have HR1 := Lib.hid (HR.out.new HK.out)
      go_wp2_with fail
      refine (right_any HR1.out (by rw [HN.out]; exact hl) HS.out).mono ?_
      rintro e w1 ⟨v1, rfl, ho1, hk1⟩
      obtain ⟨bo, d, rfl, hd⟩ := own_slice ho1
      have HP : Hid (SetPost (rightS l, 0) w (.returned (.tuple #[.slice bo (rightS l).length d, .int .i64 0])) w1) := Lib.hid (set_later ⟨_, rfl, ho1, hk1⟩ HK.out)
      replace HK := Lib.hid (HK.out.trans hk1)
      clear hk1 ho1
      generalize hm : (rightS l).length = m at HP hd ⊢
      by_cases h0 : m = 0
      · have HB : Hid (ofL l = ([], 3)) := Lib.hid (by rw [HA.out]; exact boundL_no (.inl (by omega)))
        have g0 : ((m : Int) == 0) = true := by simp [h0]
        clear hm
        go_wp2
        go_ret2
        exact set_post HB.out (own_nil _ _ _ _) HK.out
      · have g0 : ((m : Int) == 0) = false := by simp [h0]
        by_cases h16 : 16 < m
        · have HB : Hid (ofL l = ([], 3)) := Lib.hid (by rw [HA.out]; exact boundL_no (.inr (by omega)))
          have g1 : 16 < (m : Int) := by omega
          clear hm h0
          go_wp2
          go_ret2
          exact set_post HB.out (own_nil _ _ _ _) HK.out
        · have HB : Hid (ofL l = (rightS l, 0)) := Lib.hid (by rw [HA.out]; exact boundL_ok (by omega))
          have g1 : ¬ 16 < (m : Int) := by omega
          clear hm h0
          go_wp2
          go_ret2
          rw [HB.out]
          exact HP.out
end Go.Proofs.Ytdapklamemalgaa
