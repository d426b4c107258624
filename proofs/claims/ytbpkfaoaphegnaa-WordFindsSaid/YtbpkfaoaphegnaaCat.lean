/- Cat of package word and of the reference. -/
import Derived.Test.YtbpkfaoaphegnaaOf
namespace Go.Proofs.Ytbpkfaoaphegnaa
set_option linter.unusedVariables false
open Go.RowKit

/-- words as cells -/
def wcells (l : List ByteArray) : List Value := l.map Value.string
theorem wcells_get {l : List ByteArray} {i : Nat} {x : ByteArray} (h : l[i]? = some x) : (wcells l)[i]? = some (.string x) := by simp [wcells, h]
/-- no word is larger than n bytes -/
def Small (n : Nat) (l : List ByteArray) : Prop := ∀ s ∈ l, s.size ≤ n

/-- two results -/
def PairPost (r : ByteArray × Int) (w : World) (e : Ending) (w' : World) : Prop := e = .returned (.tuple #[.string r.1, .int .i64 r.2]) ∧ Kept w w'

theorem pair_of {r : ByteArray × Int} {x : ByteArray} {y : Int} (h : r = (x, y)) : Ending.returned (.tuple #[.string x, .int .i64 y]) = .returned (.tuple #[.string r.1, .int .i64 r.2]) := by rw [h]

/-- the place of the first torn word; -1 if there is none -/
def idxS (l : List ByteArray) : Int := match l.findIdx? tornB with | some k => k | none => -1
theorem idxS_some {l : List ByteArray} {k : Nat} {x : ByteArray} (hx : l[k]? = some x) (ht : tornB x = true) (h : ∀ j y, j < k → l[j]? = some y → tornB y = false) : idxS l = k := by
  unfold idxS
  obtain ⟨hk, rfl⟩ := List.getElem?_eq_some_iff.1 hx
  have : l.findIdx? tornB = some k := by
    rw [List.findIdx?_eq_some_iff_getElem]
    exact ⟨hk, ht, fun j hj => by rw [h j _ hj (List.getElem?_eq_getElem (by omega))]; simp⟩
  rw [this]
theorem idxS_none {l : List ByteArray} (h : ∀ j y, j < l.length → l[j]? = some y → tornB y = false) : idxS l = -1 := by
  unfold idxS
  have : l.findIdx? tornB = none := by
    rw [List.findIdx?_eq_none_iff]
    intro x hx
    obtain ⟨j, hj⟩ := List.mem_iff_getElem?.1 hx
    exact h j x (List.getElem?_eq_some_iff.1 hj).1 hj
  rw [this]
theorem idxS_any (l : List ByteArray) : decide (0 ≤ idxS l) = l.any tornB := by
  unfold idxS
  cases h : l.findIdx? tornB with
  | none =>
    rw [List.findIdx?_eq_none_iff] at h
    have : l.any tornB = false := by rw [List.any_eq_false]; intro x hx; simp [h x hx]
    rw [this]; rfl
  | some k =>
    rw [List.findIdx?_eq_some_iff_getElem] at h
    obtain ⟨hk, ht, _⟩ := h
    have : l.any tornB = true := by rw [List.any_eq_true]; exact ⟨_, List.getElem_mem hk, ht⟩
    rw [this]; simp

set_option maxHeartbeats 1000000 in
theorem index_any {w : World} {G : Nat → Prop} {v : Value} {l : List ByteArray} (h : Reads w G v (wcells l)) (hl : l.length ≤ 100000) (hs : Small maxLen l) :
    Calls Try.prog 34 #[v, .func (.func 31) #[] #[]] w fun e w' => e = .returned (.int .i64 (idxS l)) ∧ w = w' := by
  obtain ⟨ao, c, rfl, _, hc⟩ := h
  have q1 : (wcells l).length = l.length := by simp [wcells]
  rw [q1]
  have HC := Lib.hid hc
  have HS := Lib.hid hs
  generalize hn : l.length = n at *
  have HN := Lib.hid hn
  clear hn q1 hc hs
  go_enter Try.func34, Try.ntmps34
  go_wp2
  go_loop [8] (fun i => ∃ k : Nat, k ≤ n ∧ i = .int .i64 k ∧ Hid (∀ j y, j < k → l[j]? = some y → tornB y = false)) (fun i => n - (intOf i).toNat)
  case atStart => exact ⟨0, by omega, rfl, Lib.hid (fun i y hi => by omega)⟩
  case round =>
    obtain ⟨k, hk, rfl, hall⟩ := hrel
    by_cases hlt : k < n
    · have h1 : (k : Int) < n := by omega
      obtain ⟨x, hx⟩ : ∃ x, l[k]? = some x := ⟨_, List.getElem?_eq_getElem (by have := HN.out; omega)⟩
      obtain ⟨g, off, rfl, _, hcell⟩ := HC.out k _ (wcells_get hx)
      have hsx := Lib.hid (HS.out x (List.mem_of_getElem? hx))
      have HX := Lib.hid hx
      clear hx
      cases ht : tornB x
      · have HA : Hid (∀ j y, j < k + 1 → l[j]? = some y → tornB y = false) := Lib.hid (fun j y hj hy => by
          rcases Nat.lt_or_ge j k with h | h
          · exact hall.out j y h hy
          · obtain rfl : j = k := by omega
            rw [HX.out] at hy; cases hy; exact ht)
        go_wp2_with (go_at_call 31; refine (isTorn_any _ _ hsx.out).mono ?_; rintro e w' ⟨rfl, rfl⟩; rw [ht])
        go_round
        case rel => exact ⟨k + 1, by omega, by go_num, HA⟩
        case measure => simp [intOf]; omega
      · have HA := Lib.hid (idxS_some HX.out ht hall.out)
        go_wp2_with (go_at_call 31; refine (isTorn_any _ _ hsx.out).mono ?_; rintro e w' ⟨rfl, rfl⟩; rw [ht])
        go_ret
        exact ⟨ret_int HA.out.symm, rfl⟩
    · have HA := Lib.hid (idxS_none (l := l) (fun j y hj hy => hall.out j y (by have := HN.out; omega) hy))
      go_wp2
      go_ret
      exact ⟨ret_int HA.out.symm, rfl⟩

set_option maxHeartbeats 1000000 in
theorem contains_any {w : World} {G : Nat → Prop} {v : Value} {l : List ByteArray} (h : Reads w G v (wcells l)) (hl : l.length ≤ 100000) (hs : Small maxLen l) :
    Calls Try.prog 33 #[v, .func (.func 31) #[] #[]] w fun e w' => e = .returned (.bool (l.any tornB)) ∧ w = w' := by
  have HA := Lib.hid (idxS_any l)
  have HR := Lib.hid h
  obtain ⟨ao, c, rfl, _, hc⟩ := h
  clear hc
  go_enter Try.func33, Try.ntmps33
  go_wp2_with fail
  refine (index_any HR.out hl hs).mono ?_
  rintro e w' ⟨rfl, rfl⟩
  go_wp2
  go_ret
  exact ⟨ret_bool HA.out, rfl⟩

theorem flat_take_le (l : List ByteArray) (k : Nat) : (flatS (l.take k)).length ≤ (flatS l).length := by
  conv => rhs; rw [← List.take_append_drop k l, flat_append]
  simp
theorem flat_take_succ {l : List ByteArray} {k : Nat} {x : ByteArray} (h : l[k]? = some x) : flatS (l.take (k + 1)) = flatS (l.take k) ++ bs x := by
  rw [List.take_add_one, h, flat_append]; simp [flatS]
theorem flat_even : ∀ {l : List ByteArray}, (l.any tornB = false) → (flatS l).length % 2 = 0
  | [], _ => rfl
  | s :: r, h => by
    simp only [List.any_cons, Bool.or_eq_false_iff] at h
    have ih := flat_even h.2
    have := tornB_false h.1
    simp only [flatS, List.length_append, bs_len]; omega
theorem catS_torn {l : List ByteArray} (h : l.any tornB = true) : catS l = (⟨#[]⟩, 2) := by unfold catS; rw [if_pos h]
theorem catS_large {l : List ByteArray} (h : l.any tornB = false) (h2 : 16 < (flatS l).length) : catS l = (⟨#[]⟩, 4) := by
  unfold catS; rw [if_neg (by simp [h]), if_pos h2]
theorem catS_ok {l : List ByteArray} (h : l.any tornB = false) (h2 : (flatS l).length ≤ 16) : catS l = (⟨(flatS l).toArray⟩, 0) := by
  unfold catS; rw [if_neg (by simp [h]), if_neg (by omega)]

/-- a row that has the bytes of the first k words -/
def CatPart (w wr : World) (l : List ByteArray) (k m : Nat) (v : Value) : Prop :=
  m = (flatS (l.take k)).length ∧ wr.ownsRow w.heap.size 5 1 v m (bcells (flatS (l.take k))) ∧ Kept w wr

theorem CatPart.step {w wr w1 : World} {l : List ByteArray} {k m : Nat} {v v1 : Value} (h : CatPart w wr l k m v) {x : ByteArray} (hx : l[k]? = some x)
    (hp : AppPost wr w.heap.size 5 1 v (m + x.size) (bcells (flatS (l.take k)) ++ byteCells x) v1 w1) : CatPart w w1 l (k + 1) (m + x.size) v1 := by
  have e := flat_take_succ hx
  refine ⟨by rw [e, h.1]; simp [bs_len], ?_, (hp.kept h.2.2 (fun g hg => (h.2.1.lt g hg).1)).1⟩
  rw [e, bcells_append, ← bcells_bs]; exact hp.1

set_option maxHeartbeats 2000000 in
theorem cat_any {w : World} {G : Nat → Prop} {v : Value} {l : List ByteArray} (h : Reads w G v (wcells l)) (hl : l.length ≤ 100000) (hs : Small 100000 l) :
    Calls Try.prog 27 #[v] w (PairPost (catS l) w) := by
  have HR := Lib.hid h
  have HS0 : Hid (Small maxLen l) := Lib.hid (fun s h => by have := hs s h; unfold maxLen; omega)
  obtain ⟨ao, c, rfl, _, hc⟩ := h
  have q1 : (wcells l).length = l.length := by simp [wcells]
  have HC := Lib.hid hc
  have HS := Lib.hid hs
  rw [q1] at HR ⊢
  generalize hn : l.length = n at *
  have HN := Lib.hid hn
  clear hn q1 hc hs
  cases ht : l.any tornB
  · go_enter Try.func27, Try.ntmps27
    go_wp2_with (go_at_call 33; refine (contains_any HR.out (by rw [HN.out]; exact hl) HS0.out).mono ?_; rintro e w' ⟨rfl, rfl⟩; rw [ht])
    have HT := Lib.hid ht
    clear ht
    have H0 : Hid (CatPart w w l 0 0 (.slice none 0 0)) := Lib.hid ⟨rfl, by simpa [bcells, flatS] using own_nil w _ 5 1, Fr.refl _ _⟩
    go_loopw [4, 11] (fun v i wr => ∃ k m : Nat, k ≤ n ∧ i = .int .i64 k ∧ m ≤ 16 ∧ Hid (CatPart w wr l k m v)) (fun _ i _ => n - (intOf i).toNat)
    case atStart => exact ⟨0, 0, by omega, rfl, by omega, H0⟩
    case round =>
      obtain ⟨k, m, hk, rfl, hm, hp⟩ := hrel
      clear H0
      obtain ⟨bo, d, hv, hd⟩ := own_slice hp.out.2.1
      subst hv
      by_cases hlt : k < n
      · have h1 : (k : Int) < n := by omega
        obtain ⟨x, hx⟩ : ∃ x, l[k]? = some x := ⟨_, List.getElem?_eq_getElem (by have := HN.out; omega)⟩
        obtain ⟨g, off, ha, _, hcell0⟩ := HC.out k _ (wcells_get hx)
        have hcell := hp.out.2.2.cell hcell0 (fun x => x)
        have hsx := HS.out x (List.mem_of_getElem? hx)
        subst ha
        have HX := Lib.hid hx
        clear hx hcell0
        by_cases h16 : 16 < m + x.size
        · have h2 : 16 < (m : Int) + (x.size : Int) := by omega
          have HA : Hid (catS l = (⟨#[]⟩, 4)) := Lib.hid (catS_large HT.out (by
            have := flat_take_le l (k + 1)
            rw [flat_take_succ HX.out, List.length_append, bs_len, ← hp.out.1] at this
            omega))
          go_wp2
          go_ret2
          exact ⟨pair_of HA.out, hp.out.2.2⟩
        · have h2 : ¬ 16 < (m : Int) + (x.size : Int) := by omega
          go_wp2_with (at_builtin; refine list_app rfl (.tmp 21) (.tmp 22) 48 22 rfl Try.slice48 rfl (by exact hp.out.2.1) rfl (by exact Src.ofString wr Try.underlying22 x) (by unfold maxLen; omega) (by omega) (by exact hp.out.2.2.size) ?_; intro v1 w2 hp1; have Hp1 := Lib.hid (hp.out.step HX.out hp1); clear hp1)
          go_roundw
          case rel => exact ⟨k + 1, m + x.size, by omega, by go_num, by omega, Hp1⟩
          case measure => simp [intOf]; omega
      · have hrow := hp.out.2.1
        have hfull : l.take k = l := List.take_of_length_le (by have := HN.out; omega)
        rw [hfull] at hrow
        have HA : Hid (catS l = (⟨(flatS l).toArray⟩, 0)) := Lib.hid (catS_ok HT.out (by have := hp.out.1; rw [hfull] at this; omega))
        have hconv : (convert 48 22 (.slice bo m d)).run Try.prog wr = .ok (.string ⟨(flatS l).toArray⟩) wr := run_to_string hrow
        clear hrow hfull
        go_wp2
        go_ret2
        exact ⟨pair_of HA.out, hp.out.2.2⟩
  · have HA := Lib.hid (catS_torn ht)
    go_enter Try.func27, Try.ntmps27
    go_wp2_with (go_at_call 33; refine (contains_any HR.out (by rw [HN.out]; exact hl) HS0.out).mono ?_; rintro e w' ⟨rfl, rfl⟩; rw [ht])
    go_ret2
    exact ⟨pair_of HA.out, Fr.refl _ _⟩
end Go.Proofs.Ytbpkfaoaphegnaa
