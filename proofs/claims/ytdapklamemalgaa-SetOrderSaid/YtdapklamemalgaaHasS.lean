/- What is told of a set: whether a word is one of its, and how long its longest one is. -/
import Derived.Test.YtdapklamemalgaaOfS
namespace Go.Proofs.Ytdapklamemalgaa
set_option linter.unusedVariables false
set_option linter.unusedSimpArgs false
open Go.RowKit Go.ChangeShapes Go.WideShapes

theorem eq_str (x y : ByteArray) : (x.toList == y.toList) = decide (x = y) := beq_bs x y
/-- a place is told just if the word is there -/
def IdxPost (l : List ByteArray) (x : ByteArray) (w : World) (e : Ending) (w' : World) : Prop := ∃ i : Int, e = .returned (.int .i64 i) ∧ decide (0 ≤ i) = hasL l x ∧ w = w'
theorem hasL_at {l : List ByteArray} {k : Nat} {x : ByteArray} (h : l[k]? = some x) : hasL l x = true := hasL_iff.2 (List.mem_of_getElem? h)
theorem hasL_not {l : List ByteArray} {x : ByteArray} (h : ∀ j y, j < l.length → l[j]? = some y → y ≠ x) : hasL l x = false := by
  cases e : hasL l x
  · rfl
  · obtain ⟨i, hi⟩ := List.mem_iff_getElem?.1 (hasL_iff.1 e)
    exact absurd rfl (h i x (List.getElem?_eq_some_iff.1 hi).1 hi)
theorem place_any {w : World} {G : Nat → Prop} {v : Value} {l : List ByteArray} {x : ByteArray} (h : Reads w G v (wcells l)) (hl : l.length ≤ 100000) (hs : Small maxLen l) (hx : x.size ≤ maxLen) :
    Calls Try.prog 59 #[v, .string x] w (IdxPost l x w) := by
  obtain ⟨ao, c, rfl, _, hc⟩ := h
  rw [wcells_len]
  have HC := Lib.hid hc
  clear hc hs hx
  generalize hn : l.length = n at hl ⊢
  have HN := Lib.hid hn
  clear hn
  go_enter Try.func59, Try.ntmps59
  go_wp2
  go_loop [8] (fun i => ∃ k : Nat, k ≤ n ∧ i = .int .i64 k ∧ Hid (∀ j y, j < k → l[j]? = some y → y ≠ x)) (fun i => n - (intOf i).toNat)
  case atStart => exact ⟨0, by omega, rfl, Lib.hid (fun i y hi => by omega)⟩
  case round =>
    obtain ⟨k, hk, rfl, hall⟩ := hrel
    by_cases hlt : k < n
    · have h1 : (k : Int) < n := by omega
      obtain ⟨y, hy⟩ : ∃ y, l[k]? = some y := ⟨_, List.getElem?_eq_getElem (by have := HN.out; omega)⟩
      obtain ⟨g, off, rfl, _, hcell⟩ := HC.out k _ (wcells_get hy)
      have HY := Lib.hid hy
      clear hy
      by_cases hxy : x = y
      · have hq : (x.toList == y.toList) = true := by rw [eq_str]; simpa using hxy
        have HA : Hid (decide ((0 : Int) ≤ (k : Int)) = hasL l x) := Lib.hid (by rw [hxy, hasL_at HY.out]; simp)
        clear hxy
        go_wp2
        go_ret
        exact ⟨_, rfl, HA.out, rfl⟩
      · have hq : (x.toList == y.toList) = false := by rw [eq_str]; simpa using hxy
        have HA := Lib.hid (get_step hall.out HY.out (p := fun y => y ≠ x) (fun e => hxy e.symm))
        clear hxy
        go_wp2
        go_round
        case rel => exact ⟨k + 1, by omega, by go_num, HA⟩
        case measure => simp [intOf]; omega
    · have HA : Hid (decide ((0 : Int) ≤ -1) = hasL l x) := Lib.hid (by rw [hasL_not (fun j y hj hy => hall.out j y (by have := HN.out; omega) hy)]; rfl)
      go_wp2
      go_ret
      exact ⟨_, rfl, HA.out, rfl⟩
theorem has2_any {w : World} {G : Nat → Prop} {v : Value} {l : List ByteArray} {x : ByteArray} (h : Reads w G v (wcells l)) (hl : l.length ≤ 100000) (hs : Small maxLen l) (hx : x.size ≤ maxLen) :
    Calls Try.prog 47 #[v, .string x] w fun e w' => e = .returned (.bool (hasL l x)) ∧ w = w' := by
  have HR := Lib.hid h
  have HS := Lib.hid hs
  have HX := Lib.hid hx
  clear h hs hx
  go_enter Try.func47, Try.ntmps47
  go_wp2_with fail
  refine (place_any HR.out hl HS.out HX.out).mono ?_
  rintro e w' ⟨i, rfl, hi, rfl⟩
  have HI := Lib.hid hi
  clear hi
  go_wp2
  go_ret
  refine ⟨ret_bool ?_, rfl⟩
  rw [← HI.out]
theorem has_any {w : World} {G : Nat → Prop} {v : Value} {l : List ByteArray} {x : ByteArray} (h : Reads w G v (wcells l)) (hl : l.length ≤ 100000) (hs : Small maxLen l) (hx : x.size ≤ maxLen) :
    Calls Try.prog 25 #[v, .string x] w fun e w' => e = .returned (.bool (hasL l x)) ∧ w = w' := by
  have HR := Lib.hid h
  have HS := Lib.hid hs
  have HX := Lib.hid hx
  clear h hs hx
  go_enter Try.func25, Try.ntmps25
  go_wp2_with fail
  refine (has2_any HR.out hl HS.out HX.out).mono ?_
  rintro e w' ⟨rfl, rfl⟩
  go_wp2
  go_ret
  exact ⟨rfl, rfl⟩
theorem heavy_take {l : List ByteArray} {k : Nat} {x : ByteArray} (h : l[k]? = some x) : heavyL (l.take (k + 1)) = Nat.max (heavyL (l.take k)) (x.size / 2) := by
  unfold heavyL
  rw [List.take_add_one, h]
  simp [List.foldl_append]
theorem heavy_le : ∀ {n : Nat} {l : List ByteArray}, Small n l → heavyL l ≤ n := by
  intro n l
  have : ∀ (m : List Nat) (a : Nat), a ≤ n → (∀ x ∈ m, x ≤ n) → m.foldl Nat.max a ≤ n := by
    intro m
    induction m with
    | nil => intro a ha _; exact ha
    | cons x r ih => intro a ha hm; exact ih _ (Nat.max_le.2 ⟨ha, hm x (by simp)⟩) (fun y hy => hm y (by simp [hy]))
  intro h
  refine this _ 0 (Nat.zero_le _) fun x hx => ?_
  obtain ⟨y, hy, rfl⟩ := List.mem_map.1 hx
  have := h y hy
  omega
theorem max_int (a b : Nat) : max (a : Int) (b : Int) = ((Nat.max a b : Nat) : Int) := by
  rw [show Nat.max a b = max a b from rfl]
  omega
set_option maxHeartbeats 1000000 in
theorem heavy_any {w : World} {G : Nat → Prop} {v : Value} {l : List ByteArray} (h : Reads w G v (wcells l)) (hl : l.length ≤ 100000) (hs : Small 100000 l) :
    Calls Try.prog 31 #[v] w fun e w' => e = .returned (.int .i64 (heavyL l)) ∧ w = w' := by
  obtain ⟨ao, c, rfl, _, hc⟩ := h
  rw [wcells_len]
  have HC := Lib.hid hc
  have HS := Lib.hid hs
  clear hc hs
  generalize hn : l.length = n at hl ⊢
  have HN := Lib.hid hn
  clear hn
  go_enter Try.func31, Try.ntmps31
  go_wp2
  go_loop [3, 8] (fun m i => ∃ k t : Nat, k ≤ n ∧ m = .int .i64 t ∧ i = .int .i64 k ∧ Hid (heavyL (l.take k) = t)) (fun _ i => n - (intOf i).toNat)
  case atStart => exact ⟨0, 0, by omega, rfl, rfl, Lib.hid rfl⟩
  case round =>
    obtain ⟨k, t, hk, rfl, rfl, ht⟩ := hrel
    by_cases hlt : k < n
    · have h1 : (k : Int) < n := by omega
      obtain ⟨y, hy⟩ : ∃ y, l[k]? = some y := ⟨_, List.getElem?_eq_getElem (by have := HN.out; omega)⟩
      obtain ⟨g, off, rfl, _, hcell⟩ := HC.out k _ (wcells_get hy)
      have hsy := Lib.hid (HS.out y (List.mem_of_getElem? hy))
      have HA := Lib.hid ((heavy_take hy).trans (by rw [ht.out]))
      have HM : Hid (Value.int .i64 (max (t : Int) ((y.size : Int) / 2)) = .int .i64 ((Nat.max t (y.size / 2) : Nat) : Int)) := Lib.hid (by
        rw [show ((y.size : Int) / 2) = ((y.size / 2 : Nat) : Int) by omega, max_int])
      clear hy
      go_wp2_with fail
      refine (len_any y _ (by have := hsy.out; unfold maxLen; omega)).mono ?_
      rintro e w' ⟨rfl, rfl⟩
      go_wp2
      go_round
      case rel => exact ⟨k + 1, Nat.max t (y.size / 2), by omega, HM.out, by go_num, HA⟩
      case measure => simp [intOf]; omega
    · have hfull : l.take k = l := List.take_of_length_le (by have := HN.out; omega)
      rw [hfull] at ht
      go_wp2
      go_ret
      exact ⟨ret_int (by rw [ht.out]), rfl⟩
end Go.Proofs.Ytdapklamemalgaa
