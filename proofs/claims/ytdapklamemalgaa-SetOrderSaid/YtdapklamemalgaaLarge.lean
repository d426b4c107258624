/- What the laws' large and own do. -/
import Derived.Test.YtdapklamemalgaaAwake
namespace Go.Proofs.Ytdapklamemalgaa
set_option linter.unusedVariables false
set_option linter.unusedSimpArgs false
open Go.RowKit Go.ChangeShapes Go.WideShapes

/-- one set is too large -/
def bigB (l : List ByteArray) : Bool := decide (60 < l.length) || l.any (fun x => decide (100 < x.size))
/-- one of the sets is too large -/
def largeB (ls : List (List ByteArray)) : Bool := ls.any bigB
theorem bigB_no {l : List ByteArray} (h : bigB l = false) : l.length ≤ 60 ∧ Small 100 l := by
  unfold bigB at h
  rw [Bool.or_eq_false_iff, List.any_eq_false] at h
  refine ⟨by have := h.1; simp at this; exact this, fun s hs => ?_⟩
  have := h.2 s hs
  simpa using this
theorem big_count {l : List ByteArray} (h : 60 < l.length) : bigB l = true := by unfold bigB; simp [h]
theorem big_word {l : List ByteArray} {k : Nat} {x : ByteArray} (hx : l[k]? = some x) (h : 100 < x.size) : bigB l = true := by
  unfold bigB
  rw [Bool.or_eq_true]
  right
  rw [List.any_eq_true]
  exact ⟨x, List.mem_of_getElem? hx, by simpa using h⟩
theorem big_not {l : List ByteArray} (h : l.length ≤ 60) (h2 : ∀ j y, j < l.length → l[j]? = some y → y.size ≤ 100) : bigB l = false := by
  unfold bigB
  rw [Bool.or_eq_false_iff, List.any_eq_false]
  refine ⟨by simp; omega, fun x hx => ?_⟩
  obtain ⟨i, hi⟩ := List.mem_iff_getElem?.1 hx
  have := h2 i x (List.getElem?_eq_some_iff.1 hi).1 hi
  simpa using this
theorem large_yes {ls : List (List ByteArray)} {k : Nat} {l : List ByteArray} (hl : ls[k]? = some l) (h : bigB l = true) : largeB ls = true := by
  unfold largeB
  rw [List.any_eq_true]
  exact ⟨l, List.mem_of_getElem? hl, h⟩
theorem large_no {ls : List (List ByteArray)} (h : ∀ j l, j < ls.length → ls[j]? = some l → bigB l = false) : largeB ls = false := by
  unfold largeB
  rw [List.any_eq_false]
  intro l hl
  obtain ⟨i, hi⟩ := List.mem_iff_getElem?.1 hl
  have := h i l (List.getElem?_eq_some_iff.1 hi).1 hi
  simp [this]
/-- values that are read as sets -/
def Sets (w : World) (vs : List Value) (ls : List (List ByteArray)) : Prop :=
  vs.length = ls.length ∧ ∀ (i : Nat) (l : List ByteArray), ls[i]? = some l → ∃ v, vs[i]? = some v ∧ Reads w (fun _ => True) v (wcells l) ∧ l.length ≤ maxLen ∧ Small maxLen l
theorem sets_step {ls : List (List ByteArray)} {k : Nat} {x : List ByteArray} (h : ∀ j l, j < k → ls[j]? = some l → bigB l = false) (hx : ls[k]? = some x) (hp : bigB x = false) : ∀ j l, j < k + 1 → ls[j]? = some l → bigB l = false := by
  intro j y hj hy
  rcases Nat.lt_or_ge j k with h1 | h1
  · exact h j y h1 hy
  · obtain rfl : j = k := by omega
    rw [hx] at hy; cases hy; exact hp
set_option maxHeartbeats 1000000 in
theorem large_any {w : World} {g : Nat} {vs : List Value} {ls : List (List ByteArray)} (hg : w.heap[g]? = some (.cells vs.toArray 23 (0, 0))) (h : Sets w vs ls) (hn : ls.length ≤ 10) :
    Calls Try.prog 10 #[.slice (some ⟨g, 0, none⟩) ls.length ls.length] w fun e w' => e = .returned (.bool (largeB ls)) ∧ w = w' := by
  have HS := Lib.hid h.2
  have HG : Hid (∀ k v, vs[k]? = some v → w.cell? ⟨g, k, none⟩ = some v) := Lib.hid (fun k v hv => by rw [cell_whole hg]; simpa using hv)
  clear hg h
  generalize hN : ls.length = n at hn ⊢
  have HN := Lib.hid hN
  clear hN
  go_enter Try.func10, Try.ntmps10
  go_wp2
  go_loop [7] (fun i => ∃ k : Nat, k ≤ n ∧ i = .int .i64 k ∧ Hid (∀ j l, j < k → ls[j]? = some l → bigB l = false)) (fun i => n - (intOf i).toNat)
  case atStart => exact ⟨0, by omega, rfl, Lib.hid (fun i y hi => by omega)⟩
  case round =>
    obtain ⟨k, hk, rfl, hall⟩ := hrel
    by_cases hlt : k < n
    · have h1 : (k : Int) < n := by omega
      obtain ⟨l, hl⟩ : ∃ l, ls[k]? = some l := ⟨_, List.getElem?_eq_getElem (by have := HN.out; omega)⟩
      obtain ⟨v, hv, ⟨ao, c, rfl, _, hc⟩, hml, hsl⟩ := HS.out k l hl
      have hcell := HG.out k _ hv
      rw [wcells_len] at hcell
      have HC := Lib.hid hc
      have HL := Lib.hid hl
      have HSL := Lib.hid hsl
      clear hv hc hl hsl
      generalize hm : l.length = m at hcell hml
      have HM := Lib.hid hm
      unfold maxLen at hml
      by_cases h60 : 60 < m
      · have HA := Lib.hid (large_yes HL.out (big_count (by omega)))
        have g1 : 60 < (m : Int) := by omega
        clear hm
        go_wp2
        go_ret
        exact ⟨ret_bool HA.out.symm, rfl⟩
      · have g1 : ¬ 60 < (m : Int) := by omega
        have H60 := Lib.hid h60
        clear hm
        go_wp2
        go_loop [21] (fun i => ∃ q : Nat, q ≤ m ∧ i = .int .i64 q ∧ Hid (∀ j y, j < q → l[j]? = some y → y.size ≤ 100)) (fun i => m - (intOf i).toNat)
        case atStart => exact ⟨0, by omega, rfl, Lib.hid (fun i y hi => by omega)⟩
        case round =>
          obtain ⟨q, hq, rfl, hin⟩ := hrel
          by_cases hlt2 : q < m
          · have h2 : (q : Int) < m := by omega
            obtain ⟨x, hx⟩ : ∃ x, l[q]? = some x := ⟨_, List.getElem?_eq_getElem (by have := HM.out; omega)⟩
            obtain ⟨gb, ob, rfl, _, hcell2⟩ := HC.out q _ (wcells_get hx)
            have hxs := HSL.out x (List.mem_of_getElem? hx)
            unfold maxLen at hxs
            have HX := Lib.hid hx
            clear hx
            by_cases h100 : 100 < x.size
            · have HA := Lib.hid (large_yes HL.out (big_word HX.out h100))
              have g2 : 100 < (x.size : Int) := by omega
              go_wp2
              go_ret
              exact ⟨ret_bool HA.out.symm, rfl⟩
            · have g2 : ¬ 100 < (x.size : Int) := by omega
              have HA := Lib.hid (get_step hin.out HX.out (p := fun y => y.size ≤ 100) (by omega))
              clear h100
              go_wp2
              go_round
              case rel => exact ⟨q + 1, by omega, by go_num, HA⟩
              case measure => simp [intOf]; omega
          · have HA := Lib.hid (sets_step hall.out HL.out (big_not (by have := HM.out; have := H60.out; omega) (fun j y hj hy => hin.out j y (by have := HM.out; omega) hy)))
            go_wp2
            go_round
            case rel => exact ⟨k + 1, by omega, by go_num, HA⟩
            case measure => simp [intOf]; omega
    · have HA := Lib.hid (large_no (ls := ls) (fun j l hj hl => hall.out j l (by have := HN.out; omega) hl))
      go_wp2
      go_ret
      exact ⟨ret_bool HA.out.symm, rfl⟩
theorem own_any {w : World} {G : Nat → Prop} {v : Value} {l : List ByteArray} (h : Reads w G v (wcells l)) (hl : l.length ≤ 100000) :
    Calls Try.prog 11 #[v] w (WordsPost w l) := by
  have H1 : Hid (Reads (w.alloc (Obj.cells #[] 36)) G v (wcells l)) := Lib.hid (h.new (Fr.of_alloc _ _ _))
  obtain ⟨ao, c, rfl, _, hc⟩ := h
  rw [wcells_len] at H1 ⊢
  clear hc
  have H0 := Lib.hid (own_new (base := w.heap.size) (size := 1) (heap_alloc_new w (Obj.cells #[] 36)) (Nat.le_refl _))
  go_enter Try.func11, Try.ntmps11
  go_wp2_with (at_builtin; refine list_app rfl (.tmp 3) (.tmp 4) 23 23 rfl Try.slice23 rfl (by exact H0.out) rfl (by exact H1.out.src Try.underlying23 one_str) (by rw [wcells_len]; unfold maxLen; omega) (by rw [wcells_len]; omega) (by simp) ?_; intro v1 w1 hp1; have Hp1 := Lib.hid hp1; clear hp1)
  go_ret
  have hp := Hp1.out.kept (Fr.of_alloc (fun _ => False) w (Obj.cells #[] 36)) (own_at _ _ _)
  refine ⟨v1, rfl, ?_, hp.1⟩
  have := Hp1.out.1
  simpa [wcells_len] using this
end Go.Proofs.Ytdapklamemalgaa
