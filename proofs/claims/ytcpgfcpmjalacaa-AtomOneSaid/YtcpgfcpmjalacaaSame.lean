/- same and large of the laws of layer 1. -/
import Derived.Test.YtcpgfcpmjalacaaAwake
import Derived.Test.YtcpgfcpmjalacaaArgs
namespace Go.Proofs.Ytcpgfcpmjalacaa
open Go.RowKit

theorem eq_of_take {α : Type} {l m : List α} (hlen : l.length = m.length) {k : Nat} (hk : k = l.length) (h : ∀ i, i < k → l[i]? = m[i]?) : l = m := by
  apply List.ext_getElem?
  intro i
  rcases Nat.lt_or_ge i k with hi | hi
  · exact h i hi
  · rw [List.getElem?_eq_none (by omega), List.getElem?_eq_none (by omega)]

theorem toList_inj {a b : ByteArray} (h : a.toList = b.toList) : a = b := by
  have h1 : (a == b) = true := by rw [beq_toListBytes, h]; simp
  cases a with | mk x => cases b with | mk y =>
    have : (x == y) = true := h1
    simp at this; rw [this]

set_option maxHeartbeats 2000000 in
theorem same_any {w : World} {G1 G2 : Nat → Prop} {v1 v2 : Value} {l1 l2 : List ByteArray} (h1 : Reads w G1 v1 l1) (h2 : Reads w G2 v2 l2) (hs1 : l1.length ≤ 4000) (hs2 : l2.length ≤ 4000) :
    Calls Try.prog 19 #[v1, v2] w fun e w' => e = .returned (.bool (decide (l1 = l2))) ∧ ∃ n, w' = w.drewN n := by
  obtain ⟨ao1, c1, rfl, hc1⟩ := h1
  obtain ⟨ao2, c2, rfl, hc2⟩ := h2
  by_cases hl : l1.length = l2.length
  · have HL := Lib.hid hl
    have H1 := Lib.hid hc1
    have H2 := Lib.hid hc2
    generalize hn : l1.length = n at *
    have HN := Lib.hid hn
    have hnn : (((n : Nat) : Int) != (n : Int)) = false := by simp
    rw [← hl]
    clear hl hn hc1 hc2
    go_enter Try.func19, Try.ntmps19
    go_wp2
    go_loopw [13] (fun i wr => ∃ k m : Nat, k ≤ n ∧ i = .int .i64 k ∧ wr = w.drewN m ∧ Hid (∀ i, i < k → l1[i]? = l2[i]?)) (fun i _ => n - (intOf i).toNat)
    case atStart => exact ⟨0, 0, by omega, rfl, rfl, fun i hi => by omega⟩
    case round =>
      obtain ⟨k, m, hk, rfl, rfl, hall⟩ := hrel
      by_cases hlt : k < n
      · obtain ⟨s, hs⟩ : ∃ s, l1[k]? = some s := ⟨_, List.getElem?_eq_getElem (by have := HN.out; omega)⟩
        obtain ⟨t, ht⟩ : ∃ t, l2[k]? = some t := ⟨_, List.getElem?_eq_getElem (by have := HL.out; omega)⟩
        obtain ⟨g1, o1, ha1, _, hd1⟩ := H1.out k s hs
        obtain ⟨g2, o2, ha2, _, hd2⟩ := H2.out k t ht
        subst ha1 ha2
        have HS := Lib.hid hs
        have HT := Lib.hid ht
        clear hs ht
        have hk1 : (k : Int) < n := by omega
        by_cases he : s = t
        · have hst : (s.toList == t.toList) = true := by simp [he]
          have HE := Lib.hid he
          clear he
          go_wp2
          go_quiet (fail)
          go_wp2
          go_roundw
          case rel =>
            refine ⟨k + 1, _, by omega, by go_num, rfl, fun i hi => ?_⟩
            rcases Nat.lt_or_ge i k with hi' | hi'
            · exact hall.out i hi'
            · obtain rfl : i = k := by omega
              rw [HS.out, HT.out, HE.out]
          case measure => simp [intOf]; omega
        · have hst : (s.toList == t.toList) = false := by
            rw [beq_eq_false_iff_ne]; exact fun h => he (toList_inj h)
          have HE : Hid (l1 ≠ l2) := fun h => he (by have := HS.out; rw [h, HT.out] at this; exact (Option.some.inj this).symm)
          clear he
          go_wp2
          go_quiet (fail)
          go_wp2
          go_ret
          exact ⟨ret_bool (by simp [HE.out]), m + nq, by simp⟩
      · obtain rfl : k = n := by omega
        have HE : Hid (l1 = l2) := eq_of_take (HN.out.trans HL.out) HN.out.symm hall.out
        clear hlt
        go_wp2
        go_ret
        exact ⟨ret_bool (by simp [HE.out]), _, rfl⟩
  · have HE : Hid (l1 ≠ l2) := fun h => hl (by rw [h])
    have hnn : ((l1.length : Int) != (l2.length : Int)) = true := by rw [bne_iff_ne]; omega
    clear hl hc1 hc2
    go_enter Try.func19, Try.ntmps19
    go_wp2
    go_ret
    exact ⟨ret_bool (by simp [HE.out]), 0, rfl⟩

/-- no name of the first 400 acts is longer than 1000 bytes -/
def shortB (l : List ActD) : Bool := (l.take 400).all fun x => decide (x.name.size ≤ 1000)

set_option maxHeartbeats 2000000 in
theorem large_any {w : World} {v : Value} {l : List ActD} (h : ActsAt w v l) :
    Calls Try.prog 10 #[v] w fun e w' => e = .returned (.bool (!shortB l)) ∧ w = w' := by
  obtain ⟨ao, c, rfl, hlm, hel⟩ := h
  unfold maxLen at hlm
  have HE := Lib.hid hel
  generalize hn : l.length = n at *
  have HN := Lib.hid hn
  clear hel hn
  go_enter Try.func10, Try.ntmps10
  go_wp2
  go_loop [3] (fun i => ∃ k : Nat, k ≤ n ∧ k ≤ 400 ∧ i = .int .i64 k ∧ Hid (∀ j x, j < k → l[j]? = some x → x.name.size ≤ 1000)) (fun i => n - (intOf i).toNat)
  case atStart => exact ⟨0, by omega, by omega, rfl, fun i x hi => by omega⟩
  case round =>
    obtain ⟨k, hk, hk4, rfl, hall⟩ := hrel
    by_cases hlt : k < n ∧ k < 400
    · obtain ⟨hlt, hlt4⟩ := hlt
      obtain ⟨x, hx⟩ : ∃ x, l[k]? = some x := ⟨_, List.getElem?_eq_getElem (by have := HN.out; omega)⟩
      obtain ⟨_, hsz, g, off, rfl, _, hc, _⟩ := HE.out k x hx
      have HX := Lib.hid hx
      unfold maxLen at hsz
      clear hx
      have hk1 : (k : Int) < n := by omega
      have hk2 : (k : Int) < 400 := by omega
      by_cases hs : 1000 < x.name.size
      · have hs1 : 1000 < (x.name.size : Int) := by omega
        go_wp2
        go_ret
        refine ⟨ret_bool ?_, rfl⟩
        have : shortB l = false := by
          unfold shortB
          rw [List.all_eq_false]
          refine ⟨x, List.mem_of_getElem? (i := k) (by rw [List.getElem?_take, if_pos hlt4]; exact HX.out), by simp; omega⟩
        rw [this]; rfl
      · have hs1 : ¬ 1000 < (x.name.size : Int) := by omega
        go_wp2
        go_round
        case rel =>
          refine ⟨k + 1, by omega, by omega, by go_num, fun i y hi hy => ?_⟩
          rcases Nat.lt_or_ge i k with hi' | hi'
          · exact hall.out i y hi' hy
          · obtain rfl : i = k := by omega
            rw [HX.out] at hy; cases hy; omega
        case measure => simp [intOf]; omega
    · have HS : Hid (shortB l = true) := by
        show (l.take 400).all _ = true
        rw [List.all_eq_true]
        intro x hx
        obtain ⟨i, hi⟩ := List.mem_iff_getElem?.1 hx
        rw [List.getElem?_take] at hi
        split at hi
        · rename_i h4
          have h5 := (List.getElem?_eq_some_iff.1 hi).1
          have := HN.out
          have := hall.out i x (by omega) hi
          simpa using this
        · cases hi
      by_cases h1 : k < n
      · have h2 : ¬ (k : Int) < 400 := by omega
        have h3 : (k : Int) < n := by omega
        go_wp2
        go_ret
        exact ⟨ret_bool (by rw [HS.out]; rfl), rfl⟩
      · have h3 : ¬ (k : Int) < n := by omega
        go_wp2
        go_ret
        exact ⟨ret_bool (by rw [HS.out]; rfl), rfl⟩
end Go.Proofs.Ytcpgfcpmjalacaa
