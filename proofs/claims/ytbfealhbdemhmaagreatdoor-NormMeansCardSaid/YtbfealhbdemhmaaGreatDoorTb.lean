/- Contracts and lemmas: Tb -/
import Derived.Test.YtbfealhbdemhmaaGreatDoorN3
import Derived.Test.YtbfealhbdemhmaaGreatDoorR3
namespace Go.Proofs.YtbfealhbdemhmaaGreatDoor
set_option linter.unusedVariables false
set_option linter.unusedSimpArgs false
open Go.RowKit Go.ChangeShapes Go.WideShapes
set_option maxRecDepth 20000
namespace Atm
/-- what tables answers -/
def TablesPost (w : World) (e : Ending) (w' : World) : Prop :=
  Kept w w' ∧ ((∃ B F B' F' L, e = .returned (.tuple #[.pointer (some ⟨B, 0, none⟩), .pointer (some ⟨B', 0, none⟩)]) ∧ Tab w' F B L ∧ RTab w' F' B' L ∧ TabL L ∧ (∀ a x, nameOf L a = some x → x.size ≤ 24)) ∨ e = .returned (.tuple #[.pointer none, .pointer none]))
theorem Tab.names {w : World} {F : Nat → Prop} {B : Nat} {L : Nat → List ByteArray} (h : Tab w F B L) : ∀ a x, nameOf L a = some x → x.size ≤ 24 := fun a x hx => by
  unfold nameOf at hx
  split at hx
  · cases hx; decide
  · split at hx
    · exact may_size (h.good _ x (List.mem_of_getElem? hx))
    · cases hx
theorem box_cell (w : World) (v : Nat → Value) (t : TypeId) {k : Nat} (hk : k < 6) : (w.alloc (.cells #[v 0, v 1, v 2, v 3, v 4, v 5] t)).cell? ⟨w.heap.size, k, none⟩ = some (v k) := by
  rw [cell_arr (heap_alloc_new w (.cells #[v 0, v 1, v 2, v 3, v 4, v 5] t))]
  match k, hk with
  | 0, _ => rfl
  | 1, _ => rfl
  | 2, _ => rfl
  | 3, _ => rfl
  | 4, _ => rfl
  | 5, _ => rfl
set_option maxHeartbeats 4000000 in
theorem tables_any {w : World} {x : Value} (h : Rows6At w x) : Calls Tryz.prog 10 #[x] w (TablesPost w) := by
  obtain ⟨v, src, rfl, hk⟩ := h
  have HK := Lib.hid hk
  have HW : Hid (Kept w (w.alloc (.cells #[v 0, v 1, v 2, v 3, v 4, v 5] 24))) := Lib.hid (atm_to (Fr.of_alloc _ _ _))
  have HB := Lib.hid (heap_alloc_new w (.cells #[v 0, v 1, v 2, v 3, v 4, v 5] 24))
  have HC := Lib.hid (fun k (hk6 : k < 6) => box_cell w v 24 hk6)
  clear hk
  go_enter Tryz.func10, Tryz.ntmps10
  go_wp2
  go_loopw [9] (fun iv wr => ∃ k : Nat, k ≤ 6 ∧ iv = .int .i64 k ∧ wr = w.alloc (.cells #[v 0, v 1, v 2, v 3, v 4, v 5] 24)) (fun iv _ => 6 - (intOf iv).toNat)
  case atStart => exact ⟨0, by omega, rfl, rfl⟩
  case round =>
    obtain ⟨k, hk, rfl, rfl⟩ := hrel
    by_cases hlt : k < 6
    · have hlti : (k : Int) < 6 := by omega
      have hki0 : 0 ≤ (k : Int) := by omega
      obtain ⟨ao, c, hv, _⟩ := (HK.out k hlt).1
      have hcell := HC.out k hlt
      rw [hv] at hcell
      clear hv
      generalize (src k).length = n at *
      by_cases hn : 100 < n
      · have hni : (100 : Int) < n := by omega
        go_wp2
        go_ret2
        exact ⟨HW.out, .inr rfl⟩
      · have hni : ¬ (100 : Int) < n := by omega
        go_wp2
        exact ⟨⟨k + 1, by omega, by go_num, by simp⟩, by simp [intOf]; omega⟩
    · have hlti : ¬ (k : Int) < 6 := by omega
      have HRD : Hid (∀ W, Kept w W → (∀ k, k < 6 → Reads W (fun _ => True) (v k) (src k))) := Lib.hid (fun W hW k hk6 => ((HK.out k hk6).1).same (atm_of hW) (fun _ _ h => h))
      have hb := HB.out
      clear hk hlt
      go_wp2_with fail
      refine (load_any v src (HRD.out _ HW.out) (fun k hk6 => (HK.out k hk6).2.1) (fun k hk6 => (HK.out k hk6).2.2)).mono ?_
      rintro e w1 ⟨hf1, h1⟩
      have HF1 := Lib.hid (HW.out.trans (atm_to hf1))
      have hc1 : ∀ k, k < 6 → w1.cell? ⟨w.heap.size, k, none⟩ = some (v k) := fun k hk6 => (atm_to hf1).cell (HC.out k hk6) (fun x => x)
      have d0 := hc1 0 (by omega)
      have d1 := hc1 1 (by omega)
      have d2 := hc1 2 (by omega)
      have d3 := hc1 3 (by omega)
      have d4 := hc1 4 (by omega)
      have d5 := hc1 5 (by omega)
      clear hc1
      clear hf1 hb
      have H1 := Lib.hid h1
      clear h1
      obtain ⟨p, q, rfl, HPQ⟩ : ∃ p q, e = .returned (.tuple #[.pointer p, .int .i64 q]) ∧ Hid ((q = 0 ∧ (loadS src).1 = 0 ∧ ∃ B F, p = some ⟨B, 0, none⟩ ∧ Tab w1 F B (loadS src).2) ∨ (q ≠ 0 ∧ (loadS src).1 ≠ 0)) := by
        rcases H1.out with ⟨h0, B, F, rfl, ht, _⟩ | ⟨h0, rfl⟩
        · exact ⟨_, _, rfl, Lib.hid (.inl ⟨rfl, h0, B, F, rfl, ht⟩)⟩
        · exact ⟨_, _, rfl, Lib.hid (.inr ⟨h0, h0⟩)⟩
      go_wp2_with fail
      refine (rload_any v src (HRD.out _ HF1.out) (fun k hk6 => (HK.out k hk6).2.1) (fun k hk6 => (HK.out k hk6).2.2)).mono ?_
      rintro e w2 ⟨hf2, h2⟩
      have HF2 := Lib.hid (atm_to hf2)
      have HF3 := Lib.hid (HF1.out.trans (atm_to hf2))
      have H2 := Lib.hid h2
      clear hf2 h2 d0 d1 d2 d3 d4 d5
      rcases HPQ.out with ⟨rfl, hs0, B, F, rfl, ht⟩ | ⟨hq, hs0⟩
      · have HTB := Lib.hid (ht.later HF2.out)
        rcases H2.out with ⟨h0, B', F', rfl, ht', _, _⟩ | ⟨h0, rfl⟩
        · have HTR := Lib.hid ht'
          clear ht ht' hs0 h0
          go_wp2
          go_ret2
          exact ⟨HF3.out, .inl ⟨_, _, _, _, _, rfl, HTB.out, HTR.out, ⟨HTB.out.nodup, HTB.out.few⟩, HTB.out.names⟩⟩
        · exact absurd hs0 h0
      · have hq2 : (q != 0) = true := by simp [hq]
        rcases H2.out with ⟨h0, B', F', rfl, ht', _, _⟩ | ⟨h0, rfl⟩
        · exact absurd h0 hs0
        · clear hs0 hq
          generalize (loadS src).1 = q' at *
          go_wp2
          go_ret2
          exact ⟨HF3.out, .inr rfl⟩
end Atm

open Go.RowKit Go.ChangeShapes Go.WideShapes
set_option maxRecDepth 20000
/-- too many, or a name too long -/
def largeX (l : List TrmB) : Bool := decide (300 < l.length) || l.any fun t => decide (100 < t.name.size)
set_option maxHeartbeats 1000000 in
theorem klargex_any {w : World} {v : Value} {l : List TrmB} (h : ReadsX w v l) (hl : (l.length : Int) ≤ 9223372036854775807) :
    Calls Tryz.prog 11 #[v] w fun e w' => e = .returned (.bool (largeX l)) ∧ w = w' := by
  obtain ⟨ao, c, rfl, _, hc⟩ := h
  have HC := Lib.hid hc
  clear hc
  have HB : Hid (∀ (k : Nat) (t : TrmB), l.length ≤ 300 → l[k]? = some t → 100 < t.name.size → largeX l = true) := Lib.hid (fun k t h1 h2 h3 => by
    unfold largeX
    have : (l.any fun t => decide (100 < t.name.size)) = true := List.any_eq_true.2 ⟨t, List.mem_of_getElem? h2, by simpa using h3⟩
    rw [this]; simp)
  have HG : Hid (l.length ≤ 300 → (∀ (k : Nat) (t : TrmB), k < l.length → l[k]? = some t → ¬ 100 < t.name.size) → largeX l = false) := Lib.hid (fun h1 h2 => by
    unfold largeX
    have : (l.any fun t => decide (100 < t.name.size)) = false := by
      rw [List.any_eq_false]
      intro t ht
      obtain ⟨k, hk⟩ := List.mem_iff_getElem?.1 ht
      have := h2 k t (List.getElem?_eq_some_iff.1 hk).1 hk
      simpa using this
    rw [this, show decide (300 < l.length) = false by simp; omega]; rfl)
  generalize hn : l.length = n at *
  have HN := Lib.hid hn
  clear hn
  by_cases h1 : 300 < n
  · have h1i : (300 : Int) < n := by omega
    have HA : Hid (largeX l = true) := Lib.hid (by unfold largeX; rw [HN.out, decide_eq_true h1]; rfl)
    clear h1
    go_enter Tryz.func11, Tryz.ntmps11
    go_wp2
    go_ret
    exact ⟨ret_bool HA.out.symm, rfl⟩
  · have h1i : ¬ (300 : Int) < n := by omega
    go_enter Tryz.func11, Tryz.ntmps11
    go_wp2
    go_loop [9] (fun i => ∃ k : Nat, i = .int .i64 k ∧ k ≤ n ∧ Hid (∀ (j : Nat) (t : TrmB), j < k → l[j]? = some t → ¬ 100 < t.name.size)) (fun i => n - (intOf i).toNat)
    case atStart => exact ⟨0, rfl, by omega, Lib.hid (fun j t h => by omega)⟩
    case round =>
      obtain ⟨k, rfl, hk, hall⟩ := hrel
      by_cases hlt : k < n
      · have hlti : (k : Int) < n := by omega
        obtain ⟨t, ht⟩ : ∃ t, l[k]? = some t := ⟨_, List.getElem?_eq_getElem (by have := HN.out; omega)⟩
        obtain ⟨g, off, rfl, d0, d1, d2⟩ := HC.out k t ht
        by_cases hs : 100 < t.name.size
        · have hsi : (100 : Int) < (t.name.size : Int) := by omega
          have HA := Lib.hid (HB.out k t (by omega) ht hs)
          clear hs ht
          go_wp2
          go_ret
          exact ⟨ret_bool HA.out.symm, rfl⟩
        · have hsi : ¬ (100 : Int) < (t.name.size : Int) := by omega
          have HA : Hid (∀ (j : Nat) (t : TrmB), j < k + 1 → l[j]? = some t → ¬ 100 < t.name.size) := Lib.hid (fun j t' hj h2 => by
            rcases Nat.lt_or_ge j k with h3 | h3
            · exact hall.out j t' h3 h2
            · obtain rfl : j = k := by omega
              rw [ht] at h2; cases h2; exact hs)
          clear hs ht
          go_wp2
          go_round
          case rel => exact ⟨k + 1, by go_num, by omega, HA⟩
          case measure => simp [intOf]; omega
      · have hlti : ¬ (k : Int) < n := by omega
        have HA := Lib.hid (HG.out (by omega) (fun j t h2 h3 => hall.out j t (by omega) h3))
        go_wp2
        go_ret
        exact ⟨ret_bool HA.out.symm, rfl⟩


theorem atomsN_le {s : List ByteArray} {k m : Nat} (h : ∀ x ∈ s, x.size ≤ m) : atomsN (s.take k) ≤ s.length * m := by
  unfold atomsN
  have : ∀ (l : List ByteArray), (∀ x ∈ l, x.size ≤ m) → (l.map fun w => (atoms (bs w)).length).sum ≤ l.length * m := fun l => by
    induction l with
    | nil => intro _; simp
    | cons x r ih =>
      intro hx
      have h1 := ih (fun y hy => hx y (by simp [hy]))
      have h2 := hx x (by simp)
      have h3 : (atoms (bs x)).length ≤ x.size := by rw [atoms_len, bs_len]; omega
      simp only [List.map_cons, List.sum_cons, List.length_cons, Nat.add_mul]
      omega
  have h1 := this (s.take k) (fun x hx => h x (List.mem_of_mem_take hx))
  have h2 : (s.take k).length * m ≤ s.length * m := Nat.mul_le_mul_right _ (by simp; omega)
  omega
theorem atomsN_step {s : List ByteArray} {k : Nat} {x : ByteArray} (h : s[k]? = some x) : atomsN (s.take (k + 1)) = atomsN (s.take k) + (atoms (bs x)).length := by
  obtain ⟨hk, rfl⟩ := List.getElem?_eq_some_iff.1 h
  unfold atomsN
  rw [List.take_succ_eq_append_getElem hk]
  simp only [List.map_append, List.sum_append, List.map_cons, List.map_nil, List.sum_cons, List.sum_nil, Nat.add_zero]
set_option maxHeartbeats 4000000 in
theorem nsmall_any {w : World} {G : Nat → Prop} {v : Value} {s : List ByteArray} (h : Reads w G v (wcells s)) (hl : s.length ≤ 60) (hs : ∀ x ∈ s, x.size ≤ 100) :
    Calls Tryz.prog 19 #[v] w (KeptPost (.bool (decide (atomsN s ≤ 90))) w) := by
  obtain ⟨ao, c, rfl, hcc, hc⟩ := h
  have HC := Lib.hid hc
  have HS := Lib.hid hs
  have HWN : Hid ((wcells s).length = s.length) := Lib.hid (wcells_len s)
  have HLE : Hid (∀ k, atomsN (s.take k) ≤ 6000) := Lib.hid (fun k => by have := atomsN_le (k := k) hs; omega)
  clear hc hs hcc
  generalize (wcells s).length = n at *
  have HN : Hid (s.length = n) := Lib.hid HWN.out.symm
  have hn : n ≤ 60 := by rw [← HN.out]; exact hl
  clear hl HWN
  have HK0 : Hid (Kept w w) := Lib.hid (Fr.refl _ _)
  go_enter Tryz.func19, Tryz.ntmps19
  go_wp2
  go_loopw [3, 7] (fun av iv wr => ∃ k : Nat, k ≤ n ∧ av = .int .i64 (atomsN (s.take k) : Nat) ∧ iv = .int .i64 k ∧ Hid (Kept w wr)) (fun _ iv _ => n - (intOf iv).toNat)
  case atStart => exact ⟨0, by omega, by simp [atomsN], rfl, HK0⟩
  case round =>
    obtain ⟨k, hk, rfl, rfl, hkp⟩ := hrel
    clear HK0
    by_cases hlt : k < n
    · have hlti : (k : Int) < n := by omega
      have hki0 : (0 : Int) ≤ k := by omega
      obtain ⟨x, hx⟩ : ∃ x, s[k]? = some x := ⟨_, List.getElem?_eq_getElem (by rw [HN.out]; exact hlt)⟩
      obtain ⟨g, off, rfl, _, hcell0⟩ := HC.out k _ (wcells_get hx)
      have hcell := hkp.out.cell hcell0 (fun x => x)
      have HST := Lib.hid (atomsN_step hx)
      have hb := HLE.out (k + 1)
      rw [HST.out] at hb
      have HAT := Lib.hid (fun W => ratoms_any x W (by have := HS.out x (List.mem_of_getElem? hx); omega))
      have HCL : Hid ((cellsOf (atoms (bs x))).length = (atoms (bs x)).length) := Lib.hid (by simp [cellsOf])
      clear hcell0 hx
      go_wp2_with fail
      refine (HAT.out _).mono ?_
      rintro e w2 ⟨v2, rfl, hrow, hk2⟩
      have HK2 := Lib.hid (hkp.out.trans hk2)
      obtain ⟨ar, cr, hvr, _⟩ := own_slice hrow
      subst hvr
      rw [HCL.out]
      clear hk2 hrow hcell
      have HST' : Hid (atomsN (s.take (k + 1)) = atomsN (s.take k) + (atoms (bs x)).length) := HST
      generalize (atoms (bs x)).length = m at *
      generalize atomsN (s.take k) = q at *
      have hw1 : (IntKind.i64).wrap ((q : Int) + m) = (q : Int) + m := by unfold IntKind.wrap; simp [IntKind.bits, IntKind.signed]; omega
      go_wp2
      exact ⟨⟨k + 1, by omega, by rw [HST'.out]; simp, by go_num, HK2⟩, by simp [intOf]; omega⟩
    · have hlti : ¬ (k : Int) < n := by omega
      have HT : Hid (atomsN (s.take k) = atomsN s) := Lib.hid (by rw [List.take_of_length_le (by rw [HN.out]; omega)])
      rw [HT.out]
      clear HT HLE
      generalize atomsN s = q at *
      by_cases hq : q ≤ 90
      · have hqi : (q : Int) ≤ 90 := by omega
        rw [decide_eq_true hq]
        go_wp2
        go_ret
        exact ⟨rfl, hkp.out⟩
      · have hqi : ¬ (q : Int) ≤ 90 := by omega
        rw [decide_eq_false hq]
        go_wp2
        go_ret
        exact ⟨rfl, hkp.out⟩

end Go.Proofs.YtbfealhbdemhmaaGreatDoor
