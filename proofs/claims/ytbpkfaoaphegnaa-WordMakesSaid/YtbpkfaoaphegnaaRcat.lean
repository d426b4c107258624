/- Cat of the reference. -/
import Derived.Test.YtbpkfaoaphegnaaCat
import Derived.Deep.DeepCutAuto
import Derived.Deep.CutBlock
namespace Go.Proofs.Ytbpkfaoaphegnaa
set_option linter.unusedVariables false
open Go.RowKit

/-- a row that has the atoms of the first k words -/
def RcatPart (w wr : World) (l : List ByteArray) (k m : Nat) (v : Value) : Prop :=
  2 * m = (flatS (l.take k)).length ∧ wr.ownsRow w.heap.size 32 1 v m (cellsOf (atoms (flatS (l.take k)))) ∧ Kept w wr

theorem any_take {l : List ByteArray} {k : Nat} (h : l.any tornB = false) : (l.take k).any tornB = false := by
  rw [List.any_eq_false] at h ⊢
  exact fun x hx => h x (List.mem_of_mem_take hx)

theorem cells_atoms_append {a b : List UInt8} (h : a.length % 2 = 0) : cellsOf (atoms (a ++ b)) = cellsOf (atoms a) ++ cellsOf (atoms b) := by
  rw [atoms_append _ _ h]; simp [cellsOf]

theorem RcatPart.step {w wr wx w1 : World} {l : List ByteArray} {k m : Nat} {v v1 : Value} (h : RcatPart w wr l k m v) (ht : l.any tornB = false) {x : ByteArray} (hx : l[k]? = some x) (hw : Kept wr wx)
    (hp : AppPost wx w.heap.size 32 1 v (m + x.size / 2) (cellsOf (atoms (flatS (l.take k))) ++ cellsOf (atoms (bs x))) v1 w1) : RcatPart w w1 l (k + 1) (m + x.size / 2) v1 := by
  have e := flat_take_succ hx
  have hxe : x.size % 2 = 0 := tornB_false (by
    rw [List.any_eq_false] at ht
    simpa using ht x (List.mem_of_getElem? hx))
  refine ⟨by rw [e]; have := h.1; simp [bs_len]; omega, ?_, (hp.kept (h.2.2.trans hw) (fun g hg => (h.2.1.lt g hg).1)).1⟩
  rw [e, cells_atoms_append (flat_even (any_take ht))]; exact hp.1

theorem ofS_flat {l : List ByteArray} (h : l.any tornB = false) : ofS (atoms (flatS l)) = ⟨(flatS l).toArray⟩ := by
  unfold ofS; rw [unatoms_atoms _ (flat_even h)]

set_option maxHeartbeats 2000000 in
theorem rcat_any {w : World} {G : Nat → Prop} {v : Value} {l : List ByteArray} (h : Reads w G v (wcells l)) (hl : l.length ≤ 100000) (hs : Small 100000 l) :
    Calls Try.prog 28 #[v] w (PairPost (catS l) w) := by
  obtain ⟨ao, c, rfl, _, hc⟩ := h
  have q1 : (wcells l).length = l.length := by simp [wcells]
  have HC := Lib.hid hc
  have HS := Lib.hid hs
  rw [q1]
  generalize hn : l.length = n at *
  have HN := Lib.hid hn
  clear hn q1 hc hs
  go_enter Try.func28, Try.ntmps28
  go_wp2
  have H0 : Hid (RcatPart w (w.alloc (Obj.cells #[] 32)) l 0 0 (.slice (some ⟨w.heap.size, 0, none⟩) 0 0)) := Lib.hid ⟨rfl, own_new (heap_alloc_new w _) (Nat.le_refl _), Fr.of_alloc _ _ _⟩
  have HW : Hid (Kept w (w.alloc (Obj.cells #[] 32))) := Lib.hid (Fr.of_alloc _ _ _)
  generalize w.alloc (Obj.cells #[] 32) = wa at *
  go_loop [5] (fun i => ∃ k : Nat, k ≤ n ∧ i = .int .i64 k ∧ Hid (∀ j y, j < k → l[j]? = some y → tornB y = false)) (fun i => n - (intOf i).toNat)
  case atStart => exact ⟨0, by omega, rfl, Lib.hid (fun i y hi => by omega)⟩
  case round =>
    obtain ⟨k, hk, rfl, hall⟩ := hrel
    by_cases hlt : k < n
    · have h1 : (k : Int) < n := by omega
      obtain ⟨x, hx⟩ : ∃ x, l[k]? = some x := ⟨_, List.getElem?_eq_getElem (by have := HN.out; omega)⟩
      obtain ⟨g, off, rfl, _, hcell0⟩ := HC.out k _ (wcells_get hx)
      have hcell := HW.out.cell hcell0 (fun x => x)
      have hsx := HS.out x (List.mem_of_getElem? hx)
      have HX := Lib.hid hx
      clear hx hcell0
      cases ht : tornB x
      · have HA : Hid (∀ j y, j < k + 1 → l[j]? = some y → tornB y = false) := Lib.hid (fun j y hj hy => by
          rcases Nat.lt_or_ge j k with h | h
          · exact hall.out j y h hy
          · obtain rfl : j = k := by omega
            rw [HX.out] at hy; cases hy; exact ht)
        have ht1 : ((x.size : Int) % 2 == 1) = false := by have := tornB_false ht; rw [beq_eq_false_iff_ne]; omega
        clear ht
        go_wp2
        go_round
        case rel => exact ⟨k + 1, by omega, by go_num, HA⟩
        case measure => simp [intOf]; omega
      · have HA : Hid (catS l = (⟨#[]⟩, 2)) := Lib.hid (catS_torn (by rw [List.any_eq_true]; exact ⟨x, List.mem_of_getElem? HX.out, ht⟩))
        have ht1 : ((x.size : Int) % 2 == 1) = true := by have := tornB_true ht; rw [beq_iff_eq]; omega
        clear ht
        go_wp2
        go_ret2
        exact ⟨pair_of HA.out, HW.out⟩
    · have HT : Hid (l.any tornB = false) := Lib.hid (by
        rw [List.any_eq_false]
        intro x hx
        obtain ⟨j, hj⟩ := List.mem_iff_getElem?.1 hx
        have := hall.out j x (by have := (List.getElem?_eq_some_iff.1 hj).1; have := HN.out; omega) hj
        simp [this])
      clear hall
      go_wp2
      clear hlt
      go_loopw [4, 6] (fun v i wr => ∃ k m : Nat, k ≤ n ∧ i = .int .i64 k ∧ m ≤ 8 ∧ Hid (RcatPart w wr l k m v)) (fun _ i _ => n - (intOf i).toNat)
      case atStart => exact ⟨0, 0, by omega, rfl, by omega, H0⟩
      case round =>
        obtain ⟨k, m, hk, rfl, hm, hp⟩ := hrel
        clear H0
        obtain ⟨bo, d, hv, hd⟩ := own_slice hp.out.2.1
        subst hv
        by_cases hlt : k < n
        · have h1 : (k : Int) < n := by omega
          obtain ⟨x, hx⟩ : ∃ x, l[k]? = some x := ⟨_, List.getElem?_eq_getElem (by have := HN.out; omega)⟩
          obtain ⟨g, off, ha, _, hcell0⟩ := HC.out k _ (wcells_get hx)
          have hcell := hp.out.2.2.cell hcell0 (fun x => x)
          have hsx := HS.out x (List.mem_of_getElem? hx)
          subst ha
          have HX := Lib.hid hx
          clear hx hcell0
          go_wp2_with fail
          refine (ratoms_any x _ hsx).mono ?_
          rintro e w2 ⟨v2, rfl, hrow2, hk2⟩
          have hlen2 : (cellsOf (atoms (bs x))).length = x.size / 2 := by simp [cellsOf, atoms_len, bs_len]
          rw [hlen2] at hrow2
          have hr2 := Reads.of_row hrow2
          have hsrc : Src Try.prog 1 29 v2 (x.size / 2) (cellsOf (atoms (bs x))) w2 := by
            rw [← hlen2]; exact hr2.src Try.underlying29 one_u16
          have HSRC := Lib.hid hsrc
          have HK2 := Lib.hid hk2
          clear hlen2 hrow2 hr2 hsrc hk2
          have hdiv : x.size / 2 ≤ 50000 := by omega
          obtain ⟨q, hq⟩ : ∃ q, q = x.size / 2 := ⟨_, rfl⟩
          have HQ := Lib.hid hq
          have hq2 : q ≤ 50000 := by omega
          clear hq hdiv
          go_wp2_with (at_builtin; refine list_app rfl (.tmp 27) (.tmp 32) 29 29 rfl Try.slice29 rfl (by exact own_kept hp.out.2.1 HK2.out) rfl (by exact HSRC.out) (by have := HQ.out; unfold maxLen; omega) (by have := HQ.out; omega) (by have := hp.out.2.2.size; have := HK2.out.size; omega) ?_; intro v3 w3 hp1; have Hp1 := Lib.hid (hp.out.step HT.out HX.out HK2.out hp1); clear hp1; rw [← HQ.out] at Hp1; obtain ⟨b3, d3, hv3, hd3⟩ := own_slice Hp1.out.2.1; subst hv3)
          · have h8 : 8 < (m : Int) + (q : Int) := by first | assumption | omega
            have HA : Hid (catS l = (⟨#[]⟩, 4)) := Lib.hid (catS_large HT.out (by
              have := flat_take_le l (k + 1)
              have := Hp1.out.1
              omega))
            go_ret2
            exact ⟨pair_of HA.out, Hp1.out.2.2⟩
          · have h8 : ¬ 8 < (m : Int) + (q : Int) := by first | assumption | omega
            go_roundw
            case rel => exact ⟨k + 1, m + q, by omega, by go_num, by omega, Hp1⟩
            case measure => simp [intOf]; omega
        · have hfull : l.take k = l := List.take_of_length_le (by have := HN.out; omega)
          have hrow := hp.out.2.1
          rw [hfull] at hrow
          have hr := Lib.hid (Reads.of_row hrow)
          have hm2 : (atoms (flatS l)).length ≤ 100000 := by
            have := hrow.1
            simp [cellsOf] at this; omega
          have HA : Hid (catS l = (ofS (atoms (flatS l)), 0)) := Lib.hid (by
            rw [ofS_flat HT.out]
            exact catS_ok HT.out (by have := hp.out.1; rw [hfull] at this; omega))
          clear hrow hfull
          go_wp2_with fail
          refine (rof_any hr.out (atoms_good _) hm2).mono ?_
          rintro e w2 ⟨rfl, hk2⟩
          have HK2 := Lib.hid hk2
          clear hk2
          go_wp2
          go_ret2
          exact ⟨pair_of HA.out, hp.out.2.2.trans HK2.out⟩
end Go.Proofs.Ytbpkfaoaphegnaa
