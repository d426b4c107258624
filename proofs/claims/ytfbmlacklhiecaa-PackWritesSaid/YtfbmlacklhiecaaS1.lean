/- Contracts and lemmas: S1 -/
import Derived.Test.YtfbmlacklhiecaaB0
namespace Go.Proofs.Ytfbmlacklhiecaa
set_option linter.unusedVariables false
set_option linter.unusedSimpArgs false
open Go.RowKit Go.ChangeShapes Go.WideShapes
set_option maxRecDepth 20000

set_option maxHeartbeats 400000 in
theorem isTorn_any (s : ByteArray) (w : World) (hs : s.size ≤ maxLen) :
    Calls Try.prog 50 #[.string s] w fun e w' => e = .returned (.bool (tornB s)) ∧ w = w' := by
  unfold maxLen at hs
  go_enter Try.func50, Try.ntmps50
  go_wp2
  go_ret
  exact ⟨ret_bool (by unfold tornB; rw [Bool.eq_iff_iff]; simp; omega), rfl⟩

set_option maxHeartbeats 400000 in
theorem len_any (s : ByteArray) (w : World) (hs : s.size ≤ maxLen) :
    Calls Try.prog 40 #[.string s] w fun e w' => e = .returned (.int .i64 ((s.size : Int) / 2)) ∧ w = w' := by
  unfold maxLen at hs
  go_enter Try.func40, Try.ntmps40
  go_wp2
  go_ret
  exact ⟨rfl, rfl⟩

/-- the byte at a place -/
theorem run_byte (s : ByteArray) (k : Nat) (h : k < s.size) (i : Int) (hi : i = (k : Int)) (wx : World) :
    (Instr.index 35 (.string s) (.int .i64 i)).run Try.prog wx = .ok (.int .u8 ((s[k]).toNat : Int)) wx := by
  subst hi
  rw [run_index_string wx 35 s _ _ Try.underlying35, dif_pos ⟨by omega, by omega⟩]
  simp
theorem or_bytes (a b : UInt8) : bits .or .u16 ((a.toNat : Int) * 256) (b.toNat : Int) = 256 * (a.toNat : Int) + (b.toNat : Int) := by
  have ha := a.toNat_lt
  have hb := b.toNat_lt
  have h1 : (a.toNat : Int) * 256 = ((a.toNat * 256 : Nat) : Int) := by omega
  rw [h1, u16_or_nat _ _ (by omega) (by omega)]
  have := Nat.shiftLeft_add_eq_or_of_lt (i := 8) (b := b.toNat) (by omega) a.toNat
  rw [Nat.shiftLeft_eq] at this
  have h2 : a.toNat * 256 ||| b.toNat = a.toNat * 256 + b.toNat := by rw [← this]
  rw [h2]; omega

set_option maxHeartbeats 1000000 in
theorem at_nat (s : ByteArray) (i : Nat) (w : World) (hs : s.size ≤ maxLen) (hi : 2 * i + 1 < s.size) :
    Calls Try.prog 51 #[.string s, .int .i64 i] w (DrewPost (.int .u16 (atS s i)) w) := by
  have HA := Lib.hid (atS_in hi)
  have hs0 := hs
  unfold maxLen at hs
  have x1 := fun wx => run_byte s (2 * i) (by omega) (2 * (i : Int)) (by omega) wx
  have x2 := fun wx => run_byte s (2 * i + 1) (by omega) (2 * (i : Int) + 1) (by omega) wx
  have e1 : IntKind.i64.wrap (2 * (i : Int)) = 2 * (i : Int) := IntWalk.i64_in _ (by omega)
  have e2 : IntKind.i64.wrap (2 * (i : Int) + 1) = 2 * (i : Int) + 1 := IntWalk.i64_in _ (by omega)
  generalize s[2 * i] = a at *
  generalize s[2 * i + 1] = b at *
  have ha := a.toNat_lt
  have hb := b.toNat_lt
  go_enter Try.func51, Try.ntmps51
  go_wp2_with (go_at_call 40; refine (len_any _ _ hs0).mono ?_; rintro e w' ⟨rfl, rfl⟩)
  go_quiet (fail)
  go_wp2
  go_ret
  exact ⟨ret_int (by rw [HA.out]; exact or_bytes a b), _, rfl⟩
set_option maxHeartbeats 1000000 in
theorem at_any (s : ByteArray) (i : Int) (w : World) (hs : s.size ≤ maxLen) :
    Calls Try.prog 51 #[.string s, .int .i64 i] w (DrewPost (.int .u16 (atS s i)) w) := by
  by_cases h0 : i < 0
  · have HA := Lib.hid (atS_out (s := s) (.inl h0))
    go_enter Try.func51, Try.ntmps51
    go_wp2_with (go_at_call 40; refine (len_any _ _ hs).mono ?_; rintro e w' ⟨rfl, rfl⟩)
    go_ret
    exact ⟨ret_int HA.out.symm, 0, rfl⟩
  · by_cases h1 : (s.size : Int) / 2 ≤ i
    · have HA := Lib.hid (atS_out (s := s) (.inr h1))
      have h2 : decide (i < 0) = false := by simpa using h0
      go_enter Try.func51, Try.ntmps51
      go_wp2_with (go_at_call 40; refine (len_any _ _ hs).mono ?_; rintro e w' ⟨rfl, rfl⟩)
      go_ret
      exact ⟨ret_int HA.out.symm, 0, rfl⟩
    · obtain ⟨k, rfl⟩ : ∃ k : Nat, i = k := ⟨i.toNat, by omega⟩
      exact at_nat s k w hs (by omega)
theorem at_kept (s : ByteArray) (i : Int) (w : World) (hs : s.size ≤ maxLen) : Calls Try.prog 51 #[.string s, .int .i64 i] w (KeptPost (.int .u16 (atS s i)) w) := (at_any s i w hs).mono fun _ _ h => h.kept

set_option maxHeartbeats 400000 in
theorem less_any (a b : ByteArray) (w : World) (ha : a.size ≤ maxLen) (hb : b.size ≤ maxLen) :
    Calls Try.prog 53 #[.string a, .string b] w fun e w' => e = .returned (.bool (lessS a b)) ∧ w = w' := by
  unfold maxLen at ha hb
  by_cases h : a.size = b.size
  · have HA : Hid (lessS a b = Op.bytesLess a.toList b.toList) := Lib.hid (by unfold lessS; rw [if_pos h, bs_toList, bs_toList])
    have h1 : ((a.size : Int) != (b.size : Int)) = false := by simp [h]
    clear h
    go_enter Try.func53, Try.ntmps53
    go_wp2
    go_ret
    exact ⟨ret_bool (by rw [HA.out]), rfl⟩
  · have HA : Hid (lessS a b = decide (a.size < b.size)) := Lib.hid (by unfold lessS; rw [if_neg h])
    have h1 : ((a.size : Int) != (b.size : Int)) = true := by simp; omega
    clear h
    go_enter Try.func53, Try.ntmps53
    go_wp2
    go_ret
    exact ⟨ret_bool (by rw [HA.out]), rfl⟩

theorem Try.info63 : (Try.prog.info? 63).map (fun i => (i.zero, i.size, i.bytes)) = some (some (.int .u16 0), 1, 2) := by kernel_rfl
theorem Try.slice77 : SliceOf Try.prog 77 63 (.int .u16 0) 1 2 := slice_of Try.underlying77 Try.info63 rfl (by decide)
/-- atoms as cells -/
def cellsOf (l : List Int) : List Value := l.map (Value.int .u16)
theorem one_u16 {l : List Int} : ∀ u ∈ cellsOf l, u.oneCell' = true := fun u hu => by obtain ⟨_, _, rfl⟩ := List.mem_map.1 hu; rfl
theorem cells_inj {l m : List Int} (h : cellsOf l = cellsOf m) : l = m := by
  unfold cellsOf at h
  exact (List.map_inj_right (fun x y h => by injection h)).1 h
theorem cells_get {l : List Int} {i : Nat} {x : Int} (h : l[i]? = some x) : (cellsOf l)[i]? = some (.int .u16 x) := by simp [cellsOf, h]
/-- the value holds atoms -/
def AtomsAt (w : World) (v : Value) : Prop := ∃ l, Reads w (fun _ => True) v (cellsOf l) ∧ Good l ∧ l.length ≤ maxLen
theorem u16_bounds {i : Int} (wi : (Lit.int .u16 i).wf = true) : 0 ≤ i ∧ i ≤ 65535 := by
  simp [Lit.wf, IntKind.min, IntKind.max, IntKind.signed, IntKind.bits] at wi; exact wi
theorem atoms_of {w : World} {v : Value} {r : Reach} {b : Nat} (hval : Value.okWide Try.prog w r b 77 v) (h : Holds Try.prog w 77 v.cells.toList) : AtomsAt w v := by
  obtain ⟨ao, len, cap, rfl⟩ := okWide_slice Try.underlying77 hval
  have hC : Try.prog.cellsOf 63 = 1 := by kernel_rfl
  obtain ⟨l, h1, h2, h3⟩ := Holds.row (mk := Value.int .u16) (R := fun x => 0 ≤ x ∧ x ≤ 65535) (c := .slice ao len cap) h Try.underlying77 hC (fun cs hcs => by
    obtain ⟨x, hx, hw⟩ := hcs.int Try.underlying63
    exact ⟨x, hx, u16_bounds hw⟩)
  exact ⟨l, h1, h2, h3⟩

/-- a row that has the first k atoms -/
def Part (w wr : World) (s : ByteArray) (k : Nat) (v : Value) : Prop :=
  wr.ownsRow w.heap.size 63 1 v k (cellsOf ((atoms (bs s)).take k)) ∧ Kept w wr
theorem Part.step {w wr w1 : World} {s : ByteArray} {k : Nat} {v v1 : Value} (h : Part w wr s k v) {a b : UInt8} (ha : (bs s)[2 * k]? = some a) (hb : (bs s)[2 * k + 1]? = some b) {wx : World} (hx : Kept wr wx)
    (hp : AppPost wx w.heap.size 63 1 v (k + 1) (cellsOf ((atoms (bs s)).take k) ++ [.int .u16 ((a.toNat : Int) * 256 + (b.toNat : Int))]) v1 w1) : Part w w1 s (k + 1) v1 := by
  have hg := atoms_get _ _ _ _ ha hb
  rw [show (a.toNat : Int) * 256 = 256 * (a.toNat : Int) by omega] at hp
  refine ⟨?_, (hp.kept (h.2.trans hx) (fun g hg => (h.1.lt g hg).1)).1⟩
  have e : cellsOf ((atoms (bs s)).take (k + 1)) = cellsOf ((atoms (bs s)).take k) ++ [.int .u16 (256 * (a.toNat : Int) + (b.toNat : Int))] := by
    rw [List.take_add_one, hg]; simp [cellsOf]
  rw [e]; exact hp.1
set_option maxHeartbeats 2000000 in
theorem ratoms_any (s : ByteArray) (w : World) (hs : s.size ≤ 100000) :
    Calls Try.prog 52 #[.string s] w (RowPost w 63 (cellsOf (atoms (bs s)))) := by
  go_enter Try.func52, Try.ntmps52
  go_wp2
  have H0 : Hid (Part w (w.alloc (Obj.cells #[] 63)) s 0 (.slice (some ⟨w.heap.size, 0, none⟩) 0 0)) := Lib.hid ⟨own_new (heap_alloc_new w _) (Nat.le_refl _), Fr.of_alloc _ _ _⟩
  go_loopw [3, 4] (fun v i wr => ∃ k : Nat, 2 * k ≤ s.size ∧ i = .int .i64 (2 * (k : Int)) ∧ Hid (Part w wr s k v)) (fun _ i _ => s.size - (intOf i).toNat)
  case atStart => exact ⟨0, by omega, rfl, H0⟩
  case round =>
    obtain ⟨k, hk, rfl, hp⟩ := hrel
    clear H0
    obtain ⟨ao, c, hv, hc⟩ := own_slice hp.out.1
    subst hv
    by_cases hlt : 2 * k + 1 < s.size
    · have h1 : 2 * (k : Int) + 1 < s.size := by omega
      have x1 := fun wx => run_byte s (2 * k) (by omega) (2 * (k : Int)) (by omega) wx
      have x2 := fun wx => run_byte s (2 * k + 1) (by omega) (2 * (k : Int) + 1) (by omega) wx
      have G1 := Lib.hid (bs_get s (2 * k) (by omega))
      have G2 := Lib.hid (bs_get s (2 * k + 1) (by omega))
      have e2 : IntKind.i64.wrap (2 * (k : Int) + 1) = 2 * (k : Int) + 1 := IntWalk.i64_in _ (by omega)
      generalize s[2 * k] = a at *
      generalize s[2 * k + 1] = b at *
      have ha := a.toNat_lt
      have hb := b.toNat_lt
      have y1 := u16_in a.toNat (by omega) (by omega)
      have y2 := u16_in b.toNat (by omega) (by omega)
      have y3 := u16_in ((a.toNat : Int) * 256) (by omega) (by omega)
      have y4 := u16_in ((a.toNat : Int) * 256 + b.toNat) (by omega) (by omega)
      clear ha hb
      go_wp2
      go_region_law (refine step_app rfl (.tmp 13) (.tmp 25) 77 77 rfl Try.slice77 rfl (by exact own_kept hp.out.1 ((Fr.of_alloc _ _ _).trans (Fr.of_drew _ _))) rfl (by exact src_one Try.underlying77 (heap_alloc_new wr _) rfl) (by unfold maxLen; omega) (by omega) (by have := hp.out.2.size; simp; omega) ?_; intro v1 w1 hp1; have Hp1 := Lib.hid (hp.out.step G1.out G2.out ((Fr.of_alloc _ _ _).trans (Fr.of_drew _ _)) hp1); clear hp1 hp)
      all_goals
        clear x1 x2 y1 y2 y3 y4 e2
        go_wp2
        go_roundw
        case rel => exact ⟨k + 1, by omega, by go_num, Hp1⟩
        case measure => simp [intOf]; omega
    · have hk2 : k = (atoms (bs s)).length := by rw [atoms_len, bs_len]; omega
      have hp2 : Hid (RowPost w 63 (cellsOf (atoms (bs s))) (.returned (.slice ao k c)) wr) := by
        refine Lib.hid ⟨_, rfl, ?_, hp.out.2⟩
        have := hp.out.1
        rw [List.take_of_length_le (by omega)] at this
        have e : (cellsOf (atoms (bs s))).length = k := by rw [hk2]; simp [cellsOf]
        rw [e]; exact this
      clear hk2
      go_wp2
      go_ret
      exact hp2.out

theorem all_iff {s : ByteArray} : (atoms (bs s)).all (fun x => x != 0) = true ↔ ∀ j : Nat, j < s.size / 2 → atS s j ≠ 0 := by
  rw [List.all_eq_true]
  constructor
  · intro h j hj
    obtain ⟨x, hx⟩ : ∃ x, (atoms (bs s))[j]? = some x := ⟨_, List.getElem?_eq_getElem (by rw [atoms_len, bs_len]; omega)⟩
    rw [atS_get hx]
    simpa using h x (List.mem_of_getElem? hx)
  · intro h x hx
    obtain ⟨j, hj⟩ := List.mem_iff_getElem?.1 hx
    have hl := (List.getElem?_eq_some_iff.1 hj).1
    have := h j (by rw [atoms_len, bs_len] at hl; exact hl)
    rw [atS_get hj] at this
    simpa using this
theorem may_false {s : ByteArray} (h : tornB s = true ∨ s.size / 2 = 0 ∨ 8 < s.size / 2 ∨ ∃ j : Nat, j < s.size / 2 ∧ atS s j = 0) : mayS s = false := by
  cases hm : mayS s with
  | false => rfl
  | true =>
    simp only [mayS, Bool.and_eq_true, decide_eq_true_eq, all_iff, Bool.not_eq_true'] at hm
    obtain ⟨h1, h2, h3⟩ := hm
    rcases h with h | h | h | ⟨j, hj, h⟩
    · rw [h] at h1; cases h1
    · omega
    · omega
    · exact absurd h (h3 j hj)
theorem may_true {s : ByteArray} (h1 : tornB s = false) (h2 : 1 ≤ s.size / 2) (h3 : s.size / 2 ≤ 8) (h4 : ∀ j : Nat, j < s.size / 2 → atS s j ≠ 0) : mayS s = true := by
  simp only [mayS, Bool.and_eq_true, decide_eq_true_eq, all_iff, h1]
  exact ⟨rfl, ⟨h2, h3⟩, h4⟩

set_option maxHeartbeats 2000000 in
theorem may_any (s : ByteArray) (w : World) (hs : s.size ≤ maxLen) :
    Calls Try.prog 39 #[.string s] w (KeptPost (.bool (mayS s)) w) := by
  have hs0 := hs
  unfold maxLen at hs
  cases ht : tornB s
  · obtain ⟨n, hn⟩ : ∃ n, n = s.size / 2 := ⟨_, rfl⟩
    have HN2 : Hid ((s.size : Int) / 2 = (n : Int)) := Lib.hid (by omega)
    have HN := Lib.hid hn
    clear hn
    by_cases h0 : n = 0
    · have HF : Hid (mayS s = false) := Lib.hid (may_false (.inr (.inl (by rw [← HN.out]; exact h0))))
      have h1 : ((n : Int) == 0) = true := by simp [h0]
      clear h0
      go_enter Try.func39, Try.ntmps39
      go_wp2_with (first | (go_at_call 50; refine (isTorn_any _ _ hs0).mono ?_; rintro e w' ⟨rfl, rfl⟩; rw [ht]) | (go_at_call 40; refine (len_any _ _ hs0).mono ?_; rintro e w' ⟨rfl, rfl⟩; rw [HN2.out]))
      go_ret
      exact ⟨ret_bool HF.out.symm, Fr.refl _ _⟩
    · have h1 : ((n : Int) == 0) = false := by simp [h0]
      by_cases h8 : 8 < n
      · have HF : Hid (mayS s = false) := Lib.hid (may_false (.inr (.inr (.inl (by rw [← HN.out]; exact h8)))))
        have h2 : decide (8 < (n : Int)) = true := by simp; omega
        clear h0
        go_enter Try.func39, Try.ntmps39
        go_wp2_with (first | (go_at_call 50; refine (isTorn_any _ _ hs0).mono ?_; rintro e w' ⟨rfl, rfl⟩; rw [ht]) | (go_at_call 40; refine (len_any _ _ hs0).mono ?_; rintro e w' ⟨rfl, rfl⟩; rw [HN2.out]))
        go_ret
        exact ⟨ret_bool HF.out.symm, Fr.refl _ _⟩
      · have h2 : decide (8 < (n : Int)) = false := by simp; omega
        have h8' : n ≤ 8 := by omega
        clear h8
        go_enter Try.func39, Try.ntmps39
        go_wp2_with (first | (go_at_call 50; refine (isTorn_any _ _ hs0).mono ?_; rintro e w' ⟨rfl, rfl⟩; rw [ht]) | (go_at_call 40; refine (len_any _ _ hs0).mono ?_; rintro e w' ⟨rfl, rfl⟩; rw [HN2.out]))
        clear h1 h2
        go_loopw [18] (fun i wr => ∃ k m : Nat, k ≤ n ∧ i = .int .i64 k ∧ wr = w.drewN m ∧ Hid (∀ j : Nat, j < k → atS s j ≠ 0)) (fun i _ => n - (intOf i).toNat)
        case atStart => exact ⟨0, 0, by omega, rfl, rfl, Lib.hid (fun i hi => by omega)⟩
        case round =>
          obtain ⟨k, m, hk, rfl, rfl, hall⟩ := hrel
          by_cases hlt : k < n
          · have hk1 : (k : Int) < n := by omega
            obtain ⟨z, hz⟩ : ∃ z, atS s k = z := ⟨_, rfl⟩
            have HZ := Lib.hid hz
            clear hz
            by_cases hz0 : z = 0
            · have HF : Hid (mayS s = false) := Lib.hid (may_false (.inr (.inr (.inr ⟨k, by rw [← HN.out]; exact hlt, by rw [HZ.out, hz0]⟩))))
              have hz1 : (z == 0) = true := by simp [hz0]
              clear hz0
              go_wp2_with (go_at_call 51; refine (at_any s k _ hs0).mono ?_; rintro e w2 ⟨rfl, nq, rfl⟩; rw [HZ.out])
              go_ret
              exact ⟨ret_bool HF.out.symm, Fr.of_drewN _ _ _⟩
            · have hz1 : (z == 0) = false := by simp [hz0]
              have HZ2 : Hid (∀ j : Nat, j < k + 1 → atS s j ≠ 0) := Lib.hid (fun j hj => by
                rcases Nat.lt_or_ge j k with h | h
                · exact hall.out j h
                · obtain rfl : j = k := by omega
                  rw [HZ.out]; exact hz0)
              clear hz0
              go_wp2_with (go_at_call 51; refine (at_any s k _ hs0).mono ?_; rintro e w2 ⟨rfl, nq, rfl⟩; rw [HZ.out])
              go_roundw
              case rel => exact ⟨k + 1, m + nq, by omega, by go_num, by simp, HZ2⟩
              case measure => simp [intOf]; omega
          · have HF : Hid (mayS s = true) := Lib.hid (may_true ht (by have := HN.out; omega) (by have := HN.out; omega) (fun j hj => hall.out j (by have := HN.out; omega)))
            go_wp2
            go_ret
            exact ⟨ret_bool HF.out.symm, Fr.of_drewN _ _ _⟩
  · have HF : Hid (mayS s = false) := Lib.hid (may_false (.inl ht))
    go_enter Try.func39, Try.ntmps39
    go_wp2_with (first | (go_at_call 50; refine (isTorn_any _ _ hs0).mono ?_; rintro e w' ⟨rfl, rfl⟩; rw [ht]) | (go_at_call 40; refine (len_any _ _ hs0).mono ?_; rintro e w' ⟨rfl, rfl⟩))
    go_ret
    exact ⟨ret_bool HF.out.symm, Fr.refl _ _⟩

set_option maxHeartbeats 2000000 in
theorem rmay_any (s : ByteArray) (w : World) (hs : s.size ≤ 100000) :
    Calls Try.prog 41 #[.string s] w (KeptPost (.bool (mayS s)) w) := by
  obtain ⟨n, hn⟩ : ∃ n, n = s.size / 2 := ⟨_, rfl⟩
  have HL : Hid ((cellsOf (atoms (bs s))).length = n) := Lib.hid (by simp [cellsOf, atoms_len, bs_len, hn])
  have hnb : n ≤ 50000 := by omega
  have HN := Lib.hid hn
  clear hn
  go_enter Try.func41, Try.ntmps41
  go_wp2_with fail
  refine (ratoms_any s _ hs).mono ?_
  rintro e w1 ⟨v, rfl, hrow, hk⟩
  rw [HL.out] at hrow
  obtain ⟨ao, c, rfl, _, hx⟩ := Reads.of_row hrow
  rw [HL.out]
  have HX := Lib.hid hx
  have HK := Lib.hid hk
  clear hrow hx hk
  go_wp2
  go_loop [4] (fun i => ∃ k : Nat, k ≤ n ∧ i = .int .i64 k ∧ Hid (∀ j : Nat, j < k → atS s j ≠ 0)) (fun i => n - (intOf i).toNat)
  case atStart => exact ⟨0, by omega, rfl, Lib.hid (fun i hi => by omega)⟩
  case round =>
    obtain ⟨k, hk, rfl, hall⟩ := hrel
    by_cases hlt : k < n
    · have hk1 : (k : Int) < n := by omega
      obtain ⟨z, hz⟩ : ∃ z, (atoms (bs s))[k]? = some z := ⟨_, List.getElem?_eq_getElem (by rw [atoms_len, bs_len]; have := HN.out; omega)⟩
      obtain ⟨g, off, rfl, _, hcell⟩ := HX.out k _ (cells_get hz)
      have HZ := Lib.hid (atS_get hz)
      clear hz
      by_cases hz0 : z = 0
      · have HF : Hid (mayS s = false) := Lib.hid (may_false (.inr (.inr (.inr ⟨k, by rw [← HN.out]; exact hlt, by rw [HZ.out, hz0]⟩))))
        have hz1 : (z == 0) = true := by simp [hz0]
        clear hz0
        go_wp2
        go_ret
        exact ⟨ret_bool HF.out.symm, HK.out⟩
      · have hz1 : (z == 0) = false := by simp [hz0]
        have HZ2 : Hid (∀ j : Nat, j < k + 1 → atS s j ≠ 0) := Lib.hid (fun j hj => by
          rcases Nat.lt_or_ge j k with h | h
          · exact hall.out j h
          · obtain rfl : j = k := by omega
            rw [HZ.out]; exact hz0)
        clear hz0
        go_wp2
        go_round
        case rel => exact ⟨k + 1, by omega, by go_num, HZ2⟩
        case measure => simp [intOf]; omega
    · have hk1 : ¬ (k : Int) < n := by omega
      have hall2 : ∀ j : Nat, j < s.size / 2 → atS s j ≠ 0 := fun j hj => hall.out j (by have := HN.out; omega)
      cases ht : tornB s
      · have ht1 : ((s.size : Int) % 2 == 0) = true := by have := tornB_false ht; rw [beq_iff_eq]; omega
        by_cases h0 : 1 ≤ n
        · have h1 : decide (1 ≤ (n : Int)) = true := by simp; omega
          have HF : Hid (mayS s = decide ((n : Int) ≤ 8)) := Lib.hid (by
            by_cases h8 : n ≤ 8
            · rw [may_true ht (by rw [← HN.out]; exact h0) (by rw [← HN.out]; exact h8) hall2]; simp; omega
            · rw [may_false (.inr (.inr (.inl (by rw [← HN.out]; omega))))]; simp; omega)
          clear h0 hall2
          go_wp2
          go_ret
          exact ⟨ret_bool HF.out.symm, HK.out⟩
        · have h1 : decide (1 ≤ (n : Int)) = false := by simp; omega
          have HF : Hid (mayS s = false) := Lib.hid (may_false (.inr (.inl (by rw [← HN.out]; omega))))
          clear h0 hall2
          go_wp2
          go_ret
          exact ⟨ret_bool HF.out.symm, HK.out⟩
      · have ht1 : ((s.size : Int) % 2 == 0) = false := by have := tornB_true ht; rw [beq_eq_false_iff_ne]; omega
        have HF : Hid (mayS s = false) := Lib.hid (may_false (.inl ht))
        clear hall2
        go_wp2
        go_ret
        exact ⟨ret_bool HF.out.symm, HK.out⟩

theorem less_same : ∀ (l : List UInt8), Op.bytesLess l l = false
  | [] => by simp [Op.bytesLess]
  | a :: r => by simp [Op.bytesLess, less_same r]
theorem less_at : ∀ (k : Nat) (l m : List UInt8) (x y : UInt8), (∀ j, j < k → l[j]? = m[j]?) → l[k]? = some x → m[k]? = some y → x ≠ y → Op.bytesLess l m = decide ((x.toNat : Int) < (y.toNat : Int))
  | 0, a :: r, b :: t, x, y, _, hx, hy, hne => by
    simp at hx hy
    subst hx hy
    have : (a == b) = false := by simp [hne]
    simp [Op.bytesLess, this, UInt8.lt_iff_toNat_lt]
  | k + 1, a :: r, b :: t, x, y, h, hx, hy, hne => by
    have h0 := h 0 (by omega)
    simp at h0 hx hy
    subst h0
    have ih := less_at k r t x y (fun j hj => by simpa using h (j + 1) (by omega)) hx hy hne
    simp [Op.bytesLess, ih]
  | _, [], _, _, _, _, h, _, _ => by simp at h
  | _, _ :: _, [], _, _, _, _, h, _ => by simp at h
theorem bl_asym : ∀ (l m : List UInt8), Op.bytesLess l m = true → Op.bytesLess m l = false
  | [], [], h => by simp [Op.bytesLess] at h
  | [], _ :: _, _ => by simp [Op.bytesLess]
  | _ :: _, [], h => by simp [Op.bytesLess] at h
  | a :: r, b :: t, h => by
    simp only [Op.bytesLess, Bool.or_eq_true, Bool.and_eq_true, decide_eq_true_eq, beq_iff_eq] at h
    simp only [Op.bytesLess, Bool.or_eq_false_iff, Bool.and_eq_false_iff, decide_eq_false_iff_not, beq_eq_false_iff_ne]
    rcases h with h | ⟨rfl, h⟩
    · rw [UInt8.lt_iff_toNat_lt] at h
      refine ⟨by rw [UInt8.lt_iff_toNat_lt]; omega, .inl (fun e => ?_)⟩
      subst e; omega
    · refine ⟨by rw [UInt8.lt_iff_toNat_lt]; omega, .inr (bl_asym r t h)⟩
theorem bl_total : ∀ (l m : List UInt8), l ≠ m → (Op.bytesLess l m || Op.bytesLess m l) = true
  | [], [], h => absurd rfl h
  | [], _ :: _, _ => by simp [Op.bytesLess]
  | _ :: _, [], h => by simp [Op.bytesLess]
  | a :: r, b :: t, h => by
    simp only [Op.bytesLess, Bool.or_eq_true, Bool.and_eq_true, decide_eq_true_eq, beq_iff_eq]
    by_cases e : a = b
    · subst e
      have := bl_total r t (fun e => h (by rw [e]))
      simp only [Bool.or_eq_true] at this
      rcases this with h1 | h1
      · exact .inl (.inr ⟨rfl, h1⟩)
      · exact .inr (.inr ⟨rfl, h1⟩)
    · have : a.toNat ≠ b.toNat := fun x => e (UInt8.toNat_inj.1 x)
      rw [UInt8.lt_iff_toNat_lt, UInt8.lt_iff_toNat_lt]
      rcases Nat.lt_or_gt_of_ne this with h1 | h1
      · exact .inl (.inl h1)
      · exact .inr (.inl h1)
theorem bl_trans : ∀ (l m n : List UInt8), Op.bytesLess l m = true → Op.bytesLess m n = true → Op.bytesLess l n = true
  | _, [], [], _, h => by simp [Op.bytesLess] at h
  | [], _, _ :: _, _, _ => by simp [Op.bytesLess]
  | _, _ :: _, [], _, h => by simp [Op.bytesLess] at h
  | _ :: _, [], _ :: _, h, _ => by simp [Op.bytesLess] at h
  | a :: r, b :: t, c :: u, h, k => by
    simp only [Op.bytesLess, Bool.or_eq_true, Bool.and_eq_true, decide_eq_true_eq, beq_iff_eq] at h k ⊢
    rw [UInt8.lt_iff_toNat_lt] at h k ⊢
    rcases h with h | ⟨rfl, h⟩ <;> rcases k with k | ⟨rfl, k⟩
    · exact .inl (by omega)
    · exact .inl h
    · exact .inl k
    · exact .inr ⟨rfl, bl_trans r t u h k⟩
theorem bl_ahead : ∀ (c l m : List UInt8), Op.bytesLess (c ++ l) (c ++ m) = Op.bytesLess l m
  | [], l, m => rfl
  | a :: r, l, m => by
    have ih := bl_ahead r l m
    simp [Op.bytesLess, ih]
theorem lessS_asym {a b : ByteArray} (h : lessS a b = true) : lessS b a = false := by
  unfold lessS at h ⊢
  split at h
  · rename_i e; rw [if_pos e.symm]; exact bl_asym _ _ h
  · rename_i e; rw [if_neg (fun x => e x.symm)]; simp at h ⊢; omega
theorem lessS_total {a b : ByteArray} (h : a ≠ b) (h1 : lessS a b = false) : lessS b a = true := by
  unfold lessS at h1 ⊢
  split at h1
  · rename_i e
    rw [if_pos e.symm]
    have := bl_total (bs a) (bs b) (fun x => h (bs_inj x))
    rw [h1] at this; simpa using this
  · rename_i e; rw [if_neg (fun x => e x.symm)]; simp at h1 ⊢; omega
theorem lessS_same (a : ByteArray) : lessS a a = false := by
  cases h : lessS a a with
  | false => rfl
  | true => exact (lessS_asym h).symm.trans h |>.symm
theorem lessS_trans {a b c : ByteArray} (h : lessS a b = true) (k : lessS b c = true) : lessS a c = true := by
  unfold lessS at h k ⊢
  split at h <;> split at k
  · rename_i e f; rw [if_pos (e.trans f)]; exact bl_trans _ _ _ h k
  · rename_i e f; simp at k; rw [if_neg (by omega)]; simp; omega
  · rename_i e f; simp at h; rw [if_neg (by omega)]; simp; omega
  · rename_i e f; simp at h k; rw [if_neg (by omega)]; simp; omega
theorem lessS_ahead (a b c : ByteArray) : lessS (c ++ a) (c ++ b) = lessS a b := by
  unfold lessS
  rw [bs_append, bs_append, bl_ahead]
  simp only [ByteArray.size_append]
  by_cases h : a.size = b.size
  · rw [if_pos h, if_pos (by omega)]
  · rw [if_neg h, if_neg (by omega)]
    rw [Bool.eq_iff_iff]; simp

theorem run_byteI (s : ByteArray) (k : Nat) (h : k < s.size) (wx : World) :
    (Instr.index 35 (.string s) (.int .i64 (k : Int))).run Try.prog wx = .ok (.int .u8 ((s[k]).toNat : Int)) wx := run_byte s k h _ rfl wx
set_option maxHeartbeats 2000000 in
theorem rless_any (a b : ByteArray) (w : World) (ha : a.size ≤ maxLen) (hb : b.size ≤ maxLen) :
    Calls Try.prog 54 #[.string a, .string b] w (DrewPost (.bool (lessS a b)) w) := by
  unfold maxLen at ha hb
  by_cases h : a.size = b.size
  · have HA : Hid (lessS a b = Op.bytesLess (bs a) (bs b)) := Lib.hid (by unfold lessS; rw [if_pos h])
    have h1 : ((a.size : Int) != (b.size : Int)) = false := by simp [h]
    have HE := Lib.hid h
    have he := Nat.le_of_eq h
    clear h
    go_enter Try.func54, Try.ntmps54
    go_wp2
    clear h1
    go_loopw [5] (fun i wr => ∃ k m : Nat, k ≤ a.size ∧ i = .int .i64 k ∧ wr = w.drewN m ∧ Hid (∀ j, j < k → (bs a)[j]? = (bs b)[j]?)) (fun i _ => a.size - (intOf i).toNat)
    case atStart => exact ⟨0, 0, by omega, rfl, rfl, Lib.hid (fun i hi => by omega)⟩
    case round =>
      obtain ⟨k, m, hk, rfl, rfl, hall⟩ := hrel
      by_cases hlt : k < a.size
      · have h1 : (k : Int) < a.size := by omega
        have hlb : k < b.size := by omega
        have x1 := fun wx => run_byteI a k hlt wx
        have x2 := fun wx => run_byteI b k hlb wx
        have G1 := Lib.hid (bs_get a k hlt)
        have G2 := Lib.hid (bs_get b k hlb)
        generalize a[k] = x at *
        generalize b[k] = y at *
        by_cases hxy : x = y
        · have hn : ((x.toNat : Int) != (y.toNat : Int)) = false := by simp [hxy]
          have HQ : Hid (∀ j, j < k + 1 → (bs a)[j]? = (bs b)[j]?) := Lib.hid (fun j hj => by
            rcases Nat.lt_or_ge j k with h' | h'
            · exact hall.out j h'
            · obtain rfl : j = k := by omega
              rw [G1.out, G2.out, hxy])
          clear hxy
          go_wp2
          go_quiet (fail)
          go_wp2
          go_roundw
          case rel => exact ⟨k + 1, _, by omega, by go_num, rfl, HQ⟩
          case measure => simp [intOf]; omega
        · have hn : ((x.toNat : Int) != (y.toNat : Int)) = true := by
            simp; intro e; exact hxy (UInt8.toNat_inj.1 (by omega))
          have HF := Lib.hid (less_at k _ _ x y hall.out G1.out G2.out hxy)
          clear hxy
          go_wp2
          go_quiet (fail)
          go_wp2
          go_quiet (fail)
          go_wp2
          go_ret
          rename_i n1
          exact ⟨ret_bool (by rw [HA.out, HF.out, Bool.eq_iff_iff]; simp), m + n1 + nq, by simp⟩
      · have HF : Hid (bs a = bs b) := Lib.hid (eq_of_take (by rw [bs_len, bs_len]; exact HE.out) (by rw [bs_len]; omega : k = _) hall.out)
        have h1 : ¬ (k : Int) < a.size := by omega
        go_wp2
        go_ret
        exact ⟨ret_bool (by rw [HA.out, HF.out, less_same]), _, rfl⟩
  · have HA : Hid (lessS a b = decide (a.size < b.size)) := Lib.hid (by unfold lessS; rw [if_neg h])
    have h1 : ((a.size : Int) != (b.size : Int)) = true := by simp; omega
    clear h
    go_enter Try.func54, Try.ntmps54
    go_wp2
    go_ret
    exact ⟨ret_bool (by rw [HA.out]), 0, rfl⟩

theorem Try.info5 : (Try.prog.info? 5).map (fun i => (i.zero, i.size, i.bytes)) = some (some (.int .u8 0), 1, 1) := by kernel_rfl
theorem Try.slice29 : SliceOf Try.prog 29 5 (.int .u8 0) 1 1 := slice_of Try.underlying29 Try.info5 rfl (by decide)
/-- bytes as cells -/
def bcells (l : List UInt8) : List Value := l.map (fun b => Value.int .u8 (b.toNat : Int))
theorem bcells_len (l : List UInt8) : (bcells l).length = l.length := by simp [bcells]
theorem bcells_append (l m : List UInt8) : bcells (l ++ m) = bcells l ++ bcells m := by simp [bcells]
theorem bcells_bs (s : ByteArray) : byteCells s = bcells (bs s) := rfl
/-- a row of bytes as a string -/
theorem run_to_string {w : World} {base : Nat} {v : Value} {l : List UInt8} {n : Nat} (h : w.ownsRow base 5 1 v n (bcells l)) : (convert 29 35 v).run Try.prog w = .ok (.string ⟨l.toArray⟩) w := by
  have hl : l.length = n := by have := h.1; simpa [bcells_len] using this
  rcases h.2 with ⟨rfl, h0⟩ | ⟨g, cap, cur, rfl, _⟩
  · rw [run_convert_bytes_nil w 29 5 Try.underlying29 Try.underlying5 0 0 35 Try.underlying35]
    have : l = [] := List.eq_nil_of_length_eq_zero (by omega)
    subst this; rfl
  · subst hl
    refine run_convert_bytes_back w 29 35 5 ⟨g, 0, none⟩ cap l Try.underlying29 Try.underlying5 Try.underlying35 (fun j hj => ?_)
    refine h.cells (g := g) rfl j _ ?_
    simp [bcells, List.getElem?_eq_getElem hj]

/-- a row that has the bytes of the first k atoms -/
def OfPart (w wr : World) (l : List Int) (k : Nat) (v : Value) : Prop :=
  wr.ownsRow w.heap.size 5 1 v (2 * k) (bcells (unatoms (l.take k))) ∧ Kept w wr
theorem OfPart.step {w wr wx w1 : World} {l : List Int} {k : Nat} {v v1 : Value} (h : OfPart w wr l k v) (hg : Good l) {x : Int} (hx : l[k]? = some x) (hw : Kept wr wx)
    (hp : AppPost wx w.heap.size 5 1 v (2 * k + 2) (bcells (unatoms (l.take k)) ++ [.int .u8 (x / 256), .int .u8 (x % 256)]) v1 w1) : OfPart w w1 l (k + 1) v1 := by
  have hb := hg x (List.mem_of_getElem? hx)
  refine ⟨?_, (hp.kept (h.2.trans hw) (fun g hg => (h.1.lt g hg).1)).1⟩
  have e : bcells (unatoms (l.take (k + 1))) = bcells (unatoms (l.take k)) ++ [.int .u8 (x / 256), .int .u8 (x % 256)] := by
    rw [List.take_add_one, hx, unatoms_append, bcells_append]
    simp only [Option.toList_some, unatoms, bcells, List.map_cons, List.map_nil, UInt8.toNat_ofNat']
    congr 3
    · congr 1; omega
    · congr 2; omega
  rw [e, show 2 * (k + 1) = 2 * k + 2 by omega]; exact hp.1

set_option maxHeartbeats 2000000 in
theorem rof_any {w : World} {G : Nat → Prop} {v : Value} {l : List Int} (h : Reads w G v (cellsOf l)) (hg : Good l) (hl : l.length ≤ 100000) :
    Calls Try.prog 34 #[v] w (KeptPost (.string (ofS l)) w) := by
  obtain ⟨ao, c, rfl, _, hc⟩ := h
  have q1 : (cellsOf l).length = l.length := by simp [cellsOf]
  rw [q1]
  have HC := Lib.hid hc
  have HG := Lib.hid hg
  generalize hn : l.length = n at *
  have HN := Lib.hid hn
  clear hn q1 hc hg
  go_enter Try.func34, Try.ntmps34
  go_wp2
  have H0 : Hid (OfPart w (w.alloc (Obj.cells #[] 5)) l 0 (.slice (some ⟨w.heap.size, 0, none⟩) 0 0)) := Lib.hid ⟨own_new (heap_alloc_new w _) (Nat.le_refl _), Fr.of_alloc _ _ _⟩
  go_loopw [3, 4] (fun v i wr => ∃ k : Nat, k ≤ n ∧ i = .int .i64 k ∧ Hid (OfPart w wr l k v)) (fun _ i _ => n - (intOf i).toNat)
  case atStart => exact ⟨0, by omega, rfl, H0⟩
  case round =>
    obtain ⟨k, hk, rfl, hp⟩ := hrel
    clear H0
    obtain ⟨bo, d, hv, hd⟩ := own_slice hp.out.1
    subst hv
    by_cases hlt : k < n
    · have h1 : (k : Int) < n := by omega
      obtain ⟨x, hx⟩ : ∃ x, l[k]? = some x := ⟨_, List.getElem?_eq_getElem (by have := HN.out; omega)⟩
      obtain ⟨hb0, hb1⟩ := HG.out x (List.mem_of_getElem? hx)
      obtain ⟨g, off, ha, _, hcell0⟩ := HC.out k _ (cells_get hx)
      have hcell := hp.out.2.cell hcell0 (fun x => x)
      subst ha
      have HX := Lib.hid hx
      clear hx hcell0
      have y1 := u8_in (x / 256) (by omega) (by omega)
      have y2 := u8_in (x % 256) (by omega) (by omega)
      have y3 : x.tdiv 256 = x / 256 := Int.tdiv_eq_ediv_of_nonneg hb0
      have y4 : x.tmod 256 = x % 256 := Int.tmod_eq_emod_of_nonneg hb0
      have y5 := u16_in (x / 256) (by omega) (by omega)
      go_wp2
      go_region_law (refine step_app rfl (.tmp 12) (.tmp 25) 29 29 rfl Try.slice29 rfl (by exact own_kept hp.out.1 ((Fr.of_alloc _ _ _).trans (Fr.of_drew _ _))) rfl (by exact src_two Try.underlying29 (heap_alloc_new wr _) rfl rfl) (by unfold maxLen; omega) (by omega) (by have := hp.out.2.size; simp; omega) ?_; intro v1 w1 hp1; have Hp1 := Lib.hid (hp.out.step HG.out HX.out ((Fr.of_alloc _ _ _).trans (Fr.of_drew _ _)) hp1); clear hp1 hp)
      all_goals
        clear y1 y2 y3 y4 y5
        go_wp2
        go_roundw
        case rel => exact ⟨k + 1, by omega, by go_num, Hp1⟩
        case measure => simp [intOf]; omega
    · have hp2 : Hid (OfPart w wr l n (.slice bo (2 * k) d)) := by
        obtain rfl : k = n := by omega
        exact hp
      have hrow := hp2.out.1
      rw [List.take_of_length_le (by have := HN.out; omega)] at hrow
      have hconv : (convert 29 35 (.slice bo (2 * k) d)).run Try.prog wr = .ok (.string (ofS l)) wr := run_to_string hrow
      clear hrow
      go_wp2
      go_ret
      exact ⟨rfl, hp2.out.2⟩

/-- words as cells -/
def wcells (l : List ByteArray) : List Value := l.map Value.string
theorem wcells_get {l : List ByteArray} {i : Nat} {x : ByteArray} (h : l[i]? = some x) : (wcells l)[i]? = some (.string x) := by simp [wcells, h]
/-- the value holds words -/
def WordsAt (w : World) (v : Value) : Prop := ∃ m, Reads w (fun _ => True) v (wcells m) ∧ Small maxLen m ∧ m.length ≤ maxLen
theorem words_of {w : World} {v : Value} {r : Reach} {b : Nat} (hval : Value.okWide Try.prog w r b 36 v) (h : Holds Try.prog w 36 v.cells.toList) : WordsAt w v := by
  obtain ⟨ao, len, cap, rfl⟩ := okWide_slice Try.underlying36 hval
  have hC : Try.prog.cellsOf 35 = 1 := by kernel_rfl
  have : Inhabited ByteArray := ⟨ByteArray.empty⟩
  obtain ⟨l, h1, h2, h3⟩ := Holds.row (mk := Value.string) (R := fun x => x.size ≤ maxLen) (c := .slice ao len cap) h Try.underlying36 hC (fun cs hcs => by
    obtain ⟨x, hx, hw⟩ := hcs.string Try.underlying35
    exact ⟨x, hx, hw⟩)
  exact ⟨l, h1, h2, h3⟩

/-- the place of the first torn word; -1 if there is none -/
def idxS (l : List ByteArray) : Int := match l.findIdx? tornB with | some k => k | none => -1
theorem idxS_some {l : List ByteArray} {k : Nat} {x : ByteArray} (hx : l[k]? = some x) (ht : tornB x = true) (h : ∀ j y, j < k → l[j]? = some y → tornB y = false) : idxS l = k := by
  unfold idxS
  obtain ⟨hk, rfl⟩ := List.getElem?_eq_some_iff.1 hx
  have : l.findIdx? tornB = some k := by
    rw [List.findIdx?_eq_some_iff_getElem]
    exact ⟨hk, ht, fun j hj => by rw [h j _ hj (List.getElem?_eq_getElem (by omega))]; simp⟩
  rw [this]
theorem idxS_none {l : List ByteArray} (h : ∀ j y, j < l.length → l[j]? = some y → tornB y = false) : idxS l = -1 := by
  unfold idxS
  have : l.findIdx? tornB = none := by
    rw [List.findIdx?_eq_none_iff]
    intro x hx
    obtain ⟨j, hj⟩ := List.mem_iff_getElem?.1 hx
    exact h j x (List.getElem?_eq_some_iff.1 hj).1 hj
  rw [this]
theorem idxS_any (l : List ByteArray) : decide (0 ≤ idxS l) = l.any tornB := by
  unfold idxS
  cases h : l.findIdx? tornB with
  | none =>
    rw [List.findIdx?_eq_none_iff] at h
    have : l.any tornB = false := by rw [List.any_eq_false]; intro x hx; simp [h x hx]
    rw [this]; rfl
  | some k =>
    rw [List.findIdx?_eq_some_iff_getElem] at h
    obtain ⟨hk, ht, _⟩ := h
    have : l.any tornB = true := by rw [List.any_eq_true]; exact ⟨_, List.getElem_mem hk, ht⟩
    rw [this]; simp
theorem flat_take_le (l : List ByteArray) (k : Nat) : (flatS (l.take k)).length ≤ (flatS l).length := by
  conv => rhs; rw [← List.take_append_drop k l, flat_append]
  simp
theorem flat_take_succ {l : List ByteArray} {k : Nat} {x : ByteArray} (h : l[k]? = some x) : flatS (l.take (k + 1)) = flatS (l.take k) ++ bs x := by
  rw [List.take_add_one, h, flat_append]; simp [flatS]
theorem flat_even : ∀ {l : List ByteArray}, (l.any tornB = false) → (flatS l).length % 2 = 0
  | [], _ => rfl
  | s :: r, h => by
    simp only [List.any_cons, Bool.or_eq_false_iff] at h
    have ih := flat_even h.2
    have := tornB_false h.1
    simp only [flatS, List.length_append, bs_len]; omega
theorem catS_torn {l : List ByteArray} (h : l.any tornB = true) : catS l = (⟨#[]⟩, 2) := by unfold catS; rw [if_pos h]
theorem catS_large {l : List ByteArray} (h : l.any tornB = false) (h2 : 16 < (flatS l).length) : catS l = (⟨#[]⟩, 4) := by
  unfold catS; rw [if_neg (by simp [h]), if_pos h2]
theorem catS_ok {l : List ByteArray} (h : l.any tornB = false) (h2 : (flatS l).length ≤ 16) : catS l = (⟨(flatS l).toArray⟩, 0) := by
  unfold catS; rw [if_neg (by simp [h]), if_neg (by omega)]

theorem flat3 (a b c : ByteArray) : (⟨(flatS [a, b, c]).toArray⟩ : ByteArray) = a ++ b ++ c := by
  apply bs_inj; rw [bs_mk, bs_append, bs_append]; simp [flatS]
theorem flat2 (a b : ByteArray) : (⟨(flatS [a, b]).toArray⟩ : ByteArray) = a ++ b := by
  apply bs_inj; rw [bs_mk, bs_append]; simp [flatS]
theorem any3 {a b c : ByteArray} : [a, b, c].any tornB = (tornB a || (tornB b || tornB c)) := by simp
theorem len3 (a b c : ByteArray) : (flatS [a, b, c]).length = a.size + b.size + c.size := by simp [flatS, bs_len]; omega
theorem len2 (a b : ByteArray) : (flatS [a, b]).length = a.size + b.size := by simp [flatS, bs_len]
theorem torn_append {a b : ByteArray} (ha : tornB a = false) (hb : tornB b = false) : tornB (a ++ b) = false := by
  have h1 := tornB_false ha
  have h2 := tornB_false hb
  simp [tornB, ByteArray.size_append]; omega
theorem app_assoc (a b c : ByteArray) : a ++ (b ++ c) = a ++ b ++ c := by
  apply bs_inj; simp [bs_append]
/-- what comes of three words that may be laid together -/
theorem cats_ok {a b c : ByteArray} (ha : tornB a = false) (hb : tornB b = false) (hc : tornB c = false) (h : a.size + b.size + c.size ≤ 16) :
    catS [a, b, c] = (a ++ b ++ c, 0) ∧ catS [a, b] = (a ++ b, 0) ∧ catS [b, c] = (b ++ c, 0) ∧ catS [a ++ b, c] = (a ++ b ++ c, 0) ∧ catS [a, b ++ c] = (a ++ b ++ c, 0) ∧
    catS [⟨#[]⟩, a, ⟨#[]⟩, b, c, ⟨#[]⟩] = (a ++ b ++ c, 0) := by
  have te : tornB ⟨#[]⟩ = false := by decide
  refine ⟨?_, ?_, ?_, ?_, ?_, ?_⟩
  · rw [catS_ok (by simp [ha, hb, hc]) (by rw [len3]; exact h), flat3]
  · rw [catS_ok (by simp [ha, hb]) (by rw [len2]; omega), flat2]
  · rw [catS_ok (by simp [hb, hc]) (by rw [len2]; omega), flat2]
  · rw [catS_ok (by simp [torn_append ha hb, hc]) (by rw [len2, ByteArray.size_append]; omega), flat2]
  · rw [catS_ok (by simp [torn_append hb hc, ha]) (by rw [len2, ByteArray.size_append]; omega), flat2, app_assoc]
  · have e : flatS [⟨#[]⟩, a, ⟨#[]⟩, b, c, ⟨#[]⟩] = flatS [a, b, c] := by simp [flatS, bs]
    rw [catS_ok (by simp [ha, hb, hc, te]) (by rw [e, len3]; exact h), e, flat3]

end Go.Proofs.Ytfbmlacklhiecaa
