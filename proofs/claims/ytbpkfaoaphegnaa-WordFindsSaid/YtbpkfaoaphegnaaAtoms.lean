/- Atoms of package word and of the reference: a row of the call's own that has just the word's atoms. -/
import Derived.Test.YtbpkfaoaphegnaaLeaf
import Derived.Deep.RegionLaw
import Derived.OwnWalk
namespace Go.Proofs.Ytbpkfaoaphegnaa
open Go.RowKit

theorem Try.info32 : (Try.prog.info? 32).map (fun i => (i.zero, i.size, i.bytes)) = some (some (.int .u16 0), 1, 2) := by kernel_rfl
theorem Try.info5 : (Try.prog.info? 5).map (fun i => (i.zero, i.size, i.bytes)) = some (some (.int .u8 0), 1, 1) := by kernel_rfl
theorem Try.slice29 : SliceOf Try.prog 29 32 (.int .u16 0) 1 2 := slice_of Try.underlying29 Try.info32 rfl (by decide)
theorem Try.slice48 : SliceOf Try.prog 48 5 (.int .u8 0) 1 1 := slice_of Try.underlying48 Try.info5 rfl (by decide)

/-- a row of the call's own that has these cells -/
def RowPost (w : World) (e : TypeId) (xs : List Value) (en : Ending) (w' : World) : Prop :=
  ∃ v, en = .returned v ∧ w'.ownsRow w.heap.size e 1 v xs.length xs ∧ Kept w w'

/-- atoms as cells -/
def cellsOf (l : List Int) : List Value := l.map (Value.int .u16)

theorem one_u16 {l : List Int} : ∀ u ∈ cellsOf l, u.oneCell' = true := fun u hu => by obtain ⟨_, _, rfl⟩ := List.mem_map.1 hu; rfl

/-- a row that has the first k atoms -/
def Part (w wr : World) (s : ByteArray) (k : Nat) (v : Value) : Prop :=
  wr.ownsRow w.heap.size 32 1 v k (cellsOf ((atoms (bs s)).take k)) ∧ Kept w wr

theorem src_one {P : Program} {w : World} {g : Nat} {u : Value} {e tx e' : TypeId} (hk : P.underlying tx = some (.slice e')) (h : w.heap[g]? = some (.cells #[u] e (0, 0))) (h1 : u.oneCell' = true) : Src P 1 tx (.slice (some ⟨g, 0, none⟩) 1 1) 1 [u] w :=
  Src.ofSlice w hk _ _ _ _ rfl (fun j x hx => by
    match j, hx with
    | 0, hx => simp at hx; subst hx; simp [Addr.add, World.cell?, h]) (fun x hx => by simp at hx; subst hx; exact h1)

theorem Part.step {w wr w1 : World} {s : ByteArray} {k : Nat} {v v1 : Value} (h : Part w wr s k v) {a b : UInt8} (ha : (bs s)[2 * k]? = some a) (hb : (bs s)[2 * k + 1]? = some b) {wx : World} (hx : Kept wr wx)
    (hp : AppPost wx w.heap.size 32 1 v (k + 1) (cellsOf ((atoms (bs s)).take k) ++ [.int .u16 ((a.toNat : Int) * 256 + (b.toNat : Int))]) v1 w1) : Part w w1 s (k + 1) v1 := by
  have hg := atoms_get _ _ _ _ ha hb
  rw [show (a.toNat : Int) * 256 = 256 * (a.toNat : Int) by omega] at hp
  refine ⟨?_, (hp.kept (h.2.trans hx) (fun g hg => (h.1.lt g hg).1)).1⟩
  have e : cellsOf ((atoms (bs s)).take (k + 1)) = cellsOf ((atoms (bs s)).take k) ++ [.int .u16 (256 * (a.toNat : Int) + (b.toNat : Int))] := by
    rw [List.take_add_one, hg]; simp [cellsOf]
  rw [e]; exact hp.1

theorem u16_in (n : Int) (h0 : 0 ≤ n) (h1 : n ≤ 65535) : IntKind.u16.wrap n = n := by
  unfold IntKind.wrap; simp [IntKind.bits, IntKind.signed]; omega

set_option maxHeartbeats 2000000 in
theorem ratoms_any (s : ByteArray) (w : World) (hs : s.size ≤ 100000) :
    Calls Try.prog 16 #[.string s] w (RowPost w 32 (cellsOf (atoms (bs s)))) := by
  go_enter Try.func16, Try.ntmps16
  go_wp2
  have H0 : Hid (Part w (w.alloc (Obj.cells #[] 32)) s 0 (.slice (some ⟨w.heap.size, 0, none⟩) 0 0)) := Lib.hid ⟨own_new (heap_alloc_new w _) (Nat.le_refl _), Fr.of_alloc _ _ _⟩
  go_loopw [3, 4] (fun v i wr => ∃ k : Nat, 2 * k ≤ s.size ∧ i = .int .i64 (2 * (k : Int)) ∧ Hid (Part w wr s k v)) (fun _ i _ => s.size - (intOf i).toNat)
  case atStart => exact ⟨0, by omega, rfl, H0⟩
  case round =>
    obtain ⟨k, hk, rfl, hp⟩ := hrel
    clear H0
    obtain ⟨ao, c, hv, hc⟩ := own_slice hp.out.1
    subst hv
    by_cases hlt : 2 * k + 1 < s.size
    · have h1 : 2 * (k : Int) + 1 < s.size := by omega
      have x1 := fun wx => run_byte s (2 * k) (by omega) (2 * (k : Int)) (by omega) wx
      have x2 := fun wx => run_byte s (2 * k + 1) (by omega) (2 * (k : Int) + 1) (by omega) wx
      have G1 := Lib.hid (bs_get s (2 * k) (by omega))
      have G2 := Lib.hid (bs_get s (2 * k + 1) (by omega))
      have e2 : IntKind.i64.wrap (2 * (k : Int) + 1) = 2 * (k : Int) + 1 := IntWalk.i64_in _ (by omega)
      generalize s[2 * k] = a at *
      generalize s[2 * k + 1] = b at *
      have ha := a.toNat_lt
      have hb := b.toNat_lt
      have y1 := u16_in a.toNat (by omega) (by omega)
      have y2 := u16_in b.toNat (by omega) (by omega)
      have y3 := u16_in ((a.toNat : Int) * 256) (by omega) (by omega)
      have y4 := u16_in ((a.toNat : Int) * 256 + b.toNat) (by omega) (by omega)
      clear ha hb
      go_wp2
      go_region_law (refine step_app rfl (.tmp 13) (.tmp 25) 29 29 rfl Try.slice29 rfl (by exact own_kept hp.out.1 ((Fr.of_alloc _ _ _).trans (Fr.of_drew _ _))) rfl (by exact src_one Try.underlying29 (heap_alloc_new wr _) rfl) (by unfold maxLen; omega) (by omega) (by have := hp.out.2.size; simp; omega) ?_; intro v1 w1 hp1; have Hp1 := Lib.hid (hp.out.step G1.out G2.out ((Fr.of_alloc _ _ _).trans (Fr.of_drew _ _)) hp1); clear hp1 hp)
      all_goals
        clear x1 x2 y1 y2 y3 y4 e2
        go_wp2
        go_roundw
        case rel => exact ⟨k + 1, by omega, by go_num, Hp1⟩
        case measure => simp [intOf]; omega
    · have hk2 : k = (atoms (bs s)).length := by rw [atoms_len, bs_len]; omega
      have hp2 : Hid (RowPost w 32 (cellsOf (atoms (bs s))) (.returned (.slice ao k c)) wr) := by
        refine Lib.hid ⟨_, rfl, ?_, hp.out.2⟩
        have := hp.out.1
        rw [List.take_of_length_le (by omega)] at this
        have e : (cellsOf (atoms (bs s))).length = k := by rw [hk2]; simp [cellsOf]
        rw [e]; exact this
      clear hk2
      go_wp2
      go_ret
      exact hp2.out

/-- a row of n atoms whose first k are the word's -/
def Full (w wr : World) (s : ByteArray) (n k : Nat) : Prop :=
  ∃ xs, wr.ownsRow w.heap.size 32 1 (.slice (some ⟨w.heap.size, 0, none⟩) n n) n xs ∧ xs.take k = cellsOf ((atoms (bs s)).take k) ∧ Kept w wr

theorem Full.new {w wr w1 : World} {s : ByteArray} {n k : Nat} (h : Full w wr s n k) (hf : Kept wr w1) : Full w w1 s n k := by
  obtain ⟨xs, h1, h2, h3⟩ := h
  exact ⟨xs, own_kept h1 hf, h2, h3.trans hf⟩

theorem Full.step {w wr : World} {s : ByteArray} {n k : Nat} (h : Full w wr s n k) (hn : n = s.size / 2) (hk : k < n) :
    (∃ x, wr.cell? ⟨w.heap.size, k, none⟩ = some x) ∧ wr.frozen? ⟨w.heap.size, k, none⟩ = false ∧ Full w (wr.setCell ⟨w.heap.size, k, none⟩ (.int .u16 (atS s k))) s n (k + 1) := by
  obtain ⟨xs, h1, h2, h3⟩ := h
  have hl : xs.length = n := by simpa using h1.1
  refine ⟨⟨xs[k], ?_⟩, h1.frozenAt k, _, (h1.stored k _).1, ?_, h3.over (Fr.of_setCell _ _ _) (fun j e => by simp at e; omega)⟩
  · rw [h1.cellAt k (by omega), List.getElem?_eq_getElem (by omega)]
  · have hg : (atoms (bs s))[k]? = some (atS s k) := by
      obtain ⟨x, hx⟩ : ∃ x, (atoms (bs s))[k]? = some x := ⟨_, List.getElem?_eq_getElem (by rw [atoms_len, bs_len]; omega)⟩
      rw [hx, atS_get hx]
    rw [List.take_add_one, List.take_add_one, hg, List.take_set, List.getElem?_set_self (by omega), List.set_eq_of_length_le (by simp; omega), h2]
    simp [cellsOf]

set_option maxHeartbeats 2000000 in
theorem atoms_any (s : ByteArray) (w : World) (hs : s.size ≤ 100000) :
    Calls Try.prog 20 #[.string s] w (RowPost w 32 (cellsOf (atoms (bs s)))) := by
  have hs0 : s.size ≤ maxLen := by unfold maxLen; omega
  obtain ⟨n, hn⟩ : ∃ n, n = s.size / 2 := ⟨_, rfl⟩
  have hn2 : (s.size : Int) / 2 = (n : Int) := by omega
  have hnb : n ≤ 50000 := by omega
  have HN := Lib.hid hn
  have HN2 := Lib.hid hn2
  clear hn hn2
  obtain ⟨i0, hi0, hz0, hz1, hz2⟩ := info_parts Try.info32
  have hi := Lib.hid hi0
  have Z0 := Lib.hid hz0
  have Z1 := Lib.hid hz1
  have Z2 := Lib.hid hz2
  clear hi0 hz0 hz1 hz2
  go_enter Try.func20, Try.ntmps20
  go_wp2_with (first
    | (go_at_call 15; refine (len_any _ _ hs0).mono ?_; rintro e w' ⟨rfl, rfl⟩; rw [HN2.out])
    | (at_make; refine wpList_make_full _ rfl _ _ 29 rfl w.heap.size 32 i0 (.int .u16 0) 1 Try.underlying29 hi.out Z0.out Z1.out .i64 .i64 n n n rfl rfl rfl rfl (by rw [Z2.out]; omega) (by unfold maxLen; omega) (Nat.le_refl _) ?_; intro w1 hown hgr))
  have H0 : Hid (Full w w1 s n 0) := Lib.hid ⟨_, hown, by simp [cellsOf], (Fr.of_grown hgr).mono (fun _ _ h => by cases h)⟩
  clear hown hgr hi Z0 Z1 Z2
  go_loopw [10] (fun i wr => ∃ k : Nat, k ≤ n ∧ i = .int .i64 k ∧ Hid (Full w wr s n k)) (fun i _ => n - (intOf i).toNat)
  case atStart => exact ⟨0, by omega, rfl, H0⟩
  case round =>
    obtain ⟨k, hk, rfl, hp⟩ := hrel
    clear H0
    by_cases hlt : k < n
    · have h1 : (k : Int) < n := by omega
      go_wp2_with (go_at_call 17; refine (at_any s k _ hs0).mono ?_; rintro e w2 ⟨rfl, nq, rfl⟩; obtain ⟨⟨x, hx⟩, hf, hnx⟩ := (hp.out.new (Fr.of_drewN _ _ nq)).step HN.out hlt; have HP2 := Lib.hid hnx; clear hnx)
      go_roundw
      case rel => exact ⟨k + 1, by omega, by go_num, HP2⟩
      case measure => simp [intOf]; omega
    · have hp2 : Hid (RowPost w 32 (cellsOf (atoms (bs s))) (.returned (.slice (some ⟨w.heap.size, 0, none⟩) n n)) wr) := by
        obtain ⟨xs, q1, q2, q3⟩ := hp.out
        have hl : xs.length = n := by simpa using q1.1
        have hl2 : (atoms (bs s)).length = n := by rw [atoms_len, bs_len, HN.out]
        rw [List.take_of_length_le (by omega), List.take_of_length_le (by omega)] at q2
        have e : (cellsOf (atoms (bs s))).length = n := by rw [← hl2]; simp [cellsOf]
        exact Lib.hid ⟨_, rfl, by rw [e, ← q2]; exact q1, q3⟩
      go_wp2
      go_ret
      exact hp2.out
end Go.Proofs.Ytbpkfaoaphegnaa
