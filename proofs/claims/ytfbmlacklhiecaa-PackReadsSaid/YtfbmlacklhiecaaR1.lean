/- Contracts and lemmas: R1 -/
import Derived.Test.YtfbmlacklhiecaaP2
namespace Go.Proofs.Ytfbmlacklhiecaa
set_option linter.unusedVariables false
set_option linter.unusedSimpArgs false
open Go.RowKit Go.ChangeShapes Go.WideShapes
set_option maxRecDepth 20000

open Go.RowKit Go.ChangeShapes Go.WideShapes
set_option maxRecDepth 20000
theorem str_add (x y : ByteArray) (h : x.size + y.size ≤ 4611686018427387904) : ∃ q : ByteArray, Hid (bs q = bs x ++ bs y) ∧ ∀ W, (Op.stringOp .add x y).run Try.prog W = .ok (.string q) W :=
  ⟨x ++ y, Lib.hid (bs_append x y), fun W => run_string_add_sum _ _ _ (by omega)⟩
theorem bs_size {x : ByteArray} {l : List UInt8} (h : bs x = l) : x.size = l.length := by rw [← h, bs_len]
/-- bytes that are laid -/
def NPart (w wr : World) (v : Value) (p : List UInt8) : Prop := wr.ownsRow w.heap.size 5 1 v p.length (bcells p) ∧ Kept w wr
theorem NPart.step {w wr wx w1 : World} {v v1 : Value} {p : List UInt8} {c : UInt8} (h : NPart w wr v p) (hx : Kept wr wx) (hp : AppPost wx w.heap.size 5 1 v (p.length + 1) (bcells p ++ bcells [c]) v1 w1) : NPart w w1 v1 (p ++ [c]) := by
  refine ⟨?_, (hp.kept (h.2.trans hx) (fun g hg => (h.1.lt g hg).1)).1⟩
  have e1 : (p ++ [c]).length = p.length + 1 := by simp
  rw [e1, bcells_append]; exact hp.1
theorem bcells_one (c : Int) (hc : c = (UInt8.ofNat c.toNat).toNat) : bcells [UInt8.ofNat c.toNat] = [.int .u8 c] := by
  simp only [bcells, List.map_cons, List.map_nil]
  rw [← hc]
theorem numK_fin {n m : Int} {p : List UInt8} (h : NumK n m p) (hn : 0 ≤ n) (hm : m < 128) : p ++ [UInt8.ofNat m.toNat] = numB n.toNat ∧ 0 ≤ m := by
  rcases h with ⟨h1, _, _⟩ | ⟨h0, f, h1, h2⟩
  · omega
  · refine ⟨?_, h0⟩
    rw [← h1]
    congr 1
    cases f with
    | zero => rfl
    | succ f => rw [numF, if_neg (by omega)]
set_option maxHeartbeats 4000000 in
theorem rnum_any (n : Int) (hn : 0 ≤ n) (hn2 : n ≤ 9223372036854775807) (w : World) :
    Calls Try.prog 37 #[.int .i64 n] w (KeptPost (.string ⟨(numB n.toNat).toArray⟩) w) := by
  have HN := Lib.hid (And.intro hn hn2)
  have HK := Lib.hid (numK_start n hn2)
  go_enter Try.func37, Try.ntmps37
  go_wp2_with fail
  have H0 : Hid (NPart w (w.alloc (Obj.cells #[] 5)) (.slice (some ⟨w.heap.size, 0, none⟩) 0 0) []) := Lib.hid ⟨own_new (heap_alloc_new w _) (Nat.le_refl _), Fr.of_alloc _ _ _⟩
  clear hn hn2
  go_loopw [0, 3] (fun a v wr => ∃ (m : Int) (p : List UInt8), a = .int .i64 m ∧ m ≤ 9223372036854775807 ∧ 0 ≤ m ∧ Hid (NumK n m p) ∧ Hid (NPart w wr v p)) (fun a _ _ => (intOf a).toNat)
  case atStart => exact ⟨n, [], rfl, HN.out.2, HN.out.1, HK, H0⟩
  case round =>
    obtain ⟨m, p, rfl, hm1, hm0, hq, hp⟩ := hrel
    obtain ⟨ao, cp, hv, _⟩ := own_slice hp.out.1
    subst hv
    have hpl := numK_len hq.out
    by_cases hlt : 128 ≤ m
    · have g3 : decide (128 ≤ m) = true := by simpa using hlt
      have y1 : m.tmod 128 = m % 128 := Int.tmod_eq_emod_of_nonneg hm0
      have y2 : m.tdiv 128 = m / 128 := Int.tdiv_eq_ediv_of_nonneg hm0
      have y3 : IntKind.u8.wrap (m % 128 + 128) = m % 128 + 128 := u8_in _ (by omega) (by omega)
      have y4 : (m % 128 + 128) % 256 = m % 128 + 128 := by omega
      have HU := Lib.hid (bcells_one (m % 128 + 128) (u8_self _ (by omega) (by omega)))
      have HSt := Lib.hid (numK_step hq.out hlt)
      go_wp2_with (at_builtin; refine list_app rfl (.tmp 7) (.tmp 12) 29 29 rfl Try.slice29 rfl (by exact own_kept hp.out.1 (Fr.of_alloc _ _ _)) rfl (by exact src_one Try.underlying29 (heap_alloc_new _ _) rfl) (by unfold maxLen; omega) (by omega) (by have := hp.out.2.size; simp; omega) ?_)
      intro v1 w3 hp1
      rw [← HU.out] at hp1
      have HP := Lib.hid (hp.out.step (Fr.of_alloc _ _ _) hp1)
      clear hp1
      go_wp2_with fail
      go_roundw
      case rel => exact ⟨m / 128, _, by first | rfl | (rw [y2]), by omega, by omega, HSt, HP⟩
      case measure => simp [intOf]; omega
    · have g3 : decide (128 ≤ m) = false := by simp; omega
      have y3 : IntKind.u8.wrap m = m := u8_in _ (by omega) (by omega)
      have y4 : m % 256 = m := by omega
      have HU := Lib.hid (bcells_one m (u8_self _ (by omega) (by omega)))
      have HSt := Lib.hid (numK_fin hq.out HN.out.1 (by omega)).1
      go_wp2_with (at_builtin; refine list_app rfl (.tmp 16) (.tmp 19) 29 29 rfl Try.slice29 rfl (by exact own_kept hp.out.1 (Fr.of_alloc _ _ _)) rfl (by exact src_one Try.underlying29 (heap_alloc_new _ _) rfl) (by unfold maxLen; omega) (by omega) (by have := hp.out.2.size; simp; omega) ?_)
      intro v1 w3 hp1
      rw [← HU.out] at hp1
      have HP := Lib.hid (hp.out.step (Fr.of_alloc _ _ _) hp1)
      clear hp1
      rw [HSt.out] at HP
      have x1 := run_bytes_string HP.out.1
      obtain ⟨ao1, c1', hv1, _⟩ := own_slice HP.out.1
      subst hv1
      go_wp2
      go_ret
      exact ⟨rfl, HP.out.2⟩
theorem strB (l : List UInt8) : bs ⟨l.toArray⟩ = l := rfl
set_option maxHeartbeats 2000000 in
theorem rword_any (t : ByteArray) (ht : t.size ≤ 100000) (w : World) :
    Calls Try.prog 42 #[.string t] w (KeptPost (.string ⟨(wordB t).toArray⟩) w) := by
  obtain ⟨c, hc⟩ : ∃ c : Int, c = ((t.size : Int) / 2) % 256 := ⟨_, rfl⟩
  have HU := Lib.hid (bcells_one c (u8_self _ (by omega) (by omega)))
  have HB : Hid (UInt8.ofNat c.toNat :: bs t = wordB t) := Lib.hid (by
    have e : c.toNat = t.size / 2 % 256 := by omega
    rw [e, ofNat_mod, wordB])
  have hown : (w.alloc (Obj.cells #[.int .u8 c] 5)).ownsRow w.heap.size 5 1 (.slice (some ⟨w.heap.size, 0, none⟩) 1 1) 1 (bcells [UInt8.ofNat c.toNat]) := by
    rw [HU.out]
    exact own_built (cs := #[.int .u8 c]) (heap_alloc_new w _) (Nat.le_refl _) (by show (1 : Nat) ≤ maxLen; decide)
  have x1 := run_bytes_string hown
  obtain ⟨y, hy⟩ : ∃ y : ByteArray, y = ⟨([UInt8.ofNat c.toNat]).toArray⟩ := ⟨_, rfl⟩
  rw [← hy] at x1
  have hys : bs y = [UInt8.ofNat c.toNat] := by rw [hy]; rfl
  obtain ⟨q, HQ, hcat⟩ := str_add y t (by rw [bs_size hys]; simp; omega)
  have HF : Hid (q = ⟨(wordB t).toArray⟩) := Lib.hid (bs_inj (by rw [HQ.out, hys, ← HB.out]; rfl))
  have y1 : ((t.size : Int)).tdiv 2 = (t.size : Int) / 2 := Int.tdiv_eq_ediv_of_nonneg (by omega)
  have y2 : IntKind.u8.wrap ((t.size : Int) / 2) = c := by rw [u8_mod, hc]
  have y3 : ((t.size : Int) / 2) % 256 = c := hc.symm
  clear hy hys hc hown HU HB HQ
  go_enter Try.func42, Try.ntmps42
  go_wp2
  go_ret
  exact ⟨by rw [← HF.out]; rfl, Fr.of_alloc _ _ _⟩

end Go.Proofs.Ytfbmlacklhiecaa
