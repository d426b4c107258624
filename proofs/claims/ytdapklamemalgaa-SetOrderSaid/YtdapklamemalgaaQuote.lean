/- What quoting does: each word of one with each word of another one behind it. -/
import Derived.Test.YtdapklamemalgaaAnd
namespace Go.Proofs.Ytdapklamemalgaa
set_option linter.unusedVariables false
set_option linter.unusedSimpArgs false
open Go.RowKit Go.ChangeShapes Go.WideShapes

theorem join_any (x y : ByteArray) (w : World) (hx : x.size ≤ 100000) (hy : y.size ≤ 100000) :
    Calls Try.prog 43 #[.string x, .string y] w (PairPost (catS [x, y]) w) := by
  have hs : Small 100000 [x, y] := fun s hs => by
    rcases List.mem_cons.1 hs with rfl | hs
    · exact hx
    · rcases List.mem_cons.1 hs with rfl | hs
      · exact hy
      · cases hs
  have HS := Lib.hid hs
  have HR := Lib.hid (reads_built (heap_alloc_new w (Obj.cells #[.string x, .string y] 36)))
  clear hs hx hy
  go_enter Try.func43, Try.ntmps43
  go_wp2_with fail
  refine (cat_any (l := [x, y]) HR.out (by simp) HS.out).mono ?_
  rintro e w1 ⟨rfl, hk1⟩
  have HK : Hid (Kept w w1) := Lib.hid ((Fr.of_alloc _ _ _).trans hk1)
  clear hk1
  generalize hz : catS [x, y] = z
  obtain ⟨z1, z2⟩ := z
  have HZ := Lib.hid hz
  clear hz
  go_wp2
  go_ret2
  exact ⟨pair_of HZ.out, HK.out⟩
/-- what is collected, or that one is too long -/
def collL (a b : List ByteArray) : List ByteArray × Int := if longB (crossL a b) = true then ([], 4) else (crossL a b, 0)
theorem collL_long {a b : List ByteArray} (h : longB (crossL a b) = true) : collL a b = ([], 4) := by unfold collL; rw [if_pos h]
theorem collL_ok {a b : List ByteArray} (h : longB (crossL a b) = false) : collL a b = (crossL a b, 0) := by unfold collL; rw [if_neg (by simp [h])]
/-- what is collected so far -/
def partL (a b : List ByteArray) (k m : Nat) (x : ByteArray) : List ByteArray := crossL (a.take k) b ++ (b.take m).map (fun y => x ++ y)
theorem take_one {l : List ByteArray} {k : Nat} {x : ByteArray} (h : l[k]? = some x) : l.take (k + 1) = l.take k ++ [x] := by
  rw [List.take_add_one, h]; rfl
theorem cross_step {a b : List ByteArray} {k : Nat} {x : ByteArray} (h : a[k]? = some x) : crossL (a.take (k + 1)) b = partL a b k b.length x := by
  unfold partL
  rw [take_one h, List.take_length]
  simp [crossL]
theorem part_zero (a b : List ByteArray) (k : Nat) (x : ByteArray) : partL a b k 0 x = crossL (a.take k) b := by unfold partL; simp
theorem part_step {a b : List ByteArray} {k m : Nat} {x y : ByteArray} (h : b[m]? = some y) : partL a b k (m + 1) x = partL a b k m x ++ [x ++ y] := by
  unfold partL
  rw [take_one h]
  simp
theorem longB_append (l m : List ByteArray) : longB (l ++ m) = (longB l || longB m) := by unfold longB; simp
theorem part_len {a b : List ByteArray} {k m : Nat} {x : ByteArray} (ha : a.length ≤ 16) (hb : b.length ≤ 16) : (partL a b k m x).length ≤ 272 := by
  unfold partL
  rw [List.length_append, cross_len, List.length_map, List.length_take, List.length_take]
  have : min k a.length * b.length ≤ 16 * 16 := Nat.mul_le_mul (by omega) hb
  omega
theorem jp_zero {w wr : World} {a b : List ByteArray} {k : Nat} {x : ByteArray} {v : Value} (h : Hid (JoinPart w wr (crossL (a.take k) b) v)) : Hid (JoinPart w wr (partL a b k 0 x) v) := Lib.hid (by rw [part_zero]; exact h.out)
theorem jp_full {w wr : World} {a b : List ByteArray} {k m : Nat} {x : ByteArray} {v : Value} (h : Hid (JoinPart w wr (partL a b k m x) v)) (hm : b.length = m) (hx : a[k]? = some x) : Hid (JoinPart w wr (crossL (a.take (k + 1)) b) v) := Lib.hid (by rw [cross_step hx, hm]; exact h.out)
theorem jp_kept {w wr w1 : World} {l : List ByteArray} {v : Value} (h : Hid (JoinPart w wr l v)) (hk : Kept wr w1) : Hid (JoinPart w w1 l v) := Lib.hid ⟨own_kept h.out.1 hk, h.out.2.trans hk⟩
set_option maxHeartbeats 2000000 in
theorem collect_any {w : World} {G : Nat → Prop} {va vb : Value} {a b : List ByteArray} (ha : Reads w G va (wcells a)) (hb : Reads w G vb (wcells b)) (hma : mayL a = true) (hmb : mayL b = true) :
    Calls Try.prog 42 #[va, vb, .func (.func 43) #[] #[]] w (SetPost (collL a b) w) := by
  obtain ⟨⟨hla0, hla⟩, hsa, _⟩ := mayL_iff.1 hma
  obtain ⟨⟨hlb0, hlb⟩, hsb, _⟩ := mayL_iff.1 hmb
  clear hma hmb
  have HLA := Lib.hid hla
  have HLB := Lib.hid hlb
  have HSA := Lib.hid hsa
  have HSB := Lib.hid hsb
  obtain ⟨ao, ca, rfl, _, hca⟩ := ha
  obtain ⟨bo, cb, rfl, _, hcb⟩ := hb
  rw [wcells_len, wcells_len]
  have HCA := Lib.hid hca
  have HCB := Lib.hid hcb
  clear hca hcb hsa hsb
  generalize hna : a.length = na at *
  generalize hnb : b.length = nb at *
  have HNA := Lib.hid hna
  have HNB := Lib.hid hnb
  have hmul : na * nb ≤ 16 * 16 := Nat.mul_le_mul hla hlb
  have e1 : IntKind.i64.wrap ((na : Int) * (nb : Int)) = (na : Int) * (nb : Int) := IntWalk.i64_in _ (by
    have : ((na * nb : Nat) : Int) ≤ 256 := by omega
    rw [Int.natCast_mul] at this
    have h0 : (0 : Int) ≤ (na : Int) * (nb : Int) := Int.mul_nonneg (by omega) (by omega)
    omega)
  have HMUL : Hid (na * nb ≤ 256) := Lib.hid hmul
  clear hna hnb hmul hla0 hlb0
  obtain ⟨i, hi, hz, hsz, hby⟩ := Try.slice22.info
  have HI := Lib.hid hi
  have HZ := Lib.hid hz
  have HSZ := Lib.hid hsz
  have HBY := Lib.hid hby
  clear hi hz hsz hby
  go_enter Try.func42, Try.ntmps42
  go_wp2_with (at_make; refine wpList_make_own _ rfl _ _ 22 rfl w.heap.size 36 i (.string ⟨#[]⟩) 1 Try.underlying22 HI.out HZ.out HSZ.out .i64 .i64 _ (na * nb) rfl rfl (by rw [Int.natCast_mul]) (by rw [HBY.out]; have := HMUL.out; omega) (by have := HMUL.out; unfold maxLen; omega) (Nat.le_refl _) ?_; intro w0 hown0 hgrow0)
  have H0 : Hid (JoinPart w w0 (crossL (a.take 0) b) (.slice (some ⟨w.heap.size, 0, none⟩) 0 (na * nb))) := Lib.hid ⟨hown0, (Fr.of_grown hgrow0).mono (fun k _ h => by cases h)⟩
  clear hown0 hgrow0 e1 HI HZ HSZ HBY
  have H0F : Hid (longB (crossL (a.take 0) b) = false) := Lib.hid rfl
  go_loopw [8, 23] (fun v i wr => ∃ k : Nat, k ≤ na ∧ i = .int .i64 k ∧ Hid (JoinPart w wr (crossL (a.take k) b) v) ∧ Hid (longB (crossL (a.take k) b) = false)) (fun _ i _ => na - (intOf i).toNat)
  case atStart => exact ⟨0, by omega, rfl, H0, H0F⟩
  case round =>
    obtain ⟨k, hk, rfl, hp, hf⟩ := hrel
    clear H0 H0F
    by_cases hlt : k < na
    · have h1 : (k : Int) < na := by omega
      obtain ⟨x, hx⟩ : ∃ x, a[k]? = some x := ⟨_, List.getElem?_eq_getElem (by have := HNA.out; omega)⟩
      obtain ⟨g, off, rfl, _, hcell0⟩ := HCA.out k _ (wcells_get hx)
      have hcell := hp.out.2.cell hcell0 (fun x => x)
      have HX := Lib.hid hx
      have H1 := jp_zero (x := x) hp
      have H1F : Hid (longB (partL a b k 0 x) = false) := Lib.hid (by rw [part_zero]; exact hf.out)
      clear hx hcell0 hp hf
      go_wp2
      clear hcell
      go_loopw [8, 29] (fun v i wr => ∃ m : Nat, m ≤ nb ∧ i = .int .i64 m ∧ Hid (JoinPart w wr (partL a b k m x) v) ∧ Hid (longB (partL a b k m x) = false)) (fun _ i _ => nb - (intOf i).toNat)
      case atStart => exact ⟨0, by omega, rfl, H1, H1F⟩
      case round =>
        obtain ⟨m, hm, rfl, hp, hf⟩ := hrel
        clear H1 H1F
        by_cases hlt2 : m < nb
        · have h2 : (m : Int) < nb := by omega
          obtain ⟨y, hy⟩ : ∃ y, b[m]? = some y := ⟨_, List.getElem?_eq_getElem (by have := HNB.out; omega)⟩
          obtain ⟨g', off', rfl, _, hcell0⟩ := HCB.out m _ (wcells_get hy)
          have hcell := hp.out.2.cell hcell0 (fun x => x)
          have HY := Lib.hid hy
          have mx := HSA.out x (List.mem_of_getElem? HX.out)
          have my := HSB.out y (List.mem_of_getElem? hy)
          have HC := Lib.hid (cat_two mx my)
          have sx := Lib.hid (mayS_size mx)
          have sy := Lib.hid (mayS_size my)
          clear hy hcell0 mx my
          by_cases h16 : 16 < (x ++ y).size
          · replace HC : Hid (catS [x, y] = (⟨#[]⟩, 4)) := Lib.hid (by rw [HC.out, if_pos h16])
            have HE : Hid (collL a b = ([], 4)) := Lib.hid (collL_long (by
              unfold longB
              rw [List.any_eq_true]
              exact ⟨x ++ y, cross_mem.2 ⟨x, List.mem_of_getElem? HX.out, y, List.mem_of_getElem? HY.out, rfl⟩, by simpa using h16⟩))
            clear h16
            go_wp2_with fail
            refine (join_any x y _ (by have := sx.out; omega) (by have := sy.out; omega)).mono ?_
            rintro e w1 ⟨rfl, hk1⟩
            rw [HC.out]
            have HK := Lib.hid (hp.out.2.trans hk1)
            clear hk1
            go_wp2
            go_ret2
            exact set_post HE.out (own_nil _ _ _ _) HK.out
          · replace HC : Hid (catS [x, y] = (x ++ y, 0)) := Lib.hid (by rw [HC.out, if_neg h16])
            have HF : Hid (longB (partL a b k (m + 1) x) = false) := Lib.hid (by rw [part_step HY.out, longB_append, hf.out]; simp [longB]; simpa using h16)
            have HL : Hid ((partL a b k m x).length ≤ 272) := Lib.hid (part_len (by have := HNA.out; have := HLA.out; omega) (by have := HNB.out; have := HLB.out; omega))
            clear h16
            go_wp2_with fail
            refine (join_any x y _ (by have := sx.out; omega) (by have := sy.out; omega)).mono ?_
            rintro e w1 ⟨rfl, hk1⟩
            rw [HC.out]
            replace hp := jp_kept hp hk1
            clear hk1
            go_wp2_with (at_builtin; refine list_app rfl (.tmp 43) (.tmp 45) 22 22 rfl Try.slice22 rfl (by exact own_kept hp.out.1 (Fr.of_alloc _ _ _)) rfl (by exact src_one Try.underlying22 (heap_alloc_new w1 _) rfl) (by have := HL.out; unfold maxLen; omega) (by have := HL.out; omega) (by have := hp.out.2.size; simp; omega) ?_; intro v2 w2 hq; have Hq := Lib.hid (JoinPart.step (m := [x ++ y]) ⟨own_kept hp.out.1 (Fr.of_alloc _ _ _), hp.out.2.trans (Fr.of_alloc _ _ _)⟩ hq); clear hq)
            go_roundw
            case rel => exact ⟨m + 1, by omega, by go_num, Lib.hid (by rw [part_step HY.out]; exact Hq.out), HF⟩
            case measure => simp [intOf]; omega
        · obtain rfl : m = nb := by omega
          have H2 := jp_full hp HNB.out HX.out
          have H2F : Hid (longB (crossL (a.take (k + 1)) b) = false) := Lib.hid (by rw [cross_step HX.out, HNB.out]; exact hf.out)
          clear hp hf
          go_wp2
          go_roundw
          case rel => exact ⟨k + 1, by omega, by go_num, H2, H2F⟩
          case measure => simp [intOf]; omega
    · have hfull : a.take k = a := List.take_of_length_le (by have := HNA.out; omega)
      rw [hfull] at hp hf
      have HE := Lib.hid (collL_ok hf.out)
      clear hfull hf
      go_wp2
      go_ret2
      exact set_post HE.out hp.out.1 hp.out.2
end Go.Proofs.Ytdapklamemalgaa
