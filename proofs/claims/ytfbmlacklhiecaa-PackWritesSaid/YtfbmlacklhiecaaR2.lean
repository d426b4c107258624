/- Contracts and lemmas: R2 -/
import Derived.Test.YtfbmlacklhiecaaR1
namespace Go.Proofs.Ytfbmlacklhiecaa
set_option linter.unusedVariables false
set_option linter.unusedSimpArgs false
open Go.RowKit Go.ChangeShapes Go.WideShapes
set_option maxRecDepth 20000

open Go.RowKit Go.ChangeShapes Go.WideShapes
set_option maxRecDepth 20000
theorem fr_oneR {b : Nat} {x y z : World} (h : Kept x y) (k : Fr (fun j => j = b) y z) : Fr (fun j => j = b) x z := (h.mono (fun _ _ f => f.elim)).trans k
theorem setB_take {l : List ByteArray} {k : Nat} {x : ByteArray} (h : l[k]? = some x) (n : Nat) : UInt8.ofNat n :: setW (l.take (k + 1)) = (UInt8.ofNat n :: setW (l.take k)) ++ wordB x := by
  rw [setW_take h]; rfl
set_option maxHeartbeats 4000000 in
theorem rset_any {w : World} {G : Nat → Prop} {v : Value} {l : List ByteArray} (hv : Reads w G v (wcells l)) (hl : l.length ≤ 100) (hs : Small 10000 l) :
    Calls Try.prog 46 #[v] w (KeptPost (.string ⟨(setB l).toArray⟩) w) := by
  obtain ⟨ao, cp, rfl, hcc, hc⟩ := hv
  rw [wcells_len] at hcc ⊢
  have HC := Lib.hid hc
  have HS := Lib.hid hs
  generalize hn : l.length = n at *
  have HN := Lib.hid hn
  have HU := Lib.hid (bcells_one (n : Int) (u8_self _ (by omega) (by omega)))
  have hown : (w.alloc (Obj.cells #[.int .u8 n] 5)).ownsRow w.heap.size 5 1 (.slice (some ⟨w.heap.size, 0, none⟩) 1 1) 1 (bcells [UInt8.ofNat (n : Int).toNat]) := by
    rw [HU.out]
    exact own_built (cs := #[.int .u8 n]) (heap_alloc_new w _) (Nat.le_refl _) (by show (1 : Nat) ≤ maxLen; decide)
  have x1 := run_bytes_string hown
  obtain ⟨y, hy⟩ : ∃ y : ByteArray, y = ⟨([UInt8.ofNat (n : Int).toNat]).toArray⟩ := ⟨_, rfl⟩
  rw [← hy] at x1
  have HY : Hid (bs y = UInt8.ofNat n :: setW (l.take 0)) := Lib.hid (by rw [hy]; simp [bs, setW])
  have y2 : IntKind.u8.wrap (n : Int) = (n : Int) := u8_in _ (by omega) (by omega)
  have y3 : (n : Int) % 256 = (n : Int) := by omega
  clear hy hown HU hn hc hs
  go_enter Try.func46, Try.ntmps46
  go_wp2_with fail
  have H0 : Hid (Kept w (w.alloc (Obj.cells #[.int .u8 n] 5))) := Lib.hid (Fr.of_alloc _ _ _)
  clear x1 y2 y3
  go_loopw [3, 4] (fun a i wr => ∃ (k : Nat) (q : ByteArray), k ≤ n ∧ i = .int .i64 k ∧ a = .string q ∧ Hid (bs q = UInt8.ofNat n :: setW (l.take k)) ∧ q.size ≤ 1 + 20000 * k ∧ Hid (Kept w wr)) (fun _ i _ => n - (intOf i).toNat)
  case atStart => exact ⟨0, y, by omega, rfl, rfl, HY, by rw [bs_size HY.out]; simp [setW], H0⟩
  case round =>
    obtain ⟨k, q, hk, rfl, rfl, hq, hqs, hkw⟩ := hrel
    by_cases hlt : k < n
    · have h1 : (k : Int) < n := by omega
      obtain ⟨x, hx⟩ : ∃ x, l[k]? = some x := ⟨_, List.getElem?_eq_getElem (by have := HN.out; omega)⟩
      obtain ⟨g, off, ha, _, hcell0⟩ := HC.out k _ (wcells_get hx)
      subst ha
      have hcell := hkw.out.cell hcell0 (fun x => x)
      have hsx : x.size ≤ 10000 := HS.out x (List.mem_of_getElem? hx)
      have HT := Lib.hid (setB_take hx n)
      have HWd : Hid (∀ W, Calls Try.prog 42 #[.string x] W (KeptPost (.string ⟨(wordB x).toArray⟩) W)) := Lib.hid (fun W => rword_any x (by omega) W)
      obtain ⟨z, hz⟩ : ∃ z : ByteArray, z = ⟨(wordB x).toArray⟩ := ⟨_, rfl⟩
      rw [← hz] at HWd
      have hzs : bs z = wordB x := by rw [hz]; rfl
      have hzl : z.size = x.size + 1 := by rw [bs_size hzs]; simp [wordB, bs_len]
      obtain ⟨q2, HQ2, hcat⟩ := str_add q z (by omega)
      have HQ3 : Hid (bs q2 = UInt8.ofNat n :: setW (l.take (k + 1))) := Lib.hid (by rw [HQ2.out, hq.out, hzs, HT.out])
      have hq2s : q2.size ≤ 1 + 20000 * (k + 1) := by
        have := bs_size HQ2.out
        rw [List.length_append, bs_len, bs_len] at this
        omega
      clear hx hcell0 hz hzs
      go_wp2_with fail
      refine (HWd.out _).mono ?_
      rintro e w2 ⟨rfl, hk2⟩
      have HK2 := Lib.hid (hkw.out.trans hk2)
      clear hk2
      go_wp2_with fail
      go_roundw
      case rel => exact ⟨k + 1, q2, by omega, by go_num, rfl, HQ3, hq2s, HK2⟩
      case measure => simp [intOf]; omega
    · have h1 : ¬ (k : Int) < n := by omega
      have HF : Hid (q = ⟨(setB l).toArray⟩) := Lib.hid (bs_inj (by
        rw [hq.out, List.take_of_length_le (by have := HN.out; omega), ← HN.out]; rfl))
      go_wp2
      go_ret
      exact ⟨by rw [← HF.out]; rfl, hkw.out⟩
theorem ROutAt.bad {b : Nat} {s : Option (List UInt8)} {w : World} (h : ROutAt b s w) (d : Bool) : ROutAt b (dem s d) (w.setCell ⟨b, 1, none⟩ (.bool (s.isNone || !d))) ∧ Fr (fun k => k = b) w (w.setCell ⟨b, 1, none⟩ (.bool (s.isNone || !d))) := by
  obtain ⟨r, hh, hr⟩ := h
  refine ⟨⟨r, ?_, fun l hl => ?_⟩, Fr.of_setCell w ⟨b, 1, none⟩ _⟩
  · rw [blockSet hh]
    cases s <;> cases d <;> rfl
  · cases d with
    | true => exact hr l hl
    | false => cases hl
theorem ROutAt.put {b : Nat} {l x : List UInt8} {r q : ByteArray} {w w' : World} (hh : w.heap[b]? = some (.cells #[.string r, .bool false] 34 (0, 0))) (hk : Kept w w') (hq : bs q = l ++ x) :
    ROutAt b (some (l ++ x)) (w'.setCell ⟨b, 0, none⟩ (.string q)) ∧ Fr (fun k => k = b) w (w'.setCell ⟨b, 0, none⟩ (.string q)) := by
  have hh' : w'.heap[b]? = some (.cells #[.string r, .bool false] 34 (0, 0)) := by rw [hk.block b (heap_lt hh) (fun x => x)]; exact hh
  refine ⟨⟨q, by rw [blockSet hh']; rfl, fun l' hl' => by cases hl'; exact hq⟩, fr_oneR hk (Fr.of_setCell w' ⟨b, 0, none⟩ _)⟩
set_option maxHeartbeats 4000000 in
theorem ronum_any {b : Nat} {s : Option (List UInt8)} {w : World} (n : Int) (hn0 : -9223372036854775808 ≤ n) (hn1 : n ≤ 9223372036854775807) (h : ROutAt b s w) (hl : olen s ≤ 9000000) :
    Calls Try.prog 11 #[.pointer (some ⟨b, 0, none⟩), .int .i64 n] w (ROutPost b (oNum s n) w) := by
  obtain ⟨d, hd⟩ : ∃ d, d = decide (0 ≤ n ∧ n ≤ 4611686018427387904) := ⟨_, rfl⟩
  have HB := Lib.hid (h.bad d)
  have HE : Hid (oNum s n = (dem s d).map (· ++ numB n.toNat)) := Lib.hid (by rw [hd]; rfl)
  obtain ⟨r, hh, hr⟩ := h
  have c1 : w.cell? ⟨b, 1, none⟩ = some (.bool s.isNone) := by rw [Lib.cell_of_heap hh]; rfl
  have f1 : w.frozen? ⟨b, 1, none⟩ = false := Lib.frozen_of_heap hh 1
  cases s with
  | none =>
    simp only [Option.isNone_none, Bool.true_or] at c1 HB
    have HF : Hid (ROutPost b (oNum none n) w (.returned (.tuple #[])) (w.setCell ⟨b, 1, none⟩ (.bool true))) := Lib.hid (by rw [HE.out]; rw [dem_none] at *; exact ⟨rfl, HB.out⟩)
    clear hd HB hh hr
    go_enter Try.func11, Try.ntmps11
    go_wp2
    go_end0
    exact HF.out
  | some l =>
    simp only [Option.isNone_some, Bool.false_or] at c1 HB hh
    have hcase : (d = true ∧ ¬ n < 0 ∧ ¬ 4611686018427387904 < n) ∨ (d = false ∧ n < 0) ∨ (d = false ∧ ¬ n < 0 ∧ 4611686018427387904 < n) := by
      rw [hd]
      by_cases h0 : 0 ≤ n
      · by_cases h1 : n ≤ 4611686018427387904
        · exact .inl ⟨by simp; omega, by omega, by omega⟩
        · exact .inr (.inr ⟨by simp; omega, by omega, by omega⟩)
      · exact .inr (.inl ⟨by simp; omega, by omega⟩)
    rcases hcase with ⟨rfl, g0, g1⟩ | ⟨rfl, g0⟩ | ⟨rfl, g0, g1⟩
    · have HH := Lib.hid hh
      have HH1 : Hid ((w.setCell ⟨b, 1, none⟩ (.bool false)).heap[b]? = some (.cells #[.string r, .bool false] 34 (0, 0))) := Lib.hid (by rw [blockSet hh]; rfl)
      have q0 : decide (n < 0) = false := by simp; omega
      have q1 : decide (4611686018427387904 < n) = false := by simp; omega
      have HN : Hid (∀ W, Calls Try.prog 37 #[.int .i64 n] W (KeptPost (.string ⟨(numB n.toNat).toArray⟩) W)) := Lib.hid (fun W => rnum_any n (by omega) (by omega) W)
      obtain ⟨y, hy⟩ : ∃ y : ByteArray, y = ⟨(numB n.toNat).toArray⟩ := ⟨_, rfl⟩
      rw [← hy] at HN
      have hys : bs y = numB n.toNat := by rw [hy]; rfl
      have hrs : bs r = l := hr l rfl
      obtain ⟨q, HQ, hcat⟩ := str_add r y (by rw [bs_size hys, bs_size hrs]; have := (numB_len n.toNat).2; simp only [olen] at hl; omega)
      have HQ2 : Hid (bs q = l ++ numB n.toNat) := Lib.hid (by rw [HQ.out, hys, hrs])
      clear hd hy hys hrs hr hh
      go_enter Try.func11, Try.ntmps11
      go_upto_region 2 with fail
      have HB0 : Hid (Fr (fun k => k = b) w (w.setCell ⟨b, 1, none⟩ (.bool false))) := Lib.hid HB.out.2
      clear HB c1 f1 q0 q1
      generalize w.setCell ⟨b, 1, none⟩ (.bool false) = W1 at *
      have z0 : W1.cell? ⟨b, 0, none⟩ = some (.string r) := by rw [Lib.cell_of_heap HH1.out]; rfl
      have zf : W1.frozen? ⟨b, 0, none⟩ = false := Lib.frozen_of_heap HH1.out 0
      have kd : Kept W1 W1.drew := Fr.of_drew _ W1
      go_region_law (
        (go_simp; go_at_call 37; refine (HN.out _).mono ?_; rintro e w3 ⟨rfl, hk3⟩; have hk := kd.trans hk3; have z3 := hk.cell z0 (fun x => x); have zf3 : w3.frozen? ⟨b, 0, none⟩ = false := (by have h9 := hk.block b (heap_lt HH1.out) (fun x => x); rw [HH1.out] at h9; exact Lib.frozen_of_heap h9 0); have HF := Lib.hid (ROutAt.put HH1.out hk HQ2.out); clear hk3 hk; dsimp only))
      all_goals
        have HX : Hid (ROutPost b (oNum (some l) n) w (.returned (.tuple #[])) (w3.setCell ⟨b, 0, none⟩ (.string q))) := Lib.hid (by rw [HE.out]; exact ⟨rfl, HF.out.1, HB0.out.trans HF.out.2⟩)
        clear HF z3 zf3
        try go_wp2
        go_end0
        exact HX.out
    · have HF : Hid (ROutPost b (oNum (some l) n) w (.returned (.tuple #[])) (w.setCell ⟨b, 1, none⟩ (.bool true))) := Lib.hid (by rw [HE.out]; exact ⟨rfl, HB.out⟩)
      have q0 : decide (n < 0) = true := by simp; omega
      clear hd HB hh hr
      go_enter Try.func11, Try.ntmps11
      go_wp2
      go_end0
      exact HF.out
    · have HF : Hid (ROutPost b (oNum (some l) n) w (.returned (.tuple #[])) (w.setCell ⟨b, 1, none⟩ (.bool true))) := Lib.hid (by rw [HE.out]; exact ⟨rfl, HB.out⟩)
      have q0 : decide (n < 0) = false := by simp; omega
      have q1 : decide (4611686018427387904 < n) = true := by simp; omega
      clear hd HB hh hr
      go_enter Try.func11, Try.ntmps11
      go_wp2
      go_end0
      exact HF.out
set_option maxHeartbeats 4000000 in
theorem rotext_any {b : Nat} {s : Option (List UInt8)} {w : World} (t : ByteArray) (ht : t.size ≤ 100000) (h : ROutAt b s w) (hl : olen s ≤ 9000000) :
    Calls Try.prog 13 #[.pointer (some ⟨b, 0, none⟩), .string t] w (ROutPost b (oText s t) w) := by
  obtain ⟨r, hh, hr⟩ := id h
  have c1 : w.cell? ⟨b, 1, none⟩ = some (.bool s.isNone) := by rw [Lib.cell_of_heap hh]; rfl
  cases s with
  | none =>
    have HF : Hid (ROutPost b (oText none t) w (.returned (.tuple #[])) w) := Lib.hid (by rw [oText_none]; exact ⟨rfl, h, Fr.refl _ _⟩)
    simp only [Option.isNone_none] at c1
    clear h hh hr
    go_enter Try.func13, Try.ntmps13
    go_wp2
    go_end0
    exact HF.out
  | some l =>
    simp only [Option.isNone_some] at c1 hh
    have HE : Hid (oText (some l) t = some (l ++ (numB t.size ++ bs t))) := Lib.hid (by
      have : decide (0 ≤ (t.size : Int) ∧ (t.size : Int) ≤ 4611686018427387904) = true := by simp; omega
      rw [oText, oNum, this]; simp [dem])
    have HN : Hid (∀ W, Calls Try.prog 37 #[.int .i64 t.size] W (KeptPost (.string ⟨(numB t.size).toArray⟩) W)) := Lib.hid (fun W => rnum_any t.size (by omega) (by omega) W)
    obtain ⟨y, hy⟩ : ∃ y : ByteArray, y = ⟨(numB t.size).toArray⟩ := ⟨_, rfl⟩
    rw [← hy] at HN
    have hys : bs y = numB t.size := by rw [hy]; rfl
    have hrs : bs r = l := hr l rfl
    have hnl := (numB_len t.size).2
    have hl' : l.length ≤ 9000000 := hl
    have hrz := bs_size hrs
    obtain ⟨q1, HQ1, hcat1⟩ := str_add y t (by rw [bs_size hys]; omega)
    have hq1s : q1.size = (numB t.size).length + t.size := by rw [bs_size HQ1.out, hys]; simp [bs_len]
    obtain ⟨q, HQ, hcat⟩ := str_add r q1 (by omega)
    have HQ2 : Hid (bs q = l ++ (numB t.size ++ bs t)) := Lib.hid (by rw [HQ.out, HQ1.out, hys, hrs])
    have HH1 := Lib.hid hh
    have HB0 : Hid (Fr (fun k => k = b) w w) := Lib.hid (Fr.refl _ _)
    clear hy hys hrs hr hh hnl hl' hrz hq1s h
    go_enter Try.func13, Try.ntmps13
    go_upto_region 1 with fail
    have z0 : w.cell? ⟨b, 0, none⟩ = some (.string r) := by rw [Lib.cell_of_heap HH1.out]; rfl
    have zf : w.frozen? ⟨b, 0, none⟩ = false := Lib.frozen_of_heap HH1.out 0
    have kd : Kept w w.drew := Fr.of_drew _ w
    go_region_law (
      (go_simp; go_at_call 37; refine (HN.out _).mono ?_; rintro e w3 ⟨rfl, hk3⟩; have hk := kd.trans hk3; have z3 := hk.cell z0 (fun x => x); have zf3 : w3.frozen? ⟨b, 0, none⟩ = false := (by have h9 := hk.block b (heap_lt HH1.out) (fun x => x); rw [HH1.out] at h9; exact Lib.frozen_of_heap h9 0); have HF := Lib.hid (ROutAt.put HH1.out hk HQ2.out); clear hk3 hk; dsimp only))
    all_goals
      have HX : Hid (ROutPost b (oText (some l) t) w (.returned (.tuple #[])) (w3.setCell ⟨b, 0, none⟩ (.string q))) := Lib.hid (by rw [HE.out]; exact ⟨rfl, HF.out.1, HB0.out.trans HF.out.2⟩)
      clear HF z3 zf3
      try go_wp2
      go_end0
      exact HX.out
set_option maxHeartbeats 4000000 in
theorem roword_any {b : Nat} {s : Option (List UInt8)} {w : World} (t : ByteArray) (ht : t.size ≤ 100000) (h : ROutAt b s w) (hl : olen s ≤ 9000000) :
    Calls Try.prog 15 #[.pointer (some ⟨b, 0, none⟩), .string t] w (ROutPost b (oWord s t) w) := by
  obtain ⟨r, hh, hr⟩ := id h
  have c1 : w.cell? ⟨b, 1, none⟩ = some (.bool s.isNone) := by rw [Lib.cell_of_heap hh]; rfl
  have f1 : w.frozen? ⟨b, 1, none⟩ = false := Lib.frozen_of_heap hh 1
  cases s with
  | none =>
    have HF : Hid (ROutPost b (oWord none t) w (.returned (.tuple #[])) (w.setCell ⟨b, 1, none⟩ (.bool true))) := Lib.hid (by rw [oWord_none]; exact ⟨rfl, h.bad true⟩)
    simp only [Option.isNone_none] at c1
    clear h hh hr
    go_enter Try.func15, Try.ntmps15
    go_wp2
    go_end0
    exact HF.out
  | some l0 =>
    simp only [Option.isNone_some] at c1 hh
    have HM : Hid (∀ W, Calls Try.prog 41 #[.string t] W (KeptPost (.bool (mayS t)) W)) := Lib.hid (fun W => rmay_any t W ht)
    obtain ⟨d, hd⟩ : ∃ d, d = mayS t := ⟨_, rfl⟩
    have HDD := Lib.hid hd
    rw [← hd] at HM
    have HS : Hid (oWord (some l0) t = (dem (some l0) d).map (· ++ wordB t)) := Lib.hid (by rw [hd]; rfl)
    have HBad := Lib.hid (fun W (hk : Kept w W) => (h.kept hk).bad d)
    have HHK : Hid (∀ W, Kept w W → W.heap[b]? = some (.cells #[.string r, .bool false] 34 (0, 0))) := Lib.hid (fun W hk => by rw [hk.block b (heap_lt hh) (fun x => x)]; exact hh)
    clear hd
    cases d with
    | false =>
      clear h hh hr
      go_enter Try.func15, Try.ntmps15
      go_wp2_with fail
      refine (HM.out _).mono ?_
      rintro e w2 ⟨rfl, hk2⟩
      have f2 : w2.frozen? ⟨b, 1, none⟩ = false := Lib.frozen_of_heap (HHK.out w2 hk2) 1
      have e2 : w2.cell? ⟨b, 1, none⟩ = some (.bool false) := by rw [Lib.cell_of_heap (HHK.out w2 hk2)]; rfl
      have HF : Hid (ROutPost b (oWord (some l0) t) w (.returned (.tuple #[])) (w2.setCell ⟨b, 1, none⟩ (.bool true))) := Lib.hid (by rw [HS.out]; exact ⟨rfl, (HBad.out w2 hk2).1, fr_oneR hk2 (HBad.out w2 hk2).2⟩)
      clear hk2
      go_wp2
      go_end0
      exact HF.out
    | true =>
      have HE : Hid (oWord (some l0) t = some (l0 ++ wordB t)) := Lib.hid (by rw [HS.out]; rfl)
      have HN : Hid (∀ W, Calls Try.prog 42 #[.string t] W (KeptPost (.string ⟨(wordB t).toArray⟩) W)) := Lib.hid (fun W => rword_any t ht W)
      obtain ⟨y, hy⟩ : ∃ y : ByteArray, y = ⟨(wordB t).toArray⟩ := ⟨_, rfl⟩
      rw [← hy] at HN
      have hys : bs y = wordB t := by rw [hy]; rfl
      have hrs : bs r = l0 := hr l0 rfl
      have hl' : l0.length ≤ 9000000 := hl
      have hrz := bs_size hrs
      have hyz : y.size ≤ 1000000 := by
        rw [bs_size hys]
        have h2 : (wordB t).length = t.size + 1 := by simp [wordB, bs_len]
        omega
      obtain ⟨q, HQ, hcat⟩ := str_add r y (by omega)
      have HQ2 : Hid (bs q = l0 ++ wordB t) := Lib.hid (by rw [HQ.out, hys, hrs])
      clear hy hys hrs hr hl' hrz hyz h hh
      go_enter Try.func15, Try.ntmps15
      go_wp2_with fail
      refine (HM.out _).mono ?_
      rintro e w2 ⟨rfl, hk2⟩
      have f2 : w2.frozen? ⟨b, 1, none⟩ = false := Lib.frozen_of_heap (HHK.out w2 hk2) 1
      have e2 : w2.cell? ⟨b, 1, none⟩ = some (.bool false) := by rw [Lib.cell_of_heap (HHK.out w2 hk2)]; rfl
      have HH1 : Hid ((w2.setCell ⟨b, 1, none⟩ (.bool false)).heap[b]? = some (.cells #[.string r, .bool false] 34 (0, 0))) := Lib.hid (by rw [blockSet (HHK.out w2 hk2)]; rfl)
      have HB0 : Hid (Fr (fun k => k = b) w (w2.setCell ⟨b, 1, none⟩ (.bool false))) := Lib.hid (fr_oneR hk2 (Fr.of_setCell w2 ⟨b, 1, none⟩ _))
      have HRD : Hid (∀ W, Kept (w2.setCell ⟨b, 1, none⟩ (.bool false)) W → Fr (fun k => k = b) w W) := Lib.hid (fun W hk => HB0.out.trans (hk.mono (fun _ _ f => f.elim)))
      clear hk2
      go_upto_region 2 with fail
      clear c1 f1 f2 e2
      generalize w2.setCell ⟨b, 1, none⟩ (.bool false) = W1 at *
      have z0 : W1.cell? ⟨b, 0, none⟩ = some (.string r) := by rw [Lib.cell_of_heap HH1.out]; rfl
      have zf : W1.frozen? ⟨b, 0, none⟩ = false := Lib.frozen_of_heap HH1.out 0
      have kd : Kept W1 W1.drew := Fr.of_drew _ W1
      go_region_law (
        (go_simp; go_at_call 42; refine (HN.out _).mono ?_; rintro e w3 ⟨rfl, hk3⟩; have hk := kd.trans hk3; have z3 := hk.cell z0 (fun x => x); have zf3 : w3.frozen? ⟨b, 0, none⟩ = false := (by have h9 := hk.block b (heap_lt HH1.out) (fun x => x); rw [HH1.out] at h9; exact Lib.frozen_of_heap h9 0); have HF := Lib.hid (ROutAt.put HH1.out hk HQ2.out); clear hk3 hk; dsimp only))
      all_goals
        have HX : Hid (ROutPost b (oWord (some l0) t) w (.returned (.tuple #[])) (w3.setCell ⟨b, 0, none⟩ (.string q))) := Lib.hid (by rw [HE.out]; exact ⟨rfl, HF.out.1, HB0.out.trans HF.out.2⟩)
        clear HF z3 zf3
        try go_wp2
        go_end0
        exact HX.out
set_option maxHeartbeats 4000000 in
theorem roset_any {b : Nat} {s : Option (List UInt8)} {w : World} {G : Nat → Prop} {v : Value} {l : List ByteArray} (hv : ∀ W, Fr (fun k => k = b) w W → Reads W G v (wcells l)) (hll : l.length ≤ 100000) (hs : Small 100000 l) (h : ROutAt b s w) (hl : olen s ≤ 9000000) :
    Calls Try.prog 17 #[.pointer (some ⟨b, 0, none⟩), v] w (ROutPost b (oSet s l) w) := by
  obtain ⟨r, hh, hr⟩ := id h
  have c1 : w.cell? ⟨b, 1, none⟩ = some (.bool s.isNone) := by rw [Lib.cell_of_heap hh]; rfl
  have f1 : w.frozen? ⟨b, 1, none⟩ = false := Lib.frozen_of_heap hh 1
  cases s with
  | none =>
    have HF : Hid (ROutPost b (oSet none l) w (.returned (.tuple #[])) (w.setCell ⟨b, 1, none⟩ (.bool true))) := Lib.hid (by rw [oSet_none]; exact ⟨rfl, h.bad true⟩)
    simp only [Option.isNone_none] at c1
    clear h hh hr
    go_enter Try.func17, Try.ntmps17
    go_wp2
    go_end0
    exact HF.out
  | some l0 =>
    simp only [Option.isNone_some] at c1 hh
    have HM : Hid (∀ W, Kept w W → Calls Try.prog 45 #[v] W (KeptPost (.bool (mayL l)) W)) := Lib.hid (fun W hk => rmay_set (hv W (hk.mono (fun _ _ f => f.elim))) hll hs)
    obtain ⟨d, hd⟩ : ∃ d, d = mayL l := ⟨_, rfl⟩
    have HDD := Lib.hid hd
    rw [← hd] at HM
    have HS : Hid (oSet (some l0) l = (dem (some l0) d).map (· ++ setB l)) := Lib.hid (by rw [hd]; rfl)
    have HBad := Lib.hid (fun W (hk : Kept w W) => (h.kept hk).bad d)
    have HHK : Hid (∀ W, Kept w W → W.heap[b]? = some (.cells #[.string r, .bool false] 34 (0, 0))) := Lib.hid (fun W hk => by rw [hk.block b (heap_lt hh) (fun x => x)]; exact hh)
    clear hd
    cases d with
    | false =>
      clear h hh hr
      go_enter Try.func17, Try.ntmps17
      go_wp2_with fail
      refine (HM.out _ (Fr.refl _ _)).mono ?_
      rintro e w2 ⟨rfl, hk2⟩
      have f2 : w2.frozen? ⟨b, 1, none⟩ = false := Lib.frozen_of_heap (HHK.out w2 hk2) 1
      have e2 : w2.cell? ⟨b, 1, none⟩ = some (.bool false) := by rw [Lib.cell_of_heap (HHK.out w2 hk2)]; rfl
      have HF : Hid (ROutPost b (oSet (some l0) l) w (.returned (.tuple #[])) (w2.setCell ⟨b, 1, none⟩ (.bool true))) := Lib.hid (by rw [HS.out]; exact ⟨rfl, (HBad.out w2 hk2).1, fr_oneR hk2 (HBad.out w2 hk2).2⟩)
      clear hk2
      go_wp2
      go_end0
      exact HF.out
    | true =>
      have HE : Hid (oSet (some l0) l = some (l0 ++ setB l)) := Lib.hid (by rw [HS.out]; rfl)
      have HN : Hid (∀ W, Fr (fun k => k = b) w W → Calls Try.prog 46 #[v] W (KeptPost (.string ⟨(setB l).toArray⟩) W)) := Lib.hid (fun W hk => rset_any (hv W hk) (by have := (mayL_iff.1 HDD.out.symm).1; omega) (fun x hx => by have := mayS_sz ((mayL_iff.1 HDD.out.symm).2.1 x hx); omega))
      obtain ⟨y, hy⟩ : ∃ y : ByteArray, y = ⟨(setB l).toArray⟩ := ⟨_, rfl⟩
      rw [← hy] at HN
      have hys : bs y = setB l := by rw [hy]; rfl
      have hrs : bs r = l0 := hr l0 rfl
      have hl' : l0.length ≤ 9000000 := hl
      have hrz := bs_size hrs
      have hyz : y.size ≤ 1000000 := by
        rw [bs_size hys]
        have h1 := setW_len l (mayL_iff.1 HDD.out.symm).2.1
        have h2 := (mayL_iff.1 HDD.out.symm).1
        simp only [setB, List.length_cons]
        omega
      obtain ⟨q, HQ, hcat⟩ := str_add r y (by omega)
      have HQ2 : Hid (bs q = l0 ++ setB l) := Lib.hid (by rw [HQ.out, hys, hrs])
      clear hy hys hrs hr hl' hrz hyz h hh
      go_enter Try.func17, Try.ntmps17
      go_wp2_with fail
      refine (HM.out _ (Fr.refl _ _)).mono ?_
      rintro e w2 ⟨rfl, hk2⟩
      have f2 : w2.frozen? ⟨b, 1, none⟩ = false := Lib.frozen_of_heap (HHK.out w2 hk2) 1
      have e2 : w2.cell? ⟨b, 1, none⟩ = some (.bool false) := by rw [Lib.cell_of_heap (HHK.out w2 hk2)]; rfl
      have HH1 : Hid ((w2.setCell ⟨b, 1, none⟩ (.bool false)).heap[b]? = some (.cells #[.string r, .bool false] 34 (0, 0))) := Lib.hid (by rw [blockSet (HHK.out w2 hk2)]; rfl)
      have HB0 : Hid (Fr (fun k => k = b) w (w2.setCell ⟨b, 1, none⟩ (.bool false))) := Lib.hid (fr_oneR hk2 (Fr.of_setCell w2 ⟨b, 1, none⟩ _))
      have HRD : Hid (∀ W, Kept (w2.setCell ⟨b, 1, none⟩ (.bool false)) W → Fr (fun k => k = b) w W) := Lib.hid (fun W hk => HB0.out.trans (hk.mono (fun _ _ f => f.elim)))
      clear hk2
      go_upto_region 2 with fail
      clear c1 f1 f2 e2
      generalize w2.setCell ⟨b, 1, none⟩ (.bool false) = W1 at *
      have z0 : W1.cell? ⟨b, 0, none⟩ = some (.string r) := by rw [Lib.cell_of_heap HH1.out]; rfl
      have zf : W1.frozen? ⟨b, 0, none⟩ = false := Lib.frozen_of_heap HH1.out 0
      have kd : Kept W1 W1.drew := Fr.of_drew _ W1
      go_region_law (
        (go_simp; go_at_call 46; refine (HN.out _ (HRD.out _ kd)).mono ?_; rintro e w3 ⟨rfl, hk3⟩; have hk := kd.trans hk3; have z3 := hk.cell z0 (fun x => x); have zf3 : w3.frozen? ⟨b, 0, none⟩ = false := (by have h9 := hk.block b (heap_lt HH1.out) (fun x => x); rw [HH1.out] at h9; exact Lib.frozen_of_heap h9 0); have HF := Lib.hid (ROutAt.put HH1.out hk HQ2.out); clear hk3 hk; dsimp only))
      all_goals
        have HX : Hid (ROutPost b (oSet (some l0) l) w (.returned (.tuple #[])) (w3.setCell ⟨b, 0, none⟩ (.string q))) := Lib.hid (by rw [HE.out]; exact ⟨rfl, HF.out.1, HB0.out.trans HF.out.2⟩)
        clear HF z3 zf3
        try go_wp2
        go_end0
        exact HX.out

end Go.Proofs.Ytfbmlacklhiecaa
