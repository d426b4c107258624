/- Contracts and lemmas: W4 -/
import Derived.Test.YtfbmlacklhiecaaT2
namespace Go.Proofs.Ytfbmlacklhiecaa
set_option linter.unusedVariables false
set_option linter.unusedSimpArgs false
open Go.RowKit Go.ChangeShapes Go.WideShapes
set_option maxRecDepth 20000

open Go.RowKit Go.ChangeShapes Go.WideShapes
set_option maxRecDepth 20000
theorem u8_bnd {i : Int} (wi : (Lit.int .u8 i).wf = true) : 0 ≤ i ∧ i ≤ 255 := by
  simp [Lit.wf, IntKind.min, IntKind.max, IntKind.signed, IntKind.bits] at wi; exact wi
/-- a slice of bytes that came in -/
def BytesIn (w : World) (v : Value) : Prop := ∃ l : List Int, Reads w (fun _ => True) v (l.map (Value.int .u8)) ∧ (∀ x ∈ l, 0 ≤ x ∧ x ≤ 255) ∧ l.length ≤ maxLen
theorem bytesIn_of {w : World} {v : Value} {r : Reach} {b : Nat} (hval : Value.okWide Try.prog w r b 29 v) (h : Holds Try.prog w 29 v.cells.toList) : BytesIn w v := by
  obtain ⟨ao, len, cap, rfl⟩ := okWide_slice Try.underlying29 hval
  have hC : Try.prog.cellsOf 5 = 1 := by kernel_rfl
  exact Holds.row (mk := Value.int .u8) (R := fun x => 0 ≤ x ∧ x ≤ 255) (c := .slice ao len cap) h Try.underlying29 hC (fun cs hcs => by
    obtain ⟨x, hx, hw⟩ := hcs.int Try.underlying5
    exact ⟨x, hx, u8_bnd hw⟩)
/-- an Out and an In that the law keeps -/
structure St6 (w0 : World) (bo bi : Nat) (so si : Option (List UInt8)) (w : World) : Prop where
  o : OutAt w0.heap.size bo so w
  i : InAt bi si w
  k : Kept w0 w
  ho : w0.heap.size ≤ bo
  hi : w0.heap.size ≤ bi
  ne : bi ≠ bo
theorem St6.kept {w0 : World} {bo bi : Nat} {so si : Option (List UInt8)} {w w' : World} (h : St6 w0 bo bi so si w) (k : Kept w w') : St6 w0 bo bi so si w' := ⟨h.o.kept k, h.i.kept k, h.k.trans k, h.ho, h.hi, h.ne⟩
theorem St6.byO {w0 : World} {bo bi : Nat} {so si s' : Option (List UInt8)} {w w' : World} (h : St6 w0 bo bi so si w) (h1 : OutAt w0.heap.size bo s' w') (t : TurnB w0.heap.size bo w w') : St6 w0 bo bi s' si w' :=
  ⟨h1, h.i.turnB t h.ne, t.over h.k h.ho (Nat.le_refl _), h.ho, h.hi, h.ne⟩
theorem St6.byI {w0 : World} {bo bi : Nat} {so si s' : Option (List UInt8)} {w w' : World} (h : St6 w0 bo bi so si w) (h1 : InAt bi s' w') (f : Fr (fun k => k = bi) w w') : St6 w0 bo bi so s' w' :=
  ⟨h.o.byI h.i f (fun e => h.ne e.symm), h1, fr_over f h.k h.hi, h.ho, h.hi, h.ne⟩
theorem turn_row {B b base n : Nat} {w W : World} {v : Value} {xs : List Value} (h : TurnB B b w W) (ho : w.ownsRow base 35 1 v n xs) (hb : b < base) : W.ownsRow base 35 1 v n xs := by
  refine ⟨ho.1, ?_⟩
  rcases ho.2 with hn | ⟨g, cap, cur, rfl, hbg, hg, rest⟩
  · exact .inl hn
  · exact .inr ⟨g, cap, cur, rfl, hbg, h.other hg (by omega) (by decide), rest⟩
theorem iTake_fst {s : Option (List UInt8)} {n : Nat} (h : (iTake s n).2 = none) : (iTake s n).1 = ⟨#[]⟩ := by
  cases s with
  | none => rfl
  | some l =>
    simp only [iTake] at h ⊢
    split
    · rename_i hn; rw [if_pos hn] at h; cases h
    · rfl
theorem keepW_fst {r : ByteArray × Option (List UInt8)} (h : (keepW r).2 = none) : (keepW r).1 = ⟨#[]⟩ := by
  unfold keepW at h ⊢
  split
  · rename_i q hq; rw [hq] at h; cases h
  · rfl
theorem keepL_fst {r : List ByteArray × Option (List UInt8)} (h : (keepL r).2 = none) : (keepL r).1 = [] := by
  unfold keepL at h ⊢
  split
  · rename_i q hq; rw [hq] at h; cases h
  · rfl
theorem oNum_ok {p : List UInt8} {n : Int} (h0 : 0 ≤ n) (h1 : n ≤ 4611686018427387904) : oNum (some p) n = some (p ++ numB n.toNat) := by
  have : decide (0 ≤ n ∧ n ≤ 4611686018427387904) = true := by simp; omega
  simp [oNum, this, dem_true]
theorem oText_ok {p : List UInt8} {t : ByteArray} (h : t.size ≤ 100000) : oText (some p) t = some (p ++ (numB t.size ++ bs t)) := by
  unfold oText
  rw [oNum_ok (by omega) (by omega)]; simp
theorem oWord_ok {p : List UInt8} {t : ByteArray} (h : mayS t = true) : oWord (some p) t = some (p ++ wordB t) := by
  simp [oWord, h, dem_true]
theorem oSet_ok {p : List UInt8} {t : List ByteArray} (h : mayL t = true) : oSet (some p) t = some (p ++ setB t) := by
  simp [oSet, h, dem_true]
theorem numK_pos (n : Nat) (r : List UInt8) : r.length < (numB n ++ r).length := by
  have := (numB_len n).1
  rw [List.length_append]; omega
theorem front_str {x : ByteArray} {p r : List UInt8} (h : bs x = p ++ r) : x.extract 0 (x.size - r.length) = ⟨p.toArray⟩ := by
  apply bs_inj
  rw [bs_extract]
  have e : x.size = p.length + r.length := by rw [← bs_len, h, List.length_append]
  show List.take (x.size - r.length - 0) (List.drop 0 (bs x)) = p
  rw [h, List.drop_zero, e]
  have : p.length + r.length - r.length - 0 = p.length := by omega
  rw [this, List.take_left]

open Go.RowKit Go.ChangeShapes Go.WideShapes
set_option maxRecDepth 20000
set_option maxHeartbeats 16000000 in
theorem packOne_walk {w : World} (x0 : ByteArray) (hx0 : x0.size ≤ maxLen) (v : Value) (hv : BytesIn w v) :
    Calls Try.prog 6 #[.string x0, v] w fun e w' => e = .returned (.bool true) ∧ Fr (fun _ => False) w w' := by
  obtain ⟨l, hrd, hb, hmax⟩ := hv
  obtain ⟨ao, cap, rfl, hcap, hc⟩ := hrd
  unfold maxLen at hmax hx0
  have HC := Lib.hid hc
  have HB := Lib.hid hb
  rw [List.length_map] at hcap ⊢
  clear hc hb
  generalize hn : l.length = n at *
  have HN := Lib.hid hn
  clear hn
  go_enter Try.func6, Try.ntmps6
  go_wp2_with fail
  refine (awake_any _).mono ?_
  rintro e w1 ⟨rfl, hk1⟩
  have K1 := Lib.hid hk1
  clear hk1
  by_cases hsz : 4096 < x0.size
  · have g0 : decide (4096 < x0.size) = true := by simpa using hsz
    go_wp2
    go_ret
    exact ⟨rfl, K1.out⟩
  · have g0 : decide (4096 < x0.size) = false := by simpa using hsz
    have HX0 : Hid (x0.size ≤ 4096) := Lib.hid (by omega)
    go_wp2_with fail
    refine (from_any x0 _ (by have := HX0.out; omega)).mono ?_
    rintro e w2 ⟨rfl, h2, k2, hlt2⟩
    have HS0 : Hid (St6 w w2.heap.size w1.heap.size (some []) (some (bs x0)) (w2.alloc (Obj.cells #[.int .i64 0, .slice none 0 0] 31))) := Lib.hid
      ⟨out_new w2 w.heap.size, h2.kept (Fr.of_alloc _ _ _), (K1.out.trans k2).trans (Fr.of_alloc _ _ _), (K1.out.trans k2).size, K1.out.size, by omega⟩
    clear h2 k2 hlt2
    go_wp2_with fail
    generalize w2.alloc (Obj.cells #[.int .i64 0, .slice none 0 0] 31) = wl at *
    generalize w2.heap.size = bo at *
    generalize w1.heap.size = bi at *
    clear g0 hsz
    have hsz2 : x0.size ≤ 4096 := HX0.out
    go_loopw [7] (fun i wr => ∃ (k : Nat) (p lf : List UInt8), k ≤ n ∧ k ≤ 100 ∧ i = .int .i64 k ∧ Hid (St6 w bo bi (some p) (some lf) wr) ∧ Hid (bs x0 = p ++ lf)) (fun i _ => n - (intOf i).toNat)
    case atStart => exact ⟨0, [], bs x0, by omega, by omega, rfl, HS0, Lib.hid rfl⟩
    case round =>
      obtain ⟨k, p, lf, hk, hk1, rfl, hs, hpl⟩ := hrel
      clear HS0
      by_cases hlt : k < n ∧ k < 100
      · obtain ⟨h1, h2⟩ := hlt
        have g1 : (k : Int) < n := by omega
        have g2 : (k : Int) < 100 := by omega
        obtain ⟨x, hx⟩ : ∃ x, l[k]? = some x := ⟨_, List.getElem?_eq_getElem (by have := HN.out; omega)⟩
        obtain ⟨g, off, ha, _, hc0⟩ := HC.out k (.int .u8 x) (by rw [List.getElem?_map, hx]; rfl)
        subst ha
        have hxb := HB.out x (List.mem_of_getElem? hx)
        have hcell := hs.out.k.cell hc0 (fun x => x)
        have HLen : Hid (p.length + lf.length = x0.size) := Lib.hid (by rw [← bs_len, hpl.out, List.length_append])
        have hx40 : 0 ≤ x := hxb.1
        have hx41 : x ≤ 255 := hxb.2
        clear hx hc0 hxb
        obtain ⟨L0, hL0⟩ : ∃ L0 : Int, L0 = (lf.length : Int) := ⟨_, rfl⟩
        have HL0 := Lib.hid hL0
        have eLF : iLeft (some lf) = L0 := hL0.symm
        clear hL0
        have y1 : x.tmod 4 = x % 4 := Int.tmod_eq_emod_of_nonneg hx40
        have hq4 : x % 4 = 0 ∨ x % 4 = 1 ∨ x % 4 = 2 ∨ x % 4 = 3 := by omega
        rcases hq4 with hq | hq | hq | hq
        · go_wp2_with fail
          refine (ileft_any hs.out.i).mono ?_
          rintro e w3 ⟨rfl, rfl⟩
          rw [eLF]
          go_wp2_with fail
          obtain ⟨nv, hnv⟩ : ∃ nv, nv = (iNum (some lf) 4611686018427387904).1 := ⟨_, rfl⟩
          obtain ⟨st, hst⟩ : ∃ st, st = (iNum (some lf) 4611686018427387904).2 := ⟨_, rfl⟩
          have HE : Hid ((iNum (some lf) 4611686018427387904) = (nv, st)) := Lib.hid (by rw [hnv, hst])
          clear hnv hst
          refine (inum_any 4611686018427387904 (by decide) (by decide) hs.out.i).mono ?_
          rintro e w4 ⟨rfl, h4, f4⟩
          rw [HE.out] at h4 ⊢
          have S4 := Lib.hid (hs.out.byI h4 f4)
          clear h4 f4
          cases st with
          | none =>
            have HV : Hid (0 ≤ nv ∧ nv ≤ 4611686018427387904) := Lib.hid (by obtain ⟨j, hj, hj2⟩ := iNum_nat (some lf) 4611686018427387904; rw [HE.out] at hj; simp only [] at hj; omega)
            have eN0 : iLeft none = 0 := rfl
            by_cases hl0 : 0 < lf.length
            · have q5 : 0 < L0 := by rw [HL0.out]; omega
              go_wp2_with fail
              refine (ileft_any S4.out.i).mono ?_
              rintro e w5 ⟨rfl, rfl⟩
              rw [eN0]
              go_wp2_with fail
              refine (onum_any nv (by have := HV.out; omega) (by have := HV.out; omega) S4.out.o (by have := HLen.out; simp only [olen]; omega) S4.out.k.size).mono ?_
              rintro e w6 ⟨rfl, h6, t6⟩
              rw [oNum_ok (by have := HV.out; omega) (by have := HV.out; omega)] at h6
              have HS9 := Lib.hid (S4.out.byO h6 t6)
              clear h6 t6
              clear hcell
              go_wp2_with fail
              refine (odone_any HS9.out.o).mono ?_
              rintro e w21 ⟨rfl, hk21⟩
              have S21 := Lib.hid (HS9.out.kept hk21)
              clear hk21
              have eD : ∀ q : List UInt8, oDone (some q) = (⟨q.toArray⟩, 0) := fun q => rfl
              rw [eD]
              go_wp2_with fail
              refine (ileft_any S21.out.i).mono ?_
              rintro e w22 ⟨rfl, rfl⟩
              have eN : iLeft none = 0 := rfl
              rw [eN]
              go_wp2_with fail
              refine (idone_any S21.out.i).mono ?_
              rintro e w23 ⟨rfl, h23, f23⟩
              have eI : (iDone none).1 = 2 := rfl
              rw [eI]
              have S23 := Lib.hid (S21.out.byI h23 f23)
              clear h23 f23
              go_wp2
              go_ret
              exact ⟨rfl, S23.out.k⟩
            · have q5 : ¬ 0 < L0 := by rw [HL0.out]; omega
              go_wp2_with fail
              refine (ileft_any S4.out.i).mono ?_
              rintro e w5 ⟨rfl, rfl⟩
              rw [eN0]
              have HS9 := S4
              clear hcell
              go_wp2_with fail
              refine (odone_any HS9.out.o).mono ?_
              rintro e w21 ⟨rfl, hk21⟩
              have S21 := Lib.hid (HS9.out.kept hk21)
              clear hk21
              have eD : ∀ q : List UInt8, oDone (some q) = (⟨q.toArray⟩, 0) := fun q => rfl
              rw [eD]
              go_wp2_with fail
              refine (ileft_any S21.out.i).mono ?_
              rintro e w22 ⟨rfl, rfl⟩
              have eN : iLeft none = 0 := rfl
              rw [eN]
              go_wp2_with fail
              refine (idone_any S21.out.i).mono ?_
              rintro e w23 ⟨rfl, h23, f23⟩
              have eI : (iDone none).1 = 2 := rfl
              rw [eI]
              have S23 := Lib.hid (S21.out.byI h23 f23)
              clear h23 f23
              go_wp2
              go_ret
              exact ⟨rfl, S23.out.k⟩
          | some r9 =>
            have HO := Lib.hid (iNum_one HE.out)
            have HV : Hid (0 ≤ nv ∧ nv ≤ 4611686018427387904) := Lib.hid (by exact ⟨HO.out.1, HO.out.2.1⟩)
            obtain ⟨L1, hL1⟩ : ∃ L1 : Int, L1 = iLeft (some r9) := ⟨_, rfl⟩
            have q5 : L1 < L0 := by
              rw [HL0.out, hL1]
              show (r9.length : Int) < _
              have h8 := HO.out.2.2; have h9 := congrArg List.length h8; have := numK_pos nv.toNat r9; omega
            go_wp2_with fail
            refine (ileft_any S4.out.i).mono ?_
            rintro e w5 ⟨rfl, rfl⟩
            rw [← hL1]
            clear hL1
            go_wp2_with fail
            refine (onum_any nv (by have := HV.out; omega) (by have := HV.out; omega) S4.out.o (by have := HLen.out; simp only [olen]; omega) S4.out.k.size).mono ?_
            rintro e w6 ⟨rfl, h6, t6⟩
            rw [oNum_ok (by have := HV.out; omega) (by have := HV.out; omega)] at h6
            have HS9 := Lib.hid (S4.out.byO h6 t6)
            clear h6 t6
            obtain ⟨p9, hp9⟩ : ∃ p9, p9 = p ++ numB nv.toNat := ⟨_, rfl⟩
            rw [← hp9] at HS9
            have HP9 : Hid (bs x0 = p9 ++ r9) := Lib.hid (by rw [hp9, hpl.out, HO.out.2.2]; simp)
            clear hp9
            clear hcell
            obtain ⟨A, hA⟩ : ∃ A : ByteArray, A = ⟨p9.toArray⟩ := ⟨_, rfl⟩
            have eD : oDone (some p9) = (A, 0) := by rw [hA]; rfl
            have HFs := Lib.hid (front_str HP9.out)
            rw [← hA] at HFs
            by_cases hr9 : r9.length = 0
            · have hr9n : r9 = [] := List.eq_nil_of_length_eq_zero hr9
              subst hr9n
              have HAX : Hid (A = x0) := Lib.hid (by rw [hA]; apply bs_inj; rw [HP9.out, List.append_nil]; rfl)
              clear hA
              go_wp2_with fail
              refine (odone_any HS9.out.o).mono ?_
              rintro e w21 ⟨rfl, hk21⟩
              have S21 := Lib.hid (HS9.out.kept hk21)
              clear hk21
              rw [eD, HAX.out]
              go_wp2_with fail
              refine (ileft_any S21.out.i).mono ?_
              rintro e w22 ⟨rfl, rfl⟩
              have eN : iLeft (some []) = 0 := rfl
              rw [eN]
              go_wp2_with fail
              refine (idone_any S21.out.i).mono ?_
              rintro e w23 ⟨rfl, h23, f23⟩
              have eI : (iDone (some [])).1 = 0 := rfl
              rw [eI]
              have S23 := Lib.hid (S21.out.byI h23 f23)
              clear h23 f23
              go_wp2
              go_ret
              exact ⟨rfl, S23.out.k⟩
            · have hle9 : r9.length ≤ x0.size := by rw [← bs_len, HP9.out, List.length_append]; omega
              obtain ⟨rl, hrl⟩ : ∃ rl, rl = r9.length := ⟨_, rfl⟩
              have eN : iLeft (some r9) = (rl : Int) := by rw [hrl]; rfl
              rw [← hrl] at HFs hr9 hle9
              have eX : x0.extract 0 (x0.size - rl) = A := HFs.out
              have eX2 : x0.extract 0 ((x0.size : Int) - (rl : Int)).toNat = A := by rw [← eX]; congr 1; omega
              have z1 : 0 ≤ (x0.size : Int) - (rl : Int) := by omega
              have z2 : (x0.size : Int) - (rl : Int) ≤ (x0.size : Int) := by omega
              have z3 : ((rl : Int) == 0) = false := by simp; omega
              clear hrl hA HFs
              go_wp2_with fail
              refine (odone_any HS9.out.o).mono ?_
              rintro e w21 ⟨rfl, hk21⟩
              have S21 := Lib.hid (HS9.out.kept hk21)
              clear hk21
              rw [eD]
              go_wp2_with fail
              refine (ileft_any S21.out.i).mono ?_
              rintro e w22 ⟨rfl, rfl⟩
              rw [eN]
              go_wp2_with fail
              refine (ileft_any S21.out.i).mono ?_
              rintro e w22 ⟨rfl, rfl⟩
              rw [eN]
              go_wp2_with fail
              go_roundw
              case rel => exact ⟨k + 1, p9, r9, by omega, by omega, by go_num, S21, HP9⟩
              case measure => simp [intOf]; omega
        · go_wp2_with fail
          refine (ileft_any hs.out.i).mono ?_
          rintro e w3 ⟨rfl, rfl⟩
          rw [eLF]
          go_wp2_with fail
          obtain ⟨nv, hnv⟩ : ∃ nv, nv = (iText (some lf) 1048576).1 := ⟨_, rfl⟩
          obtain ⟨st, hst⟩ : ∃ st, st = (iText (some lf) 1048576).2 := ⟨_, rfl⟩
          have HE : Hid ((iText (some lf) 1048576) = (nv, st)) := Lib.hid (by rw [hnv, hst])
          clear hnv hst
          refine (itext_any 1048576 (by decide) (by decide) hs.out.i).mono ?_
          rintro e w4 ⟨rfl, h4, f4⟩
          rw [HE.out] at h4 ⊢
          have S4 := Lib.hid (hs.out.byI h4 f4)
          clear h4 f4
          cases st with
          | none =>
            have HV : Hid (nv.size ≤ 4096) := Lib.hid (by have h8 : nv = ⟨#[]⟩ := (by have h9 := iTake_fst (s := (iNum (some lf) 1048576).2) (n := (iNum (some lf) 1048576).1.toNat) (by have := HE.out; unfold iText at this; rw [this]); have h10 := HE.out; unfold iText at h10; rw [h10] at h9; exact h9); rw [h8]; decide)
            have eN0 : iLeft none = 0 := rfl
            by_cases hl0 : 0 < lf.length
            · have q5 : 0 < L0 := by rw [HL0.out]; omega
              go_wp2_with fail
              refine (ileft_any S4.out.i).mono ?_
              rintro e w5 ⟨rfl, rfl⟩
              rw [eN0]
              go_wp2_with fail
              refine (otext_any nv (by have := HV.out; omega) S4.out.o (by have := HLen.out; simp only [olen]; omega) S4.out.k.size).mono ?_
              rintro e w6 ⟨rfl, h6, t6⟩
              rw [oText_ok (by have := HV.out; omega)] at h6
              have HS9 := Lib.hid (S4.out.byO h6 t6)
              clear h6 t6
              clear hcell
              go_wp2_with fail
              refine (odone_any HS9.out.o).mono ?_
              rintro e w21 ⟨rfl, hk21⟩
              have S21 := Lib.hid (HS9.out.kept hk21)
              clear hk21
              have eD : ∀ q : List UInt8, oDone (some q) = (⟨q.toArray⟩, 0) := fun q => rfl
              rw [eD]
              go_wp2_with fail
              refine (ileft_any S21.out.i).mono ?_
              rintro e w22 ⟨rfl, rfl⟩
              have eN : iLeft none = 0 := rfl
              rw [eN]
              go_wp2_with fail
              refine (idone_any S21.out.i).mono ?_
              rintro e w23 ⟨rfl, h23, f23⟩
              have eI : (iDone none).1 = 2 := rfl
              rw [eI]
              have S23 := Lib.hid (S21.out.byI h23 f23)
              clear h23 f23
              go_wp2
              go_ret
              exact ⟨rfl, S23.out.k⟩
            · have q5 : ¬ 0 < L0 := by rw [HL0.out]; omega
              go_wp2_with fail
              refine (ileft_any S4.out.i).mono ?_
              rintro e w5 ⟨rfl, rfl⟩
              rw [eN0]
              have HS9 := S4
              clear hcell
              go_wp2_with fail
              refine (odone_any HS9.out.o).mono ?_
              rintro e w21 ⟨rfl, hk21⟩
              have S21 := Lib.hid (HS9.out.kept hk21)
              clear hk21
              have eD : ∀ q : List UInt8, oDone (some q) = (⟨q.toArray⟩, 0) := fun q => rfl
              rw [eD]
              go_wp2_with fail
              refine (ileft_any S21.out.i).mono ?_
              rintro e w22 ⟨rfl, rfl⟩
              have eN : iLeft none = 0 := rfl
              rw [eN]
              go_wp2_with fail
              refine (idone_any S21.out.i).mono ?_
              rintro e w23 ⟨rfl, h23, f23⟩
              have eI : (iDone none).1 = 2 := rfl
              rw [eI]
              have S23 := Lib.hid (S21.out.byI h23 f23)
              clear h23 f23
              go_wp2
              go_ret
              exact ⟨rfl, S23.out.k⟩
          | some r9 =>
            have HO := Lib.hid (iText_one HE.out)
            have HV : Hid (nv.size ≤ 4096) := Lib.hid (by have h8 := congrArg List.length HO.out; simp [bs_len] at h8; have := HLen.out; omega)
            obtain ⟨L1, hL1⟩ : ∃ L1 : Int, L1 = iLeft (some r9) := ⟨_, rfl⟩
            have q5 : L1 < L0 := by
              rw [HL0.out, hL1]
              show (r9.length : Int) < _
              have h8 := congrArg List.length HO.out; have := (numB_len nv.size).1; simp [bs_len] at h8; omega
            go_wp2_with fail
            refine (ileft_any S4.out.i).mono ?_
            rintro e w5 ⟨rfl, rfl⟩
            rw [← hL1]
            clear hL1
            go_wp2_with fail
            refine (otext_any nv (by have := HV.out; omega) S4.out.o (by have := HLen.out; simp only [olen]; omega) S4.out.k.size).mono ?_
            rintro e w6 ⟨rfl, h6, t6⟩
            rw [oText_ok (by have := HV.out; omega)] at h6
            have HS9 := Lib.hid (S4.out.byO h6 t6)
            clear h6 t6
            obtain ⟨p9, hp9⟩ : ∃ p9, p9 = p ++ (numB nv.size ++ bs nv) := ⟨_, rfl⟩
            rw [← hp9] at HS9
            have HP9 : Hid (bs x0 = p9 ++ r9) := Lib.hid (by rw [hp9, hpl.out, HO.out]; simp)
            clear hp9
            clear hcell
            obtain ⟨A, hA⟩ : ∃ A : ByteArray, A = ⟨p9.toArray⟩ := ⟨_, rfl⟩
            have eD : oDone (some p9) = (A, 0) := by rw [hA]; rfl
            have HFs := Lib.hid (front_str HP9.out)
            rw [← hA] at HFs
            by_cases hr9 : r9.length = 0
            · have hr9n : r9 = [] := List.eq_nil_of_length_eq_zero hr9
              subst hr9n
              have HAX : Hid (A = x0) := Lib.hid (by rw [hA]; apply bs_inj; rw [HP9.out, List.append_nil]; rfl)
              clear hA
              go_wp2_with fail
              refine (odone_any HS9.out.o).mono ?_
              rintro e w21 ⟨rfl, hk21⟩
              have S21 := Lib.hid (HS9.out.kept hk21)
              clear hk21
              rw [eD, HAX.out]
              go_wp2_with fail
              refine (ileft_any S21.out.i).mono ?_
              rintro e w22 ⟨rfl, rfl⟩
              have eN : iLeft (some []) = 0 := rfl
              rw [eN]
              go_wp2_with fail
              refine (idone_any S21.out.i).mono ?_
              rintro e w23 ⟨rfl, h23, f23⟩
              have eI : (iDone (some [])).1 = 0 := rfl
              rw [eI]
              have S23 := Lib.hid (S21.out.byI h23 f23)
              clear h23 f23
              go_wp2
              go_ret
              exact ⟨rfl, S23.out.k⟩
            · have hle9 : r9.length ≤ x0.size := by rw [← bs_len, HP9.out, List.length_append]; omega
              obtain ⟨rl, hrl⟩ : ∃ rl, rl = r9.length := ⟨_, rfl⟩
              have eN : iLeft (some r9) = (rl : Int) := by rw [hrl]; rfl
              rw [← hrl] at HFs hr9 hle9
              have eX : x0.extract 0 (x0.size - rl) = A := HFs.out
              have eX2 : x0.extract 0 ((x0.size : Int) - (rl : Int)).toNat = A := by rw [← eX]; congr 1; omega
              have z1 : 0 ≤ (x0.size : Int) - (rl : Int) := by omega
              have z2 : (x0.size : Int) - (rl : Int) ≤ (x0.size : Int) := by omega
              have z3 : ((rl : Int) == 0) = false := by simp; omega
              clear hrl hA HFs
              go_wp2_with fail
              refine (odone_any HS9.out.o).mono ?_
              rintro e w21 ⟨rfl, hk21⟩
              have S21 := Lib.hid (HS9.out.kept hk21)
              clear hk21
              rw [eD]
              go_wp2_with fail
              refine (ileft_any S21.out.i).mono ?_
              rintro e w22 ⟨rfl, rfl⟩
              rw [eN]
              go_wp2_with fail
              refine (ileft_any S21.out.i).mono ?_
              rintro e w22 ⟨rfl, rfl⟩
              rw [eN]
              go_wp2_with fail
              go_roundw
              case rel => exact ⟨k + 1, p9, r9, by omega, by omega, by go_num, S21, HP9⟩
              case measure => simp [intOf]; omega
        · go_wp2_with fail
          refine (ileft_any hs.out.i).mono ?_
          rintro e w3 ⟨rfl, rfl⟩
          rw [eLF]
          go_wp2_with fail
          obtain ⟨nv, hnv⟩ : ∃ nv, nv = (iWord (some lf)).1 := ⟨_, rfl⟩
          obtain ⟨st, hst⟩ : ∃ st, st = (iWord (some lf)).2 := ⟨_, rfl⟩
          have HE : Hid (iWord (some lf) = (nv, st)) := Lib.hid (by rw [hnv, hst])
          clear hnv hst
          refine (iword_any hs.out.i).mono ?_
          rintro e w4 ⟨rfl, h4, f4⟩
          rw [HE.out] at h4 ⊢
          have S4 := Lib.hid (hs.out.byI h4 f4)
          clear h4 f4
          cases st with
          | none =>
            have hv0 : nv = ⟨#[]⟩ := by
              have h9 := keepW_fst (r := iTake (iOne (some lf)).2 (2 * (iOne (some lf)).1.toNat)) (by have := HE.out; unfold iWord at this; rw [this])
              have h10 := HE.out
              unfold iWord at h10
              rw [h10] at h9
              exact h9
            subst hv0
            have HS9 := S4
            clear hcell
            go_wp2_with fail
            refine (odone_any HS9.out.o).mono ?_
            rintro e w21 ⟨rfl, hk21⟩
            have S21 := Lib.hid (HS9.out.kept hk21)
            clear hk21
            have eD : ∀ q : List UInt8, oDone (some q) = (⟨q.toArray⟩, 0) := fun q => rfl
            rw [eD]
            go_wp2_with fail
            refine (ileft_any S21.out.i).mono ?_
            rintro e w22 ⟨rfl, rfl⟩
            have eN : iLeft none = 0 := rfl
            rw [eN]
            go_wp2_with fail
            refine (idone_any S21.out.i).mono ?_
            rintro e w23 ⟨rfl, h23, f23⟩
            have eI : (iDone none).1 = 2 := rfl
            rw [eI]
            have S23 := Lib.hid (S21.out.byI h23 f23)
            clear h23 f23
            go_wp2
            go_ret
            exact ⟨rfl, S23.out.k⟩
          | some r9 =>
            have HO := Lib.hid (iWord_one HE.out)
            have HV := Lib.hid (mayS_sz HO.out.1)
            have e0 : nv.toList.isEmpty = false := by
              rw [bs_toList]
              cases hb9 : bs nv with
              | nil => have h8 := bs_len nv; rw [hb9] at h8; simp at h8; have := HV.out; omega
              | cons c t => rfl
            go_wp2_with fail
            refine (oword_any nv (by have := HV.out; omega) S4.out.o (by have := HLen.out; simp only [olen]; omega) S4.out.k.size).mono ?_
            rintro e w6 ⟨rfl, h6, t6⟩
            rw [oWord_ok HO.out.1] at h6
            have HS9 := Lib.hid (S4.out.byO h6 t6)
            clear h6 t6
            obtain ⟨p9, hp9⟩ : ∃ p9, p9 = p ++ wordB nv := ⟨_, rfl⟩
            rw [← hp9] at HS9
            have HP9 : Hid (bs x0 = p9 ++ r9) := Lib.hid (by rw [hp9, hpl.out, HO.out.2]; simp)
            clear hp9
            clear hcell
            obtain ⟨A, hA⟩ : ∃ A : ByteArray, A = ⟨p9.toArray⟩ := ⟨_, rfl⟩
            have eD : oDone (some p9) = (A, 0) := by rw [hA]; rfl
            have HFs := Lib.hid (front_str HP9.out)
            rw [← hA] at HFs
            by_cases hr9 : r9.length = 0
            · have hr9n : r9 = [] := List.eq_nil_of_length_eq_zero hr9
              subst hr9n
              have HAX : Hid (A = x0) := Lib.hid (by rw [hA]; apply bs_inj; rw [HP9.out, List.append_nil]; rfl)
              clear hA
              go_wp2_with fail
              refine (odone_any HS9.out.o).mono ?_
              rintro e w21 ⟨rfl, hk21⟩
              have S21 := Lib.hid (HS9.out.kept hk21)
              clear hk21
              rw [eD, HAX.out]
              go_wp2_with fail
              refine (ileft_any S21.out.i).mono ?_
              rintro e w22 ⟨rfl, rfl⟩
              have eN : iLeft (some []) = 0 := rfl
              rw [eN]
              go_wp2_with fail
              refine (idone_any S21.out.i).mono ?_
              rintro e w23 ⟨rfl, h23, f23⟩
              have eI : (iDone (some [])).1 = 0 := rfl
              rw [eI]
              have S23 := Lib.hid (S21.out.byI h23 f23)
              clear h23 f23
              go_wp2
              go_ret
              exact ⟨rfl, S23.out.k⟩
            · have hle9 : r9.length ≤ x0.size := by rw [← bs_len, HP9.out, List.length_append]; omega
              obtain ⟨rl, hrl⟩ : ∃ rl, rl = r9.length := ⟨_, rfl⟩
              have eN : iLeft (some r9) = (rl : Int) := by rw [hrl]; rfl
              rw [← hrl] at HFs hr9 hle9
              have eX : x0.extract 0 (x0.size - rl) = A := HFs.out
              have eX2 : x0.extract 0 ((x0.size : Int) - (rl : Int)).toNat = A := by rw [← eX]; congr 1; omega
              have z1 : 0 ≤ (x0.size : Int) - (rl : Int) := by omega
              have z2 : (x0.size : Int) - (rl : Int) ≤ (x0.size : Int) := by omega
              have z3 : ((rl : Int) == 0) = false := by simp; omega
              clear hrl hA HFs
              go_wp2_with fail
              refine (odone_any HS9.out.o).mono ?_
              rintro e w21 ⟨rfl, hk21⟩
              have S21 := Lib.hid (HS9.out.kept hk21)
              clear hk21
              rw [eD]
              go_wp2_with fail
              refine (ileft_any S21.out.i).mono ?_
              rintro e w22 ⟨rfl, rfl⟩
              rw [eN]
              go_wp2_with fail
              refine (ileft_any S21.out.i).mono ?_
              rintro e w22 ⟨rfl, rfl⟩
              rw [eN]
              go_wp2_with fail
              go_roundw
              case rel => exact ⟨k + 1, p9, r9, by omega, by omega, by go_num, S21, HP9⟩
              case measure => simp [intOf]; omega
        · go_wp2_with fail
          refine (ileft_any hs.out.i).mono ?_
          rintro e w3 ⟨rfl, rfl⟩
          rw [eLF]
          go_wp2_with fail
          obtain ⟨nv, hnv⟩ : ∃ nv, nv = (iSet (some lf)).1 := ⟨_, rfl⟩
          obtain ⟨st, hst⟩ : ∃ st, st = (iSet (some lf)).2 := ⟨_, rfl⟩
          have HE : Hid (iSet (some lf) = (nv, st)) := Lib.hid (by rw [hnv, hst])
          clear hnv hst
          refine (iset_any hs.out.i).mono ?_
          rintro e w4 ⟨u, rfl, ho4, h4, f4⟩
          rw [HE.out] at h4 ho4
          have S4 := Lib.hid (hs.out.byI h4 f4)
          have HOW := Lib.hid ho4
          obtain ⟨uo, uc, hu, _⟩ := own_slice ho4
          subst hu
          have HBL := Lib.hid hs.out.o.lt
          clear h4 f4 ho4
          cases st with
          | none =>
            have hv0 : nv = [] := by
              have h9 := keepL_fst (r := iWords (iOne (some lf)).1.toNat (iOne (some lf)).2) (by have := HE.out; unfold iSet at this; rw [this])
              have h10 := HE.out
              unfold iSet at h10
              rw [h10] at h9
              exact h9
            subst hv0
            have e00 : (([] : List ByteArray).length : Int) = 0 := rfl
            have HS9 := S4
            clear hcell
            go_wp2_with fail
            refine (odone_any HS9.out.o).mono ?_
            rintro e w21 ⟨rfl, hk21⟩
            have S21 := Lib.hid (HS9.out.kept hk21)
            clear hk21
            have eD : ∀ q : List UInt8, oDone (some q) = (⟨q.toArray⟩, 0) := fun q => rfl
            rw [eD]
            go_wp2_with fail
            refine (ileft_any S21.out.i).mono ?_
            rintro e w22 ⟨rfl, rfl⟩
            have eN : iLeft none = 0 := rfl
            rw [eN]
            go_wp2_with fail
            refine (idone_any S21.out.i).mono ?_
            rintro e w23 ⟨rfl, h23, f23⟩
            have eI : (iDone none).1 = 2 := rfl
            rw [eI]
            have S23 := Lib.hid (S21.out.byI h23 f23)
            clear h23 f23
            go_wp2
            go_ret
            exact ⟨rfl, S23.out.k⟩
          | some r9 =>
            have HO := Lib.hid (iSet_one HE.out)
            have HV := Lib.hid (mayL_iff.1 HO.out.1)
            obtain ⟨ul, hul⟩ : ∃ ul, ul = nv.length := ⟨_, rfl⟩
            have q5 : 0 < (ul : Int) := by have := HV.out.1; omega
            have HUL := Lib.hid hul
            rw [← hul]
            clear hul
            go_wp2_with fail
            refine (oset_any (l := nv) (fun W hW => by rw [HUL.out]; exact Reads.of_row (turn_row hW HOW.out HBL.out)) (by have := HV.out.1; omega) (fun y hy => by have := mayS_sz (HV.out.2.1 y hy); omega) S4.out.o (by have := HLen.out; simp only [olen]; omega) S4.out.k.size).mono ?_
            rintro e w6 ⟨rfl, h6, t6⟩
            rw [oSet_ok HO.out.1] at h6
            have HS9 := Lib.hid (S4.out.byO h6 t6)
            clear h6 t6
            obtain ⟨p9, hp9⟩ : ∃ p9, p9 = p ++ setB nv := ⟨_, rfl⟩
            rw [← hp9] at HS9
            have HP9 : Hid (bs x0 = p9 ++ r9) := Lib.hid (by rw [hp9, hpl.out, HO.out.2]; simp)
            clear hp9
            clear hcell
            obtain ⟨A, hA⟩ : ∃ A : ByteArray, A = ⟨p9.toArray⟩ := ⟨_, rfl⟩
            have eD : oDone (some p9) = (A, 0) := by rw [hA]; rfl
            have HFs := Lib.hid (front_str HP9.out)
            rw [← hA] at HFs
            by_cases hr9 : r9.length = 0
            · have hr9n : r9 = [] := List.eq_nil_of_length_eq_zero hr9
              subst hr9n
              have HAX : Hid (A = x0) := Lib.hid (by rw [hA]; apply bs_inj; rw [HP9.out, List.append_nil]; rfl)
              clear hA
              go_wp2_with fail
              refine (odone_any HS9.out.o).mono ?_
              rintro e w21 ⟨rfl, hk21⟩
              have S21 := Lib.hid (HS9.out.kept hk21)
              clear hk21
              rw [eD, HAX.out]
              go_wp2_with fail
              refine (ileft_any S21.out.i).mono ?_
              rintro e w22 ⟨rfl, rfl⟩
              have eN : iLeft (some []) = 0 := rfl
              rw [eN]
              go_wp2_with fail
              refine (idone_any S21.out.i).mono ?_
              rintro e w23 ⟨rfl, h23, f23⟩
              have eI : (iDone (some [])).1 = 0 := rfl
              rw [eI]
              have S23 := Lib.hid (S21.out.byI h23 f23)
              clear h23 f23
              go_wp2
              go_ret
              exact ⟨rfl, S23.out.k⟩
            · have hle9 : r9.length ≤ x0.size := by rw [← bs_len, HP9.out, List.length_append]; omega
              obtain ⟨rl, hrl⟩ : ∃ rl, rl = r9.length := ⟨_, rfl⟩
              have eN : iLeft (some r9) = (rl : Int) := by rw [hrl]; rfl
              rw [← hrl] at HFs hr9 hle9
              have eX : x0.extract 0 (x0.size - rl) = A := HFs.out
              have eX2 : x0.extract 0 ((x0.size : Int) - (rl : Int)).toNat = A := by rw [← eX]; congr 1; omega
              have z1 : 0 ≤ (x0.size : Int) - (rl : Int) := by omega
              have z2 : (x0.size : Int) - (rl : Int) ≤ (x0.size : Int) := by omega
              have z3 : ((rl : Int) == 0) = false := by simp; omega
              clear hrl hA HFs
              go_wp2_with fail
              refine (odone_any HS9.out.o).mono ?_
              rintro e w21 ⟨rfl, hk21⟩
              have S21 := Lib.hid (HS9.out.kept hk21)
              clear hk21
              rw [eD]
              go_wp2_with fail
              refine (ileft_any S21.out.i).mono ?_
              rintro e w22 ⟨rfl, rfl⟩
              rw [eN]
              go_wp2_with fail
              refine (ileft_any S21.out.i).mono ?_
              rintro e w22 ⟨rfl, rfl⟩
              rw [eN]
              go_wp2_with fail
              go_roundw
              case rel => exact ⟨k + 1, p9, r9, by omega, by omega, by go_num, S21, HP9⟩
              case measure => simp [intOf]; omega
      · have hend : ((k : Int) < n ∧ ¬ (k : Int) < 100) ∨ ¬ (k : Int) < n := by omega
        rcases hend with ⟨g1, g2⟩ | g1
        all_goals
          go_wp2
          go_ret
          exact ⟨rfl, hs.out.k⟩

end Go.Proofs.Ytfbmlacklhiecaa
