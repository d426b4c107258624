/- Contracts and lemmas: R3 -/
import Derived.Test.YtbfealhbdemhmaaGreatDoorRa
namespace Go.Proofs.YtbfealhbdemhmaaGreatDoor
set_option linter.unusedVariables false
set_option linter.unusedSimpArgs false
open Go.RowKit Go.ChangeShapes Go.WideShapes
set_option maxRecDepth 20000
/-- what stands between two atoms -/
def sepA (j : Nat) (only : Bool) : List UInt8 := if j = 0 then [] else if only = true then [32, 97, 115, 32] else [32, 124, 32]
def sepL (k : Nat) : List UInt8 := if k = 0 then [] else [32, 97, 110, 100, 32]
theorem sayW_step {L : Nat → List ByteArray} {A : List Int} {j : Nat} {a : Int} {o : List UInt8} {only : Bool} (ha : A[j]? = some a) (h : sayW L true true A = (sayW L only (decide (j = 0)) (A.drop j)).map (o ++ ·)) (hne : sayA L a ≠ []) :
    sayW L true true A = (sayW L (only && (decide (j = 0) || decide (a / 8192 = 5))) (decide (j + 1 = 0)) (A.drop (j + 1))).map ((o ++ (sepA j (only && decide (a / 8192 = 5)) ++ sayA L a)) ++ ·) := by
  have hd : A.drop j = a :: A.drop (j + 1) := by
    obtain ⟨hj, rfl⟩ := List.getElem?_eq_some_iff.1 ha
    exact List.drop_eq_getElem_cons hj
  have e1 : decide (j + 1 = 0) = false := by simp
  rw [h, hd, sayW, if_neg hne, e1, Option.map_map]
  have e2 : ∀ x : List UInt8, ((fun y => o ++ y) ∘ fun y => (if decide (j = 0) = true then [] else if (only && decide (a / 8192 = 5)) = true then [32, 97, 115, 32] else [32, 124, 32]) ++ (sayA L a ++ y)) x = (o ++ (sepA j (only && decide (a / 8192 = 5)) ++ sayA L a)) ++ x := fun x => by
    unfold sepA
    by_cases hj : j = 0 <;> simp [hj, List.append_assoc]
  rw [funext e2]
theorem sayW_none {L : Nat → List ByteArray} {A : List Int} {j : Nat} {a : Int} {o : List UInt8} {only : Bool} (ha : A[j]? = some a) (h : sayW L true true A = (sayW L only (decide (j = 0)) (A.drop j)).map (o ++ ·)) (hne : sayA L a = []) : sayW L true true A = none := by
  have hd : A.drop j = a :: A.drop (j + 1) := by
    obtain ⟨hj, rfl⟩ := List.getElem?_eq_some_iff.1 ha
    exact List.drop_eq_getElem_cons hj
  rw [h, hd, sayW, if_pos hne]
  rfl
theorem sayW_end {L : Nat → List ByteArray} {A : List Int} {j : Nat} {o : List UInt8} {only : Bool} (hj : A.length ≤ j) (h : sayW L true true A = (sayW L only (decide (j = 0)) (A.drop j)).map (o ++ ·)) : sayW L true true A = some o := by
  rw [h, List.drop_eq_nil_of_le hj, sayW]
  simp
theorem sayL_step {L : Nat → List ByteArray} {s : List ByteArray} {k : Nat} {y : ByteArray} {o x : List UInt8} (hy : s[k]? = some y) (h : sayL L true s = (sayL L (decide (k = 0)) (s.drop k)).map (o ++ ·)) (hx : sayW L true true (atoms (bs y)) = some x) :
    sayL L true s = (sayL L (decide (k + 1 = 0)) (s.drop (k + 1))).map (((o ++ sepL k) ++ x) ++ ·) := by
  have hd : s.drop k = y :: s.drop (k + 1) := by
    obtain ⟨hj, rfl⟩ := List.getElem?_eq_some_iff.1 hy
    exact List.drop_eq_getElem_cons hj
  have e1 : decide (k + 1 = 0) = false := by simp
  rw [h, hd, sayL, hx, e1]
  simp only [Option.map_map]
  have e2 : ∀ z : List UInt8, ((fun v => o ++ v) ∘ fun v => (if decide (k = 0) = true then [] else [32, 97, 110, 100, 32]) ++ (x ++ v)) z = ((o ++ sepL k) ++ x) ++ z := fun z => by
    unfold sepL
    by_cases hk : k = 0 <;> simp [hk, List.append_assoc]
  rw [funext e2]
theorem sayL_none {L : Nat → List ByteArray} {s : List ByteArray} {k : Nat} {y : ByteArray} {o : List UInt8} (hy : s[k]? = some y) (h : sayL L true s = (sayL L (decide (k = 0)) (s.drop k)).map (o ++ ·)) (hx : sayW L true true (atoms (bs y)) = none) : sayL L true s = none := by
  have hd : s.drop k = y :: s.drop (k + 1) := by
    obtain ⟨hj, rfl⟩ := List.getElem?_eq_some_iff.1 hy
    exact List.drop_eq_getElem_cons hj
  rw [h, hd, sayL, hx]
  rfl
theorem sayL_end {L : Nat → List ByteArray} {s : List ByteArray} {k : Nat} {o : List UInt8} (hj : s.length ≤ k) (h : sayL L true s = (sayL L (decide (k = 0)) (s.drop k)).map (o ++ ·)) : sayL L true s = some o := by
  rw [h, List.drop_eq_nil_of_le hj, sayL]
  simp
theorem cat_say {P : Program} {x : List UInt8} {y : ByteArray} (z : List UInt8) (hz : bs y = z) (hx : x.length ≤ 1000000) (hy : y.size ≤ 1000000) : ∀ W, (Op.stringOp .add (strOf x) y).run P W = .ok (.string (strOf (x ++ z))) W := fun W => by
  have := run_string_add_sum (P := P) (w := W) (strOf x) y (by rw [strOf_size]; omega)
  rw [this] <;> congr 2 <;> exact bs_inj (by rw [bs_append, bs_strOf, bs_strOf, hz])
theorem cat_sayE {P : Program} {x : List UInt8} {y : ByteArray} (z : List UInt8) (hz : bs y = z) (hx : x.length ≤ 1000000) (hy : y.size ≤ 1000000) : ∃ q, Hid (q = x ++ z) ∧ ∀ W, (Op.stringOp .add (strOf x) y).run P W = .ok (.string (strOf q)) W := ⟨_, Lib.hid rfl, cat_say z hz hx hy⟩
def Show6Post (L : Nat → List ByteArray) (s : List ByteArray) (w : World) (e : Ending) (w' : World) : Prop :=
  e = .returned (.tuple #[.string (strOf (showL L s).1), .int .i64 (showL L s).2]) ∧ Kept w w'
theorem show6_of {L : Nat → List ByteArray} {s : List ByteArray} {w w' : World} {x : List UInt8} {q : Int} (h : showL L s = (x, q)) (hk : Kept w w') : Show6Post L s w (.returned (.tuple #[.string (strOf x), .int .i64 q])) w' := ⟨by rw [h], hk⟩
set_option maxHeartbeats 16000000 in
theorem rshow_any {w : World} {F : Nat → Prop} {B : Nat} {L : Nat → List ByteArray} (hT : Atm.RTab w F B L) (hG : TabL L) (hLs : ∀ a x, Atm.nameOf L a = some x → x.size ≤ 1000000) {G : Nat → Prop} {v : Value} {s : List ByteArray} (h : Reads w G v (wcells s)) (hl : s.length ≤ 100000) (hs : Small 100000 s) :
    Calls Tryz.prog 18 #[.pointer (some ⟨B, 0, none⟩), v] w (Show6Post L s w) := by
  have HR := Lib.hid h
  have HT := Lib.hid hT
  have HFEW := Lib.hid hG.few
  have HLS := Lib.hid hLs
  have HMY := Lib.hid (rmay_set (w := w) HR.out hl hs)
  obtain ⟨ao, c, rfl, hcc, hc⟩ := h
  have HC := Lib.hid hc
  have HWN : Hid ((wcells s).length = s.length) := Lib.hid (wcells_len s)
  clear hT hG hLs hc hl hs hcc
  by_cases hm : mayL s = true
  rotate_left
  · have hm' : mayL s = false := by simpa using hm
    have HX : Hid (showL L s = ([], 2)) := Lib.hid (by unfold showL; rw [if_pos hm'])
    generalize (wcells s).length = n at *
    go_enter Tryz.func18, Tryz.ntmps18
    go_wp2_with fail
    refine HMY.out.mono ?_
    rintro e w1 ⟨rfl, hk1⟩
    rw [hm']
    have HK := Lib.hid hk1
    clear hk1 hm hm'
    go_wp2
    go_ret2
    exact show6_of HX.out HK.out
  have HMI := Lib.hid (mayL_iff.1 hm)
  have HMT := Lib.hid hm
  have hn16 : s.length ≤ 16 := HMI.out.1.2
  generalize hn : (wcells s).length = n at *
  have HN : Hid (s.length = n) := Lib.hid (by rw [← HWN.out])
  have hnn : n ≤ 16 := by rw [← HN.out]; exact hn16
  clear hn hn16 HWN
  go_enter Tryz.func18, Tryz.ntmps18
  go_wp2_with fail
  refine HMY.out.mono ?_
  rintro e w1 ⟨rfl, hk1⟩
  rw [hm]
  have HK1 := Lib.hid hk1
  clear hk1 hm HMY
  go_wp2
  go_loopw [6, 7] (fun ov iv wr => ∃ (k : Nat) (out : List UInt8), ov = .string (strOf out) ∧ iv = .int .i64 k ∧ k ≤ n ∧ Hid (sayL L true s = (sayL L (decide (k = 0)) (s.drop k)).map (out ++ ·)) ∧ Hid (out.length ≤ k * 1000) ∧ Hid (Kept w wr)) (fun _ iv _ => n - (intOf iv).toNat)
  case atStart => exact ⟨0, [], rfl, rfl, by omega, Lib.hid (by simp), Lib.hid (by simp), HK1⟩
  case round =>
    obtain ⟨k, out, rfl, rfl, hk, hsay, hlen, hkp⟩ := hrel
    clear HK1
    by_cases hlt : k < n
    · have hlti : (k : Int) < n := by omega
      obtain ⟨y, hy⟩ : ∃ y, s[k]? = some y := ⟨_, List.getElem?_eq_getElem (by rw [HN.out]; exact hlt)⟩
      obtain ⟨g, off, rfl, _, hcell0⟩ := HC.out k _ (wcells_get hy)
      have hcell := hkp.out.cell hcell0 (fun x => x)
      have HY := Lib.hid hy
      have HMW := Lib.hid (mayS_size (HMI.out.2.1 y (List.mem_of_getElem? hy)))
      have HAN : Hid ((cellsOf (atoms (bs y))).length ≤ 8) := Lib.hid (by simp only [cellsOf, List.length_map, atoms_len, bs_len]; have := HMW.out.2.2.1; omega)
      have HAL : Hid ((cellsOf (atoms (bs y))).length = (atoms (bs y)).length) := Lib.hid (by simp [cellsOf])
      have HAT := Lib.hid (fun W => ratoms_any y W (by have := HMW.out.2.2.1; omega))
      clear hcell0 hy
      have hol : out.length ≤ 16000 := by have := hlen.out; omega
      by_cases hk0 : k = 0
      · subst hk0
        simp only [Nat.add_zero] at hcell
        have hpl := hol
        go_wp2_with fail
        refine (HAT.out _).mono ?_
        rintro e w2 ⟨v2, rfl, hrow, hk2⟩
        have HK2 := Lib.hid (hkp.out.trans hk2)
        obtain ⟨ar, cr, hvr, hcr, hxr⟩ := Reads.of_row hrow
        subst hvr
        have HXR := Lib.hid hxr
        clear hk2 hrow hxr hcell
        generalize hm8 : (cellsOf (atoms (bs y))).length = m at *
        have HM8 := Lib.hid hm8
        clear hm8
        have hm9 : m ≤ 8 := HAN.out
        go_wp2
        go_loopw [6, 9, 10] (fun ov nv jv wr => ∃ (j : Nat) (q o : List UInt8) (only : Bool), ov = .string (strOf q) ∧ nv = .bool only ∧ jv = .int .i64 j ∧ j ≤ m ∧ (j = 0 → only = true) ∧ Hid (sayW L true true (atoms (bs y)) = (sayW L only (decide (j = 0)) ((atoms (bs y)).drop j)).map (o ++ ·)) ∧ Hid (o.length ≤ j * 44) ∧ Hid (q = out ++ o) ∧ Hid (Kept w2 wr)) (fun _ _ jv _ => m - (intOf jv).toNat)
        case atStart => exact ⟨0, out, [], true, rfl, rfl, rfl, by omega, fun _ => rfl, Lib.hid (by simp), Lib.hid (by simp), Lib.hid (by simp), Lib.hid (Fr.refl _ _)⟩
        case round =>
          obtain ⟨j, q, o, only, rfl, rfl, rfl, hj, hj0, hsw, hlo, hqo, hkr⟩ := hrel
          have HKW := Lib.hid (HK2.out.trans hkr.out)
          by_cases hltj : j < m
          · have hltji : (j : Int) < m := by omega
            obtain ⟨a, ha⟩ : ∃ a, (atoms (bs y))[j]? = some a := ⟨_, List.getElem?_eq_getElem (by rw [← HAL.out]; exact hltj)⟩
            obtain ⟨gr, offr, rfl, _, hca0⟩ := HXR.out j _ (cells_get ha)
            have HA := Lib.hid ha
            have hrange : 0 ≤ a ∧ a ≤ 65535 := by rw [← atS_get ha]; exact atS_good _ _
            have c1 := hkr.out.cell hca0 (fun x => x)
            clear ha hca0
            obtain ⟨nm, bl, wd, hv, hsa, hwl, hwd⟩ : ∃ (nm : ByteArray) (bl : Bool) (wd : List UInt8), Atm.nameV (Atm.nameOf L a) = .tuple #[.string nm, .bool bl] ∧ sayA L a = wd ∧ wd.length ≤ 40 ∧ ∀ W, Calls Tryz.prog 41 #[.agg #[.int .i64 1, .string nm, .int .i64 (a / 8192), .int .i64 0]] W (KeptPost (.string (strOf wd)) W) :=
              ⟨_, _, _, rfl, rfl, word_len _, fun W => rword_any 1 _ _ _ W (by
                cases hno : Atm.nameOf L a with
                | none => exact Nat.zero_le _
                | some x => exact HLS.out a x hno)⟩
            have HNM := Lib.hid (Atm.rname_any (HT.out.later HKW.out) HFEW.out a hrange.1 hrange.2)
            rw [hv] at HNM
            have HKD := Lib.hid (fun W => Atm.rkind_any a W hrange.1 hrange.2)
            have HWD := Lib.hid hwd
            have HSA := Lib.hid hsa
            have hol2 : q.length ≤ 20000 := by rw [hqo.out]; have := hlo.out; have := hpl; simp; omega
            clear hv hsa hwd
            by_cases hw : wd = []
            · have HX : Hid (showL L s = ([], 10)) := Lib.hid (by unfold showL; rw [if_neg (by rw [HMT.out]; decide), sayL_none HY.out hsay.out (sayW_none HA.out hsw.out (by rw [HSA.out, hw]))])
              have hE : (strOf wd).toList = [] := by rw [bs_toList, bs_strOf]; exact hw
              clear hw
              generalize a / 8192 = kd at *
              by_cases hjz : j = 0
              · subst hjz
                simp only [Nat.add_zero] at c1
                go_wp2_with fail
                refine HNM.out.mono ?_
                rintro e w3 ⟨rfl, rfl⟩
                go_wp2_with fail
                refine (HKD.out _).mono ?_
                rintro e w3 ⟨rfl, rfl⟩
                go_wp2_with fail
                refine (HWD.out _).mono ?_
                rintro e w4 ⟨rfl, hk4⟩
                have HK4 := Lib.hid (HKW.out.trans hk4)
                clear hk4 c1
                go_wp2
                go_ret2
                exact show6_of HX.out HK4.out
              · go_wp2_with fail
                refine HNM.out.mono ?_
                rintro e w3 ⟨rfl, rfl⟩
                go_wp2_with fail
                refine (HKD.out _).mono ?_
                rintro e w3 ⟨rfl, rfl⟩
                go_wp2_with fail
                refine (HWD.out _).mono ?_
                rintro e w4 ⟨rfl, hk4⟩
                have HK4 := Lib.hid (HKW.out.trans hk4)
                clear hk4 c1
                go_wp2
                go_ret2
                exact show6_of HX.out HK4.out
            · have hE : ¬ (strOf wd).toList = [] := by rw [bs_toList, bs_strOf]; exact hw
              have hE2 : (strOf wd).toList.isEmpty = false := by rw [bs_toList, bs_strOf]; simpa using hw
              have HSW := Lib.hid (sayW_step HA.out hsw.out (by rw [HSA.out]; exact hw))
              rw [HSA.out] at HSW
              clear hw hsw
              by_cases hjz : j = 0
              · subst hjz
                have honly := hj0 rfl
                subst honly
                clear hj0
                have HS2 : Hid (sayW L true true (atoms (bs y)) = (sayW L true false ((atoms (bs y)).drop 1)).map ((o ++ ([] ++ wd)) ++ ·)) := Lib.hid (by have := HSW.out; simpa [sepA] using this)
                simp only [Nat.add_zero] at c1
                obtain ⟨q3, HQ3, hcat1⟩ := cat_sayE (P := Tryz.prog) (x := q) (y := strOf wd) wd (bs_strOf _) (by omega) (by rw [strOf_size]; omega)
                have HQ : Hid (q3 = out ++ (o ++ ([] ++ wd))) := Lib.hid (by rw [HQ3.out, hqo.out]; simp)
                clear HSW
                generalize a / 8192 = kd at *
                go_wp2_with fail
                refine HNM.out.mono ?_
                rintro e w3 ⟨rfl, rfl⟩
                go_wp2_with fail
                refine (HKD.out _).mono ?_
                rintro e w3 ⟨rfl, rfl⟩
                go_wp2_with fail
                refine (HWD.out _).mono ?_
                rintro e w4 ⟨rfl, hk4⟩
                have HK4 := Lib.hid (hkr.out.trans hk4)
                have c2 := hk4.cell c1 (fun x => x)
                clear hk4 c1
                go_wp2
                exact ⟨⟨1, q3, o ++ (([] : List UInt8) ++ wd), true, rfl, rfl, by go_num, by omega, fun h => by first | rfl | omega, Lib.hid (by have := HS2.out; simpa using this), Lib.hid (by have := hlo.out; simp; omega), HQ, HK4⟩, by simp [intOf]; omega⟩
              · have hjp : (0 : Int) < j := by omega
                have hjz2 : ¬ (j : Int) = 0 := by omega
                have hjz3 : ((j : Int) == 0) = false := by simp; omega
                clear hj0
                cases only
                · have HS2 : Hid (sayW L true true (atoms (bs y)) = (sayW L false false ((atoms (bs y)).drop (j + 1))).map ((o ++ ([32, 124, 32] ++ wd)) ++ ·)) := Lib.hid (by have := HSW.out; simpa [sepA, hjz] using this)
                  obtain ⟨q2, HQ2, hcat2⟩ := cat_sayE (P := Tryz.prog) (x := q) (y := ⟨#[32, 124, 32]⟩) [32, 124, 32] rfl (by omega) (by decide)
                  obtain ⟨q3, HQ3, hcat1⟩ := cat_sayE (P := Tryz.prog) (x := q2) (y := strOf wd) wd (bs_strOf _) (by rw [HQ2.out]; simp; omega) (by rw [strOf_size]; omega)
                  have HQ : Hid (q3 = out ++ (o ++ ([32, 124, 32] ++ wd))) := Lib.hid (by rw [HQ3.out, HQ2.out, hqo.out]; simp)
                  clear HSW
                  clear hjz
                  generalize a / 8192 = kd at *
                  go_wp2_with fail
                  refine HNM.out.mono ?_
                  rintro e w3 ⟨rfl, rfl⟩
                  go_wp2_with fail
                  refine (HKD.out _).mono ?_
                  rintro e w3 ⟨rfl, rfl⟩
                  go_wp2_with fail
                  refine (HWD.out _).mono ?_
                  rintro e w4 ⟨rfl, hk4⟩
                  have HK4 := Lib.hid (hkr.out.trans hk4)
                  have c2 := hk4.cell c1 (fun x => x)
                  clear hk4 c1
                  go_wp2
                  exact ⟨⟨j + 1, q3, o ++ ([32, 124, 32] ++ wd), false, rfl, rfl, by go_num, by omega, fun h => by first | rfl | omega, Lib.hid (by have := HS2.out; simpa using this), Lib.hid (by have := hlo.out; simp; omega), HQ, HK4⟩, by simp [intOf]; omega⟩
                · by_cases hkd : a / 8192 = 5
                  · have HS2 : Hid (sayW L true true (atoms (bs y)) = (sayW L true false ((atoms (bs y)).drop (j + 1))).map ((o ++ ([32, 97, 115, 32] ++ wd)) ++ ·)) := Lib.hid (by have := HSW.out; simpa [sepA, hjz, hkd] using this)
                    obtain ⟨q2, HQ2, hcat2⟩ := cat_sayE (P := Tryz.prog) (x := q) (y := ⟨#[32, 97, 115, 32]⟩) [32, 97, 115, 32] rfl (by omega) (by decide)
                    obtain ⟨q3, HQ3, hcat1⟩ := cat_sayE (P := Tryz.prog) (x := q2) (y := strOf wd) wd (bs_strOf _) (by rw [HQ2.out]; simp; omega) (by rw [strOf_size]; omega)
                    have HQ : Hid (q3 = out ++ (o ++ ([32, 97, 115, 32] ++ wd))) := Lib.hid (by rw [HQ3.out, HQ2.out, hqo.out]; simp)
                    clear HSW
                    have hk5 : (a / 8192 == 5) = true := by simp [hkd]
                    clear hjz hkd
                    generalize a / 8192 = kd at *
                    go_wp2_with fail
                    refine HNM.out.mono ?_
                    rintro e w3 ⟨rfl, rfl⟩
                    go_wp2_with fail
                    refine (HKD.out _).mono ?_
                    rintro e w3 ⟨rfl, rfl⟩
                    go_wp2_with fail
                    refine (HWD.out _).mono ?_
                    rintro e w4 ⟨rfl, hk4⟩
                    have HK4 := Lib.hid (hkr.out.trans hk4)
                    have c2 := hk4.cell c1 (fun x => x)
                    clear hk4 c1
                    go_wp2_with fail
                    refine (HKD.out _).mono ?_
                    rintro e w5 ⟨rfl, rfl⟩
                    go_wp2
                    exact ⟨⟨j + 1, q3, o ++ ([32, 97, 115, 32] ++ wd), true, rfl, rfl, by go_num, by omega, fun h => by first | rfl | omega, Lib.hid (by have := HS2.out; simpa using this), Lib.hid (by have := hlo.out; simp; omega), HQ, HK4⟩, by simp [intOf]; omega⟩
                  · have HS2 : Hid (sayW L true true (atoms (bs y)) = (sayW L false false ((atoms (bs y)).drop (j + 1))).map ((o ++ ([32, 124, 32] ++ wd)) ++ ·)) := Lib.hid (by have := HSW.out; simpa [sepA, hjz, hkd] using this)
                    obtain ⟨q2, HQ2, hcat2⟩ := cat_sayE (P := Tryz.prog) (x := q) (y := ⟨#[32, 124, 32]⟩) [32, 124, 32] rfl (by omega) (by decide)
                    obtain ⟨q3, HQ3, hcat1⟩ := cat_sayE (P := Tryz.prog) (x := q2) (y := strOf wd) wd (bs_strOf _) (by rw [HQ2.out]; simp; omega) (by rw [strOf_size]; omega)
                    have HQ : Hid (q3 = out ++ (o ++ ([32, 124, 32] ++ wd))) := Lib.hid (by rw [HQ3.out, HQ2.out, hqo.out]; simp)
                    clear HSW
                    have hk5 : (a / 8192 == 5) = false := by simp [hkd]
                    clear hjz hkd
                    generalize a / 8192 = kd at *
                    go_wp2_with fail
                    refine HNM.out.mono ?_
                    rintro e w3 ⟨rfl, rfl⟩
                    go_wp2_with fail
                    refine (HKD.out _).mono ?_
                    rintro e w3 ⟨rfl, rfl⟩
                    go_wp2_with fail
                    refine (HWD.out _).mono ?_
                    rintro e w4 ⟨rfl, hk4⟩
                    have HK4 := Lib.hid (hkr.out.trans hk4)
                    have c2 := hk4.cell c1 (fun x => x)
                    clear hk4 c1
                    go_wp2_with fail
                    refine (HKD.out _).mono ?_
                    rintro e w5 ⟨rfl, rfl⟩
                    go_wp2
                    exact ⟨⟨j + 1, q3, o ++ ([32, 124, 32] ++ wd), false, rfl, rfl, by go_num, by omega, fun h => by first | rfl | omega, Lib.hid (by have := HS2.out; simpa using this), Lib.hid (by have := hlo.out; simp; omega), HQ, HK4⟩, by simp [intOf]; omega⟩
          · have hltji : ¬ (j : Int) < m := by omega
            have HE := Lib.hid (sayW_end (by rw [← HAL.out]; omega) hsw.out)
            have HST := Lib.hid (sayL_step HY.out hsay.out HE.out)
            go_wp2
            exact ⟨⟨1, q, rfl, by first | rfl | go_num, by omega, Lib.hid (by have := HST.out; rw [hqo.out]; simpa [sepL] using this), Lib.hid (by rw [hqo.out]; have := hlen.out; have := hlo.out; simp; omega), HKW⟩, by simp [intOf]; omega⟩
      · have hkp0 : (0 : Int) < k := by omega
        obtain ⟨pre, HPRE, hcat⟩ := cat_sayE (P := Tryz.prog) (x := out) (y := ⟨#[32, 97, 110, 100, 32]⟩) [32, 97, 110, 100, 32] rfl (by omega) (by decide)
        have hpl : pre.length ≤ 16005 := by rw [HPRE.out]; simp; omega
        go_wp2_with fail
        refine (HAT.out _).mono ?_
        rintro e w2 ⟨v2, rfl, hrow, hk2⟩
        have HK2 := Lib.hid (hkp.out.trans hk2)
        obtain ⟨ar, cr, hvr, hcr, hxr⟩ := Reads.of_row hrow
        subst hvr
        have HXR := Lib.hid hxr
        clear hk2 hrow hxr hcell
        generalize hm8 : (cellsOf (atoms (bs y))).length = m at *
        have HM8 := Lib.hid hm8
        clear hm8
        have hm9 : m ≤ 8 := HAN.out
        go_wp2
        go_loopw [6, 9, 10] (fun ov nv jv wr => ∃ (j : Nat) (q o : List UInt8) (only : Bool), ov = .string (strOf q) ∧ nv = .bool only ∧ jv = .int .i64 j ∧ j ≤ m ∧ (j = 0 → only = true) ∧ Hid (sayW L true true (atoms (bs y)) = (sayW L only (decide (j = 0)) ((atoms (bs y)).drop j)).map (o ++ ·)) ∧ Hid (o.length ≤ j * 44) ∧ Hid (q = pre ++ o) ∧ Hid (Kept w2 wr)) (fun _ _ jv _ => m - (intOf jv).toNat)
        case atStart => exact ⟨0, pre, [], true, rfl, rfl, rfl, by omega, fun _ => rfl, Lib.hid (by simp), Lib.hid (by simp), Lib.hid (by simp), Lib.hid (Fr.refl _ _)⟩
        case round =>
          obtain ⟨j, q, o, only, rfl, rfl, rfl, hj, hj0, hsw, hlo, hqo, hkr⟩ := hrel
          have HKW := Lib.hid (HK2.out.trans hkr.out)
          by_cases hltj : j < m
          · have hltji : (j : Int) < m := by omega
            obtain ⟨a, ha⟩ : ∃ a, (atoms (bs y))[j]? = some a := ⟨_, List.getElem?_eq_getElem (by rw [← HAL.out]; exact hltj)⟩
            obtain ⟨gr, offr, rfl, _, hca0⟩ := HXR.out j _ (cells_get ha)
            have HA := Lib.hid ha
            have hrange : 0 ≤ a ∧ a ≤ 65535 := by rw [← atS_get ha]; exact atS_good _ _
            have c1 := hkr.out.cell hca0 (fun x => x)
            clear ha hca0
            obtain ⟨nm, bl, wd, hv, hsa, hwl, hwd⟩ : ∃ (nm : ByteArray) (bl : Bool) (wd : List UInt8), Atm.nameV (Atm.nameOf L a) = .tuple #[.string nm, .bool bl] ∧ sayA L a = wd ∧ wd.length ≤ 40 ∧ ∀ W, Calls Tryz.prog 41 #[.agg #[.int .i64 1, .string nm, .int .i64 (a / 8192), .int .i64 0]] W (KeptPost (.string (strOf wd)) W) :=
              ⟨_, _, _, rfl, rfl, word_len _, fun W => rword_any 1 _ _ _ W (by
                cases hno : Atm.nameOf L a with
                | none => exact Nat.zero_le _
                | some x => exact HLS.out a x hno)⟩
            have HNM := Lib.hid (Atm.rname_any (HT.out.later HKW.out) HFEW.out a hrange.1 hrange.2)
            rw [hv] at HNM
            have HKD := Lib.hid (fun W => Atm.rkind_any a W hrange.1 hrange.2)
            have HWD := Lib.hid hwd
            have HSA := Lib.hid hsa
            have hol2 : q.length ≤ 20000 := by rw [hqo.out]; have := hlo.out; have := hpl; simp; omega
            clear hv hsa hwd
            by_cases hw : wd = []
            · have HX : Hid (showL L s = ([], 10)) := Lib.hid (by unfold showL; rw [if_neg (by rw [HMT.out]; decide), sayL_none HY.out hsay.out (sayW_none HA.out hsw.out (by rw [HSA.out, hw]))])
              have hE : (strOf wd).toList = [] := by rw [bs_toList, bs_strOf]; exact hw
              clear hw
              generalize a / 8192 = kd at *
              by_cases hjz : j = 0
              · subst hjz
                simp only [Nat.add_zero] at c1
                go_wp2_with fail
                refine HNM.out.mono ?_
                rintro e w3 ⟨rfl, rfl⟩
                go_wp2_with fail
                refine (HKD.out _).mono ?_
                rintro e w3 ⟨rfl, rfl⟩
                go_wp2_with fail
                refine (HWD.out _).mono ?_
                rintro e w4 ⟨rfl, hk4⟩
                have HK4 := Lib.hid (HKW.out.trans hk4)
                clear hk4 c1
                go_wp2
                go_ret2
                exact show6_of HX.out HK4.out
              · go_wp2_with fail
                refine HNM.out.mono ?_
                rintro e w3 ⟨rfl, rfl⟩
                go_wp2_with fail
                refine (HKD.out _).mono ?_
                rintro e w3 ⟨rfl, rfl⟩
                go_wp2_with fail
                refine (HWD.out _).mono ?_
                rintro e w4 ⟨rfl, hk4⟩
                have HK4 := Lib.hid (HKW.out.trans hk4)
                clear hk4 c1
                go_wp2
                go_ret2
                exact show6_of HX.out HK4.out
            · have hE : ¬ (strOf wd).toList = [] := by rw [bs_toList, bs_strOf]; exact hw
              have hE2 : (strOf wd).toList.isEmpty = false := by rw [bs_toList, bs_strOf]; simpa using hw
              have HSW := Lib.hid (sayW_step HA.out hsw.out (by rw [HSA.out]; exact hw))
              rw [HSA.out] at HSW
              clear hw hsw
              by_cases hjz : j = 0
              · subst hjz
                have honly := hj0 rfl
                subst honly
                clear hj0
                have HS2 : Hid (sayW L true true (atoms (bs y)) = (sayW L true false ((atoms (bs y)).drop 1)).map ((o ++ ([] ++ wd)) ++ ·)) := Lib.hid (by have := HSW.out; simpa [sepA] using this)
                simp only [Nat.add_zero] at c1
                obtain ⟨q3, HQ3, hcat1⟩ := cat_sayE (P := Tryz.prog) (x := q) (y := strOf wd) wd (bs_strOf _) (by omega) (by rw [strOf_size]; omega)
                have HQ : Hid (q3 = pre ++ (o ++ ([] ++ wd))) := Lib.hid (by rw [HQ3.out, hqo.out]; simp)
                clear HSW
                generalize a / 8192 = kd at *
                go_wp2_with fail
                refine HNM.out.mono ?_
                rintro e w3 ⟨rfl, rfl⟩
                go_wp2_with fail
                refine (HKD.out _).mono ?_
                rintro e w3 ⟨rfl, rfl⟩
                go_wp2_with fail
                refine (HWD.out _).mono ?_
                rintro e w4 ⟨rfl, hk4⟩
                have HK4 := Lib.hid (hkr.out.trans hk4)
                have c2 := hk4.cell c1 (fun x => x)
                clear hk4 c1
                go_wp2
                exact ⟨⟨1, q3, o ++ (([] : List UInt8) ++ wd), true, rfl, rfl, by go_num, by omega, fun h => by first | rfl | omega, Lib.hid (by have := HS2.out; simpa using this), Lib.hid (by have := hlo.out; simp; omega), HQ, HK4⟩, by simp [intOf]; omega⟩
              · have hjp : (0 : Int) < j := by omega
                have hjz2 : ¬ (j : Int) = 0 := by omega
                have hjz3 : ((j : Int) == 0) = false := by simp; omega
                clear hj0
                cases only
                · have HS2 : Hid (sayW L true true (atoms (bs y)) = (sayW L false false ((atoms (bs y)).drop (j + 1))).map ((o ++ ([32, 124, 32] ++ wd)) ++ ·)) := Lib.hid (by have := HSW.out; simpa [sepA, hjz] using this)
                  obtain ⟨q2, HQ2, hcat2⟩ := cat_sayE (P := Tryz.prog) (x := q) (y := ⟨#[32, 124, 32]⟩) [32, 124, 32] rfl (by omega) (by decide)
                  obtain ⟨q3, HQ3, hcat1⟩ := cat_sayE (P := Tryz.prog) (x := q2) (y := strOf wd) wd (bs_strOf _) (by rw [HQ2.out]; simp; omega) (by rw [strOf_size]; omega)
                  have HQ : Hid (q3 = pre ++ (o ++ ([32, 124, 32] ++ wd))) := Lib.hid (by rw [HQ3.out, HQ2.out, hqo.out]; simp)
                  clear HSW
                  clear hjz
                  generalize a / 8192 = kd at *
                  go_wp2_with fail
                  refine HNM.out.mono ?_
                  rintro e w3 ⟨rfl, rfl⟩
                  go_wp2_with fail
                  refine (HKD.out _).mono ?_
                  rintro e w3 ⟨rfl, rfl⟩
                  go_wp2_with fail
                  refine (HWD.out _).mono ?_
                  rintro e w4 ⟨rfl, hk4⟩
                  have HK4 := Lib.hid (hkr.out.trans hk4)
                  have c2 := hk4.cell c1 (fun x => x)
                  clear hk4 c1
                  go_wp2
                  exact ⟨⟨j + 1, q3, o ++ ([32, 124, 32] ++ wd), false, rfl, rfl, by go_num, by omega, fun h => by first | rfl | omega, Lib.hid (by have := HS2.out; simpa using this), Lib.hid (by have := hlo.out; simp; omega), HQ, HK4⟩, by simp [intOf]; omega⟩
                · by_cases hkd : a / 8192 = 5
                  · have HS2 : Hid (sayW L true true (atoms (bs y)) = (sayW L true false ((atoms (bs y)).drop (j + 1))).map ((o ++ ([32, 97, 115, 32] ++ wd)) ++ ·)) := Lib.hid (by have := HSW.out; simpa [sepA, hjz, hkd] using this)
                    obtain ⟨q2, HQ2, hcat2⟩ := cat_sayE (P := Tryz.prog) (x := q) (y := ⟨#[32, 97, 115, 32]⟩) [32, 97, 115, 32] rfl (by omega) (by decide)
                    obtain ⟨q3, HQ3, hcat1⟩ := cat_sayE (P := Tryz.prog) (x := q2) (y := strOf wd) wd (bs_strOf _) (by rw [HQ2.out]; simp; omega) (by rw [strOf_size]; omega)
                    have HQ : Hid (q3 = pre ++ (o ++ ([32, 97, 115, 32] ++ wd))) := Lib.hid (by rw [HQ3.out, HQ2.out, hqo.out]; simp)
                    clear HSW
                    have hk5 : (a / 8192 == 5) = true := by simp [hkd]
                    clear hjz hkd
                    generalize a / 8192 = kd at *
                    go_wp2_with fail
                    refine HNM.out.mono ?_
                    rintro e w3 ⟨rfl, rfl⟩
                    go_wp2_with fail
                    refine (HKD.out _).mono ?_
                    rintro e w3 ⟨rfl, rfl⟩
                    go_wp2_with fail
                    refine (HWD.out _).mono ?_
                    rintro e w4 ⟨rfl, hk4⟩
                    have HK4 := Lib.hid (hkr.out.trans hk4)
                    have c2 := hk4.cell c1 (fun x => x)
                    clear hk4 c1
                    go_wp2_with fail
                    refine (HKD.out _).mono ?_
                    rintro e w5 ⟨rfl, rfl⟩
                    go_wp2
                    exact ⟨⟨j + 1, q3, o ++ ([32, 97, 115, 32] ++ wd), true, rfl, rfl, by go_num, by omega, fun h => by first | rfl | omega, Lib.hid (by have := HS2.out; simpa using this), Lib.hid (by have := hlo.out; simp; omega), HQ, HK4⟩, by simp [intOf]; omega⟩
                  · have HS2 : Hid (sayW L true true (atoms (bs y)) = (sayW L false false ((atoms (bs y)).drop (j + 1))).map ((o ++ ([32, 124, 32] ++ wd)) ++ ·)) := Lib.hid (by have := HSW.out; simpa [sepA, hjz, hkd] using this)
                    obtain ⟨q2, HQ2, hcat2⟩ := cat_sayE (P := Tryz.prog) (x := q) (y := ⟨#[32, 124, 32]⟩) [32, 124, 32] rfl (by omega) (by decide)
                    obtain ⟨q3, HQ3, hcat1⟩ := cat_sayE (P := Tryz.prog) (x := q2) (y := strOf wd) wd (bs_strOf _) (by rw [HQ2.out]; simp; omega) (by rw [strOf_size]; omega)
                    have HQ : Hid (q3 = pre ++ (o ++ ([32, 124, 32] ++ wd))) := Lib.hid (by rw [HQ3.out, HQ2.out, hqo.out]; simp)
                    clear HSW
                    have hk5 : (a / 8192 == 5) = false := by simp [hkd]
                    clear hjz hkd
                    generalize a / 8192 = kd at *
                    go_wp2_with fail
                    refine HNM.out.mono ?_
                    rintro e w3 ⟨rfl, rfl⟩
                    go_wp2_with fail
                    refine (HKD.out _).mono ?_
                    rintro e w3 ⟨rfl, rfl⟩
                    go_wp2_with fail
                    refine (HWD.out _).mono ?_
                    rintro e w4 ⟨rfl, hk4⟩
                    have HK4 := Lib.hid (hkr.out.trans hk4)
                    have c2 := hk4.cell c1 (fun x => x)
                    clear hk4 c1
                    go_wp2_with fail
                    refine (HKD.out _).mono ?_
                    rintro e w5 ⟨rfl, rfl⟩
                    go_wp2
                    exact ⟨⟨j + 1, q3, o ++ ([32, 124, 32] ++ wd), false, rfl, rfl, by go_num, by omega, fun h => by first | rfl | omega, Lib.hid (by have := HS2.out; simpa using this), Lib.hid (by have := hlo.out; simp; omega), HQ, HK4⟩, by simp [intOf]; omega⟩
          · have hltji : ¬ (j : Int) < m := by omega
            have HE := Lib.hid (sayW_end (by rw [← HAL.out]; omega) hsw.out)
            have HST := Lib.hid (sayL_step HY.out hsay.out HE.out)
            go_wp2
            exact ⟨⟨k + 1, q, rfl, by first | rfl | go_num, by omega, Lib.hid (by have := HST.out; rw [hqo.out, HPRE.out]; simpa [sepL, hk0] using this), Lib.hid (by rw [hqo.out, HPRE.out]; have := hlen.out; have := hlo.out; simp; omega), HKW⟩, by simp [intOf]; omega⟩
    · have hlti : ¬ (k : Int) < n := by omega
      have HX : Hid (showL L s = (out, 0)) := Lib.hid (by unfold showL; rw [if_neg (by rw [HMT.out]; decide), sayL_end (by rw [HN.out]; omega) hsay.out])
      clear hsay
      go_wp2
      go_ret2
      exact show6_of HX.out hkp.out

end Go.Proofs.YtbfealhbdemhmaaGreatDoor
