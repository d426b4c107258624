/- Contracts and lemmas: Blanks -/
import Derived.Test.YthceckpeccbpiaaDoorBack
import Derived.Laws.Concat
namespace Go.Proofs.YthceckpeccbpiaaDoor
set_option linter.unusedVariables false
set_option linter.unusedSimpArgs false
open Go.RowKit Go.ChangeShapes Go.WideShapes
/-- what is laid between -/
def blankL (j : Nat) : List UInt8 := if j = 0 then [32] else if j = 1 then [10] else if j = 2 then [9, 32] else if j = 3 then [32, 35, 32, 97, 110, 100, 32, 40, 10] else if j = 4 then [32, 32] else [35, 10]
theorem blank_ok {j : Nat} (h : j < 6) : OkB (blankL j) ∧ (blankL j).length ≤ 9 := by
  have hc : j = 0 ∨ j = 1 ∨ j = 2 ∨ j = 3 ∨ j = 4 ∨ j = 5 := by omega
  rcases hc with rfl | rfl | rfl | rfl | rfl | rfl <;> exact ⟨⟨by decide, by decide, by decide⟩, by decide⟩
theorem six_cell (w : World) {j : Nat} (h : j < 6) : (w.alloc (Obj.cells #[.string ⟨#[32]⟩, .string ⟨#[10]⟩, .string ⟨#[9, 32]⟩, .string ⟨#[32, 35, 32, 97, 110, 100, 32, 40, 10]⟩, .string ⟨#[32, 32]⟩, .string ⟨#[35, 10]⟩] 9)).cell? ⟨w.heap.size, j, none⟩ = some (.string (strOf (blankL j))) := by
  rw [cell_whole (heap_alloc_new w _)]
  have hc : j = 0 ∨ j = 1 ∨ j = 2 ∨ j = 3 ∨ j = 4 ∨ j = 5 := by omega
  rcases hc with rfl | rfl | rfl | rfl | rfl | rfl <;> rfl
theorem flat_snoc (ps : List (Tok × List UInt8)) (t : Tok) (b : List UInt8) : flatB (ps ++ [(t, b)]) = (flatB ps ++ wordS t) ++ b := by
  unfold flatB
  rw [List.flatMap_append]
  simp
/-- the text, on the way -/
def FlatTo (l : List TokB) (k : Nat) (ps : List (Tok × List UInt8)) : Prop := ps.map (·.1) = (l.map TokB.tok).take k ∧ (∀ x ∈ ps, wordS x.1 ≠ [] ∧ OkB x.2) ∧ (flatB ps).length ≤ k * 49
theorem FlatTo.step {l : List TokB} {k : Nat} {ps : List (Tok × List UInt8)} {t : TokB} {b : List UInt8} (h : FlatTo l k ps) (ht : l[k]? = some t) (hb : OkB b) (hb9 : b.length ≤ 9) (hw : wordS t.tok ≠ []) : FlatTo l (k + 1) (ps ++ [(t.tok, b)]) := by
  obtain ⟨h1, h2, h3⟩ := h
  refine ⟨?_, ?_, ?_⟩
  · rw [List.map_append, h1, List.take_add_one, List.getElem?_map, ht]
    rfl
  · intro x hx
    rcases List.mem_append.1 hx with hx | hx
    · exact h2 x hx
    · rw [List.mem_singleton] at hx; subst hx; exact ⟨hw, hb⟩
  · rw [flat_snoc, List.length_append, List.length_append]
    have := word_len t.tok
    omega
set_option maxHeartbeats 4000000 in
theorem tokenBlanks_walk {w : World} (v : Value) (hv : TokList w v) (vb : Value) (hvb : ByteList w vb) (hL : LaidT w) :
    Calls Tryd.prog 6 #[v, vb] w fun e w' => e = .returned (.bool true) ∧ Kept w w' := by
  obtain ⟨l, hr, hlm, hnm⟩ := hv
  obtain ⟨bl, ⟨bo, cb, rfl, hcb, hbx⟩, hbd, hbm⟩ := hvb
  rw [List.length_map] at hcb ⊢
  have HL := Lib.hid hL
  have HR := Lib.hid hr
  have HCB := Lib.hid hbx
  have HBD := Lib.hid hbd
  clear hL hr hnm hbx hbd
  generalize hnb : bl.length = nb at *
  have HNB := Lib.hid hnb
  clear hnb
  cases hlg : largeT l
  · have hno := large_no hlg
    have HNM : Hid (∀ t ∈ l, t.name.size ≤ 100) := Lib.hid hno.2
    clear hno
    obtain ⟨ao, c, rfl, hc, hcells⟩ := HR.out
    have HLGC : Hid (∀ W, ReadsT W (.slice ao l.length c) l → Calls Tryd.prog 13 #[.slice ao l.length c] W fun e w' => e = .returned (.bool false) ∧ W = w') := Lib.hid (fun W h => by rw [← hlg]; exact klarge_any h (by unfold maxLen at hlm; omega))
    by_cases h3 : 300 < l.length
    · have h3i : (300 : Int) < (l.length : Int) := by omega
      clear hcells
      go_enter Tryd.func6, Tryd.ntmps6
      go_wp2_with fail
      refine (kawake_any _ HL.out).mono ?_
      rintro e w1 ⟨rfl, hk1⟩
      have HK1 := Lib.hid hk1
      have HR1 := Lib.hid (HR.out.kept hk1)
      clear hk1
      go_wp2_with (go_at_call 13; refine (HLGC.out _ HR1.out).mono ?_; rintro e w' ⟨rfl, rfl⟩)
      go_ret
      exact ⟨rfl, HK1.out⟩
    · have h3i : ¬ (300 : Int) < (l.length : Int) := by omega
      have h300 : l.length ≤ 300 := by omega
      clear h3 hcells
      go_enter Tryd.func6, Tryd.ntmps6
      go_wp2_with fail
      refine (kawake_any _ HL.out).mono ?_
      rintro e w1 ⟨rfl, hk1⟩
      have HK1 := Lib.hid hk1
      have HR1 := Lib.hid (HR.out.kept hk1)
      clear hk1
      obtain ⟨ao', c', he, _, hcells⟩ := HR1.out
      cases he
      have HCE := Lib.hid hcells
      clear hcells
      have H0 : Hid (Kept w1 w1) := Lib.hid (Fr.refl _ _)
      have HF0 : Hid (FlatTo l 0 []) := Lib.hid ⟨rfl, fun x hx => absurd hx (by simp), by decide⟩
      have HKB : Hid (Kept w w1) := HK1
      generalize hn : l.length = n at *
      have HN := Lib.hid hn
      clear hn
      go_wp2_with (go_at_call 13; refine (HLGC.out _ HR1.out).mono ?_; rintro e w' ⟨rfl, rfl⟩)
      go_loopw [5, 26] (fun sv i wr => ∃ (k : Nat) (ps : List (Tok × List UInt8)), i = .int .i64 k ∧ sv = .string (strOf (flatB ps)) ∧ k ≤ n ∧ Hid (Kept w1 wr) ∧ Hid (FlatTo l k ps)) (fun _ i _ => n - (intOf i).toNat)
      case atStart => exact ⟨0, [], rfl, rfl, by omega, H0, HF0⟩
      case round =>
        obtain ⟨k, ps, rfl, rfl, hk, hkr, hto⟩ := hrel
        clear H0 HF0
        by_cases hlt : k < n
        · by_cases hnb : 0 < nb
          · have hnbi : (0 : Int) < (nb : Int) := by omega
            have hlti : (k : Int) < n := by omega
            obtain ⟨t, ht⟩ : ∃ t, l[k]? = some t := ⟨_, List.getElem?_eq_getElem (by have := HN.out; omega)⟩
            obtain ⟨g, off, rfl, d0, d1, d2, d3⟩ := HCE.out k t ht
            have hsz := HNM.out t (List.mem_of_getElem? ht)
            have c0 := hkr.out.cell d0 (fun x => x)
            have c1 := hkr.out.cell d1 (fun x => x)
            have c2 := hkr.out.cell d2 (fun x => x)
            have c3 := hkr.out.cell d3 (fun x => x)
            have HW : Hid (∀ W, LaidT W → Calls Tryd.prog 16 #[.agg #[.int .i64 t.kind, .string t.name, .int .i64 t.of, .int .i64 t.pos]] W (KeptPost (.string (strOf (wordS t.tok))) W)) := Lib.hid (fun W hW => kword_any t.kind t.name t.of t.pos W (by omega) hW)
            have hwl := word_len t.tok
            have hfl : (flatB ps).length ≤ 100000 := by have := hto.out.2.2; omega
            have HST : Hid (∀ b, OkB b → b.length ≤ 9 → wordS t.tok ≠ [] → FlatTo l (k + 1) (ps ++ [(t.tok, b)])) := Lib.hid (fun b h1 h2 h3 => hto.out.step ht h1 h2 h3)
            have HFL : Hid (∀ b, flatB (ps ++ [(t.tok, b)]) = (flatB ps ++ wordS t.tok) ++ b) := Lib.hid (fun b => flat_snoc ps t.tok b)
            clear ht d0 d1 d2 d3 hto
            have hwr : LaidT wr := HL.out.kept (HK1.out.trans hkr.out)
            have HWR := Lib.hid hwr
            clear hwr
            generalize t.tok = tt at *
            have hcat1 : ∀ W, (Op.stringOp .add (strOf (flatB ps)) (strOf (wordS tt))).run Tryd.prog W = .ok (.string (strOf (flatB ps ++ wordS tt))) W := fun W => by
              have := run_string_add_sum (P := Tryd.prog) W (strOf (flatB ps)) (strOf (wordS tt)) (by rw [strOf_size, strOf_size]; omega)
              rw [this] <;> congr 2 <;> exact bs_inj (by rw [bs_append, bs_strOf, bs_strOf, bs_strOf])
            by_cases hwd : wordS tt = []
            · have q1 : (strOf (wordS tt)).toList = [] := by rw [bs_toList, bs_strOf]; exact hwd
              have q2 : (strOf (wordS tt)).toList.isEmpty = true := by rw [q1]; rfl
              have q3 : ((strOf (wordS tt)).toList == []) = true := by rw [q1]; rfl
              clear hwd HST HFL hcat1
              go_wp2_with fail
              refine (HW.out _ HWR.out).mono ?_
              rintro e w3 ⟨rfl, hk3⟩
              have HK3 := Lib.hid ((HK1.out.trans hkr.out).trans hk3)
              clear hk3
              go_wp2
              go_ret
              exact ⟨rfl, HK3.out⟩
            · have q1 : ¬ (strOf (wordS tt)).toList = [] := by rw [bs_toList, bs_strOf]; exact hwd
              have q2 : (strOf (wordS tt)).toList.isEmpty = false := by simpa using q1
              have q3 : ((strOf (wordS tt)).toList == []) = false := by simpa using q1
              obtain ⟨y, hy⟩ : ∃ y, bl[k % nb]? = some y := ⟨_, List.getElem?_eq_getElem (by rw [HNB.out]; exact Nat.mod_lt _ hnb)⟩
              have hyr := HBD.out y (List.mem_of_getElem? hy)
              obtain ⟨g', off', rfl, _, dy⟩ := HCB.out (k % nb) (Value.int .u8 y) (by rw [List.getElem?_map, hy]; rfl)
              obtain ⟨z, rfl⟩ : ∃ z : Nat, y = z := ⟨y.toNat, by omega⟩
              have hz6 : z % 6 < 6 := Nat.mod_lt _ (by decide)
              have HOK := Lib.hid (blank_ok hz6)
              have HN1 := Lib.hid (HST.out (blankL (z % 6)) HOK.out.1 HOK.out.2 hwd)
              have hcat2 : ∀ W, (Op.stringOp .add (strOf (flatB ps ++ wordS tt)) (strOf (blankL (z % 6)))).run Tryd.prog W = .ok (.string (strOf (flatB (ps ++ [(tt, blankL (z % 6))])))) W := fun W => by
                have := run_string_add_sum (P := Tryd.prog) W (strOf (flatB ps ++ wordS tt)) (strOf (blankL (z % 6))) (by rw [strOf_size, strOf_size, List.length_append]; have := HOK.out.2; omega)
                rw [this] <;> congr 2 <;> exact bs_inj (by rw [bs_append, bs_strOf, bs_strOf, bs_strOf, HFL.out])
              have t1 : Int.tmod (k : Int) (nb : Int) = ((k % nb : Nat) : Int) := by rw [Int.tmod_eq_emod_of_nonneg (by omega)]; rfl
              have t2 : Int.tmod (z : Int) 6 = ((z % 6 : Nat) : Int) := by rw [Int.tmod_eq_emod_of_nonneg (by omega)]; rfl
              have t3 : k % nb < nb := Nat.mod_lt _ hnb
              have t4 : ((k % nb : Nat) : Int) < (nb : Int) := by omega
              have t5 : ((z % 6 : Nat) : Int) < 6 := by omega
              have t6 : ¬ (nb : Int) = 0 := by omega
              have t7 : ((nb : Int) == 0) = false := by rw [beq_eq_false_iff_ne]; exact t6
              have t8 : wrap64 (z : Int) = (z : Int) := by first | exact IntWalk.i64_in _ (by omega) | (unfold wrap64; omega) | (simp [wrap64]; omega)
              clear hwd HST HFL hy HOK hyr
              generalize z % 6 = z6 at *
              generalize k % nb = kb at *
              go_wp2_with fail
              refine (HW.out _ HWR.out).mono ?_
              rintro e w3 ⟨rfl, hk3⟩
              have HK3 := Lib.hid (hkr.out.trans hk3)
              have dy3 := (HKB.out.trans HK3.out).cell dy (fun x => x)
              have dy4 := fun o => ((HKB.out.trans HK3.out).trans (Fr.of_alloc (fun _ => False) w3 o)).cell dy (fun x => x)
              have hb6 := six_cell w3 hz6
              clear hk3
              go_wp2
              go_roundw
              case rel => exact ⟨k + 1, ps ++ [(tt, blankL z6)], by go_num, rfl, by omega, Lib.hid (HK3.out.trans (Fr.of_alloc _ _ _)), HN1⟩
              case measure => simp [intOf]; omega
          · have hnbi : ¬ (0 : Int) < (nb : Int) := by omega
            have hlti : (k : Int) < n := by omega
            obtain ⟨t, ht⟩ : ∃ t, l[k]? = some t := ⟨_, List.getElem?_eq_getElem (by have := HN.out; omega)⟩
            obtain ⟨g, off, rfl, d0, d1, d2, d3⟩ := HCE.out k t ht
            have hsz := HNM.out t (List.mem_of_getElem? ht)
            have c0 := hkr.out.cell d0 (fun x => x)
            have c1 := hkr.out.cell d1 (fun x => x)
            have c2 := hkr.out.cell d2 (fun x => x)
            have c3 := hkr.out.cell d3 (fun x => x)
            have HW : Hid (∀ W, LaidT W → Calls Tryd.prog 16 #[.agg #[.int .i64 t.kind, .string t.name, .int .i64 t.of, .int .i64 t.pos]] W (KeptPost (.string (strOf (wordS t.tok))) W)) := Lib.hid (fun W hW => kword_any t.kind t.name t.of t.pos W (by omega) hW)
            have hwl := word_len t.tok
            have hfl : (flatB ps).length ≤ 100000 := by have := hto.out.2.2; omega
            have HST : Hid (∀ b, OkB b → b.length ≤ 9 → wordS t.tok ≠ [] → FlatTo l (k + 1) (ps ++ [(t.tok, b)])) := Lib.hid (fun b h1 h2 h3 => hto.out.step ht h1 h2 h3)
            have HFL : Hid (∀ b, flatB (ps ++ [(t.tok, b)]) = (flatB ps ++ wordS t.tok) ++ b) := Lib.hid (fun b => flat_snoc ps t.tok b)
            clear ht d0 d1 d2 d3 hto
            have hwr : LaidT wr := HL.out.kept (HK1.out.trans hkr.out)
            have HWR := Lib.hid hwr
            clear hwr
            generalize t.tok = tt at *
            have hcat1 : ∀ W, (Op.stringOp .add (strOf (flatB ps)) (strOf (wordS tt))).run Tryd.prog W = .ok (.string (strOf (flatB ps ++ wordS tt))) W := fun W => by
              have := run_string_add_sum (P := Tryd.prog) W (strOf (flatB ps)) (strOf (wordS tt)) (by rw [strOf_size, strOf_size]; omega)
              rw [this] <;> congr 2 <;> exact bs_inj (by rw [bs_append, bs_strOf, bs_strOf, bs_strOf])
            by_cases hwd : wordS tt = []
            · have q1 : (strOf (wordS tt)).toList = [] := by rw [bs_toList, bs_strOf]; exact hwd
              have q2 : (strOf (wordS tt)).toList.isEmpty = true := by rw [q1]; rfl
              have q3 : ((strOf (wordS tt)).toList == []) = true := by rw [q1]; rfl
              clear hwd HST HFL hcat1
              go_wp2_with fail
              refine (HW.out _ HWR.out).mono ?_
              rintro e w3 ⟨rfl, hk3⟩
              have HK3 := Lib.hid ((HK1.out.trans hkr.out).trans hk3)
              clear hk3
              go_wp2
              go_ret
              exact ⟨rfl, HK3.out⟩
            · have q1 : ¬ (strOf (wordS tt)).toList = [] := by rw [bs_toList, bs_strOf]; exact hwd
              have q2 : (strOf (wordS tt)).toList.isEmpty = false := by simpa using q1
              have q3 : ((strOf (wordS tt)).toList == []) = false := by simpa using q1
              have HN1 := Lib.hid (HST.out [32] ⟨by decide, by decide, by decide⟩ (by decide) hwd)
              have hcat2 : ∀ W, (Op.stringOp .add (strOf (flatB ps ++ wordS tt)) ⟨#[32]⟩).run Tryd.prog W = .ok (.string (strOf (flatB (ps ++ [(tt, [32])])))) W := fun W => by
                have := run_string_add_sum (P := Tryd.prog) W (strOf (flatB ps ++ wordS tt)) ⟨#[32]⟩ (by rw [strOf_size, List.length_append]; have h2 : (⟨#[32]⟩ : ByteArray).size = 1 := rfl; omega)
                rw [this] <;> congr 2 <;> exact bs_inj (by rw [bs_append, bs_strOf, bs_strOf, HFL.out]; rfl)
              clear hwd HST HFL
              go_wp2_with fail
              refine (HW.out _ HWR.out).mono ?_
              rintro e w3 ⟨rfl, hk3⟩
              have HK3 := Lib.hid (hkr.out.trans hk3)
              clear hk3
              go_wp2
              go_roundw
              case rel => exact ⟨k + 1, ps ++ [(tt, [32])], by go_num, rfl, by omega, HK3, HN1⟩
              case measure => simp [intOf]; omega
        · skip
          have hlti : ¬ (k : Int) < n := by omega
          have HPS : Hid (ps.map (·.1) = l.map TokB.tok) := Lib.hid (by
            rw [hto.out.1, List.take_of_length_le (by rw [List.length_map, HN.out]; omega)])
          have HPL : Hid (ps.length ≤ 1000) := Lib.hid (by
            have := congrArg List.length HPS.out
            rw [List.length_map, List.length_map, HN.out] at this
            omega)
          have HOK := Lib.hid hto.out.2.1
          have hxs : (strOf (flatB ps)).size = (flatB ps).length := strOf_size _
          have hfl : (flatB ps).length ≤ 100000 := by have := hto.out.2.2; omega
          have hB1 : Hid ((flatB ps).length ≤ 3990 → ∃ m, allS ([32, 10] ++ (flatB ps ++ [])) = .ok m ∧ m.map (·.1) = ps.map (·.1)) := Lib.hid (fun h => blanks_same HOK.out HPL.out (nt := false) (by decide) (by decide) (by decide) (by simp; omega))
          have hB2 : Hid ((flatB ps).length ≤ 3990 → ∃ m, allS ([] ++ (flatB ps ++ [35, 32, 109, 111, 114, 101])) = .ok m ∧ m.map (·.1) = ps.map (·.1)) := Lib.hid (fun h => blanks_same HOK.out HPL.out (nt := true) (by decide) (by decide) (by decide) (by simp; omega))
          have HBS : Hid (bs (strOf (flatB ps)) = flatB ps) := Lib.hid (bs_strOf _)
          clear hto HOK HPL
          by_cases h4 : 4000 < (flatB ps).length
          · have h4i : (4000 : Int) < ((flatB ps).length : Int) := by omega
            clear hB1 hB2 HBS HPS
            generalize strOf (flatB ps) = x at *
            go_wp2
            go_ret
            exact ⟨rfl, HK1.out.trans hkr.out⟩
          · have h4i : ¬ (4000 : Int) < ((flatB ps).length : Int) := by omega
            generalize strOf (flatB ps) = x at *
            have hc1 : ∀ W, (Op.stringOp .add ⟨#[32, 10]⟩ x).run Tryd.prog W = .ok (.string (⟨#[32, 10]⟩ ++ x)) W := fun W => run_string_add_sum _ _ _ (by have h2 : (⟨#[32, 10]⟩ : ByteArray).size = 2 := rfl; omega)
            have hc2 : ∀ W, (Op.stringOp .add x ⟨#[35, 32, 109, 111, 114, 101]⟩).run Tryd.prog W = .ok (.string (x ++ ⟨#[35, 32, 109, 111, 114, 101]⟩)) W := fun W => run_string_add_sum _ _ _ (by have h2 : (⟨#[35, 32, 109, 111, 114, 101]⟩ : ByteArray).size = 6 := rfl; omega)
            have HS1 : Hid ((⟨#[32, 10]⟩ ++ x : ByteArray).size ≤ 1000000 ∧ bs (⟨#[32, 10]⟩ ++ x : ByteArray) = [32, 10] ++ (flatB ps ++ [])) := Lib.hid ⟨by rw [ByteArray.size_append]; have h2 : (⟨#[32, 10]⟩ : ByteArray).size = 2 := rfl; omega, by rw [bs_append, HBS.out, List.append_nil]; rfl⟩
            have HS2 : Hid ((x ++ ⟨#[35, 32, 109, 111, 114, 101]⟩ : ByteArray).size ≤ 1000000 ∧ bs (x ++ ⟨#[35, 32, 109, 111, 114, 101]⟩ : ByteArray) = [] ++ (flatB ps ++ [35, 32, 109, 111, 114, 101])) := Lib.hid ⟨by rw [ByteArray.size_append]; have h2 : (⟨#[35, 32, 109, 111, 114, 101]⟩ : ByteArray).size = 6 := rfl; omega, by rw [bs_append, HBS.out]; rfl⟩
            generalize (⟨#[32, 10]⟩ ++ x : ByteArray) = y1 at *
            generalize (x ++ ⟨#[35, 32, 109, 111, 114, 101]⟩ : ByteArray) = y2 at *
            rw [← HS1.out.2] at hB1
            rw [← HS2.out.2] at hB2
            clear HBS
            go_wp2_with fail
            refine (kallR y1 _ HS1.out.1 (HL.out.kept (HK1.out.trans hkr.out))).mono ?_
            rintro e w5 ⟨v5, m5, p5, q5, rfl, hr5, hk5, hi5⟩
            have HK5 := Lib.hid ((HK1.out.trans hkr.out).trans hk5)
            have HR5 := Lib.hid hr5
            have HI5 := Lib.hid hi5
            have HRL5 := Lib.hid ((HR1.out.kept hkr.out).kept hk5)
            clear hr5 hk5 hi5
            go_wp2_with fail
            refine (kallR y2 _ HS2.out.1 (HL.out.kept HK5.out)).mono ?_
            rintro e w6 ⟨v6, m6, p6, q6, rfl, hr6, hk6, hi6⟩
            have HK6 := Lib.hid (HK5.out.trans hk6)
            have HR6 := Lib.hid hr6
            have HI6 := Lib.hid hi6
            have HR56 := Lib.hid (HR5.out.kept hk6)
            have HRL6 := Lib.hid (HRL5.out.kept hk6)
            clear hr6 hk6 hi6 HK5 HR5 HRL5
            by_cases h39 : 3990 < (flatB ps).length
            · have h39i : (3990 : Int) < ((flatB ps).length : Int) := by omega
              clear hB1 hB2 HI5 HI6 HPS HR6 HR56 HRL6 HS1 HS2
              go_wp2
              go_ret
              exact ⟨rfl, HK6.out⟩
            · have h39i : ¬ (3990 : Int) < ((flatB ps).length : Int) := by omega
              obtain ⟨m1, hm1, he1⟩ := hB1.out (by omega)
              obtain ⟨m2, hm2, he2⟩ := hB2.out (by omega)
              obtain ⟨rfl, rfl, rfl⟩ := HI5.out.unique (.inl ⟨hm1, rfl, rfl⟩)
              obtain ⟨rfl, rfl, rfl⟩ := HI6.out.unique (.inl ⟨hm2, rfl, rfl⟩)
              have HSM1 := Lib.hid (same_back (he1.trans HPS.out))
              have HSM2 := Lib.hid (same_back (he2.trans HPS.out))
              have HT5 := Lib.hid HI5.out.toks.1
              have HT6 := Lib.hid HI6.out.toks.1
              have HSA : Hid (∀ W, ReadsT W (.slice ao n c) l → ReadsT W v5 (toB m5) → Calls Tryd.prog 12 #[.slice ao n c, v5, .bool false] W (KeptPost (.bool true) W)) := Lib.hid (fun W h1 h2 => by
                have h := ksame_any h1 h2 false (by rw [HN.out]; omega) (by unfold toB; rw [List.length_map]; have := HT5.out; omega)
                rwa [HSM1.out] at h)
              have HSB : Hid (∀ W, ReadsT W (.slice ao n c) l → ReadsT W v6 (toB m6) → Calls Tryd.prog 12 #[.slice ao n c, v6, .bool false] W (KeptPost (.bool true) W)) := Lib.hid (fun W h1 h2 => by
                have h := ksame_any h1 h2 false (by rw [HN.out]; omega) (by unfold toB; rw [List.length_map]; have := HT6.out; omega)
                rwa [HSM2.out] at h)
              clear hm1 hm2 he1 he2 hB1 hB2 HI5 HI6 HPS HS1 HS2 HSM1 HSM2 HT5 HT6
              go_wp2_with fail
              refine (HSA.out _ HRL6.out HR56.out).mono ?_
              rintro e w7 ⟨rfl, hk7⟩
              have HK7 := Lib.hid (HK6.out.trans hk7)
              have HRL7 := Lib.hid (HRL6.out.kept hk7)
              have HR7 := Lib.hid (HR6.out.kept hk7)
              clear hk7 HRL6 HR6 HR56 HSA
              go_wp2_with fail
              refine (HSB.out _ HRL7.out HR7.out).mono ?_
              rintro e w8 ⟨rfl, hk8⟩
              have HK8 := Lib.hid (HK7.out.trans hk8)
              clear hk8
              go_wp2
              go_ret
              exact ⟨rfl, HK8.out⟩
  · go_enter Tryd.func6, Tryd.ntmps6
    go_wp2_with fail
    refine (kawake_any _ HL.out).mono ?_
    rintro e w1 ⟨rfl, hk1⟩
    have HK1 := Lib.hid hk1
    have HR1 := Lib.hid (HR.out.kept hk1)
    clear hk1
    go_wp2_with (go_at_call 13; refine (klarge_any HR1.out (by unfold maxLen at hlm; omega)).mono ?_; rintro e w' ⟨rfl, rfl⟩; rw [hlg])
    go_ret
    exact ⟨rfl, HK1.out⟩

end Go.Proofs.YthceckpeccbpiaaDoor
