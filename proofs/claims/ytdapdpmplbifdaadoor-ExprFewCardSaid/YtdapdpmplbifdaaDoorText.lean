/- Contracts and lemmas: Text -/
import Derived.Test.YtdapdpmplbifdaaDoorBld
import Derived.Laws.Concat
namespace Go.Proofs.YtdapdpmplbifdaaDoor
set_option linter.unusedVariables false
set_option linter.unusedSimpArgs false
open Go.RowKit Go.ChangeShapes Go.WideShapes
theorem kept_below {w wr w' : World} (h : Kept w wr) (k : Below w.heap.size wr w') : Kept w w' :=
  ⟨k.os.trans h.os, k.tape.trans h.tape, k.output.trans h.output, Nat.le_trans h.size k.size, fun i hi hn => (k.block i hi).trans (h.block i hi hn)⟩
theorem bld_kept {B b : Nat} {cs : List Value} {w w' : World} (h : Bld B b cs w) (hk : Kept w w') : Bld B b cs w' := by
  have go : ∀ p, Lib.BuilderAtF 70 5 B b p cs w → Lib.BuilderAtF 70 5 B b p cs w' := by
    rintro p ⟨hB, v, hb, hown, hne⟩
    refine ⟨hB, v, ?_, hown.kept (hk.grown none) ?_, hne⟩
    · rw [hk.block b (blt hb) (fun x => x)]; exact hb
    · cases v.ownBlock <;> simp
  rcases h with h | h
  · exact .inl (go _ h)
  · exact .inr (go _ h)
theorem bld_new (w : World) : Bld w.heap.size w.heap.size (Lib.byteCells []) (w.alloc (Obj.cells #[.pointer none, .slice none 0 0] 70)) :=
  .inl ⟨Nat.le_refl _, .slice none 0 0, heap_alloc_new w _, World.ownsRowF_nil _ _ _ _, by simp [Value.ownBlock]⟩
theorem join_mono : ∀ (a b : List (List UInt8)), (joinS a).length ≤ (joinS (a ++ b)).length
  | [], b => by simp [joinS]
  | [w], [] => Nat.le_refl _
  | [w], v :: b => by
    show w.length ≤ (w ++ 32 :: joinS (v :: b)).length
    rw [List.length_append]; omega
  | w :: v :: r, b => by
    have := join_mono (v :: r) b
    show (w ++ 32 :: joinS (v :: r)).length ≤ (w ++ 32 :: joinS (v :: r ++ b)).length
    rw [List.length_append, List.length_append, List.length_cons, List.length_cons]
    omega
theorem text_long {l : List Tok} {k : Nat} {out : List UInt8} (h : TextTo l k out) (hn : l.length ≤ 1000) (h4 : 4000 < out.length) : textS l = ([], 2) := by
  obtain ⟨rfl, _⟩ := h
  have hm := join_mono ((l.take k).map wordS) ((l.drop k).map wordS)
  rw [← List.map_append, List.take_append_drop] at hm
  unfold textS
  rw [if_neg (by omega)]
  split
  · rfl
  · rw [if_pos (by omega)]
theorem byteCells_strOf (x : List UInt8) : Lib.strCells (strOf x) = Lib.byteCells x := rfl
set_option maxHeartbeats 4000000 in
theorem ktext_any {w : World} {v : Value} {l : List TokB} (h : ReadsT w v l) (hl : l.length ≤ 1000000) (hs : ∀ t ∈ l, t.name.size ≤ 1000000) (hL : LaidT w) :
    Calls Tryd.prog 35 #[v] w (KeptPost (textV (textS (l.map TokB.tok))) w) := by
  obtain ⟨ao, c, rfl, _, hc⟩ := h
  have HC := Lib.hid hc
  have HS := Lib.hid hs
  have HL := Lib.hid hL
  have HM : Hid ((l.map TokB.tok).length = l.length) := Lib.hid (by simp)
  clear hc hs hL
  generalize hn : l.length = n at *
  have HN := Lib.hid hn
  clear hn
  by_cases h1 : 1000 < n
  · have h1i : (1000 : Int) < n := by omega
    have HA : Hid (textS (l.map TokB.tok) = ([], 3)) := Lib.hid (by unfold textS; rw [if_pos (by rw [HM.out]; omega)])
    go_enter Tryd.func35, Tryd.ntmps35
    go_wp2
    go_ret2
    exact ⟨by rw [HA.out]; rfl, Fr.refl _ _⟩
  · have h1i : ¬ (1000 : Int) < n := by omega
    have H0 : Hid (TextTo (l.map TokB.tok) 0 []) := Lib.hid ⟨rfl, fun t ht => by simp at ht⟩
    have HK0 : Hid (Bld w.heap.size w.heap.size (Lib.byteCells []) (w.alloc (Obj.cells #[.pointer none, .slice none 0 0] 70)) ∧ Kept w (w.alloc (Obj.cells #[.pointer none, .slice none 0 0] 70))) := Lib.hid ⟨bld_new w, Fr.of_alloc _ _ _⟩
    go_enter Tryd.func35, Tryd.ntmps35
    go_wp2
    generalize hg : w.heap.size = g0 at HK0 ⊢
    have HG := Lib.hid hg
    clear hg
    generalize w.alloc _ = w1 at HK0 ⊢
    go_loopw [13] (fun i wr => ∃ (k : Nat) (out : List UInt8), i = .int .i64 k ∧ k ≤ n ∧ out.length ≤ 4000 ∧ Hid (TextTo (l.map TokB.tok) k out) ∧ Hid (Bld g0 g0 (Lib.byteCells out) wr ∧ Kept w wr)) (fun i _ => n - (intOf i).toNat)
    case atStart => exact ⟨0, [], rfl, by omega, by simp, H0, HK0⟩
    case round =>
      obtain ⟨k, out, rfl, hk, ho, hto, hkp⟩ := hrel
      clear H0 HK0
      by_cases hlt : k < n
      · have hlti : (k : Int) < n := by omega
        obtain ⟨t, ht⟩ : ∃ t, l[k]? = some t := ⟨_, List.getElem?_eq_getElem (by have := HN.out; omega)⟩
        obtain ⟨g, off, rfl, d0, d1, d2, d3⟩ := HC.out k t ht
        have HT : Hid ((l.map TokB.tok)[k]? = some t.tok) := Lib.hid (by rw [List.getElem?_map, ht]; rfl)
        have hsz := HS.out t (List.mem_of_getElem? ht)
        have c0 := hkp.out.2.cell d0 (fun x => x)
        have c1 := hkp.out.2.cell d1 (fun x => x)
        have c2 := hkp.out.2.cell d2 (fun x => x)
        have c3 := hkp.out.2.cell d3 (fun x => x)
        have HW : Hid (∀ W, LaidT W → Calls Tryd.prog 37 #[.agg #[.int .i64 t.kind, .string t.name, .int .i64 t.of, .int .i64 t.pos]] W (KeptPost (.string (strOf (wordS t.tok))) W)) := Lib.hid (fun W hW => kword_any t.kind t.name t.of t.pos W hsz hW)
        have hwl := word_len t.tok
        have HST : Hid (wordS t.tok ≠ [] → TextTo (l.map TokB.tok) (k + 1) (if k = 0 then wordS t.tok else out ++ 32 :: wordS t.tok)) := Lib.hid (fun hw => hto.out.step HT.out hw)
        have HBD : Hid (wordS t.tok = [] → textS (l.map TokB.tok) = ([], 2)) := Lib.hid (fun hw => text_bad (by rw [HM.out]; omega) HT.out hw)
        have HLG : Hid (∀ o2, TextTo (l.map TokB.tok) (k + 1) o2 → 4000 < o2.length → textS (l.map TokB.tok) = ([], 2)) := Lib.hid (fun o2 a b => text_long a (by rw [HM.out]; omega) b)
        have ho0 : Hid (k = 0 → out = []) := Lib.hid (fun e => by have := hto.out.1; rw [e] at this; simpa [joinS] using this)
        clear ht d0 d1 d2 d3 HT
        generalize wordS t.tok = wd at *
        have hws : (strOf wd).size = wd.length := strOf_size _
        go_wp2_with fail
        have H2 : Hid (Kept wr (wr.alloc (Obj.cells #[.int .i64 t.kind, .string t.name, .int .i64 t.of, .int .i64 t.pos] 31))) := Lib.hid (Fr.of_alloc _ _ _)
        generalize wr.alloc _ = w2 at H2 ⊢
        refine (HW.out _ (HL.out.kept (hkp.out.2.trans H2.out))).mono ?_
        rintro e w3 ⟨rfl, hk3⟩
        have H3 : Hid (Bld g0 g0 (Lib.byteCells out) w3 ∧ Kept w w3) := Lib.hid ⟨bld_kept hkp.out.1 (H2.out.trans hk3), (hkp.out.2.trans H2.out).trans hk3⟩
        clear hk3 H2 HW
        by_cases h0 : k = 0
        · have gk : ¬ (0 : Int) < (k : Int) := by omega
          obtain ⟨X, HXE⟩ : ∃ X, Hid (X = out) := ⟨_, Lib.hid rfl⟩
          have HX : Hid (Bld g0 g0 (Lib.byteCells X) w3 ∧ Kept w w3) := Lib.hid (by rw [HXE.out]; exact H3.out)
          clear H3
          have HTX : Hid (wd ≠ [] → TextTo (l.map TokB.tok) (k + 1) (X ++ wd)) := Lib.hid (fun hw => by have := HST.out hw; rw [HXE.out]; simpa [h0, ho0.out] using this)
          have HLN : Hid (∀ W, Bld g0 g0 (Lib.byteCells (X)) W → Calls Tryd.prog 54 #[.pointer (some ⟨g0, 0, none⟩)] W fun e w' => e = .returned (.int .i64 ((X).length : Nat)) ∧ w' = W) := Lib.hid (fun W hW => by have := klen_any g0 g0 _ W hW; rwa [Lib.byteCells_length] at this)
          have hxl : (X).length ≤ 4001 := by rw [HXE.out]; first | (simp only [List.length_append, List.length_singleton]; omega) | omega
          clear HST
          by_cases hwd : wd = []
          · have q1 : (strOf wd).toList = [] := by rw [bs_toList, bs_strOf]; exact hwd
            have q2 : (strOf wd).toList.isEmpty = true := by rw [q1]; rfl
            have q3 : ((strOf wd).toList == []) = true := by rw [q1]; rfl
            have HA := Lib.hid (HBD.out hwd)
            clear hwd HBD HLG HTX
            go_wp2
            go_ret2
            exact ⟨by rw [HA.out]; rfl, HX.out.2⟩
          · have q1 : ¬ (strOf wd).toList = [] := by rw [bs_toList, bs_strOf]; exact hwd
            have q2 : (strOf wd).toList.isEmpty = false := by simpa using q1
            have q3 : ((strOf wd).toList == []) = false := by simpa using q1
            have HT2 := Lib.hid (HTX.out hwd)
            clear HBD HTX hwd
            by_cases h4 : 4000 < (X ++ wd).length
            · have HA := Lib.hid (HLG.out _ HT2.out h4)
              have g4 : (4000 : Int) < ((X).length : Int) + (wd.length : Int) := by rw [List.length_append] at h4; omega
              clear h4 HLG
              go_wp2_with (go_at_call 54; refine (HLN.out _ HX.out.1).mono ?_; rintro e w' ⟨rfl, rfl⟩)
              go_ret2
              exact ⟨by rw [HA.out]; rfl, HX.out.2⟩
            · have g4 : ¬ (4000 : Int) < ((X).length : Int) + (wd.length : Int) := by rw [List.length_append] at h4; omega
              have hol : (X ++ wd).length ≤ 4000 := by omega
              have HWS : Hid (∀ W, Bld g0 g0 (Lib.byteCells (X)) W → g0 ≤ W.heap.size → Calls Tryd.prog 55 #[.pointer (some ⟨g0, 0, none⟩), .string (strOf wd)] W fun e w' => e = .returned (.tuple #[.int .i64 (wd.length : Nat), .nilIface]) ∧ (BldAt g0 g0 (Lib.byteCells (X ++ wd)) w' ∧ Below g0 W w')) := Lib.hid (fun W hW hB => by
                have := kwriteString_any g0 g0 _ (strOf wd) W hW (by rw [Lib.byteCells_length, hws]; omega) hB
                rwa [byteCells_strOf, ← Lib.byteCells_append, hws] at this)
              clear h4 HLG
              go_wp2_with (go_at_call 54; refine (HLN.out _ HX.out.1).mono ?_; rintro e w' ⟨rfl, rfl⟩)
              refine (HWS.out _ HX.out.1 (by have := HX.out.2.size; rw [HG.out] at this; exact this)).mono ?_
              rintro e w5 ⟨rfl, hb5, hk5⟩
              have H5 : Hid (Bld g0 g0 (Lib.byteCells (X ++ wd)) w5 ∧ Kept w w5) := Lib.hid ⟨.inr hb5, kept_below HX.out.2 (by rw [HG.out]; exact hk5)⟩
              clear hb5 hk5
              go_wp2
              exact ⟨⟨k + 1, X ++ wd, by go_num, by omega, hol, HT2, H5⟩, by simp [intOf]; omega⟩
        · have gk : (0 : Int) < (k : Int) := by omega
          have HWB : Hid (∀ W, Bld g0 g0 (Lib.byteCells out) W → g0 ≤ W.heap.size → Calls Tryd.prog 53 #[.pointer (some ⟨g0, 0, none⟩), .int .u8 32] W fun e w' => e = .returned .nilIface ∧ (BldAt g0 g0 (Lib.byteCells (out ++ [32])) w' ∧ Below g0 W w')) := Lib.hid (fun W hW hB => by
            have := kwriteByte_any g0 g0 _ 32 W hW (by rw [Lib.byteCells_length]; omega) hB
            rw [Lib.byteCells_append]
            exact this)
          go_wp2_with fail
          refine (HWB.out _ H3.out.1 (by have := H3.out.2.size; rw [HG.out] at this; exact this)).mono ?_
          rintro e w4 ⟨rfl, hb4, hk4⟩
          have H4 : Hid (Bld g0 g0 (Lib.byteCells (out ++ [32])) w4 ∧ Kept w w4) := Lib.hid ⟨.inr hb4, kept_below H3.out.2 (by rw [HG.out]; exact hk4)⟩
          clear hb4 hk4 HWB
          obtain ⟨X, HXE⟩ : ∃ X, Hid (X = out ++ [32]) := ⟨_, Lib.hid rfl⟩
          have HX : Hid (Bld g0 g0 (Lib.byteCells X) w4 ∧ Kept w w4) := Lib.hid (by rw [HXE.out]; exact H4.out)
          clear H4
          have HTX : Hid (wd ≠ [] → TextTo (l.map TokB.tok) (k + 1) (X ++ wd)) := Lib.hid (fun hw => by have := HST.out hw; rw [HXE.out]; simpa [h0, ho0.out] using this)
          have HLN : Hid (∀ W, Bld g0 g0 (Lib.byteCells (X)) W → Calls Tryd.prog 54 #[.pointer (some ⟨g0, 0, none⟩)] W fun e w' => e = .returned (.int .i64 ((X).length : Nat)) ∧ w' = W) := Lib.hid (fun W hW => by have := klen_any g0 g0 _ W hW; rwa [Lib.byteCells_length] at this)
          have hxl : (X).length ≤ 4001 := by rw [HXE.out]; first | (simp only [List.length_append, List.length_singleton]; omega) | omega
          clear HST
          by_cases hwd : wd = []
          · have q1 : (strOf wd).toList = [] := by rw [bs_toList, bs_strOf]; exact hwd
            have q2 : (strOf wd).toList.isEmpty = true := by rw [q1]; rfl
            have q3 : ((strOf wd).toList == []) = true := by rw [q1]; rfl
            have HA := Lib.hid (HBD.out hwd)
            clear hwd HBD HLG HTX
            go_wp2
            go_ret2
            exact ⟨by rw [HA.out]; rfl, HX.out.2⟩
          · have q1 : ¬ (strOf wd).toList = [] := by rw [bs_toList, bs_strOf]; exact hwd
            have q2 : (strOf wd).toList.isEmpty = false := by simpa using q1
            have q3 : ((strOf wd).toList == []) = false := by simpa using q1
            have HT2 := Lib.hid (HTX.out hwd)
            clear HBD HTX hwd
            by_cases h4 : 4000 < (X ++ wd).length
            · have HA := Lib.hid (HLG.out _ HT2.out h4)
              have g4 : (4000 : Int) < ((X).length : Int) + (wd.length : Int) := by rw [List.length_append] at h4; omega
              clear h4 HLG
              go_wp2_with (go_at_call 54; refine (HLN.out _ HX.out.1).mono ?_; rintro e w' ⟨rfl, rfl⟩)
              go_ret2
              exact ⟨by rw [HA.out]; rfl, HX.out.2⟩
            · have g4 : ¬ (4000 : Int) < ((X).length : Int) + (wd.length : Int) := by rw [List.length_append] at h4; omega
              have hol : (X ++ wd).length ≤ 4000 := by omega
              have HWS : Hid (∀ W, Bld g0 g0 (Lib.byteCells (X)) W → g0 ≤ W.heap.size → Calls Tryd.prog 55 #[.pointer (some ⟨g0, 0, none⟩), .string (strOf wd)] W fun e w' => e = .returned (.tuple #[.int .i64 (wd.length : Nat), .nilIface]) ∧ (BldAt g0 g0 (Lib.byteCells (X ++ wd)) w' ∧ Below g0 W w')) := Lib.hid (fun W hW hB => by
                have := kwriteString_any g0 g0 _ (strOf wd) W hW (by rw [Lib.byteCells_length, hws]; omega) hB
                rwa [byteCells_strOf, ← Lib.byteCells_append, hws] at this)
              clear h4 HLG
              go_wp2_with (go_at_call 54; refine (HLN.out _ HX.out.1).mono ?_; rintro e w' ⟨rfl, rfl⟩)
              refine (HWS.out _ HX.out.1 (by have := HX.out.2.size; rw [HG.out] at this; exact this)).mono ?_
              rintro e w5 ⟨rfl, hb5, hk5⟩
              have H5 : Hid (Bld g0 g0 (Lib.byteCells (X ++ wd)) w5 ∧ Kept w w5) := Lib.hid ⟨.inr hb5, kept_below HX.out.2 (by rw [HG.out]; exact hk5)⟩
              clear hb5 hk5
              go_wp2
              exact ⟨⟨k + 1, X ++ wd, by go_num, by omega, hol, HT2, H5⟩, by simp [intOf]; omega⟩
      · have hlti : ¬ (k : Int) < n := by omega
        have HA : Hid (textS (l.map TokB.tok) = (out, 0)) := Lib.hid (by rw [hto.out.done (by rw [HM.out]; omega) (by rw [HM.out]; omega), if_neg (by omega)])
        have HSG : Hid (∀ W, Bld g0 g0 (Lib.byteCells out) W → g0 ≤ W.heap.size → Calls Tryd.prog 56 #[.pointer (some ⟨g0, 0, none⟩)] W fun e w' => e = .returned (.string (strOf out)) ∧ Below g0 W w') := Lib.hid (fun W hW hB => kstring_any g0 g0 out W hW hB)
        go_wp2_with fail
        refine (HSG.out _ hkp.out.1 (by have := hkp.out.2.size; rw [HG.out] at this; exact this)).mono ?_
        rintro e w5 ⟨rfl, hk5⟩
        have H5 := Lib.hid (kept_below hkp.out.2 (by rw [HG.out]; exact hk5))
        clear hk5
        go_wp2
        go_ret2
        exact ⟨by rw [HA.out]; rfl, H5.out⟩

end Go.Proofs.YtdapdpmplbifdaaDoor
