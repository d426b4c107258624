/- Contracts and lemmas: WP -/
import Derived.Test.YtbfealhbdemhmaaGreatDoorWU
import Derived.Test.YtbfealhbdemhmaaGreatDoorN3
namespace Go.Proofs.YtbfealhbdemhmaaGreatDoor
set_option linter.unusedVariables false
set_option linter.unusedSimpArgs false
open Go.RowKit Go.ChangeShapes Go.WideShapes
set_option maxRecDepth 20000
theorem tox_map (l : List TrmB) : toX (l.map TrmB.tok) = l := by
  unfold toX
  rw [List.map_map]
  conv => rhs; rw [← List.map_id l]
  apply List.map_congr_left
  intro t _
  show (⟨t.op, t.of, strOf (bs t.name)⟩ : TrmB) = t
  rw [strOf_bs]

open Go.RowKit Go.ChangeShapes Go.WideShapes
set_option maxRecDepth 20000
theorem xpart_one {w wr W w1 : World} {x : List Tok} {v v1 : Value} (h : XPart w wr x v) (hk : Kept wr W) (t : TrmB)
    (hq : AppPost W w.heap.size 52 3 v (x.length + 1) (cellsX (toX x) ++ [.int .i64 t.op, .int .i64 t.of, .string t.name]) v1 w1) : XPart w w1 (x ++ [t.tok]) v1 :=
  (h.kept hk).app (y := [t.tok]) (by rw [show toX [t.tok] = [t] from tox_map [t]]; exact hq)
theorem xpart_op {w wr W w1 : World} {x : List Tok} {v v1 : Value} (h : XPart w wr x v) (hk : Kept wr W) (k : Int)
    (hq : AppPost W w.heap.size 52 3 v (x.length + 1) (cellsX (toX x) ++ [.int .i64 k, .int .i64 0, .string ⟨#[]⟩]) v1 w1) : XPart w w1 (x ++ [opT k]) v1 :=
  (h.kept hk).app (y := [opT k]) hq
theorem left_len (k : Int) (m : List Tok) : (leftP k m).length ≤ 2 * m.length := by
  have lp : ∀ (r : List Tok), (r.flatMap fun u => [u, opT k]).length = 2 * r.length := fun r => by
    induction r with
    | nil => rfl
    | cons u r ih => simp only [List.flatMap_cons, List.length_append, List.length_cons, List.length_nil, ih]; omega
  cases m with
  | nil => simp [leftP]
  | cons t r => simp only [leftP, List.length_cons, lp]; omega
theorem mid_len (k : Int) (n : Nat) (l : List Tok) (j : Nat) : (midI k n l j).length ≤ 4 * l.length := by
  have h1 := left_len k (l.take j)
  have h2 := left_len k (l.take n)
  have h3 := left_len k ((l.drop n).take (j - n))
  have e1 : (l.take j).length ≤ l.length := by rw [List.length_take]; omega
  have e2 : (l.take n).length ≤ l.length := by rw [List.length_take]; omega
  have e3 : ((l.drop n).take (j - n)).length ≤ l.length := by rw [List.length_take, List.length_drop]; omega
  unfold midI
  split
  · omega
  · rw [List.length_append]; omega
theorem right_step {k : Int} {X : List Tok} {j : Nat} (h : 1 ≤ j) : X ++ List.replicate (j + 1 - 1) (opT k) = (X ++ List.replicate (j - 1) (opT k)) ++ [opT k] := by
  rw [List.append_assoc, show j + 1 - 1 = (j - 1) + 1 by omega, List.replicate_succ']
theorem names_of {X x : List Tok} {k : Int} (hX : ∀ t ∈ toX X, t.name.size ≤ 1000000) (h : ∀ t ∈ x, t ∈ X ∨ t = opT k) : ∀ t ∈ toX x, t.name.size ≤ 1000000 := fun t ht => by
  unfold toX at ht
  obtain ⟨u, hu, rfl⟩ := List.mem_map.1 ht
  rcases h u hu with h | rfl
  · exact hX _ (List.mem_map.2 ⟨u, h, rfl⟩)
  · exact Nat.zero_le _
theorem mem_left {k : Int} {t : Tok} {l : List Tok} (h : t ∈ leftP k l) : t ∈ l ∨ t = opT k := by
  cases l with
  | nil => cases h
  | cons u r =>
    rcases List.mem_cons.1 h with rfl | h
    · exact .inl (by simp)
    · obtain ⟨z, hz, h⟩ := List.mem_flatMap.1 h
      simp at h
      rcases h with rfl | rfl
      · exact .inl (by simp [hz])
      · exact .inr rfl
theorem mem_rightP {k : Int} {t : Tok} {l : List Tok} (h : t ∈ rightP k l) : t ∈ l ∨ t = opT k := by
  unfold rightP at h
  rcases List.mem_append.1 h with h | h
  · exact .inl h
  · exact .inr (List.eq_of_mem_replicate h)
theorem mem_mid {k : Int} {n : Nat} {t : Tok} {l : List Tok} (h : t ∈ midP k n l) : t ∈ l ∨ t = opT k := by
  unfold midP at h
  rcases List.mem_append.1 h with h | h
  · exact (mem_left h).imp (fun h => List.mem_of_mem_take h) id
  · rcases List.mem_append.1 h with h | h
    · exact (mem_left h).imp (fun h => List.mem_of_mem_drop h) id
    · simp at h; exact .inr h
theorem rem_at {a : Int} {n : Nat} (h0 : 0 ≤ a) (hn : 2 ≤ n) : ∃ q : Nat, a.tmod ((n : Int) - 1) = (q : Int) ∧ q < n - 1 := by
  refine ⟨(a % ((n : Int) - 1)).toNat, ?_, ?_⟩
  · rw [Int.tmod_eq_emod_of_nonneg h0]
    have := Int.emod_nonneg a (show (n : Int) - 1 ≠ 0 by omega)
    omega
  · have := Int.emod_lt_of_pos a (show (0 : Int) < (n : Int) - 1 by omega)
    have := Int.emod_nonneg a (show (n : Int) - 1 ≠ 0 by omega)
    omega
set_option maxHeartbeats 16000000 in
theorem normparens_walk {w : World} {x : Value} (hx : Atm.Rows6At w x) {va0 : Value} {l : List TrmB} (hxl : ReadsX w va0 l) (hlm : (l.length : Int) ≤ 9223372036854775807) (bars : Bool) (a0 : Int) (ha0 : 0 ≤ a0) (ha1 : a0 ≤ 255) (hN : Norm6 w) : Calls Tryz.prog 8 #[x, va0, .bool bars, .int .u8 a0] w (KeptPost (.bool true) w) := by
  have HX := Lib.hid hx
  have HN := Lib.hid hN
  have HXL := Lib.hid hxl
  obtain ⟨aol, cl, rfl, _⟩ := hxl
  obtain ⟨v, src, rfl, _⟩ := hx
  clear hN
  have HW : Hid (Kept w (w.alloc (.cells #[v 0, v 1, v 2, v 3, v 4, v 5] 24))) := Lib.hid (Fr.of_alloc _ _ _)
  go_enter Tryz.func8, Tryz.ntmps8
  go_wp2_with fail
  refine (kawake6_any _ (HN.out.later HW.out)).mono ?_
  rintro e w1 ⟨rfl, hk1⟩
  have HK1 := Lib.hid (HW.out.trans hk1)
  have hc1 : ∀ k, k < 6 → w1.cell? ⟨w.heap.size, k, none⟩ = some (v k) := fun k hk6 => hk1.cell (Atm.box_cell w v _ hk6) (fun x => x)
  have d0 := hc1 0 (by omega)
  have d1 := hc1 1 (by omega)
  have d2 := hc1 2 (by omega)
  have d3 := hc1 3 (by omega)
  have d4 := hc1 4 (by omega)
  have d5 := hc1 5 (by omega)
  clear hc1 hk1
  go_wp2_with fail
  refine (Atm.tables_any (HX.out.later HK1.out)).mono ?_
  rintro e w2 ⟨hk2, h2⟩
  have HK2 := Lib.hid (HK1.out.trans hk2)
  clear hk2 d0 d1 d2 d3 d4 d5
  rcases h2 with ⟨B, F, B', F', L, rfl, ht, hr, hg, hnm⟩ | rfl
  rotate_left
  · go_wp2
    go_ret
    exact ⟨rfl, HK2.out⟩
  have HT := Lib.hid ht
  have HG := Lib.hid hg
  clear ht hr hg hnm
  have HLW : Hid (∀ W, Kept w2 W → ReadsX W (.slice aol l.length cl) l) := Lib.hid (fun W hW => HXL.out.kept (HK2.out.trans hW))
  clear HXL HX HW HK1
  generalize hn : l.length = n at *
  have HLN := Lib.hid hn
  clear hn
  by_cases hn2 : n < 2
  · have hn2i : (n : Int) < 2 := by omega
    go_wp2
    go_ret
    exact ⟨rfl, HK2.out⟩
  have hn2i : ¬ (n : Int) < 2 := by omega
  by_cases hn8 : 8 < n
  · have hn8i : (8 : Int) < (n : Int) := by omega
    go_wp2
    go_ret
    exact ⟨rfl, HK2.out⟩
  have hn8i : ¬ (8 : Int) < (n : Int) := by omega
  obtain ⟨t0, ht0⟩ : ∃ t, l[0]? = some t := ⟨_, List.getElem?_eq_getElem (by have := HLN.out; omega)⟩
  obtain ⟨g, off, rfl⟩ : ∃ g off, aol = some ⟨g, off, none⟩ := by
    obtain ⟨_, _, he, _, hc⟩ := HLW.out w2 (Fr.refl _ _)
    cases he
    obtain ⟨g, off, h1, _⟩ := hc 0 t0 ht0
    exact ⟨g, off, h1⟩
  have HCE : Hid (∀ W, Kept w2 W → ∀ (i : Nat) (t : TrmB), l[i]? = some t → W.cell? ⟨g, off + i * 3, none⟩ = some (.int .i64 t.op) ∧ W.cell? ⟨g, off + i * 3 + 1, none⟩ = some (.int .i64 t.of) ∧ W.cell? ⟨g, off + i * 3 + 2, none⟩ = some (.string t.name)) := Lib.hid (fun W hW i t ht => by
    obtain ⟨_, _, he, _, hc⟩ := HLW.out W hW
    cases he
    obtain ⟨g', off', h1, h2⟩ := hc i t ht
    cases h1
    exact h2)
  clear ht0 t0
  cases bars
  · go_upto_region 9 with fail
    have HB0 : Hid ((w2.alloc (.cells #[.int .i64 2, .int .i64 0, .string ⟨#[]⟩] 52)).heap[w2.heap.size]? = some (.cells #[.int .i64 2, .int .i64 0, .string ⟨#[]⟩] 52 (0, 0))) := Lib.hid (heap_alloc_new _ _)
    have HB1 : Hid (Kept w2 (w2.alloc (.cells #[.int .i64 2, .int .i64 0, .string ⟨#[]⟩] 52))) := Lib.hid (Fr.of_alloc _ _ _)
    generalize w2.alloc (Obj.cells #[.int .i64 2, .int .i64 0, .string ⟨#[]⟩] 52) = w3 at HB0 HB1 ⊢
    generalize w2.heap.size = b at HB0 ⊢
    have HOB : Hid (∀ W, Kept w3 W → W.cell? ⟨b, 0, none⟩ = some (.int .i64 2) ∧ W.cell? ⟨b, 1, none⟩ = some (.int .i64 0) ∧ W.cell? ⟨b, 2, none⟩ = some (.string ⟨#[]⟩)) := Lib.hid (fun W hW => ⟨hW.cell (by rw [cell_whole HB0.out]; rfl) (fun x => x), hW.cell (by rw [cell_whole HB0.out]; rfl) (fun x => x), hW.cell (by rw [cell_whole HB0.out]; rfl) (fun x => x)⟩)
    have HC3 : Hid (∀ W, Kept w3 W → ∀ (i : Nat) (t : TrmB), l[i]? = some t → W.cell? ⟨g, off + i * 3, none⟩ = some (.int .i64 t.op) ∧ W.cell? ⟨g, off + i * 3 + 1, none⟩ = some (.int .i64 t.of) ∧ W.cell? ⟨g, off + i * 3 + 2, none⟩ = some (.string t.name)) := Lib.hid (fun W hW => HCE.out W (HB1.out.trans hW))
    clear HB0
    go_wp2_with fail
    go_loop [53] (fun iv => ∃ j : Nat, iv = .int .i64 j ∧ j ≤ n ∧ Hid (∀ (i : Nat) (t : TrmB), i < j → l[i]? = some t → t.op = 1 ∧ t.name.size ≤ 100)) (fun iv => n - (intOf iv).toNat)
    case atStart => exact ⟨0, rfl, by omega, Lib.hid (fun i t h => by omega)⟩
    case round =>
      obtain ⟨j, rfl, hj, hall⟩ := hrel
      by_cases hlt : j < n
      · have hlti : (j : Int) < n := by omega
        obtain ⟨t, ht⟩ : ∃ t, l[j]? = some t := ⟨_, List.getElem?_eq_getElem (by have := HLN.out; omega)⟩
        obtain ⟨c0, c1, c2⟩ := HC3.out w3 (Fr.refl _ _) j t ht
        have HTJ := Lib.hid ht
        clear ht
        by_cases k1 : t.op = 1
        · have g1 : (t.op != 1) = false := by simp [k1]
          have HK1T := Lib.hid k1
          rw [k1] at c0
          clear k1
          by_cases hs : 100 < t.name.size
          · have hsi : (100 : Int) < (t.name.size : Int) := by omega
            go_wp2
            go_ret
            exact ⟨rfl, HK2.out.trans HB1.out⟩
          · have hsi : ¬ (100 : Int) < (t.name.size : Int) := by omega
            have HNX : Hid (∀ (i : Nat) (u : TrmB), i < j + 1 → l[i]? = some u → u.op = 1 ∧ u.name.size ≤ 100) := Lib.hid (fun i u hi hu => by
              by_cases e : i = j
              · subst e
                have := hu.symm.trans HTJ.out
                cases this
                exact ⟨HK1T.out, by omega⟩
              · exact hall.out i u (by omega) hu)
            go_wp2
            exact ⟨⟨j + 1, by go_num, by omega, HNX⟩, by simp [intOf]; omega⟩
        · have g1 : (t.op != 1) = true := by simp [k1]
          clear k1
          go_wp2
          go_ret
          exact ⟨rfl, HK2.out.trans HB1.out⟩
      · have hlti : ¬ (j : Int) < n := by omega
        have HALL : Hid (∀ t ∈ l, t.op = 1 ∧ t.name.size ≤ 100) := Lib.hid (fun t ht => by
          obtain ⟨i, hi⟩ := List.getElem?_of_mem ht
          exact hall.out i t (by have := (List.getElem?_eq_some_iff.1 hi).1; have := HLN.out; omega) hi)
        clear hall
        have HXN : Hid ((l.map TrmB.tok).length = n) := Lib.hid (by rw [List.length_map]; exact HLN.out)
        have HXG : Hid (∀ (i : Nat) (t : TrmB), l[i]? = some t → (l.map TrmB.tok)[i]? = some t.tok) := Lib.hid (fun i t h => by rw [List.getElem?_map, h]; rfl)
        have HKD : Hid (∀ t ∈ l.map TrmB.tok, t.kind = 1) := Lib.hid (fun t ht => by
          obtain ⟨u, hu, rfl⟩ := List.mem_map.1 ht
          exact (HALL.out u hu).1)
        have HNMS : Hid (∀ t ∈ toX (l.map TrmB.tok), t.name.size ≤ 1000000) := Lib.hid (fun t ht => by
          rw [tox_map] at ht
          have := (HALL.out t ht).2
          omega)
        have HTX : Hid (toX (l.map TrmB.tok) = l) := Lib.hid (tox_map l)
        generalize l.map TrmB.tok = X at *
        have HL0 : Hid (XPart w3 (w3.alloc (Obj.cells #[] 52)) (leftP 2 (X.take 0)) (.slice (some ⟨w3.heap.size, 0, none⟩) 0 0)) := Lib.hid (xpart_new w3)
        clear hlt hj
        go_wp2_with fail
        go_loopw [13, 75] (fun lv iv wr => ∃ j : Nat, iv = .int .i64 j ∧ j ≤ n ∧ Hid (XPart w3 wr (leftP 2 (X.take j)) lv)) (fun _ iv _ => n - (intOf iv).toNat)
        case atStart => exact ⟨0, rfl, by omega, HL0⟩
        case round =>
          obtain ⟨j, rfl, hj, hp⟩ := hrel
          clear HL0
          by_cases hlt : j < n
          · have hlti : (j : Int) < n := by omega
            obtain ⟨t, ht⟩ : ∃ t, l[j]? = some t := ⟨_, List.getElem?_eq_getElem (by have := HLN.out; omega)⟩
            obtain ⟨c0, c1, c2⟩ := HC3.out wr hp.out.2 j t ht
            have HTJ := Lib.hid (HXG.out j t ht)
            have hll := left_len 2 (X.take j)
            rw [List.length_take, HXN.out] at hll
            obtain ⟨al, cl2, hv, _⟩ := hp.out.form
            subst hv
            clear ht
            have HPA := Lib.hid (hp.out.kept (Fr.of_alloc _ wr (Obj.cells #[.int .i64 t.op, .int .i64 t.of, .string t.name] 52)))
            by_cases hj0 : j = 0
            · subst hj0
              have HZ0 : Hid (leftP 2 (X.take 0) = []) := Lib.hid rfl
              have HZ1 : Hid (leftP 2 (X.take (0 + 1)) = [] ++ [t.tok]) := Lib.hid (left_zero HTJ.out)
              rw [HZ0.out] at *
              simp only [List.length_nil, Nat.zero_mul, Nat.add_zero] at *
              go_wp2_with (at_builtin; go_must (refine list_app rfl (.tmp 78) (.tmp 83) 25 25 rfl Tryz.sliceX rfl (by exact (HPA.out).1) rfl (src_three Tryz.underlying25 (heap_alloc_new _ _) rfl rfl rfl) (by unfold maxLen; omega) (by omega) (by exact (HPA.out).2.size) ?_; intro v9 w9 hq; have HQ := Lib.hid (xpart_one hp.out (Fr.of_alloc _ _ _) t hq); clear hq))
              exact ⟨⟨1, rfl, by omega, Lib.hid (by rw [HZ1.out]; exact HQ.out)⟩, by simp [intOf]; omega⟩
            · have gj : (0 : Int) < (j : Int) := by omega
              have HZ1 := Lib.hid (left_next (k := 2) (by omega : 0 < j) HTJ.out)
              generalize leftP 2 (X.take j) = Y at *
              go_wp2_with (first
                | (at_builtin; refine list_app rfl (.tmp 78) (.tmp 83) 25 25 rfl Tryz.sliceX rfl (by exact HPA.out.1) rfl (src_three Tryz.underlying25 (heap_alloc_new _ _) rfl rfl rfl) (by unfold maxLen; omega) (by omega) (by exact HPA.out.2.size) ?_; intro v8 w8 hq; obtain ⟨Y2, HY2, HQ, hl2⟩ : ∃ Y2, Hid (Y2 = Y ++ [t.tok]) ∧ Hid (XPart w3 w8 Y2 v8) ∧ Y2.length ≤ Y.length + 1 := ⟨_, Lib.hid rfl, Lib.hid (xpart_one hp.out (Fr.of_alloc _ _ _) t hq), by simp⟩; clear hq; obtain ⟨o0, o1, o2⟩ := HOB.out w8 HQ.out.2; have HQA := Lib.hid (HQ.out.kept (Fr.of_alloc _ w8 (Obj.cells #[.int .i64 2, .int .i64 0, .string ⟨#[]⟩] 52))); obtain ⟨a8, c8, hv8, _⟩ := HQ.out.form; subst hv8)
                | (at_builtin; go_must (refine list_app rfl (.tmp 87) (.tmp 89) 25 25 rfl Tryz.sliceX rfl (by exact (HQA.out).1) rfl (src_three Tryz.underlying25 (heap_alloc_new _ _) rfl rfl rfl) (by unfold maxLen; omega) (by omega) (by exact (HQA.out).2.size) ?_; intro v9 w9 hq; have HR := Lib.hid (xpart_op HQ.out (Fr.of_alloc _ _ _) 2 hq); clear hq)))
              exact ⟨⟨j + 1, by go_num, by omega, Lib.hid (by have := HR.out; rw [HY2.out, List.append_assoc] at this; rw [HZ1.out]; exact this)⟩, by simp [intOf]; omega⟩
          · have hje : j = n := by omega
            subst hje
            have HLF := Lib.hid hp.out
            rw [List.take_of_length_le (by rw [HXN.out]; exact Nat.le_refl _)] at HLF
            clear hp hj
            obtain ⟨al, cl2, hv, _⟩ := HLF.out.form
            subst hv
            have HR0 : Hid (XPart wr (wr.alloc (Obj.cells #[] 52)) [] (.slice (some ⟨wr.heap.size, 0, none⟩) 0 0)) := Lib.hid (xpart_new wr)
            have HSRC := Lib.hid (readsX_src (P := Tryz.prog) (HLW.out _ ((HB1.out.trans HLF.out.2).trans HR0.out.2)) Tryz.underlying25)
            rw [HLN.out] at HSRC
            generalize hw5 : wr = w5 at *
            clear hw5 hlt
            have hlti : ¬ (j : Int) < j := by omega
            go_wp2_with (at_builtin; go_must (refine list_app rfl (.tmp 92) (.tmp 93) 25 25 rfl Tryz.sliceX rfl (by exact HR0.out.1) rfl (by exact HSRC.out) (by unfold maxLen; simp only [List.length_nil]; omega) (by simp only [List.length_nil]; omega) (by exact HR0.out.2.size) ?_; intro v6 w6 hq; have HR1 : Hid (XPart w5 w6 (X ++ List.replicate (1 - 1) (opT 2)) v6) := Lib.hid (by have := HR0.out.app (y := X) (by rw [HTX.out, HXN.out]; exact hq); simpa using this); clear hq))
            clear HR0 HSRC
            go_loopw [15, 16] (fun rv iv wr => ∃ i : Nat, iv = .int .i64 i ∧ 1 ≤ i ∧ i ≤ j ∧ Hid (XPart w5 wr (X ++ List.replicate (i - 1) (opT 2)) rv)) (fun _ iv _ => j - (intOf iv).toNat)
            case atStart => exact ⟨1, rfl, by omega, by omega, HR1⟩
            case round =>
              obtain ⟨i, rfl, hi1, hi, hp⟩ := hrel
              clear HR1
              by_cases hlt : i < j
              · have hlti : (i : Int) < j := by omega
                obtain ⟨o0, o1, o2⟩ := HOB.out wr (HLF.out.2.trans hp.out.2)
                have HPA := Lib.hid (hp.out.kept (Fr.of_alloc _ wr (Obj.cells #[.int .i64 2, .int .i64 0, .string ⟨#[]⟩] 52)))
                obtain ⟨al3, cl3, hv, _⟩ := hp.out.form
                subst hv
                have hll : (X ++ List.replicate (i - 1) (opT 2)).length ≤ 16 := by rw [List.length_append, List.length_replicate, HXN.out]; omega
                have HSTP := Lib.hid (right_step (k := 2) (X := X) hi1)
                generalize X ++ List.replicate (i - 1) (opT 2) = Y at *
                go_wp2_with (at_builtin; go_must (refine list_app rfl (.tmp 101) (.tmp 103) 25 25 rfl Tryz.sliceX rfl (by exact (HPA.out).1) rfl (src_three Tryz.underlying25 (heap_alloc_new _ _) rfl rfl rfl) (by unfold maxLen; omega) (by omega) (by exact (HPA.out).2.size) ?_; intro v9 w9 hq; have HQ := Lib.hid (xpart_op hp.out (Fr.of_alloc _ _ _) 2 hq); clear hq))
                exact ⟨⟨i + 1, by go_num, by omega, by omega, Lib.hid (by rw [HSTP.out]; exact HQ.out)⟩, by simp [intOf]; omega⟩
              · have hie : i = j := by omega
                subst hie
                have HRT := Lib.hid hp.out
                rw [show X ++ List.replicate (i - 1) (opT 2) = rightP 2 X by unfold rightP; rw [HXN.out]] at HRT
                clear hp hi hi1 hlt
                obtain ⟨al3, cl3, hv, _⟩ := HRT.out.form
                subst hv
                obtain ⟨q, hq1, hq2⟩ := rem_at ha0 (show 2 ≤ i by omega)
                have HQ2 := Lib.hid hq2
                have hwq : IntKind.i64.wrap a0 = a0 := IntWalk.i64_in _ (by omega)
                have hz1 : ((i : Int) - 1 == 0) = false := by simp; omega
                have hz2 : ¬ ((i : Int) - 1 = 0) := by omega
                have hlti : ¬ (i : Int) < i := by omega
                have hqi : IntKind.i64.wrap (1 + (q : Int)) = 1 + (q : Int) := IntWalk.i64_in _ (by omega)
                clear hq2
                generalize hw7 : wr = w7 at *
                clear hw7
                have HM0 : Hid (XPart w7 (w7.alloc (Obj.cells #[] 52)) (midI 2 (q + 1) X 0) (.slice (some ⟨w7.heap.size, 0, none⟩) 0 0)) := Lib.hid (by
                  have := xpart_new w7
                  rw [show midI 2 (q + 1) X 0 = [] by unfold midI; rw [if_pos (Nat.zero_le _)]; rfl]
                  exact this)
                have HK37 : Hid (Kept w3 w7) := Lib.hid (HLF.out.2.trans HRT.out.2)
                go_wp2_with fail
                go_loopw [18, 115] (fun mv iv wr => ∃ j : Nat, iv = .int .i64 j ∧ j ≤ i ∧ Hid (XPart w7 wr (midI 2 (q + 1) X j) mv)) (fun _ iv _ => i - (intOf iv).toNat)
                case atStart => exact ⟨0, rfl, by omega, HM0⟩
                case round =>
                  obtain ⟨j, rfl, hj, hp⟩ := hrel
                  clear HM0
                  by_cases hlt : j < i
                  · have hlti : (j : Int) < i := by omega
                    obtain ⟨t, ht⟩ : ∃ t, l[j]? = some t := ⟨_, List.getElem?_eq_getElem (by have := HLN.out; omega)⟩
                    obtain ⟨c0, c1, c2⟩ := HC3.out wr (HK37.out.trans hp.out.2) j t ht
                    have HTJ := Lib.hid (HXG.out j t ht)
                    have hll := mid_len 2 (q + 1) X j
                    rw [HXN.out] at hll
                    obtain ⟨al4, cl4, hv, _⟩ := hp.out.form
                    subst hv
                    clear ht
                    have HPA := Lib.hid (hp.out.kept (Fr.of_alloc _ wr (Obj.cells #[.int .i64 t.op, .int .i64 t.of, .string t.name] 52)))
                    by_cases hj0 : j = 0
                    · subst hj0
                      have HZ0 : Hid (midI 2 (q + 1) X 0 = []) := Lib.hid (by unfold midI; rw [if_pos (Nat.zero_le _)]; rfl)
                      have HZ1 : Hid (midI 2 (q + 1) X (0 + 1) = [] ++ [t.tok]) := Lib.hid (mid_zero (by omega) HTJ.out)
                      rw [HZ0.out] at *
                      simp only [List.length_nil, Nat.zero_mul, Nat.add_zero] at *
                      go_wp2_with (at_builtin; go_must (refine list_app rfl (.tmp 118) (.tmp 123) 25 25 rfl Tryz.sliceX rfl (by exact (HPA.out).1) rfl (src_three Tryz.underlying25 (heap_alloc_new _ _) rfl rfl rfl) (by unfold maxLen; omega) (by omega) (by exact (HPA.out).2.size) ?_; intro v9 w9 hq; have HQ := Lib.hid (xpart_one hp.out (Fr.of_alloc _ _ _) t hq); clear hq))
                      exact ⟨⟨1, rfl, by omega, Lib.hid (by rw [HZ1.out]; exact HQ.out)⟩, by simp [intOf]; omega⟩
                    · have gj : (0 : Int) < (j : Int) := by omega
                      by_cases hjq : j = q + 1
                      · have gq : ((j : Int) != 1 + (q : Int)) = false := by simp; omega
                        have HZ1 : Hid (midI 2 (q + 1) X (j + 1) = midI 2 (q + 1) X j ++ [t.tok]) := Lib.hid (by have h := HTJ.out; rw [hjq] at h ⊢; exact mid_at h)
                        generalize midI 2 (q + 1) X j = Y at *
                        clear hjq
                        go_wp2_with (at_builtin; go_must (refine list_app rfl (.tmp 118) (.tmp 123) 25 25 rfl Tryz.sliceX rfl (by exact (HPA.out).1) rfl (src_three Tryz.underlying25 (heap_alloc_new _ _) rfl rfl rfl) (by unfold maxLen; omega) (by omega) (by exact (HPA.out).2.size) ?_; intro v9 w9 hq; have HQ := Lib.hid (xpart_one hp.out (Fr.of_alloc _ _ _) t hq); clear hq))
                        exact ⟨⟨j + 1, by go_num, by omega, Lib.hid (by rw [HZ1.out]; exact HQ.out)⟩, by simp [intOf]; omega⟩
                      · have gq : ((j : Int) != 1 + (q : Int)) = true := by simp; omega
                        have HZ1 : Hid (midI 2 (q + 1) X (j + 1) = midI 2 (q + 1) X j ++ [t.tok, opT 2]) := Lib.hid (by
                          by_cases h : j < q + 1
                          · exact mid_low (by omega) h HTJ.out
                          · exact mid_high (by omega) HTJ.out)
                        generalize midI 2 (q + 1) X j = Y at *
                        clear hjq
                        go_wp2_with (first
                          | (at_builtin; refine list_app rfl (.tmp 118) (.tmp 123) 25 25 rfl Tryz.sliceX rfl (by exact HPA.out.1) rfl (src_three Tryz.underlying25 (heap_alloc_new _ _) rfl rfl rfl) (by unfold maxLen; omega) (by omega) (by exact HPA.out.2.size) ?_; intro v8 w8 hq; obtain ⟨Y2, HY2, HQ, hl2⟩ : ∃ Y2, Hid (Y2 = Y ++ [t.tok]) ∧ Hid (XPart w7 w8 Y2 v8) ∧ Y2.length ≤ Y.length + 1 := ⟨_, Lib.hid rfl, Lib.hid (xpart_one hp.out (Fr.of_alloc _ _ _) t hq), by simp⟩; clear hq; obtain ⟨o0, o1, o2⟩ := HOB.out w8 (HK37.out.trans HQ.out.2); have HQA := Lib.hid (HQ.out.kept (Fr.of_alloc _ w8 (Obj.cells #[.int .i64 2, .int .i64 0, .string ⟨#[]⟩] 52))); obtain ⟨a8, c8, hv8, _⟩ := HQ.out.form; subst hv8)
                          | (at_builtin; go_must (refine list_app rfl (.tmp 132) (.tmp 134) 25 25 rfl Tryz.sliceX rfl (by exact (HQA.out).1) rfl (src_three Tryz.underlying25 (heap_alloc_new _ _) rfl rfl rfl) (by unfold maxLen; omega) (by omega) (by exact (HQA.out).2.size) ?_; intro v9 w9 hq; have HR := Lib.hid (xpart_op HQ.out (Fr.of_alloc _ _ _) 2 hq); clear hq)))
                        exact ⟨⟨j + 1, by go_num, by omega, Lib.hid (by have := HR.out; rw [HY2.out, List.append_assoc] at this; rw [HZ1.out]; exact this)⟩, by simp [intOf]; omega⟩
                  · have hji : j = i := by omega
                    subst hji
                    have HMF := Lib.hid hp.out
                    have hml := mid_len 2 (q + 1) X j
                    rw [HXN.out] at hml
                    have HEND : Hid (midI 2 (q + 1) X j ++ [opT 2] = midP 2 (q + 1) X) := Lib.hid (by rw [← mid_end (k := 2) (l := X) (n := q + 1) (by rw [HXN.out]; have := HQ2.out; omega), HXN.out])
                    clear hp hj hlt
                    have hlti2 : ¬ (j : Int) < j := by omega
                    obtain ⟨al4, cl4, hv, _⟩ := HMF.out.form
                    subst hv
                    obtain ⟨o0, o1, o2⟩ := HOB.out wr (HK37.out.trans HMF.out.2)
                    have HPA := Lib.hid (HMF.out.kept (Fr.of_alloc _ wr (Obj.cells #[.int .i64 2, .int .i64 0, .string ⟨#[]⟩] 52)))
                    generalize midI 2 (q + 1) X j = Y at *
                    go_wp2_with (at_builtin; go_must (refine list_app rfl (.tmp 137) (.tmp 139) 25 25 rfl Tryz.sliceX rfl (by exact (HPA.out).1) rfl (src_three Tryz.underlying25 (heap_alloc_new _ _) rfl rfl rfl) (by unfold maxLen; omega) (by omega) (by exact (HPA.out).2.size) ?_; intro v9 w9 hq; have HMX := Lib.hid (xpart_op HMF.out (Fr.of_alloc _ _ _) 2 hq); clear hq))
                    rw [HEND.out] at HMX
                    have HK79 := Lib.hid HMX.out.2
                    have HW39 := Lib.hid (HK37.out.trans HK79.out)
                    have HLX := Lib.hid ((HLF.out.kept (HRT.out.2.trans HK79.out)).reads)
                    have HRX := Lib.hid ((HRT.out.kept HK79.out).reads)
                    have HMR := Lib.hid HMX.out.reads
                    have HK29 := Lib.hid (HB1.out.trans HW39.out)
                    have HKW9 := Lib.hid (HK2.out.trans HK29.out)
                    have HR1 := Lib.hid (HN.out.run w9 HKW9.out F B L _ (toX (leftP 2 X)) (HT.out.later HK29.out) HLX.out (by rw [toX_len]; have := left_len 2 X; rw [HXN.out] at this; omega) (names_of HNMS.out (fun t h => mem_left h)))
                    rw [toX_tok] at HR1
                    obtain ⟨aM, cM, hvM, _⟩ := HMX.out.form
                    subst hvM
                    have HLN2 := Lib.hid (left_len 2 X)
                    have HPM : Hid (2 ≤ X.length ∧ X.length ≤ 8 ∧ 1 ≤ q + 1 ∧ q + 1 < X.length) := Lib.hid (by rw [HXN.out]; have := HQ2.out; omega)
                    have HRL : Hid ((toX (rightP 2 X)).length ≤ 1000000 ∧ (toX (midP 2 (q + 1) X)).length ≤ 1000000) := Lib.hid ⟨by rw [toX_len]; unfold rightP; rw [List.length_append, List.length_replicate, HXN.out]; omega, by rw [toX_len, ← HEND.out, List.length_append]; simp; omega⟩
                    clear o0 o1 o2 HPA HEND
                    go_wp2_with fail
                    refine HR1.out.mono ?_
                    rintro e wA ⟨v1, s1, n1, q1, rfl, hr1, hd1, hkA⟩
                    have HS1 := Lib.hid hr1
                    have HD1 := Lib.hid hd1
                    have HKA := Lib.hid hkA
                    obtain ⟨a1, k1, rfl, _⟩ := hd1
                    clear hr1 hkA HR1
                    have HR2 := Lib.hid (HN.out.run wA (HKW9.out.trans HKA.out) F B L _ (toX (rightP 2 X)) (HT.out.later (HK29.out.trans HKA.out)) (HRX.out.kept HKA.out) HRL.out.1 (names_of HNMS.out (fun t h => mem_rightP h)))
                    rw [toX_tok] at HR2
                    go_wp2_with fail
                    refine HR2.out.mono ?_
                    rintro e wB ⟨v2, s2, n2, q2, rfl, hr2, hd2, hkB⟩
                    have HS2 := Lib.hid hr2
                    have HD2 := Lib.hid hd2
                    have HKB := Lib.hid (HKA.out.trans hkB)
                    have HD1B := Lib.hid (HD1.out.new hkB)
                    obtain ⟨a2, k2, rfl, _⟩ := hd2
                    clear hr2 hkB HR2
                    have HR3 := Lib.hid (HN.out.run wB (HKW9.out.trans HKB.out) F B L _ (toX (midP 2 (q + 1) X)) (HT.out.later (HK29.out.trans HKB.out)) (HMR.out.kept HKB.out) HRL.out.2 (names_of HNMS.out (fun t h => mem_mid h)))
                    rw [toX_tok] at HR3
                    go_wp2_with fail
                    refine HR3.out.mono ?_
                    rintro e wC ⟨v3, s3, n3, q3, rfl, hr3, hd3, hkC⟩
                    have hs := parens_same HG.out (.inl rfl) HPM.out.1 HPM.out.2.1 HKD.out HPM.out.2.2.1 HPM.out.2.2.2 HS1.out HS2.out hr3
                    simp only [] at hs
                    obtain ⟨⟨rfl, rfl⟩, rfl, rfl⟩ := hs
                    have hln := run_len HG.out HS1.out
                    simp only [] at hln
                    have HKC := Lib.hid (HKB.out.trans hkC)
                    have HEQ1 := Lib.hid (equal_any (HD1B.out.new hkC) (HD2.out.new hkC) hln hln)
                    have HEQ2 : Hid (∀ m, Calls Tryz.prog 14 _ (wC.drewN m) _) := Lib.hid (fun m => equal_any ((HD1B.out.new hkC).new (Fr.of_drewN _ wC m)) (hd3.new (Fr.of_drewN _ wC m)) hln hln)
                    rw [decide_eq_true rfl] at HEQ1 HEQ2
                    obtain ⟨a3, k3, rfl, _⟩ := hd3
                    have gq : (q1 == q1) = true := by simp
                    clear hr3 hkC HR3 hln
                    go_wp2_with fail
                    refine HEQ1.out.mono ?_
                    rintro e wD ⟨rfl, m, rfl⟩
                    go_wp2_with fail
                    refine (HEQ2.out m).mono ?_
                    rintro e wE ⟨rfl, m2, rfl⟩
                    have HKE := Lib.hid ((HKW9.out.trans HKC.out).trans (Fr.of_drewN (fun _ => False) wC (m + m2)))
                    go_wp2
                    go_ret
                    exact ⟨rfl, HKE.out⟩
  · go_upto_region 9 with fail
    have HB0 : Hid ((w2.alloc (.cells #[.int .i64 4, .int .i64 0, .string ⟨#[]⟩] 52)).heap[w2.heap.size]? = some (.cells #[.int .i64 4, .int .i64 0, .string ⟨#[]⟩] 52 (0, 0))) := Lib.hid (heap_alloc_new _ _)
    have HB1 : Hid (Kept w2 (w2.alloc (.cells #[.int .i64 4, .int .i64 0, .string ⟨#[]⟩] 52))) := Lib.hid (Fr.of_alloc _ _ _)
    generalize w2.alloc (Obj.cells #[.int .i64 4, .int .i64 0, .string ⟨#[]⟩] 52) = w3 at HB0 HB1 ⊢
    generalize w2.heap.size = b at HB0 ⊢
    have HOB : Hid (∀ W, Kept w3 W → W.cell? ⟨b, 0, none⟩ = some (.int .i64 4) ∧ W.cell? ⟨b, 1, none⟩ = some (.int .i64 0) ∧ W.cell? ⟨b, 2, none⟩ = some (.string ⟨#[]⟩)) := Lib.hid (fun W hW => ⟨hW.cell (by rw [cell_whole HB0.out]; rfl) (fun x => x), hW.cell (by rw [cell_whole HB0.out]; rfl) (fun x => x), hW.cell (by rw [cell_whole HB0.out]; rfl) (fun x => x)⟩)
    have HC3 : Hid (∀ W, Kept w3 W → ∀ (i : Nat) (t : TrmB), l[i]? = some t → W.cell? ⟨g, off + i * 3, none⟩ = some (.int .i64 t.op) ∧ W.cell? ⟨g, off + i * 3 + 1, none⟩ = some (.int .i64 t.of) ∧ W.cell? ⟨g, off + i * 3 + 2, none⟩ = some (.string t.name)) := Lib.hid (fun W hW => HCE.out W (HB1.out.trans hW))
    clear HB0
    go_wp2_with fail
    go_loop [53] (fun iv => ∃ j : Nat, iv = .int .i64 j ∧ j ≤ n ∧ Hid (∀ (i : Nat) (t : TrmB), i < j → l[i]? = some t → t.op = 1 ∧ t.name.size ≤ 100)) (fun iv => n - (intOf iv).toNat)
    case atStart => exact ⟨0, rfl, by omega, Lib.hid (fun i t h => by omega)⟩
    case round =>
      obtain ⟨j, rfl, hj, hall⟩ := hrel
      by_cases hlt : j < n
      · have hlti : (j : Int) < n := by omega
        obtain ⟨t, ht⟩ : ∃ t, l[j]? = some t := ⟨_, List.getElem?_eq_getElem (by have := HLN.out; omega)⟩
        obtain ⟨c0, c1, c2⟩ := HC3.out w3 (Fr.refl _ _) j t ht
        have HTJ := Lib.hid ht
        clear ht
        by_cases k1 : t.op = 1
        · have g1 : (t.op != 1) = false := by simp [k1]
          have HK1T := Lib.hid k1
          rw [k1] at c0
          clear k1
          by_cases hs : 100 < t.name.size
          · have hsi : (100 : Int) < (t.name.size : Int) := by omega
            go_wp2
            go_ret
            exact ⟨rfl, HK2.out.trans HB1.out⟩
          · have hsi : ¬ (100 : Int) < (t.name.size : Int) := by omega
            have HNX : Hid (∀ (i : Nat) (u : TrmB), i < j + 1 → l[i]? = some u → u.op = 1 ∧ u.name.size ≤ 100) := Lib.hid (fun i u hi hu => by
              by_cases e : i = j
              · subst e
                have := hu.symm.trans HTJ.out
                cases this
                exact ⟨HK1T.out, by omega⟩
              · exact hall.out i u (by omega) hu)
            go_wp2
            exact ⟨⟨j + 1, by go_num, by omega, HNX⟩, by simp [intOf]; omega⟩
        · have g1 : (t.op != 1) = true := by simp [k1]
          clear k1
          go_wp2
          go_ret
          exact ⟨rfl, HK2.out.trans HB1.out⟩
      · have hlti : ¬ (j : Int) < n := by omega
        have HALL : Hid (∀ t ∈ l, t.op = 1 ∧ t.name.size ≤ 100) := Lib.hid (fun t ht => by
          obtain ⟨i, hi⟩ := List.getElem?_of_mem ht
          exact hall.out i t (by have := (List.getElem?_eq_some_iff.1 hi).1; have := HLN.out; omega) hi)
        clear hall
        have HXN : Hid ((l.map TrmB.tok).length = n) := Lib.hid (by rw [List.length_map]; exact HLN.out)
        have HXG : Hid (∀ (i : Nat) (t : TrmB), l[i]? = some t → (l.map TrmB.tok)[i]? = some t.tok) := Lib.hid (fun i t h => by rw [List.getElem?_map, h]; rfl)
        have HKD : Hid (∀ t ∈ l.map TrmB.tok, t.kind = 1) := Lib.hid (fun t ht => by
          obtain ⟨u, hu, rfl⟩ := List.mem_map.1 ht
          exact (HALL.out u hu).1)
        have HNMS : Hid (∀ t ∈ toX (l.map TrmB.tok), t.name.size ≤ 1000000) := Lib.hid (fun t ht => by
          rw [tox_map] at ht
          have := (HALL.out t ht).2
          omega)
        have HTX : Hid (toX (l.map TrmB.tok) = l) := Lib.hid (tox_map l)
        generalize l.map TrmB.tok = X at *
        have HL0 : Hid (XPart w3 (w3.alloc (Obj.cells #[] 52)) (leftP 4 (X.take 0)) (.slice (some ⟨w3.heap.size, 0, none⟩) 0 0)) := Lib.hid (xpart_new w3)
        clear hlt hj
        go_wp2_with fail
        go_loopw [13, 75] (fun lv iv wr => ∃ j : Nat, iv = .int .i64 j ∧ j ≤ n ∧ Hid (XPart w3 wr (leftP 4 (X.take j)) lv)) (fun _ iv _ => n - (intOf iv).toNat)
        case atStart => exact ⟨0, rfl, by omega, HL0⟩
        case round =>
          obtain ⟨j, rfl, hj, hp⟩ := hrel
          clear HL0
          by_cases hlt : j < n
          · have hlti : (j : Int) < n := by omega
            obtain ⟨t, ht⟩ : ∃ t, l[j]? = some t := ⟨_, List.getElem?_eq_getElem (by have := HLN.out; omega)⟩
            obtain ⟨c0, c1, c2⟩ := HC3.out wr hp.out.2 j t ht
            have HTJ := Lib.hid (HXG.out j t ht)
            have hll := left_len 4 (X.take j)
            rw [List.length_take, HXN.out] at hll
            obtain ⟨al, cl2, hv, _⟩ := hp.out.form
            subst hv
            clear ht
            have HPA := Lib.hid (hp.out.kept (Fr.of_alloc _ wr (Obj.cells #[.int .i64 t.op, .int .i64 t.of, .string t.name] 52)))
            by_cases hj0 : j = 0
            · subst hj0
              have HZ0 : Hid (leftP 4 (X.take 0) = []) := Lib.hid rfl
              have HZ1 : Hid (leftP 4 (X.take (0 + 1)) = [] ++ [t.tok]) := Lib.hid (left_zero HTJ.out)
              rw [HZ0.out] at *
              simp only [List.length_nil, Nat.zero_mul, Nat.add_zero] at *
              go_wp2_with (at_builtin; go_must (refine list_app rfl (.tmp 78) (.tmp 83) 25 25 rfl Tryz.sliceX rfl (by exact (HPA.out).1) rfl (src_three Tryz.underlying25 (heap_alloc_new _ _) rfl rfl rfl) (by unfold maxLen; omega) (by omega) (by exact (HPA.out).2.size) ?_; intro v9 w9 hq; have HQ := Lib.hid (xpart_one hp.out (Fr.of_alloc _ _ _) t hq); clear hq))
              exact ⟨⟨1, rfl, by omega, Lib.hid (by rw [HZ1.out]; exact HQ.out)⟩, by simp [intOf]; omega⟩
            · have gj : (0 : Int) < (j : Int) := by omega
              have HZ1 := Lib.hid (left_next (k := 4) (by omega : 0 < j) HTJ.out)
              generalize leftP 4 (X.take j) = Y at *
              go_wp2_with (first
                | (at_builtin; refine list_app rfl (.tmp 78) (.tmp 83) 25 25 rfl Tryz.sliceX rfl (by exact HPA.out.1) rfl (src_three Tryz.underlying25 (heap_alloc_new _ _) rfl rfl rfl) (by unfold maxLen; omega) (by omega) (by exact HPA.out.2.size) ?_; intro v8 w8 hq; obtain ⟨Y2, HY2, HQ, hl2⟩ : ∃ Y2, Hid (Y2 = Y ++ [t.tok]) ∧ Hid (XPart w3 w8 Y2 v8) ∧ Y2.length ≤ Y.length + 1 := ⟨_, Lib.hid rfl, Lib.hid (xpart_one hp.out (Fr.of_alloc _ _ _) t hq), by simp⟩; clear hq; obtain ⟨o0, o1, o2⟩ := HOB.out w8 HQ.out.2; have HQA := Lib.hid (HQ.out.kept (Fr.of_alloc _ w8 (Obj.cells #[.int .i64 4, .int .i64 0, .string ⟨#[]⟩] 52))); obtain ⟨a8, c8, hv8, _⟩ := HQ.out.form; subst hv8)
                | (at_builtin; go_must (refine list_app rfl (.tmp 87) (.tmp 89) 25 25 rfl Tryz.sliceX rfl (by exact (HQA.out).1) rfl (src_three Tryz.underlying25 (heap_alloc_new _ _) rfl rfl rfl) (by unfold maxLen; omega) (by omega) (by exact (HQA.out).2.size) ?_; intro v9 w9 hq; have HR := Lib.hid (xpart_op HQ.out (Fr.of_alloc _ _ _) 4 hq); clear hq)))
              exact ⟨⟨j + 1, by go_num, by omega, Lib.hid (by have := HR.out; rw [HY2.out, List.append_assoc] at this; rw [HZ1.out]; exact this)⟩, by simp [intOf]; omega⟩
          · have hje : j = n := by omega
            subst hje
            have HLF := Lib.hid hp.out
            rw [List.take_of_length_le (by rw [HXN.out]; exact Nat.le_refl _)] at HLF
            clear hp hj
            obtain ⟨al, cl2, hv, _⟩ := HLF.out.form
            subst hv
            have HR0 : Hid (XPart wr (wr.alloc (Obj.cells #[] 52)) [] (.slice (some ⟨wr.heap.size, 0, none⟩) 0 0)) := Lib.hid (xpart_new wr)
            have HSRC := Lib.hid (readsX_src (P := Tryz.prog) (HLW.out _ ((HB1.out.trans HLF.out.2).trans HR0.out.2)) Tryz.underlying25)
            rw [HLN.out] at HSRC
            generalize hw5 : wr = w5 at *
            clear hw5 hlt
            have hlti : ¬ (j : Int) < j := by omega
            go_wp2_with (at_builtin; go_must (refine list_app rfl (.tmp 92) (.tmp 93) 25 25 rfl Tryz.sliceX rfl (by exact HR0.out.1) rfl (by exact HSRC.out) (by unfold maxLen; simp only [List.length_nil]; omega) (by simp only [List.length_nil]; omega) (by exact HR0.out.2.size) ?_; intro v6 w6 hq; have HR1 : Hid (XPart w5 w6 (X ++ List.replicate (1 - 1) (opT 4)) v6) := Lib.hid (by have := HR0.out.app (y := X) (by rw [HTX.out, HXN.out]; exact hq); simpa using this); clear hq))
            clear HR0 HSRC
            go_loopw [15, 16] (fun rv iv wr => ∃ i : Nat, iv = .int .i64 i ∧ 1 ≤ i ∧ i ≤ j ∧ Hid (XPart w5 wr (X ++ List.replicate (i - 1) (opT 4)) rv)) (fun _ iv _ => j - (intOf iv).toNat)
            case atStart => exact ⟨1, rfl, by omega, by omega, HR1⟩
            case round =>
              obtain ⟨i, rfl, hi1, hi, hp⟩ := hrel
              clear HR1
              by_cases hlt : i < j
              · have hlti : (i : Int) < j := by omega
                obtain ⟨o0, o1, o2⟩ := HOB.out wr (HLF.out.2.trans hp.out.2)
                have HPA := Lib.hid (hp.out.kept (Fr.of_alloc _ wr (Obj.cells #[.int .i64 4, .int .i64 0, .string ⟨#[]⟩] 52)))
                obtain ⟨al3, cl3, hv, _⟩ := hp.out.form
                subst hv
                have hll : (X ++ List.replicate (i - 1) (opT 4)).length ≤ 16 := by rw [List.length_append, List.length_replicate, HXN.out]; omega
                have HSTP := Lib.hid (right_step (k := 4) (X := X) hi1)
                generalize X ++ List.replicate (i - 1) (opT 4) = Y at *
                go_wp2_with (at_builtin; go_must (refine list_app rfl (.tmp 101) (.tmp 103) 25 25 rfl Tryz.sliceX rfl (by exact (HPA.out).1) rfl (src_three Tryz.underlying25 (heap_alloc_new _ _) rfl rfl rfl) (by unfold maxLen; omega) (by omega) (by exact (HPA.out).2.size) ?_; intro v9 w9 hq; have HQ := Lib.hid (xpart_op hp.out (Fr.of_alloc _ _ _) 4 hq); clear hq))
                exact ⟨⟨i + 1, by go_num, by omega, by omega, Lib.hid (by rw [HSTP.out]; exact HQ.out)⟩, by simp [intOf]; omega⟩
              · have hie : i = j := by omega
                subst hie
                have HRT := Lib.hid hp.out
                rw [show X ++ List.replicate (i - 1) (opT 4) = rightP 4 X by unfold rightP; rw [HXN.out]] at HRT
                clear hp hi hi1 hlt
                obtain ⟨al3, cl3, hv, _⟩ := HRT.out.form
                subst hv
                obtain ⟨q, hq1, hq2⟩ := rem_at ha0 (show 2 ≤ i by omega)
                have HQ2 := Lib.hid hq2
                have hwq : IntKind.i64.wrap a0 = a0 := IntWalk.i64_in _ (by omega)
                have hz1 : ((i : Int) - 1 == 0) = false := by simp; omega
                have hz2 : ¬ ((i : Int) - 1 = 0) := by omega
                have hlti : ¬ (i : Int) < i := by omega
                have hqi : IntKind.i64.wrap (1 + (q : Int)) = 1 + (q : Int) := IntWalk.i64_in _ (by omega)
                clear hq2
                generalize hw7 : wr = w7 at *
                clear hw7
                have HM0 : Hid (XPart w7 (w7.alloc (Obj.cells #[] 52)) (midI 4 (q + 1) X 0) (.slice (some ⟨w7.heap.size, 0, none⟩) 0 0)) := Lib.hid (by
                  have := xpart_new w7
                  rw [show midI 4 (q + 1) X 0 = [] by unfold midI; rw [if_pos (Nat.zero_le _)]; rfl]
                  exact this)
                have HK37 : Hid (Kept w3 w7) := Lib.hid (HLF.out.2.trans HRT.out.2)
                go_wp2_with fail
                go_loopw [18, 115] (fun mv iv wr => ∃ j : Nat, iv = .int .i64 j ∧ j ≤ i ∧ Hid (XPart w7 wr (midI 4 (q + 1) X j) mv)) (fun _ iv _ => i - (intOf iv).toNat)
                case atStart => exact ⟨0, rfl, by omega, HM0⟩
                case round =>
                  obtain ⟨j, rfl, hj, hp⟩ := hrel
                  clear HM0
                  by_cases hlt : j < i
                  · have hlti : (j : Int) < i := by omega
                    obtain ⟨t, ht⟩ : ∃ t, l[j]? = some t := ⟨_, List.getElem?_eq_getElem (by have := HLN.out; omega)⟩
                    obtain ⟨c0, c1, c2⟩ := HC3.out wr (HK37.out.trans hp.out.2) j t ht
                    have HTJ := Lib.hid (HXG.out j t ht)
                    have hll := mid_len 4 (q + 1) X j
                    rw [HXN.out] at hll
                    obtain ⟨al4, cl4, hv, _⟩ := hp.out.form
                    subst hv
                    clear ht
                    have HPA := Lib.hid (hp.out.kept (Fr.of_alloc _ wr (Obj.cells #[.int .i64 t.op, .int .i64 t.of, .string t.name] 52)))
                    by_cases hj0 : j = 0
                    · subst hj0
                      have HZ0 : Hid (midI 4 (q + 1) X 0 = []) := Lib.hid (by unfold midI; rw [if_pos (Nat.zero_le _)]; rfl)
                      have HZ1 : Hid (midI 4 (q + 1) X (0 + 1) = [] ++ [t.tok]) := Lib.hid (mid_zero (by omega) HTJ.out)
                      rw [HZ0.out] at *
                      simp only [List.length_nil, Nat.zero_mul, Nat.add_zero] at *
                      go_wp2_with (at_builtin; go_must (refine list_app rfl (.tmp 118) (.tmp 123) 25 25 rfl Tryz.sliceX rfl (by exact (HPA.out).1) rfl (src_three Tryz.underlying25 (heap_alloc_new _ _) rfl rfl rfl) (by unfold maxLen; omega) (by omega) (by exact (HPA.out).2.size) ?_; intro v9 w9 hq; have HQ := Lib.hid (xpart_one hp.out (Fr.of_alloc _ _ _) t hq); clear hq))
                      exact ⟨⟨1, rfl, by omega, Lib.hid (by rw [HZ1.out]; exact HQ.out)⟩, by simp [intOf]; omega⟩
                    · have gj : (0 : Int) < (j : Int) := by omega
                      by_cases hjq : j = q + 1
                      · have gq : ((j : Int) != 1 + (q : Int)) = false := by simp; omega
                        have HZ1 : Hid (midI 4 (q + 1) X (j + 1) = midI 4 (q + 1) X j ++ [t.tok]) := Lib.hid (by have h := HTJ.out; rw [hjq] at h ⊢; exact mid_at h)
                        generalize midI 4 (q + 1) X j = Y at *
                        clear hjq
                        go_wp2_with (at_builtin; go_must (refine list_app rfl (.tmp 118) (.tmp 123) 25 25 rfl Tryz.sliceX rfl (by exact (HPA.out).1) rfl (src_three Tryz.underlying25 (heap_alloc_new _ _) rfl rfl rfl) (by unfold maxLen; omega) (by omega) (by exact (HPA.out).2.size) ?_; intro v9 w9 hq; have HQ := Lib.hid (xpart_one hp.out (Fr.of_alloc _ _ _) t hq); clear hq))
                        exact ⟨⟨j + 1, by go_num, by omega, Lib.hid (by rw [HZ1.out]; exact HQ.out)⟩, by simp [intOf]; omega⟩
                      · have gq : ((j : Int) != 1 + (q : Int)) = true := by simp; omega
                        have HZ1 : Hid (midI 4 (q + 1) X (j + 1) = midI 4 (q + 1) X j ++ [t.tok, opT 4]) := Lib.hid (by
                          by_cases h : j < q + 1
                          · exact mid_low (by omega) h HTJ.out
                          · exact mid_high (by omega) HTJ.out)
                        generalize midI 4 (q + 1) X j = Y at *
                        clear hjq
                        go_wp2_with (first
                          | (at_builtin; refine list_app rfl (.tmp 118) (.tmp 123) 25 25 rfl Tryz.sliceX rfl (by exact HPA.out.1) rfl (src_three Tryz.underlying25 (heap_alloc_new _ _) rfl rfl rfl) (by unfold maxLen; omega) (by omega) (by exact HPA.out.2.size) ?_; intro v8 w8 hq; obtain ⟨Y2, HY2, HQ, hl2⟩ : ∃ Y2, Hid (Y2 = Y ++ [t.tok]) ∧ Hid (XPart w7 w8 Y2 v8) ∧ Y2.length ≤ Y.length + 1 := ⟨_, Lib.hid rfl, Lib.hid (xpart_one hp.out (Fr.of_alloc _ _ _) t hq), by simp⟩; clear hq; obtain ⟨o0, o1, o2⟩ := HOB.out w8 (HK37.out.trans HQ.out.2); have HQA := Lib.hid (HQ.out.kept (Fr.of_alloc _ w8 (Obj.cells #[.int .i64 4, .int .i64 0, .string ⟨#[]⟩] 52))); obtain ⟨a8, c8, hv8, _⟩ := HQ.out.form; subst hv8)
                          | (at_builtin; go_must (refine list_app rfl (.tmp 132) (.tmp 134) 25 25 rfl Tryz.sliceX rfl (by exact (HQA.out).1) rfl (src_three Tryz.underlying25 (heap_alloc_new _ _) rfl rfl rfl) (by unfold maxLen; omega) (by omega) (by exact (HQA.out).2.size) ?_; intro v9 w9 hq; have HR := Lib.hid (xpart_op HQ.out (Fr.of_alloc _ _ _) 4 hq); clear hq)))
                        exact ⟨⟨j + 1, by go_num, by omega, Lib.hid (by have := HR.out; rw [HY2.out, List.append_assoc] at this; rw [HZ1.out]; exact this)⟩, by simp [intOf]; omega⟩
                  · have hji : j = i := by omega
                    subst hji
                    have HMF := Lib.hid hp.out
                    have hml := mid_len 4 (q + 1) X j
                    rw [HXN.out] at hml
                    have HEND : Hid (midI 4 (q + 1) X j ++ [opT 4] = midP 4 (q + 1) X) := Lib.hid (by rw [← mid_end (k := 4) (l := X) (n := q + 1) (by rw [HXN.out]; have := HQ2.out; omega), HXN.out])
                    clear hp hj hlt
                    have hlti2 : ¬ (j : Int) < j := by omega
                    obtain ⟨al4, cl4, hv, _⟩ := HMF.out.form
                    subst hv
                    obtain ⟨o0, o1, o2⟩ := HOB.out wr (HK37.out.trans HMF.out.2)
                    have HPA := Lib.hid (HMF.out.kept (Fr.of_alloc _ wr (Obj.cells #[.int .i64 4, .int .i64 0, .string ⟨#[]⟩] 52)))
                    generalize midI 4 (q + 1) X j = Y at *
                    go_wp2_with (at_builtin; go_must (refine list_app rfl (.tmp 137) (.tmp 139) 25 25 rfl Tryz.sliceX rfl (by exact (HPA.out).1) rfl (src_three Tryz.underlying25 (heap_alloc_new _ _) rfl rfl rfl) (by unfold maxLen; omega) (by omega) (by exact (HPA.out).2.size) ?_; intro v9 w9 hq; have HMX := Lib.hid (xpart_op HMF.out (Fr.of_alloc _ _ _) 4 hq); clear hq))
                    rw [HEND.out] at HMX
                    have HK79 := Lib.hid HMX.out.2
                    have HW39 := Lib.hid (HK37.out.trans HK79.out)
                    have HLX := Lib.hid ((HLF.out.kept (HRT.out.2.trans HK79.out)).reads)
                    have HRX := Lib.hid ((HRT.out.kept HK79.out).reads)
                    have HMR := Lib.hid HMX.out.reads
                    have HK29 := Lib.hid (HB1.out.trans HW39.out)
                    have HKW9 := Lib.hid (HK2.out.trans HK29.out)
                    have HR1 := Lib.hid (HN.out.run w9 HKW9.out F B L _ (toX (leftP 4 X)) (HT.out.later HK29.out) HLX.out (by rw [toX_len]; have := left_len 4 X; rw [HXN.out] at this; omega) (names_of HNMS.out (fun t h => mem_left h)))
                    rw [toX_tok] at HR1
                    obtain ⟨aM, cM, hvM, _⟩ := HMX.out.form
                    subst hvM
                    have HLN2 := Lib.hid (left_len 4 X)
                    have HPM : Hid (2 ≤ X.length ∧ X.length ≤ 8 ∧ 1 ≤ q + 1 ∧ q + 1 < X.length) := Lib.hid (by rw [HXN.out]; have := HQ2.out; omega)
                    have HRL : Hid ((toX (rightP 4 X)).length ≤ 1000000 ∧ (toX (midP 4 (q + 1) X)).length ≤ 1000000) := Lib.hid ⟨by rw [toX_len]; unfold rightP; rw [List.length_append, List.length_replicate, HXN.out]; omega, by rw [toX_len, ← HEND.out, List.length_append]; simp; omega⟩
                    clear o0 o1 o2 HPA HEND
                    go_wp2_with fail
                    refine HR1.out.mono ?_
                    rintro e wA ⟨v1, s1, n1, q1, rfl, hr1, hd1, hkA⟩
                    have HS1 := Lib.hid hr1
                    have HD1 := Lib.hid hd1
                    have HKA := Lib.hid hkA
                    obtain ⟨a1, k1, rfl, _⟩ := hd1
                    clear hr1 hkA HR1
                    have HR2 := Lib.hid (HN.out.run wA (HKW9.out.trans HKA.out) F B L _ (toX (rightP 4 X)) (HT.out.later (HK29.out.trans HKA.out)) (HRX.out.kept HKA.out) HRL.out.1 (names_of HNMS.out (fun t h => mem_rightP h)))
                    rw [toX_tok] at HR2
                    go_wp2_with fail
                    refine HR2.out.mono ?_
                    rintro e wB ⟨v2, s2, n2, q2, rfl, hr2, hd2, hkB⟩
                    have HS2 := Lib.hid hr2
                    have HD2 := Lib.hid hd2
                    have HKB := Lib.hid (HKA.out.trans hkB)
                    have HD1B := Lib.hid (HD1.out.new hkB)
                    obtain ⟨a2, k2, rfl, _⟩ := hd2
                    clear hr2 hkB HR2
                    have HR3 := Lib.hid (HN.out.run wB (HKW9.out.trans HKB.out) F B L _ (toX (midP 4 (q + 1) X)) (HT.out.later (HK29.out.trans HKB.out)) (HMR.out.kept HKB.out) HRL.out.2 (names_of HNMS.out (fun t h => mem_mid h)))
                    rw [toX_tok] at HR3
                    go_wp2_with fail
                    refine HR3.out.mono ?_
                    rintro e wC ⟨v3, s3, n3, q3, rfl, hr3, hd3, hkC⟩
                    have hs := parens_same HG.out (.inr rfl) HPM.out.1 HPM.out.2.1 HKD.out HPM.out.2.2.1 HPM.out.2.2.2 HS1.out HS2.out hr3
                    simp only [] at hs
                    obtain ⟨⟨rfl, rfl⟩, rfl, rfl⟩ := hs
                    have hln := run_len HG.out HS1.out
                    simp only [] at hln
                    have HKC := Lib.hid (HKB.out.trans hkC)
                    have HEQ1 := Lib.hid (equal_any (HD1B.out.new hkC) (HD2.out.new hkC) hln hln)
                    have HEQ2 : Hid (∀ m, Calls Tryz.prog 14 _ (wC.drewN m) _) := Lib.hid (fun m => equal_any ((HD1B.out.new hkC).new (Fr.of_drewN _ wC m)) (hd3.new (Fr.of_drewN _ wC m)) hln hln)
                    rw [decide_eq_true rfl] at HEQ1 HEQ2
                    obtain ⟨a3, k3, rfl, _⟩ := hd3
                    have gq : (q1 == q1) = true := by simp
                    clear hr3 hkC HR3 hln
                    go_wp2_with fail
                    refine HEQ1.out.mono ?_
                    rintro e wD ⟨rfl, m, rfl⟩
                    go_wp2_with fail
                    refine (HEQ2.out m).mono ?_
                    rintro e wE ⟨rfl, m2, rfl⟩
                    have HKE := Lib.hid ((HKW9.out.trans HKC.out).trans (Fr.of_drewN (fun _ => False) wC (m + m2)))
                    go_wp2
                    go_ret
                    exact ⟨rfl, HKE.out⟩

end Go.Proofs.YtbfealhbdemhmaaGreatDoor
