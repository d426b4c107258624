/- Contracts and lemmas: Writes -/
import Derived.Test.YthceckpeccbpiaaDoorBack
namespace Go.Proofs.YthceckpeccbpiaaDoor
set_option linter.unusedVariables false
set_option linter.unusedSimpArgs false
open Go.RowKit Go.ChangeShapes Go.WideShapes
theorem kept_call1 {P : Program} {f : FuncId} {args : Array Value} {w : World} {v : Value} {p : KeptW w} (h : Calls P f args p.wd (KeptPost v p.wd)) : Calls P f args p.wd fun e w'' => e = .returned v ∧ ∃ p' : KeptW w, w'' = p'.wd :=
  h.mono fun _ w'' ⟨he, hk⟩ => ⟨he, ⟨w'', p.kept.trans hk⟩, rfl⟩
/-- the cells of tokens -/
def cellsB : List TokB → List Value
  | [] => []
  | t :: l => .int .i64 t.kind :: .string t.name :: .int .i64 t.of :: .int .i64 t.pos :: cellsB l
theorem cellsB_len : ∀ l, (cellsB l).length = l.length * 4
  | [] => rfl
  | t :: l => by simp [cellsB, cellsB_len l]; omega
theorem cellsB_get : ∀ (m : List TokB) (i : Nat) (x : TokB), m[i]? = some x → (cellsB m)[i * 4]? = some (.int .i64 x.kind) ∧ (cellsB m)[i * 4 + 1]? = some (.string x.name) ∧ (cellsB m)[i * 4 + 2]? = some (.int .i64 x.of) ∧ (cellsB m)[i * 4 + 3]? = some (.int .i64 x.pos)
  | [], i, x, h => by simp at h
  | y :: m, 0, x, h => by
    simp at h
    subst h
    exact ⟨rfl, rfl, rfl, rfl⟩
  | y :: m, i + 1, x, h => by
    have ih := cellsB_get m i x (by simpa using h)
    have e : ∀ j, (cellsB (y :: m))[(i + 1) * 4 + j]? = (cellsB m)[i * 4 + j]? := fun j => by
      have : (i + 1) * 4 + j = (i * 4 + j) + 4 := by omega
      rw [this]
      rfl
    have e0 := e 0
    simp only [Nat.add_zero] at e0
    rw [e0, e 1, e 2, e 3]
    exact ih
theorem cellsB_one : ∀ l, ∀ u ∈ cellsB l, u.oneCell' = true
  | [], u, h => by cases h
  | t :: l, u, h => by
    simp only [cellsB, List.mem_cons] at h
    rcases h with rfl | rfl | rfl | rfl | h
    · rfl
    · rfl
    · rfl
    · rfl
    · exact cellsB_one l u h
theorem cellsB_div {l : List TokB} {j : Nat} {u : Value} (h : (cellsB l)[j]? = some u) : ∃ i x, l[i]? = some x ∧ j = i * 4 + j % 4 := by
  have hj := (List.getElem?_eq_some_iff.1 h).1
  rw [cellsB_len] at hj
  have hi : j / 4 < l.length := by omega
  exact ⟨j / 4, _, List.getElem?_eq_getElem hi, by omega⟩
theorem addr_add (g off j : Nat) : (⟨g, off, none⟩ : Addr).add j = ⟨g, off + j, none⟩ := by unfold Addr.add; split <;> simp_all
theorem reads_src {P : Program} {w : World} {v : Value} {l : List TokB} (h : ReadsT w v l) {tx e' : TypeId} (hk : P.underlying tx = some (.slice e')) : Src P 4 tx v l.length (cellsB l) w := by
  obtain ⟨ao, c, rfl, hc, hx⟩ := h
  rcases l with _ | ⟨y, r⟩
  · refine ⟨.inl ⟨_, hk⟩, fun _ => rfl, ?_, ?_, rfl, fun _ h => by cases h⟩
    · cases ao <;> simp [Builtin.firstCells, loadCells, loadCellsFrom, cellsB]
    · cases ao <;> simp [Builtin.firstCells, loadCells, loadCellsFrom, cellsB]
  · obtain ⟨g, off, rfl, _⟩ := hx 0 y rfl
    refine Src.ofSlice w hk _ _ _ _ (by rw [cellsB_len]) (fun j u hj => ?_) (cellsB_one _)
    obtain ⟨i, x, hi, hji⟩ := cellsB_div hj
    obtain ⟨g', off', he, c0, c1, c2, c3⟩ := hx i x hi
    cases he
    rw [addr_add]
    obtain ⟨t0, t1, t2, t3⟩ := cellsB_get _ i x hi
    have hm : j % 4 = 0 ∨ j % 4 = 1 ∨ j % 4 = 2 ∨ j % 4 = 3 := by omega
    rcases hm with hm | hm | hm | hm <;> rw [hm] at hji
    · simp only [Nat.add_zero] at hji
      subst hji
      rw [t0] at hj; cases hj
      exact c0
    · subst hji
      rw [t1] at hj; cases hj
      exact c1
    · subst hji
      rw [t2] at hj; cases hj
      exact c2
    · subst hji
      rw [t3] at hj; cases hj
      exact c3
theorem own_reads {w : World} {base : Nat} {v : Value} {l : List TokB} (h : w.ownsRow base 34 4 v l.length (cellsB l)) : ReadsT w v l := by
  obtain ⟨h1, h2⟩ := h
  rcases h2 with ⟨rfl, h0⟩ | ⟨g, cap, cur, rfl, hb, h4, h5, h6, h7, h8⟩
  · have : l = [] := List.eq_nil_of_length_eq_zero h0
    subst this
    exact reads_nil _
  · have hcell : ∀ o y, (cellsB l)[o]? = some y → w.cell? ⟨g, o, none⟩ = some y := by
      intro o y hy
      rw [cell_whole h4]
      rw [← h8, List.getElem?_take] at hy
      split at hy
      · simpa using hy
      · cases hy
    refine ⟨some ⟨g, 0, none⟩, cap, rfl, h5, fun i t ht => ?_⟩
    obtain ⟨t0, t1, t2, t3⟩ := cellsB_get l i t ht
    refine ⟨g, 0, rfl, ?_, ?_, ?_, ?_⟩
    · rw [Nat.zero_add]; exact hcell _ _ t0
    · rw [Nat.zero_add]; exact hcell _ _ t1
    · rw [Nat.zero_add]; exact hcell _ _ t2
    · rw [Nat.zero_add]; exact hcell _ _ t3
set_option maxHeartbeats 4000000 in
theorem tokenWrites_walk {w : World} (v : Value) (hv : TokList w v) (hL : LaidT w) :
    Calls Tryd.prog 4 #[v] w fun e w' => e = .returned (.bool true) ∧ Kept w w' := by
  obtain ⟨l, hr, hlm, hnm⟩ := hv
  have HL := Lib.hid hL
  have HR := Lib.hid hr
  clear hL hr hnm
  cases hlg : largeT l
  · have hno := large_no hlg
    have hln : l.length ≤ 1100 := hno.1
    have HNM : Hid (∀ t ∈ l, t.name.size ≤ 100) := Lib.hid hno.2
    have HT1 : Hid (∀ W v, LaidT W → ReadsT W v l → Calls Tryd.prog 14 #[v] W (KeptPost (textV (textS (l.map TokB.tok))) W)) := Lib.hid (fun W v hW h => ktext_any h (by omega) (fun t ht => by have := hno.2 t ht; omega) hW)
    have HT2 : Hid (∀ W v, ReadsT W v l → Calls Tryd.prog 15 #[v] W (KeptPost (textV (textS (l.map TokB.tok))) W)) := Lib.hid (fun W v h => rtext_any h (by omega) (fun t ht => by have := hno.2 t ht; omega))
    clear hno
    generalize textS (l.map TokB.tok) = r at *
    obtain ⟨x, q⟩ := r
    unfold textV at HT1 HT2
    simp only at HT1 HT2
    generalize strOf x = x at *
    have HS : Hid (∀ W v v', ReadsT W v l → ReadsT W v' l → Calls Tryd.prog 12 #[v, v', .bool true] W (KeptPost (.bool true) W)) := Lib.hid (fun W v v' h1 h2 => by
      have h := ksame_any h1 h2 true (by omega) (by omega)
      rwa [show sameS true l l = true by unfold sameS; simp] at h)
    go_enter Tryd.func4, Tryd.ntmps4
    go_wp2_with fail
    refine (kawake_any _ HL.out).mono ?_
    rintro e w1 ⟨rfl, hk1⟩
    have HK1 := Lib.hid hk1
    have HR1 := Lib.hid (HR.out.kept hk1)
    clear hk1
    have HSR := Lib.hid (reads_src (HR1.out.kept (Fr.of_alloc _ w1 (Obj.cells #[] 34))) Tryd.underlying23)
    go_wp2_with (first
      | (go_at_call 13; refine (klarge_any HR1.out (by unfold maxLen at hlm; omega)).mono ?_; rintro e w' ⟨rfl, rfl⟩; rw [hlg])
      | (at_builtin; refine list_app rfl (.tmp 13) (.tmp 14) 23 23 rfl Tryd.slice23 rfl (by exact own_new (heap_alloc_new w1 _) (Nat.le_refl _)) rfl (by exact HSR.out) (by unfold maxLen; omega) (by omega) (by simp) ?_; intro v2 w2 hq; have HQ : Hid (AppPost (w1.alloc (Obj.cells #[] 34)) w1.heap.size 34 4 (.slice (some ⟨w1.heap.size, 0, none⟩) 0 0) (0 + l.length) ([] ++ cellsB l) v2 w2) := Lib.hid hq; clear hq))
    have HQ2 : Hid (Kept w1 w2 ∧ ReadsT w2 v2 l) := Lib.hid (by
      have h := HQ.out
      rw [Nat.zero_add, List.nil_append] at h
      exact ⟨(h.kept (w0 := w1) (Fr.of_alloc _ _ _) (fun g hg => by simp [Value.ownBlock] at hg; omega)).1, own_reads h.1⟩)
    have HK2 := Lib.hid (HK1.out.trans HQ2.out.1)
    have HR2 := Lib.hid (HR1.out.kept HQ2.out.1)
    have HO2 := Lib.hid HQ2.out.2
    clear HQ HQ2 HSR HR1 HK1 hlg
    refine (HT1.out _ _ (HL.out.kept HK2.out) HO2.out).mono ?_
    rintro e w3 ⟨rfl, hk3⟩
    have HK3 := Lib.hid (HK2.out.trans hk3)
    have HR3 := Lib.hid (HR2.out.kept hk3)
    have HO3 := Lib.hid (HO2.out.kept hk3)
    clear hk3 HK2 HR2 HO2 HT1
    go_wp2_with fail
    refine (HT2.out _ _ HR3.out).mono ?_
    rintro e w4 ⟨rfl, hk4⟩
    have HK4 := Lib.hid (HK3.out.trans hk4)
    have HR4 := Lib.hid (HR3.out.kept hk4)
    have HO4 := Lib.hid (HO3.out.kept hk4)
    clear hk4 HK3 HR3 HO3 HT2
    go_wp2_with fail
    refine (HS.out _ _ _ HO4.out HR4.out).mono ?_
    rintro e w5 ⟨rfl, hk5⟩
    have HK5 := Lib.hid (HK4.out.trans hk5)
    have hr5 := HR4.out.kept hk5
    clear hk5 HK4 HR4 HO4 HS HR
    obtain ⟨ao, c, rfl, hc, hcells⟩ := hr5
    have HCE := Lib.hid hcells
    clear hcells
    generalize hn : l.length = n at *
    have HN := Lib.hid hn
    clear hn
    go_wp2
    have HKR : Hid (Kept w5 w5) := Lib.hid (Fr.refl _ _)
    go_loopw [42] (fun i wr => ∃ k : Nat, i = .int .i64 k ∧ k ≤ n ∧ Hid (Kept w5 wr)) (fun i _ => n - (intOf i).toNat)
    case atStart => exact ⟨0, rfl, by omega, HKR⟩
    case round =>
      obtain ⟨k, rfl, hk, hkr⟩ := hrel
      clear HKR
      by_cases hlt : k < n
      · have hlti : (k : Int) < n := by omega
        obtain ⟨t, ht⟩ : ∃ t, l[k]? = some t := ⟨_, List.getElem?_eq_getElem (by have := HN.out; omega)⟩
        obtain ⟨g, off, rfl, d0, d1, d2, d3⟩ := HCE.out k t ht
        have hsz := HNM.out t (List.mem_of_getElem? ht)
        have c0 : ∀ p : KeptW wr, p.wd.cell? ⟨g, off + k * 4, none⟩ = some (.int .i64 t.kind) := fun p => (hkr.out.trans p.kept).cell d0 (fun x => x)
        have c1 : ∀ p : KeptW wr, p.wd.cell? ⟨g, off + k * 4 + 1, none⟩ = some (.string t.name) := fun p => (hkr.out.trans p.kept).cell d1 (fun x => x)
        have c2 : ∀ p : KeptW wr, p.wd.cell? ⟨g, off + k * 4 + 2, none⟩ = some (.int .i64 t.of) := fun p => (hkr.out.trans p.kept).cell d2 (fun x => x)
        have c3 : ∀ p : KeptW wr, p.wd.cell? ⟨g, off + k * 4 + 3, none⟩ = some (.int .i64 t.pos) := fun p => (hkr.out.trans p.kept).cell d3 (fun x => x)
        have HW1 : Hid (∀ p : KeptW wr, Calls Tryd.prog 16 #[.agg #[.int .i64 t.kind, .string t.name, .int .i64 t.of, .int .i64 t.pos]] p.wd (KeptPost (.string (strOf (wordS t.tok))) p.wd)) := Lib.hid (fun p => kword_any t.kind t.name t.of t.pos p.wd (by omega) (HL.out.kept ((HK5.out.trans hkr.out).trans p.kept)))
        have HW2 : Hid (∀ p : KeptW wr, Calls Tryd.prog 17 #[.agg #[.int .i64 t.kind, .string t.name, .int .i64 t.of, .int .i64 t.pos]] p.wd (KeptPost (.string (strOf (wordS t.tok))) p.wd)) := Lib.hid (fun p => rword_any t.kind t.name t.of t.pos p.wd (by omega))
        clear d0 d1 d2 d3 ht hsz
        generalize strOf (wordS t.tok) = y at *
        go_wp2
        refine wp_region_kept (by kernel_rfl) (by kernel_rfl) ?_
        repeat (refine qa_step (fun K hK => ?_); go_simp; first | (refine hK _ ?_; clear hK K) | (apply Exists.intro; refine ⟨fun _ => ?_, hK _ ?_⟩; (first | (go_at_call 16; exact kept_call1 (HW1.out _)) | (go_at_call 17; exact kept_call1 (HW2.out _))); clear hK K))
        refine qa_nil ?_
        intro _ hw
        obtain ⟨p9, hw⟩ := hw
        subst hw
        have HKN := Lib.hid (hkr.out.trans p9.kept)
        clear c0 c1 c2 c3
        all_goals
          go_wp2
          go_roundw
          case rel => exact ⟨k + 1, by go_num, by omega, HKN⟩
          case measure => simp [intOf]; omega
      · have hlti : ¬ (k : Int) < n := by omega
        go_wp2
        go_ret
        exact ⟨rfl, HK5.out.trans hkr.out⟩
  · go_enter Tryd.func4, Tryd.ntmps4
    go_wp2_with fail
    refine (kawake_any _ HL.out).mono ?_
    rintro e w1 ⟨rfl, hk1⟩
    have HK1 := Lib.hid hk1
    have HR1 := Lib.hid (HR.out.kept hk1)
    clear hk1
    go_wp2_with (go_at_call 13; refine (klarge_any HR1.out (by unfold maxLen at hlm; omega)).mono ?_; rintro e w' ⟨rfl, rfl⟩; rw [hlg])
    go_ret
    exact ⟨rfl, HK1.out⟩

end Go.Proofs.YthceckpeccbpiaaDoor
