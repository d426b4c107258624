/- Contracts and lemmas: WReads -/
import Derived.Test.YtdapdpmplbifdaaDoorWParses
import Derived.RegionTactic
import Derived.BigRegion
namespace Go.Proofs.YtdapdpmplbifdaaDoor
set_option linter.unusedVariables false
set_option linter.unusedSimpArgs false
open Go.RowKit Go.ChangeShapes Go.WideShapes
theorem neq_tok (k o p k' o' p' : Int) (x x' : ByteArray) (W : World) :
    (binOp .neq 31 (.agg #[.int .i64 k, .string x, .int .i64 o, .int .i64 p]) (.agg #[.int .i64 k', .string x', .int .i64 o', .int .i64 p'])).run Tryd.prog W = .ok (.bool (!decide (k = k' ∧ bs x = bs x' ∧ o = o' ∧ p = p'))) W := by
  by_cases h1 : k = k'
  · subst h1
    by_cases h2 : bs x = bs x'
    · have := bs_inj h2
      subst this
      by_cases h3 : o = o'
      · subst h3
        by_cases h4 : p = p'
        · subst h4
          go_simp
        · have q : (p == p') = false := by simp [h4]
          go_simp
      · have q : (o == o') = false := by simp [h3]
        go_simp
    · have q : (x.toList == x'.toList) = false := by rw [bs_toList, bs_toList]; simpa using h2
      go_simp
  · have q : (k == k') = false := by simp [h1]
    go_simp

open Go.RowKit Go.ChangeShapes Go.WideShapes
set_option maxRecDepth 20000 in
set_option maxHeartbeats 16000000 in
theorem exprReads_walk {w : World} {v : Value} {l : List TokB} (h : ReadsT w v l) (hlm : (l.length : Int) ≤ 9223372036854775807) (hL : LaidT w) :
    Calls Tryd.prog 4 #[v] w fun e w' => e = .returned (.bool true) ∧ Kept w w' := by
  have HL := Lib.hid hL
  have HR := Lib.hid h
  obtain ⟨ao, c, rfl, hcc⟩ := h.form
  clear hL h
  by_cases h5 : 500 < l.length
  · have h5i : (500 : Int) < (l.length : Int) := by omega
    clear h5
    go_enter Tryd.func4, Tryd.ntmps4
    go_wp2_with fail
    refine (kawakex_any _ HL.out).mono ?_
    rintro e w1 ⟨rfl, hk1⟩
    have HK1 := Lib.hid hk1
    clear hk1
    go_wp2
    go_ret
    exact ⟨rfl, HK1.out⟩
  · have h5i : ¬ (500 : Int) < (l.length : Int) := by omega
    obtain ⟨n, hn⟩ : ∃ n, n = l.length := ⟨_, rfl⟩
    have HN := Lib.hid hn
    have hn5 : n ≤ 500 := by omega
    go_enter Tryd.func4, Tryd.ntmps4
    go_wp2_with fail
    refine (kawakex_any _ HL.out).mono ?_
    rintro e w1 ⟨rfl, hk1⟩
    have HK1 := Lib.hid hk1
    have HR1 := Lib.hid (HR.out.kept hk1)
    clear hk1
    rw [← hn] at h5i hcc ⊢
    have HR2 : Hid (ReadsT w1 (.slice ao n c) l) := Lib.hid (by have h := HR1.out; rwa [← hn] at h)
    clear HR1 h5 hn
    have hrc := HR2.out
    obtain ⟨_, _, he, _, hcells⟩ := hrc
    have HC : Hid (∀ (i : Nat) (t : TokB), l[i]? = some t → ∃ g off, ao = some ⟨g, off, none⟩ ∧ w1.cell? ⟨g, off + i * 4, none⟩ = some (.int .i64 t.kind) ∧ w1.cell? ⟨g, off + i * 4 + 1, none⟩ = some (.string t.name) ∧ w1.cell? ⟨g, off + i * 4 + 2, none⟩ = some (.int .i64 t.of) ∧ w1.cell? ⟨g, off + i * 4 + 3, none⟩ = some (.int .i64 t.pos)) := Lib.hid (fun i t ht => by
      obtain ⟨g, off, h4, r⟩ := hcells i t ht
      cases he
      exact ⟨g, off, h4, r⟩)
    clear he hcells
    go_wp2
    go_loop [19] (fun i => ∃ k : Nat, i = .int .i64 k ∧ k ≤ n ∧ Hid (∀ (j : Nat) (t : TokB), j < k → l[j]? = some t → ¬ 100 < t.name.size)) (fun i => n - (intOf i).toNat)
    case atStart => exact ⟨0, rfl, by omega, Lib.hid (fun j t h => by omega)⟩
    case round =>
      obtain ⟨k, rfl, hk, hall⟩ := hrel
      by_cases hlt : k < n
      · have hlti : (k : Int) < n := by omega
        obtain ⟨t, ht⟩ : ∃ t, l[k]? = some t := ⟨_, List.getElem?_eq_getElem (by have := HN.out; omega)⟩
        obtain ⟨g, off, rfl, d0, d1, d2, d3⟩ := HC.out k t ht
        by_cases hs : 100 < t.name.size
        · have hsi : (100 : Int) < (t.name.size : Int) := by omega
          clear hs ht
          go_wp2
          go_ret
          exact ⟨rfl, HK1.out⟩
        · have hsi : ¬ (100 : Int) < (t.name.size : Int) := by omega
          have HA : Hid (∀ (j : Nat) (t : TokB), j < k + 1 → l[j]? = some t → ¬ 100 < t.name.size) := Lib.hid (fun j t' hj h2 => by
            rcases Nat.lt_or_ge j k with h3 | h3
            · exact hall.out j t' h3 h2
            · obtain rfl : j = k := by omega
              rw [ht] at h2; cases h2; exact hs)
          clear hs ht
          go_wp2
          go_round
          case rel => exact ⟨k + 1, by go_num, by omega, HA⟩
          case measure => simp [intOf]; omega
      · have hlti : ¬ (k : Int) < n := by omega
        have HS : Hid (∀ t ∈ l, t.name.size ≤ 1000000) := Lib.hid (fun t ht => by
          obtain ⟨j, hj⟩ := List.mem_iff_getElem?.1 ht
          have := hall.out j t (by have := (List.getElem?_eq_some_iff.1 hj).1; have := HN.out; omega) hj
          omega)
        have HSR := Lib.hid (reads_src (HR2.out.kept (Fr.of_alloc _ w1 (Obj.cells #[] 31))) Tryd.underlying29)
        rw [← HN.out] at HSR
        clear hall
        go_wp2_with (at_builtin; refine list_app rfl (.tmp 30) (.tmp 31) 29 29 rfl Tryd.slice29 rfl (by exact own_new (heap_alloc_new w1 _) (Nat.le_refl _)) rfl (by exact HSR.out) (by unfold maxLen; omega) (by omega) (by simp) ?_; intro v2 w2 hq; have HQ : Hid (AppPost (w1.alloc (Obj.cells #[] 31)) w1.heap.size 31 4 (.slice (some ⟨w1.heap.size, 0, none⟩) 0 0) (0 + n) ([] ++ cellsB l) v2 w2) := Lib.hid hq; clear hq)
        have HQ2 : Hid (Kept w1 w2 ∧ ReadsT w2 v2 l) := Lib.hid (by
          have h := HQ.out
          rw [Nat.zero_add, List.nil_append, HN.out] at h
          exact ⟨(h.kept (w0 := w1) (Fr.of_alloc _ _ _) (fun g hg => by simp [Value.ownBlock] at hg; omega)).1, own_reads h.1⟩)
        have HK2 := Lib.hid (HK1.out.trans HQ2.out.1)
        have HO2 := Lib.hid HQ2.out.2
        have HR3 := Lib.hid (HR2.out.kept HQ2.out.1)
        clear HQ HSR
        refine (kread_any HO2.out (by have := HN.out; omega) HS.out (HL.out.kept HK2.out)).mono ?_
        rintro e w3 ⟨vx, x, nx, qx, rfl, hi, hr, hk⟩
        have HI := Lib.hid hi
        have HX3 := Lib.hid hr
        have HK3 := Lib.hid (HK2.out.trans hk)
        have HR4 := Lib.hid (HR3.out.kept hk)
        have HO3 := Lib.hid (HO2.out.kept hk)
        clear hi hr hk HK2 HR3 HO2 HQ2
        go_wp2_with fail
        refine (rread_any HR4.out (by have := HN.out; omega) HS.out).mono ?_
        rintro e w4 ⟨vy, y, ny, qy, rfl, hi, hx⟩
        obtain ⟨rfl, rfl, rfl⟩ := HI.out.unique hi
        have HSM := Lib.hid hi.small
        have HX4 := Lib.hid (HX3.out.kept hx.2)
        have HY4 := Lib.hid hx.reads
        have HK4 := Lib.hid (HK3.out.trans hx.2)
        have HR5 := Lib.hid (HR4.out.kept hx.2)
        have ho4 := HO3.out.kept hx.2
        clear hi hx HX3 HR4 HI HK3 HO3
        obtain ⟨bo, d, rfl, hdd, hob⟩ := ho4
        have HOB := Lib.hid hob
        have hrc := HR5.out
        obtain ⟨_, _, he, _, hcells⟩ := hrc
        have HC5 : Hid (∀ (i : Nat) (t : TokB), l[i]? = some t → ∃ g off, ao = some ⟨g, off, none⟩ ∧ w4.cell? ⟨g, off + i * 4, none⟩ = some (.int .i64 t.kind) ∧ w4.cell? ⟨g, off + i * 4 + 1, none⟩ = some (.string t.name) ∧ w4.cell? ⟨g, off + i * 4 + 2, none⟩ = some (.int .i64 t.of) ∧ w4.cell? ⟨g, off + i * 4 + 3, none⟩ = some (.int .i64 t.pos)) := Lib.hid (fun i t ht => by
          obtain ⟨g, off, h4, r⟩ := hcells i t ht
          cases he
          exact ⟨g, off, h4, r⟩)
        rw [← HN.out] at hdd ⊢
        clear he hcells hob
        have H0 : Hid (Kept w4 w4) := Lib.hid (Fr.refl _ _)
        go_wp2
        go_loopw [47] (fun i wr => ∃ k : Nat, i = .int .i64 k ∧ k ≤ n ∧ Hid (Kept w4 wr)) (fun i _ => n - (intOf i).toNat)
        case atStart => exact ⟨0, rfl, by omega, H0⟩
        case round =>
          obtain ⟨k2, rfl, hk2, hkp⟩ := hrel
          clear H0
          by_cases hlt2 : k2 < n
          · have hlti2 : (k2 : Int) < n := by omega
            obtain ⟨t, ht⟩ : ∃ t, l[k2]? = some t := ⟨_, List.getElem?_eq_getElem (by have := HN.out; omega)⟩
            obtain ⟨g, off, rfl, d0, d1, d2, d3⟩ := HC5.out k2 t ht
            obtain ⟨g', off', rfl, e0, e1, e2, e3⟩ := HOB.out k2 t ht
            have c0 := hkp.out.cell d0 (fun x => x)
            have c1 := hkp.out.cell d1 (fun x => x)
            have c2 := hkp.out.cell d2 (fun x => x)
            have c3 := hkp.out.cell d3 (fun x => x)
            have b0 := hkp.out.cell e0 (fun x => x)
            have b1 := hkp.out.cell e1 (fun x => x)
            have b2 := hkp.out.cell e2 (fun x => x)
            have b3 := hkp.out.cell e3 (fun x => x)
            have hneq : ∀ W, (binOp .neq 31 (.agg #[.int .i64 t.kind, .string t.name, .int .i64 t.of, .int .i64 t.pos]) (.agg #[.int .i64 t.kind, .string t.name, .int .i64 t.of, .int .i64 t.pos])).run Tryd.prog W = .ok (.bool false) W := fun W => by
              rw [neq_tok]; simp
            clear d0 d1 d2 d3 e0 e1 e2 e3 ht
            go_wp2
            go_region
            all_goals
              go_wp2
              go_roundw
              case rel => exact ⟨k2 + 1, by go_num, by omega, Lib.hid (hkp.out.trans (Fr.of_drew _ _))⟩
              case measure => simp [intOf]; omega
          · have hlti2 : ¬ (k2 : Int) < n := by omega
            have HX5 := Lib.hid (HX4.out.kept hkp.out)
            have HY5 := Lib.hid (HY4.out.kept hkp.out)
            go_wp2_with fail
            refine (ksamex_self HX5.out HY5.out (by have := HSM.out; omega)).mono ?_
            rintro e w6 ⟨rfl, hk⟩
            have HK6 := Lib.hid ((HK4.out.trans hkp.out).trans hk)
            clear hk
            go_wp2
            go_ret
            exact ⟨rfl, HK6.out⟩

end Go.Proofs.YtdapdpmplbifdaaDoor
