/- Contracts and lemmas: WWrites -/
import Derived.Test.YtdapdpmplbifdaaDoorWParses
namespace Go.Proofs.YtdapdpmplbifdaaDoor
set_option linter.unusedVariables false
set_option linter.unusedSimpArgs false
open Go.RowKit Go.ChangeShapes Go.WideShapes
theorem largex_no {l : List TrmB} (h : largeX l = false) : l.length ≤ 300 ∧ ∀ t ∈ l, t.name.size ≤ 100 := by
  unfold largeX at h
  rw [Bool.or_eq_false_iff] at h
  refine ⟨by simpa using h.1, fun t ht => ?_⟩
  have := (List.any_eq_false.1 h.2) t ht
  simpa using this
set_option maxRecDepth 20000 in
set_option maxHeartbeats 8000000 in
theorem exprWrites_walk {w : World} {v : Value} {l : List TrmB} (h : ReadsX w v l) (hlm : (l.length : Int) ≤ 9223372036854775807) (hL : LaidT w) :
    Calls Tryd.prog 5 #[v] w fun e w' => e = .returned (.bool true) ∧ Kept w w' := by
  have HL := Lib.hid hL
  have HR := Lib.hid h
  obtain ⟨ao, c, rfl, hc⟩ := h.form
  clear hL h
  cases hlg : largeX l
  · obtain ⟨hl3, hs1⟩ := largex_no hlg
    have hs : ∀ t ∈ l, t.name.size ≤ 1000000 := fun t ht => by have := hs1 t ht; omega
    have HS := Lib.hid hs
    have HSM : Hid (∀ W v v', ReadsX W v l → ReadsX W v' l → Calls Tryd.prog 13 #[v, v'] W (KeptPost (.bool true) W)) := Lib.hid (fun W v v' h1 h2 => by
      have h := ksamex_any h1 h2 (by omega) (by omega)
      rwa [samex_self] at h)
    clear hs hs1
    go_enter Tryd.func5, Tryd.ntmps5
    go_wp2_with fail
    refine (kawakex_any _ HL.out).mono ?_
    rintro e w1 ⟨rfl, hk1⟩
    have HK1 := Lib.hid hk1
    have HR1 := Lib.hid (HR.out.kept hk1)
    clear hk1
    have HSR := Lib.hid (readsX_src (P := Tryd.prog) (HR1.out.kept (Fr.of_alloc _ w1 (Obj.cells #[] 45))) Tryd.underlying23)
    go_wp2_with (first
      | (go_at_call 16; refine (klargex_any HR1.out (by omega)).mono ?_; rintro e w' ⟨rfl, rfl⟩; rw [hlg])
      | (at_builtin; refine list_app rfl (.tmp 12) (.tmp 13) 23 23 rfl Tryd.sliceX rfl (by exact own_new (heap_alloc_new w1 _) (Nat.le_refl _)) rfl (by exact HSR.out) (by unfold maxLen; omega) (by omega) (by simp) ?_; intro v2 w2 hq; have HQ : Hid (AppPost (w1.alloc (Obj.cells #[] 45)) w1.heap.size 45 3 (.slice (some ⟨w1.heap.size, 0, none⟩) 0 0) (0 + l.length) ([] ++ cellsX l) v2 w2) := Lib.hid hq; clear hq))
    have HQ2 : Hid (Kept w1 w2 ∧ ReadsX w2 v2 l) := Lib.hid (by
      have h := HQ.out
      rw [Nat.zero_add, List.nil_append] at h
      exact ⟨(h.kept (w0 := w1) (Fr.of_alloc _ _ _) (fun g hg => by simp [Value.ownBlock] at hg; omega)).1, own_readsX h.1⟩)
    have HK2 := Lib.hid (HK1.out.trans HQ2.out.1)
    have HR2 := Lib.hid (HR1.out.kept HQ2.out.1)
    have HO2 := Lib.hid HQ2.out.2
    clear HQ HQ2 HSR HR1 HK1 hlg
    rcases Classical.em (∃ t, MayIs (l.map TrmB.tok) t) with ⟨t, ht⟩ | hno
    · have HT := Lib.hid ht
      clear ht
      refine ((ktextx_any HO2.out (by omega) HS.out (HL.out.kept HK2.out)).mono (fun e w' h => TextXPost.yes h HT.out)).mono ?_
      rintro e w3 ⟨rfl, hk⟩
      have HK3 := Lib.hid (HK2.out.trans hk)
      have HR3 := Lib.hid (HR2.out.kept hk)
      have HO3 := Lib.hid (HO2.out.kept hk)
      clear hk HK2 HR2 HO2
      go_wp2_with fail
      refine ((rtextx_any HR3.out (by omega) HS.out).mono (fun e w' h => TextXPost.yes h HT.out)).mono ?_
      rintro e w4 ⟨rfl, hk⟩
      have HK4 := Lib.hid (HK3.out.trans hk)
      have HR4 := Lib.hid (HR3.out.kept hk)
      have HO4 := Lib.hid (HO3.out.kept hk)
      clear hk HK3 HR3 HO3
      go_wp2_with fail
      refine ((kmayx_any HO4.out (by omega) HS.out (HL.out.kept HK4.out)).mono (fun e w' h => MayXPost.yes h HT.out)).mono ?_
      rintro e w5 ⟨rfl, hk⟩
      have HK5 := Lib.hid (HK4.out.trans hk)
      have HR5 := Lib.hid (HR4.out.kept hk)
      have HO5 := Lib.hid (HO4.out.kept hk)
      clear hk HK4 HR4 HO4
      go_wp2_with fail
      refine ((rmayx_any HR5.out (by omega) HS.out).mono (fun e w' h => MayXPost.yes h HT.out)).mono ?_
      rintro e w6 ⟨rfl, hk⟩
      have HK6 := Lib.hid (HK5.out.trans hk)
      have HR6 := Lib.hid (HR5.out.kept hk)
      have HO6 := Lib.hid (HO5.out.kept hk)
      clear hk HK5 HR5 HO5
      go_wp2_with fail
      refine ((kdeepx_any HO6.out (by omega) HS.out (HL.out.kept HK6.out)).mono (fun e w' h => DeepXPost.yes h HT.out)).mono ?_
      rintro e w7 ⟨rfl, hk⟩
      have HK7 := Lib.hid (HK6.out.trans hk)
      have HR7 := Lib.hid (HR6.out.kept hk)
      have HO7 := Lib.hid (HO6.out.kept hk)
      clear hk HK6 HR6 HO6
      go_wp2_with fail
      refine ((rdeepx_any HR7.out (by omega) HS.out).mono (fun e w' h => DeepXPost.yes h HT.out)).mono ?_
      rintro e w8 ⟨rfl, hk⟩
      have HK8 := Lib.hid (HK7.out.trans hk)
      have HR8 := Lib.hid (HR7.out.kept hk)
      have HO8 := Lib.hid (HO7.out.kept hk)
      clear hk HK7 HR7 HO7
      go_wp2_with fail
      refine (HSM.out _ _ _ HO8.out HR8.out).mono ?_
      rintro e w9 ⟨rfl, hk⟩
      have HK9 := Lib.hid (HK8.out.trans hk)
      clear hk
      go_wp2
      go_ret
      exact ⟨rfl, HK9.out⟩
    · have HT : Hid (∀ t, ¬ MayIs (l.map TrmB.tok) t) := Lib.hid (fun t ht => hno ⟨t, ht⟩)
      clear hno
      refine ((ktextx_any HO2.out (by omega) HS.out (HL.out.kept HK2.out)).mono (fun e w' h => TextXPost.no h HT.out)).mono ?_
      rintro e w3 ⟨rfl, hk⟩
      have HK3 := Lib.hid (HK2.out.trans hk)
      have HR3 := Lib.hid (HR2.out.kept hk)
      have HO3 := Lib.hid (HO2.out.kept hk)
      clear hk HK2 HR2 HO2
      go_wp2_with fail
      refine ((rtextx_any HR3.out (by omega) HS.out).mono (fun e w' h => TextXPost.no h HT.out)).mono ?_
      rintro e w4 ⟨rfl, hk⟩
      have HK4 := Lib.hid (HK3.out.trans hk)
      have HR4 := Lib.hid (HR3.out.kept hk)
      have HO4 := Lib.hid (HO3.out.kept hk)
      clear hk HK3 HR3 HO3
      go_wp2_with fail
      refine ((kmayx_any HO4.out (by omega) HS.out (HL.out.kept HK4.out)).mono (fun e w' h => MayXPost.no h HT.out)).mono ?_
      rintro e w5 ⟨rfl, hk⟩
      have HK5 := Lib.hid (HK4.out.trans hk)
      have HR5 := Lib.hid (HR4.out.kept hk)
      have HO5 := Lib.hid (HO4.out.kept hk)
      clear hk HK4 HR4 HO4
      go_wp2_with fail
      refine ((rmayx_any HR5.out (by omega) HS.out).mono (fun e w' h => MayXPost.no h HT.out)).mono ?_
      rintro e w6 ⟨rfl, hk⟩
      have HK6 := Lib.hid (HK5.out.trans hk)
      have HR6 := Lib.hid (HR5.out.kept hk)
      have HO6 := Lib.hid (HO5.out.kept hk)
      clear hk HK5 HR5 HO5
      go_wp2_with fail
      refine ((kdeepx_any HO6.out (by omega) HS.out (HL.out.kept HK6.out)).mono (fun e w' h => DeepXPost.no h HT.out)).mono ?_
      rintro e w7 ⟨rfl, hk⟩
      have HK7 := Lib.hid (HK6.out.trans hk)
      have HR7 := Lib.hid (HR6.out.kept hk)
      have HO7 := Lib.hid (HO6.out.kept hk)
      clear hk HK6 HR6 HO6
      go_wp2_with fail
      refine ((rdeepx_any HR7.out (by omega) HS.out).mono (fun e w' h => DeepXPost.no h HT.out)).mono ?_
      rintro e w8 ⟨rfl, hk⟩
      have HK8 := Lib.hid (HK7.out.trans hk)
      have HR8 := Lib.hid (HR7.out.kept hk)
      have HO8 := Lib.hid (HO7.out.kept hk)
      clear hk HK7 HR7 HO7
      go_wp2_with fail
      refine (HSM.out _ _ _ HO8.out HR8.out).mono ?_
      rintro e w9 ⟨rfl, hk⟩
      have HK9 := Lib.hid (HK8.out.trans hk)
      clear hk
      go_wp2
      go_ret
      exact ⟨rfl, HK9.out⟩
  · go_enter Tryd.func5, Tryd.ntmps5
    go_wp2_with fail
    refine (kawakex_any _ HL.out).mono ?_
    rintro e w1 ⟨rfl, hk1⟩
    have HK1 := Lib.hid hk1
    have HR1 := Lib.hid (HR.out.kept hk1)
    clear hk1
    go_wp2_with (go_at_call 16; refine (klargex_any HR1.out (by omega)).mono ?_; rintro e w' ⟨rfl, rfl⟩; rw [hlg])
    go_ret
    exact ⟨rfl, HK1.out⟩

end Go.Proofs.YtdapdpmplbifdaaDoor
