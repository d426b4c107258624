/- Contracts and lemmas: K13 -/
import Derived.Test.YtdapdpmplbifdaaDoorK12
import Derived.Laws.EntriesVeiled
namespace Go.Proofs.YtdapdpmplbifdaaDoor
set_option linter.unusedVariables false
set_option linter.unusedSimpArgs false
open Go.RowKit Go.ChangeShapes Go.WideShapes
set_option maxRecDepth 20000
theorem ws_new {w w1 : World} {bx n c : Nat} {ao : Option Addr} {t2 t3 : TypeId} {f : Value} (hk : Kept w w1) (hx : One w1 bx (.slice ao n c)) (h0 : w.heap.size ≤ bx)
    (hf : f = .func (.func 31) #[] #[.pointer (some ⟨bx, 0, none⟩), .pointer (some ⟨w1.heap.size, 0, none⟩), .pointer (some ⟨w1.heap.size + 1, 0, none⟩)]) :
    WS w (w1.heap.size + 2) bx w1.heap.size (w1.heap.size + 1) ao c ((w1.alloc (.cells #[.slice none 0 0] t2)).alloc (.cells #[f] t3)) n [] (.slice none 0 0) ∧ Apart3 w (w1.heap.size + 2) bx w1.heap.size (w1.heap.size + 1) := by
  subst hf
  have k := fun (W : World) (o : Obj) => Fr.of_alloc (fun _ => False) W o
  have hlt := hx.lt
  have hks := hk.size
  refine ⟨⟨(hk.trans (k _ _)).trans (k _ _), (hx.kept (k _ _)).kept (k _ _), (one_new w1 _ t2).kept (k _ _), ?_, own_nil _ _ _ _, by simp⟩, ⟨⟨h0, hks, by omega⟩, ⟨by omega, by omega, by omega⟩, by omega, by omega, by omega⟩⟩
  have := one_new (w1.alloc (.cells #[.slice none 0 0] t2)) (.func (.func 31) #[] #[.pointer (some ⟨bx, 0, none⟩), .pointer (some ⟨w1.heap.size, 0, none⟩), .pointer (some ⟨w1.heap.size + 1, 0, none⟩)]) t3
  rw [World.size_alloc] at this
  exact this
theorem toT_names {x : List Tok} (h : WordsOk x) : ∀ t ∈ toT x, t.name.size ≤ 1000000 := fun t ht => by
  unfold toT at ht
  obtain ⟨u, hu, rfl⟩ := List.mem_map.1 ht
  have h4 := word_name (h u hu)
  have h5 := word_len u
  show (strOf u.name).size ≤ 1000000
  rw [strOf_size]
  omega
set_option maxHeartbeats 4000000 in
theorem ktextx_any {w : World} {v : Value} {l : List TrmB} (h : ReadsX w v l) (hl : l.length ≤ 1000000) (hs : ∀ t ∈ l, t.name.size ≤ 1000000) (hL : LaidT w) :
    Calls Tryd.prog 17 #[v] w (TextXPost (l.map TrmB.tok) w) := by
  have HR := Lib.hid h
  have HL := Lib.hid hL
  have HS := Lib.hid hs
  obtain ⟨ao, c, rfl, hcc⟩ := h.form
  have H0 : Hid (Kept w (w.alloc (.cells #[.slice ao l.length c] 23)) ∧ One (w.alloc (.cells #[.slice ao l.length c] 23)) w.heap.size (.slice ao l.length c)) := Lib.hid ⟨Fr.of_alloc _ _ _, one_new _ _ _⟩
  clear h hs hL
  go_enter Tryd.func17, Tryd.ntmps17
  go_wp2_with fail
  refine (kmayx_any (HR.out.kept H0.out.1) hl HS.out (HL.out.kept H0.out.1)).mono ?_
  rintro e w1 ⟨hk1, hp1⟩
  have H1 : Hid (Kept w w1 ∧ One w1 w.heap.size (.slice ao l.length c)) := Lib.hid ⟨H0.out.1.trans hk1, H0.out.2.kept hk1⟩
  have HG : Hid (w.heap.size ≤ w.heap.size) := Lib.hid (Nat.le_refl _)
  clear hk1 H0
  generalize hbx : w.heap.size = bx at H1 ⊢
  have HBX := Lib.hid hbx
  clear hbx
  rcases hp1 with ⟨t, ht, rfl⟩ | ⟨hno, rfl⟩
  · have HT := Lib.hid ht
    have hlen := congrArg List.length ht.2.1
    rw [List.length_map] at hlen
    have HLE := Lib.hid hlen
    have HW := Lib.hid (ws_new (t2 := 29) (t3 := 50) H1.out.1 H1.out.2 (by rw [HBX.out]; exact Nat.le_refl _) rfl)
    have hok := can_ok t 1 ht.1
    have HCL := Lib.hid (kwrite_any hl HW.out.2 HR.out t.post.length t 1 [] _ [] _ (Nat.le_refl _) ht.1 (Nat.le_refl _) (by omega) (by rw [ht.2.1]; simp) (by have := ht.2.2; rw [ht.2.1] at this; simp; omega) (by
      have := HW.out.1
      rw [hlen] at this
      simpa using this))
    have HTF := Lib.hid (text_fits ht.1 (by have := ht.2.2; rwa [ht.2.1] at this))
    have HNM := Lib.hid (toT_names (PT.words hok))
    have HLN : Hid ((canS 1 t).toks.length ≤ 1000) := Lib.hid (by
      have h1 := PT.len (canS 1 t)
      have h2 := can_cnt2 t 1
      have h3 := atoms_post t
      have h4 := ht.2.2
      rw [ht.2.1] at h4
      rw [can_ex] at h1
      omega)
    have HNE : Hid ((canS 1 t).toks.reverse.length ≠ 0) := Lib.hid (by have := (canS 1 t).toks_pos; rw [List.length_reverse]; omega)
    clear ht hok hlen
    go_wp2_with fail
    refine HCL.out.mono ?_
    rintro e w2 ⟨lv2, rfl, hw2, _⟩
    have H2 : Hid (WS w (w1.heap.size + 2) bx w1.heap.size (w1.heap.size + 1) ao c w2 0 (canS 1 t).toks.reverse lv2) := Lib.hid (by simpa using hw2)
    have HWA := Lib.hid HW.out.2
    have cl := H2.out.ll.cell
    clear hw2 HCL HW
    generalize w1.heap.size = bl at *
    go_wp2_with fail
    refine (kreverse_any H2.out.row HNE.out (by rw [List.length_reverse]; have := HLN.out; omega)).mono ?_
    rintro e w3 ⟨rfl, hr3, hf3⟩
    rw [List.reverse_reverse] at hr3
    have HR3 := Lib.hid hr3
    have HK3 : Hid (Kept w w3) := Lib.hid (H2.out.kept.over hf3 (fun g hg => by have := (H2.out.own hg).1; have := HWA.out.w0.2.1; omega))
    have HL3 : Hid (One w3 bl lv2) := Lib.hid (H2.out.ll.fr hf3 (fun hg => by have := (H2.out.own hg).1; omega))
    have cl3 := HL3.out.cell
    clear hr3 hf3 cl
    go_wp2_with fail
    refine (ktext_any HR3.out (by rw [toT_len]; have := HLN.out; omega) HNM.out (HL.out.kept HK3.out)).mono ?_
    rintro e w4 ⟨rfl, hk4⟩
    rw [toT_tok, HTF.out]
    have HK4 := Lib.hid (HK3.out.trans hk4)
    clear hk4
    unfold textV
    go_wp2
    go_ret2
    exact ⟨HK4.out, .inl ⟨t, HT.out, rfl⟩⟩
  · have HX := Lib.hid hno
    clear hno
    go_wp2
    go_ret2
    exact ⟨H1.out.1, .inr ⟨HX.out, rfl⟩⟩

end Go.Proofs.YtdapdpmplbifdaaDoor
