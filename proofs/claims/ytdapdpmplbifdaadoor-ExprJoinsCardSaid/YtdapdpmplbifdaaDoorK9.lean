/- Contracts and lemmas: K9 -/
import Derived.Test.YtdapdpmplbifdaaDoorK8
namespace Go.Proofs.YtdapdpmplbifdaaDoor
set_option linter.unusedVariables false
set_option linter.unusedSimpArgs false
open Go.RowKit Go.ChangeShapes Go.WideShapes
set_option maxRecDepth 20000
theorem Stk.op_may {L : List Tok} {k : Nat} {t : Tok} {e : Ex} {es : List Ex} (h : Stk L k es) (hm : MayIs L e) (ht : L[k]? = some t) (hk : t.kind ≠ 1) :
    ∃ es' a b, es = es' ++ [a, b] ∧ Stk L (k + 1) (es' ++ [.bin t.kind a b]) := by
  obtain ⟨h1, q, op, b, h2, h3, h4⟩ := may_prefix h hm ht hk
  have h5 := post_terms hm.1 t (by rw [← hm.2.1]; exact List.mem_of_getElem? ht)
  refine h.op ht (by have := h5.2; rwa [kbind_other hk] at this) h5.1 h1 (fun e5 => ?_)
  have e6 : op = 5 := by have := congrArg Tok.kind h2; rw [e5] at this; exact this.symm
  obtain ⟨u, rfl, ho⟩ := h4 e6
  have hkl := (List.getElem?_eq_some_iff.1 ht).1
  have h6 := h3.is
  simp only [Ex.post] at h6
  have h7 := congrArg List.length h6
  simp only [List.length_take, List.length_append, List.length_cons, List.length_nil] at h7
  refine ⟨q.length, u, by omega, ?_, ho⟩
  have h8 : (L.take k)[q.length]? = some u := by rw [h6]; simp
  rw [List.getElem?_take] at h8
  split at h8
  · exact h8
  · cases h8
theorem deep_post : ∀ e : Ex, e.deep ≤ e.post.length
  | .atom t => by simp [Ex.deep, Ex.post]
  | .bin op a b => by
    have := deep_post a
    have := deep_post b
    simp only [Ex.deep, Ex.post, List.length_append, List.length_cons, List.length_nil]
    omega
theorem deep_flat : ∀ {es : List Ex} {e : Ex}, e ∈ es → e.deep ≤ (flatE es).length
  | x :: r, e, h => by
    rcases List.mem_cons.1 h with rfl | h
    · have := deep_post e
      simp only [flatE, List.length_append]
      omega
    · have := deep_flat h
      simp only [flatE, List.length_append]
      omega
theorem Stk.deep {L : List Tok} {k : Nat} {es : List Ex} (h : Stk L k es) {e : Ex} (he : e ∈ es) : e.deep ≤ k := by
  have h1 := deep_flat he
  rw [← h.is, List.length_take] at h1
  omega
theorem Stk.one {L : List Tok} {k : Nat} {e : Ex} {es : List Ex} (h : Stk L k es) (hm : MayIs L e) (hk : L.length ≤ k) : ∃ f, es = [f] ∧ MayIs L f := by
  have h1 := h.is
  rw [List.take_of_length_le hk] at h1
  have h2 := laid_flat h.ok
  rw [← h1, hm.2.1, laid_post hm.1] at h2
  match es, h, h2 with
  | [], _, h2 => simp at h2
  | [f], h, _ => exact ⟨f, rfl, h.done hk hm.2.2⟩
  | a :: b :: r, _, h2 => simp at h2; omega
def deepV (e : Ex) : Value := .int .i64 (e.deep : Int)
/-- how deep the parts are, in a row of its own -/
def IPart (w wr : World) (es : List Ex) (v : Value) : Prop := wr.ownsRow w.heap.size 3 1 v es.length (es.map deepV) ∧ Kept w wr
theorem IPart.kept {w wr w1 : World} {es : List Ex} {v : Value} (h : IPart w wr es v) (hk : Kept wr w1) : IPart w w1 es v := ⟨own_kept h.1 hk, h.2.trans hk⟩
theorem IPart.app {w wr w1 : World} {es : List Ex} {e : Ex} {v v1 : Value} (h : IPart w wr es v) (hp : AppPost wr w.heap.size 3 1 v (es.length + 1) (es.map deepV ++ [deepV e]) v1 w1) : IPart w w1 (es ++ [e]) v1 := by
  have hv : ∀ g, v.ownBlock = some g → w.heap.size ≤ g := fun g hg => (own_lt h.1 hg).1
  refine ⟨?_, (hp.kept h.2 hv).1⟩
  have := hp.1
  simpa using this
theorem own_some {w : World} {base n size : Nat} {e : TypeId} {v : Value} {xs : List Value} (h : w.ownsRow base e size v n xs) (hn : n ≠ 0) : ∃ g cap, v = .slice (some ⟨g, 0, none⟩) n cap ∧ n ≤ cap := by
  rcases h.2 with ⟨rfl, h0⟩ | ⟨g, cap, cur, rfl, hb, h4, h5, _⟩
  · exact absurd h0 hn
  · exact ⟨g, cap, rfl, h5⟩
theorem own_at1 {w : World} {base n g cap i : Nat} {e : TypeId} {u : Value} {xs : List Value} (h : w.ownsRow base e 1 (.slice (some ⟨g, 0, none⟩) n cap) n xs) (hu : xs[i]? = some u) : w.cell? ⟨g, i, none⟩ = some u := by
  rcases h.2 with ⟨h0, _⟩ | ⟨g', cap', cur, hv, hb, h4, h5, h6, h7, h8⟩
  · cases h0
  · cases hv
    rw [cell_whole h4]
    rw [← h8, List.getElem?_take] at hu
    split at hu
    · simpa using hu
    · cases hu
/-- a row cut short -/
theorem own_cut1 {w : World} {base g n cap k : Nat} {e : TypeId} {xs : List Value} (h : w.ownsRow base e 1 (.slice (some ⟨g, 0, none⟩) n cap) n xs) (hk : k ≤ n) :
    w.ownsRow base e 1 (.slice (some ⟨g, 0, none⟩) k cap) k (xs.take k) := by
  have hl := h.1
  rcases h.2 with ⟨hv, _⟩ | ⟨g', cap', cur, hv, hb, hg, hn, hm, hs, ht⟩
  · cases hv
  · cases hv
    refine ⟨by rw [List.length_take]; omega, .inr ⟨g, cap, cur, rfl, hb, hg, by omega, hm, hs, ?_⟩⟩
    rw [← ht, List.take_take]
    congr 1
    omega
theorem IPart.cut {w wr : World} {es fs : List Ex} {g cap : Nat} (h : IPart w wr (es ++ fs) (.slice (some ⟨g, 0, none⟩) (es ++ fs).length cap)) : IPart w wr es (.slice (some ⟨g, 0, none⟩) es.length cap) := by
  refine ⟨?_, h.2⟩
  have := own_cut1 (k := es.length) h.1 (by simp)
  rw [List.map_append, List.take_left' (by simp)] at this
  exact this
theorem Tryd.infoI : (Tryd.prog.info? 3).map (fun i => (i.zero, i.size, i.bytes)) = some (some (.int .i64 0), 1, 8) := by kernel_rfl
theorem Tryd.sliceI : SliceOf Tryd.prog 43 3 (.int .i64 0) 1 8 := slice_of Tryd.underlying43 Tryd.infoI rfl (by decide)
set_option maxHeartbeats 8000000 in
theorem kdeepx_any {w : World} {v : Value} {l : List TrmB} (h : ReadsX w v l) (hl : l.length ≤ 1000000) (hs : ∀ t ∈ l, t.name.size ≤ 1000000) (hL : LaidT w) :
    Calls Tryd.prog 21 #[v] w (DeepXPost (l.map TrmB.tok) w) := by
  have HR := Lib.hid h
  obtain ⟨ao, c, rfl, _, hc⟩ := h
  have HC := Lib.hid hc
  have HM : Hid ((l.map TrmB.tok).length = l.length) := Lib.hid (by simp)
  have HG : Hid (∀ (k : Nat) (t : TrmB), l[k]? = some t → (l.map TrmB.tok)[k]? = some t.tok) := Lib.hid (fun k t ht => by rw [List.getElem?_map, ht]; rfl)
  have HY := Lib.hid (kmayx_any HR.out hl hs hL)
  clear hc hs hL HR
  generalize l.map TrmB.tok = L at *
  generalize hn : l.length = n at *
  have HN := Lib.hid hn
  clear hn
  go_enter Tryd.func21, Tryd.ntmps21
  go_wp2_with fail
  refine HY.out.mono ?_
  rintro e w1 ⟨hk1, hp1⟩
  have HK1 := Lib.hid hk1
  rcases hp1 with ⟨e0, hm, rfl⟩ | ⟨hno, rfl⟩
  · have HE := Lib.hid hm
    have H1 : Hid (IPart w w1 [] (.slice none 0 0)) := Lib.hid ⟨own_nil _ _ _ _, hk1⟩
    have H2 := Lib.hid (stk_zero L)
    have HL200 : Hid (n ≤ 200) := Lib.hid (by rw [← HM.out]; exact hm.2.2)
    clear hm hk1 HY
    go_wp2
    go_loopw [3, 13] (fun lv iv wr => ∃ (k : Nat) (es : List Ex), iv = .int .i64 k ∧ k ≤ n ∧ Hid (Stk L k es) ∧ Hid (IPart w wr es lv)) (fun _ iv _ => n - (intOf iv).toNat)
    case atStart => exact ⟨0, [], rfl, by omega, H2, H1⟩
    case round =>
      obtain ⟨k, es, rfl, hk, hto, hp⟩ := hrel
      clear H1 H2
      by_cases hlt : k < n
      · have hlti : (k : Int) < n := by omega
        obtain ⟨t, ht⟩ : ∃ t, l[k]? = some t := ⟨_, List.getElem?_eq_getElem (by have := HN.out; omega)⟩
        obtain ⟨g, off, rfl, d0, d1, d2⟩ := HC.out k t ht
        have c0 := hp.out.2.cell d0 (fun x => x)
        have c1 := hp.out.2.cell d1 (fun x => x)
        have c2 := hp.out.2.cell d2 (fun x => x)
        have HT := Lib.hid (HG.out k t ht)
        have hk200 : k < 200 := by have := HL200.out; omega
        clear ht d0 d1 d2
        by_cases k1 : t.op = 1
        · have g1 : (t.op != 1) = false := by simp [k1]
          have hw := (post_terms HE.out.1 t.tok (by rw [← HE.out.2.1]; exact List.mem_of_getElem? HT.out)).1
          have HN2 := Lib.hid (hto.out.atom HT.out k1 hw)
          obtain ⟨bo, d, hv, hd⟩ := own_slice hp.out.1
          subst hv
          have hml : es.length ≤ 200 := by
            have h1 := laid_flat hto.out.ok
            have h2 : ∀ (fs : List Ex), AllOk fs → fs.length ≤ (flatE fs).length := fun fs => by
              induction fs with
              | nil => intro _; simp
              | cons y r ih =>
                intro hf
                have := ih (fun z hz => hf z (by simp [hz]))
                have := List.length_pos_iff.2 y.post_ne
                simp only [flatE, List.length_cons, List.length_append]
                omega
            have h3 := h2 es hto.out.ok
            rw [← hto.out.is, List.length_take] at h3
            omega
          have HP2 : Hid (IPart w ((wr.alloc (.cells #[.int .i64 t.op, .int .i64 t.of, .string t.name] 45)).alloc (.cells #[.int .i64 1] 3)) es (.slice bo es.length d)) := Lib.hid (hp.out.kept ((Fr.of_alloc _ _ _).trans (Fr.of_alloc _ _ _)))
          have HH : Hid (((wr.alloc (.cells #[.int .i64 t.op, .int .i64 t.of, .string t.name] 45)).alloc (.cells #[.int .i64 1] 3)).heap[wr.heap.size + 1]? = some (.cells #[.int .i64 1] 3)) := Lib.hid (by
            have := heap_alloc_new (wr.alloc (.cells #[.int .i64 t.op, .int .i64 t.of, .string t.name] 45)) (.cells #[.int .i64 1] 3)
            rwa [World.size_alloc] at this)
          clear k1 hw hp
          generalize hmm : es.length = m at *
          have HMM := Lib.hid hmm
          clear hmm
          go_wp2_with (at_builtin; refine list_app rfl (.tmp 38) (.tmp 40) 43 43 rfl Tryd.sliceI rfl (by have := HP2.out.1; rw [HMM.out] at this; exact this) rfl (src_one (u := .int .i64 1) Tryd.underlying43 HH.out rfl) (by unfold maxLen; omega) (by omega) (by have := HP2.out.2.size; exact this) ?_; intro v1 w3 hq; have HQ := Lib.hid (IPart.app (e := .atom t.tok) HP2.out (by rw [HMM.out]; exact hq)); clear hq)
          go_roundw
          case rel => exact ⟨k + 1, _, by go_num, by omega, HN2, HQ⟩
          case measure => simp [intOf]; omega
        · have g1 : (t.op != 1) = true := by simp [k1]
          obtain ⟨fs, a, b, he, hst⟩ := hto.out.op_may HE.out HT.out k1
          subst he
          have HN2 := Lib.hid hst
          have hda := hto.out.deep (e := a) (by simp)
          have hdb := hto.out.deep (e := b) (by simp)
          obtain ⟨gr, cap, hv, hcap⟩ := own_some hp.out.1 (by simp)
          subst hv
          have a1 : wr.cell? ⟨gr, fs.length, none⟩ = some (.int .i64 (a.deep : Int)) := own_at1 hp.out.1 (by simp [deepV])
          have a2 : wr.cell? ⟨gr, fs.length + 1, none⟩ = some (.int .i64 (b.deep : Int)) := own_at1 hp.out.1 (by simp [deepV])
          have HCUT : Hid (∀ W, IPart w W (fs ++ [a, b]) (.slice (some ⟨gr, 0, none⟩) (fs ++ [a, b]).length cap) → IPart w W fs (.slice (some ⟨gr, 0, none⟩) fs.length cap)) := Lib.hid (fun W h => h.cut)
          have hlen : (fs ++ [a, b]).length = fs.length + 2 := by simp
          have hfl : fs.length + 2 ≤ 200 := by
            have h2 : ∀ (fs : List Ex), AllOk fs → fs.length ≤ (flatE fs).length := fun fs => by
              induction fs with
              | nil => intro _; simp
              | cons y r ih =>
                intro hf
                have := ih (fun z hz => hf z (by simp [hz]))
                have := List.length_pos_iff.2 y.post_ne
                simp only [flatE, List.length_cons, List.length_append]
                omega
            have h3 := h2 _ hto.out.ok
            rw [← hto.out.is, List.length_take] at h3
            omega
          have HKR : Hid (∀ W, Kept wr W → IPart w W fs (.slice (some ⟨gr, 0, none⟩) fs.length cap)) := Lib.hid (fun W hk => HCUT.out W (hp.out.kept hk))
          rw [hlen] at hcap ⊢
          have HDV : Hid (deepV (.bin t.op a b) = .int .i64 ((max a.deep b.deep + 1 : Nat) : Int)) := Lib.hid rfl
          clear hp HCUT hlen k1 hst
          generalize hmm : fs.length = m at *
          have HMM := Lib.hid hmm
          generalize hxa : a.deep = da at *
          generalize hxb : b.deep = db at *
          have p2 : ((m + 2 : Nat) : Int) - 2 = (m : Int) := by omega
          have pn : ((m : Int)).toNat = m := by omega
          have pn1 : ((m : Int) + 1).toNat = m + 1 := by omega
          have p0 : (0 : Int) ≤ (m : Int) + 1 := by omega
          have p1 : (m : Int) + 1 < ((m + 2 : Nat) : Int) := by omega
          have pm : (m : Int) < ((m + 2 : Nat) : Int) := by omega
          have pw : IntKind.i64.wrap ((m : Int) + 1) = (m : Int) + 1 := IntWalk.i64_in _ (by omega)
          have a1o := fun o => (Fr.of_alloc (fun _ => False) wr o).cell a1 (fun x => x)
          have a2o := fun o => (Fr.of_alloc (fun _ => False) wr o).cell a2 (fun x => x)
          clear hmm hxa hxb
          go_upto_region 10 with fail
          have HKA := Lib.hid (Fr.of_alloc (fun _ => False) wr (Obj.cells #[.int .i64 t.op, .int .i64 t.of, .string t.name] 45))
          have b1 := a1o (Obj.cells #[.int .i64 t.op, .int .i64 t.of, .string t.name] 45)
          have b2 := a2o (Obj.cells #[.int .i64 t.op, .int .i64 t.of, .string t.name] 45)
          clear a1 a2 a1o a2o c0 c1 c2
          generalize wr.alloc (Obj.cells #[.int .i64 t.op, .int .i64 t.of, .string t.name] 45) = W1 at HKA b1 b2 ⊢
          go_cut [6, 13] from 13 to 42 (fun dv iv wx => dv = .int .i64 ((max da db + 1 : Nat) : Int) ∧ iv = .int .i64 k ∧ Hid (Kept wr wx))
          case first =>
            have HMX : Hid (∀ x : Int, x = ((max da db + 1 : Nat) : Int) → Value.int .i64 x = .int .i64 ((max da db + 1 : Nat) : Int)) := Lib.hid (fun x h => by rw [h])
            have HE2 : Hid ((1 : Int) + max (da : Int) (db : Int) = ((max da db + 1 : Nat) : Int)) := Lib.hid (by omega)
            have pw2 : IntKind.i64.wrap (1 + max (da : Int) (db : Int)) = 1 + max (da : Int) (db : Int) := IntWalk.i64_in _ (by omega)
            go_region
            all_goals
              go_wp2_with fail
              go_meet
              case rel => exact ⟨HMX.out _ HE2.out, rfl, Lib.hid (HKA.out.trans (Fr.of_drew _ _))⟩
          case rest =>
          obtain ⟨rfl, rfl, hkx⟩ := hcut
          have HKX : Hid (Kept wr wc) := hkx
          clear hkx b1 b2 HKA
          have HP2 : Hid (∀ o, IPart w (wc.alloc o) fs (.slice (some ⟨gr, 0, none⟩) m cap)) := Lib.hid (fun o => HKR.out _ (HKX.out.trans (Fr.of_alloc _ _ _)))
          generalize hmx : ((max da db + 1 : Nat) : Int) = mx at *
          have HMXX := Lib.hid hmx
          clear hmx
          have pc : m ≤ cap := by omega
          go_wp2_with (at_builtin; refine list_app rfl (.tmp 38) (.tmp 40) 43 43 rfl Tryd.sliceI rfl (by have := (HP2.out (.cells #[.int .i64 mx] 3)).1; rw [HMM.out] at this; exact this) rfl (src_one (u := .int .i64 mx) Tryd.underlying43 (heap_alloc_new _ _) rfl) (by unfold maxLen; omega) (by omega) (by have := (HP2.out (.cells #[.int .i64 mx] 3)).2.size; exact this) ?_; intro v1 w3 hq; have HQ := Lib.hid (IPart.app (e := .bin t.op a b) (HP2.out (.cells #[.int .i64 mx] 3)) (by rw [HMM.out, HDV.out]; exact hq)); clear hq)
          go_roundw
          case rel => exact ⟨k + 1, _, by go_num, by omega, HN2, HQ⟩
          case measure => simp [intOf]; omega
      · have hlti : ¬ (k : Int) < n := by omega
        obtain ⟨f, hf, hmf⟩ := hto.out.one HE.out (by rw [HM.out]; omega)
        subst hf
        obtain ⟨gr, cap, hv, hcap⟩ := own_some hp.out.1 (by simp)
        subst hv
        have a0 : wr.cell? ⟨gr, 0, none⟩ = some (.int .i64 (f.deep : Int)) := own_at1 hp.out.1 (by simp [deepV])
        have HF := Lib.hid hmf
        clear hmf
        simp only [List.length_cons, List.length_nil] at hcap ⊢
        go_wp2
        go_ret
        exact ⟨hp.out.2, .inl ⟨f, HF.out, rfl⟩⟩
  · have HX := Lib.hid hno
    clear hno hk1
    go_wp2
    go_ret
    exact ⟨HK1.out, .inr ⟨HX.out, rfl⟩⟩

end Go.Proofs.YtdapdpmplbifdaaDoor
