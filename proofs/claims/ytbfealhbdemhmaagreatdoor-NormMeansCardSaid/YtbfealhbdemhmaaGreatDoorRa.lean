/- Contracts and lemmas: Ra -/
import Derived.Test.YtbfealhbdemhmaaGreatDoorNa
namespace Go.Proofs.YtbfealhbdemhmaaGreatDoor
set_option linter.unusedVariables false
set_option linter.unusedSimpArgs false
open Go.RowKit Go.ChangeShapes Go.WideShapes
set_option maxRecDepth 20000
/-- what Run answers, whatever row it lies in -/
def RunPost (L : Nat → List ByteArray) (x : List Tok) (w : World) (e : Ending) (w' : World) : Prop :=
  ∃ v s, ∃ (n : Nat) (q : Int), e = .returned (.tuple #[v, .int .i64 n, .int .i64 q]) ∧ RunIs L x (s, n, q) ∧ Reads w' (fun _ => True) v (wcells s) ∧ Kept w w'
theorem run_post_bad {L : Nat → List ByteArray} {x : List Tok} {w w' : World} {n : Nat} {q : Int} (h : RunIs L x ([], n, q)) (hk : Kept w w') : RunPost L x w (.returned (.tuple #[.slice none 0 0, .int .i64 n, .int .i64 q])) w' :=
  ⟨_, [], n, q, rfl, h, ⟨none, 0, rfl, Nat.le_refl _, fun i x h => by simp [wcells] at h⟩, hk⟩
theorem drop_tok {l : List Tok} {k : Nat} {t : Tok} (h : l[k]? = some t) : l.drop k = t :: l.drop (k + 1) := drop_get h
theorem opL_len (k : Int) (a b : List ByteArray) : (opL k a b).1.length ≤ 16 := by
  have hb : ∀ s : List ByteArray, (boundL s).1.length ≤ 16 := fun s => by
    unfold boundL
    split
    · simp
    · show s.length ≤ 16; omega
  have ha : ∀ x y : List ByteArray, (andL x y).1.length ≤ 16 := fun x y => by
    unfold andL
    split
    · simp
    · exact hb _
  unfold opL
  split
  · exact ha a b
  · split
    · unfold forL
      split
      · simp
      · split
        · simp
        · exact ha _ _
    · split
      · exact quoteL_len a b
      · unfold asL
        split
        · simp
        · split
          · simp
          · exact quoteL_len _ _
set_option maxHeartbeats 16000000 in
theorem rrun_any {w : World} {F : Nat → Prop} {B : Nat} {L : Nat → List ByteArray} (hT : Atm.RTab w F B L) (hG : TabL L) {v : Value} {l : List TrmB} (h : ReadsX w v l) (hl : l.length ≤ 1000000) (hs : ∀ t ∈ l, t.name.size ≤ 1000000) :
    Calls Tryz.prog 13 #[.pointer (some ⟨B, 0, none⟩), v] w (RunPost L (l.map TrmB.tok) w) := by
  have HR := Lib.hid h
  have HT := Lib.hid hT
  have HGL := Lib.hid hG
  have HS := Lib.hid hs
  obtain ⟨ao, c, rfl, hcc, hc⟩ := h
  have HC := Lib.hid hc
  have HMY := Lib.hid (rmayx_any HR.out hl HS.out)
  have HM : Hid ((l.map TrmB.tok).length = l.length) := Lib.hid (by simp)
  have HG : Hid (∀ (k : Nat) (t : TrmB), l[k]? = some t → (l.map TrmB.tok)[k]? = some t.tok) := Lib.hid (fun k t ht => by rw [List.getElem?_map, ht]; rfl)
  clear hT hG hs hc HR
  generalize l.map TrmB.tok = X at *
  generalize hn : l.length = n at *
  have HN := Lib.hid hn
  clear hn
  go_enter Tryz.func13, Tryz.ntmps13
  go_wp2_with fail
  refine HMY.out.mono ?_
  rintro e w1 ⟨hk1, hp1⟩
  have HK1 := Lib.hid hk1
  rcases hp1 with ⟨ex, hm, rfl⟩ | ⟨hno, rfl⟩
  rotate_left
  · have HX : Hid (RunIs L X ([], 0, 2)) := Lib.hid (.inr ⟨hno, rfl⟩)
    clear hno hk1
    go_wp2
    go_ret3
    exact run_post_bad HX.out HK1.out
  · have HE := Lib.hid hm
    have HW := Lib.hid (run_whole (L := L) hm)
    have H0 : Hid (SetsRow w (w1.alloc (.cells #[] 33)) (.slice (some ⟨w1.heap.size, 0, none⟩) 0 0) []) := Lib.hid (sets_new (hk1.trans (Fr.of_alloc _ _ _)) (heap_alloc_new _ _) (by have := hk1.size; exact this))
    have H1 := Lib.hid (stk_zero X)
    have hn200 : n ≤ 200 := by have := hm.2.2; rw [HM.out] at this; exact this
    clear hm hk1 HMY
    go_wp2
    go_loopw [7, 8] (fun sv iv wr => ∃ (k : Nat) (es : List Ex) (ls : List (List ByteArray)), iv = .int .i64 k ∧ k ≤ n ∧ Hid (Stk X k es ∧ ls.length = es.length) ∧ Hid (runS L (X.drop k) ls.reverse k = runS L X [] 0) ∧ Hid (∀ x ∈ ls, mayL x = true) ∧ Hid (SetsRow w wr sv ls)) (fun _ iv _ => n - (intOf iv).toNat)
    case atStart => exact ⟨0, [], [], rfl, by omega, Lib.hid ⟨H1.out, rfl⟩, Lib.hid rfl, Lib.hid (fun x hx => by simp at hx), H0⟩
    case round =>
      obtain ⟨k, es, ls, rfl, hk, hst, hrun, hmay, hp⟩ := hrel
      clear H0 H1
      by_cases hlt : k < n
      · have hlti : (k : Int) < n := by omega
        obtain ⟨t, ht⟩ : ∃ t, l[k]? = some t := ⟨_, List.getElem?_eq_getElem (by have := HN.out; omega)⟩
        obtain ⟨g, off, rfl, d0, d1, d2⟩ := HC.out k t ht
        obtain ⟨vs0, ho0, hvl⟩ := hp.out.vals
        have HKW : Hid (Kept w wr) := Lib.hid (by obtain ⟨_, _, hk, _⟩ := hp.out; exact hk)
        have c0 := HKW.out.cell d0 (fun x => x)
        have c1 := HKW.out.cell d1 (fun x => x)
        have c2 := HKW.out.cell d2 (fun x => x)
        have HTK := Lib.hid (HG.out k t ht)
        have HRS : Hid (runS L (t.tok :: X.drop (k + 1)) ls.reverse k = runS L X [] 0) := Lib.hid (by rw [← drop_tok (HG.out k t ht)]; exact hrun.out)
        have hsz := HS.out t (List.mem_of_getElem? ht)
        have HLS : Hid (ls.length ≤ 200) := Lib.hid (by
          rw [hst.out.2]
          have h2 : ∀ (fs : List Ex), AllOk fs → fs.length ≤ (flatE fs).length := fun fs => by
            induction fs with
            | nil => intro _; simp
            | cons y r ih =>
              intro hf
              have := ih (fun z hz => hf z (by simp [hz]))
              have := List.length_pos_iff.2 y.post_ne
              simp only [flatE, List.length_cons, List.length_append]
              omega
          have h3 := h2 es hst.out.1.ok
          rw [← hst.out.1.is, List.length_take] at h3
          omega)
        clear ht d0 d1 d2 hrun ho0 hvl
        by_cases k1 : t.op = 1
        · have g1 : (t.op == 1) = true := by simp [k1]
          have HAT : Hid (AtomOk t.tok) := Lib.hid ⟨k1, (post_terms HE.out.1 t.tok (by rw [← HE.out.2.1]; exact List.mem_of_getElem? HTK.out)).1⟩
          have HFI : Hid (∀ W, Kept w W → Calls Tryz.prog 31 #[.pointer (some ⟨B, 0, none⟩), .int .i64 t.of, .string t.name] W fun e w' => e = .returned (Atm.foundV t.of (Atm.numS L t.of t.name)) ∧ W = w') := Lib.hid (fun W hW => Atm.rfind_any (HT.out.later hW) (fun k => HGL.out.few k) t.of t.name)
          obtain ⟨fa, fb, hfv⟩ : ∃ fa fb, Atm.foundV t.of (Atm.numS L t.of t.name) = .tuple #[.int .u16 fa, .bool fb] := ⟨_, _, rfl⟩
          have hnm : strOf t.tok.name = t.name := strOf_bs t.name
          by_cases h0 : t.of = 0
          · have g0 : (t.of == 0) = true := by simp [h0]
            have HTA : Hid (termA L t.tok = some 1) := Lib.hid (by unfold termA; rw [if_pos (show t.tok.of = 0 from h0)])
            have HFV := Lib.hid hfv
            have hga : (1 : Int) ≤ 1 ∧ (1 : Int) ≤ 65535 := by obtain ⟨h1, h2, _⟩ := term_atom HGL.out HAT.out HTA.out; exact ⟨h1, h2⟩
            have HGD : Hid (Good [1]) := Lib.hid (fun x hx => by simp at hx; subst hx; omega)
            have HHA : Hid (((wr.alloc (.cells #[.int .i64 t.op, .int .i64 t.of, .string t.name] 52)).alloc (.cells #[.int .u16 1] 57)).heap[wr.heap.size + 1]? = some (.cells #[.int .u16 1] 57)) := Lib.hid (by
              have := heap_alloc_new (wr.alloc (.cells #[.int .i64 t.op, .int .i64 t.of, .string t.name] 52)) (.cells #[.int .u16 1] 57)
              rwa [World.size_alloc] at this)
            have HKB : Hid (Kept wr ((wr.alloc (.cells #[.int .i64 t.op, .int .i64 t.of, .string t.name] 52)).alloc (.cells #[.int .u16 1] 57))) := Lib.hid ((Fr.of_alloc _ _ _).trans (Fr.of_alloc _ _ _))
            have HR1 : Hid (runS L (X.drop (k + 1)) ([ofS [1]] :: ls.reverse) (k + 1) = runS L X [] 0) := Lib.hid (by rw [← run_atom k1 HTA.out]; exact HRS.out)
            obtain ⟨bo, dd, hv, hd⟩ := hp.out.form
            subst hv
            clear hfv h0 hnm k1
            go_wp2_with (go_at_call 31; refine (HFI.out _ (HKW.out.trans (Fr.of_alloc _ _ _))).mono ?_; rintro e w' ⟨rfl, rfl⟩; rw [HFV.out])
            refine (rof_any (l := [1]) (reads_built (cs := #[.int .u16 1]) HHA.out) HGD.out (by simp)).mono ?_
            rintro e w3 ⟨rfl, hk3⟩
            have HK3 := Lib.hid (HKB.out.trans hk3)
            clear hk3 HHA HKB HFI
            have HP3 : Hid (SetsRow w ((w3.alloc (.cells #[.string (ofS [1])] 43)).alloc (.cells #[.slice (some ⟨w3.heap.size, 0, none⟩) 1 1] 33)) (.slice bo ls.length dd) ls) := Lib.hid (hp.out.kept (HK3.out.trans ((Fr.of_alloc _ _ _).trans (Fr.of_alloc _ _ _))))
            obtain ⟨vs, hov, _⟩ := HP3.out.vals
            have HOV := Lib.hid hov
            have HH2 : Hid (((w3.alloc (.cells #[.string (ofS [1])] 43)).alloc (.cells #[.slice (some ⟨w3.heap.size, 0, none⟩) 1 1] 33)).heap[w3.heap.size + 1]? = some (.cells #[.slice (some ⟨w3.heap.size, 0, none⟩) 1 1] 33)) := Lib.hid (by
              have := heap_alloc_new (w3.alloc (.cells #[.string (ofS [1])] 43)) (.cells #[.slice (some ⟨w3.heap.size, 0, none⟩) 1 1] 33)
              rwa [World.size_alloc] at this)
            have HRW : Hid (Reads ((w3.alloc (.cells #[.string (ofS [1])] 43)).alloc (.cells #[.slice (some ⟨w3.heap.size, 0, none⟩) 1 1] 33)) (fun g => (Value.slice bo ls.length dd).ownBlock ≠ some g) (.slice (some ⟨w3.heap.size, 0, none⟩) 1 1) (wcells [ofS [1]])) := Lib.hid (by
              have h1 := reads_built (cs := #[.string (ofS [1])]) (Atm.hp2 w3 (.cells #[.string (ofS [1])] 43) (.cells #[.slice (some ⟨w3.heap.size, 0, none⟩) 1 1] 33))
              refine h1.mono (fun g hg e => ?_)
              subst hg
              obtain ⟨vs1, ho1, _⟩ := hp.out.vals
              have h2 := (own_lt ho1 e).2
              have h3 := HK3.out.size
              omega)
            have hls := HLS.out
            clear hov
            generalize hml : ls.length = m at *
            have HML := Lib.hid hml
            clear hml
            go_wp2_with (at_builtin; refine list_app rfl (.tmp 52) (.tmp 57) 69 69 rfl Tryz.sliceSet rfl HOV.out rfl (src_one (u := .slice (some ⟨w3.heap.size, 0, none⟩) 1 1) Tryz.underlying69 HH2.out rfl) (by unfold maxLen; omega) (by omega) (by obtain ⟨_, _, hkk, _⟩ := HP3.out; exact hkk.size) ?_; intro v1 w5 hq; have HQ := Lib.hid (SetsRow.push HP3.out (by rw [HML.out]; exact HOV.out) HRW.out (by rw [HML.out]; exact hq)); clear hq)
            go_roundw
            case rel => exact ⟨k + 1, es ++ [.atom t.tok], ls ++ [[ofS [1]]], by go_num, by omega, Lib.hid ⟨hst.out.1.atom HTK.out HAT.out.1 HAT.out.2, by simp [HML.out, hst.out.2]⟩, Lib.hid (by simpa using HR1.out), Lib.hid (fun x hx => by
                rcases List.mem_append.1 hx with hx | hx
                · exact hmay.out x hx
                · simp at hx; subst hx; exact may_single (may_word hga.1 hga.2)), HQ⟩
            case measure => simp [intOf]; omega
          · have g0 : (t.of == 0) = false := by simp [h0]
            by_cases hz : Atm.numS L t.of t.name = 0
            · have HTA : Hid (termA L t.tok = none) := Lib.hid (by unfold termA; rw [if_neg (show ¬ t.tok.of = 0 from h0), hnm, if_pos (show Atm.numS L t.tok.of t.name = 0 from hz)])
              have HFV : Hid (Atm.foundV t.of (Atm.numS L t.of t.name) = .tuple #[.int .u16 0, .bool false]) := Lib.hid (by rw [hz]; rfl)
              have HX : Hid (RunIs L X ([], k, 10)) := Lib.hid (by have := HW.out; rw [← HRS.out, run_none k1 HTA.out] at this; exact this)
              clear hfv h0 hz k1 hnm
              go_wp2_with (go_at_call 31; refine (HFI.out _ (HKW.out.trans (Fr.of_alloc _ _ _))).mono ?_; rintro e w' ⟨rfl, rfl⟩; rw [HFV.out])
              go_ret3
              exact run_post_bad HX.out (HKW.out.trans (Fr.of_alloc _ _ _))
            · obtain ⟨av, hav⟩ : ∃ av : Int, av = t.of * 8192 + Atm.numS L t.of t.name := ⟨_, rfl⟩
              have HTA : Hid (termA L t.tok = some av) := Lib.hid (by unfold termA; rw [if_neg (show ¬ t.tok.of = 0 from h0), hnm, if_neg (show ¬ Atm.numS L t.tok.of t.name = 0 from hz), hav]; rfl)
              have HFV : Hid (Atm.foundV t.of (Atm.numS L t.of t.name) = .tuple #[.int .u16 av, .bool true]) := Lib.hid (by unfold Atm.foundV; rw [if_neg hz, hav]; simp [hz])
              clear hav
              have hga : (1 : Int) ≤ av ∧ (av : Int) ≤ 65535 := by obtain ⟨h1, h2, _⟩ := term_atom HGL.out HAT.out HTA.out; exact ⟨h1, h2⟩
              have HGD : Hid (Good [av]) := Lib.hid (fun x hx => by simp at hx; subst hx; omega)
              have HHA : Hid (((wr.alloc (.cells #[.int .i64 t.op, .int .i64 t.of, .string t.name] 52)).alloc (.cells #[.int .u16 av] 57)).heap[wr.heap.size + 1]? = some (.cells #[.int .u16 av] 57)) := Lib.hid (by
                have := heap_alloc_new (wr.alloc (.cells #[.int .i64 t.op, .int .i64 t.of, .string t.name] 52)) (.cells #[.int .u16 av] 57)
                rwa [World.size_alloc] at this)
              have HKB : Hid (Kept wr ((wr.alloc (.cells #[.int .i64 t.op, .int .i64 t.of, .string t.name] 52)).alloc (.cells #[.int .u16 av] 57))) := Lib.hid ((Fr.of_alloc _ _ _).trans (Fr.of_alloc _ _ _))
              have HR1 : Hid (runS L (X.drop (k + 1)) ([ofS [av]] :: ls.reverse) (k + 1) = runS L X [] 0) := Lib.hid (by rw [← run_atom k1 HTA.out]; exact HRS.out)
              obtain ⟨bo, dd, hv, hd⟩ := hp.out.form
              subst hv
              clear hfv h0 hz hnm k1
              go_wp2_with (go_at_call 31; refine (HFI.out _ (HKW.out.trans (Fr.of_alloc _ _ _))).mono ?_; rintro e w' ⟨rfl, rfl⟩; rw [HFV.out])
              refine (rof_any (l := [av]) (reads_built (cs := #[.int .u16 av]) HHA.out) HGD.out (by simp)).mono ?_
              rintro e w3 ⟨rfl, hk3⟩
              have HK3 := Lib.hid (HKB.out.trans hk3)
              clear hk3 HHA HKB HFI
              have HP3 : Hid (SetsRow w ((w3.alloc (.cells #[.string (ofS [av])] 43)).alloc (.cells #[.slice (some ⟨w3.heap.size, 0, none⟩) 1 1] 33)) (.slice bo ls.length dd) ls) := Lib.hid (hp.out.kept (HK3.out.trans ((Fr.of_alloc _ _ _).trans (Fr.of_alloc _ _ _))))
              obtain ⟨vs, hov, _⟩ := HP3.out.vals
              have HOV := Lib.hid hov
              have HH2 : Hid (((w3.alloc (.cells #[.string (ofS [av])] 43)).alloc (.cells #[.slice (some ⟨w3.heap.size, 0, none⟩) 1 1] 33)).heap[w3.heap.size + 1]? = some (.cells #[.slice (some ⟨w3.heap.size, 0, none⟩) 1 1] 33)) := Lib.hid (by
                have := heap_alloc_new (w3.alloc (.cells #[.string (ofS [av])] 43)) (.cells #[.slice (some ⟨w3.heap.size, 0, none⟩) 1 1] 33)
                rwa [World.size_alloc] at this)
              have HRW : Hid (Reads ((w3.alloc (.cells #[.string (ofS [av])] 43)).alloc (.cells #[.slice (some ⟨w3.heap.size, 0, none⟩) 1 1] 33)) (fun g => (Value.slice bo ls.length dd).ownBlock ≠ some g) (.slice (some ⟨w3.heap.size, 0, none⟩) 1 1) (wcells [ofS [av]])) := Lib.hid (by
                have h1 := reads_built (cs := #[.string (ofS [av])]) (Atm.hp2 w3 (.cells #[.string (ofS [av])] 43) (.cells #[.slice (some ⟨w3.heap.size, 0, none⟩) 1 1] 33))
                refine h1.mono (fun g hg e => ?_)
                subst hg
                obtain ⟨vs1, ho1, _⟩ := hp.out.vals
                have h2 := (own_lt ho1 e).2
                have h3 := HK3.out.size
                omega)
              have hls := HLS.out
              clear hov
              generalize hml : ls.length = m at *
              have HML := Lib.hid hml
              clear hml
              go_wp2_with (at_builtin; refine list_app rfl (.tmp 52) (.tmp 57) 69 69 rfl Tryz.sliceSet rfl HOV.out rfl (src_one (u := .slice (some ⟨w3.heap.size, 0, none⟩) 1 1) Tryz.underlying69 HH2.out rfl) (by unfold maxLen; omega) (by omega) (by obtain ⟨_, _, hkk, _⟩ := HP3.out; exact hkk.size) ?_; intro v1 w5 hq; have HQ := Lib.hid (SetsRow.push HP3.out (by rw [HML.out]; exact HOV.out) HRW.out (by rw [HML.out]; exact hq)); clear hq)
              go_roundw
              case rel => exact ⟨k + 1, es ++ [.atom t.tok], ls ++ [[ofS [av]]], by go_num, by omega, Lib.hid ⟨hst.out.1.atom HTK.out HAT.out.1 HAT.out.2, by simp [HML.out, hst.out.2]⟩, Lib.hid (by simpa using HR1.out), Lib.hid (fun x hx => by
                  rcases List.mem_append.1 hx with hx | hx
                  · exact hmay.out x hx
                  · simp at hx; subst hx; exact may_single (may_word hga.1 hga.2)), HQ⟩
              case measure => simp [intOf]; omega
        · have g1 : (t.op == 1) = false := by simp [k1]
          obtain ⟨es', ea, eb, he, hst2⟩ := hst.out.1.op_may HE.out HTK.out k1
          obtain ⟨fs, a, b, hls⟩ := two_last (l := ls) (by rw [hst.out.2, he]; simp)
          subst hls
          have HNS := Lib.hid hst2
          have HLE : Hid (fs.length = es'.length) := Lib.hid (by have := hst.out.2; rw [he] at this; simpa using this)
          have HMA : Hid (mayL a = true ∧ mayL b = true) := Lib.hid ⟨hmay.out a (by simp), hmay.out b (by simp)⟩
          have HMF : Hid (∀ x ∈ fs, mayL x = true) := Lib.hid (fun x hx => hmay.out x (by simp [hx]))
          obtain ⟨gs, cap, hv, hcap, hgw, hgl, hcell⟩ := hp.out.cell (by simp)
          subst hv
          obtain ⟨ua, ha1, ha2⟩ := hcell fs.length a (by simp)
          obtain ⟨ub, hb1, hb2⟩ := hcell (fs.length + 1) b (by simp)
          have HRA := Lib.hid ha2
          have HRB := Lib.hid hb2
          obtain ⟨aoa, ca, hua, _⟩ := ha2
          obtain ⟨aob, cb, hub, _, hbc⟩ := hb2
          have a1o := fun o => (Fr.of_alloc (fun _ => False) wr o).cell ha1 (fun x => x)
          have b1o := fun o => (Fr.of_alloc (fun _ => False) wr o).cell hb1 (fun x => x)
          have HR2 : Hid (runS L (t.tok :: X.drop (k + 1)) (b :: a :: fs.reverse) k = runS L X [] 0) := Lib.hid (by have := HRS.out; simpa using this)
          obtain ⟨vs, hov, _⟩ := hp.out.vals
          have HOV := Lib.hid hov
          have HKI : Hid (t.tok.kind ≠ 1) := Lib.hid k1
          have hlen : (fs ++ [a, b]).length = fs.length + 2 := by simp
          have hls200 := HLS.out
          rw [hlen] at hls200
          have HP := Lib.hid hp.out
          have hop : t.op = 2 ∨ t.op = 3 ∨ t.op = 4 ∨ t.op = 5 := by
            have h1 := (post_terms HE.out.1 t.tok (by rw [← HE.out.2.1]; exact List.mem_of_getElem? HTK.out)).2
            rw [kbind_other (show t.tok.kind ≠ 1 from k1)] at h1
            exact bind_cases h1
          subst hua
          subst hub
          clear he hst2 hst hmay HRS hcell ha1 hb1 hp hgw hgl hov k1
          rw [hlen] at hcap ⊢
          have HLN2 := Lib.hid hlen
          clear hlen
          generalize hml : fs.length = m at *
          have HML := Lib.hid hml
          clear hml
          have p1 : ((m + 2 : Nat) : Int) - 1 = ((m + 1 : Nat) : Int) := by omega
          have p2 : ((m + 2 : Nat) : Int) - 2 = (m : Int) := by omega
          have p3 : (m : Int) < ((m + 2 : Nat) : Int) := by omega
          have p4 : ((m + 1 : Nat) : Int) < ((m + 2 : Nat) : Int) := by omega
          have p5 : (m : Int).toNat = m := by omega
          have p6 : m ≤ cap := by omega
          rcases hop with hop | hop | hop | hop
          · have hkop : t.op = 2 := hop
            have HKOP := Lib.hid hkop
            have HK2 : Hid (Kept wr ((wr.alloc (.cells #[.int .i64 t.op, .int .i64 t.of, .string t.name] 52)).alloc (.cells #[] 43))) := Lib.hid ((Fr.of_alloc _ _ _).trans (Fr.of_alloc _ _ _))
            have HRA2 := Lib.hid (HRA.out.new HK2.out)
            have HRB2 := Lib.hid (HRB.out.new HK2.out)
            have HOP : Hid (opL 2 a b = andL a b) := Lib.hid (by unfold opL; rw [if_pos rfl])
            have HKK : Hid (t.tok.kind = 2) := Lib.hid hop
            have gk : (t.op == 2) = true := by simp [hop]
            clear hop hkop
            clear hbc
            go_wp2_with fail
            refine (rand_any HRA2.out HRB2.out (may_bounds HMA.out.1).1 (may_bounds HMA.out.2).1 (may_bounds HMA.out.1).2 (may_bounds HMA.out.2).2).mono ?_
            rintro e w5 ⟨v2, rfl, hown2, hk5⟩
            rw [← HOP.out] at *
            have HK5 := Lib.hid (HK2.out.trans hk5)
            have HO2 := Lib.hid hown2
            obtain ⟨ao2, c2', hv2, _⟩ := own_slice hown2
            subst hv2
            clear hown2 hk5 a1o b1o c0 c1 c2
            have hl16 := opL_len 2 a b
            have HRO : Hid ((opL 2 a b).2 = 0 → runS L (X.drop (k + 1)) ((opL 2 a b).1 :: fs.reverse) (k + 1) = runS L X [] 0) := Lib.hid (fun h0 => by
              have h1 := run_op (L := L) (t := t.tok) (r := X.drop (k + 1)) (st := fs.reverse) (a := a) (b := b) (i := k) (by rw [HKK.out]; decide) (by rw [HKK.out]; exact h0)
              rw [HKK.out] at h1
              rw [← h1]
              exact HR2.out)
            have HRN : Hid ((opL 2 a b).2 ≠ 0 → RunIs L X ([], k, (opL 2 a b).2)) := Lib.hid (fun h0 => by
              have h1 := run_bad (L := L) (t := t.tok) (r := X.drop (k + 1)) (st := fs.reverse) (a := a) (b := b) (i := k) (by rw [HKK.out]; decide) (by rw [HKK.out]; exact h0)
              rw [HKK.out] at h1
              have h2 := HW.out
              rw [← HR2.out, h1] at h2
              exact h2)
            have HMO : Hid ((opL 2 a b).2 = 0 → mayL (opL 2 a b).1 = true) := Lib.hid (fun h0 => opL_may (k := 2) HMA.out.1 HMA.out.2 (Prod.ext rfl h0))
            generalize hro : opL 2 a b = ro at *
            obtain ⟨rs, rq⟩ := ro
            simp only [] at HRO HRN HMO hl16 HO2 ⊢
            have HROE := Lib.hid hro
            clear hro
            by_cases hq0 : rq = 0
            · subst hq0
              have HK6 : Hid (Kept wr (w5.alloc (.cells #[] 33))) := Lib.hid (HK5.out.trans (Fr.of_alloc _ _ _))
              have HSRC := Lib.hid (HP.out.src (P := Tryz.prog) (W := w5.alloc (.cells #[] 33)) HOV.out HK6.out Tryz.underlying69)
              have HBS : Hid (w.heap.size ≤ (w5.alloc (.cells #[] 33)).heap.size) := Lib.hid (HKW.out.trans HK6.out).size
              have HNW : Hid ((w5.alloc (.cells #[] 33)).ownsRow w.heap.size 33 1 (.slice (some ⟨w5.heap.size, 0, none⟩) 0 0) 0 []) := Lib.hid (own_new (heap_alloc_new _ _) ((HKW.out.trans HK5.out).size))
              rw [HML.out] at HSRC
              go_wp2_with (first
                | (at_builtin; refine list_app rfl (.tmp 113) (.tmp 118) 69 69 rfl Tryz.sliceSet rfl HNW.out rfl HSRC.out (by unfold maxLen; omega) (by omega) HBS.out ?_; intro v7 w7 hq; have HAG := Lib.hid (HP.out.again HOV.out HK5.out (by rw [HML.out]; exact hq)); rw [Nat.zero_add] at hq; obtain ⟨a7, c7, hv7, _⟩ := own_slice hq.1; subst hv7; clear hq; obtain ⟨vs7, hov7, _⟩ := (HAG.out.1.kept (Fr.of_alloc _ w7 (.cells #[.slice ao2 rs.length c2'] 33))).vals; have HOV7 := Lib.hid hov7; clear hov7)
                | (at_builtin; go_must (refine list_app rfl (.tmp 119) (.tmp 121) 69 69 rfl Tryz.sliceSet rfl (n := m) (by have := HOV7.out; rw [HML.out] at this; exact this) rfl (src_one (u := .slice ao2 rs.length c2') Tryz.underlying69 (heap_alloc_new _ _) rfl) (by unfold maxLen; omega) (by omega) (by obtain ⟨_, _, hkk, _⟩ := HAG.out.1; exact (hkk.trans (Fr.of_alloc _ _ _)).size) ?_; intro v9 w9 hq; have HQ := Lib.hid (SetsRow.last HAG.out.1 HAG.out.2.1 HAG.out.2.2 HO2.out HOV7.out (by rw [HML.out]; exact hq)); clear hq)))
              go_roundw
              case rel => exact ⟨k + 1, es' ++ [.bin t.tok.kind ea eb], fs ++ [rs], by go_num, by omega, Lib.hid ⟨HNS.out, by simp [HLE.out, HML.out]⟩, Lib.hid (by simpa using HRO.out (by simp)), Lib.hid (fun x hx => by
                  rcases List.mem_append.1 hx with hx | hx
                  · exact HMF.out x hx
                  · simp at hx; subst hx; exact HMO.out (by simp)), HQ⟩
              case measure => simp [intOf]; omega
            · have gq : (rq != 0) = true := by simp [hq0]
              have HX := Lib.hid (HRN.out hq0)
              clear hq0
              go_wp2
              go_ret3
              exact run_post_bad HX.out (HKW.out.trans HK5.out)
          · have hkop : t.op = 3 := hop
            have HKOP := Lib.hid hkop
            have HK2 : Hid (Kept wr ((wr.alloc (.cells #[.int .i64 t.op, .int .i64 t.of, .string t.name] 52)).alloc (.cells #[] 43))) := Lib.hid ((Fr.of_alloc _ _ _).trans (Fr.of_alloc _ _ _))
            have HRA2 := Lib.hid (HRA.out.new HK2.out)
            have HRB2 := Lib.hid (HRB.out.new HK2.out)
            have HOP : Hid (opL 3 a b = forL a b) := Lib.hid (by unfold opL; rw [if_neg (by decide), if_pos rfl])
            have HKK : Hid (t.tok.kind = 3) := Lib.hid hop
            have gk : (t.op == 3) = true := by simp [hop]
            have gk2 : (t.op == 2) = false := by simp [hop]
            clear hop hkop
            clear hbc
            go_wp2_with fail
            refine (rfor_any HRA2.out HRB2.out (may_bounds HMA.out.1).1 (may_bounds HMA.out.2).1 (may_bounds HMA.out.1).2 (may_bounds HMA.out.2).2).mono ?_
            rintro e w5 ⟨v2, rfl, hown2, hk5⟩
            rw [← HOP.out] at *
            have HK5 := Lib.hid (HK2.out.trans hk5)
            have HO2 := Lib.hid hown2
            obtain ⟨ao2, c2', hv2, _⟩ := own_slice hown2
            subst hv2
            clear hown2 hk5 a1o b1o c0 c1 c2
            have hl16 := opL_len 3 a b
            have HRO : Hid ((opL 3 a b).2 = 0 → runS L (X.drop (k + 1)) ((opL 3 a b).1 :: fs.reverse) (k + 1) = runS L X [] 0) := Lib.hid (fun h0 => by
              have h1 := run_op (L := L) (t := t.tok) (r := X.drop (k + 1)) (st := fs.reverse) (a := a) (b := b) (i := k) (by rw [HKK.out]; decide) (by rw [HKK.out]; exact h0)
              rw [HKK.out] at h1
              rw [← h1]
              exact HR2.out)
            have HRN : Hid ((opL 3 a b).2 ≠ 0 → RunIs L X ([], k, (opL 3 a b).2)) := Lib.hid (fun h0 => by
              have h1 := run_bad (L := L) (t := t.tok) (r := X.drop (k + 1)) (st := fs.reverse) (a := a) (b := b) (i := k) (by rw [HKK.out]; decide) (by rw [HKK.out]; exact h0)
              rw [HKK.out] at h1
              have h2 := HW.out
              rw [← HR2.out, h1] at h2
              exact h2)
            have HMO : Hid ((opL 3 a b).2 = 0 → mayL (opL 3 a b).1 = true) := Lib.hid (fun h0 => opL_may (k := 3) HMA.out.1 HMA.out.2 (Prod.ext rfl h0))
            generalize hro : opL 3 a b = ro at *
            obtain ⟨rs, rq⟩ := ro
            simp only [] at HRO HRN HMO hl16 HO2 ⊢
            have HROE := Lib.hid hro
            clear hro
            by_cases hq0 : rq = 0
            · subst hq0
              have HK6 : Hid (Kept wr (w5.alloc (.cells #[] 33))) := Lib.hid (HK5.out.trans (Fr.of_alloc _ _ _))
              have HSRC := Lib.hid (HP.out.src (P := Tryz.prog) (W := w5.alloc (.cells #[] 33)) HOV.out HK6.out Tryz.underlying69)
              have HBS : Hid (w.heap.size ≤ (w5.alloc (.cells #[] 33)).heap.size) := Lib.hid (HKW.out.trans HK6.out).size
              have HNW : Hid ((w5.alloc (.cells #[] 33)).ownsRow w.heap.size 33 1 (.slice (some ⟨w5.heap.size, 0, none⟩) 0 0) 0 []) := Lib.hid (own_new (heap_alloc_new _ _) ((HKW.out.trans HK5.out).size))
              rw [HML.out] at HSRC
              go_wp2_with (first
                | (at_builtin; refine list_app rfl (.tmp 113) (.tmp 118) 69 69 rfl Tryz.sliceSet rfl HNW.out rfl HSRC.out (by unfold maxLen; omega) (by omega) HBS.out ?_; intro v7 w7 hq; have HAG := Lib.hid (HP.out.again HOV.out HK5.out (by rw [HML.out]; exact hq)); rw [Nat.zero_add] at hq; obtain ⟨a7, c7, hv7, _⟩ := own_slice hq.1; subst hv7; clear hq; obtain ⟨vs7, hov7, _⟩ := (HAG.out.1.kept (Fr.of_alloc _ w7 (.cells #[.slice ao2 rs.length c2'] 33))).vals; have HOV7 := Lib.hid hov7; clear hov7)
                | (at_builtin; go_must (refine list_app rfl (.tmp 119) (.tmp 121) 69 69 rfl Tryz.sliceSet rfl (n := m) (by have := HOV7.out; rw [HML.out] at this; exact this) rfl (src_one (u := .slice ao2 rs.length c2') Tryz.underlying69 (heap_alloc_new _ _) rfl) (by unfold maxLen; omega) (by omega) (by obtain ⟨_, _, hkk, _⟩ := HAG.out.1; exact (hkk.trans (Fr.of_alloc _ _ _)).size) ?_; intro v9 w9 hq; have HQ := Lib.hid (SetsRow.last HAG.out.1 HAG.out.2.1 HAG.out.2.2 HO2.out HOV7.out (by rw [HML.out]; exact hq)); clear hq)))
              go_roundw
              case rel => exact ⟨k + 1, es' ++ [.bin t.tok.kind ea eb], fs ++ [rs], by go_num, by omega, Lib.hid ⟨HNS.out, by simp [HLE.out, HML.out]⟩, Lib.hid (by simpa using HRO.out (by simp)), Lib.hid (fun x hx => by
                  rcases List.mem_append.1 hx with hx | hx
                  · exact HMF.out x hx
                  · simp at hx; subst hx; exact HMO.out (by simp)), HQ⟩
              case measure => simp [intOf]; omega
            · have gq : (rq != 0) = true := by simp [hq0]
              have HX := Lib.hid (HRN.out hq0)
              clear hq0
              go_wp2
              go_ret3
              exact run_post_bad HX.out (HKW.out.trans HK5.out)
          · have hkop : t.op = 4 := hop
            have HKOP := Lib.hid hkop
            have HK2 : Hid (Kept wr ((wr.alloc (.cells #[.int .i64 t.op, .int .i64 t.of, .string t.name] 52)).alloc (.cells #[] 43))) := Lib.hid ((Fr.of_alloc _ _ _).trans (Fr.of_alloc _ _ _))
            have HRA2 := Lib.hid (HRA.out.new HK2.out)
            have HRB2 := Lib.hid (HRB.out.new HK2.out)
            have HOP : Hid (opL 4 a b = quoteL a b) := Lib.hid (by unfold opL; rw [if_neg (by decide), if_neg (by decide), if_pos rfl])
            have HKK : Hid (t.tok.kind = 4) := Lib.hid hop
            have gk : (t.op == 4) = true := by simp [hop]
            have gk2 : (t.op == 2) = false := by simp [hop]
            have gk3 : (t.op == 3) = false := by simp [hop]
            clear hop hkop
            clear hbc
            go_wp2_with fail
            refine (rquote_any HRA2.out HRB2.out (may_bounds HMA.out.1).1 (may_bounds HMA.out.2).1 (may_bounds HMA.out.1).2 (may_bounds HMA.out.2).2).mono ?_
            rintro e w5 ⟨v2, rfl, hown2, hk5⟩
            rw [← HOP.out] at *
            have HK5 := Lib.hid (HK2.out.trans hk5)
            have HO2 := Lib.hid hown2
            obtain ⟨ao2, c2', hv2, _⟩ := own_slice hown2
            subst hv2
            clear hown2 hk5 a1o b1o c0 c1 c2
            have hl16 := opL_len 4 a b
            have HRO : Hid ((opL 4 a b).2 = 0 → runS L (X.drop (k + 1)) ((opL 4 a b).1 :: fs.reverse) (k + 1) = runS L X [] 0) := Lib.hid (fun h0 => by
              have h1 := run_op (L := L) (t := t.tok) (r := X.drop (k + 1)) (st := fs.reverse) (a := a) (b := b) (i := k) (by rw [HKK.out]; decide) (by rw [HKK.out]; exact h0)
              rw [HKK.out] at h1
              rw [← h1]
              exact HR2.out)
            have HRN : Hid ((opL 4 a b).2 ≠ 0 → RunIs L X ([], k, (opL 4 a b).2)) := Lib.hid (fun h0 => by
              have h1 := run_bad (L := L) (t := t.tok) (r := X.drop (k + 1)) (st := fs.reverse) (a := a) (b := b) (i := k) (by rw [HKK.out]; decide) (by rw [HKK.out]; exact h0)
              rw [HKK.out] at h1
              have h2 := HW.out
              rw [← HR2.out, h1] at h2
              exact h2)
            have HMO : Hid ((opL 4 a b).2 = 0 → mayL (opL 4 a b).1 = true) := Lib.hid (fun h0 => opL_may (k := 4) HMA.out.1 HMA.out.2 (Prod.ext rfl h0))
            generalize hro : opL 4 a b = ro at *
            obtain ⟨rs, rq⟩ := ro
            simp only [] at HRO HRN HMO hl16 HO2 ⊢
            have HROE := Lib.hid hro
            clear hro
            by_cases hq0 : rq = 0
            · subst hq0
              have HK6 : Hid (Kept wr (w5.alloc (.cells #[] 33))) := Lib.hid (HK5.out.trans (Fr.of_alloc _ _ _))
              have HSRC := Lib.hid (HP.out.src (P := Tryz.prog) (W := w5.alloc (.cells #[] 33)) HOV.out HK6.out Tryz.underlying69)
              have HBS : Hid (w.heap.size ≤ (w5.alloc (.cells #[] 33)).heap.size) := Lib.hid (HKW.out.trans HK6.out).size
              have HNW : Hid ((w5.alloc (.cells #[] 33)).ownsRow w.heap.size 33 1 (.slice (some ⟨w5.heap.size, 0, none⟩) 0 0) 0 []) := Lib.hid (own_new (heap_alloc_new _ _) ((HKW.out.trans HK5.out).size))
              rw [HML.out] at HSRC
              go_wp2_with (first
                | (at_builtin; refine list_app rfl (.tmp 113) (.tmp 118) 69 69 rfl Tryz.sliceSet rfl HNW.out rfl HSRC.out (by unfold maxLen; omega) (by omega) HBS.out ?_; intro v7 w7 hq; have HAG := Lib.hid (HP.out.again HOV.out HK5.out (by rw [HML.out]; exact hq)); rw [Nat.zero_add] at hq; obtain ⟨a7, c7, hv7, _⟩ := own_slice hq.1; subst hv7; clear hq; obtain ⟨vs7, hov7, _⟩ := (HAG.out.1.kept (Fr.of_alloc _ w7 (.cells #[.slice ao2 rs.length c2'] 33))).vals; have HOV7 := Lib.hid hov7; clear hov7)
                | (at_builtin; go_must (refine list_app rfl (.tmp 119) (.tmp 121) 69 69 rfl Tryz.sliceSet rfl (n := m) (by have := HOV7.out; rw [HML.out] at this; exact this) rfl (src_one (u := .slice ao2 rs.length c2') Tryz.underlying69 (heap_alloc_new _ _) rfl) (by unfold maxLen; omega) (by omega) (by obtain ⟨_, _, hkk, _⟩ := HAG.out.1; exact (hkk.trans (Fr.of_alloc _ _ _)).size) ?_; intro v9 w9 hq; have HQ := Lib.hid (SetsRow.last HAG.out.1 HAG.out.2.1 HAG.out.2.2 HO2.out HOV7.out (by rw [HML.out]; exact hq)); clear hq)))
              go_roundw
              case rel => exact ⟨k + 1, es' ++ [.bin t.tok.kind ea eb], fs ++ [rs], by go_num, by omega, Lib.hid ⟨HNS.out, by simp [HLE.out, HML.out]⟩, Lib.hid (by simpa using HRO.out (by simp)), Lib.hid (fun x hx => by
                  rcases List.mem_append.1 hx with hx | hx
                  · exact HMF.out x hx
                  · simp at hx; subst hx; exact HMO.out (by simp)), HQ⟩
              case measure => simp [intOf]; omega
            · have gq : (rq != 0) = true := by simp [hq0]
              have HX := Lib.hid (HRN.out hq0)
              clear hq0
              go_wp2
              go_ret3
              exact run_post_bad HX.out (HKW.out.trans HK5.out)
          · have hkop : t.op = 5 := hop
            have HKOP := Lib.hid hkop
            have HK2 : Hid (Kept wr ((wr.alloc (.cells #[.int .i64 t.op, .int .i64 t.of, .string t.name] 52)).alloc (.cells #[] 43))) := Lib.hid ((Fr.of_alloc _ _ _).trans (Fr.of_alloc _ _ _))
            have HRA2 := Lib.hid (HRA.out.new HK2.out)
            have HRB2 := Lib.hid (HRB.out.new HK2.out)
            have hb1 : 1 ≤ b.length := (mayL_iff.1 HMA.out.2).1.1
            obtain ⟨b0, hb0⟩ : ∃ b0, b[0]? = some b0 := ⟨_, List.getElem?_eq_getElem hb1⟩
            have hb0c : (wcells b)[0]? = some (.string b0) := by unfold wcells; rw [List.getElem?_map, hb0]; rfl
            obtain ⟨gb, ob, rfl, _, hcb⟩ := hbc 0 _ hb0c
            rw [Nat.add_zero] at hcb
            have hwl : (0 : Int) < ((wcells b).length : Nat) := by rw [wcells_len]; omega
            have hwl2 : 0 < (wcells b).length := by rw [wcells_len]; omega
            have b0o := HK2.out.cell hcb (fun x => x)
            have HB0S : Hid (b0.size ≤ 100000) := Lib.hid ((may_bounds HMA.out.2).2 b0 (List.mem_of_getElem? hb0))
            have hhead : (b.head?).getD ⟨#[]⟩ = b0 := by rw [List.head?_eq_getElem?, hb0]; rfl
            have HOP : Hid (opL 5 a b = asL a (atS b0 0)) := Lib.hid (by unfold opL; rw [if_neg (by decide), if_neg (by decide), if_neg (by decide), hhead])
            have HKK : Hid (t.tok.kind = 5) := Lib.hid hop
            have gk : (t.op == 5) = true := by simp [hop]
            have gk2 : (t.op == 2) = false := by simp [hop]
            have gk3 : (t.op == 3) = false := by simp [hop]
            have gk4 : (t.op == 4) = false := by simp [hop]
            clear hop hkop
            clear hbc hb0c hhead hb0
            go_wp2_with fail
            refine (rat_any b0 0 _ HB0S.out).mono ?_
            rintro e w4 ⟨rfl, hk4⟩
            have HK4 := Lib.hid (HK2.out.trans hk4)
            have HRA3 := Lib.hid (HRA.out.new HK4.out)
            clear hk4 b0o hcb
            go_wp2_with fail
            refine (ras_any HRA3.out (may_bounds HMA.out.1).1 (may_bounds HMA.out.1).2 (atS_good b0 0).1 (atS_good b0 0).2).mono ?_
            rintro e w5 ⟨v2, rfl, hown2, hk5⟩
            rw [← HOP.out] at *
            have HK5 := Lib.hid (HK4.out.trans hk5)
            have HO2 := Lib.hid hown2
            obtain ⟨ao2, c2', hv2, _⟩ := own_slice hown2
            subst hv2
            clear hown2 hk5 a1o b1o c0 c1 c2
            have hl16 := opL_len 5 a b
            have HRO : Hid ((opL 5 a b).2 = 0 → runS L (X.drop (k + 1)) ((opL 5 a b).1 :: fs.reverse) (k + 1) = runS L X [] 0) := Lib.hid (fun h0 => by
              have h1 := run_op (L := L) (t := t.tok) (r := X.drop (k + 1)) (st := fs.reverse) (a := a) (b := b) (i := k) (by rw [HKK.out]; decide) (by rw [HKK.out]; exact h0)
              rw [HKK.out] at h1
              rw [← h1]
              exact HR2.out)
            have HRN : Hid ((opL 5 a b).2 ≠ 0 → RunIs L X ([], k, (opL 5 a b).2)) := Lib.hid (fun h0 => by
              have h1 := run_bad (L := L) (t := t.tok) (r := X.drop (k + 1)) (st := fs.reverse) (a := a) (b := b) (i := k) (by rw [HKK.out]; decide) (by rw [HKK.out]; exact h0)
              rw [HKK.out] at h1
              have h2 := HW.out
              rw [← HR2.out, h1] at h2
              exact h2)
            have HMO : Hid ((opL 5 a b).2 = 0 → mayL (opL 5 a b).1 = true) := Lib.hid (fun h0 => opL_may (k := 5) HMA.out.1 HMA.out.2 (Prod.ext rfl h0))
            generalize hro : opL 5 a b = ro at *
            obtain ⟨rs, rq⟩ := ro
            simp only [] at HRO HRN HMO hl16 HO2 ⊢
            have HROE := Lib.hid hro
            clear hro
            by_cases hq0 : rq = 0
            · subst hq0
              have HK6 : Hid (Kept wr (w5.alloc (.cells #[] 33))) := Lib.hid (HK5.out.trans (Fr.of_alloc _ _ _))
              have HSRC := Lib.hid (HP.out.src (P := Tryz.prog) (W := w5.alloc (.cells #[] 33)) HOV.out HK6.out Tryz.underlying69)
              have HBS : Hid (w.heap.size ≤ (w5.alloc (.cells #[] 33)).heap.size) := Lib.hid (HKW.out.trans HK6.out).size
              have HNW : Hid ((w5.alloc (.cells #[] 33)).ownsRow w.heap.size 33 1 (.slice (some ⟨w5.heap.size, 0, none⟩) 0 0) 0 []) := Lib.hid (own_new (heap_alloc_new _ _) ((HKW.out.trans HK5.out).size))
              rw [HML.out] at HSRC
              go_wp2_with (first
                | (at_builtin; refine list_app rfl (.tmp 113) (.tmp 118) 69 69 rfl Tryz.sliceSet rfl HNW.out rfl HSRC.out (by unfold maxLen; omega) (by omega) HBS.out ?_; intro v7 w7 hq; have HAG := Lib.hid (HP.out.again HOV.out HK5.out (by rw [HML.out]; exact hq)); rw [Nat.zero_add] at hq; obtain ⟨a7, c7, hv7, _⟩ := own_slice hq.1; subst hv7; clear hq; obtain ⟨vs7, hov7, _⟩ := (HAG.out.1.kept (Fr.of_alloc _ w7 (.cells #[.slice ao2 rs.length c2'] 33))).vals; have HOV7 := Lib.hid hov7; clear hov7)
                | (at_builtin; go_must (refine list_app rfl (.tmp 119) (.tmp 121) 69 69 rfl Tryz.sliceSet rfl (n := m) (by have := HOV7.out; rw [HML.out] at this; exact this) rfl (src_one (u := .slice ao2 rs.length c2') Tryz.underlying69 (heap_alloc_new _ _) rfl) (by unfold maxLen; omega) (by omega) (by obtain ⟨_, _, hkk, _⟩ := HAG.out.1; exact (hkk.trans (Fr.of_alloc _ _ _)).size) ?_; intro v9 w9 hq; have HQ := Lib.hid (SetsRow.last HAG.out.1 HAG.out.2.1 HAG.out.2.2 HO2.out HOV7.out (by rw [HML.out]; exact hq)); clear hq)))
              go_roundw
              case rel => exact ⟨k + 1, es' ++ [.bin t.tok.kind ea eb], fs ++ [rs], by go_num, by omega, Lib.hid ⟨HNS.out, by simp [HLE.out, HML.out]⟩, Lib.hid (by simpa using HRO.out (by simp)), Lib.hid (fun x hx => by
                  rcases List.mem_append.1 hx with hx | hx
                  · exact HMF.out x hx
                  · simp at hx; subst hx; exact HMO.out (by simp)), HQ⟩
              case measure => simp [intOf]; omega
            · have gq : (rq != 0) = true := by simp [hq0]
              have HX := Lib.hid (HRN.out hq0)
              clear hq0
              go_wp2
              go_ret3
              exact run_post_bad HX.out (HKW.out.trans HK5.out)
      · have hlti : ¬ (k : Int) < n := by omega
        obtain ⟨f, hf, hmf⟩ := hst.out.1.one HE.out (by rw [HM.out]; omega)
        have hl1 : ls.length = 1 := by rw [hst.out.2, hf]; rfl
        match ls, hl1 with
        | [s], _ =>
          obtain ⟨gs, cap, hv, hcap, hgw, hgl, hcell⟩ := hp.out.cell (by simp)
          subst hv
          obtain ⟨u, hu1, hu2⟩ := hcell 0 s rfl
          have HRU := Lib.hid hu2
          obtain ⟨aou, cu, hus, _⟩ := hu2
          subst hus
          have HKW : Hid (Kept w wr) := Lib.hid (by obtain ⟨_, _, hk, _⟩ := hp.out; exact hk)
          have HX : Hid (RunIs L X (s, 0, 0)) := Lib.hid (by
            have := HW.out
            rw [← hrun.out, List.drop_eq_nil_of_le (by rw [HM.out]; omega)] at this
            exact this)
          clear hst hrun hmay hcell hf hmf
          simp only [List.length_cons, List.length_nil] at hcap ⊢
          go_wp2
          go_ret3
          exact ⟨_, s, 0, 0, rfl, HX.out, HRU.out.any, HKW.out⟩

open Go.RowKit Go.ChangeShapes Go.WideShapes
set_option maxRecDepth 20000
/-- what Read answers, whatever row it lies in -/
def Read6Post (L : Nat → List ByteArray) (s : List UInt8) (w : World) (e : Ending) (w' : World) : Prop :=
  ∃ v x, ∃ (n : Nat) (q : Int), e = .returned (.tuple #[v, .int .i64 n, .int .i64 q]) ∧ Read6 L s (x, n, q) ∧ Reads w' (fun _ => True) v (wcells x) ∧ Kept w w'
theorem read6_bad {L : Nat → List ByteArray} {x : List UInt8} {w w' : World} {n : Nat} {q : Int} (h : Read6 L x ([], n, q)) (hk : Kept w w') : Read6Post L x w (.returned (.tuple #[.slice none 0 0, .int .i64 n, .int .i64 q])) w' :=
  ⟨_, [], n, q, rfl, h, ⟨none, 0, rfl, Nat.le_refl _, fun i x h => by simp [wcells] at h⟩, hk⟩
theorem parse_names {s : List UInt8} {x : List Tok} {n : Nat} (h : ParseIs s x n 0) : x.length ≤ 200 ∧ ∀ t ∈ toX x, t.name.size ≤ 1000000 := by
  obtain ⟨e, h1, h2, h3, _⟩ := back_two h
  refine ⟨h3, fun t ht => ?_⟩
  unfold toX at ht
  obtain ⟨u, hu, rfl⟩ := List.mem_map.1 ht
  have h4 := word_name (post_terms h1 u (by rw [← h2]; exact hu)).1
  have h5 := word_len u
  show (strOf u.name).size ≤ 1000000
  rw [strOf_size]
  omega
set_option maxHeartbeats 4000000 in
theorem rread6_any {w : World} {F : Nat → Prop} {B : Nat} {L : Nat → List ByteArray} (hT : Atm.RTab w F B L) (hG : TabL L) (s : ByteArray) (hs : s.size ≤ 1000000) :
    Calls Tryz.prog 16 #[.pointer (some ⟨B, 0, none⟩), .string s] w (Read6Post L (bs s) w) := by
  have HT := Lib.hid hT
  have HGL := Lib.hid hG
  clear hT hG
  go_enter Tryz.func16, Tryz.ntmps16
  go_wp2_with fail
  refine (rparse_any s w hs).mono ?_
  rintro e w1 ⟨v, x, n, q, rfl, hpi, hx⟩
  have HP := Lib.hid hpi
  have HX := Lib.hid hx
  obtain ⟨ao, c, rfl, _⟩ := hx.form
  clear hpi hx
  by_cases hq : q = 0
  · subst hq
    have HB := Lib.hid (parse_names HP.out)
    have HRX := Lib.hid (HX.out.reads)
    go_wp2_with fail
    refine (rrun_any (HT.out.later HX.out.2) HGL.out HRX.out (by rw [toX_len]; have := HB.out.1; omega) HB.out.2).mono ?_
    rintro e w2 ⟨v2, y, n2, q2, rfl, hr, hrd, hk2⟩
    rw [toX_tok] at hr
    have HR := Lib.hid hr
    have HRD := Lib.hid hrd
    have HK2 := Lib.hid (HX.out.2.trans hk2)
    obtain ⟨ao2, c2, rfl, _⟩ := hrd
    clear hr hk2
    go_wp2
    go_ret3
    exact ⟨_, y, 0, q2, rfl, ⟨x, n, 0, HP.out, .inr ⟨rfl, _, HR.out, rfl⟩⟩, HRD.out, HK2.out⟩
  · have gq : (q != 0) = true := by simp [hq]
    have HR : Hid (Read6 L (bs s) ([], n, q)) := Lib.hid ⟨x, n, q, HP.out, .inl ⟨hq, rfl⟩⟩
    clear hq
    go_wp2
    go_ret3
    exact read6_bad HR.out HX.out.2

end Go.Proofs.YtbfealhbdemhmaaGreatDoor
