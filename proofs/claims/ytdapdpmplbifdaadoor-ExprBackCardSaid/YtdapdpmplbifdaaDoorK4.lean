/- Contracts and lemmas: K4 -/
import Derived.Test.YtdapdpmplbifdaaDoorK3
namespace Go.Proofs.YtdapdpmplbifdaaDoor
set_option linter.unusedVariables false
set_option linter.unusedSimpArgs false
open Go.RowKit Go.ChangeShapes Go.WideShapes
set_option maxRecDepth 20000
def NextPost (w : World) (B bl bx ba bn : Nat) (lv : Value) (W : World) (i : Nat) (x : List Tok) (xv : Value) (n : Nat) (y : List Tok) (e : Ending) (W' : World) : Prop :=
  ∃ xv', e = .returned (.tuple #[]) ∧ PS w B bl bx ba bn lv W' (i + n) (x ++ y) xv' ∧ Mv (CX bx ba) xv xv' W W'
set_option maxHeartbeats 8000000 in
theorem knext_any {w : World} {l : List TokB} {ao : Option Addr} {n c B bl bx ba bn : Nat} (hl : l.length ≤ 1000000) (hA : Apart w B bl bx ba bn) (hR : ReadsT w (.slice ao n c) l) :
    ∀ (m : Nat) (p : PT) (v i : Nat) (r : List Tok) (W : World) (x : List Tok) (xv : Value), p.toks.length ≤ m → p.Ok → v ≤ p.lev → 1 ≤ v → (l.map TokB.tok).drop i = p.toks ++ r → StopAt v r → x.length ≤ i → PS w B bl bx ba bn (.slice ao n c) W i x xv →
    Calls Tryd.prog 50 #[.int .i64 (v : Int), .pointer (some ⟨bl, 0, none⟩), .pointer (some ⟨ba, 0, none⟩), .pointer (some ⟨bn, 0, none⟩), .pointer (some ⟨bx, 0, none⟩)] W (NextPost w B bl bx ba bn (.slice ao n c) W i x xv p.toks.length p.ex.post) := by
  intro m
  induction m with
  | zero =>
    intro p v i r W x xv hm
    have := p.toks_pos
    omega
  | succ m ih =>
    intro p v i r W x xv hm hok hv hv1 hd hst hxi hps
    have HIH := Lib.hid ih
    have HA := Lib.hid hA
    have HS := Lib.hid hps
    have HR := Lib.hid hR
    have HST := Lib.hid hst
    have HSP := Lib.hid p.toks_spine
    have HPX := Lib.hid p.post_spine
    have HTO := Lib.hid (tail_ok hok hv)
    have HD := Lib.hid hd
    obtain ⟨ao', c', he, _, hc⟩ := hR
    have hnl : n = l.length := by cases he; rfl
    have HNL := Lib.hid hnl
    have HC : Hid (∀ (k : Nat) (t : TokB), l[k]? = some t → ∃ g off, ao = some ⟨g, off, none⟩ ∧ w.cell? ⟨g, off + k * 4, none⟩ = some (.int .i64 t.kind) ∧ w.cell? ⟨g, off + k * 4 + 1, none⟩ = some (.string t.name) ∧ w.cell? ⟨g, off + k * 4 + 2, none⟩ = some (.int .i64 t.of) ∧ w.cell? ⟨g, off + k * 4 + 3, none⟩ = some (.int .i64 t.pos)) := Lib.hid (by cases he; exact hc)
    have HM : Hid (∀ (k : Nat) (t : Tok), (l.map TokB.tok)[k]? = some t → ∃ u, l[k]? = some u ∧ u.tok = t) := Lib.hid (fun k t h => by
      rw [List.getElem?_map] at h
      cases hu : l[k]? with
      | none => rw [hu] at h; cases h
      | some u => rw [hu] at h; cases h; exact ⟨u, rfl, rfl⟩)
    clear ih hA hst hd he hc
    have hpr := PT.prim_cases hok
    have hpt : ∃ u, l[i]? = some u ∧ ((p.prim = .atom u.tok ∧ AtomOk u.tok) ∨ (u.tok = opT 6 ∧ ∃ q, p.prim = .par q ∧ q.Ok)) := by
      rcases hpr with ⟨t, h1, h2⟩ | ⟨q, h1, h2⟩
      · have : (l.map TokB.tok)[i]? = some t := by
          rw [← List.head?_drop, HD.out, HSP.out, h1]; rfl
        obtain ⟨u, hu, rfl⟩ := HM.out i t this
        exact ⟨u, hu, .inl ⟨h1, h2⟩⟩
      · have : (l.map TokB.tok)[i]? = some (opT 6) := by
          rw [← List.head?_drop, HD.out, HSP.out, h1]; rfl
        obtain ⟨u, hu, hx⟩ := HM.out i _ this
        exact ⟨u, hu, .inr ⟨hx, q, h1, h2⟩⟩
    obtain ⟨u, hu, hcase⟩ := hpt
    have hin : i < n := by rw [hnl]; exact (List.getElem?_eq_some_iff.1 hu).1
    obtain ⟨g, off, rfl, d0, d1, d2, d3⟩ := HC.out i u hu
    have hini : (i : Int) < (n : Int) := by omega
    have cl := HS.out.ll.cell
    have ca := HS.out.aa.cell
    have ca1 := fun o => (HS.out.later (Fr.of_alloc _ W o)).aa.cell
    have fa1 := fun o => (HS.out.later (Fr.of_alloc _ W o)).aa.fz
    have e0 := HS.out.kept.cell d0 (fun x => x)
    have e1 := HS.out.kept.cell d1 (fun x => x)
    have e2 := HS.out.kept.cell d2 (fun x => x)
    have e3 := HS.out.kept.cell d3 (fun x => x)
    have hn6 : n ≤ 1000000 := by omega
    have hpl : i + p.toks.length ≤ n := by
      have h1 := congrArg List.length HD.out
      rw [List.length_drop, List.length_append, List.length_map, ← hnl] at h1
      have h2 := p.toks_pos
      omega
    have HLN : Hid (∀ k, k ≤ n → k + 1 ≤ maxLen ∧ (k + 1) * 32 ≤ 140737488355328) := Lib.hid (fun k hk => ⟨by unfold maxLen; omega, by omega⟩)
    have HPL := Lib.hid hpl
    have HXI := Lib.hid hxi
    have hps2 := post_le p
    have HPO := Lib.hid hps2
    clear hpl hxi hps2
    clear d0 d1 d2 d3 hpr hnl
    have HCS := Lib.hid hcase
    have hbk : (u.kind = 1 ∧ (p.prim = .atom u.tok ∧ AtomOk u.tok)) ∨ (u.kind = 6 ∧ ∃ q, p.prim = .par q ∧ q.Ok) := by
      rcases hcase with h | ⟨h1, h2⟩
      · exact .inl ⟨h.2.1, h⟩
      · exact .inr ⟨congrArg Tok.kind h1, h2⟩
    clear hcase hu HCS
    go_enter Tryd.func50, Tryd.ntmps50
    go_upto_region 2 with fail
    have H1 : Hid (PS w B bl bx ba bn (.slice (some ⟨g, off, none⟩) n c) ((W.alloc (.cells #[.int .i64 u.kind, .string u.name, .int .i64 u.of, .int .i64 u.pos] 31)).setCell ⟨ba, 0, none⟩ (.int .i64 ((i : Int) + 1))) (i + 1) x xv ∧
        Four ((W.alloc (.cells #[.int .i64 u.kind, .string u.name, .int .i64 u.of, .int .i64 u.pos] 31)).setCell ⟨ba, 0, none⟩ (.int .i64 ((i : Int) + 1))) W.heap.size (.int .i64 u.kind) (.string u.name) (.int .i64 u.of) (.int .i64 u.pos) ∧
        Mv (CX bx ba) xv xv W ((W.alloc (.cells #[.int .i64 u.kind, .string u.name, .int .i64 u.of, .int .i64 u.pos] 31)).setCell ⟨ba, 0, none⟩ (.int .i64 ((i : Int) + 1)))) := Lib.hid
      ⟨(HS.out.later (Fr.of_alloc _ _ _)).step HA.out (i + 1) _ (by omega), (four_new _ _ _ _ _ _).other (by have := HS.out.aa.lt; omega), (Mv.of_kept (Fr.of_alloc _ _ _)).trans (Mv.of_set (.inr rfl))⟩
    clear cl ca ca1 fa1 e0 e1 e2 e3
    generalize (W.alloc (.cells #[.int .i64 u.kind, .string u.name, .int .i64 u.of, .int .i64 u.pos] 31)).setCell ⟨ba, 0, none⟩ (.int .i64 ((i : Int) + 1)) = W1 at H1 ⊢
    generalize W.heap.size = g6 at H1 ⊢
    have t0 := H1.out.2.1.c0
    go_upto_if 16 with (fail)
    go_cut [16] (fun _ wr => ∃ xv', Hid (PS w B bl bx ba bn (.slice (some ⟨g, off, none⟩) n c) wr (i + p.prim.toks.length) (x ++ p.prim.ex.post) xv' ∧ Mv (CX bx ba) xv xv' W wr))
    case first =>
      rcases hbk with ⟨hk1, hp, hat⟩ | ⟨hk6, q, hp, hq⟩
      · have g6k : (u.kind == 6) = false := by simp [hk1]
        have HT : Hid (∀ W, Calls Tryd.prog 51 #[.agg #[.int .i64 u.kind, .string u.name, .int .i64 u.of, .int .i64 u.pos]] W (KeptPost (.agg #[.int .i64 u.kind, .int .i64 u.of, .string u.name]) W)) := Lib.hid (fun W => ktrmof_any u.kind u.of u.pos u.name W)
        have HEQ : Hid (p.prim.toks.length = 1 ∧ p.prim.ex.post = [u.tok] ∧ strOf u.tok.name = u.name) := Lib.hid ⟨by rw [hp]; rfl, by rw [hp]; rfl, strOf_bs _⟩
        have t1 := H1.out.2.1.c1
        have t2 := H1.out.2.1.c2
        have t3 := H1.out.2.1.c3
        have cx := H1.out.1.xx.cell
        have HLE : Hid (x.length ≤ n) := Lib.hid (by have := HXI.out; omega)
        clear hk1 hp hat
        go_upto_region 5 with fail
        go_region_law (first
          | (refine step_app rfl (.tmp 21) (.tmp 24) 23 23 rfl Tryd.sliceX rfl (own_kept H1.out.1.row (HK9.out.trans (Fr.of_alloc _ _ _))) rfl (src_three Tryd.underlying23 (heap_alloc_new _ _) rfl rfl rfl) (HLN.out _ HLE.out).1 (HLN.out _ HLE.out).2 (Nat.le_trans H1.out.1.hB (HK9.out.trans (Fr.of_alloc _ _ _)).size) ?_; intro v1 w1 hp; obtain ⟨a1, k1, hv1, _⟩ := own_slice hp.1; subst hv1; have HP := Lib.hid hp; have fz1 := ((H1.out.1.later (HK9.out.trans (Fr.of_alloc _ _ _))).box HA.out hp).fz; have cz1 := ((H1.out.1.later (HK9.out.trans (Fr.of_alloc _ _ _))).box HA.out hp).cell; clear hp)
          | (go_simp; go_at_call 51; refine (HT.out _).mono ?_; rintro e w9 ⟨rfl, hk9⟩; have HK9 := Lib.hid ((Fr.of_drew (fun _ => False) _).trans hk9); have c9 := (H1.out.1.later HK9.out).xx.cell; have c9a := fun o => (H1.out.1.later (HK9.out.trans (Fr.of_alloc _ w9 o))).xx.cell; clear hk9; dsimp only))
        all_goals
          go_wp2_with fail
          go_meet
          case rel =>
            have hq := H1.out.1.push HA.out H1.out.2.2 (HK9.out.trans (Fr.of_alloc _ _ _)) (t := u.tok) (by rw [HEQ.out.2.2]; exact HP.out)
            exact ⟨_, Lib.hid (by rw [HEQ.out.1, HEQ.out.2.1]; exact hq)⟩
      · have g6k : (u.kind == 6) = true := by simp [hk6]
        have hpp : p.prim.toks = opT 6 :: (q.toks ++ [opT 7]) := by rw [hp]; rfl
        have hlen := congrArg List.length HSP.out
        rw [hpp] at hlen
        simp only [List.length_append, List.length_cons, List.length_nil] at hlen
        have hj2 : i + 1 + q.toks.length ≤ 1000000 := by have := HPL.out; omega
        have HEQ : Hid (i + p.prim.toks.length = i + 1 + q.toks.length + 1 ∧ p.prim.ex.post = q.ex.post) := Lib.hid ⟨by rw [hpp]; simp only [List.length_append, List.length_cons, List.length_nil]; omega, by rw [hp]; rfl⟩
        have HCL : Hid (Calls Tryd.prog 50 #[.int .i64 1, .pointer (some ⟨bl, 0, none⟩), .pointer (some ⟨ba, 0, none⟩), .pointer (some ⟨bn, 0, none⟩), .pointer (some ⟨bx, 0, none⟩)] W1 (NextPost w B bl bx ba bn (.slice (some ⟨g, off, none⟩) n c) W1 (i + 1) x xv q.toks.length q.ex.post)) := Lib.hid
          (HIH.out q 1 (i + 1) (opT 7 :: (tailT p.tail ++ r)) W1 x xv (by omega) hq (PT.lev_pos hq) (Nat.le_refl _) (by
            have := HD.out
            rw [HSP.out, hpp] at this
            have h3 := congrArg (List.drop 1) this
            rw [List.drop_drop] at h3
            rw [h3]
            simp) (stop_close _) (by have := HXI.out; omega) H1.out.1)
        have cn := H1.out.1.nx.cell
        clear hk6 hp hpp hlen hq
        generalize hj : i + 1 + q.toks.length = j2 at *
        have HJ := Lib.hid hj
        clear hj
        go_wp2_with fail
        refine HCL.out.mono ?_
        rintro e w2 ⟨xv2, rfl, hps2, hmv2⟩
        rw [HJ.out] at hps2
        have H2 := Lib.hid (And.intro hps2 (H1.out.2.2.trans hmv2))
        have ca := H2.out.1.aa.cell
        have fa := H2.out.1.aa.fz
        clear hps2 hmv2 cn
        go_wp2_with fail
        go_meet
        case rel =>
          exact ⟨xv2, Lib.hid (by
            rw [HEQ.out.1, HEQ.out.2]
            exact ⟨H2.out.1.step HA.out (j2 + 1) _ (by omega), H2.out.2.trans (Mv.of_set (.inr rfl))⟩)⟩
    case rest =>
      obtain ⟨xv1, hcut⟩ := hcut
      have H2 : Hid (PS w B bl bx ba bn (.slice (some ⟨g, off, none⟩) n c) wc (i + p.prim.toks.length) (x ++ p.prim.ex.post) xv1 ∧ Mv (CX bx ba) xv xv1 W wc) := hcut
      have H3 : Hid (TailOk v p.tail ∧ (l.map TokB.tok).drop (i + p.prim.toks.length) = tailT p.tail ++ r ∧ i + p.prim.toks.length + (tailT p.tail).length = i + p.toks.length ∧ x ++ p.ex.post = (x ++ p.prim.ex.post) ++ tailX p.tail ∧ (x ++ p.prim.ex.post).length ≤ i + p.prim.toks.length) := Lib.hid
        ⟨HTO.out, by
          rw [← List.drop_drop, HD.out, HSP.out, List.append_assoc, List.drop_left], by
          have := congrArg List.length HSP.out
          rw [List.length_append] at this
          omega, by rw [HPX.out, List.append_assoc], by
          have := HXI.out
          have := post_le p.prim
          rw [List.length_append]
          omega⟩
      clear hcut H1 t0 hbk
      go_wp2_with fail
      go_loopw [7] (fun _ wr => ∃ (ss : List (Int × PT)) (xv' : Value) (y : List Tok) (j : Nat), Hid (TailOk v ss ∧ (l.map TokB.tok).drop j = tailT ss ++ r ∧ j + (tailT ss).length = i + p.toks.length ∧ x ++ p.ex.post = y ++ tailX ss ∧ y.length ≤ j) ∧ Hid (PS w B bl bx ba bn (.slice (some ⟨g, off, none⟩) n c) wr j y xv' ∧ Mv (CX bx ba) xv xv' W wr) ∧ i + p.prim.toks.length ≤ j) (fun _ wr => n - atOf ba wr)
      case atStart => exact ⟨p.tail, xv1, _, _, H3, H2, Nat.le_refl _⟩
      case round =>
        obtain ⟨ss, xv', y, j, hs, hp, hge⟩ := hrel
        have HGE := Lib.hid hge
        clear H2 H3 hge
        have cl := hp.out.1.ll.cell
        have ca := hp.out.1.aa.cell
        have hjn : j ≤ n := by have := HPL.out; have := hs.out.2.2.1; omega
        have HAT := Lib.hid hp.out.1.atOf
        match ss, hs with
        | [], hs =>
          match r, HST, hs with
          | [], HST, hs =>
            have hge : ¬ (j : Int) < (n : Int) := by
              have h1 := congrArg List.length hs.out.2.1
              simp only [List.length_drop, List.length_map, tailT, List.length_append, List.length_nil] at h1
              have := HNL.out
              omega
            go_wp2
            go_end0
            exact ⟨xv', rfl, by
              have h3 := hs.out.2.2.1
              have h4 := hs.out.2.2.2.1
              simp only [tailT, List.length_nil, Nat.add_zero] at h3
              simp only [tailX, List.append_nil] at h4
              rw [← h3, h4]
              exact hp.out.1, hp.out.2⟩
          | t :: s, HST, hs =>
            have hlj : (l.map TokB.tok)[j]? = some t := by
              have h1 := hs.out.2.1
              rw [← List.head?_drop, h1]; rfl
            obtain ⟨u', hu', hut⟩ := HM.out j t hlj
            obtain ⟨g', off', he, d0, _⟩ := HC.out j u' hu'
            cases he
            have k0 := hp.out.1.kept.cell d0 (fun x => x)
            have hlti : (j : Int) < (n : Int) := by have := (List.getElem?_eq_some_iff.1 hlj).1; rw [List.length_map] at this; have := HNL.out; omega
            have hbv : kbind u'.kind < v := by have := HST.out t s rfl; rw [← hut] at this; exact this
            have HNB : Hid (∀ W, Calls Tryd.prog 32 #[.int .i64 u'.kind] W fun e w' => e = .returned (.int .i64 (kbind u'.kind : Nat)) ∧ W = w') := Lib.hid (fun W => kbinding_any u'.kind W)
            generalize kbind u'.kind = bk at *
            have hgv : ¬ (v : Int) ≤ (bk : Int) := by omega
            clear d0 hu' hut hlj
            go_wp2_with (go_at_call 32; refine (HNB.out _).mono ?_; rintro e w' ⟨rfl, rfl⟩)
            go_end0
            exact ⟨xv', rfl, by
              have h3 := hs.out.2.2.1
              have h4 := hs.out.2.2.2.1
              simp only [tailT, List.length_nil, Nat.add_zero] at h3
              simp only [tailX, List.append_nil] at h4
              rw [← h3, h4]
              exact hp.out.1, hp.out.2⟩
        | (op, b) :: rest, hs =>
          have hlj : (l.map TokB.tok)[j]? = some (opT op) := by
            have h1 := hs.out.2.1
            rw [← List.head?_drop, h1]; rfl
          obtain ⟨u', hu', hut⟩ := HM.out j _ hlj
          obtain ⟨g', off', he, d0, d1, d2, d3⟩ := HC.out j u' hu'
          cases he
          have k0 := hp.out.1.kept.cell d0 (fun x => x)
          have k1 := hp.out.1.kept.cell d1 (fun x => x)
          have k2 := hp.out.1.kept.cell d2 (fun x => x)
          have k3 := hp.out.1.kept.cell d3 (fun x => x)
          have hlti : (j : Int) < (n : Int) := by have := (List.getElem?_eq_some_iff.1 hlj).1; rw [List.length_map] at this; have := HNL.out; omega
          have HTL := Lib.hid hs.out.1
          have huk : u'.kind = op := congrArg Tok.kind hut
          have hkb : kbind u'.kind = bindS op := by rw [huk, kbind_op HTL.out.2.1]
          have hgv : (v : Int) ≤ ((bindS op : Nat) : Int) := by have := HTL.out.1; omega
          have hb4 := bind_le op
          have HNB : Hid (∀ W, Calls Tryd.prog 32 #[.int .i64 u'.kind] W fun e w' => e = .returned (.int .i64 (bindS op : Nat)) ∧ W = w') := Lib.hid (fun W => by rw [← hkb]; exact kbinding_any u'.kind W)
          have hbl : j + 1 + b.toks.length + (tailT rest).length = i + p.toks.length := by
            have := hs.out.2.2.1
            simp only [tailT, List.length_cons, List.length_append] at this
            omega
          have HBL := Lib.hid hbl
          have HNX : Hid (∀ W' , PS w B bl bx ba bn (.slice (some ⟨g, off, none⟩) n c) W' (j + 1) y xv' → Calls Tryd.prog 50 #[.int .i64 (((bindS op : Nat) : Int) + 1), .pointer (some ⟨bl, 0, none⟩), .pointer (some ⟨ba, 0, none⟩), .pointer (some ⟨bn, 0, none⟩), .pointer (some ⟨bx, 0, none⟩)] W' (NextPost w B bl bx ba bn (.slice (some ⟨g, off, none⟩) n c) W' (j + 1) y xv' b.toks.length b.ex.post)) := Lib.hid (fun W' h => by
            have h0 := HTL.out
            have := HIH.out b (bindS op + 1) (j + 1) (tailT rest ++ r) W' y xv' (by
              have h1 := congrArg List.length HSP.out
              have h2 := p.prim.toks_pos
              rw [List.length_append] at h1
              have := hs.out.2.2.1
              simp only [tailT, List.length_cons, List.length_append] at this
              have := HGE.out
              omega) h0.2.2.1 h0.2.2.2.1 (by omega) (by
              have h1 := congrArg (List.drop 1) hs.out.2.1
              rw [List.drop_drop] at h1
              rw [h1]
              simp [tailT]) (stop_tail h0.2.2.2.2.1 HST.out h0.1 h0.2.2.2.2.2) (by have := hs.out.2.2.2.2; omega) h
            have e : ((bindS op + 1 : Nat) : Int) = ((bindS op : Nat) : Int) + 1 := by omega
            rw [e] at this
            exact this)
          have ca1 := fun o => (hp.out.1.later (Fr.of_alloc _ wr o)).aa.cell
          have fa1 := fun o => (hp.out.1.later (Fr.of_alloc _ wr o)).aa.fz
          have HUT := Lib.hid hut
          have HLE : Hid ((y ++ b.ex.post).length ≤ n) := Lib.hid (by
            have := hs.out.2.2.2.2
            have := post_le b
            have := HPL.out
            rw [List.length_append]
            omega)
          have hj6 : j + 1 + b.toks.length ≤ 1000000 := by have := HPL.out; omega
          clear d0 d1 d2 d3 hu' hut hlj hkb huk hbl
          generalize bindS op = bk at *
          have hwb : IntKind.i64.wrap ((bk : Int) + 1) = (bk : Int) + 1 := IntWalk.i64_in _ (by omega)
          go_upto_region 9 with (go_at_call 32; refine (HNB.out _).mono ?_; rintro e w' ⟨rfl, rfl⟩)
          have H3 : Hid (PS w B bl bx ba bn (.slice (some ⟨g, off, none⟩) n c) ((wr.alloc (.cells #[.int .i64 u'.kind, .string u'.name, .int .i64 u'.of, .int .i64 u'.pos] 31)).setCell ⟨ba, 0, none⟩ (.int .i64 ((j : Int) + 1))) (j + 1) y xv' ∧
              Four ((wr.alloc (.cells #[.int .i64 u'.kind, .string u'.name, .int .i64 u'.of, .int .i64 u'.pos] 31)).setCell ⟨ba, 0, none⟩ (.int .i64 ((j : Int) + 1))) wr.heap.size (.int .i64 u'.kind) (.string u'.name) (.int .i64 u'.of) (.int .i64 u'.pos) ∧
              Mv (CX bx ba) xv xv' W ((wr.alloc (.cells #[.int .i64 u'.kind, .string u'.name, .int .i64 u'.of, .int .i64 u'.pos] 31)).setCell ⟨ba, 0, none⟩ (.int .i64 ((j : Int) + 1)))) := Lib.hid
            ⟨(hp.out.1.later (Fr.of_alloc _ _ _)).step HA.out (j + 1) _ (by omega), (four_new _ _ _ _ _ _).other (by have := hp.out.1.aa.lt; omega), hp.out.2.trans ((Mv.of_kept (Fr.of_alloc _ _ _)).trans (Mv.of_set (.inr rfl)))⟩
          have HG7 : Hid (xv'.ownBlock ≠ some wr.heap.size ∧ wr.heap.size ≠ bx ∧ wr.heap.size ≠ ba) := Lib.hid ⟨fun e => by have := (hp.out.1.own e).2; omega, by have := hp.out.1.xx.lt; omega, by have := hp.out.1.aa.lt; omega⟩
          clear cl ca ca1 fa1 k0 k1 k2 k3
          generalize (wr.alloc (.cells #[.int .i64 u'.kind, .string u'.name, .int .i64 u'.of, .int .i64 u'.pos] 31)).setCell ⟨ba, 0, none⟩ (.int .i64 ((j : Int) + 1)) = W3 at H3 ⊢
          generalize wr.heap.size = g7 at H3 HG7 ⊢
          have s0 := H3.out.2.1.c0
          have cn := H3.out.1.nx.cell
          go_cut [51] from 26 to 56 (fun _ wx => ∃ xv2, Hid (PS w B bl bx ba bn (.slice (some ⟨g, off, none⟩) n c) wx (j + 1 + b.toks.length) (y ++ b.ex.post) xv2 ∧ Four wx g7 (.int .i64 u'.kind) (.string u'.name) (.int .i64 u'.of) (.int .i64 u'.pos) ∧ Mv (CX bx ba) xv xv2 W wx))
          case first =>
            have cnd := (H3.out.1.later (Fr.of_drew _ W3)).nx.cell
            have s0d := (H3.out.2.1.kept (Fr.of_drew _ W3)).c0
            go_region_held3 (fun w' => w'.cell? ⟨bn, 0, none⟩ = some (.func (.func 50) #[] #[.pointer (some ⟨bl, 0, none⟩), .pointer (some ⟨ba, 0, none⟩), .pointer (some ⟨bn, 0, none⟩), .pointer (some ⟨bx, 0, none⟩)]) ∧ w'.cell? ⟨g7, 0, none⟩ = some (.int .i64 u'.kind)) (first | exact ⟨cnd, s0d⟩ | exact ⟨cn4, s04⟩) (first
              | (go_at_call 32; refine (HNB.out _).mono ?_; rintro e w' ⟨rfl, rfl⟩)
              | (go_at_call 50; refine (HNX.out _ (H3.out.1.later (Fr.of_drew _ _))).mono ?_; rintro e w4 ⟨xv2, rfl, hp4, hm4⟩; have H4 := Lib.hid (And.intro hp4 hm4); have cn4 := hp4.nx.cell; have s04 := ((H3.out.2.1.kept (Fr.of_drew _ _)).fr hm4.fr (fun h => h.elim (fun h => h.elim HG7.out.2.1 HG7.out.2.2) HG7.out.1)).c0; clear hp4 hm4))
            all_goals
              go_wp2_with fail
              go_meet
              case rel => exact ⟨xv2, Lib.hid ⟨H4.out.1, (H3.out.2.1.kept (Fr.of_drew _ _)).fr H4.out.2.fr (fun h => h.elim (fun h => h.elim HG7.out.2.1 HG7.out.2.2) HG7.out.1), (H3.out.2.2.trans (Mv.of_kept (Fr.of_drew _ _))).trans H4.out.2⟩⟩
          case rest =>
          obtain ⟨xv2, hcut⟩ := hcut
          have H4 : Hid (PS w B bl bx ba bn (.slice (some ⟨g, off, none⟩) n c) wc (j + 1 + b.toks.length) (y ++ b.ex.post) xv2 ∧ Four wc g7 (.int .i64 u'.kind) (.string u'.name) (.int .i64 u'.of) (.int .i64 u'.pos) ∧ Mv (CX bx ba) xv xv2 W wc) := hcut
          have HT : Hid (∀ W, Calls Tryd.prog 51 #[.agg #[.int .i64 u'.kind, .string u'.name, .int .i64 u'.of, .int .i64 u'.pos]] W (KeptPost (.agg #[.int .i64 u'.kind, .int .i64 u'.of, .string u'.name]) W)) := Lib.hid (fun W => ktrmof_any u'.kind u'.of u'.pos u'.name W)
          have t0 := H4.out.2.1.c0
          have t1 := H4.out.2.1.c1
          have t2 := H4.out.2.1.c2
          have t3 := H4.out.2.1.c3
          have cx := H4.out.1.xx.cell
          clear hcut s0 cn H3
          have HYL : Hid ((y ++ b.ex.post).length ≤ j + b.toks.length) := Lib.hid (by
            have := hs.out.2.2.2.2
            have := post_le b
            rw [List.length_append]
            omega)
          have HYT : Hid (x ++ p.ex.post = (y ++ b.ex.post) ++ opT op :: tailX rest) := Lib.hid (by rw [hs.out.2.2.2.1]; simp [tailX])
          generalize y ++ b.ex.post = Y at *
          go_upto_region 10 with fail
          go_region_law (first
            | (refine step_app rfl (.tmp 52) (.tmp 55) 23 23 rfl Tryd.sliceX rfl (own_kept H4.out.1.row (HK9.out.trans (Fr.of_alloc _ _ _))) rfl (src_three Tryd.underlying23 (heap_alloc_new _ _) rfl rfl rfl) (HLN.out _ HLE.out).1 (HLN.out _ HLE.out).2 (Nat.le_trans H4.out.1.hB (HK9.out.trans (Fr.of_alloc _ _ _)).size) ?_; intro v1 w1 hp1; obtain ⟨a1, k1, hv1, _⟩ := own_slice hp1.1; subst hv1; have HP := Lib.hid hp1; have fz1 := ((H4.out.1.later (HK9.out.trans (Fr.of_alloc _ _ _))).box HA.out hp1).fz; have cz1 := ((H4.out.1.later (HK9.out.trans (Fr.of_alloc _ _ _))).box HA.out hp1).cell; clear hp1)
            | (go_simp; go_at_call 51; refine (HT.out _).mono ?_; rintro e w9 ⟨rfl, hk9⟩; have HK9 := Lib.hid ((Fr.of_drew (fun _ => False) _).trans hk9); have c9 := (H4.out.1.later HK9.out).xx.cell; have c9a := fun o => (H4.out.1.later (HK9.out.trans (Fr.of_alloc _ w9 o))).xx.cell; clear hk9; dsimp only))
          all_goals
            go_wp2_with fail
            have hq := H4.out.1.push HA.out H4.out.2.2 (HK9.out.trans (Fr.of_alloc _ _ _)) (t := u'.tok) (by show AppPost _ _ _ _ _ _ (_ ++ [.int .i64 u'.kind, .int .i64 u'.of, .string (strOf (bs u'.name))]) _ _; rw [strOf_bs]; exact HP.out)
            have HQ := Lib.hid hq
            clear hq
            go_roundw
            case rel => exact ⟨rest, _, _, j + 1 + b.toks.length, Lib.hid ⟨HTL.out.2.2.2.2.2, by
                have h1 := congrArg (List.drop (1 + b.toks.length)) hs.out.2.1
                rw [List.drop_drop, ← Nat.add_assoc] at h1
                rw [h1]
                simp [tailT, Nat.add_comm 1], by have := HBL.out; omega, by
                rw [HYT.out, HUT.out]; simp, by
                have := HYL.out
                simp only [List.length_append, List.length_cons, List.length_nil]
                omega⟩, HQ, by have := HGE.out; omega⟩
            case measure =>
              rw [HQ.out.1.atOf, HAT.out]
              have := HPL.out
              have := HBL.out
              omega

end Go.Proofs.YtdapdpmplbifdaaDoor
