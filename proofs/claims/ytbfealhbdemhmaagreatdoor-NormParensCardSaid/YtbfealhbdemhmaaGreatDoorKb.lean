/- Contracts and lemmas: Kb -/
import Derived.Test.YtbfealhbdemhmaaGreatDoorKa
import Derived.Test.YtbfealhbdemhmaaGreatDoorRw
import Derived.Laws.EntriesVeiled
namespace Go.Proofs.YtbfealhbdemhmaaGreatDoor
set_option linter.unusedVariables false
set_option linter.unusedSimpArgs false
open Go.RowKit Go.ChangeShapes Go.WideShapes
set_option maxRecDepth 20000
def NextPost (w : World) (B bl bx ba bn : Nat) (lv : Value) (W : World) (i : Nat) (x : List Tok) (xv : Value) (n : Nat) (y : List Tok) (e : Ending) (W' : World) : Prop :=
  ∃ xv', e = .returned (.tuple #[]) ∧ PS w B bl bx ba bn lv W' (i + n) (x ++ y) xv' ∧ Mv (CX bx ba) xv xv' W W'
set_option maxHeartbeats 8000000 in
theorem knext_any {w : World} {l : List TokB} {ao : Option Addr} {n c B bl bx ba bn : Nat} (hl : l.length ≤ 1000000) (hA : Apart w B bl bx ba bn) (hR : ReadsT w (.slice ao n c) l) :
    ∀ (m : Nat) (p : PT) (v i : Nat) (r : List Tok) (W : World) (x : List Tok) (xv : Value), p.toks.length ≤ m → p.Ok → v ≤ p.lev → 1 ≤ v → (l.map TokB.tok).drop i = p.toks ++ r → StopAt v r → x.length ≤ i → PS w B bl bx ba bn (.slice ao n c) W i x xv →
    Calls Tryz.prog 137 #[.int .i64 (v : Int), .pointer (some ⟨bl, 0, none⟩), .pointer (some ⟨ba, 0, none⟩), .pointer (some ⟨bn, 0, none⟩), .pointer (some ⟨bx, 0, none⟩)] W (NextPost w B bl bx ba bn (.slice ao n c) W i x xv p.toks.length p.ex.post) := by
  intro m
  induction m with
  | zero =>
    intro p v i r W x xv hm
    have := p.toks_pos
    omega
  | succ m ih =>
    intro p v i r W x xv hm hok hv hv1 hd hst hxi hps
    have HIH := Lib.hid ih
    have HA := Lib.hid hA
    have HS := Lib.hid hps
    have HR := Lib.hid hR
    have HST := Lib.hid hst
    have HSP := Lib.hid p.toks_spine
    have HPX := Lib.hid p.post_spine
    have HTO := Lib.hid (tail_ok hok hv)
    have HD := Lib.hid hd
    obtain ⟨ao', c', he, _, hc⟩ := hR
    have hnl : n = l.length := by cases he; rfl
    have HNL := Lib.hid hnl
    have HC : Hid (∀ (k : Nat) (t : TokB), l[k]? = some t → ∃ g off, ao = some ⟨g, off, none⟩ ∧ w.cell? ⟨g, off + k * 4, none⟩ = some (.int .i64 t.kind) ∧ w.cell? ⟨g, off + k * 4 + 1, none⟩ = some (.string t.name) ∧ w.cell? ⟨g, off + k * 4 + 2, none⟩ = some (.int .i64 t.of) ∧ w.cell? ⟨g, off + k * 4 + 3, none⟩ = some (.int .i64 t.pos)) := Lib.hid (by cases he; exact hc)
    have HM : Hid (∀ (k : Nat) (t : Tok), (l.map TokB.tok)[k]? = some t → ∃ u, l[k]? = some u ∧ u.tok = t) := Lib.hid (fun k t h => by
      rw [List.getElem?_map] at h
      cases hu : l[k]? with
      | none => rw [hu] at h; cases h
      | some u => rw [hu] at h; cases h; exact ⟨u, rfl, rfl⟩)
    clear ih hA hst hd he hc
    have hpr := PT.prim_cases hok
    have hpt : ∃ u, l[i]? = some u ∧ ((p.prim = .atom u.tok ∧ AtomOk u.tok) ∨ (u.tok = opT 6 ∧ ∃ q, p.prim = .par q ∧ q.Ok)) := by
      rcases hpr with ⟨t, h1, h2⟩ | ⟨q, h1, h2⟩
      · have : (l.map TokB.tok)[i]? = some t := by
          rw [← List.head?_drop, HD.out, HSP.out, h1]; rfl
        obtain ⟨u, hu, rfl⟩ := HM.out i t this
        exact ⟨u, hu, .inl ⟨h1, h2⟩⟩
      · have : (l.map TokB.tok)[i]? = some (opT 6) := by
          rw [← List.head?_drop, HD.out, HSP.out, h1]; rfl
        obtain ⟨u, hu, hx⟩ := HM.out i _ this
        exact ⟨u, hu, .inr ⟨hx, q, h1, h2⟩⟩
    obtain ⟨u, hu, hcase⟩ := hpt
    have hin : i < n := by rw [hnl]; exact (List.getElem?_eq_some_iff.1 hu).1
    obtain ⟨g, off, rfl, d0, d1, d2, d3⟩ := HC.out i u hu
    have hini : (i : Int) < (n : Int) := by omega
    have cl := HS.out.ll.cell
    have ca := HS.out.aa.cell
    have ca1 := fun o => (HS.out.later (Fr.of_alloc _ W o)).aa.cell
    have fa1 := fun o => (HS.out.later (Fr.of_alloc _ W o)).aa.fz
    have e0 := HS.out.kept.cell d0 (fun x => x)
    have e1 := HS.out.kept.cell d1 (fun x => x)
    have e2 := HS.out.kept.cell d2 (fun x => x)
    have e3 := HS.out.kept.cell d3 (fun x => x)
    have hn6 : n ≤ 1000000 := by omega
    have hpl : i + p.toks.length ≤ n := by
      have h1 := congrArg List.length HD.out
      rw [List.length_drop, List.length_append, List.length_map, ← hnl] at h1
      have h2 := p.toks_pos
      omega
    have HLN : Hid (∀ k, k ≤ n → k + 1 ≤ maxLen ∧ (k + 1) * 32 ≤ 140737488355328) := Lib.hid (fun k hk => ⟨by unfold maxLen; omega, by omega⟩)
    have HPL := Lib.hid hpl
    have HXI := Lib.hid hxi
    have hps2 := post_le p
    have HPO := Lib.hid hps2
    clear hpl hxi hps2
    clear d0 d1 d2 d3 hpr hnl
    have HCS := Lib.hid hcase
    have hbk : (u.kind = 1 ∧ (p.prim = .atom u.tok ∧ AtomOk u.tok)) ∨ (u.kind = 6 ∧ ∃ q, p.prim = .par q ∧ q.Ok) := by
      rcases hcase with h | ⟨h1, h2⟩
      · exact .inl ⟨h.2.1, h⟩
      · exact .inr ⟨congrArg Tok.kind h1, h2⟩
    clear hcase hu HCS
    go_enter Tryz.func137, Tryz.ntmps137
    go_upto_region 2 with fail
    have H1 : Hid (PS w B bl bx ba bn (.slice (some ⟨g, off, none⟩) n c) ((W.alloc (.cells #[.int .i64 u.kind, .string u.name, .int .i64 u.of, .int .i64 u.pos] 85)).setCell ⟨ba, 0, none⟩ (.int .i64 ((i : Int) + 1))) (i + 1) x xv ∧
        Four ((W.alloc (.cells #[.int .i64 u.kind, .string u.name, .int .i64 u.of, .int .i64 u.pos] 85)).setCell ⟨ba, 0, none⟩ (.int .i64 ((i : Int) + 1))) W.heap.size (.int .i64 u.kind) (.string u.name) (.int .i64 u.of) (.int .i64 u.pos) ∧
        Mv (CX bx ba) xv xv W ((W.alloc (.cells #[.int .i64 u.kind, .string u.name, .int .i64 u.of, .int .i64 u.pos] 85)).setCell ⟨ba, 0, none⟩ (.int .i64 ((i : Int) + 1)))) := Lib.hid
      ⟨(HS.out.later (Fr.of_alloc _ _ _)).step HA.out (i + 1) _ (by omega), (four_new _ _ _ _ _ _).other (by have := HS.out.aa.lt; omega), (Mv.of_kept (Fr.of_alloc _ _ _)).trans (Mv.of_set (.inr rfl))⟩
    clear cl ca ca1 fa1 e0 e1 e2 e3
    generalize (W.alloc (.cells #[.int .i64 u.kind, .string u.name, .int .i64 u.of, .int .i64 u.pos] 85)).setCell ⟨ba, 0, none⟩ (.int .i64 ((i : Int) + 1)) = W1 at H1 ⊢
    generalize W.heap.size = g6 at H1 ⊢
    have t0 := H1.out.2.1.c0
    go_upto_if 16 with (fail)
    go_cut [16] (fun _ wr => ∃ xv', Hid (PS w B bl bx ba bn (.slice (some ⟨g, off, none⟩) n c) wr (i + p.prim.toks.length) (x ++ p.prim.ex.post) xv' ∧ Mv (CX bx ba) xv xv' W wr))
    case first =>
      rcases hbk with ⟨hk1, hp, hat⟩ | ⟨hk6, q, hp, hq⟩
      · have g6k : (u.kind == 6) = false := by simp [hk1]
        have HT : Hid (∀ W, Calls Tryz.prog 138 #[.agg #[.int .i64 u.kind, .string u.name, .int .i64 u.of, .int .i64 u.pos]] W (KeptPost (.agg #[.int .i64 u.kind, .int .i64 u.of, .string u.name]) W)) := Lib.hid (fun W => ktrmof_any u.kind u.of u.pos u.name W)
        have HEQ : Hid (p.prim.toks.length = 1 ∧ p.prim.ex.post = [u.tok] ∧ strOf u.tok.name = u.name) := Lib.hid ⟨by rw [hp]; rfl, by rw [hp]; rfl, strOf_bs _⟩
        have t1 := H1.out.2.1.c1
        have t2 := H1.out.2.1.c2
        have t3 := H1.out.2.1.c3
        have cx := H1.out.1.xx.cell
        have HLE : Hid (x.length ≤ n) := Lib.hid (by have := HXI.out; omega)
        clear hk1 hp hat
        go_upto_region 5 with fail
        go_region_law (first
          | (refine step_app rfl (.tmp 21) (.tmp 24) 25 25 rfl Tryz.sliceX rfl (own_kept H1.out.1.row (HK9.out.trans (Fr.of_alloc _ _ _))) rfl (src_three Tryz.underlying25 (heap_alloc_new _ _) rfl rfl rfl) (HLN.out _ HLE.out).1 (HLN.out _ HLE.out).2 (Nat.le_trans H1.out.1.hB (HK9.out.trans (Fr.of_alloc _ _ _)).size) ?_; intro v1 w1 hp; obtain ⟨a1, k1, hv1, _⟩ := own_slice hp.1; subst hv1; have HP := Lib.hid hp; have fz1 := ((H1.out.1.later (HK9.out.trans (Fr.of_alloc _ _ _))).box HA.out hp).fz; have cz1 := ((H1.out.1.later (HK9.out.trans (Fr.of_alloc _ _ _))).box HA.out hp).cell; clear hp)
          | (go_simp; go_at_call 138; refine (HT.out _).mono ?_; rintro e w9 ⟨rfl, hk9⟩; have HK9 := Lib.hid ((Fr.of_drew (fun _ => False) _).trans hk9); have c9 := (H1.out.1.later HK9.out).xx.cell; have c9a := fun o => (H1.out.1.later (HK9.out.trans (Fr.of_alloc _ w9 o))).xx.cell; clear hk9; dsimp only))
        all_goals
          go_wp2_with fail
          go_meet
          case rel =>
            have hq := H1.out.1.push HA.out H1.out.2.2 (HK9.out.trans (Fr.of_alloc _ _ _)) (t := u.tok) (by rw [HEQ.out.2.2]; exact HP.out)
            exact ⟨_, Lib.hid (by rw [HEQ.out.1, HEQ.out.2.1]; exact hq)⟩
      · have g6k : (u.kind == 6) = true := by simp [hk6]
        have hpp : p.prim.toks = opT 6 :: (q.toks ++ [opT 7]) := by rw [hp]; rfl
        have hlen := congrArg List.length HSP.out
        rw [hpp] at hlen
        simp only [List.length_append, List.length_cons, List.length_nil] at hlen
        have hj2 : i + 1 + q.toks.length ≤ 1000000 := by have := HPL.out; omega
        have HEQ : Hid (i + p.prim.toks.length = i + 1 + q.toks.length + 1 ∧ p.prim.ex.post = q.ex.post) := Lib.hid ⟨by rw [hpp]; simp only [List.length_append, List.length_cons, List.length_nil]; omega, by rw [hp]; rfl⟩
        have HCL : Hid (Calls Tryz.prog 137 #[.int .i64 1, .pointer (some ⟨bl, 0, none⟩), .pointer (some ⟨ba, 0, none⟩), .pointer (some ⟨bn, 0, none⟩), .pointer (some ⟨bx, 0, none⟩)] W1 (NextPost w B bl bx ba bn (.slice (some ⟨g, off, none⟩) n c) W1 (i + 1) x xv q.toks.length q.ex.post)) := Lib.hid
          (HIH.out q 1 (i + 1) (opT 7 :: (tailT p.tail ++ r)) W1 x xv (by omega) hq (PT.lev_pos hq) (Nat.le_refl _) (by
            have := HD.out
            rw [HSP.out, hpp] at this
            have h3 := congrArg (List.drop 1) this
            rw [List.drop_drop] at h3
            rw [h3]
            simp) (stop_close _) (by have := HXI.out; omega) H1.out.1)
        have cn := H1.out.1.nx.cell
        clear hk6 hp hpp hlen hq
        generalize hj : i + 1 + q.toks.length = j2 at *
        have HJ := Lib.hid hj
        clear hj
        go_wp2_with fail
        refine HCL.out.mono ?_
        rintro e w2 ⟨xv2, rfl, hps2, hmv2⟩
        rw [HJ.out] at hps2
        have H2 := Lib.hid (And.intro hps2 (H1.out.2.2.trans hmv2))
        have ca := H2.out.1.aa.cell
        have fa := H2.out.1.aa.fz
        clear hps2 hmv2 cn
        go_wp2_with fail
        go_meet
        case rel =>
          exact ⟨xv2, Lib.hid (by
            rw [HEQ.out.1, HEQ.out.2]
            exact ⟨H2.out.1.step HA.out (j2 + 1) _ (by omega), H2.out.2.trans (Mv.of_set (.inr rfl))⟩)⟩
    case rest =>
      obtain ⟨xv1, hcut⟩ := hcut
      have H2 : Hid (PS w B bl bx ba bn (.slice (some ⟨g, off, none⟩) n c) wc (i + p.prim.toks.length) (x ++ p.prim.ex.post) xv1 ∧ Mv (CX bx ba) xv xv1 W wc) := hcut
      have H3 : Hid (TailOk v p.tail ∧ (l.map TokB.tok).drop (i + p.prim.toks.length) = tailT p.tail ++ r ∧ i + p.prim.toks.length + (tailT p.tail).length = i + p.toks.length ∧ x ++ p.ex.post = (x ++ p.prim.ex.post) ++ tailX p.tail ∧ (x ++ p.prim.ex.post).length ≤ i + p.prim.toks.length) := Lib.hid
        ⟨HTO.out, by
          rw [← List.drop_drop, HD.out, HSP.out, List.append_assoc, List.drop_left], by
          have := congrArg List.length HSP.out
          rw [List.length_append] at this
          omega, by rw [HPX.out, List.append_assoc], by
          have := HXI.out
          have := post_le p.prim
          rw [List.length_append]
          omega⟩
      clear hcut H1 t0 hbk
      go_wp2_with fail
      go_loopw [7] (fun _ wr => ∃ (ss : List (Int × PT)) (xv' : Value) (y : List Tok) (j : Nat), Hid (TailOk v ss ∧ (l.map TokB.tok).drop j = tailT ss ++ r ∧ j + (tailT ss).length = i + p.toks.length ∧ x ++ p.ex.post = y ++ tailX ss ∧ y.length ≤ j) ∧ Hid (PS w B bl bx ba bn (.slice (some ⟨g, off, none⟩) n c) wr j y xv' ∧ Mv (CX bx ba) xv xv' W wr) ∧ i + p.prim.toks.length ≤ j) (fun _ wr => n - atOf ba wr)
      case atStart => exact ⟨p.tail, xv1, _, _, H3, H2, Nat.le_refl _⟩
      case round =>
        obtain ⟨ss, xv', y, j, hs, hp, hge⟩ := hrel
        have HGE := Lib.hid hge
        clear H2 H3 hge
        have cl := hp.out.1.ll.cell
        have ca := hp.out.1.aa.cell
        have hjn : j ≤ n := by have := HPL.out; have := hs.out.2.2.1; omega
        have HAT := Lib.hid hp.out.1.atOf
        match ss, hs with
        | [], hs =>
          match r, HST, hs with
          | [], HST, hs =>
            have hge : ¬ (j : Int) < (n : Int) := by
              have h1 := congrArg List.length hs.out.2.1
              simp only [List.length_drop, List.length_map, tailT, List.length_append, List.length_nil] at h1
              have := HNL.out
              omega
            go_wp2
            go_end0
            exact ⟨xv', rfl, by
              have h3 := hs.out.2.2.1
              have h4 := hs.out.2.2.2.1
              simp only [tailT, List.length_nil, Nat.add_zero] at h3
              simp only [tailX, List.append_nil] at h4
              rw [← h3, h4]
              exact hp.out.1, hp.out.2⟩
          | t :: s, HST, hs =>
            have hlj : (l.map TokB.tok)[j]? = some t := by
              have h1 := hs.out.2.1
              rw [← List.head?_drop, h1]; rfl
            obtain ⟨u', hu', hut⟩ := HM.out j t hlj
            obtain ⟨g', off', he, d0, _⟩ := HC.out j u' hu'
            cases he
            have k0 := hp.out.1.kept.cell d0 (fun x => x)
            have hlti : (j : Int) < (n : Int) := by have := (List.getElem?_eq_some_iff.1 hlj).1; rw [List.length_map] at this; have := HNL.out; omega
            have hbv : kbind u'.kind < v := by have := HST.out t s rfl; rw [← hut] at this; exact this
            have HNB : Hid (∀ W, Calls Tryz.prog 51 #[.int .i64 u'.kind] W fun e w' => e = .returned (.int .i64 (kbind u'.kind : Nat)) ∧ W = w') := Lib.hid (fun W => kbinding_any u'.kind W)
            generalize kbind u'.kind = bk at *
            have hgv : ¬ (v : Int) ≤ (bk : Int) := by omega
            clear d0 hu' hut hlj
            go_wp2_with (go_at_call 51; refine (HNB.out _).mono ?_; rintro e w' ⟨rfl, rfl⟩)
            go_end0
            exact ⟨xv', rfl, by
              have h3 := hs.out.2.2.1
              have h4 := hs.out.2.2.2.1
              simp only [tailT, List.length_nil, Nat.add_zero] at h3
              simp only [tailX, List.append_nil] at h4
              rw [← h3, h4]
              exact hp.out.1, hp.out.2⟩
        | (op, b) :: rest, hs =>
          have hlj : (l.map TokB.tok)[j]? = some (opT op) := by
            have h1 := hs.out.2.1
            rw [← List.head?_drop, h1]; rfl
          obtain ⟨u', hu', hut⟩ := HM.out j _ hlj
          obtain ⟨g', off', he, d0, d1, d2, d3⟩ := HC.out j u' hu'
          cases he
          have k0 := hp.out.1.kept.cell d0 (fun x => x)
          have k1 := hp.out.1.kept.cell d1 (fun x => x)
          have k2 := hp.out.1.kept.cell d2 (fun x => x)
          have k3 := hp.out.1.kept.cell d3 (fun x => x)
          have hlti : (j : Int) < (n : Int) := by have := (List.getElem?_eq_some_iff.1 hlj).1; rw [List.length_map] at this; have := HNL.out; omega
          have HTL := Lib.hid hs.out.1
          have huk : u'.kind = op := congrArg Tok.kind hut
          have hkb : kbind u'.kind = bindS op := by rw [huk, kbind_op HTL.out.2.1]
          have hgv : (v : Int) ≤ ((bindS op : Nat) : Int) := by have := HTL.out.1; omega
          have hb4 := bind_le op
          have HNB : Hid (∀ W, Calls Tryz.prog 51 #[.int .i64 u'.kind] W fun e w' => e = .returned (.int .i64 (bindS op : Nat)) ∧ W = w') := Lib.hid (fun W => by rw [← hkb]; exact kbinding_any u'.kind W)
          have hbl : j + 1 + b.toks.length + (tailT rest).length = i + p.toks.length := by
            have := hs.out.2.2.1
            simp only [tailT, List.length_cons, List.length_append] at this
            omega
          have HBL := Lib.hid hbl
          have HNX : Hid (∀ W' , PS w B bl bx ba bn (.slice (some ⟨g, off, none⟩) n c) W' (j + 1) y xv' → Calls Tryz.prog 137 #[.int .i64 (((bindS op : Nat) : Int) + 1), .pointer (some ⟨bl, 0, none⟩), .pointer (some ⟨ba, 0, none⟩), .pointer (some ⟨bn, 0, none⟩), .pointer (some ⟨bx, 0, none⟩)] W' (NextPost w B bl bx ba bn (.slice (some ⟨g, off, none⟩) n c) W' (j + 1) y xv' b.toks.length b.ex.post)) := Lib.hid (fun W' h => by
            have h0 := HTL.out
            have := HIH.out b (bindS op + 1) (j + 1) (tailT rest ++ r) W' y xv' (by
              have h1 := congrArg List.length HSP.out
              have h2 := p.prim.toks_pos
              rw [List.length_append] at h1
              have := hs.out.2.2.1
              simp only [tailT, List.length_cons, List.length_append] at this
              have := HGE.out
              omega) h0.2.2.1 h0.2.2.2.1 (by omega) (by
              have h1 := congrArg (List.drop 1) hs.out.2.1
              rw [List.drop_drop] at h1
              rw [h1]
              simp [tailT]) (stop_tail h0.2.2.2.2.1 HST.out h0.1 h0.2.2.2.2.2) (by have := hs.out.2.2.2.2; omega) h
            have e : ((bindS op + 1 : Nat) : Int) = ((bindS op : Nat) : Int) + 1 := by omega
            rw [e] at this
            exact this)
          have ca1 := fun o => (hp.out.1.later (Fr.of_alloc _ wr o)).aa.cell
          have fa1 := fun o => (hp.out.1.later (Fr.of_alloc _ wr o)).aa.fz
          have HUT := Lib.hid hut
          have HLE : Hid ((y ++ b.ex.post).length ≤ n) := Lib.hid (by
            have := hs.out.2.2.2.2
            have := post_le b
            have := HPL.out
            rw [List.length_append]
            omega)
          have hj6 : j + 1 + b.toks.length ≤ 1000000 := by have := HPL.out; omega
          clear d0 d1 d2 d3 hu' hut hlj hkb huk hbl
          generalize bindS op = bk at *
          have hwb : IntKind.i64.wrap ((bk : Int) + 1) = (bk : Int) + 1 := IntWalk.i64_in _ (by omega)
          go_upto_region 9 with (go_at_call 51; refine (HNB.out _).mono ?_; rintro e w' ⟨rfl, rfl⟩)
          have H3 : Hid (PS w B bl bx ba bn (.slice (some ⟨g, off, none⟩) n c) ((wr.alloc (.cells #[.int .i64 u'.kind, .string u'.name, .int .i64 u'.of, .int .i64 u'.pos] 85)).setCell ⟨ba, 0, none⟩ (.int .i64 ((j : Int) + 1))) (j + 1) y xv' ∧
              Four ((wr.alloc (.cells #[.int .i64 u'.kind, .string u'.name, .int .i64 u'.of, .int .i64 u'.pos] 85)).setCell ⟨ba, 0, none⟩ (.int .i64 ((j : Int) + 1))) wr.heap.size (.int .i64 u'.kind) (.string u'.name) (.int .i64 u'.of) (.int .i64 u'.pos) ∧
              Mv (CX bx ba) xv xv' W ((wr.alloc (.cells #[.int .i64 u'.kind, .string u'.name, .int .i64 u'.of, .int .i64 u'.pos] 85)).setCell ⟨ba, 0, none⟩ (.int .i64 ((j : Int) + 1)))) := Lib.hid
            ⟨(hp.out.1.later (Fr.of_alloc _ _ _)).step HA.out (j + 1) _ (by omega), (four_new _ _ _ _ _ _).other (by have := hp.out.1.aa.lt; omega), hp.out.2.trans ((Mv.of_kept (Fr.of_alloc _ _ _)).trans (Mv.of_set (.inr rfl)))⟩
          have HG7 : Hid (xv'.ownBlock ≠ some wr.heap.size ∧ wr.heap.size ≠ bx ∧ wr.heap.size ≠ ba) := Lib.hid ⟨fun e => by have := (hp.out.1.own e).2; omega, by have := hp.out.1.xx.lt; omega, by have := hp.out.1.aa.lt; omega⟩
          clear cl ca ca1 fa1 k0 k1 k2 k3
          generalize (wr.alloc (.cells #[.int .i64 u'.kind, .string u'.name, .int .i64 u'.of, .int .i64 u'.pos] 85)).setCell ⟨ba, 0, none⟩ (.int .i64 ((j : Int) + 1)) = W3 at H3 ⊢
          generalize wr.heap.size = g7 at H3 HG7 ⊢
          have s0 := H3.out.2.1.c0
          have cn := H3.out.1.nx.cell
          go_cut [51] from 26 to 56 (fun _ wx => ∃ xv2, Hid (PS w B bl bx ba bn (.slice (some ⟨g, off, none⟩) n c) wx (j + 1 + b.toks.length) (y ++ b.ex.post) xv2 ∧ Four wx g7 (.int .i64 u'.kind) (.string u'.name) (.int .i64 u'.of) (.int .i64 u'.pos) ∧ Mv (CX bx ba) xv xv2 W wx))
          case first =>
            have cnd := (H3.out.1.later (Fr.of_drew _ W3)).nx.cell
            have s0d := (H3.out.2.1.kept (Fr.of_drew _ W3)).c0
            go_region_held3 (fun w' => w'.cell? ⟨bn, 0, none⟩ = some (.func (.func 137) #[] #[.pointer (some ⟨bl, 0, none⟩), .pointer (some ⟨ba, 0, none⟩), .pointer (some ⟨bn, 0, none⟩), .pointer (some ⟨bx, 0, none⟩)]) ∧ w'.cell? ⟨g7, 0, none⟩ = some (.int .i64 u'.kind)) (first | exact ⟨cnd, s0d⟩ | exact ⟨cn4, s04⟩) (first
              | (go_at_call 51; refine (HNB.out _).mono ?_; rintro e w' ⟨rfl, rfl⟩)
              | (go_at_call 137; refine (HNX.out _ (H3.out.1.later (Fr.of_drew _ _))).mono ?_; rintro e w4 ⟨xv2, rfl, hp4, hm4⟩; have H4 := Lib.hid (And.intro hp4 hm4); have cn4 := hp4.nx.cell; have s04 := ((H3.out.2.1.kept (Fr.of_drew _ _)).fr hm4.fr (fun h => h.elim (fun h => h.elim HG7.out.2.1 HG7.out.2.2) HG7.out.1)).c0; clear hp4 hm4))
            all_goals
              go_wp2_with fail
              go_meet
              case rel => exact ⟨xv2, Lib.hid ⟨H4.out.1, (H3.out.2.1.kept (Fr.of_drew _ _)).fr H4.out.2.fr (fun h => h.elim (fun h => h.elim HG7.out.2.1 HG7.out.2.2) HG7.out.1), (H3.out.2.2.trans (Mv.of_kept (Fr.of_drew _ _))).trans H4.out.2⟩⟩
          case rest =>
          obtain ⟨xv2, hcut⟩ := hcut
          have H4 : Hid (PS w B bl bx ba bn (.slice (some ⟨g, off, none⟩) n c) wc (j + 1 + b.toks.length) (y ++ b.ex.post) xv2 ∧ Four wc g7 (.int .i64 u'.kind) (.string u'.name) (.int .i64 u'.of) (.int .i64 u'.pos) ∧ Mv (CX bx ba) xv xv2 W wc) := hcut
          have HT : Hid (∀ W, Calls Tryz.prog 138 #[.agg #[.int .i64 u'.kind, .string u'.name, .int .i64 u'.of, .int .i64 u'.pos]] W (KeptPost (.agg #[.int .i64 u'.kind, .int .i64 u'.of, .string u'.name]) W)) := Lib.hid (fun W => ktrmof_any u'.kind u'.of u'.pos u'.name W)
          have t0 := H4.out.2.1.c0
          have t1 := H4.out.2.1.c1
          have t2 := H4.out.2.1.c2
          have t3 := H4.out.2.1.c3
          have cx := H4.out.1.xx.cell
          clear hcut s0 cn H3
          have HYL : Hid ((y ++ b.ex.post).length ≤ j + b.toks.length) := Lib.hid (by
            have := hs.out.2.2.2.2
            have := post_le b
            rw [List.length_append]
            omega)
          have HYT : Hid (x ++ p.ex.post = (y ++ b.ex.post) ++ opT op :: tailX rest) := Lib.hid (by rw [hs.out.2.2.2.1]; simp [tailX])
          generalize y ++ b.ex.post = Y at *
          go_upto_region 10 with fail
          go_region_law (first
            | (refine step_app rfl (.tmp 52) (.tmp 55) 25 25 rfl Tryz.sliceX rfl (own_kept H4.out.1.row (HK9.out.trans (Fr.of_alloc _ _ _))) rfl (src_three Tryz.underlying25 (heap_alloc_new _ _) rfl rfl rfl) (HLN.out _ HLE.out).1 (HLN.out _ HLE.out).2 (Nat.le_trans H4.out.1.hB (HK9.out.trans (Fr.of_alloc _ _ _)).size) ?_; intro v1 w1 hp1; obtain ⟨a1, k1, hv1, _⟩ := own_slice hp1.1; subst hv1; have HP := Lib.hid hp1; have fz1 := ((H4.out.1.later (HK9.out.trans (Fr.of_alloc _ _ _))).box HA.out hp1).fz; have cz1 := ((H4.out.1.later (HK9.out.trans (Fr.of_alloc _ _ _))).box HA.out hp1).cell; clear hp1)
            | (go_simp; go_at_call 138; refine (HT.out _).mono ?_; rintro e w9 ⟨rfl, hk9⟩; have HK9 := Lib.hid ((Fr.of_drew (fun _ => False) _).trans hk9); have c9 := (H4.out.1.later HK9.out).xx.cell; have c9a := fun o => (H4.out.1.later (HK9.out.trans (Fr.of_alloc _ w9 o))).xx.cell; clear hk9; dsimp only))
          all_goals
            go_wp2_with fail
            have hq := H4.out.1.push HA.out H4.out.2.2 (HK9.out.trans (Fr.of_alloc _ _ _)) (t := u'.tok) (by show AppPost _ _ _ _ _ _ (_ ++ [.int .i64 u'.kind, .int .i64 u'.of, .string (strOf (bs u'.name))]) _ _; rw [strOf_bs]; exact HP.out)
            have HQ := Lib.hid hq
            clear hq
            go_roundw
            case rel => exact ⟨rest, _, _, j + 1 + b.toks.length, Lib.hid ⟨HTL.out.2.2.2.2.2, by
                have h1 := congrArg (List.drop (1 + b.toks.length)) hs.out.2.1
                rw [List.drop_drop, ← Nat.add_assoc] at h1
                rw [h1]
                simp [tailT, Nat.add_comm 1], by have := HBL.out; omega, by
                rw [HYT.out, HUT.out]; simp, by
                have := HYL.out
                simp only [List.length_append, List.length_cons, List.length_nil]
                omega⟩, HQ, by have := HGE.out; omega⟩
            case measure =>
              rw [HQ.out.1.atOf, HAT.out]
              have := HPL.out
              have := HBL.out
              omega

open Go.RowKit Go.ChangeShapes Go.WideShapes
set_option maxRecDepth 20000
theorem ps_new (w : World) (lv f : Value) (t1 t2 t3 t4 : TypeId) (hf : f = .func (.func 137) #[] #[.pointer (some ⟨w.heap.size, 0, none⟩), .pointer (some ⟨w.heap.size + 1 + 1, 0, none⟩), .pointer (some ⟨w.heap.size + 1 + 1 + 1, 0, none⟩), .pointer (some ⟨w.heap.size + 1, 0, none⟩)]) :
    PS w (w.heap.size + 1 + 1 + 1 + 1) w.heap.size (w.heap.size + 1) (w.heap.size + 1 + 1) (w.heap.size + 1 + 1 + 1) lv ((((w.alloc (.cells #[lv] t1)).alloc (.cells #[.slice none 0 0] t2)).alloc (.cells #[.int .i64 0] t3)).alloc (.cells #[f] t4)) 0 [] (.slice none 0 0) ∧
    Apart w (w.heap.size + 1 + 1 + 1 + 1) w.heap.size (w.heap.size + 1) (w.heap.size + 1 + 1) (w.heap.size + 1 + 1 + 1) := by
  subst hf
  have k := fun (W : World) (o : Obj) => Fr.of_alloc (fun _ => False) W o
  refine ⟨⟨(((k _ _).trans (k _ _)).trans (k _ _)).trans (k _ _), (((one_new w lv t1).kept (k _ _)).kept (k _ _)).kept (k _ _), ?_, ?_, ?_, own_nil _ _ _ _, by simp⟩, ⟨⟨by omega, by omega, by omega, by omega⟩, ⟨by omega, by omega, by omega, by omega⟩, by omega, by omega, by omega, by omega, by omega⟩⟩
  · have := one_new (w.alloc (.cells #[lv] t1)) (.slice none 0 0) t2
    rw [World.size_alloc] at this
    exact (this.kept (k _ _)).kept (k _ _)
  · have := one_new ((w.alloc (.cells #[lv] t1)).alloc (.cells #[.slice none 0 0] t2)) (.int .i64 0) t3
    rw [World.size_alloc, World.size_alloc] at this
    exact this.kept (k _ _)
  · have := one_new (((w.alloc (.cells #[lv] t1)).alloc (.cells #[.slice none 0 0] t2)).alloc (.cells #[.int .i64 0] t3)) (.func (.func 137) #[] #[.pointer (some ⟨w.heap.size, 0, none⟩), .pointer (some ⟨w.heap.size + 1 + 1, 0, none⟩), .pointer (some ⟨w.heap.size + 1 + 1 + 1, 0, none⟩), .pointer (some ⟨w.heap.size + 1, 0, none⟩)]) t4
    rw [World.size_alloc, World.size_alloc, World.size_alloc] at this
    exact this
theorem PS.part {w : World} {B bl bx ba bn : Nat} {lv : Value} {W : World} {i : Nat} {x : List Tok} {xv : Value} (h : PS w B bl bx ba bn lv W i x xv) (hA : Apart w B bl bx ba bn) : XPart w W x xv :=
  ⟨own_base h.row (fun g hg => by have := (h.own hg).1; have := hA.w0.1; have := hA.hb.1; omega), h.kept⟩
theorem kpostfix_any {w : World} {v : Value} {l : List TokB} {p : PT} (h : ReadsT w v l) (hl : l.length ≤ 1000000) (hp : p.Ok) (ht : p.toks = l.map TokB.tok) : Calls Tryz.prog 106 #[v] w (TermsPost p.ex.post w) := by
  have HR := Lib.hid h
  obtain ⟨ao, c, rfl, _⟩ := h
  have H0 := Lib.hid (ps_new w (.slice ao l.length c) _ 104 25 3 120 rfl)
  have HCL := Lib.hid (knext_any hl H0.out.2 HR.out p.toks.length p 1 0 [] _ [] (.slice none 0 0) (Nat.le_refl _) hp (PT.lev_pos hp) (Nat.le_refl _) (by rw [ht]; simp) (fun t s e => by cases e) (Nat.le_refl _) H0.out.1)
  clear hp ht
  go_enter Tryz.func106, Tryz.ntmps106
  go_wp2_with fail
  refine HCL.out.mono ?_
  rintro e w2 ⟨xv2, rfl, hps, _⟩
  have H2 := Lib.hid hps
  have cx := H2.out.xx.cell
  obtain ⟨a2, k2, rfl, _⟩ := own_slice H2.out.row
  clear hps
  go_wp2
  go_ret
  exact ⟨_, rfl, H2.out.part H0.out.2⟩

open Go.RowKit Go.ChangeShapes Go.WideShapes
set_option maxRecDepth 20000
theorem faultR_is (l : List Tok) : (∃ p q, faultR l = (p, q) ∧ (q = 2 ∨ q = 3) ∧ ReadIs l [] p q) ∨ (faultR l = (0, 0) ∧ ∃ t : PT, t.Ok ∧ t.toks = l ∧ ReadIs l t.ex.post 0 0) := by
  cases h1 : badS 0 l with
  | some i => exact .inl ⟨i, 2, by unfold faultR; rw [h1], .inl rfl, .inl ⟨h1, rfl, rfl⟩⟩
  | none =>
    cases h2 : chkS false false 0 0 l with
    | some x =>
      obtain ⟨p, q⟩ := x
      exact .inl ⟨p, q, by unfold faultR; rw [h1, h2], (chk_err h2).1, .inr (.inl ⟨h1, h2, rfl⟩)⟩
    | none =>
      obtain ⟨t, ht, hl⟩ := chk_ok (bad_none.1 h1) h2
      have hn : (l.filter notPar).length = t.ex.post.length := by rw [← hl, PT.inf ht, Ex.inf_len]
      by_cases h200 : 200 < t.ex.post.length
      · exact .inl ⟨l.length, 3, by unfold faultR; rw [h1, h2]; simp only []; rw [if_pos (by rw [hn]; exact h200)], .inr rfl, .inr (.inr ⟨h1, h2, t, ht, hl, .inr ⟨h200, rfl, rfl, rfl⟩⟩)⟩
      · exact .inr ⟨by unfold faultR; rw [h1, h2]; simp only []; rw [if_neg (by rw [hn]; exact h200)], t, ht, hl, .inr (.inr ⟨h1, h2, t, ht, hl, .inl ⟨by omega, rfl, rfl, rfl⟩⟩)⟩
set_option maxHeartbeats 4000000 in
theorem kread_any {w : World} {v : Value} {l : List TokB} (h : ReadsT w v l) (hl : l.length ≤ 1000000) (hs : ∀ t ∈ l, t.name.size ≤ 1000000) (hL : LaidT w) : Calls Tryz.prog 62 #[v] w (ReadR (l.map TokB.tok) w) := by
  have HR := Lib.hid h
  have HS := Lib.hid hs
  have HL := Lib.hid hL
  obtain ⟨ao, c, rfl, hc⟩ := h.form
  clear h hs hL
  rcases faultR_is (l.map TokB.tok) with ⟨p, q, h1, hq, h2⟩ | ⟨h1, t, h4, h5, h6⟩
  · have HA := Lib.hid h2
    have gq : (q != 0) = true := by rw [bne_iff_ne]; rcases hq with rfl | rfl <;> decide
    clear h2 hq
    go_enter Tryz.func62, Tryz.ntmps62
    go_wp2_with fail
    refine (kfault_any HR.out hl HS.out HL.out).mono ?_
    rintro e w1 ⟨rfl, hk1⟩
    rw [h1]
    have HK := Lib.hid hk1
    clear hk1 HR HS h1
    unfold checkV
    go_wp2
    go_ret3
    exact ⟨_, _, p, q, rfl, HA.out, readsX_nil _, HK.out⟩
  · have HB := Lib.hid h6
    have HT := Lib.hid h5
    have HO := Lib.hid h4
    clear h6 h4 h5
    go_enter Tryz.func62, Tryz.ntmps62
    go_wp2_with fail
    refine (kfault_any HR.out hl HS.out HL.out).mono ?_
    rintro e w1 ⟨rfl, hk1⟩
    rw [h1]
    have HK := Lib.hid hk1
    have HR1 := Lib.hid (HR.out.kept hk1)
    clear hk1 HR h1
    unfold checkV
    go_wp2_with fail
    refine (kpostfix_any HR1.out hl HO.out HT.out).mono ?_
    rintro e w2 ⟨v2, rfl, hx⟩
    have HX := Lib.hid (hx.base HK.out)
    clear hx HK HR1
    go_wp2
    go_ret3
    exact ⟨_, _, 0, 0, rfl, HB.out, HX.out.reads, HX.out.2⟩
set_option maxHeartbeats 4000000 in
theorem kparse_any (s : ByteArray) (w : World) (hs : s.size ≤ 1000000) (hL : LaidT w) : Calls Tryz.prog 33 #[.string s] w (ParseR (bs s) w) := by
  have HL := Lib.hid hL
  clear hL
  go_enter Tryz.func33, Tryz.ntmps33
  go_wp2_with fail
  refine (kallR s w hs HL.out).mono ?_
  rintro e w1 ⟨v1, m, p, q, rfl, hr, hk1, hi⟩
  have HK := Lib.hid hk1
  have HR := Lib.hid hr
  obtain ⟨ao, c, rfl, hc⟩ := hr.form
  have hlb : (toB m).length = m.length := by simp [toB]
  rw [hlb] at hc HR ⊢
  clear hr hk1
  rcases hi with ⟨h1, rfl, rfl⟩ | ⟨h1, rfl⟩
  · have HA := Lib.hid h1
    have HN := Lib.hid (all_names h1)
    clear h1
    go_wp2_with fail
    refine (kread_any HR.out (by rw [hlb]; have := HN.out.1; omega) HN.out.2 (HL.out.kept HK.out)).mono ?_
    rintro e w2 ⟨v2, x, p, q, rfl, hri, hx, hk2⟩
    rw [toB_tok] at hri
    have HI := Lib.hid hri
    have HX := Lib.hid (And.intro hx (HK.out.trans hk2))
    have HR2 := Lib.hid (HR.out.kept hk2)
    clear hri hx hk2 HR HN
    by_cases hq : q = 0
    · subst hq
      have HP : Hid (ParseIs (bs s) x 0 0) := Lib.hid (.inr ⟨m, p, HA.out, HI.out, by unfold placeS; rw [if_pos rfl]⟩)
      go_wp2
      go_ret3
      exact ⟨_, _, 0, 0, rfl, HP.out, HX.out.1, HX.out.2⟩
    · have gq : (q == 0) = false := by rw [beq_eq_false_iff_ne]; exact hq
      have HOX := Lib.hid (HI.out.other hq)
      have HPL : Hid (∀ n, n = placeS m (bs s).length p q → ParseIs (bs s) [] n q) := Lib.hid (fun n hn => .inr ⟨m, p, HA.out, by rw [← HOX.out.1]; exact HI.out, hn⟩)
      by_cases hp : p < m.length
      · have hpi : (p : Int) < (m.length : Int) := by omega
        obtain ⟨y, hy⟩ : ∃ y, m[p]? = some y := ⟨_, List.getElem?_eq_getElem hp⟩
        have HPP := Lib.hid (HPL.out y.2 (by unfold placeS; rw [if_neg hq, hy]))
        obtain ⟨ao', c', he, _, hcc⟩ := HR2.out
        rw [hlb] at he
        cases he
        obtain ⟨g, off, rfl, c0, c1, c2, c3⟩ := hcc p ⟨y.1.kind, strOf y.1.name, y.1.of, y.2⟩ (by unfold toB; rw [List.getElem?_map, hy]; rfl)
        clear hcc hq hy HPL c0 c1 c2
        go_wp2
        go_region
        all_goals
          go_wp2
          go_ret3
          exact ⟨_, _, y.2, q, rfl, HPP.out, readsX_nil _, HX.out.2.trans (Fr.of_drew _ _)⟩
      · have hpi : ¬ (p : Int) < (m.length : Int) := by omega
        have hy : m[p]? = none := List.getElem?_eq_none (by omega)
        by_cases h3 : q = 3
        · subst h3
          have HPP := Lib.hid (HPL.out 0 (by unfold placeS; rw [if_neg hq, hy]; rfl))
          clear hq hy HPL
          go_wp2
          go_ret3
          exact ⟨_, _, 0, 3, rfl, HPP.out, readsX_nil _, HX.out.2⟩
        · have g3 : (q == 3) = false := by rw [beq_eq_false_iff_ne]; exact h3
          have HPP := Lib.hid (HPL.out s.size (by unfold placeS; rw [if_neg hq, hy]; simp only []; rw [if_neg h3, bs_len]))
          clear hq hy HPL h3
          go_wp2
          go_ret3
          exact ⟨_, _, s.size, q, rfl, HPP.out, readsX_nil _, HX.out.2⟩
  · have HP : Hid (ParseIs (bs s) [] p q) := Lib.hid (.inl ⟨h1, rfl⟩)
    have gq : (q != 0) = true := by rw [bne_iff_ne]; rcases all_err2 h1 with rfl | rfl <;> decide
    clear h1
    go_wp2
    go_ret3
    exact ⟨_, _, p, q, rfl, HP.out, readsX_nil _, HK.out⟩

/-- parts that are laid one behind another -/
def flatE : List Ex → List Tok
  | [] => []
  | e :: r => e.post ++ flatE r
theorem flatE_append : ∀ a b : List Ex, flatE (a ++ b) = flatE a ++ flatE b
  | [], b => rfl
  | e :: r, b => by simp [flatE, flatE_append r b]
theorem flatE_one (e : Ex) : flatE [e] = e.post := by simp [flatE]
/-- how many are laid behind terms -/
def laidS : List Tok → Int
  | [] => 0
  | t :: r => (if t.kind = 1 then 1 else -1) + laidS r
theorem laid_append : ∀ a b : List Tok, laidS (a ++ b) = laidS a + laidS b
  | [], b => by simp [laidS]
  | t :: r, b => by simp only [List.cons_append, laidS, laid_append r b]; omega
theorem laid_post : ∀ {e : Ex}, e.Ok → laidS e.post = 1
  | .atom t, h => by simp [Ex.post, laidS, h.1]
  | .bin op a b, h => by
    have ia := laid_post h.2.1
    have ib := laid_post h.2.2.1
    have ho : ¬ op = 1 := by rintro rfl; exact h.1 rfl
    rw [Ex.post, laid_append, laid_append, ia, ib]
    simp only [laidS, opT, if_neg ho]
    omega
def AllOk (es : List Ex) : Prop := ∀ e ∈ es, e.Ok
theorem laid_flat : ∀ {es : List Ex}, AllOk es → laidS (flatE es) = es.length
  | [], _ => rfl
  | e :: r, h => by
    rw [flatE, laid_append, laid_post (h e (by simp)), laid_flat (fun x hx => h x (by simp [hx]))]
    simp only [List.length_cons]
    omega
theorem post_prefix : ∀ {e : Ex}, e.Ok → ∀ i, ∃ es, AllOk es ∧ e.post.take i = flatE es
  | .atom t, h, i => by
    cases i with
    | zero => exact ⟨[], fun _ hx => by simp at hx, rfl⟩
    | succ i => exact ⟨[.atom t], fun x hx => by simp at hx; subst hx; exact h, by simp [flatE, Ex.post]⟩
  | .bin op a b, h, i => by
    by_cases h1 : i ≤ a.post.length
    · obtain ⟨es, h2, h3⟩ := post_prefix h.2.1 i
      exact ⟨es, h2, by rw [Ex.post, List.take_append_of_le_length h1, h3]⟩
    · by_cases h4 : i ≤ a.post.length + b.post.length
      · obtain ⟨es, h2, h3⟩ := post_prefix h.2.2.1 (i - a.post.length)
        refine ⟨a :: es, fun x hx => ?_, ?_⟩
        · rcases List.mem_cons.1 hx with rfl | hx
          · exact h.2.1
          · exact h2 x hx
        · rw [Ex.post, List.take_append, List.take_of_length_le (by omega), List.take_append_of_le_length (by omega), h3]
          rfl
      · refine ⟨[.bin op a b], fun x hx => by simp at hx; subst hx; exact h, ?_⟩
        rw [List.take_of_length_le (by simp only [Ex.post, List.length_append, List.length_cons, List.length_nil]; omega)]
        simp [flatE]
theorem post_terms : ∀ {e : Ex}, e.Ok → ∀ t ∈ e.post, wordS t ≠ [] ∧ kbind t.kind ≠ 0
  | .atom u, h, t, ht => by
    simp [Ex.post] at ht
    subst ht
    exact ⟨h.2, by rw [h.1]; decide⟩
  | .bin op a b, h, t, ht => by
    simp only [Ex.post, List.mem_append, List.mem_cons, List.mem_nil_iff, or_false] at ht
    rcases ht with ht | ht | ht
    · exact post_terms h.2.1 t ht
    · exact post_terms h.2.2.1 t ht
    · subst ht
      exact ⟨opT_word (.inl h.1), by show kbind op ≠ 0; rw [kbind_op h.1]; exact h.1⟩
/-- the parts that terms have laid -/
structure Stk (L : List Tok) (k : Nat) (es : List Ex) : Prop where
  ok : AllOk es
  is : L.take k = flatE es
theorem stk_zero (L : List Tok) : Stk L 0 [] := ⟨fun _ h => by simp at h, rfl⟩
theorem take_snoc {L : List Tok} {k : Nat} {t : Tok} (ht : L[k]? = some t) : L.take (k + 1) = L.take k ++ [t] := by
  have hk := (List.getElem?_eq_some_iff.1 ht).1
  rw [List.take_succ_eq_append_getElem hk]
  congr 1
  rw [(List.getElem?_eq_some_iff.1 ht).2]
theorem stk_bad {L : List Tok} {k : Nat} {t : Tok} (ht : L[k]? = some t) (hb : wordS t = [] ∨ kbind t.kind = 0) (e : Ex) : ¬ MayIs L e := by
  rintro ⟨h1, h2, _⟩
  have := post_terms h1 t (by rw [← h2]; exact List.mem_of_getElem? ht)
  rcases hb with hb | hb
  · exact this.1 hb
  · exact this.2 hb
theorem Stk.atom {L : List Tok} {k : Nat} {t : Tok} {es : List Ex} (h : Stk L k es) (ht : L[k]? = some t) (hk : t.kind = 1) (hw : wordS t ≠ []) : Stk L (k + 1) (es ++ [.atom t]) :=
  ⟨fun x hx => by
    rcases List.mem_append.1 hx with hx | hx
    · exact h.ok x hx
    · simp at hx; subst hx; exact ⟨hk, hw⟩, by rw [take_snoc ht, h.is, flatE_append, flatE_one]; rfl⟩
/-- what a whole expression says of its beginning -/
theorem may_prefix {L : List Tok} {k : Nat} {t : Tok} {e : Ex} {es : List Ex} (h : Stk L k es) (hm : MayIs L e) (ht : L[k]? = some t) (hk : t.kind ≠ 1) :
    2 ≤ es.length ∧ ∃ q op b, t = opT op ∧ EndIs (L.take k) q b ∧ (op = 5 → ∃ u, b = .atom u ∧ u.of = 5) := by
  obtain ⟨h1, h2, _⟩ := hm
  obtain ⟨fs, h3, h4⟩ := post_prefix h1 (k + 1)
  rw [← h2, take_snoc ht] at h4
  have h5 := congrArg laidS h4
  rw [laid_append, h.is, laid_flat h.ok, laid_flat h3] at h5
  simp only [laidS, if_neg hk] at h5
  rcases List.eq_nil_or_concat fs with rfl | ⟨gs, f, rfl⟩
  · simp [flatE] at h4
  · have hl : (gs.concat f).length = gs.length + 1 := by simp
    rw [hl] at h5
    refine ⟨by omega, ?_⟩
    rw [List.concat_eq_append, flatE_append, flatE_one] at h4
    have hf : f.Ok := h3 f (by simp)
    have hE : EndIs (L.take k ++ [t]) (flatE gs) f := ⟨hf, h4⟩
    rcases hE.inv with ⟨h6, _⟩ | ⟨op, a, b, q, h6, _, h7, _, _, h8⟩
    · exact absurd h6.1 hk
    · exact ⟨q, op, b, h6, h7, h8⟩
theorem stk_few {L : List Tok} {k : Nat} {t : Tok} {es : List Ex} (h : Stk L k es) (ht : L[k]? = some t) (hk : t.kind ≠ 1) (hn : es.length < 2) (e : Ex) : ¬ MayIs L e := fun hm => by
  have := (may_prefix h hm ht hk).1
  omega
theorem stk_role {L : List Tok} {j : Nat} {t u : Tok} {es : List Ex} (h : Stk L (j + 1) es) (ht : L[j + 1]? = some t) (hu : L[j]? = some u) (hk : t.kind = 5) (ho : u.of ≠ 5) (e : Ex) : ¬ MayIs L e := fun hm => by
  obtain ⟨_, q, op, b, h1, h2, h3⟩ := may_prefix h hm ht (by rw [hk]; decide)
  have h5 : op = 5 := by have := congrArg Tok.kind h1; rw [hk] at this; exact this.symm
  obtain ⟨v, rfl, hv⟩ := h3 h5
  have := h2.is
  rw [take_snoc hu] at this
  simp only [Ex.post] at this
  obtain ⟨_, h6⟩ := List.append_inj' this rfl
  simp at h6
  rw [h6] at ho
  exact ho hv
theorem Stk.op {L : List Tok} {k : Nat} {t : Tok} {es : List Ex} (h : Stk L k es) (ht : L[k]? = some t) (hk : bindS t.kind ≠ 0) (hw : wordS t ≠ []) (hn : 2 ≤ es.length) (h5 : t.kind = 5 → ∃ j u, k = j + 1 ∧ L[j]? = some u ∧ u.of = 5) :
    ∃ es' a b, es = es' ++ [a, b] ∧ Stk L (k + 1) (es' ++ [.bin t.kind a b]) := by
  rcases List.eq_nil_or_concat es with rfl | ⟨fs, b, rfl⟩
  · simp at hn
  rcases List.eq_nil_or_concat fs with rfl | ⟨gs, a, rfl⟩
  · simp at hn
  have e0 : (gs.concat a).concat b = gs ++ [a, b] := by simp
  rw [e0] at h
  have hb : b.Ok := h.ok b (by simp)
  have ha : a.Ok := h.ok a (by simp)
  refine ⟨gs, a, b, e0, fun x hx => ?_, ?_⟩
  · rcases List.mem_append.1 hx with hx | hx
    · exact h.ok x (by simp [hx])
    · simp at hx
      subst hx
      refine ⟨hk, ha, hb, fun e5 => ?_⟩
      obtain ⟨j, u, rfl, hu, ho⟩ := h5 e5
      have h6 := h.is
      rw [take_snoc hu, flatE_append, show flatE [a, b] = a.post ++ b.post by simp [flatE], ← List.append_assoc] at h6
      have hE : EndIs (L.take j ++ [u]) (flatE gs ++ a.post) b := ⟨hb, h6⟩
      rcases hE.inv with ⟨h7, h8, _⟩ | ⟨op, a', b', q, h7, _⟩
      · exact ⟨u, h8, ho⟩
      · rw [h7] at ho; cases ho
  · rw [take_snoc ht, h.is, flatE_append, flatE_append, flatE_one, tok_op hw hk]
    simp [flatE, Ex.post, opT]
theorem Stk.done {L : List Tok} {k : Nat} {e : Ex} (h : Stk L k [e]) (hk : L.length ≤ k) (hl : L.length ≤ 200) : MayIs L e := by
  refine ⟨h.ok e (by simp), ?_, hl⟩
  have := h.is
  rw [List.take_of_length_le hk, flatE_one] at this
  exact this
theorem Stk.not {L : List Tok} {k : Nat} {es : List Ex} (h : Stk L k es) (hk : L.length ≤ k) (hn : es.length ≠ 1) (e : Ex) : ¬ MayIs L e := fun hm => by
  have h1 := h.is
  rw [List.take_of_length_le hk] at h1
  have h2 := laid_flat h.ok
  rw [← h1, hm.2.1, laid_post hm.1] at h2
  omega

open Go.RowKit Go.ChangeShapes Go.WideShapes
set_option maxRecDepth 20000
/-- the facts of a term's word, as the code asks for them -/
theorem word_yes {t : Tok} (h : wordS t = []) : (strOf (wordS t)).toList = [] ∧ (strOf (wordS t)).toList.isEmpty = true ∧ ((strOf (wordS t)).toList == []) = true := by
  have q1 : (strOf (wordS t)).toList = [] := by rw [bs_toList, bs_strOf]; exact h
  exact ⟨q1, by rw [q1]; rfl, by rw [q1]; rfl⟩
theorem word_not {t : Tok} (h : wordS t ≠ []) : ¬ (strOf (wordS t)).toList = [] ∧ (strOf (wordS t)).toList.isEmpty = false ∧ ((strOf (wordS t)).toList == []) = false := by
  have q1 : ¬ (strOf (wordS t)).toList = [] := by rw [bs_toList, bs_strOf]; exact h
  exact ⟨q1, by simpa using q1, by simpa using q1⟩
set_option maxHeartbeats 8000000 in
theorem kmayx_any {w : World} {v : Value} {l : List TrmB} (h : ReadsX w v l) (hl : l.length ≤ 1000000) (hs : ∀ t ∈ l, t.name.size ≤ 1000000) (hL : LaidT w) :
    Calls Tryz.prog 28 #[v] w (MayXPost (l.map TrmB.tok) w) := by
  obtain ⟨ao, c, rfl, _, hc⟩ := h
  have HC := Lib.hid hc
  have HS := Lib.hid hs
  have HL := Lib.hid hL
  have HM : Hid ((l.map TrmB.tok).length = l.length) := Lib.hid (by simp)
  have HG : Hid (∀ (k : Nat) (t : TrmB), l[k]? = some t → (l.map TrmB.tok)[k]? = some t.tok) := Lib.hid (fun k t ht => by rw [List.getElem?_map, ht]; rfl)
  clear hc hs hL
  generalize l.map TrmB.tok = L at *
  generalize hn : l.length = n at *
  have HN := Lib.hid hn
  clear hn
  by_cases h200 : 200 < n
  · have h2i : (200 : Int) < (n : Int) := by omega
    have HX : Hid (∀ e, ¬ MayIs L e) := Lib.hid (fun e h => by have := h.2.2; rw [HM.out] at this; omega)
    clear h200
    go_enter Tryz.func28, Tryz.ntmps28
    go_wp2
    go_ret
    exact ⟨Fr.refl _ _, .inr ⟨HX.out, rfl⟩⟩
  · have h2i : ¬ (200 : Int) < (n : Int) := by omega
    have H0 : Hid (Kept w w) := Lib.hid (Fr.refl _ _)
    have H1 := Lib.hid (stk_zero L)
    have HL200 : Hid (L.length ≤ 200) := Lib.hid (by rw [HM.out]; omega)
    clear h200
    go_enter Tryz.func28, Tryz.ntmps28
    go_wp2
    go_loopw [3, 11] (fun nv iv wr => ∃ (k m : Nat) (es : List Ex), nv = .int .i64 m ∧ iv = .int .i64 k ∧ k ≤ n ∧ m ≤ k ∧ Hid (Kept w wr) ∧ Hid (Stk L k es ∧ es.length = m)) (fun _ iv _ => n - (intOf iv).toNat)
    case atStart => exact ⟨0, 0, [], rfl, rfl, by omega, by omega, H0, Lib.hid ⟨H1.out, rfl⟩⟩
    case round =>
      obtain ⟨k, m, es, rfl, rfl, hk, hmk, hkr, hto⟩ := hrel
      clear H0 H1
      by_cases hlt : k < n
      · have hlti : (k : Int) < n := by omega
        obtain ⟨t, ht⟩ : ∃ t, l[k]? = some t := ⟨_, List.getElem?_eq_getElem (by have := HN.out; omega)⟩
        obtain ⟨g, off, rfl, d0, d1, d2⟩ := HC.out k t ht
        have hsz := HS.out t (List.mem_of_getElem? ht)
        have c0 := hkr.out.cell d0 (fun x => x)
        have c1 := hkr.out.cell d1 (fun x => x)
        have c2 := hkr.out.cell d2 (fun x => x)
        have HT := Lib.hid (HG.out k t ht)
        have HKA : Hid (Kept w (wr.alloc (.cells #[.int .i64 t.op, .int .i64 t.of, .string t.name] 52)) ∧ Thr3 (wr.alloc (.cells #[.int .i64 t.op, .int .i64 t.of, .string t.name] 52)) wr.heap.size (.int .i64 t.op) (.int .i64 t.of) (.string t.name)) := Lib.hid ⟨hkr.out.trans (Fr.of_alloc _ _ _), thr3_new _ _ _ _ _⟩
        have HB : Hid (∀ W, Calls Tryz.prog 51 #[.int .i64 t.op] W fun e w' => e = .returned (.int .i64 (kbind t.op : Nat)) ∧ W = w') := Lib.hid (fun W => kbinding_any t.op W)
        have HTO : Hid (∀ W, Calls Tryz.prog 53 #[.agg #[.int .i64 t.op, .int .i64 t.of, .string t.name]] W (KeptPost (.agg #[.int .i64 t.op, .string t.name, .int .i64 t.of, .int .i64 0]) W)) := Lib.hid (fun W => ktokof_any t.op t.of t.name W)
        have HW : Hid (∀ W, LaidT W → Calls Tryz.prog 52 #[.agg #[.int .i64 t.op, .string t.name, .int .i64 t.of, .int .i64 0]] W (KeptPost (.string (strOf (wordS t.tok))) W)) := Lib.hid (fun W hW => kword_any t.op t.name t.of 0 W hsz hW)
        clear ht d0 d1 d2
        by_cases hb : kbind t.op = 0
        · have HX : Hid (∀ e, ¬ MayIs L e) := Lib.hid (fun e => stk_bad HT.out (.inr hb) e)
          rw [hb] at HB
          clear hb
          go_wp2_with (go_at_call 51; refine (HB.out _).mono ?_; rintro e w' ⟨rfl, rfl⟩)
          go_ret
          exact ⟨HKA.out.1, .inr ⟨HX.out, rfl⟩⟩
        · have gb : (((kbind t.op : Nat) : Int) == 0) = false := by rw [beq_eq_false_iff_ne]; omega
          have HBN := Lib.hid hb
          clear hb
          generalize hbk : kbind t.op = bk at HB gb
          have HBK := Lib.hid hbk
          clear hbk
          go_wp2_with (go_at_call 51; refine (HB.out _).mono ?_; rintro e w' ⟨rfl, rfl⟩)
          refine (HTO.out _).mono ?_
          rintro e w2 ⟨rfl, hk2⟩
          have H2 : Hid (Kept w w2 ∧ Thr3 w2 wr.heap.size (.int .i64 t.op) (.int .i64 t.of) (.string t.name)) := Lib.hid ⟨HKA.out.1.trans hk2, HKA.out.2.kept hk2⟩
          clear hk2 HKA HTO
          generalize wr.heap.size = ga at H2 ⊢
          go_wp2_with fail
          refine (HW.out _ (HL.out.kept H2.out.1)).mono ?_
          rintro e w3 ⟨rfl, hk3⟩
          have H3 : Hid (Kept w w3 ∧ Thr3 w3 ga (.int .i64 t.op) (.int .i64 t.of) (.string t.name)) := Lib.hid ⟨H2.out.1.trans hk3, H2.out.2.kept hk3⟩
          clear hk3 H2 HW
          by_cases hw : wordS t.tok = []
          · have HX : Hid (∀ e, ¬ MayIs L e) := Lib.hid (fun e => stk_bad HT.out (.inl hw) e)
            obtain ⟨q1, q2, q3⟩ := word_yes hw
            clear hw
            go_wp2
            go_ret
            exact ⟨H3.out.1, .inr ⟨HX.out, rfl⟩⟩
          · obtain ⟨q1, q2, q3⟩ := word_not hw
            have HWN := Lib.hid hw
            have e0 := H3.out.2.c0
            clear hw
            by_cases k1 : t.op = 1
            · have g1 : (t.op == 1) = true := by simp [k1]
              have HN2 := Lib.hid (hto.out.1.atom HT.out k1 HWN.out)
              clear k1
              go_wp2
              go_roundw
              case rel => exact ⟨k + 1, m + 1, _, by go_num, by go_num, by omega, by omega, Lib.hid H3.out.1, Lib.hid ⟨HN2.out, by simp [hto.out.2]⟩⟩
              case measure => simp [intOf]; omega
            · have g1 : (t.op == 1) = false := by simp [k1]
              have HK1 := Lib.hid k1
              clear k1
              by_cases hm2 : m < 2
              · have hm2i : (m : Int) < 2 := by omega
                have HX : Hid (∀ e, ¬ MayIs L e) := Lib.hid (fun e => stk_few hto.out.1 HT.out HK1.out (by rw [hto.out.2]; exact hm2) e)
                go_wp2
                go_ret
                exact ⟨H3.out.1, .inr ⟨HX.out, rfl⟩⟩
              · have hm2i : ¬ (m : Int) < 2 := by omega
                have HBS : Hid (bindS t.op ≠ 0) := Lib.hid (by have := HBN.out; rwa [kbind_other HK1.out] at this)
                by_cases k5 : t.op = 5
                · have g5 : (t.op == 5) = true := by simp [k5]
                  obtain ⟨j, rfl⟩ : ∃ j, k = j + 1 := ⟨k - 1, by omega⟩
                  obtain ⟨u, hu⟩ : ∃ u, l[j]? = some u := ⟨_, List.getElem?_eq_getElem (by have := HN.out; omega)⟩
                  obtain ⟨g', off', he, _, d1, _⟩ := HC.out j u hu
                  cases he
                  have p1 := H3.out.1.cell d1 (fun x => x)
                  have HU := Lib.hid (HG.out j u hu)
                  have pz : (0 : Int) < ((j + 1 : Nat) : Int) := by omega
                  have pj : ((j + 1 : Nat) : Int) - 1 = (j : Int) := by omega
                  clear d1 hu
                  by_cases ho : u.of = 5
                  · have go5 : (u.of != 5) = false := by simp [ho]
                    have HN2 := Lib.hid (hto.out.1.op HT.out HBS.out HWN.out (by rw [hto.out.2]; omega) (fun _ => ⟨j, _, rfl, HU.out, ho⟩))
                    clear ho k5
                    go_wp2
                    go_roundw
                    case rel =>
                      obtain ⟨es', a, b, he, hst⟩ := HN2.out
                      exact ⟨j + 1 + 1, m - 1, _, by go_num, by go_num, by omega, by omega, Lib.hid H3.out.1, Lib.hid ⟨hst, by have := hto.out.2; rw [he] at this; simp at this ⊢; omega⟩⟩
                    case measure => simp [intOf]; omega
                  · have go5 : (u.of != 5) = true := by simp [ho]
                    have HX : Hid (∀ e, ¬ MayIs L e) := Lib.hid (fun e => stk_role hto.out.1 HT.out HU.out k5 ho e)
                    clear ho k5
                    go_wp2
                    go_ret
                    exact ⟨H3.out.1, .inr ⟨HX.out, rfl⟩⟩
                · have g5 : (t.op == 5) = false := by simp [k5]
                  have HN2 := Lib.hid (hto.out.1.op HT.out HBS.out HWN.out (by rw [hto.out.2]; omega) (fun h => absurd h k5))
                  clear k5
                  go_wp2
                  go_roundw
                  case rel =>
                    obtain ⟨es', a, b, he, hst⟩ := HN2.out
                    exact ⟨k + 1, m - 1, _, by go_num, by go_num, by omega, by omega, Lib.hid H3.out.1, Lib.hid ⟨hst, by have := hto.out.2; rw [he] at this; simp at this ⊢; omega⟩⟩
                  case measure => simp [intOf]; omega
      · have hlti : ¬ (k : Int) < n := by omega
        by_cases h1 : m = 1
        · have g1 : ((m : Int) == 1) = true := by rw [beq_iff_eq]; omega
          have HY : Hid (∃ e, MayIs L e) := Lib.hid (by
            have h2 := hto.out
            match es, h2 with
            | [e], h2 => exact ⟨e, h2.1.done (by rw [HM.out]; omega) HL200.out⟩
            | [], h2 => have := h2.2; simp at this; omega
            | a :: b :: r, h2 => have := h2.2; simp at this; omega)
          go_wp2
          go_ret
          exact ⟨hkr.out, .inl (by obtain ⟨e, he⟩ := HY.out; exact ⟨e, he, rfl⟩)⟩
        · have g1 : ((m : Int) == 1) = false := by rw [beq_eq_false_iff_ne]; omega
          have HX : Hid (∀ e, ¬ MayIs L e) := Lib.hid (fun e => hto.out.1.not (by rw [HM.out]; omega) (by rw [hto.out.2]; exact h1) e)
          go_wp2
          go_ret
          exact ⟨hkr.out, .inr ⟨HX.out, rfl⟩⟩

open Go.RowKit Go.ChangeShapes Go.WideShapes
theorem own_some {w : World} {base n size : Nat} {e : TypeId} {v : Value} {xs : List Value} (h : w.ownsRow base e size v n xs) (hn : n ≠ 0) : ∃ g cap, v = .slice (some ⟨g, 0, none⟩) n cap ∧ n ≤ cap := by
  rcases h.2 with ⟨rfl, h0⟩ | ⟨g, cap, cur, rfl, hb, h4, h5, _⟩
  · exact absurd h0 hn
  · exact ⟨g, cap, rfl, h5⟩
theorem own_at1 {w : World} {base n g cap i : Nat} {e : TypeId} {u : Value} {xs : List Value} (h : w.ownsRow base e 1 (.slice (some ⟨g, 0, none⟩) n cap) n xs) (hu : xs[i]? = some u) : w.cell? ⟨g, i, none⟩ = some u := by
  rcases h.2 with ⟨h0, _⟩ | ⟨g', cap', cur, hv, hb, h4, h5, h6, h7, h8⟩
  · cases h0
  · cases hv
    rw [cell_whole h4]
    rw [← h8, List.getElem?_take] at hu
    split at hu
    · simpa using hu
    · cases hu
/-- a row cut short -/
theorem own_cut1 {w : World} {base g n cap k : Nat} {e : TypeId} {xs : List Value} (h : w.ownsRow base e 1 (.slice (some ⟨g, 0, none⟩) n cap) n xs) (hk : k ≤ n) :
    w.ownsRow base e 1 (.slice (some ⟨g, 0, none⟩) k cap) k (xs.take k) := by
  have hl := h.1
  rcases h.2 with ⟨hv, _⟩ | ⟨g', cap', cur, hv, hb, hg, hn, hm, hs, ht⟩
  · cases hv
  · cases hv
    refine ⟨by rw [List.length_take]; omega, .inr ⟨g, cap, cur, rfl, hb, hg, by omega, hm, hs, ?_⟩⟩
    rw [← ht, List.take_take]
    congr 1
    omega
theorem Stk.op_may {L : List Tok} {k : Nat} {t : Tok} {e : Ex} {es : List Ex} (h : Stk L k es) (hm : MayIs L e) (ht : L[k]? = some t) (hk : t.kind ≠ 1) :
    ∃ es' a b, es = es' ++ [a, b] ∧ Stk L (k + 1) (es' ++ [.bin t.kind a b]) := by
  obtain ⟨h1, q, op, b, h2, h3, h4⟩ := may_prefix h hm ht hk
  have h5 := post_terms hm.1 t (by rw [← hm.2.1]; exact List.mem_of_getElem? ht)
  refine h.op ht (by have := h5.2; rwa [kbind_other hk] at this) h5.1 h1 (fun e5 => ?_)
  have e6 : op = 5 := by have := congrArg Tok.kind h2; rw [e5] at this; exact this.symm
  obtain ⟨u, rfl, ho⟩ := h4 e6
  have hkl := (List.getElem?_eq_some_iff.1 ht).1
  have h6 := h3.is
  simp only [Ex.post] at h6
  have h7 := congrArg List.length h6
  simp only [List.length_take, List.length_append, List.length_cons, List.length_nil] at h7
  refine ⟨q.length, u, by omega, ?_, ho⟩
  have h8 : (L.take k)[q.length]? = some u := by rw [h6]; simp
  rw [List.getElem?_take] at h8
  split at h8
  · exact h8
  · cases h8
theorem Stk.one {L : List Tok} {k : Nat} {e : Ex} {es : List Ex} (h : Stk L k es) (hm : MayIs L e) (hk : L.length ≤ k) : ∃ f, es = [f] ∧ MayIs L f := by
  have h1 := h.is
  rw [List.take_of_length_le hk] at h1
  have h2 := laid_flat h.ok
  rw [← h1, hm.2.1, laid_post hm.1] at h2
  match es, h, h2 with
  | [], _, h2 => simp at h2
  | [f], h, _ => exact ⟨f, rfl, h.done hk hm.2.2⟩
  | a :: b :: r, _, h2 => simp at h2; omega

end Go.Proofs.YtbfealhbdemhmaaGreatDoor
