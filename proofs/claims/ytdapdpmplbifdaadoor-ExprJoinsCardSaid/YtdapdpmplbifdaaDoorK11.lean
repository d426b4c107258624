/- Contracts and lemmas: K11 -/
import Derived.Test.YtdapdpmplbifdaaDoorK10
namespace Go.Proofs.YtdapdpmplbifdaaDoor
set_option linter.unusedVariables false
set_option linter.unusedSimpArgs false
open Go.RowKit Go.ChangeShapes Go.WideShapes
set_option maxRecDepth 20000
def WritePost (w : World) (B bx bl bw : Nat) (ao : Option Addr) (c : Nat) (W : World) (k : Nat) (M : List Tok) (lv : Value) (y : List Tok) (e : Ending) (W' : World) : Prop :=
  ∃ lv', e = .returned (.tuple #[]) ∧ WS w B bx bl bw ao c W' k (M ++ y) lv' ∧ Mv (CX bx bl) lv lv' W W'
set_option maxHeartbeats 8000000 in
theorem kwrite_any {w : World} {l : List TrmB} {ao : Option Addr} {n c B bx bl bw : Nat} (hl : l.length ≤ 1000000) (hA : Apart3 w B bx bl bw) (hR : ReadsX w (.slice ao n c) l) :
    ∀ (m : Nat) (e : Ex) (v : Nat) (p : List Tok) (W : World) (M : List Tok) (lv : Value), e.post.length ≤ m → e.Ok → 1 ≤ v → v ≤ 5 → (l.map TrmB.tok).take (p.length + e.post.length) = p ++ e.post → M.length + 3 * e.post.length ≤ 1000 → WS w B bx bl bw ao c W (p.length + e.post.length) M lv →
    Calls Tryd.prog 31 #[.int .i64 (v : Int), .pointer (some ⟨bx, 0, none⟩), .pointer (some ⟨bl, 0, none⟩), .pointer (some ⟨bw, 0, none⟩)] W (WritePost w B bx bl bw ao c W p.length M lv (canS v e).toks.reverse) := by
  intro m
  induction m with
  | zero =>
    intro e v p W M lv hm
    have := List.length_pos_iff.2 e.post_ne
    omega
  | succ m ih =>
    intro e v p W M lv hm hok hv1 hv5 hd hM hws
    have HIH := Lib.hid ih
    have HA := Lib.hid hA
    have HS := Lib.hid hws
    have HMX := Lib.hid hM
    have HD := Lib.hid hd
    obtain ⟨y, u, hyu⟩ := post_last e
    have HYU := Lib.hid hyu
    have hj : p.length + e.post.length = (p ++ y).length + 1 := by rw [hyu]; simp; omega
    obtain ⟨ao', c', he, hnc, hc⟩ := hR
    have hnl : n = l.length := by cases he; rfl
    have HC : Hid (∀ (k : Nat) (t : TrmB), l[k]? = some t → ∃ g off, ao = some ⟨g, off, none⟩ ∧ w.cell? ⟨g, off + k * 3, none⟩ = some (.int .i64 t.op) ∧ w.cell? ⟨g, off + k * 3 + 1, none⟩ = some (.int .i64 t.of) ∧ w.cell? ⟨g, off + k * 3 + 2, none⟩ = some (.string t.name)) := Lib.hid (by cases he; exact hc)
    have hcap : n ≤ c := by cases he; exact hnc
    have hd2 : (l.map TrmB.tok).take ((p ++ y).length + 1) = (p ++ y) ++ [u] := by rw [← hj, hd, hyu]; simp
    have hul : (l.map TrmB.tok)[(p ++ y).length]? = some u := by
      have h1 : ((l.map TrmB.tok).take ((p ++ y).length + 1))[(p ++ y).length]? = some u := by rw [hd2]; simp
      rw [List.getElem?_take] at h1
      split at h1
      · exact h1
      · cases h1
    have htk : (l.map TrmB.tok).take (p ++ y).length = p ++ y := by
      have := congrArg (List.take (p ++ y).length) hd2
      rw [List.take_take, List.take_left, Nat.min_eq_left (by omega)] at this
      exact this
    have HTK := Lib.hid htk
    obtain ⟨t, ht, rfl⟩ : ∃ t, l[(p ++ y).length]? = some t ∧ t.tok = u := by
      rw [List.getElem?_map] at hul
      cases hx : l[(p ++ y).length]? with
      | none => rw [hx] at hul; cases hul
      | some t => rw [hx] at hul; cases hul; exact ⟨t, rfl, rfl⟩
    obtain ⟨g, off, rfl, d0, d1, d2⟩ := HC.out _ t ht
    have hjn : (p ++ y).length < n := by rw [hnl]; exact (List.getElem?_eq_some_iff.1 ht).1
    have e0 := HS.out.kept.cell d0 (fun x => x)
    have e1 := HS.out.kept.cell d1 (fun x => x)
    have e2 := HS.out.kept.cell d2 (fun x => x)
    have cx := HS.out.xx.cell
    have cxa := fun o => (HS.out.later (Fr.of_alloc _ W o)).xx.cell
    have fxa := fun o => (HS.out.later (Fr.of_alloc _ W o)).xx.fz
    rw [hj] at cx cxa
    have hop : t.op = t.tok.kind := rfl
    have hkb : kbind t.op = e.lvl := by
      rw [hop]
      cases e with
      | atom a =>
        have h1 : [] ++ [a] = y ++ [t.tok] := by simpa [Ex.post] using hyu
        obtain ⟨_, h2⟩ := List.append_inj' h1 rfl
        simp at h2
        subst h2
        rw [hok.1]
        rfl
      | bin op a b =>
        have h1 : (a.post ++ b.post) ++ [opT op] = y ++ [t.tok] := by simpa [Ex.post] using hyu
        obtain ⟨_, h2⟩ := List.append_inj' h1 rfl
        simp at h2
        rw [← h2]
        show kbind op = bindS op
        exact kbind_op hok.1
    have HB : Hid (∀ W, Calls Tryd.prog 32 #[.int .i64 t.op] W fun e' w' => e' = .returned (.int .i64 (e.lvl : Nat)) ∧ W = w') := Lib.hid (fun W => by rw [← hkb]; exact kbinding_any t.op W)
    have HK1 : Hid ((t.op = 1 ∧ e = .atom t.tok) ∨ (t.op ≠ 1 ∧ ∃ op a b, e = .bin op a b ∧ t.tok = opT op ∧ y = a.post ++ b.post)) := Lib.hid (by
      cases e with
      | atom a =>
        left
        have h1 : [] ++ [a] = y ++ [t.tok] := by simpa [Ex.post] using hyu
        obtain ⟨_, h2⟩ := List.append_inj' h1 rfl
        simp at h2
        exact ⟨by rw [hop, ← h2]; exact hok.1, by rw [h2]⟩
      | bin op a b =>
        right
        have h1 : (a.post ++ b.post) ++ [opT op] = y ++ [t.tok] := by simpa [Ex.post] using hyu
        obtain ⟨h3, h2⟩ := List.append_inj' h1 rfl
        simp at h2
        have h4 : t.op = op := by rw [hop, ← h2]; rfl
        refine ⟨?_, op, a, b, rfl, h2.symm, h3.symm⟩
        rw [h4]
        rintro rfl
        exact hok.1 rfl)
    have hl5 : e.lvl ≤ 5 := by
      cases e with
      | atom a => exact Nat.le_refl _
      | bin op a b => have := bind_le op; simp only [Ex.lvl]; omega
    have HJL : Hid ((p ++ y).length + 1 = p.length + e.post.length) := Lib.hid hj.symm
    have hj6 : (p ++ y).length ≤ 1000000 := by omega
    have HJP : Hid ((p ++ y).length = p.length + y.length) := Lib.hid (by simp)
    clear ih hA hws hd he hc hnc hyu hd2 hul htk ht hop hkb d0 d1 d2 hM
    generalize hjj : (p ++ y).length = j at *
    have HJJ := Lib.hid hjj
    have pj : ((j + 1 : Nat) : Int) - 1 = (j : Int) := by omega
    have pt : (j : Int).toNat = j := by omega
    have pl : (j : Int) < ((j + 1 : Nat) : Int) := by omega
    have pc : (j : Int) ≤ (c : Int) := by omega
    have p0 : (0 : Int) ≤ (j : Int) := by omega
    have pcn : j ≤ c := by omega
    clear hjj hj
    go_enter Tryd.func31, Tryd.ntmps31
    go_upto_region 2 with fail
    have H1 : Hid (WS w B bx bl bw (some ⟨g, off, none⟩) c ((W.alloc (.cells #[.int .i64 t.op, .int .i64 t.of, .string t.name] 45)).setCell ⟨bx, 0, none⟩ (.slice (some ⟨g, off, none⟩) j c)) j M lv ∧
        Thr3 ((W.alloc (.cells #[.int .i64 t.op, .int .i64 t.of, .string t.name] 45)).setCell ⟨bx, 0, none⟩ (.slice (some ⟨g, off, none⟩) j c)) W.heap.size (.int .i64 t.op) (.int .i64 t.of) (.string t.name) ∧
        Mv (CX bx bl) lv lv W ((W.alloc (.cells #[.int .i64 t.op, .int .i64 t.of, .string t.name] 45)).setCell ⟨bx, 0, none⟩ (.slice (some ⟨g, off, none⟩) j c))) := Lib.hid
      ⟨(HS.out.later (Fr.of_alloc _ _ _)).step HA.out j, (thr3_new _ _ _ _ _).fr (Fr.of_setCell _ _ _) (by have := HS.out.xx.lt; show ¬ W.heap.size = bx; omega), (Mv.of_kept (Fr.of_alloc _ _ _)).trans (Mv.of_set (.inl rfl))⟩
    have HG5 : Hid (lv.ownBlock ≠ some W.heap.size ∧ ¬ CX bx bl W.heap.size) := Lib.hid ⟨fun h => by have := (HS.out.own h).2; omega, fun h => by have := HS.out.xx.lt; have := HS.out.ll.lt; rcases h with h | h <;> omega⟩
    clear cx cxa fxa e0 e1 e2 HS
    generalize (W.alloc (.cells #[.int .i64 t.op, .int .i64 t.of, .string t.name] 45)).setCell ⟨bx, 0, none⟩ (.slice (some ⟨g, off, none⟩) j c) = W1 at H1 ⊢
    generalize W.heap.size = g5 at H1 HG5 ⊢
    have HT3 : Hid (∀ lv' wx, Mv (CX bx bl) lv lv' W1 wx → Thr3 wx g5 (.int .i64 t.op) (.int .i64 t.of) (.string t.name)) := Lib.hid (fun lv' wx h => H1.out.2.1.fr h.fr (fun x => x.elim HG5.out.2 HG5.out.1))
    have HLN : Hid (∀ k, k ≤ 1000 → k + 1 ≤ maxLen ∧ (k + 1) * 40 ≤ 140737488355328) := Lib.hid (fun k hk => ⟨by unfold maxLen; omega, by omega⟩)
    have HTO : Hid (∀ W, Calls Tryd.prog 33 #[.agg #[.int .i64 t.op, .int .i64 t.of, .string t.name]] W (KeptPost (.agg #[.int .i64 t.op, .string t.name, .int .i64 t.of, .int .i64 0]) W)) := Lib.hid (fun W => ktokof_any t.op t.of t.name W)
    generalize hlv : e.lvl = lvl at *
    have HLV := Lib.hid hlv
    clear hlv
    have hwb : IntKind.i64.wrap ((lvl : Int) + 1) = (lvl : Int) + 1 := IntWalk.i64_in _ (by omega)
    have t0 := H1.out.2.1.c0
    go_upto_if 23 with (go_at_call 32; refine (HB.out _).mono ?_; rintro e' w' ⟨rfl, rfl⟩)
    go_cut [23] (fun _ wx => ∃ lv1, Hid (WS w B bx bl bw (some ⟨g, off, none⟩) c wx j (M ++ (if lvl < v then [opT 7] else [])) lv1 ∧ Mv (CX bx bl) lv lv1 W1 wx))
    case first =>
      by_cases hp : lvl < v
      · have hpi : (lvl : Int) < (v : Int) := by omega
        have HIF : Hid ((if lvl < v then [opT 7] else []) = [opT 7]) := Lib.hid (if_pos hp)
        have cl := H1.out.1.ll.cell
        have HML : Hid (M.length ≤ 1000) := Lib.hid (by have := HMX.out; omega)
        clear hp
        go_wp2_with (at_builtin; refine list_app rfl (.tmp 24) (.tmp 26) 29 29 rfl Tryd.sliceT rfl (own_kept H1.out.1.row (Fr.of_alloc _ _ _)) rfl (src_four (a := .int .i64 7) (b := .string ⟨#[]⟩) (c := .int .i64 0) (d := .int .i64 0) Tryd.underlying29 (heap_alloc_new _ _) rfl rfl rfl rfl) (HLN.out _ HML.out).1 (HLN.out _ HML.out).2 (Nat.le_trans H1.out.1.hB (Fr.of_alloc (fun _ => False) _ _).size) ?_; intro v1 w3 hq; obtain ⟨a1, k1, hv1, _⟩ := own_slice hq.1; subst hv1; have HQ := Lib.hid hq; have fz1 := ((H1.out.1.later (Fr.of_alloc _ _ _)).box HA.out hq).fz; have cz1 := ((H1.out.1.later (Fr.of_alloc _ _ _)).box HA.out hq).cell; clear hq)
        go_meet
        case rel =>
          have hq := H1.out.1.push HA.out (Mv.of_kept (C := CX bx bl) (v := lv) (Fr.refl _ W1)) (Fr.of_alloc _ _ _) (t := opT 7) HQ.out
          exact ⟨_, Lib.hid (by rw [HIF.out]; exact hq)⟩
      · have hpi : ¬ (lvl : Int) < (v : Int) := by omega
        have HIF : Hid ((if lvl < v then [opT 7] else []) = []) := Lib.hid (if_neg hp)
        clear hp
        go_wp2
        go_meet
        case rel => exact ⟨lv, Lib.hid (by rw [HIF.out, List.append_nil]; exact ⟨H1.out.1, Mv.of_kept (Fr.refl _ W1)⟩)⟩
    case rest =>
    obtain ⟨lv1, hcut⟩ := hcut
    have H2 : Hid (WS w B bx bl bw (some ⟨g, off, none⟩) c wc j (M ++ (if lvl < v then [opT 7] else [])) lv1 ∧ Mv (CX bx bl) lv lv1 W1 wc) := hcut
    have HM1 : Hid ((M ++ (if lvl < v then [opT 7] else [])).length ≤ M.length + 1) := Lib.hid (by rw [List.length_append]; split <;> simp)
    clear hcut t0
    generalize hM1 : M ++ (if lvl < v then [opT 7] else []) = M1 at *
    have HM1E := Lib.hid hM1
    clear hM1
    have s0 := (HT3.out _ _ H2.out.2).c0
    rcases HK1.out with ⟨k1, hea⟩ | ⟨k1, op, a, b, heb, htop, hyab⟩
    · have g1 : (t.op != 1) = false := by simp [k1]
      have HEA := Lib.hid hea
      have HLE : Hid (M1.length ≤ 1000) := Lib.hid (by
        have h1 := HM1.out
        have h2 := HMX.out
        rw [hea] at h2
        simp only [Ex.post, List.length_cons, List.length_nil] at h2
        omega)
      clear hea k1
      go_upto_region 7 with fail
      obtain ⟨wb, hwb2⟩ : ∃ wb, wb = wc := ⟨_, rfl⟩
      subst hwb2
      have cl7 := H2.out.1.ll.cell
      have q0 := (HT3.out _ _ H2.out.2).c0
      have q1 := (HT3.out _ _ H2.out.2).c1
      have q2 := (HT3.out _ _ H2.out.2).c2
      go_cut [39] (fun _ wx => ∃ lv3, Hid (WS w B bx bl bw (some ⟨g, off, none⟩) c wx j (M1 ++ [t.tok]) lv3 ∧ Mv (CX bx bl) lv lv3 W1 wx))
      case first =>
        go_region_law (first
          | (refine step_app rfl (.tmp 35) (.tmp 38) 29 29 rfl Tryd.sliceT rfl (own_kept H2.out.1.row (HK9.out.trans (Fr.of_alloc _ _ _))) rfl (src_four Tryd.underlying29 (heap_alloc_new _ _) rfl rfl rfl rfl) (HLN.out _ HLE.out).1 (HLN.out _ HLE.out).2 (Nat.le_trans H2.out.1.hB (HK9.out.trans (Fr.of_alloc _ _ _)).size) ?_; intro v1 w1 hp1; obtain ⟨a1, k1, hv1, _⟩ := own_slice hp1.1; subst hv1; have HP := Lib.hid hp1; have fz1 := ((H2.out.1.later (HK9.out.trans (Fr.of_alloc _ _ _))).box HA.out hp1).fz; have cz1 := ((H2.out.1.later (HK9.out.trans (Fr.of_alloc _ _ _))).box HA.out hp1).cell; clear hp1)
          | (go_simp; go_at_call 33; refine (HTO.out _).mono ?_; rintro e' w9 ⟨rfl, hk9⟩; have HK9 := Lib.hid ((Fr.of_drew (fun _ => False) _).trans hk9); have c9 := (H2.out.1.later HK9.out).ll.cell; have c9a := fun o => (H2.out.1.later (HK9.out.trans (Fr.of_alloc _ w9 o))).ll.cell; clear hk9; dsimp only))
        all_goals
          go_wp2_with fail
          go_meet
          case rel =>
            have hq := H2.out.1.push HA.out H2.out.2 (HK9.out.trans (Fr.of_alloc _ _ _)) (t := t.tok) (by show AppPost _ _ _ _ _ _ (_ ++ [.int .i64 t.op, .string (strOf (bs t.name)), .int .i64 t.of, .int .i64 0]) _ _; rw [strOf_bs]; exact HP.out)
            exact ⟨_, Lib.hid hq⟩
      case rest =>
      clear s0
      obtain ⟨lv3, hcut⟩ := hcut
      have H4 : Hid (WS w B bx bl bw (some ⟨g, off, none⟩) c wc j (M1 ++ [t.tok]) lv3 ∧ Mv (CX bx bl) lv lv3 W1 wc) := hcut
      clear hcut cl7 q0 q1 q2
      have s0 := (HT3.out _ _ H4.out.2).c0
      by_cases hp : lvl < v
      · exact absurd hp (by have := HLV.out; rw [HEA.out] at this; simp only [Ex.lvl] at this; omega)
      · have hpi : ¬ (lvl : Int) < (v : Int) := by omega
        have HFIN : Hid (M ++ (canS v e).toks.reverse = M1 ++ [t.tok] ∧ p.length = j) := Lib.hid ⟨by
          rw [HEA.out, ← HM1E.out, if_neg hp]
          simp [canS, PT.toks], by
          have h1 := HYU.out
          rw [HEA.out] at h1
          have h2 := congrArg List.length h1
          simp only [Ex.post, List.length_append, List.length_cons, List.length_nil] at h2
          have := HJP.out
          omega⟩
        clear hp
        go_wp2
        go_end0
        exact ⟨_, rfl, by rw [HFIN.out.1, HFIN.out.2]; exact H4.out.1, H1.out.2.2.trans H4.out.2⟩
    · have g1 : (t.op != 1) = true := by simp [k1]
      have HEB := Lib.hid heb
      have HTOP := Lib.hid htop
      have hbo : (Ex.bin op a b).Ok := by rw [← heb]; exact hok
      have hlo : lvl = bindS op := by rw [← HLV.out, heb]; rfl
      have HLO := Lib.hid hlo
      have hb4 := bind_le op
      have hbn : bindS op ≠ 0 := hbo.1
      have hpl : e.post.length = a.post.length + b.post.length + 1 := by rw [heb]; simp [Ex.post]; omega
      have HPL := Lib.hid hpl
      have hj1 : j = (p ++ a.post).length + b.post.length := by rw [← HJJ.out, hyab]; simp; omega
      have HJ1 := Lib.hid hj1
      have hta : (canS lvl a).toks.length ≤ 2 * a.post.length := by have h1 := PT.len (canS lvl a); have h2 := can_cnt2 a lvl; have h3 := atoms_post a; rw [can_ex] at h1; omega
      have htb : (canS (lvl + 1) b).toks.length ≤ 2 * b.post.length := by have h1 := PT.len (canS (lvl + 1) b); have h2 := can_cnt2 b (lvl + 1); have h3 := atoms_post b; rw [can_ex] at h1; omega
      have HTA := Lib.hid hta
      have HTB := Lib.hid htb
      have HCB : Hid (Calls Tryd.prog 31 #[.int .i64 ((lvl : Int) + 1), .pointer (some ⟨bx, 0, none⟩), .pointer (some ⟨bl, 0, none⟩), .pointer (some ⟨bw, 0, none⟩)] wc (WritePost w B bx bl bw (some ⟨g, off, none⟩) c wc (p ++ a.post).length M1 lv1 (canS (lvl + 1) b).toks.reverse)) := Lib.hid (by
        have := HIH.out b (lvl + 1) (p ++ a.post) wc M1 lv1 (by omega) hbo.2.2.1 (by omega) (by omega) (by rw [← hj1, HTK.out, hyab]; simp) (by have := HM1.out; have := HMX.out; omega) (by rw [← hj1]; exact H2.out.1)
        rw [show ((lvl + 1 : Nat) : Int) = (lvl : Int) + 1 by omega] at this
        exact this)
      have HCA : Hid (∀ W2 M2 lv2, M2.length ≤ M.length + 2 + 2 * b.post.length → WS w B bx bl bw (some ⟨g, off, none⟩) c W2 (p ++ a.post).length M2 lv2 → Calls Tryd.prog 31 #[.int .i64 (lvl : Int), .pointer (some ⟨bx, 0, none⟩), .pointer (some ⟨bl, 0, none⟩), .pointer (some ⟨bw, 0, none⟩)] W2 (WritePost w B bx bl bw (some ⟨g, off, none⟩) c W2 p.length M2 lv2 (canS lvl a).toks.reverse)) := Lib.hid (fun W2 M2 lv2 hm2 hw2 =>
        HIH.out a lvl p W2 M2 lv2 (by omega) hbo.2.1 (by omega) (by omega) (by
          have h1 := congrArg (List.take (p.length + a.post.length)) HTK.out
          rw [List.take_take, Nat.min_eq_left (by rw [hj1]; simp)] at h1
          rw [h1, hyab, ← List.append_assoc, List.take_append_of_le_length (by simp), ← List.length_append, List.take_length]) (by have := HMX.out; omega) (by rw [← List.length_append]; exact hw2))
      have cf := H2.out.1.ff.cell
      clear heb htop hyab k1 hbo hlo hb4 hbn hpl hj1 hta htb
      go_wp2_with fail
      refine HCB.out.mono ?_
      rintro e' w3 ⟨lv2, rfl, hw3, hm3⟩
      have H3 := Lib.hid (And.intro hw3 (H2.out.2.trans hm3))
      have HM2 : Hid ((M1 ++ (canS (lvl + 1) b).toks.reverse).length ≤ M.length + 1 + 2 * b.post.length) := Lib.hid (by have := HM1.out; have := HTB.out; rw [List.length_append, List.length_reverse]; omega)
      clear hw3 hm3 s0 cf HCB
      generalize hM2 : M1 ++ (canS (lvl + 1) b).toks.reverse = M2 at *
      have HM2E := Lib.hid hM2
      clear hM2
      have HLE : Hid (M2.length ≤ 1000) := Lib.hid (by have := HM2.out; have := HMX.out; have := HPL.out; omega)
      go_upto_region 7 with fail
      have cl7 := H3.out.1.ll.cell
      have q0 := (HT3.out _ _ H3.out.2).c0
      have q1 := (HT3.out _ _ H3.out.2).c1
      have q2 := (HT3.out _ _ H3.out.2).c2
      go_cut [39] (fun _ wx => ∃ lv3, Hid (WS w B bx bl bw (some ⟨g, off, none⟩) c wx (p ++ a.post).length (M2 ++ [t.tok]) lv3 ∧ Mv (CX bx bl) lv lv3 W1 wx))
      case first =>
        go_region_law (first
          | (refine step_app rfl (.tmp 35) (.tmp 38) 29 29 rfl Tryd.sliceT rfl (own_kept H3.out.1.row (HK9.out.trans (Fr.of_alloc _ _ _))) rfl (src_four Tryd.underlying29 (heap_alloc_new _ _) rfl rfl rfl rfl) (HLN.out _ HLE.out).1 (HLN.out _ HLE.out).2 (Nat.le_trans H3.out.1.hB (HK9.out.trans (Fr.of_alloc _ _ _)).size) ?_; intro v1 w1 hp1; obtain ⟨a1, k1, hv1, _⟩ := own_slice hp1.1; subst hv1; have HP := Lib.hid hp1; have fz1 := ((H3.out.1.later (HK9.out.trans (Fr.of_alloc _ _ _))).box HA.out hp1).fz; have cz1 := ((H3.out.1.later (HK9.out.trans (Fr.of_alloc _ _ _))).box HA.out hp1).cell; clear hp1)
          | (go_simp; go_at_call 33; refine (HTO.out _).mono ?_; rintro e' w9 ⟨rfl, hk9⟩; have HK9 := Lib.hid ((Fr.of_drew (fun _ => False) _).trans hk9); have c9 := (H3.out.1.later HK9.out).ll.cell; have c9a := fun o => (H3.out.1.later (HK9.out.trans (Fr.of_alloc _ w9 o))).ll.cell; clear hk9; dsimp only))
        all_goals
          go_wp2_with fail
          go_meet
          case rel =>
            have hq := H3.out.1.push HA.out H3.out.2 (HK9.out.trans (Fr.of_alloc _ _ _)) (t := t.tok) (by show AppPost _ _ _ _ _ _ (_ ++ [.int .i64 t.op, .string (strOf (bs t.name)), .int .i64 t.of, .int .i64 0]) _ _; rw [strOf_bs]; exact HP.out)
            exact ⟨_, Lib.hid hq⟩
      case rest =>
      obtain ⟨lv3, hcut⟩ := hcut
      have H4 : Hid (WS w B bx bl bw (some ⟨g, off, none⟩) c wc (p ++ a.post).length (M2 ++ [t.tok]) lv3 ∧ Mv (CX bx bl) lv lv3 W1 wc) := hcut
      clear hcut cl7 q0 q1 q2
      have s0 := (HT3.out _ _ H4.out.2).c0
      have cf := H4.out.1.ff.cell
      go_wp2_with fail
      refine (HCA.out wc _ lv3 (by have := HM2.out; rw [List.length_append]; simp; omega) H4.out.1).mono ?_
      rintro e' w5 ⟨lv4, rfl, hw5, hm5⟩
      have H5 := Lib.hid (And.intro hw5 (H4.out.2.trans hm5))
      have HM3 : Hid ((M2 ++ [t.tok] ++ (canS lvl a).toks.reverse).length ≤ M.length + 2 + 2 * b.post.length + 2 * a.post.length) := Lib.hid (by have := HM2.out; have := HTA.out; simp only [List.length_append, List.length_reverse, List.length_cons, List.length_nil]; omega)
      clear hw5 hm5 cf s0
      generalize hM3 : M2 ++ [t.tok] ++ (canS lvl a).toks.reverse = M3 at *
      have HM3E := Lib.hid hM3
      clear hM3
      by_cases hp : lvl < v
      · have hpi : (lvl : Int) < (v : Int) := by omega
        have HFIN : Hid (M ++ (canS v e).toks.reverse = M3 ++ [opT 6]) := Lib.hid (by
          have hq : bindS op < v := by rw [← HLO.out]; exact hp
          rw [HEB.out, canS, if_pos hq, rev_par, rev_bin, ← HLO.out, ← HM3E.out, ← HM2E.out, ← HM1E.out, if_pos hp, HTOP.out]
          simp)
        have cl := H5.out.1.ll.cell
        have HML : Hid (M3.length ≤ 1000) := Lib.hid (by have := HM3.out; have := HMX.out; have := HPL.out; omega)
        clear hp
        go_wp2_with (at_builtin; refine list_app rfl (.tmp 49) (.tmp 51) 29 29 rfl Tryd.sliceT rfl (own_kept H5.out.1.row (Fr.of_alloc _ _ _)) rfl (src_four (a := .int .i64 6) (b := .string ⟨#[]⟩) (c := .int .i64 0) (d := .int .i64 0) Tryd.underlying29 (heap_alloc_new _ _) rfl rfl rfl rfl) (HLN.out _ HML.out).1 (HLN.out _ HML.out).2 (Nat.le_trans H5.out.1.hB (Fr.of_alloc (fun _ => False) _ _).size) ?_; intro v1 w6 hq; obtain ⟨a1, k1, hv1, _⟩ := own_slice hq.1; subst hv1; have HQ := Lib.hid hq; have fz1 := ((H5.out.1.later (Fr.of_alloc _ _ _)).box HA.out hq).fz; have cz1 := ((H5.out.1.later (Fr.of_alloc _ _ _)).box HA.out hq).cell; clear hq)
        go_end0
        have hq := H5.out.1.push HA.out H5.out.2 (Fr.of_alloc _ _ _) (t := opT 6) HQ.out
        exact ⟨_, rfl, by rw [HFIN.out]; exact hq.1, H1.out.2.2.trans hq.2⟩
      · have hpi : ¬ (lvl : Int) < (v : Int) := by omega
        have HFIN : Hid (M ++ (canS v e).toks.reverse = M3) := Lib.hid (by
          have hq : ¬ bindS op < v := by rw [← HLO.out]; exact hp
          rw [HEB.out, canS, if_neg hq, rev_bin, ← HLO.out, ← HM3E.out, ← HM2E.out, ← HM1E.out, if_neg hp, HTOP.out]
          simp)
        clear hp
        go_wp2
        go_end0
        exact ⟨_, rfl, by rw [HFIN.out]; exact H5.out.1, H1.out.2.2.trans H5.out.2⟩

end Go.Proofs.YtdapdpmplbifdaaDoor
