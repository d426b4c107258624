/- Contracts and lemmas: WFew -/
import Derived.Test.YtdapdpmplbifdaaDoorWBack
import Derived.RegionTactic
import Derived.BigRegion
namespace Go.Proofs.YtdapdpmplbifdaaDoor
set_option linter.unusedVariables false
set_option linter.unusedSimpArgs false
open Go.RowKit Go.ChangeShapes Go.WideShapes
def scells (ws : List (List UInt8)) : List Value := ws.map fun x => .string (strOf x)
theorem Tryd.infoS : (Tryd.prog.info? 9).map (fun i => (i.zero, i.size, i.bytes)) = some (some (.string ⟨#[]⟩), 1, 16) := by kernel_rfl
theorem Tryd.sliceS : SliceOf Tryd.prog 41 9 (.string ⟨#[]⟩) 1 16 := slice_of Tryd.underlying41 Tryd.infoS rfl (by decide)
/-- two rows of strings, apart -/
structure Rows (w0 wr : World) (xa : List (List UInt8)) (va : Value) (xb : List (List UInt8)) (vb : Value) : Prop where
  a : wr.ownsRow w0.heap.size 9 1 va xa.length (scells xa)
  b : wr.ownsRow w0.heap.size 9 1 vb xb.length (scells xb)
  kept : Kept w0 wr
  ne : ∀ g, va.ownBlock = some g → vb.ownBlock ≠ some g
theorem Rows.symm {w0 wr : World} {xa xb : List (List UInt8)} {va vb : Value} (h : Rows w0 wr xa va xb vb) : Rows w0 wr xb vb xa va := ⟨h.b, h.a, h.kept, fun g hb ha => h.ne g ha hb⟩
theorem Rows.later {w0 wr w1 : World} {xa xb : List (List UInt8)} {va vb : Value} (h : Rows w0 wr xa va xb vb) (hk : Kept wr w1) : Rows w0 w1 xa va xb vb := ⟨own_kept h.a hk, own_kept h.b hk, h.kept.trans hk, h.ne⟩
theorem own_block {w : World} {base n size : Nat} {e : TypeId} {v : Value} {xs : List Value} (h : w.ownsRow base e size v n xs) : ∀ g, v.ownBlock = some g → base ≤ g ∧ g < w.heap.size := by
  intro g hg
  rcases h.2 with ⟨rfl, _⟩ | ⟨g', cap, cur, rfl, hb, h4, _⟩
  · simp [Value.ownBlock] at hg
  · simp [Value.ownBlock] at hg
    subst hg
    exact ⟨hb, (Array.getElem?_eq_some_iff.1 h4).1⟩
theorem Rows.stepA {w0 wr w1 : World} {xa xb : List (List UInt8)} {va vb v1 : Value} {x : List UInt8} (h : Rows w0 wr xa va xb vb)
    (hp : AppPost wr w0.heap.size 9 1 va (xa.length + 1) (scells xa ++ [.string (strOf x)]) v1 w1) : Rows w0 w1 (xa ++ [x]) v1 xb vb := by
  refine ⟨?_, h.b.kept hp.2.1 ?_, (hp.kept h.kept (fun g hg => (own_block h.a g hg).1)).1, fun g hg hb => ?_⟩
  · have := hp.1
    rw [List.length_append, show scells (xa ++ [x]) = scells xa ++ [.string (strOf x)] by simp [scells]]
    exact this
  · by_cases hb : vb.ownBlock = Option.none
    · exact .inl hb
    · right
      intro e
      obtain ⟨g, hg⟩ := Option.ne_none_iff_exists'.1 hb
      exact h.ne g (by rw [← e]; exact hg) hg
  · rcases hp.2.2 g hg with h1 | h1
    · exact h.ne g h1 hb
    · have := (own_block h.b g hb).2
      omega
theorem rows_new (w : World) : Rows w ((w.alloc (Obj.cells #[] 9)).alloc (Obj.cells #[] 9)) [] (.slice (some ⟨w.heap.size, 0, none⟩) 0 0) [] (.slice (some ⟨w.heap.size + 1, 0, none⟩) 0 0) :=
  ⟨own_kept (own_new (heap_alloc_new w _) (Nat.le_refl _)) (Fr.of_alloc _ _ _), own_new (by have := heap_alloc_new (w.alloc (Obj.cells #[] 9)) (Obj.cells #[] 9); rwa [World.size_alloc] at this) (by omega), (Fr.of_alloc _ _ _).trans (Fr.of_alloc _ _ _), fun g h1 h2 => by simp [Value.ownBlock] at h1 h2; omega⟩
theorem row_at {w : World} {base : Nat} {xs : List (List UInt8)} {ao : Option Addr} {n c : Nat} (h : w.ownsRow base 9 1 (.slice ao n c) n (scells xs)) {k : Nat} {x : List UInt8} (hx : xs[k]? = some x) : ∃ g, ao = some ⟨g, 0, none⟩ ∧ w.cell? ⟨g, k, none⟩ = some (.string (strOf x)) := by
  have hc : (scells xs)[k]? = some (.string (strOf x)) := by unfold scells; rw [List.getElem?_map, hx]; rfl
  rcases h.2 with ⟨hv, h0⟩ | ⟨g', cap, cur, hv, hb, h4, _⟩
  · have h1 := h.1
    rw [h0] at h1
    have := (List.getElem?_eq_some_iff.1 hc).1
    omega
  · cases hv
    have := h.cells (g := g') rfl k _ hc
    refine ⟨g', rfl, ?_⟩
    rw [addr_add] at this
    simpa using this
/-- the words of the first tokens, parentheses apart -/
def fewW (l : List Tok) : List (List UInt8) := (l.filter notPar).map wordS
theorem few_snoc (l : List Tok) (t : Tok) : fewW (l ++ [t]) = if notPar t = true then fewW l ++ [wordS t] else fewW l := by
  unfold fewW
  rw [List.filter_append]
  by_cases h : notPar t = true
  · simp [h]
  · simp [h]
theorem open_snoc (l : List Tok) (t : Tok) : openN (l ++ [t]) = if t.kind = 6 then openN l + 1 else openN l := by
  unfold openN
  rw [List.filter_append]
  by_cases h : t.kind = 6
  · simp [h]
  · simp [h]
theorem few_le (l : List Tok) : (fewW l).length ≤ l.length := by
  unfold fewW
  rw [List.length_map]
  exact List.length_filter_le _ _
theorem open_le (l : List Tok) : openN l ≤ l.length := List.length_filter_le _ _
theorem takeL_snoc {α : Type} {l : List α} {k : Nat} {t : α} (h : l[k]? = some t) : l.take (k + 1) = l.take k ++ [t] := by
  rw [List.take_add_one, h]; rfl

open Go.RowKit Go.ChangeShapes Go.WideShapes
set_option maxRecDepth 20000 in
set_option maxHeartbeats 16000000 in
theorem exprFew_walk {w : World} (s : ByteArray) (hs : s.size ≤ maxLen) (hL : LaidT w) :
    Calls Tryd.prog 7 #[.string s] w fun e w' => e = .returned (.bool true) ∧ Kept w w' := by
  have HL := Lib.hid hL
  clear hL
  by_cases h8 : 4000 < s.size
  · have h8i : (4000 : Int) < s.size := by omega
    go_enter Tryd.func7, Tryd.ntmps7
    go_wp2_with fail
    refine (kawakex_any _ HL.out).mono ?_
    rintro e w1 ⟨rfl, hk1⟩
    have HK1 := Lib.hid hk1
    clear hk1
    go_wp2
    go_ret
    exact ⟨rfl, HK1.out⟩
  · have h8i : ¬ (4000 : Int) < s.size := by omega
    go_enter Tryd.func7, Tryd.ntmps7
    go_wp2_with fail
    refine (kawakex_any _ HL.out).mono ?_
    rintro e w1 ⟨rfl, hk1⟩
    have HK1 := Lib.hid hk1
    clear hk1
    go_wp2_with fail
    refine (kparse_any s _ (by omega) (HL.out.kept HK1.out)).mono ?_
    rintro e w2 ⟨vx, x, n, q, rfl, hi, hr, hk⟩
    have HK2 := Lib.hid (HK1.out.trans hk)
    have HX2 := Lib.hid hr
    obtain ⟨xo, xc, rfl, hxc⟩ := hr.form
    rw [toX_len] at hxc HX2 ⊢
    clear hr hk HK1
    by_cases hq : q = 0
    · subst hq
      obtain ⟨ex, m, hok, hxp, hall, hfew⟩ := few_same hi
      have HM : Hid (MayIs x ex) := Lib.hid ⟨hok, hxp, hi.small⟩
      obtain ⟨T, hT⟩ : ∃ T, T = strOf (textE ex) := ⟨_, rfl⟩
      have hz : T.size = (textE ex).length := by rw [hT, strOf_size]
      have hb : bs T = textE ex := by rw [hT, bs_strOf]
      have HTX : Hid (∀ W, Kept w2 W → Calls Tryd.prog 17 #[.slice xo x.length xc] W (KeptPost (.tuple #[.string T, .int .i64 0]) W)) := Lib.hid (fun W hW => (ktextx_any (HX2.out.kept hW) (by rw [toX_len]; have := HM.out.2.2; omega) (tox_names HM.out) (HL.out.kept (HK2.out.trans hW))).mono (fun e w' h => by rw [toX_tok] at h; rw [hT]; exact TextXPost.yes h HM.out))
      rw [← hz, ← hb] at hfew
      have HFEW := Lib.hid hfew
      have HALL := Lib.hid hall
      clear hok hxp hi hT hz hb hfew hall
      go_wp2_with fail
      refine (rallR s _ (by omega)).mono ?_
      rintro e w3 ⟨vm, m', p', q', rfl, hr, hk, hi⟩
      obtain ⟨rfl, rfl, rfl⟩ := hi.unique (.inl ⟨HALL.out, rfl, rfl⟩)
      have HK3 := Lib.hid (HK2.out.trans hk)
      have HQ3 := Lib.hid hk
      have HRM3 := Lib.hid hr
      clear hi hr hk
      go_wp2_with fail
      refine (HTX.out _ HQ3.out).mono ?_
      rintro e w4 ⟨rfl, hk⟩
      have HK4 := Lib.hid (HK3.out.trans hk)
      have HRM4 := Lib.hid (HRM3.out.kept hk)
      clear hk HTX HK3 HQ3 HRM3
      by_cases h4 : 4000 < T.size
      · have h4i : (4000 : Int) < T.size := by omega
        go_wp2
        go_ret
        exact ⟨rfl, HK4.out⟩
      · have h4i : ¬ (4000 : Int) < T.size := by omega
        obtain ⟨m2, ha2, hop, hf1, hf2, hln⟩ := HFEW.out (by omega)
        have HA2 := Lib.hid ha2
        have HM1 : Hid (m'.length ≤ 1000 ∧ m2.length ≤ 1000) := Lib.hid ⟨(all_names HALL.out).1, (all_names ha2).1⟩
        have HNM1 := Lib.hid (all_names HALL.out).2
        have HNM2 := Lib.hid (all_names ha2).2
        have HOP := Lib.hid hop
        have HFW : Hid (fewW (m2.map (·.1)) = fewW (m'.map (·.1)) ∧ (fewW (m'.map (·.1))).length = x.length) := Lib.hid ⟨by unfold fewW; rw [hf1, hf2], by unfold fewW; rw [List.length_map, hf2, hln]⟩
        clear ha2 hop hf1 hf2 hln h4
        go_wp2_with fail
        refine (rallR T _ (by omega)).mono ?_
        rintro e w5 ⟨vm2, m3, p3, q3, rfl, hr, hk, hi⟩
        obtain ⟨rfl, rfl, rfl⟩ := hi.unique (.inl ⟨HA2.out, rfl, rfl⟩)
        have HK5 := Lib.hid (HK4.out.trans hk)
        have HRM5 := Lib.hid (HRM4.out.kept hk)
        have HRT5 := Lib.hid hr
        clear hi hr hk HK4 HRM4 HFEW
        obtain ⟨ma, ca, rfl, hca⟩ := HRM5.out.form
        obtain ⟨mb, cb, rfl, hcb⟩ := HRT5.out.form
        have hlm1 : (toB m').length = m'.length := by simp [toB]
        have hlm2 : (toB m3).length = m3.length := by simp [toB]
        rw [hlm1] at hca ⊢
        rw [hlm2] at hcb ⊢
        have ROWS0 := Lib.hid (rows_new w5)
        have HTO1 : Hid ((toB m').map TokB.tok = m'.map (·.1)) := Lib.hid (toB_tok m')
        have HTO2 : Hid ((toB m3).map TokB.tok = m3.map (·.1)) := Lib.hid (toB_tok m3)
        have HME := HM1.out
        generalize hn1 : m'.length = n1 at *
        generalize hn2 : m3.length = n2 at *
        have HN1 : Hid ((toB m').length = n1 ∧ (m'.map (·.1)).length = n1) := Lib.hid ⟨by rw [hlm1], by rw [List.length_map, hn1]⟩
        have HN2 : Hid ((toB m3).length = n2 ∧ (m3.map (·.1)).length = n2) := Lib.hid ⟨by rw [hlm2], by rw [List.length_map, hn2]⟩
        clear hn1 hn2 hlm1 hlm2
        generalize toB m' = l1 at *
        generalize toB m3 = l2 at *
        generalize m'.map (·.1) = L1 at *
        generalize m3.map (·.1) = L2 at *
        have hpos1 : 0 < n1 := by
          have h1 := HFW.out.2
          have h2 := few_le L1
          have h3 := List.length_pos_iff.2 ex.post_ne
          rw [← HM.out.2.1] at h3
          have := HN1.out.2
          omega
        have hpos2 : 0 < n2 := by
          have h1 := HFW.out.2
          have h2 := few_le L2
          rw [HFW.out.1] at h2
          have h3 := List.length_pos_iff.2 ex.post_ne
          rw [← HM.out.2.1] at h3
          have := HN2.out.2
          omega
        have hcl1 := HRM5.out
        obtain ⟨_, _, he, _, hcells⟩ := hcl1
        obtain ⟨z1, hz1⟩ : ∃ t, l1[0]? = some t := ⟨_, List.getElem?_eq_getElem (by have := HN1.out.1; omega)⟩
        obtain ⟨ga, offa, hma, _⟩ := hcells 0 z1 hz1
        cases he
        subst hma
        have HC1 : Hid (∀ (i : Nat) (t : TokB), l1[i]? = some t → w5.cell? ⟨ga, offa + i * 4, none⟩ = some (.int .i64 t.kind) ∧ w5.cell? ⟨ga, offa + i * 4 + 1, none⟩ = some (.string t.name) ∧ w5.cell? ⟨ga, offa + i * 4 + 2, none⟩ = some (.int .i64 t.of) ∧ w5.cell? ⟨ga, offa + i * 4 + 3, none⟩ = some (.int .i64 t.pos)) := Lib.hid (fun i t ht => by
          obtain ⟨g', off', h4, r⟩ := hcells i t ht
          cases h4
          exact r)
        clear hcells hz1
        have hcl2 := HRT5.out
        obtain ⟨_, _, he, _, hcells⟩ := hcl2
        obtain ⟨z2, hz2⟩ : ∃ t, l2[0]? = some t := ⟨_, List.getElem?_eq_getElem (by have := HN2.out.1; omega)⟩
        obtain ⟨gb, offb, hmb, _⟩ := hcells 0 z2 hz2
        cases he
        subst hmb
        have HC2 : Hid (∀ (i : Nat) (t : TokB), l2[i]? = some t → w5.cell? ⟨gb, offb + i * 4, none⟩ = some (.int .i64 t.kind) ∧ w5.cell? ⟨gb, offb + i * 4 + 1, none⟩ = some (.string t.name) ∧ w5.cell? ⟨gb, offb + i * 4 + 2, none⟩ = some (.int .i64 t.of) ∧ w5.cell? ⟨gb, offb + i * 4 + 3, none⟩ = some (.int .i64 t.pos)) := Lib.hid (fun i t ht => by
          obtain ⟨g', off', h4, r⟩ := hcells i t ht
          cases h4
          exact r)
        clear hcells hz2
        go_wp2
        go_loopw [14, 16, 68] (fun av pv iv wr => ∃ (ka : Nat) (wsa : List (List UInt8)) (pa : Nat), iv = .int .i64 ka ∧ pv = .int .i64 pa ∧ ka ≤ n1 ∧ pa ≤ ka ∧ wsa.length ≤ ka ∧ Hid (pa = openN (L1.take ka)) ∧ Hid (wsa = fewW (L1.take ka)) ∧ Hid (Rows w5 wr wsa av [] (.slice (some ⟨w5.heap.size + 1, 0, none⟩) 0 0))) (fun _ _ iv _ => n1 - (intOf iv).toNat)
        case atStart => exact ⟨0, [], 0, rfl, rfl, by omega, by omega, by simp, Lib.hid rfl, Lib.hid rfl, ROWS0⟩
        case round =>
          obtain ⟨ka, wsa, pa, rfl, rfl, hk, hpk, hwk, hp, hws, hrowsa⟩ := hrel
          obtain ⟨roa, rca, hv, hrcc⟩ := own_slice hrowsa.out.a
          subst hv
          by_cases hlt : ka < n1
          · have hlti : (ka : Int) < n1 := by omega
            obtain ⟨t, ht⟩ : ∃ t, l1[ka]? = some t := ⟨_, List.getElem?_eq_getElem (by have := HN1.out.1; omega)⟩
            have HTL : Hid (L1[ka]? = some t.tok) := Lib.hid (by rw [← HTO1.out, List.getElem?_map, ht]; rfl)
            have HPS : Hid (openN (L1.take (ka + 1)) = if t.tok.kind = 6 then pa + 1 else pa) := Lib.hid (by rw [takeL_snoc HTL.out, open_snoc, ← hp.out])
            have HWS : Hid (fewW (L1.take (ka + 1)) = if notPar t.tok = true then wsa ++ [wordS t.tok] else wsa) := Lib.hid (by rw [takeL_snoc HTL.out, few_snoc, ← hws.out])
            obtain ⟨d0, d1, d2, d3⟩ := HC1.out ka t ht
            have hsz := HNM1.out t (List.mem_of_getElem? ht)
            have c0 := hrowsa.out.kept.cell d0 (fun x => x)
            have c1 := hrowsa.out.kept.cell d1 (fun x => x)
            have c2 := hrowsa.out.kept.cell d2 (fun x => x)
            have c3 := hrowsa.out.kept.cell d3 (fun x => x)
            clear ht d0 d1 d2 d3 hp hws
            have htk : t.tok.kind = t.kind := rfl
            by_cases k6 : t.kind = 6
            · have HP2 : Hid (pa + 1 = openN (L1.take (ka + 1))) := Lib.hid (by rw [HPS.out, if_pos (by rw [htk]; exact k6)])
              have HW2 : Hid (wsa = fewW (L1.take (ka + 1))) := Lib.hid (by rw [HWS.out, if_neg (by unfold notPar; rw [htk, k6]; decide)])
              rw [k6] at c0
              clear k6 HPS HWS
              go_wp2
              go_roundw
              case rel => exact ⟨ka + 1, wsa, pa + 1, by go_num, by go_num, by omega, by omega, by (first | (rw [List.length_append, List.length_singleton]; omega) | omega), HP2, HW2, hrowsa⟩
              case measure => simp [intOf]; omega
            · by_cases k7 : t.kind = 7
              · have HP2 : Hid (pa = openN (L1.take (ka + 1))) := Lib.hid (by rw [HPS.out, if_neg (by rw [htk]; exact k6)])
                have HW2 : Hid (wsa = fewW (L1.take (ka + 1))) := Lib.hid (by rw [HWS.out, if_neg (by unfold notPar; rw [htk, k7]; decide)])
                rw [k7] at c0
                clear k6 k7 HPS HWS
                go_wp2
                go_roundw
                case rel => exact ⟨ka + 1, wsa, pa, by go_num, rfl, by omega, by omega, by (first | (rw [List.length_append, List.length_singleton]; omega) | omega), HP2, HW2, hrowsa⟩
                case measure => simp [intOf]; omega
              · have HP2 : Hid (pa = openN (L1.take (ka + 1))) := Lib.hid (by rw [HPS.out, if_neg (by rw [htk]; exact k6)])
                have HW2 : Hid (wsa ++ [wordS t.tok] = fewW (L1.take (ka + 1))) := Lib.hid (by rw [HWS.out, if_pos (by unfold notPar; rw [htk]; simp [k6, k7])])
                have g6 : (t.kind == 6) = false := by simp [k6]
                have g7 : (t.kind == 7) = false := by simp [k7]
                have HWD : Hid (∀ W, Calls Tryd.prog 25 #[.agg #[.int .i64 t.kind, .string t.name, .int .i64 t.of, .int .i64 t.pos]] W (KeptPost (.string (strOf (wordS t.tok))) W)) := Lib.hid (fun W => rword_any t.kind t.name t.of t.pos W hsz)
                have gn6 : (t.kind != 6) = true := by simp [k6]
                have gn7 : (t.kind != 7) = true := by simp [k7]
                have gd6 : decide (t.kind = 6) = false := by simp [k6]
                have gd7 : decide (t.kind = 7) = false := by simp [k7]
                clear HPS HWS
                go_wp2_with fail
                refine (HWD.out _).mono ?_
                rintro e wq ⟨rfl, hkq⟩
                have HR2 := Lib.hid ((hrowsa.out.later hkq).later (Fr.of_alloc _ wq (Obj.cells #[.string (strOf (wordS t.tok))] 9)))
                clear hkq HWD
                go_wp2_with (at_builtin; go_must (refine list_app rfl (.tmp 93) (.tmp 99) 41 41 rfl Tryd.sliceS rfl (by exact HR2.out.a) rfl (by exact src_one Tryd.underlying41 (heap_alloc_new wq _) rfl) (by unfold maxLen; omega) (by omega) (by exact HR2.out.kept.size) ?_; intro v2 w2x hq; have HR3 : Hid (Rows w5 w2x (wsa ++ [wordS t.tok]) v2 [] (.slice (some ⟨w5.heap.size + 1, 0, none⟩) 0 0)) := Lib.hid (HR2.out.stepA hq); clear hq))
                go_roundw
                case rel => exact ⟨ka + 1, (wsa ++ [wordS t.tok]), pa, by go_num, rfl, by omega, by omega, by (first | (rw [List.length_append, List.length_singleton]; omega) | omega), HP2, HW2, HR3⟩
                case measure => simp [intOf]; omega
          · have hlti : ¬ (ka : Int) < n1 := by omega
            have HPEa : Hid (pa = openN L1) := Lib.hid (by rw [hp.out, List.take_of_length_le (by have := HN1.out.2; omega)])
            have HWEa : Hid (wsa = fewW L1) := Lib.hid (by rw [hws.out, List.take_of_length_le (by have := HN1.out.2; omega)])
            have hk1000a : ka ≤ 1000 := by omega
            clear hp hws hlt
            go_wp2
            go_loopw [15, 17, 104] (fun av pv iv wr => ∃ (kb : Nat) (wsb : List (List UInt8)) (pb : Nat), iv = .int .i64 kb ∧ pv = .int .i64 pb ∧ kb ≤ n2 ∧ pb ≤ kb ∧ wsb.length ≤ kb ∧ Hid (pb = openN (L2.take kb)) ∧ Hid (wsb = fewW (L2.take kb)) ∧ Hid (Rows w5 wr wsa (.slice roa wsa.length rca) wsb av)) (fun _ _ iv _ => n2 - (intOf iv).toNat)
            case atStart => exact ⟨0, [], 0, rfl, rfl, by omega, by omega, by simp, Lib.hid rfl, Lib.hid rfl, hrowsa⟩
            case round =>
              obtain ⟨kb, wsb, pb, rfl, rfl, hk, hpk, hwk, hp, hws, hrowsb⟩ := hrel
              obtain ⟨rob, rcb, hv, hrcc⟩ := own_slice hrowsb.out.b
              subst hv
              by_cases hlt : kb < n2
              · have hlti : (kb : Int) < n2 := by omega
                obtain ⟨t, ht⟩ : ∃ t, l2[kb]? = some t := ⟨_, List.getElem?_eq_getElem (by have := HN2.out.1; omega)⟩
                have HTL : Hid (L2[kb]? = some t.tok) := Lib.hid (by rw [← HTO2.out, List.getElem?_map, ht]; rfl)
                have HPS : Hid (openN (L2.take (kb + 1)) = if t.tok.kind = 6 then pb + 1 else pb) := Lib.hid (by rw [takeL_snoc HTL.out, open_snoc, ← hp.out])
                have HWS : Hid (fewW (L2.take (kb + 1)) = if notPar t.tok = true then wsb ++ [wordS t.tok] else wsb) := Lib.hid (by rw [takeL_snoc HTL.out, few_snoc, ← hws.out])
                obtain ⟨d0, d1, d2, d3⟩ := HC2.out kb t ht
                have hsz := HNM2.out t (List.mem_of_getElem? ht)
                have c0 := hrowsb.out.kept.cell d0 (fun x => x)
                have c1 := hrowsb.out.kept.cell d1 (fun x => x)
                have c2 := hrowsb.out.kept.cell d2 (fun x => x)
                have c3 := hrowsb.out.kept.cell d3 (fun x => x)
                clear ht d0 d1 d2 d3 hp hws
                have htk : t.tok.kind = t.kind := rfl
                by_cases k6 : t.kind = 6
                · have HP2 : Hid (pb + 1 = openN (L2.take (kb + 1))) := Lib.hid (by rw [HPS.out, if_pos (by rw [htk]; exact k6)])
                  have HW2 : Hid (wsb = fewW (L2.take (kb + 1))) := Lib.hid (by rw [HWS.out, if_neg (by unfold notPar; rw [htk, k6]; decide)])
                  rw [k6] at c0
                  clear k6 HPS HWS
                  go_wp2
                  go_roundw
                  case rel => exact ⟨kb + 1, wsb, pb + 1, by go_num, by go_num, by omega, by omega, by (first | (rw [List.length_append, List.length_singleton]; omega) | omega), HP2, HW2, hrowsb⟩
                  case measure => simp [intOf]; omega
                · by_cases k7 : t.kind = 7
                  · have HP2 : Hid (pb = openN (L2.take (kb + 1))) := Lib.hid (by rw [HPS.out, if_neg (by rw [htk]; exact k6)])
                    have HW2 : Hid (wsb = fewW (L2.take (kb + 1))) := Lib.hid (by rw [HWS.out, if_neg (by unfold notPar; rw [htk, k7]; decide)])
                    rw [k7] at c0
                    clear k6 k7 HPS HWS
                    go_wp2
                    go_roundw
                    case rel => exact ⟨kb + 1, wsb, pb, by go_num, rfl, by omega, by omega, by (first | (rw [List.length_append, List.length_singleton]; omega) | omega), HP2, HW2, hrowsb⟩
                    case measure => simp [intOf]; omega
                  · have HP2 : Hid (pb = openN (L2.take (kb + 1))) := Lib.hid (by rw [HPS.out, if_neg (by rw [htk]; exact k6)])
                    have HW2 : Hid (wsb ++ [wordS t.tok] = fewW (L2.take (kb + 1))) := Lib.hid (by rw [HWS.out, if_pos (by unfold notPar; rw [htk]; simp [k6, k7])])
                    have g6 : (t.kind == 6) = false := by simp [k6]
                    have g7 : (t.kind == 7) = false := by simp [k7]
                    have HWD : Hid (∀ W, Calls Tryd.prog 25 #[.agg #[.int .i64 t.kind, .string t.name, .int .i64 t.of, .int .i64 t.pos]] W (KeptPost (.string (strOf (wordS t.tok))) W)) := Lib.hid (fun W => rword_any t.kind t.name t.of t.pos W hsz)
                    have gn6 : (t.kind != 6) = true := by simp [k6]
                    have gn7 : (t.kind != 7) = true := by simp [k7]
                    have gd6 : decide (t.kind = 6) = false := by simp [k6]
                    have gd7 : decide (t.kind = 7) = false := by simp [k7]
                    clear HPS HWS
                    go_wp2_with fail
                    refine (HWD.out _).mono ?_
                    rintro e wq ⟨rfl, hkq⟩
                    have HR2 := Lib.hid ((hrowsb.out.later hkq).later (Fr.of_alloc _ wq (Obj.cells #[.string (strOf (wordS t.tok))] 9)))
                    clear hkq HWD
                    go_wp2_with (at_builtin; go_must (refine list_app rfl (.tmp 129) (.tmp 135) 41 41 rfl Tryd.sliceS rfl (by exact HR2.out.b) rfl (by exact src_one Tryd.underlying41 (heap_alloc_new wq _) rfl) (by unfold maxLen; omega) (by omega) (by exact HR2.out.kept.size) ?_; intro v2 w2x hq; have HR3 : Hid (Rows w5 w2x wsa (.slice roa wsa.length rca) (wsb ++ [wordS t.tok]) v2) := Lib.hid (HR2.out.symm.stepA hq).symm; clear hq))
                    go_roundw
                    case rel => exact ⟨kb + 1, (wsb ++ [wordS t.tok]), pb, by go_num, rfl, by omega, by omega, by (first | (rw [List.length_append, List.length_singleton]; omega) | omega), HP2, HW2, HR3⟩
                    case measure => simp [intOf]; omega
              · have hlti : ¬ (kb : Int) < n2 := by omega
                have HPEb : Hid (pb = openN L2) := Lib.hid (by rw [hp.out, List.take_of_length_le (by have := HN2.out.2; omega)])
                have HWEb : Hid (wsb = fewW L2) := Lib.hid (by rw [hws.out, List.take_of_length_le (by have := HN2.out.2; omega)])
                have hk1000b : kb ≤ 1000 := by omega
                clear hp hws hlt
                have hE : wsa = wsb := by rw [HWEb.out, HWEa.out, HFW.out.1]
                subst hE
                have hlx : x.length = wsa.length := by rw [HWEa.out, HFW.out.2]
                have hpp : ¬ (pa : Int) < (pb : Int) := by have h1 := HPEa.out; have h2 := HPEb.out; have h3 := HOP.out; omega
                rw [hlx]
                clear hlx
                have HRR := Lib.hid hrowsb.out
                have H0 : Hid (Kept wr wr) := Lib.hid (Fr.refl _ _)
                go_wp2
                go_loopw [157] (fun iv wr3 => ∃ k : Nat, iv = .int .i64 k ∧ k ≤ wsa.length ∧ Hid (Kept wr wr3)) (fun iv _ => wsa.length - (intOf iv).toNat)
                case atStart => exact ⟨0, rfl, by omega, H0⟩
                case round =>
                  obtain ⟨k3, rfl, hk3, hkp⟩ := hrel
                  clear H0
                  by_cases hlt3 : k3 < wsa.length
                  · have hlti3 : (k3 : Int) < wsa.length := by omega
                    obtain ⟨y, hy⟩ : ∃ y, wsa[k3]? = some y := ⟨_, List.getElem?_eq_getElem hlt3⟩
                    obtain ⟨g1, rfl, e1⟩ := row_at HRR.out.a hy
                    obtain ⟨g2, rfl, e2⟩ := row_at HRR.out.b hy
                    have a1 := hkp.out.cell e1 (fun x => x)
                    have a2 := hkp.out.cell e2 (fun x => x)
                    clear e1 e2 hy
                    go_wp2
                    go_region
                    all_goals
                      go_wp2
                      go_roundw
                      case rel => exact ⟨k3 + 1, by go_num, by omega, Lib.hid (hkp.out.trans (Fr.of_drew _ _))⟩
                      case measure => simp [intOf]; omega
                  · have hlti3 : ¬ (k3 : Int) < wsa.length := by omega
                    go_wp2
                    go_ret
                    exact ⟨rfl, (HK5.out.trans HRR.out.kept).trans hkp.out⟩
    · have gq : (q == 0) = false := by rw [beq_eq_false_iff_ne]; exact hq
      clear hi hq
      go_wp2
      go_ret
      exact ⟨rfl, HK2.out⟩

end Go.Proofs.YtdapdpmplbifdaaDoor
