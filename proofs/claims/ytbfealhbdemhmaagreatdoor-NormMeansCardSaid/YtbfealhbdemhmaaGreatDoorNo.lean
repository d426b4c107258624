/- Contracts and lemmas: No -/
import Derived.Test.YtbfealhbdemhmaaGreatDoorS3
import Derived.Test.YtbfealhbdemhmaaGreatDoorRa
import Derived.Laws.EntriesVeiled
import Derived.Laws.EntriesVeiled
namespace Go.Proofs.YtbfealhbdemhmaaGreatDoor
set_option linter.unusedVariables false
set_option linter.unusedSimpArgs false
open Go.RowKit Go.ChangeShapes Go.WideShapes
set_option maxRecDepth 20000
theorem results_one {fn : Func} {p : Tmp} {ty : TypeId} (h : fn.results = #[.cell p ty]) (tmps : Array Value) (P : Program) (w : World) :
    (results fn tmps).run P w = ((asAddr (tmps.getD p undef)).run P w).andThen fun a w₁ => (loadVar ty a).run P w₁ := by
  simp only [results, h]
  simp [Sem.run_bind, Result.andThen]
/-- a sign's function, as a value -/
def opF (n : Nat) : Value := .func (.func n) #[] #[]
/-- the row of operators -/
def opsC : Array Value := #[.nilFunc, .nilFunc, opF 54, opF 55, opF 56, opF 57]
theorem kops_any (w : World) : Calls Tryz.prog 29 #[] w (KeptPost (.agg opsC) w) := by
  go_enter Tryz.func29, Tryz.ntmps29
  go_wp2_with fail
  refine bodyPost_ret (v := .agg opsC) ?_ rfl ⟨rfl, Fr.of_alloc _ _ _⟩
  rw [results_one rfl]
  go_simp
  rfl
theorem krole_any {w : World} {G : Nat → Prop} {va vb : Value} {a b : List ByteArray} (ha : Reads w G va (wcells a)) (hb : Reads w G vb (wcells b)) (hla : a.length ≤ 100000) (hsa : Small maxLen a) (hsb : Small maxLen b) (hb0 : b ≠ []) :
    Calls Tryz.prog 57 #[va, vb] w (SetPost (asL a (atS ((b.head?).getD ⟨#[]⟩) 0)) w) := by
  obtain ⟨x, r, rfl⟩ := List.exists_cons_of_ne_nil hb0
  have hg := atS_good x 0
  have HA := Lib.hid ha
  have hsx : x.size ≤ maxLen := hsb x (by simp)
  obtain ⟨ao, c, rfl, _, hc⟩ := hb
  obtain ⟨g, off, rfl, _, hcell⟩ := hc 0 _ (wcells_get (l := x :: r) rfl)
  rw [Nat.add_zero] at hcell
  have HAS := Lib.hid (fun m => as_any (w := w.drewN m) (r := atS x 0) (HA.out.new (Fr.of_drewN _ w m)) hla hsa hg.1 hg.2)
  simp only [List.head?_cons, Option.getD_some]
  have hpos : (0 : Int) < ((wcells (x :: r)).length : Int) := by rw [wcells_len]; simp
  have HX := Lib.hid (at_any x 0 w hsx)
  generalize (wcells (x :: r)).length = nn at hpos
  generalize atS x 0 = t at *
  clear hc ha hb0 hsb hsx
  go_enter Tryz.func57, Tryz.ntmps57
  go_wp2_with fail
  refine HX.out.mono ?_
  rintro e w1 ⟨rfl, m, rfl⟩
  go_wp2_with fail
  refine (HAS.out m).mono ?_
  rintro e w2 h2
  have HP := Lib.hid (set_later h2 (Fr.of_drewN _ w m))
  obtain ⟨v, rfl, _⟩ := h2
  go_wp2
  go_ret2
  exact HP.out
theorem ofL_one {a : Int} (h1 : 1 ≤ a) (h2 : a ≤ 65535) : ofL [ofS [a]] = ([ofS [a]], 0) := by
  have hm := may_word h1 h2
  rw [ofL_ok (fun j y hj hy => by
    match j, hj with
    | 0, _ => cases hy; exact hm)]
  rw [right_self (by simp [Rising])]
  exact boundL_ok (by simp)
/-- what is answered of an atom's term -/
def AlonePost (L : Nat → List ByteArray) (t : Tok) (w : World) (e : Ending) (w' : World) : Prop :=
  match termA L t with
  | some a => SetPost ([ofS [a]], 0) w e w'
  | none => e = .returned (.tuple #[.slice none 0 0, .int .i64 10]) ∧ Kept w w'
theorem alone_some {L : Nat → List ByteArray} {t : Tok} {a : Int} {w w' : World} {e : Ending} (h : termA L t = some a) (hp : SetPost (ofL [ofS [a]]) w e w') (h1 : 1 ≤ a) (h2 : a ≤ 65535) : AlonePost L t w e w' := by
  unfold AlonePost
  rw [h]
  rw [ofL_one h1 h2] at hp
  exact hp
theorem alone_none {L : Nat → List ByteArray} {t : Tok} {w w' : World} (h : termA L t = none) (hk : Kept w w') : AlonePost L t w (.returned (.tuple #[.slice none 0 0, .int .i64 10])) w' := by
  unfold AlonePost
  rw [h]
  exact ⟨rfl, hk⟩
set_option maxHeartbeats 2000000 in
theorem kalone_any {w : World} {F : Nat → Prop} {B : Nat} {L : Nat → List ByteArray} (hT : Atm.Tab w F B L) (k o : Int) (nm : ByteArray) (hk : AtomOk ⟨k, bs nm, o⟩) (hs : nm.size ≤ 1000000) :
    Calls Tryz.prog 30 #[.pointer (some ⟨B, 0, none⟩), .agg #[.int .i64 k, .int .i64 o, .string nm]] w (AlonePost L ⟨k, bs nm, o⟩ w) := by
  have hL : TabL L := ⟨hT.nodup, hT.few⟩
  have hnm : strOf (⟨k, bs nm, o⟩ : Tok).name = nm := strOf_bs nm
  have HS1 : Hid (∀ a : Int, 1 ≤ a → a ≤ 65535 → Calls Tryz.prog 59 #[.slice (some ⟨w.heap.size + 1, 0, none⟩) 1 1] ((w.alloc (.cells #[.int .i64 k, .int .i64 o, .string nm] 52)).alloc (.cells #[.int .u16 a] 57)) (KeptPost (.string (ofS [a])) ((w.alloc (.cells #[.int .i64 k, .int .i64 o, .string nm] 52)).alloc (.cells #[.int .u16 a] 57)))) :=
    Lib.hid (fun a h1 h2 => of_any (l := [a]) (reads_built (cs := #[.int .u16 a]) (Atm.hp3 w (.cells #[.int .u16 a] 57) (.cells #[.int .i64 k, .int .i64 o, .string nm] 52))) (good_one (by omega) h2) (by simp))
  have HS2 : Hid (∀ a : Int, 1 ≤ a → a ≤ 65535 → ∀ W, Kept w W → Calls Tryz.prog 58 #[.slice (some ⟨W.heap.size, 0, none⟩) 1 1] (W.alloc (.cells #[.string (ofS [a])] 43)) (SetPost (ofL [ofS [a]]) w)) :=
    Lib.hid (fun a h1 h2 W hW => (of_set (l := [ofS [a]]) (reads_built (cs := #[.string (ofS [a])]) (heap_alloc_new W _)) (by simp) (small_one a)).mono (fun e w' h => set_later h (hW.trans (Fr.of_alloc _ _ _))))
  have HB : Hid (Kept w (w.alloc (.cells #[.int .i64 k, .int .i64 o, .string nm] 52))) := Lib.hid (Fr.of_alloc _ _ _)
  have hoo := atom_of hk
  have ho5 : 0 ≤ o ∧ o ≤ 5 := by
    rcases hoo with ⟨h, _⟩ | h
    · have : o = 0 := h; omega
    · have : 1 ≤ o ∧ o ≤ 5 := h; omega
  by_cases h0 : o = 0
  · have g0 : (o != 0) = false := by simp [h0]
    have HA : Hid (termA L ⟨k, bs nm, o⟩ = some 1) := Lib.hid (by unfold termA; rw [if_pos h0])
    clear hT hL hnm hk hoo h0
    go_enter Tryz.func30, Tryz.ntmps30
    go_wp2_with fail
    refine (HS1.out 1 (by omega) (by omega)).mono ?_
    rintro e w1 ⟨rfl, hk1⟩
    have HK := Lib.hid ((HB.out.trans (Fr.of_alloc _ _ _)).trans hk1)
    clear hk1
    go_wp2_with fail
    refine (HS2.out 1 (by omega) (by omega) _ HK.out).mono ?_
    rintro e w2 h2
    have HP := Lib.hid (alone_some HA.out h2 (by omega) (by omega))
    obtain ⟨v, rfl, _⟩ := h2
    go_wp2
    go_ret2
    exact HP.out
  · have g0 : (o != 0) = true := by simp [h0]
    have HF := Lib.hid (Atm.find_any (hT.later HB.out) o nm (by simp [Lit.wf, IntKind.min, IntKind.max, IntKind.signed, IntKind.bits]; omega) (by unfold maxLen; omega))
    by_cases hz : Atm.numS L o nm = 0
    · have HA : Hid (termA L ⟨k, bs nm, o⟩ = none) := Lib.hid (by unfold termA; rw [if_neg h0, hnm, if_pos hz])
      rw [if_pos hz] at HF
      have HD : Hid (decide (Atm.numS L o nm ≠ 0) = false) := Lib.hid (by simp [hz])
      rw [HD.out] at HF
      clear hT hL hnm hk hoo h0 hz HD
      go_enter Tryz.func30, Tryz.ntmps30
      go_wp2_with fail
      refine HF.out.mono ?_
      rintro e w1 ⟨rfl, rfl⟩
      go_wp2
      go_ret2
      exact alone_none HA.out HB.out
    · have HA : Hid (termA L ⟨k, bs nm, o⟩ = some (o * 8192 + Atm.numS L o nm)) := Lib.hid (by unfold termA; rw [if_neg h0, hnm, if_neg hz])
      have hga := term_atom hL hk HA.out
      rw [if_neg hz] at HF
      have HD : Hid (decide (Atm.numS L o nm ≠ 0) = true) := Lib.hid (by simp [hz])
      rw [HD.out] at HF
      generalize o * 8192 + (Atm.numS L o nm : Int) = a at *
      have HGA : Hid (1 ≤ a ∧ a ≤ 65535) := Lib.hid ⟨hga.1, hga.2.1⟩
      clear hT hL hnm hk hoo h0 hz HD hga
      go_enter Tryz.func30, Tryz.ntmps30
      go_wp2_with fail
      refine HF.out.mono ?_
      rintro e w0 ⟨rfl, rfl⟩
      go_wp2_with fail
      refine (HS1.out a HGA.out.1 HGA.out.2).mono ?_
      rintro e w1 ⟨rfl, hk1⟩
      have HK := Lib.hid ((HB.out.trans (Fr.of_alloc _ _ _)).trans hk1)
      clear hk1
      go_wp2_with fail
      refine (HS2.out a HGA.out.1 HGA.out.2 _ HK.out).mono ?_
      rintro e w2 h2
      have HP := Lib.hid (alone_some HA.out h2 HGA.out.1 HGA.out.2)
      obtain ⟨v, rfl, _⟩ := h2
      go_wp2
      go_ret2
      exact HP.out

open Go.RowKit Go.ChangeShapes Go.WideShapes
set_option maxRecDepth 20000
/-- the function of a sign -/
structure OpIs (k : Int) (f : Nat) : Prop where
  lo : 2 ≤ k
  hi : k ≤ 5
  cell : opsC[k.toNat]? = some (.func (.func f) #[] #[])
  enters : ∀ args w, (callFunc f args).run Tryz.prog w = .ok (.enter f args) w
  calls : ∀ {W : World} {va vb : Value} {a b : List ByteArray}, Reads W (fun _ => True) va (wcells a) → Reads W (fun _ => True) vb (wcells b) → mayL a = true → mayL b = true → Calls Tryz.prog f #[va, vb] W (SetPost (opL k a b) W)
theorem op_is {k : Int} (h : k = 2 ∨ k = 3 ∨ k = 4 ∨ k = 5) : ∃ f, OpIs k f := by
  have big : ∀ {a : List ByteArray}, mayL a = true → Small maxLen a := fun h s hs => by have := (may_bounds h).2 s hs; unfold maxLen; omega
  rcases h with rfl | rfl | rfl | rfl
  · refine ⟨54, by decide, by decide, rfl, fun args w => by kernel_rfl, fun {W va vb a b} ha hb ma mb => ?_⟩
    have e : opL 2 a b = andL a b := by unfold opL; rw [if_pos rfl]
    rw [e]
    exact and_any ha hb (may_bounds ma).1 (may_bounds mb).1 (big ma) (big mb)
  · refine ⟨55, by decide, by decide, rfl, fun args w => by kernel_rfl, fun {W va vb a b} ha hb ma mb => ?_⟩
    have e : opL 3 a b = forL a b := by unfold opL; rw [if_neg (by decide), if_pos rfl]
    rw [e]
    exact for_any ha hb (may_bounds ma).1 (may_bounds mb).1 (big ma) (big mb)
  · refine ⟨56, by decide, by decide, rfl, fun args w => by kernel_rfl, fun {W va vb a b} ha hb ma mb => ?_⟩
    have e : opL 4 a b = quoteL a b := by unfold opL; rw [if_neg (by decide), if_neg (by decide), if_pos rfl]
    rw [e]
    exact quote_any ha hb (may_bounds ma).1 (may_bounds mb).1 (big ma) (big mb)
  · refine ⟨57, by decide, by decide, rfl, fun args w => by kernel_rfl, fun {W va vb a b} ha hb ma mb => ?_⟩
    have e : opL 5 a b = asL a (atS ((b.head?).getD ⟨#[]⟩) 0) := by unfold opL; rw [if_neg (by decide), if_neg (by decide), if_neg (by decide)]
    rw [e]
    exact krole_any ha hb (may_bounds ma).1 (big ma) (big mb) (fun e => by subst e; have := (mayL_iff.1 mb).1; simp at this)
/-- one set more, that a call has made -/
theorem SetsRow.add {w wr W w5 w9 : World} {v v2 u : Value} {ls : List (List ByteArray)} {x : List ByteArray} {vs : List Value} (h : SetsRow w wr v ls) (hk : Kept wr W) (hs : w5.ownsRow W.heap.size 43 1 u x.length (wcells x)) (hk5 : Kept W w5) {o : Obj}
    (hv : (w5.alloc o).ownsRow w.heap.size 33 1 v ls.length vs) (hp : AppPost (w5.alloc o) w.heap.size 33 1 v (ls.length + 1) (vs ++ [u]) v2 w9) : SetsRow w w9 v2 (ls ++ [x]) := by
  obtain ⟨vs0, ho0, _⟩ := h.vals
  have hr := (Reads.of_row hs).new (Fr.of_alloc (fun _ => False) w5 o)
  exact (h.kept ((hk.trans hk5).trans (Fr.of_alloc _ w5 o))).push hv (hr.mono (fun g hg e => by have h1 := (own_lt ho0 e).2; have h2 := hg.1; have h3 := hk.size; omega)) hp
set_option maxHeartbeats 8000000 in
theorem krun6_any {w : World} {F : Nat → Prop} {B : Nat} {L : Nat → List ByteArray} (hT : Atm.Tab w F B L) {v : Value} {l : List TrmB} (h : ReadsX w v l) (hl : l.length ≤ 1000000) (hs : ∀ t ∈ l, t.name.size ≤ 1000000) (hLd : LaidT w) :
    Calls Tryz.prog 12 #[.pointer (some ⟨B, 0, none⟩), v] w (RunPost L (l.map TrmB.tok) w) := by
  have HR := Lib.hid h
  have HT := Lib.hid hT
  have HGL : Hid (TabL L) := Lib.hid ⟨hT.nodup, hT.few⟩
  have HS := Lib.hid hs
  obtain ⟨ao, c, rfl, hcc, hc⟩ := h
  have HC := Lib.hid hc
  have HMY := Lib.hid (kmayx_any HR.out hl HS.out hLd)
  have HM : Hid ((l.map TrmB.tok).length = l.length) := Lib.hid (by simp)
  have HG : Hid (∀ (k : Nat) (t : TrmB), l[k]? = some t → (l.map TrmB.tok)[k]? = some t.tok) := Lib.hid (fun k t ht => by rw [List.getElem?_map, ht]; rfl)
  clear hT hs hc HR hLd
  generalize l.map TrmB.tok = X at *
  generalize hn : l.length = n at *
  have HN := Lib.hid hn
  clear hn
  have HOPS : Hid (∀ W, Calls Tryz.prog 29 #[] W (KeptPost (.agg #[.nilFunc, .nilFunc, .func (.func 54) #[] #[], .func (.func 55) #[] #[], .func (.func 56) #[] #[], .func (.func 57) #[] #[]]) W)) := Lib.hid (fun W => kops_any W)
  go_enter Tryz.func12, Tryz.ntmps12
  go_wp2_with fail
  refine HMY.out.mono ?_
  rintro e w1 ⟨hk1, hp1⟩
  have HK1 := Lib.hid hk1
  rcases hp1 with ⟨ex, hm, rfl⟩ | ⟨hno, rfl⟩
  rotate_left
  · have HX : Hid (RunIs L X ([], 0, 2)) := Lib.hid (.inr ⟨hno, rfl⟩)
    clear hno hk1
    go_wp2
    go_ret3
    exact run_post_bad HX.out HK1.out
  · have HE := Lib.hid hm
    have HW := Lib.hid (run_whole (L := L) hm)
    have H1 := Lib.hid (stk_zero X)
    have hn200 : n ≤ 200 := by have := hm.2.2; rw [HM.out] at this; exact this
    clear hm hk1 HMY
    go_wp2_with fail
    refine (HOPS.out _).mono ?_
    rintro e w2 ⟨rfl, hk2⟩
    have HB0 : Hid ((w2.alloc (.cells opsC 67)).heap[w2.heap.size]? = some (.cells opsC 67 (0, 0))) := Lib.hid (heap_alloc_new _ _)
    have HK0 : Hid (Kept w (w2.alloc (.cells opsC 67))) := Lib.hid ((HK1.out.trans hk2).trans (Fr.of_alloc _ _ _))
    simp only [opsC, opF] at HB0 HK0
    clear hk2 HOPS
    go_wp2
    generalize w2.alloc (Obj.cells #[Value.nilFunc, Value.nilFunc, Value.func (Fn.func 54) #[] #[], Value.func (Fn.func 55) #[] #[], Value.func (Fn.func 56) #[] #[], Value.func (Fn.func 57) #[] #[]] 67) = W0 at HB0 HK0 ⊢
    generalize w2.heap.size = bo at HB0 ⊢
    have HBO : Hid (∀ W, Kept W0 W → ∀ (i : Nat) v, opsC[i]? = some v → W.cell? ⟨bo, i, none⟩ = some v) := Lib.hid (fun W hW i v hv => hW.cell (by rw [cell_whole HB0.out]; exact hv) (fun x => x))
    have H0 : Hid (SetsRow W0 W0 (.slice none 0 0) []) := Lib.hid (sets_nil (Fr.refl _ _))
    clear HB0
    go_loopw [8, 24] (fun sv iv wr => ∃ (k : Nat) (es : List Ex) (ls : List (List ByteArray)), iv = .int .i64 k ∧ k ≤ n ∧ Hid (Stk X k es ∧ ls.length = es.length) ∧ Hid (runS L (X.drop k) ls.reverse k = runS L X [] 0) ∧ Hid (∀ x ∈ ls, mayL x = true) ∧ Hid (SetsRow W0 wr sv ls)) (fun _ iv _ => n - (intOf iv).toNat)
    case atStart => exact ⟨0, [], [], rfl, by omega, Lib.hid ⟨H1.out, rfl⟩, Lib.hid rfl, Lib.hid (fun x hx => by simp at hx), H0⟩
    case round =>
      obtain ⟨k, es, ls, rfl, hk, hst, hrun, hmay, hp⟩ := hrel
      clear H0 H1
      have HKW0 : Hid (Kept W0 wr) := Lib.hid (by obtain ⟨_, _, hk, _⟩ := hp.out; exact hk)
      have HKW : Hid (Kept w wr) := Lib.hid (HK0.out.trans HKW0.out)
      by_cases hlt : k < n
      · have hlti : (k : Int) < n := by omega
        obtain ⟨t, ht⟩ : ∃ t, l[k]? = some t := ⟨_, List.getElem?_eq_getElem (by have := HN.out; omega)⟩
        obtain ⟨g, off, rfl, d0, d1, d2⟩ := HC.out k t ht
        have c0 := HKW.out.cell d0 (fun x => x)
        have c1 := HKW.out.cell d1 (fun x => x)
        have c2 := HKW.out.cell d2 (fun x => x)
        have HTK := Lib.hid (HG.out k t ht)
        have HRS : Hid (runS L (t.tok :: X.drop (k + 1)) ls.reverse k = runS L X [] 0) := Lib.hid (by rw [← drop_tok (HG.out k t ht)]; exact hrun.out)
        have HSZ := Lib.hid (HS.out t (List.mem_of_getElem? ht))
        have HLS : Hid (ls.length ≤ 200) := Lib.hid (by
          rw [hst.out.2]
          have h2 : ∀ (fs : List Ex), AllOk fs → fs.length ≤ (flatE fs).length := fun fs => by
            induction fs with
            | nil => intro _; simp
            | cons y r ih =>
              intro hf
              have := ih (fun z hz => hf z (by simp [hz]))
              have := List.length_pos_iff.2 y.post_ne
              simp only [flatE, List.length_cons, List.length_append]
              omega
          have h3 := h2 es hst.out.1.ok
          rw [← hst.out.1.is, List.length_take] at h3
          omega)
        have HKB : Hid (Kept wr (wr.alloc (.cells #[.int .i64 t.op, .int .i64 t.of, .string t.name] 52))) := Lib.hid (Fr.of_alloc _ _ _)
        clear ht d0 d1 d2 hrun
        by_cases k1 : t.op = 1
        · have g1 : (t.op == 1) = true := by simp [k1]
          have HAT : Hid (AtomOk t.tok) := Lib.hid ⟨k1, (post_terms HE.out.1 t.tok (by rw [← HE.out.2.1]; exact List.mem_of_getElem? HTK.out)).1⟩
          have htk : t.tok = ⟨1, bs t.name, t.of⟩ := by rw [← k1]; rfl
          have HB1 : Hid (Kept wr (wr.alloc (.cells #[.int .i64 1, .int .i64 t.of, .string t.name] 52))) := Lib.hid (Fr.of_alloc _ _ _)
          have HAL := Lib.hid (kalone_any (HT.out.later (HKW.out.trans HB1.out)) 1 t.of t.name (by rw [← htk]; exact HAT.out) HSZ.out)
          go_wp2_with fail
          refine HAL.out.mono ?_
          rintro e w5 h5
          cases hta : termA L t.tok with
          | none =>
            unfold AlonePost at h5
            have h5' : e = .returned (.tuple #[.slice none 0 0, .int .i64 10]) ∧ Kept (wr.alloc (.cells #[.int .i64 1, .int .i64 t.of, .string t.name] 52)) w5 := by
              have : termA L ⟨1, bs t.name, t.of⟩ = none := by rw [← htk]; exact hta
              rw [this] at h5
              exact h5
            obtain ⟨rfl, hk5⟩ := h5'
            have HX : Hid (RunIs L X ([], k, 10)) := Lib.hid (by
              have h2 := HW.out
              rw [← HRS.out, run_none k1 hta] at h2
              exact h2)
            have HK5 := Lib.hid ((HKW.out.trans HB1.out).trans hk5)
            clear h5 hk5 hta
            go_wp2
            go_ret3
            exact run_post_bad HX.out HK5.out
          | some av =>
            have h5' : SetPost ([ofS [av]], 0) (wr.alloc (.cells #[.int .i64 1, .int .i64 t.of, .string t.name] 52)) e w5 := by
              unfold AlonePost at h5
              have : termA L ⟨1, bs t.name, t.of⟩ = some av := by rw [← htk]; exact hta
              rw [this] at h5
              exact h5
            obtain ⟨v2, rfl, ho5, hk5⟩ := h5'
            have hga := term_atom HGL.out HAT.out hta
            have HMA : Hid (mayL [ofS [av]] = true) := Lib.hid (may_single (may_word hga.1 hga.2.1))
            have HR1 : Hid (runS L (X.drop (k + 1)) ([ofS [av]] :: ls.reverse) (k + 1) = runS L X [] 0) := Lib.hid (by rw [← run_atom k1 hta]; exact HRS.out)
            have HO5 := Lib.hid ho5
            have HK5 := Lib.hid hk5
            obtain ⟨ao2, c2', hv2, _⟩ := own_slice ho5
            subst hv2
            have HP5 : Hid (SetsRow W0 (w5.alloc (.cells #[.slice ao2 1 c2'] 33)) _ ls) := Lib.hid (hp.out.kept ((HB1.out.trans hk5).trans (Fr.of_alloc _ _ _)))
            obtain ⟨bs0, dd, hv, hd⟩ := hp.out.form
            subst hv
            obtain ⟨vs, hov, _⟩ := HP5.out.vals
            have HOV := Lib.hid hov
            have HP := Lib.hid hp.out
            have hls := HLS.out
            clear h5 hta hga ho5 hk5 HAL htk hov hp
            generalize hml : ls.length = m at *
            have HML := Lib.hid hml
            clear hml
            go_wp2_with (at_builtin; refine list_app rfl (.tmp 66) (.tmp 68) 69 69 rfl Tryz.sliceSet rfl HOV.out rfl (src_one (u := .slice ao2 1 c2') Tryz.underlying69 (heap_alloc_new _ _) rfl) (by unfold maxLen; omega) (by omega) (by obtain ⟨_, _, hkk, _⟩ := HP5.out; exact hkk.size) ?_; intro v1 w6 hq; have HQ := Lib.hid (HP.out.add HB1.out HO5.out HK5.out (by rw [HML.out]; exact HOV.out) (by rw [HML.out]; exact hq)); clear hq)
            go_roundw
            case rel => exact ⟨k + 1, es ++ [.atom t.tok], ls ++ [[ofS [av]]], by go_num, by omega, Lib.hid ⟨hst.out.1.atom HTK.out HAT.out.1 HAT.out.2, by simp [HML.out, hst.out.2]⟩, Lib.hid (by simpa using HR1.out), Lib.hid (fun x hx => by
                rcases List.mem_append.1 hx with hx | hx
                · exact hmay.out x hx
                · simp at hx; subst hx; exact HMA.out), HQ⟩
            case measure => simp [intOf]; omega
        · have g1 : (t.op == 1) = false := by simp [k1]
          obtain ⟨es', ea, eb, he, hst2⟩ := hst.out.1.op_may HE.out HTK.out k1
          obtain ⟨fs, a, b, hls⟩ := two_last (l := ls) (by rw [hst.out.2, he]; simp)
          subst hls
          have HNS := Lib.hid hst2
          have HLE : Hid (fs.length = es'.length) := Lib.hid (by have := hst.out.2; rw [he] at this; simpa using this)
          have HMA : Hid (mayL a = true ∧ mayL b = true) := Lib.hid ⟨hmay.out a (by simp), hmay.out b (by simp)⟩
          have HMF : Hid (∀ x ∈ fs, mayL x = true) := Lib.hid (fun x hx => hmay.out x (by simp [hx]))
          obtain ⟨gs, cap, hv, hcap, hgw, hgl, hcell⟩ := hp.out.cell (by simp)
          subst hv
          obtain ⟨ua, ha1, ha2⟩ := hcell fs.length a (by simp)
          obtain ⟨ub, hb1, hb2⟩ := hcell (fs.length + 1) b (by simp)
          have hop : t.op = 2 ∨ t.op = 3 ∨ t.op = 4 ∨ t.op = 5 := by
            have h1 := (post_terms HE.out.1 t.tok (by rw [← HE.out.2.1]; exact List.mem_of_getElem? HTK.out)).2
            rw [kbind_other (show t.tok.kind ≠ 1 from k1)] at h1
            exact bind_cases h1
          obtain ⟨f, hf⟩ := op_is hop
          have HOP := Lib.hid hf
          have HR2 : Hid (runS L (t.tok :: X.drop (k + 1)) (b :: a :: fs.reverse) k = runS L X [] 0) := Lib.hid (by have := HRS.out; simpa using this)
          have HKI : Hid (t.tok.kind ≠ 1) := Lib.hid k1
          have hlen : (fs ++ [a, b]).length = fs.length + 2 := by simp
          have hls200 := HLS.out
          rw [hlen] at hls200
          have HP := Lib.hid hp.out
          have HBD : Hid (Kept wr (wr.alloc (.cells #[.int .i64 t.op, .int .i64 t.of, .string t.name] 52)).drew) := Lib.hid (HKB.out.trans (Fr.of_drew _ _))
          have HCALL := Lib.hid (hf.calls (ha2.any.new HBD.out) (hb2.any.new HBD.out) HMA.out.1 HMA.out.2)
          have e1 : t.op.toNat < 6 := by have := hf.hi; have := hf.lo; omega
          have e2 : 0 ≤ t.op := by have := hf.lo; omega
          have e3 : t.op < 6 := by have := hf.hi; omega
          have eg := hf.enters
          have s0 : (wr.alloc (.cells #[.int .i64 t.op, .int .i64 t.of, .string t.name] 52)).drew.cell? ⟨wr.heap.size, 0, none⟩ = some (.int .i64 t.op) := cell_whole (heap_alloc_new wr _) 0
          have s1 := HBO.out _ (HKW0.out.trans HBD.out) _ _ hf.cell
          have s2 := HBD.out.cell ha1 (fun x => x)
          have s3 := HBD.out.cell hb1 (fun x => x)
          clear he hst2 hst hmay HRS hcell ha1 hb1 hp hgw hgl k1 hf hop ha2 hb2
          rw [hlen] at hcap ⊢
          have HLN2 := Lib.hid hlen
          clear hlen
          generalize hml : fs.length = m at *
          have HML := Lib.hid hml
          clear hml
          generalize hn2 : m + 2 = n2 at *
          have HN2 := Lib.hid hn2
          have p2 : (n2 : Int) - 2 = (m : Int) := by omega
          have p1 : ((m : Int) + 1).toNat = m + 1 := by omega
          have p1b : 0 ≤ (m : Int) + 1 := by omega
          have p1c : (m : Int) + 1 < (n2 : Int) := by omega
          have p1d : IntKind.i64.wrap ((m : Int) + 1) = (m : Int) + 1 := IntWalk.i64_in _ (by omega)
          have p3 : (m : Int) < (n2 : Int) := by omega
          have p5 : (m : Int).toNat = m := by omega
          have p6 : m ≤ cap := by omega
          clear hn2
          generalize hkn : t.op.toNat = kn at *
          go_upto_region 13 with fail
          go_region_held3 (fun w' => w'.cell? ⟨wr.heap.size, 0, none⟩ = some (.int .i64 t.op) ∧ w'.cell? ⟨bo, kn, none⟩ = some (.func (.func f) #[] #[]) ∧ w'.cell? ⟨gs, m, none⟩ = some ua ∧ w'.cell? ⟨gs, m + 1, none⟩ = some ub) (first | exact ⟨s0, s1, s2, s3⟩ | exact ⟨z0, z1, z2, z3⟩) (first
            | (refine HCALL.out.mono ?_; rintro e w5 ⟨v2, rfl, ho5, hk5⟩; have HO5 := Lib.hid ho5; have HK5 := Lib.hid hk5; have z0 := hk5.cell s0 (fun x => x); have z1 := hk5.cell s1 (fun x => x); have z2 := hk5.cell s2 (fun x => x); have z3 := hk5.cell s3 (fun x => x); obtain ⟨ao2, c2', hv2, _⟩ := own_slice ho5; subst hv2; clear ho5 hk5))
          have hl16 := opL_len t.op a b
          have HRO : Hid ((opL t.op a b).2 = 0 → runS L (X.drop (k + 1)) ((opL t.op a b).1 :: fs.reverse) (k + 1) = runS L X [] 0) := Lib.hid (fun h0 => by
            have h1 := run_op (L := L) (t := t.tok) (r := X.drop (k + 1)) (st := fs.reverse) (a := a) (b := b) (i := k) HKI.out h0
            exact h1.symm.trans HR2.out)
          have HRN : Hid ((opL t.op a b).2 ≠ 0 → RunIs L X ([], k, (opL t.op a b).2)) := Lib.hid (fun h0 => by
            have h1 := run_bad (L := L) (t := t.tok) (r := X.drop (k + 1)) (st := fs.reverse) (a := a) (b := b) (i := k) HKI.out h0
            have h2 := HW.out
            rw [← HR2.out, h1] at h2
            exact h2)
          have HMO : Hid ((opL t.op a b).2 = 0 → mayL (opL t.op a b).1 = true) := Lib.hid (fun h0 => opL_may HMA.out.1 HMA.out.2 (Prod.ext rfl h0))
          generalize hro : opL t.op a b = ro at *
          obtain ⟨rs, rq⟩ := ro
          simp only [] at HRO HRN HMO hl16 HO5 ⊢
          clear hro s0 s1 s2 s3 z0 z1 z2 z3 HCALL HOP
          by_cases hq0 : rq = 0
          · subst hq0
            rw [HLN2.out, ← HN2.out, ← HML.out] at HP
            have HCUT := Lib.hid (SetsRow.cut (ls := fs) (ms := [a, b]) (by have := HP.out; rw [List.length_append]; exact this))
            have HP5 : Hid (SetsRow W0 (w5.alloc (.cells #[.slice ao2 rs.length c2'] 33)) (.slice (some ⟨gs, 0, none⟩) fs.length cap) fs) := Lib.hid (HCUT.out.kept ((HBD.out.trans HK5.out).trans (Fr.of_alloc _ _ _)))
            obtain ⟨vs, hov, _⟩ := HP5.out.vals
            rw [HML.out] at hov
            have HOV := Lib.hid hov
            clear hov
            go_wp2_with (at_builtin; refine list_app rfl (.tmp 66) (.tmp 68) 69 69 rfl Tryz.sliceSet rfl HOV.out rfl (src_one (u := .slice ao2 rs.length c2') Tryz.underlying69 (heap_alloc_new _ _) rfl) (by unfold maxLen; omega) (by omega) (by obtain ⟨_, _, hkk, _⟩ := HP5.out; exact hkk.size) ?_; intro v1 w6 hq; have HQ := Lib.hid (HCUT.out.add HBD.out HO5.out HK5.out (by rw [HML.out]; exact HOV.out) (by rw [HML.out]; exact hq)); clear hq)
            go_roundw
            case rel => exact ⟨k + 1, es' ++ [.bin t.tok.kind ea eb], fs ++ [rs], by go_num, by omega, Lib.hid ⟨HNS.out, by simp [HML.out, HLE.out]⟩, Lib.hid (by simpa using HRO.out (by simp)), Lib.hid (fun x hx => by
                rcases List.mem_append.1 hx with hx | hx
                · exact HMF.out x hx
                · simp at hx; subst hx; exact HMO.out (by simp)), HQ⟩
            case measure => simp [intOf]; omega
          · have gq : (rq != 0) = true := by simp [hq0]
            have HX := Lib.hid (HRN.out hq0)
            have HKE := Lib.hid ((HKW.out.trans HBD.out).trans HK5.out)
            clear hq0
            go_wp2
            go_ret3
            exact run_post_bad HX.out HKE.out
      · have hlti : ¬ (k : Int) < n := by omega
        obtain ⟨f, hf, hmf⟩ := hst.out.1.one HE.out (by rw [HM.out]; omega)
        have hl1 : ls.length = 1 := by rw [hst.out.2, hf]; rfl
        match ls, hl1 with
        | [s], _ =>
          obtain ⟨gs, cap, hv, hcap, hgw, hgl, hcell⟩ := hp.out.cell (by simp)
          subst hv
          obtain ⟨u, hu1, hu2⟩ := hcell 0 s rfl
          have HRU := Lib.hid hu2
          obtain ⟨aou, cu, hus, _⟩ := hu2
          subst hus
          have HX : Hid (RunIs L X (s, 0, 0)) := Lib.hid (by
            have := HW.out
            rw [← hrun.out, List.drop_eq_nil_of_le (by rw [HM.out]; omega)] at this
            exact this)
          clear hst hrun hmay hcell hf hmf
          simp only [List.length_cons, List.length_nil] at hcap ⊢
          go_wp2
          go_ret3
          exact ⟨_, s, 0, 0, rfl, HX.out, HRU.out.any, HKW.out⟩

open Go.RowKit Go.ChangeShapes Go.WideShapes
set_option maxRecDepth 20000
set_option maxHeartbeats 4000000 in
theorem kread6_any {w : World} {F : Nat → Prop} {B : Nat} {L : Nat → List ByteArray} (hT : Atm.Tab w F B L) (s : ByteArray) (hs : s.size ≤ 1000000) (hLd : LaidT w) :
    Calls Tryz.prog 15 #[.pointer (some ⟨B, 0, none⟩), .string s] w (Read6Post L (bs s) w) := by
  have HT := Lib.hid hT
  have HLD := Lib.hid hLd
  clear hT hLd
  go_enter Tryz.func15, Tryz.ntmps15
  go_wp2_with fail
  refine (kparse_any s w hs HLD.out).mono ?_
  rintro e w1 ⟨v, x, n, q, rfl, hpi, hx, hk1⟩
  have HP := Lib.hid hpi
  have HX := Lib.hid hx
  have HK1 := Lib.hid hk1
  have hx0 := hx
  obtain ⟨ao, c, rfl, _⟩ := hx0
  clear hpi hx hk1
  by_cases hq : q = 0
  · subst hq
    have HB := Lib.hid (parse_names HP.out)
    go_wp2_with fail
    refine (krun6_any (HT.out.later HK1.out) HX.out (by rw [toX_len]; have := HB.out.1; omega) HB.out.2 (HLD.out.kept HK1.out)).mono ?_
    rintro e w2 ⟨v2, y, n2, q2, rfl, hr, hrd, hk2⟩
    rw [toX_tok] at hr
    have HR := Lib.hid hr
    have HRD := Lib.hid hrd
    have HK2 := Lib.hid (HK1.out.trans hk2)
    obtain ⟨ao2, c2, rfl, _⟩ := hrd
    clear hr hk2
    go_wp2
    go_ret3
    exact ⟨_, y, 0, q2, rfl, ⟨x, n, 0, HP.out, .inr ⟨rfl, _, HR.out, rfl⟩⟩, HRD.out, HK2.out⟩
  · have gq : (q != 0) = true := by simp [hq]
    have HR : Hid (Read6 L (bs s) ([], n, q)) := Lib.hid ⟨x, n, q, HP.out, .inl ⟨hq, rfl⟩⟩
    clear hq
    go_wp2
    go_ret3
    exact read6_bad HR.out HK1.out
theorem kread6_none (s : ByteArray) (w : World) : Calls Tryz.prog 15 #[.pointer none, .string s] w fun e w' => ∃ v n, e = .returned (.tuple #[v, n, .int .i64 2]) ∧ Kept w w' := by
  go_enter Tryz.func15, Tryz.ntmps15
  go_wp2
  go_ret3
  exact ⟨_, _, rfl, Fr.refl _ _⟩

end Go.Proofs.YtbfealhbdemhmaaGreatDoor
