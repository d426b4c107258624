/- SetOrder' walk. -/
import Derived.Test.YtdapklamemalgaaAnds
namespace Go.Proofs.Ytdapklamemalgaa
set_option linter.unusedVariables false
set_option linter.unusedSimpArgs false
open Go.RowKit Go.ChangeShapes Go.WideShapes


/-- words laid down on the way: each is one of l's, and those from l's end on are there -/
def Mixed (l ms : List ByteArray) (k : Nat) : Prop := ms.length = 2 * k ∧ (∀ z ∈ ms, z ∈ l) ∧ ∀ i y, i < k → l[l.length - 1 - i]? = some y → y ∈ ms
theorem Mixed.zero (l : List ByteArray) : Mixed l [] 0 := ⟨rfl, fun z hz => by simp at hz, fun i y hi => by omega⟩
theorem Mixed.step {l ms : List ByteArray} {k q : Nat} {x y : ByteArray} (h : Mixed l ms k) (hx : l[q]? = some x) (hy : l[l.length - 1 - k]? = some y) : Mixed l (ms ++ [x, y]) (k + 1) := by
  refine ⟨by rw [List.length_append, h.1]; simp; omega, fun z hz => ?_, fun i w hi hw => ?_⟩
  · rcases List.mem_append.1 hz with h1 | h1
    · exact h.2.1 z h1
    · simp at h1
      rcases h1 with rfl | rfl
      · exact List.mem_of_getElem? hx
      · exact List.mem_of_getElem? hy
  · rcases Nat.lt_or_ge i k with h1 | h1
    · exact List.mem_append_left _ (h.2.2 i w h1 hw)
    · obtain rfl : i = k := by omega
      rw [hy] at hw; cases hw
      simp
theorem Mixed.same {l ms : List ByteArray} (h : Mixed l ms l.length) : ∀ z, z ∈ ms ↔ z ∈ l := by
  refine fun z => ⟨h.2.1 z, fun hz => ?_⟩
  obtain ⟨i, hi⟩ := List.mem_iff_getElem?.1 hz
  have hlt := (List.getElem?_eq_some_iff.1 hi).1
  exact h.2.2 (l.length - 1 - i) z (by omega) (by rw [show l.length - 1 - (l.length - 1 - i) = i by omega]; exact hi)
theorem u8_bounds {i : Int} (wi : (Lit.int .u8 i).wf = true) : 0 ≤ i ∧ i ≤ 255 := by
  simp [Lit.wf, IntKind.min, IntKind.max, IntKind.signed, IntKind.bits] at wi
  omega
theorem len_one {l : List ByteArray} (h : largeB [l] = false) : l.length ≤ 60 := by
  unfold largeB at h
  simp at h
  exact (bigB_no h).1
theorem JoinPart.two {w wr w1 : World} {l : List ByteArray} {v v1 : Value} {x y : ByteArray} (h : JoinPart w wr l v) {wx : World} (hw : Kept wr wx)
    (hp : AppPost wx w.heap.size 36 1 v (l.length + 2) (wcells l ++ [.string x, .string y]) v1 w1) : JoinPart w w1 (l ++ [x, y]) v1 :=
  JoinPart.step (m := [x, y]) ⟨own_kept h.1 hw, h.2.trans hw⟩ hp
set_option maxHeartbeats 4000000 in
theorem setOrder_walk {w : World} (v1 : Value) (h1 : SetAt w v1) (t : Int) (wt : (Lit.int .u8 t).wf = true) :
    Calls Try.prog 8 #[v1, .int .u8 t] w fun e w' => e = .returned (.bool true) ∧ Fr (fun _ => False) w w' := by
  obtain ⟨l, hl, hsl, hll⟩ := h1
  have HL := Lib.hid hl
  have HSL := Lib.hid hsl
  have HLL := Lib.hid hll
  obtain ⟨lo, lc, rfl, _, _⟩ := hl
  rw [wcells_len] at HL ⊢
  obtain ⟨n, hn⟩ : ∃ n, n = l.length := ⟨_, rfl⟩
  rw [← hn] at HL ⊢
  have HN := Lib.hid hn
  clear hn hsl hll
  obtain ⟨ht0, ht1⟩ := u8_bounds wt
  go_enter Try.func8, Try.ntmps8
  go_wp2_with fail
  refine (awake_any w).mono ?_
  rintro e w1 ⟨rfl, hk⟩
  have HK := Lib.hid hk
  clear hk
  go_wp2_with fail
  refine (large_any (ls := [l]) (g := w1.heap.size) (vs := [.slice lo n lc]) (heap_alloc_new w1 _) (sets_one ((HL.out.new HK.out).new (Fr.of_alloc _ _ _)) HLL.out HSL.out) (by simp)).mono ?_
  rintro e w2 ⟨rfl, rfl⟩
  replace HK := Lib.hid (HK.out.trans (Fr.of_alloc (fun _ => False) w1 (Obj.cells #[.slice lo n lc] 23)))
  cases hlg : largeB [l]
  rotate_left
  · clear hlg
    go_wp2
    go_ret
    exact ⟨rfl, HK.out⟩
  have FL := Lib.hid (fits_one hlg)
  have hn60 : n ≤ 60 := by have := len_one hlg; have := HN.out; omega
  clear hlg HSL HLL
  generalize w1.alloc (Obj.cells #[.slice lo n lc] 23) = w2 at *
  replace HL := Lib.hid (HL.out.new HK.out)
  have H0 : Hid (JoinPart w2 (w2.alloc (Obj.cells #[] 36)) [] (.slice (some ⟨w2.heap.size, 0, none⟩) 0 0)) := Lib.hid ⟨own_new (heap_alloc_new w2 _) (Nat.le_refl _), Fr.of_alloc _ _ _⟩
  have H0M : Hid (Mixed l [] 0) := Lib.hid (Mixed.zero l)
  go_wp2_with fail
  go_loopw [5, 20] (fun v i wr => ∃ (k : Nat) (ms : List ByteArray), k ≤ n ∧ i = .int .i64 k ∧ Hid (JoinPart w2 wr ms v) ∧ Hid (Mixed l ms k)) (fun _ i _ => n - (intOf i).toNat)
  case atStart => exact ⟨0, [], by omega, rfl, H0, H0M⟩
  case round =>
    obtain ⟨k, ms, hk, rfl, hp, hmix⟩ := hrel
    clear H0 H0M
    by_cases hlt : k < n
    · have h1 : (k : Int) < n := by omega
      obtain ⟨q, hq⟩ : ∃ q : Nat, (q : Int) = ((k : Int) + t).tmod n := ⟨(((k : Int) + t).tmod n).toNat, by
        have := Int.tmod_nonneg (a := (k : Int) + t) n (by omega)
        omega⟩
      have hqn : q < n := by
        have := Int.tmod_lt_of_pos ((k : Int) + t) (b := (n : Int)) (by omega)
        omega
      obtain ⟨p, hp2⟩ : ∃ p : Nat, p = n - 1 - k := ⟨_, rfl⟩
      have hpn : p < n := by omega
      obtain ⟨x, hx⟩ : ∃ x, l[q]? = some x := ⟨_, List.getElem?_eq_getElem (by have := HN.out; omega)⟩
      obtain ⟨y, hy⟩ : ∃ y, l[p]? = some y := ⟨_, List.getElem?_eq_getElem (by have := HN.out; omega)⟩
      have hlv := HL.out
      obtain ⟨lo', lc', e1, _, hbx⟩ := hlv
      obtain ⟨gx, ox, e2, _, hcx0⟩ := hbx q _ (wcells_get hx)
      obtain ⟨gy, oy, e3, _, hcy0⟩ := hbx p _ (wcells_get hy)
      rw [wcells_len, ← HN.out] at e1
      cases e1
      cases e2
      cases e3
      have hcx := hp.out.2.cell hcx0 (fun x => x)
      have hcy := hp.out.2.cell hcy0 (fun x => x)
      have HX := Lib.hid hx
      have HY : Hid (l[l.length - 1 - k]? = some y) := Lib.hid (by rw [← HN.out, ← hp2]; exact hy)
      have HLM : Hid (ms.length ≤ 120) := Lib.hid (by have := hmix.out.1; omega)
      have f1 : IntKind.i64.wrap t = t := IntWalk.i64_in _ (by omega)
      have f2 : IntKind.i64.wrap ((k : Int) + t) = (k : Int) + t := IntWalk.i64_in _ (by omega)
      have f3 : ((k : Int) + t).tmod (n : Int) = (q : Int) := hq.symm
      have f4 : IntKind.i64.wrap (q : Int) = (q : Int) := IntWalk.i64_in _ (by omega)
      have f5 : IntKind.i64.wrap ((n : Int) - 1) = (n : Int) - 1 := IntWalk.i64_in _ (by omega)
      have f6 : (n : Int) - 1 - (k : Int) = (p : Int) := by omega
      have f7 : IntKind.i64.wrap (p : Int) = (p : Int) := IntWalk.i64_in _ (by omega)
      have f8 : ¬ n = 0 := by omega
      have f9 : (q : Int) < n := by omega
      have f10 : (p : Int) < n := by omega
      clear hbx hcx0 hcy0 hx hy hq hp2
      obtain ⟨bo, d, hv, _⟩ := own_slice hp.out.1
      subst hv
      go_upto_region 9 with fail
      go_region_law (refine step_app rfl (.tmp 23) (.tmp 42) 22 22 rfl Try.slice22 rfl (by exact own_kept hp.out.1 ((Fr.of_alloc _ _ _).trans (Fr.of_drew _ _))) rfl (by exact src_two Try.underlying22 (heap_alloc_new wr _) rfl rfl) (by have := HLM.out; unfold maxLen; omega) (by have := HLM.out; omega) (by have := hp.out.2.size; simp; omega) ?_; intro v2 w3 hq; have Hq := Lib.hid (hp.out.two ((Fr.of_alloc _ _ _).trans (Fr.of_drew _ _)) hq); clear hq hp)
      all_goals
        clear f1 f2 f3 f4 f5 f6 f7 f8 f9 f10
        go_wp2
        go_roundw
        case rel => exact ⟨k + 1, ms ++ [x, y], by omega, by go_num, Hq, Lib.hid (hmix.out.step HX.out HY.out)⟩
        case measure => simp [intOf]; omega
    · obtain rfl : k = n := by omega
      have HOF : Hid (ofL ms = ofL l) := Lib.hid (of_same (by have := hmix.out; rw [HN.out] at this; exact this.same))
      obtain ⟨x, e1, hx⟩ : ∃ x e, ofL l = (x, e) := ⟨_, _, rfl⟩
      have E1 := Lib.hid hx
      have E1b : Hid (ofL ms = (x, e1)) := Lib.hid (by rw [HOF.out]; exact hx)
      have HLX : Hid (x.length ≤ 16) := Lib.hid (by have := ofL_len l; rw [hx] at this; exact this)
      have HMS : Hid (ms.length ≤ 120) := Lib.hid (by have := hmix.out.1; omega)
      have HSM : Hid (Small maxLen ms) := Lib.hid (fun z hz => FL.out.max z (hmix.out.2.1 z hz))
      have HSX : Hid (Small maxLen x) := Lib.hid (fun z hz => by
        by_cases he : e1 = 0
        · subst he
          rw [(of_zero E1.out).1] at hz
          exact FL.out.max z ((mem_right z l).1 hz)
        · have : x = [] := by
            have h2 := E1.out
            unfold ofL at h2
            split at h2
            · cases h2; rfl
            · exact (boundL_err h2 he).1
          rw [this] at hz; simp at hz)
      have HM := Lib.hid (Reads.of_row hp.out.1)
      have HL2 := Lib.hid (HL.out.new hp.out.2)
      have HKR := Lib.hid (HK.out.trans hp.out.2)
      clear hx hmix hp
      go_wp2_with fail
      refine (of_set HL2.out FL.out.len FL.out.max).mono ?_
      rintro e wa ⟨va, rfl, ho, hka⟩
      rw [E1.out] at ho ⊢
      replace HM := Lib.hid (HM.out.new hka)
      replace HL2 := Lib.hid (HL2.out.new hka)
      replace HKR := Lib.hid (HKR.out.trans hka)
      have HA := Lib.hid (Reads.of_row ho).any
      obtain ⟨xo, xc, hvx, _⟩ := own_slice ho
      subst hvx
      clear ho hka
      go_wp2_with fail
      refine (of_set HM.out (by have := HMS.out; omega) HSM.out).mono ?_
      rintro e wb ⟨vb, rfl, ho, hkb⟩
      rw [E1b.out] at ho ⊢
      replace HA := Lib.hid (HA.out.new hkb)
      replace HL2 := Lib.hid (HL2.out.new hkb)
      replace HKR := Lib.hid (HKR.out.trans hkb)
      have HB := Lib.hid (Reads.of_row ho).any
      clear ho hkb HM
      go_wp2_with fail
      refine (equal_kept HA.out HB.out (by have := HLX.out; omega) (by have := HLX.out; omega)).mono ?_
      rintro e wc ⟨rfl, hkc⟩
      rw [eq_self]
      replace HA := Lib.hid (HA.out.new hkc)
      replace HL2 := Lib.hid (HL2.out.new hkc)
      replace HKR := Lib.hid (HKR.out.trans hkc)
      clear hkc HB
      have hlx := HLX.out
      have HRS := Lib.hid (of_rising E1.out)
      generalize hnx : x.length = nx at HA hlx ⊢
      have HNX := Lib.hid hnx
      clear hnx
      go_wp2_with fail
      go_loopw [11] (fun i wr => ∃ j : Nat, i = .int .i64 ((j : Int) + 1) ∧ j ≤ nx ∧ Hid (Kept wc wr)) (fun i _ => nx + 1 - (intOf i).toNat)
      case atStart => exact ⟨0, by simp, by omega, Lib.hid (Fr.refl _ _)⟩
      case round =>
        obtain ⟨j, rfl, hjn, hkr⟩ := hrel
        by_cases hlt : j + 1 < nx
        · have h1 : (j : Int) + 1 < nx := by omega
          have h3 : (j : Int) < nx := by omega
          obtain ⟨u, hu⟩ : ∃ u, x[j]? = some u := ⟨_, List.getElem?_eq_getElem (by have := HNX.out; omega)⟩
          obtain ⟨v, hv⟩ : ∃ v, x[j + 1]? = some v := ⟨_, List.getElem?_eq_getElem (by have := HNX.out; omega)⟩
          obtain ⟨xo', xc', e1', _, hbx⟩ := HA.out
          obtain ⟨gu, ou, e2', _, hcu0⟩ := hbx j _ (wcells_get hu)
          obtain ⟨gv, ov, e3', _, hcv0⟩ := hbx (j + 1) _ (wcells_get hv)
          rw [wcells_len, HNX.out] at e1'
          cases e1'
          cases e2'
          cases e3'
          have hcu := hkr.out.cell hcu0 (fun x => x)
          have hcv := hkr.out.cell hcv0 (fun x => x)
          have HLS : Hid (∀ W, Calls Try.prog 34 #[.string u, .string v] W (DrewPost (.bool true) W)) := Lib.hid (fun W => by
            rw [← rising_at HRS.out (Nat.lt_succ_self j) hu hv]
            exact rless_any u v W (HSX.out u (List.mem_of_getElem? hu)) (HSX.out v (List.mem_of_getElem? hv)))
          have g1 : (j : Int) + 1 - 1 = j := by omega
          have g2 : ((j : Int) + 1).toNat = j + 1 := by omega
          have g3 : 0 ≤ (j : Int) + 1 := by omega
          have g4 : IntKind.i64.wrap (j : Int) = j := IntWalk.i64_in _ (by omega)
          have g5 : IntKind.i64.wrap ((j : Int) + 1 - 1) = j := by rw [g1]; exact g4
          clear hbx hcu0 hcv0 hu hv
          go_wp2_with fail
          go_quiet ((go_at_call 34; exact quiet_drew HLS.out))
          clear g1 g2 g4 g5
          go_wp2_with fail
          go_roundw
          case rel => exact ⟨j + 1, by go_num, by omega, Lib.hid (hkr.out.trans (Fr.of_drewN _ _ _))⟩
          case measure => simp [intOf]; omega
        · have h1 : ¬ (j : Int) + 1 < nx := by omega
          have hka := Lib.hid (HKR.out.trans hkr.out)
          have ha2 := Lib.hid (HA.out.new hkr.out)
          have hl2 := Lib.hid (HL2.out.new hkr.out)
          by_cases he : e1 = 0
          · subst he
            have Z := Lib.hid (of_zero E1.out)
            go_wp2_with fail
            refine (same_any ha2.out hl2.out (by have := HLX.out; omega) FL.out.len HSX.out FL.out.max).mono ?_
            rintro e wd ⟨rfl, hkd⟩
            rw [Z.out.2.2]
            replace ha2 := Lib.hid (ha2.out.new hkd)
            replace hka := Lib.hid (hka.out.trans hkd)
            clear hkd
            go_wp2_with fail
            refine (may_set ha2.out (by have := HLX.out; omega) HSX.out).mono ?_
            rintro e we ⟨rfl, hke⟩
            rw [Z.out.2.1]
            replace hka := Lib.hid (hka.out.trans hke)
            clear hke
            go_wp2_with fail
            go_ret
            exact ⟨rfl, hka.out⟩
          · have g1 := bne_zero he
            clear he
            go_wp2_with fail
            go_ret
            exact ⟨rfl, hka.out⟩
end Go.Proofs.Ytdapklamemalgaa
