/- What the document's Of, Equal, Has, Within, Same and Heavy do. -/
import Derived.Test.YtdapklamemalgaaRmayS
import Derived.Test.YtdapklamemalgaaWithin
namespace Go.Proofs.Ytdapklamemalgaa
set_option linter.unusedVariables false
set_option linter.unusedSimpArgs false
open Go.RowKit Go.ChangeShapes Go.WideShapes

theorem bound_any {w0 w : World} {v : Value} {s : List ByteArray} (ho : w.ownsRow w0.heap.size 36 1 v s.length (wcells s)) (hk : Kept w0 w) :
    Calls Try.prog 38 #[v] w (SetPost (boundL s) w0) := by
  obtain ⟨bo, d, rfl, hd⟩ := own_slice ho
  have HO := Lib.hid ho
  have HK := Lib.hid hk
  clear ho hk
  generalize hm : s.length = m at HO hd ⊢
  by_cases h0 : m < 1
  · have HB : Hid (boundL s = ([], 3)) := Lib.hid (boundL_no (.inl (by omega)))
    have g0 : (m : Int) < 1 := by omega
    clear hm
    go_enter Try.func38, Try.ntmps38
    go_wp2
    go_ret2
    exact set_post HB.out (own_nil _ _ _ _) HK.out
  · have g0 : ¬ (m : Int) < 1 := by omega
    by_cases h16 : 16 < m
    · have HB : Hid (boundL s = ([], 3)) := Lib.hid (boundL_no (.inr (by omega)))
      have g1 : 16 < (m : Int) := by omega
      clear hm h0
      go_enter Try.func38, Try.ntmps38
      go_wp2
      go_ret2
      exact set_post HB.out (own_nil _ _ _ _) HK.out
    · have HB : Hid (boundL s = (s, 0)) := Lib.hid (boundL_ok (by omega))
      have g1 : ¬ 16 < (m : Int) := by omega
      have HM := Lib.hid hm
      clear hm h0
      go_enter Try.func38, Try.ntmps38
      go_wp2
      go_ret2
      exact set_post HB.out (by rw [HM.out]; exact HO.out) HK.out
set_option maxHeartbeats 1000000 in
theorem rof_set {w : World} {G : Nat → Prop} {v : Value} {l : List ByteArray} (h : Reads w G v (wcells l)) (hl : l.length ≤ 100000) (hs : Small 100000 l) :
    Calls Try.prog 13 #[v] w (SetPost (ofL l) w) := by
  have HR := Lib.hid h
  obtain ⟨ao, c, rfl, _, hc⟩ := h
  rw [wcells_len] at HR ⊢
  have HC := Lib.hid hc
  have HS := Lib.hid hs
  clear hc hs
  generalize hn : l.length = n at HR hl ⊢
  have HN := Lib.hid hn
  clear hn
  have H0 : Hid (Kept w w) := Lib.hid (Fr.refl _ _)
  go_enter Try.func13, Try.ntmps13
  go_wp2
  go_loopw [4] (fun i wr => ∃ k : Nat, k ≤ n ∧ i = .int .i64 k ∧ Hid (Kept w wr) ∧ Hid (∀ j y, j < k → l[j]? = some y → mayS y = true)) (fun i _ => n - (intOf i).toNat)
  case atStart => exact ⟨0, by omega, rfl, H0, Lib.hid (fun j y hj => by omega)⟩
  case round =>
    obtain ⟨k, hk, rfl, HK, hall⟩ := hrel
    clear H0
    by_cases hlt : k < n
    · have h1 : (k : Int) < n := by omega
      obtain ⟨x, hx⟩ : ∃ x, l[k]? = some x := ⟨_, List.getElem?_eq_getElem (by have := HN.out; omega)⟩
      obtain ⟨g, off, rfl, _, hcell0⟩ := HC.out k _ (wcells_get hx)
      have hcell := HK.out.cell hcell0 (fun x => x)
      have hsx := Lib.hid (HS.out x (List.mem_of_getElem? hx))
      have HX := Lib.hid hx
      clear hx hcell0
      cases hm : mayS x
      · have HA := Lib.hid (ofL_bad HX.out hm)
        go_wp2_with (go_at_call 37; refine (rmay_any _ _ hsx.out).mono ?_; rintro e w' ⟨rfl, hk1⟩; rw [hm]; replace HK := Lib.hid (HK.out.trans hk1); clear hk1)
        go_ret2
        exact set_post HA.out (own_nil _ _ _ _) HK.out
      · have HA := Lib.hid (get_step hall.out HX.out hm)
        go_wp2_with (go_at_call 37; refine (rmay_any _ _ hsx.out).mono ?_; rintro e w' ⟨rfl, hk1⟩; rw [hm]; replace HK := Lib.hid (HK.out.trans hk1); clear hk1)
        go_roundw
        case rel => exact ⟨k + 1, by omega, by go_num, HK, HA⟩
        case measure => simp [intOf]; omega
    · have HA := Lib.hid (ofL_ok (l := l) (fun j y hj hy => hall.out j y (by have := HN.out; omega) hy))
      have HR1 := Lib.hid (HR.out.new HK.out)
      go_wp2_with fail
      refine (rright_any HR1.out (by rw [HN.out]; exact hl) HS.out).mono ?_
      rintro e w1 ⟨v1, rfl, ho1, hk1⟩
      have HO := Lib.hid (own_base ho1 (base' := w.heap.size) (fun g hg => by
        rcases ho1.2 with ⟨rfl, _⟩ | ⟨g', cap, cur, rfl, hb, _⟩
        · simp [Value.ownBlock] at hg
        · simp [Value.ownBlock] at hg
          have := HK.out.size
          omega))
      replace HK := Lib.hid (HK.out.trans hk1)
      clear hk1 ho1
      go_wp2_with fail
      refine (bound_any HO.out HK.out).mono ?_
      rintro e w2 ⟨v2, rfl, ho2, hk2⟩
      have HP : Hid (SetPost (ofL l) w (.returned (.tuple #[v2, .int .i64 (ofL l).2])) w2) := Lib.hid (by rw [HA.out]; exact ⟨v2, rfl, ho2, hk2⟩)
      rw [← HA.out]
      clear ho2 hk2
      go_wp2
      go_ret2
      exact HP.out
set_option maxHeartbeats 1000000 in
theorem equal_any {w : World} {G G' : Nat → Prop} {va vb : Value} {a b : List ByteArray} (ha : Reads w G va (wcells a)) (hb : Reads w G' vb (wcells b)) (hla : a.length ≤ 100000) (hlb : b.length ≤ 100000) :
    Calls Try.prog 14 #[va, vb] w (DrewPost (.bool (decide (a = b))) w) := by
  obtain ⟨ao, ca, rfl, _, hca⟩ := ha
  obtain ⟨bo, cb, rfl, _, hcb⟩ := hb
  rw [wcells_len, wcells_len]
  have HCA := Lib.hid hca
  have HCB := Lib.hid hcb
  clear hca hcb
  generalize hna : a.length = na at hla ⊢
  generalize hnb : b.length = nb at hlb ⊢
  have HNA := Lib.hid hna
  have HNB := Lib.hid hnb
  by_cases hlen : na = nb
  · subst hlen
    have g0 : ((na : Int) != (na : Int)) = false := by simp
    clear hna hnb
    go_enter Try.func14, Try.ntmps14
    go_wp2
    go_loopw [5] (fun i wr => ∃ k m : Nat, k ≤ na ∧ i = .int .i64 k ∧ wr = w.drewN m ∧ Hid (∀ j, j < k → a[j]? = b[j]?)) (fun i _ => na - (intOf i).toNat)
    case atStart => exact ⟨0, 0, by omega, rfl, rfl, Lib.hid (fun i hi => by omega)⟩
    case round =>
      obtain ⟨k, m, hk, rfl, rfl, hall⟩ := hrel
      by_cases hlt : k < na
      · have h1 : (k : Int) < na := by omega
        obtain ⟨x, hx⟩ : ∃ x, a[k]? = some x := ⟨_, List.getElem?_eq_getElem (by have := HNA.out; omega)⟩
        obtain ⟨y, hy⟩ : ∃ y, b[k]? = some y := ⟨_, List.getElem?_eq_getElem (by have := HNB.out; omega)⟩
        obtain ⟨g, off, rfl, _, hcx⟩ := HCA.out k _ (wcells_get hx)
        obtain ⟨g', off', rfl, _, hcy⟩ := HCB.out k _ (wcells_get hy)
        have HX := Lib.hid hx
        have HY := Lib.hid hy
        clear hx hy
        by_cases hxy : x = y
        · have hq : (x.toList == y.toList) = true := by rw [eq_str, hxy]; simp
          have HQ : Hid (∀ j, j < k + 1 → a[j]? = b[j]?) := Lib.hid (fun j hj => by
            rcases Nat.lt_or_ge j k with h' | h'
            · exact hall.out j h'
            · obtain rfl : j = k := by omega
              rw [HX.out, HY.out, hxy])
          clear hxy
          go_wp2
          go_quiet (fail)
          go_wp2
          go_roundw
          case rel => exact ⟨k + 1, _, by omega, by go_num, rfl, HQ⟩
          case measure => simp [intOf]; omega
        · have hq : (x.toList == y.toList) = false := by rw [eq_str]; simpa using hxy
          have HF : Hid (decide (a = b) = false) := Lib.hid (by
            rw [decide_eq_false_iff_not]
            intro e
            have h1 := HX.out
            rw [e, HY.out] at h1
            cases h1; exact hxy rfl)
          clear hxy
          go_wp2
          go_quiet (fail)
          go_wp2
          go_ret
          exact ⟨ret_bool HF.out.symm, m + nq, by simp⟩
      · have HF : Hid (decide (a = b) = true) := Lib.hid (by
          rw [decide_eq_true_eq]
          exact eq_of_take (by rw [HNA.out, HNB.out]) (by rw [HNA.out]; omega : k = _) hall.out)
        go_wp2
        go_ret
        exact ⟨ret_bool HF.out.symm, _, rfl⟩
  · have g0 : ((na : Int) != (nb : Int)) = true := by simp; omega
    have HF : Hid (decide (a = b) = false) := Lib.hid (by
      rw [decide_eq_false_iff_not]
      intro e
      rw [e] at hna
      omega)
    clear hlen hna hnb
    go_enter Try.func14, Try.ntmps14
    go_wp2
    go_ret
    exact ⟨ret_bool HF.out.symm, 0, rfl⟩
theorem rhas_any {w : World} {G : Nat → Prop} {v : Value} {l : List ByteArray} {x : ByteArray} (h : Reads w G v (wcells l)) (hl : l.length ≤ 100000) :
    Calls Try.prog 26 #[v, .string x] w fun e w' => e = .returned (.bool (hasL l x)) ∧ w = w' := by
  obtain ⟨ao, c, rfl, _, hc⟩ := h
  rw [wcells_len]
  have HC := Lib.hid hc
  clear hc
  generalize hn : l.length = n at hl ⊢
  have HN := Lib.hid hn
  clear hn
  go_enter Try.func26, Try.ntmps26
  go_wp2
  go_loop [5] (fun i => ∃ k : Nat, k ≤ n ∧ i = .int .i64 k ∧ Hid (∀ j y, j < k → l[j]? = some y → y ≠ x)) (fun i => n - (intOf i).toNat)
  case atStart => exact ⟨0, by omega, rfl, Lib.hid (fun i y hi => by omega)⟩
  case round =>
    obtain ⟨k, hk, rfl, hall⟩ := hrel
    by_cases hlt : k < n
    · have h1 : (k : Int) < n := by omega
      obtain ⟨y, hy⟩ : ∃ y, l[k]? = some y := ⟨_, List.getElem?_eq_getElem (by have := HN.out; omega)⟩
      obtain ⟨g, off, rfl, _, hcell⟩ := HC.out k _ (wcells_get hy)
      have HY := Lib.hid hy
      clear hy
      by_cases hxy : y = x
      · have hq : (y.toList == x.toList) = true := by rw [eq_str]; simpa using hxy
        have HA : Hid (hasL l x = true) := Lib.hid (by rw [← hxy]; exact hasL_at HY.out)
        clear hxy
        go_wp2
        go_ret
        exact ⟨ret_bool HA.out.symm, rfl⟩
      · have hq : (y.toList == x.toList) = false := by rw [eq_str]; simpa using hxy
        have HA := Lib.hid (get_step hall.out HY.out (p := fun y => y ≠ x) hxy)
        clear hxy
        go_wp2
        go_round
        case rel => exact ⟨k + 1, by omega, by go_num, HA⟩
        case measure => simp [intOf]; omega
    · have HA := Lib.hid (hasL_not (fun j y hj hy => hall.out j y (by have := HN.out; omega) hy))
      go_wp2
      go_ret
      exact ⟨ret_bool HA.out.symm, rfl⟩
theorem rwithin_any {w : World} {G G' : Nat → Prop} {va vb : Value} {a b : List ByteArray} (ha : Reads w G va (wcells a)) (hb : Reads w G' vb (wcells b)) (hla : a.length ≤ 100000) (hlb : b.length ≤ 100000) :
    Calls Try.prog 28 #[va, vb] w fun e w' => e = .returned (.bool (withinL a b)) ∧ w = w' := by
  have HB := Lib.hid hb
  obtain ⟨ao, c, rfl, _, hc⟩ := ha
  rw [wcells_len]
  have HC := Lib.hid hc
  clear hc hb
  generalize hn : a.length = n at hla ⊢
  have HN := Lib.hid hn
  clear hn
  go_enter Try.func28, Try.ntmps28
  go_wp2
  go_loop [5] (fun i => ∃ k : Nat, k ≤ n ∧ i = .int .i64 k ∧ Hid (∀ j y, j < k → a[j]? = some y → hasL b y = true)) (fun i => n - (intOf i).toNat)
  case atStart => exact ⟨0, by omega, rfl, Lib.hid (fun i y hi => by omega)⟩
  case round =>
    obtain ⟨k, hk, rfl, hall⟩ := hrel
    by_cases hlt : k < n
    · have h1 : (k : Int) < n := by omega
      obtain ⟨y, hy⟩ : ∃ y, a[k]? = some y := ⟨_, List.getElem?_eq_getElem (by have := HN.out; omega)⟩
      obtain ⟨g, off, rfl, _, hcell⟩ := HC.out k _ (wcells_get hy)
      have HY := Lib.hid hy
      clear hy
      cases hh : hasL b y
      · have HA := Lib.hid (within_not HY.out hh)
        go_wp2_with fail
        refine (rhas_any HB.out hlb).mono ?_
        rintro e w' ⟨rfl, rfl⟩
        rw [hh]
        go_wp2
        go_ret
        exact ⟨ret_bool HA.out.symm, rfl⟩
      · have HA := Lib.hid (get_step hall.out HY.out (p := fun y => hasL b y = true) hh)
        go_wp2_with fail
        refine (rhas_any HB.out hlb).mono ?_
        rintro e w' ⟨rfl, rfl⟩
        rw [hh]
        go_wp2
        go_round
        case rel => exact ⟨k + 1, by omega, by go_num, HA⟩
        case measure => simp [intOf]; omega
    · have HA := Lib.hid (within_all (a := a) (b := b) (fun j y hj hy => hall.out j y (by have := HN.out; omega) hy))
      go_wp2
      go_ret
      exact ⟨ret_bool HA.out.symm, rfl⟩
theorem rsame_any {w : World} {G G' : Nat → Prop} {va vb : Value} {a b : List ByteArray} (ha : Reads w G va (wcells a)) (hb : Reads w G' vb (wcells b)) (hla : a.length ≤ 100000) (hlb : b.length ≤ 100000) :
    Calls Try.prog 30 #[va, vb] w fun e w' => e = .returned (.bool (sameL a b)) ∧ w = w' := by
  have HA := Lib.hid ha
  have HB := Lib.hid hb
  clear ha hb
  cases h1 : withinL a b
  · have HE : Hid (sameL a b = false) := Lib.hid (by unfold sameL; rw [h1]; rfl)
    go_enter Try.func30, Try.ntmps30
    go_wp2_with fail
    refine (rwithin_any HA.out HB.out hla hlb).mono ?_
    rintro e w1 ⟨rfl, rfl⟩
    rw [h1]
    go_wp2
    go_ret
    exact ⟨ret_bool HE.out.symm, rfl⟩
  · have HE : Hid (sameL a b = withinL b a) := Lib.hid (by unfold sameL; rw [h1]; rfl)
    go_enter Try.func30, Try.ntmps30
    go_wp2_with fail
    refine (rwithin_any HA.out HB.out hla hlb).mono ?_
    rintro e w1 ⟨rfl, rfl⟩
    rw [h1]
    go_wp2_with fail
    refine (rwithin_any HB.out HA.out hlb hla).mono ?_
    rintro e w2 ⟨rfl, rfl⟩
    generalize hb2 : withinL b a = b2 at *
    clear hb2
    go_wp2
    all_goals
      go_ret
      exact ⟨ret_bool HE.out.symm, rfl⟩
set_option maxHeartbeats 1000000 in
theorem rheavy_any {w : World} {G : Nat → Prop} {v : Value} {l : List ByteArray} (h : Reads w G v (wcells l)) (hl : l.length ≤ 100000) (hs : Small 100000 l) :
    Calls Try.prog 32 #[v] w (KeptPost (.int .i64 (heavyL l)) w) := by
  obtain ⟨ao, c, rfl, _, hc⟩ := h
  rw [wcells_len]
  have HC := Lib.hid hc
  have HS := Lib.hid hs
  clear hc hs
  generalize hn : l.length = n at hl ⊢
  have HN := Lib.hid hn
  clear hn
  have H0 : Hid (Kept w w) := Lib.hid (Fr.refl _ _)
  go_enter Try.func32, Try.ntmps32
  go_wp2
  go_loopw [3, 4] (fun m i wr => ∃ k t : Nat, k ≤ n ∧ m = .int .i64 t ∧ i = .int .i64 k ∧ Hid (Kept w wr) ∧ Hid (heavyL (l.take k) = t)) (fun _ i _ => n - (intOf i).toNat)
  case atStart => exact ⟨0, 0, by omega, rfl, rfl, H0, Lib.hid rfl⟩
  case round =>
    obtain ⟨k, t, hk, rfl, rfl, HK, ht⟩ := hrel
    clear H0
    by_cases hlt : k < n
    · have h1 : (k : Int) < n := by omega
      obtain ⟨y, hy⟩ : ∃ y, l[k]? = some y := ⟨_, List.getElem?_eq_getElem (by have := HN.out; omega)⟩
      obtain ⟨g, off, rfl, _, hcell0⟩ := HC.out k _ (wcells_get hy)
      have hcell := HK.out.cell hcell0 (fun x => x)
      have HCELL := Lib.hid hcell0
      have hsy := Lib.hid (HS.out y (List.mem_of_getElem? hy))
      have HA := Lib.hid ((heavy_take hy).trans (by rw [ht.out]))
      have HL : Hid ((cellsOf (atoms (bs y))).length = y.size / 2) := Lib.hid (by simp [cellsOf, atoms_len, bs_len])
      clear hy hcell0
      generalize hq : y.size / 2 = q at HL HA
      by_cases hgt : t < q
      · have g1 : (t : Int) < (q : Int) := by omega
        have HM : Hid (Nat.max t q = q) := Lib.hid (Nat.max_eq_right (by omega))
        clear hgt hq
        go_wp2_with fail
        refine (ratoms_any y _ hsy.out).mono ?_
        rintro e w1 ⟨v1, rfl, ho1, hk1⟩
        rw [HL.out] at ho1
        obtain ⟨bo, d, rfl, _⟩ := own_slice ho1
        have hcell2 := (HK.out.trans hk1).cell HCELL.out (fun x => x)
        replace HK := Lib.hid (HK.out.trans hk1)
        clear hk1 ho1 hcell
        go_wp2_with fail
        refine (ratoms_any y _ hsy.out).mono ?_
        rintro e w2 ⟨v2, rfl, ho2, hk2⟩
        rw [HL.out] at ho2
        obtain ⟨bo2, d2, rfl, _⟩ := own_slice ho2
        replace HK := Lib.hid (HK.out.trans hk2)
        clear hk2 ho2 hcell2
        go_wp2
        go_roundw
        case rel => exact ⟨k + 1, q, by omega, rfl, by go_num, HK, Lib.hid (by rw [HA.out, HM.out])⟩
        case measure => simp [intOf]; omega
      · have g1 : ¬ (t : Int) < (q : Int) := by omega
        have HM : Hid (Nat.max t q = t) := Lib.hid (Nat.max_eq_left (by omega))
        clear hgt hq
        go_wp2_with fail
        refine (ratoms_any y _ hsy.out).mono ?_
        rintro e w1 ⟨v1, rfl, ho1, hk1⟩
        rw [HL.out] at ho1
        obtain ⟨bo, d, rfl, _⟩ := own_slice ho1
        replace HK := Lib.hid (HK.out.trans hk1)
        clear hk1 ho1 hcell
        go_wp2
        go_roundw
        case rel => exact ⟨k + 1, t, by omega, rfl, by go_num, HK, Lib.hid (by rw [HA.out, HM.out])⟩
        case measure => simp [intOf]; omega
    · have hfull : l.take k = l := List.take_of_length_le (by have := HN.out; omega)
      rw [hfull] at ht
      go_wp2
      go_ret
      exact ⟨ret_int (by rw [ht.out]), HK.out⟩
end Go.Proofs.Ytdapklamemalgaa
