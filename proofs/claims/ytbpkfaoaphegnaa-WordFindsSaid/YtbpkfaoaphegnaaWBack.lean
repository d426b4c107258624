/- WordBack: the walk. -/
import Derived.Test.YtbpkfaoaphegnaaAwake
namespace Go.Proofs.Ytbpkfaoaphegnaa
set_option linter.unusedVariables false
open Go.RowKit Go.ChangeShapes Go.WideShapes

theorem quiet_drew {P : Program} {f : FuncId} {args : Array Value} {w : World} {n : Nat} {v : Value}
    (h : ∀ w, Calls P f args w (DrewPost v w)) : Calls P f args (w.drewN n) fun e w'' => e = .returned v ∧ ∃ m, w'' = w.drewN m := Calls.quiet_of (h (w.drewN n))
theorem quiet_same {P : Program} {f : FuncId} {args : Array Value} {w : World} {n : Nat} {v : Value}
    (h : ∀ w, Calls P f args w fun e w' => e = .returned v ∧ w = w') : Calls P f args (w.drewN n) fun e w'' => e = .returned v ∧ ∃ m, w'' = w.drewN m := Calls.quiet_of_same ((h (w.drewN n)).mono fun _ _ ⟨h1, h2⟩ => ⟨h1, h2.symm⟩)

/-- the value holds atoms -/
def AtomsAt (w : World) (v : Value) : Prop := ∃ l, Reads w (fun _ => True) v (cellsOf l) ∧ Good l ∧ l.length ≤ maxLen

theorem u16_bounds {i : Int} (wi : (Lit.int .u16 i).wf = true) : 0 ≤ i ∧ i ≤ 65535 := by
  simp [Lit.wf, IntKind.min, IntKind.max, IntKind.signed, IntKind.bits] at wi; exact wi

theorem atoms_of {w : World} {v : Value} {r : Reach} {b : Nat} (hval : Value.okWide Try.prog w r b 29 v) (h : Holds Try.prog w 29 v.cells.toList) : AtomsAt w v := by
  obtain ⟨ao, len, cap, rfl⟩ := okWide_slice Try.underlying29 hval
  have hC : Try.prog.cellsOf 32 = 1 := by kernel_rfl
  obtain ⟨l, h1, h2, h3⟩ := Holds.row (mk := Value.int .u16) (R := fun x => 0 ≤ x ∧ x ≤ 65535) (c := .slice ao len cap) h Try.underlying29 hC (fun cs hcs => by
    obtain ⟨x, hx, hw⟩ := hcs.int Try.underlying32
    exact ⟨x, hx, u16_bounds hw⟩)
  exact ⟨l, h1, h2, h3⟩

set_option maxHeartbeats 4000000 in
set_option maxRecDepth 100000 in
theorem wordBack_small {w : World} {v : Value} {l : List Int} (s : ByteArray) (hr : Reads w (fun _ => True) v (cellsOf l)) (hg : Good l) (hl : l.length ≤ 2048) (hs : s.size ≤ 4096) :
    Calls Try.prog 5 #[v, .string s] w fun e w' => e = .returned (.bool true) ∧ Fr (fun _ => False) w w' := by
  have HR := Lib.hid hr
  have HG := Lib.hid hg
  obtain ⟨ao, c, rfl, _, hc⟩ := hr
  have q1 : (cellsOf l).length = l.length := by simp [cellsOf]
  rw [q1] at HR ⊢
  have HC := Lib.hid hc
  have hl2 : l.length ≤ 100000 := by omega
  have HO : Hid (atoms (bs (ofS l)) = l) := Lib.hid (by rw [bs_ofS, atoms_unatoms _ hg])
  have hos : (ofS l).size = 2 * l.length := ofS_size l
  have zo : (ofS l).size ≤ maxLen := by unfold maxLen; omega
  have zo2 : (ofS l).size ≤ 100000 := by omega
  have hdiv : ((ofS l).size : Int) / 2 = (l.length : Int) := by omega
  have HD := Lib.hid hdiv
  have hAt : Hid (∀ (k : Nat) x, l[k]? = some x → atS (ofS l) k = x) := Lib.hid (fun k x hx => atS_get (by rw [HO.out]; exact hx))
  have HOF : Hid (tornB s = false → ofS (atoms (bs s)) = s) := Lib.hid (fun h => bs_inj (by rw [bs_ofS, unatoms_atoms _ (by rw [bs_len]; exact tornB_false h)]))
  have hte : Hid (((s.size : Int) % 2 == 1) = tornB s) := Lib.hid (by rw [Bool.eq_iff_iff]; simp [tornB]; omega)
  have hs0 : s.size ≤ 100000 := by omega
  have hsl : (atoms (bs s)).length ≤ 100000 := by rw [atoms_len, bs_len]; omega
  have hsame : Hid (decide (atoms (bs (ofS l)) = l) = true) := Lib.hid (by rw [HO.out]; simp)
  have hoL : (atoms (bs (ofS l))).length ≤ 100000 := by rw [HO.out]; exact hl2
  generalize hn : l.length = n at *
  have HN := Lib.hid hn
  have hnn : ((n : Int) != (n : Int)) = false := by simp
  have d1 : decide (2048 < (n : Int)) = false := by simp; omega
  have d2 : decide (4096 < (s.size : Int)) = false := by simp; omega
  clear hc hg q1 hn hos hdiv
  generalize hof : ofS l = o at *
  have HOL := Lib.hid hof
  clear hof
  go_enter Try.func5, Try.ntmps5
  go_wp2_with fail
  refine (awake_any _).mono ?_
  rintro e w1 ⟨rfl, hk⟩
  have HK := Lib.hid hk
  clear hk
  go_wp2_with fail
  refine (of_any (HR.out.new HK.out) HG.out (by rw [HN.out]; exact hl2)).mono ?_
  rintro e w2 ⟨rfl, hk⟩
  rw [HOL.out]
  replace HK := Lib.hid (HK.out.trans hk)
  clear hk
  go_wp2_with fail
  refine (len_any o _ zo).mono ?_
  rintro e w' ⟨rfl, rfl⟩
  rw [HD.out]
  go_wp2_with fail
  refine (atoms_any o _ zo2).mono ?_
  rintro e w3 ⟨v3, rfl, hrow, hk⟩
  replace HK := Lib.hid (HK.out.trans hk)
  have HR3 := Lib.hid (Reads.of_row hrow)
  clear hk hrow
  go_wp2_with fail
  refine (same_any HR3.out (HR.out.new HK.out) hoL (by rw [HN.out]; exact hl2)).mono ?_
  rintro e w4 ⟨rfl, q, rfl⟩
  rw [hsame.out]
  replace HK := Lib.hid (HK.out.trans (Fr.of_drewN _ _ q))
  have HCC : Hid (∀ (k : Nat) x, l[k]? = some x → ∃ g off, ao = some ⟨g, off, none⟩ ∧ (w3.drewN q).cell? ⟨g, off + k, none⟩ = some (.int .u16 x)) := Lib.hid (fun k x hx => by
    obtain ⟨g, off, h1, _, h2⟩ := HC.out k _ (cells_get hx)
    exact ⟨g, off, h1, HK.out.cell h2 (fun x => x)⟩)
  generalize w3.drewN q = wl at *
  clear HR3
  go_wp2_with fail
  clear d1 d2 hnn
  go_loopw [33] (fun i wr => ∃ k : Nat, k ≤ n ∧ i = .int .i64 k ∧ Hid (Kept wl wr)) (fun i _ => n - (intOf i).toNat)
  case atStart => exact ⟨0, by omega, rfl, Lib.hid (Fr.refl _ _)⟩
  case round =>
    obtain ⟨k, hk, rfl, hkr⟩ := hrel
    by_cases hlt : k < n
    · have h1 : (k : Int) < n := by omega
      obtain ⟨x, hx⟩ : ∃ x, l[k]? = some x := ⟨_, List.getElem?_eq_getElem (by have := HN.out; omega)⟩
      obtain ⟨g, off, rfl, hcell0⟩ := HCC.out k x hx
      have hcell := hkr.out.cell hcell0 (fun x => x)
      clear hcell0
      have HA : Hid (∀ w, Calls Try.prog 17 #[.string o, .int .i64 k] w (DrewPost (.int .u16 x) w)) := Lib.hid (fun w => by
        have := at_any o k w zo
        rwa [hAt.out k x hx] at this)
      have hxx : (x != x) = false := by simp
      clear hx
      go_wp2_with fail
      go_quiet ((go_at_call 17; exact quiet_drew HA.out))
      go_wp2_with fail
      go_roundw
      case rel => exact ⟨k + 1, by omega, by go_num, Lib.hid (hkr.out.trans (Fr.of_drewN _ _ _))⟩
      case measure => simp [intOf]; omega
    · have h1 : ¬ (k : Int) < n := by omega
      cases ht : tornB s
      · have hte2 : ((s.size : Int) % 2 == 1) = false := hte.out.trans ht
        have hss : (s.toList == s.toList) = true := by simp
        go_wp2_with fail
        refine (atoms_any s _ hs0).mono ?_
        rintro e w5 ⟨v5, rfl, hrow, hk5⟩
        have HK5 := Lib.hid ((HK.out.trans hkr.out).trans hk5)
        have HR5 := Lib.hid (Reads.of_row hrow)
        clear hrow hk5
        go_wp2_with fail
        refine (of_any HR5.out (atoms_good _) hsl).mono ?_
        rintro e w6 ⟨rfl, hk6⟩
        rw [HOF.out ht]
        have HK6 := Lib.hid (HK5.out.trans hk6)
        clear hk6
        go_wp2_with fail
        go_ret
        exact ⟨rfl, HK6.out⟩
      · have hte2 : ((s.size : Int) % 2 == 1) = true := hte.out.trans ht
        go_wp2_with fail
        go_ret
        exact ⟨rfl, HK.out.trans hkr.out⟩

set_option maxHeartbeats 1000000 in
theorem wordBack_walk {w : World} (v : Value) (h : AtomsAt w v) (s : ByteArray) (hs : s.size ≤ maxLen) :
    Calls Try.prog 5 #[v, .string s] w fun e w' => e = .returned (.bool true) ∧ Fr (fun _ => False) w w' := by
  obtain ⟨l, hr, hg, hlm⟩ := h
  unfold maxLen at hlm hs
  by_cases la : 2048 < l.length
  · obtain ⟨ao, c, rfl, _, hc⟩ := hr
    have q1 : (cellsOf l).length = l.length := by simp [cellsOf]
    rw [q1]
    clear hc hg q1
    generalize l.length = n at *
    have d1 : decide (2048 < (n : Int)) = true := by simp; omega
    go_enter Try.func5, Try.ntmps5
    go_wp2_with fail
    refine (awake_any _).mono ?_
    rintro e w1 ⟨rfl, hk⟩
    have HK := Lib.hid hk
    clear hk
    go_wp2_with fail
    go_ret
    exact ⟨rfl, HK.out⟩
  · by_cases lb : 4096 < s.size
    · obtain ⟨ao, c, rfl, _, hc⟩ := hr
      have q1 : (cellsOf l).length = l.length := by simp [cellsOf]
      rw [q1]
      clear hc hg q1
      generalize l.length = n at *
      have d1 : decide (2048 < (n : Int)) = false := by simp; omega
      have d2 : decide (4096 < (s.size : Int)) = true := by simp; omega
      go_enter Try.func5, Try.ntmps5
      go_wp2_with fail
      refine (awake_any _).mono ?_
      rintro e w1 ⟨rfl, hk⟩
      have HK := Lib.hid hk
      clear hk
      go_wp2_with fail
      go_ret
      exact ⟨rfl, HK.out⟩
    · exact wordBack_small s hr hg (by omega) (by omega)
end Go.Proofs.Ytbpkfaoaphegnaa
