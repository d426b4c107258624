/- SetMakes' walk. -/
import Derived.Test.YtdapklamemalgaaTells
namespace Go.Proofs.Ytdapklamemalgaa
set_option linter.unusedVariables false
set_option linter.unusedSimpArgs false
open Go.RowKit Go.ChangeShapes Go.WideShapes

/-- a row of the call's own behind a store into it -/
theorem own_set {w : World} {base g n cap k : Nat} {e : TypeId} {xs : List Value} {u : Value} (h : w.ownsRow base e 1 (.slice (some ⟨g, 0, none⟩) n cap) n xs) :
    (∃ xs', (w.setCell ⟨g, k, none⟩ u).ownsRow base e 1 (.slice (some ⟨g, 0, none⟩) n cap) n xs') ∧ Fr (fun j => j = g) w (w.setCell ⟨g, k, none⟩ u) := by
  refine ⟨?_, Fr.of_setCell w ⟨g, k, none⟩ u⟩
  rcases h.2 with ⟨hv, _⟩ | ⟨g', cap', cur, hv, hb, hg, hn, hm, hs, ht⟩
  · cases hv
  · cases hv
    refine ⟨((cur.setIfInBounds k u).toList.take (n * 1)), by simp [hs]; omega, .inr ⟨g, cap, cur.setIfInBounds k u, rfl, hb, ?_, hn, hm, by simpa using hs, rfl⟩⟩
    rw [Go.Sort.setCell_eq]
    simp only [Go.Sort.mapBlock, Array.getElem?_modify, if_pos, hg, Option.map_some, Go.Sort.onCells]
/-- a row of the call's own, whatever it has -/
def OwnSome (w : World) (base : Nat) (v : Value) (n : Nat) : Prop := ∃ xs, w.ownsRow base 36 1 v n xs
theorem OwnSome.kept {w w' : World} {base n : Nat} {v : Value} (h : OwnSome w base v n) (hk : Kept w w') : OwnSome w' base v n := by
  obtain ⟨xs, h⟩ := h
  exact ⟨xs, own_kept h hk⟩
theorem OwnSome.at {w : World} {base n c k : Nat} {ao : Option Addr} (h : OwnSome w base (.slice ao n c) n) (hk : k < n) :
    ∃ g u, ao = some ⟨g, 0, none⟩ ∧ base ≤ g ∧ w.cell? ⟨g, k, none⟩ = some u ∧ w.frozen? ⟨g, k, none⟩ = false ∧ u.oneCell' = u.oneCell' ∧
      ∀ x, OwnSome (w.setCell ⟨g, k, none⟩ x) base (.slice ao n c) n ∧ Fr (fun j => j = g) w (w.setCell ⟨g, k, none⟩ x) := by
  obtain ⟨xs, h⟩ := h
  have h0 := h
  rcases h.2 with ⟨hv, h0⟩ | ⟨g, cap, cur, hv, hb, hg, hn, hm, hs, ht⟩
  · omega
  · cases hv
    have hlt : k < cur.size := by omega
    exact ⟨g, cur[k], rfl, hb, by rw [cell_whole hg]; simp [hlt], frozen_row hg, rfl, fun x => own_set h0⟩
theorem ofL_len (l : List ByteArray) : (ofL l).1.length ≤ 16 := by
  unfold ofL
  split
  · simp
  · exact boundL_len _
theorem andL_len (a b : List ByteArray) : (andL a b).1.length ≤ 16 := by
  unfold andL
  split
  · simp
  · exact boundL_len _
theorem asL_len (a : List ByteArray) (r : Int) : (asL a r).1.length ≤ 16 := by
  unfold asL
  split
  · simp
  · split
    · simp
    · exact quoteL_len _ _
theorem forL_len (a b : List ByteArray) : (forL a b).1.length ≤ 16 := by
  unfold forL
  split
  · simp
  · split
    · simp
    · exact andL_len _ _
set_option maxHeartbeats 4000000 in
theorem setMakes_walk {w : World} (v1 : Value) (h1 : SetAt w v1) (v2 : Value) (h2 : SetAt w v2) (r : Int) (wr0 : (Lit.int .u16 r).wf = true) :
    Calls Try.prog 3 #[v1, v2, .int .u16 r] w fun e w' => e = .returned (.bool true) ∧ Fr (fun _ => False) w w' := by
  obtain ⟨a, ha, hsa, hla⟩ := h1
  obtain ⟨b, hb, hsb, hlb⟩ := h2
  have HA := Lib.hid ha
  have HB := Lib.hid hb
  have HSA := Lib.hid hsa
  have HSB := Lib.hid hsb
  have HLA := Lib.hid hla
  have HLB := Lib.hid hlb
  obtain ⟨ao, ca, rfl, _, _⟩ := ha
  obtain ⟨bo, cb, rfl, _, _⟩ := hb
  generalize (wcells a).length = na at *
  generalize (wcells b).length = nb at *
  clear hsa hsb hla hlb
  have HRB := Lib.hid (u16_bounds wr0)
  clear wr0
  go_enter Try.func3, Try.ntmps3
  go_wp2_with fail
  refine (awake_any w).mono ?_
  rintro e w1 ⟨rfl, hk⟩
  have HK := Lib.hid hk
  clear hk
  go_wp2_with fail
  refine (large_any (ls := [a, b]) (g := w1.heap.size) (vs := [.slice ao na ca, .slice bo nb cb]) (heap_alloc_new w1 _) (sets_two ((HA.out.new HK.out).new (Fr.of_alloc _ _ _)) ((HB.out.new HK.out).new (Fr.of_alloc _ _ _)) HLA.out HLB.out HSA.out HSB.out) (by simp)).mono ?_
  rintro e w2 ⟨rfl, rfl⟩
  replace HK := Lib.hid (HK.out.trans (Fr.of_alloc (fun _ => False) w1 (Obj.cells #[.slice ao na ca, .slice bo nb cb] 23)))
  cases hlg : largeB [a, b]
  rotate_left
  · clear hlg
    go_wp2
    go_ret
    exact ⟨rfl, HK.out⟩
  have FA := Lib.hid (fits_two hlg).1
  have FB := Lib.hid (fits_two hlg).2
  clear hlg HSA HSB HLA HLB
  generalize w1.alloc (Obj.cells #[.slice ao na ca, .slice bo nb cb] 23) = w2 at *
  replace HA := Lib.hid (HA.out.new HK.out)
  replace HB := Lib.hid (HB.out.new HK.out)
  go_wp2_with fail
  refine (own_any HA.out FA.out.len).mono ?_
  rintro e wo ⟨vx, rfl, ho, hk⟩
  replace HK := Lib.hid (HK.out.trans hk)
  replace HA := Lib.hid (HA.out.new hk)
  replace HB := Lib.hid (HB.out.new hk)
  clear hk
  have HX := Lib.hid (Reads.of_row ho).any
  clear ho
  go_wp2_with fail
  refine (own_any HB.out FB.out.len).mono ?_
  rintro e wo ⟨vy, rfl, ho, hk⟩
  replace HK := Lib.hid (HK.out.trans hk)
  replace HA := Lib.hid (HA.out.new hk)
  replace HB := Lib.hid (HB.out.new hk)
  replace HX := Lib.hid (HX.out.new hk)
  clear hk
  have HY := Lib.hid (Reads.of_row ho).any
  clear ho
  go_wp2_with fail
  refine (of_set HX.out FA.out.len FA.out.max).mono ?_
  rintro e wp ⟨vp, rfl, ho, hk⟩
  replace HK := Lib.hid (HK.out.trans hk)
  replace HA := Lib.hid (HA.out.new hk)
  replace HB := Lib.hid (HB.out.new hk)
  replace HX := Lib.hid (HX.out.new hk)
  replace HY := Lib.hid (HY.out.new hk)
  clear hk
  have HP := Lib.hid (Reads.of_row ho).any
  clear ho
  go_wp2_with fail
  refine (rof_set HA.out FA.out.len FA.out.small).mono ?_
  rintro e wq ⟨vq, rfl, ho, hk⟩
  replace HK := Lib.hid (HK.out.trans hk)
  replace HA := Lib.hid (HA.out.new hk)
  replace HB := Lib.hid (HB.out.new hk)
  replace HX := Lib.hid (HX.out.new hk)
  replace HY := Lib.hid (HY.out.new hk)
  replace HP := Lib.hid (HP.out.new hk)
  clear hk
  have HQ := Lib.hid (Reads.of_row ho).any
  clear ho
  have HLEN : Hid ((ofL a).1.length ≤ 100000) := Lib.hid (by have := ofL_len a; omega)
  generalize hz : ofL a = z at *
  obtain ⟨z1, z2⟩ := z
  clear hz
  go_wp2_with fail
  refine (equal_kept HP.out HQ.out HLEN.out HLEN.out).mono ?_
  rintro e we ⟨rfl, hk⟩
  rw [eq_self]
  replace HK := Lib.hid (HK.out.trans hk)
  replace HA := Lib.hid (HA.out.new hk)
  replace HB := Lib.hid (HB.out.new hk)
  replace HX := Lib.hid (HX.out.new hk)
  replace HY := Lib.hid (HY.out.new hk)
  replace HP := Lib.hid (HP.out.new hk)
  replace HQ := Lib.hid (HQ.out.new hk)
  clear hk
  clear HP HQ HLEN
  go_wp2_with fail
  refine (may_set HX.out FA.out.len FA.out.max).mono ?_
  rintro e wm ⟨rfl, hk⟩
  replace HK := Lib.hid (HK.out.trans hk)
  replace HA := Lib.hid (HA.out.new hk)
  replace HB := Lib.hid (HB.out.new hk)
  replace HX := Lib.hid (HX.out.new hk)
  replace HY := Lib.hid (HY.out.new hk)
  clear hk
  go_wp2_with fail
  refine (rmay_set HA.out FA.out.len FA.out.small).mono ?_
  rintro e wn ⟨rfl, hk⟩
  replace HK := Lib.hid (HK.out.trans hk)
  replace HA := Lib.hid (HA.out.new hk)
  replace HB := Lib.hid (HB.out.new hk)
  replace HX := Lib.hid (HX.out.new hk)
  replace HY := Lib.hid (HY.out.new hk)
  clear hk
  generalize mayL a = m1
  go_wp2_with fail
  refine (and_any HX.out HY.out FA.out.len FB.out.len FA.out.max FB.out.max).mono ?_
  rintro e wp ⟨vp, rfl, ho, hk⟩
  replace HK := Lib.hid (HK.out.trans hk)
  replace HA := Lib.hid (HA.out.new hk)
  replace HB := Lib.hid (HB.out.new hk)
  replace HX := Lib.hid (HX.out.new hk)
  replace HY := Lib.hid (HY.out.new hk)
  clear hk
  have HP := Lib.hid (Reads.of_row ho).any
  clear ho
  go_wp2_with fail
  refine (rand_any HA.out HB.out FA.out.len FB.out.len FA.out.small FB.out.small).mono ?_
  rintro e wq ⟨vq, rfl, ho, hk⟩
  replace HK := Lib.hid (HK.out.trans hk)
  replace HA := Lib.hid (HA.out.new hk)
  replace HB := Lib.hid (HB.out.new hk)
  replace HX := Lib.hid (HX.out.new hk)
  replace HY := Lib.hid (HY.out.new hk)
  replace HP := Lib.hid (HP.out.new hk)
  clear hk
  have HQ := Lib.hid (Reads.of_row ho).any
  clear ho
  have HLEN : Hid ((andL a b).1.length ≤ 100000) := Lib.hid (by have := andL_len a b; omega)
  generalize hz : andL a b = z at *
  obtain ⟨z1, z2⟩ := z
  clear hz
  go_wp2_with fail
  refine (equal_kept HP.out HQ.out HLEN.out HLEN.out).mono ?_
  rintro e we ⟨rfl, hk⟩
  rw [eq_self]
  replace HK := Lib.hid (HK.out.trans hk)
  replace HA := Lib.hid (HA.out.new hk)
  replace HB := Lib.hid (HB.out.new hk)
  replace HX := Lib.hid (HX.out.new hk)
  replace HY := Lib.hid (HY.out.new hk)
  replace HP := Lib.hid (HP.out.new hk)
  replace HQ := Lib.hid (HQ.out.new hk)
  clear hk
  clear HP HQ HLEN
  go_wp2_with fail
  refine (quote_any HX.out HY.out FA.out.len FB.out.len FA.out.max FB.out.max).mono ?_
  rintro e wp ⟨vp, rfl, ho, hk⟩
  replace HK := Lib.hid (HK.out.trans hk)
  replace HA := Lib.hid (HA.out.new hk)
  replace HB := Lib.hid (HB.out.new hk)
  replace HX := Lib.hid (HX.out.new hk)
  replace HY := Lib.hid (HY.out.new hk)
  clear hk
  have HP := Lib.hid (Reads.of_row ho).any
  clear ho
  go_wp2_with fail
  refine (rquote_any HA.out HB.out FA.out.len FB.out.len FA.out.small FB.out.small).mono ?_
  rintro e wq ⟨vq, rfl, ho, hk⟩
  replace HK := Lib.hid (HK.out.trans hk)
  replace HA := Lib.hid (HA.out.new hk)
  replace HB := Lib.hid (HB.out.new hk)
  replace HX := Lib.hid (HX.out.new hk)
  replace HY := Lib.hid (HY.out.new hk)
  replace HP := Lib.hid (HP.out.new hk)
  clear hk
  have HQ := Lib.hid (Reads.of_row ho).any
  clear ho
  have HLEN : Hid ((quoteL a b).1.length ≤ 100000) := Lib.hid (by have := quoteL_len a b; omega)
  generalize hz : quoteL a b = z at *
  obtain ⟨z1, z2⟩ := z
  clear hz
  go_wp2_with fail
  refine (equal_kept HP.out HQ.out HLEN.out HLEN.out).mono ?_
  rintro e we ⟨rfl, hk⟩
  rw [eq_self]
  replace HK := Lib.hid (HK.out.trans hk)
  replace HA := Lib.hid (HA.out.new hk)
  replace HB := Lib.hid (HB.out.new hk)
  replace HX := Lib.hid (HX.out.new hk)
  replace HY := Lib.hid (HY.out.new hk)
  replace HP := Lib.hid (HP.out.new hk)
  replace HQ := Lib.hid (HQ.out.new hk)
  clear hk
  clear HP HQ HLEN
  go_wp2_with fail
  refine (for_any HX.out HY.out FA.out.len FB.out.len FA.out.max FB.out.max).mono ?_
  rintro e wp ⟨vp, rfl, ho, hk⟩
  replace HK := Lib.hid (HK.out.trans hk)
  replace HA := Lib.hid (HA.out.new hk)
  replace HB := Lib.hid (HB.out.new hk)
  replace HX := Lib.hid (HX.out.new hk)
  replace HY := Lib.hid (HY.out.new hk)
  clear hk
  have HP := Lib.hid (Reads.of_row ho).any
  clear ho
  go_wp2_with fail
  refine (rfor_any HA.out HB.out FA.out.len FB.out.len FA.out.small FB.out.small).mono ?_
  rintro e wq ⟨vq, rfl, ho, hk⟩
  replace HK := Lib.hid (HK.out.trans hk)
  replace HA := Lib.hid (HA.out.new hk)
  replace HB := Lib.hid (HB.out.new hk)
  replace HX := Lib.hid (HX.out.new hk)
  replace HY := Lib.hid (HY.out.new hk)
  replace HP := Lib.hid (HP.out.new hk)
  clear hk
  have HQ := Lib.hid (Reads.of_row ho).any
  clear ho
  have HLEN : Hid ((forL a b).1.length ≤ 100000) := Lib.hid (by have := forL_len a b; omega)
  generalize hz : forL a b = z at *
  obtain ⟨z1, z2⟩ := z
  clear hz
  go_wp2_with fail
  refine (equal_kept HP.out HQ.out HLEN.out HLEN.out).mono ?_
  rintro e we ⟨rfl, hk⟩
  rw [eq_self]
  replace HK := Lib.hid (HK.out.trans hk)
  replace HA := Lib.hid (HA.out.new hk)
  replace HB := Lib.hid (HB.out.new hk)
  replace HX := Lib.hid (HX.out.new hk)
  replace HY := Lib.hid (HY.out.new hk)
  replace HP := Lib.hid (HP.out.new hk)
  replace HQ := Lib.hid (HQ.out.new hk)
  clear hk
  clear HP HQ HLEN
  go_wp2_with fail
  obtain ⟨w6, hw6⟩ : ∃ w6, w6 = we := ⟨_, rfl⟩
  rw [← hw6] at HK HA HB HX HY ⊢
  clear hw6
  have HK6 := Lib.hid HK.out
  have HX6 := Lib.hid HX.out
  have HY6 := Lib.hid HY.out
  have HA6 := Lib.hid HA.out
  have HB6 := Lib.hid HB.out
  refine (as_any HX.out FA.out.len FA.out.max HRB.out.1 HRB.out.2).mono ?_
  rintro e wp ⟨vp, rfl, ho, hk⟩
  replace HA := Lib.hid (HA.out.new hk)
  have HKK := Lib.hid hk
  have HO : Hid (OwnSome wp w6.heap.size vp (asL a r).1.length) := Lib.hid ⟨_, ho⟩
  have HP := Lib.hid (Reads.of_row ho).any
  obtain ⟨po, pc, rfl, hpc⟩ := own_slice ho
  clear hk ho
  go_wp2_with fail
  refine (ras_any HA.out FA.out.len FA.out.small HRB.out.1 HRB.out.2).mono ?_
  rintro e wq ⟨vq, rfl, ho, hk⟩
  replace HKK := Lib.hid (HKK.out.trans hk)
  replace HO := Lib.hid (HO.out.kept hk)
  replace HP := Lib.hid (HP.out.new hk)
  have HQ := Lib.hid (Reads.of_row ho).any
  clear ho hk
  have HLEN : Hid ((asL a r).1.length ≤ 100000) := Lib.hid (by have := asL_len a r; omega)
  have hlen := HLEN.out
  generalize hz : asL a r = z at *
  obtain ⟨z1, z2⟩ := z
  clear hz
  go_wp2_with fail
  refine (equal_kept HP.out HQ.out HLEN.out HLEN.out).mono ?_
  rintro e w7 ⟨rfl, hk⟩
  rw [eq_self]
  replace HKK := Lib.hid (HKK.out.trans hk)
  replace HO := Lib.hid (HO.out.kept hk)
  clear HP HQ hk HK HX HY HA HB
  generalize hzn : z1.length = n at HO hlen hpc
  simp only [hzn]
  clear hzn
  go_wp2_with fail
  go_loopw [136] (fun i wr => ∃ k : Nat, k ≤ n ∧ i = .int .i64 k ∧ Hid (Kept w6 wr) ∧ Hid (OwnSome wr w6.heap.size (.slice po n pc) n)) (fun i _ => n - (intOf i).toNat)
  case atStart => exact ⟨0, by omega, rfl, HKK, HO⟩
  case round =>
    obtain ⟨k, hk, rfl, HK, HO⟩ := hrel
    clear HKK
    by_cases hlt : k < n
    · have h1 : (k : Int) < n := by omega
      obtain ⟨g, u, rfl, hbg, hcell, hfz, _, hset⟩ := HO.out.at hlt
      have HSET := Lib.hid (hset (.string ⟨#[63]⟩))
      have HBG := Lib.hid hbg
      clear hset hbg
      go_wp2_with fail
      go_roundw
      case rel => exact ⟨k + 1, by omega, by go_num, Lib.hid (HK.out.over HSET.out.2 (fun j hj => by rw [hj]; exact HBG.out)), Lib.hid HSET.out.1⟩
      case measure => simp [intOf]; omega
    · have hx := Lib.hid (HX6.out.new HK.out)
      have hy := Lib.hid (HY6.out.new HK.out)
      have hxa := Lib.hid (HA6.out.new HK.out)
      have hyb := Lib.hid (HB6.out.new HK.out)
      have HKW := Lib.hid (HK6.out.trans HK.out)
      go_wp2_with fail
      refine (equal_kept hx.out hxa.out FA.out.len FA.out.len).mono ?_
      rintro e w8 ⟨rfl, hk8⟩
      rw [eq_self]
      replace hy := Lib.hid (hy.out.new hk8)
      replace hyb := Lib.hid (hyb.out.new hk8)
      replace HKW := Lib.hid (HKW.out.trans hk8)
      clear hk8
      go_wp2_with fail
      refine (equal_kept hy.out hyb.out FB.out.len FB.out.len).mono ?_
      rintro e w9 ⟨rfl, hk9⟩
      rw [eq_self]
      replace HKW := Lib.hid (HKW.out.trans hk9)
      clear hk9
      go_wp2_with fail
      go_ret
      exact ⟨rfl, HKW.out⟩
end Go.Proofs.Ytdapklamemalgaa
