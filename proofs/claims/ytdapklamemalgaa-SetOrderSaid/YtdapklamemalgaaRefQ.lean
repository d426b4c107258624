/- What the document's Quote, As and For do. -/
import Derived.Test.YtdapklamemalgaaRefB
namespace Go.Proofs.Ytdapklamemalgaa
set_option linter.unusedVariables false
set_option linter.unusedSimpArgs false
open Go.RowKit Go.ChangeShapes Go.WideShapes

theorem small_two {x y : ByteArray} (hx : x.size ≤ 100000) (hy : y.size ≤ 100000) : Small 100000 [x, y] := fun s hs => by
  rcases List.mem_cons.1 hs with rfl | hs
  · exact hx
  · rcases List.mem_cons.1 hs with rfl | hs
    · exact hy
    · cases hs
theorem quoteL_ok {a b : List ByteArray} (h : (mayL a && mayL b) = true) (h2 : longB (crossL a b) = false) : quoteL a b = boundL (rightS (crossL a b)) := by
  unfold quoteL; rw [if_neg (by simp [h]), if_neg (by simp [h2])]
set_option maxHeartbeats 4000000 in
theorem rquote_any {w : World} {G : Nat → Prop} {va vb : Value} {a b : List ByteArray} (ha : Reads w G va (wcells a)) (hb : Reads w G vb (wcells b)) (hla : a.length ≤ 100000) (hlb : b.length ≤ 100000) (hsa : Small 100000 a) (hsb : Small 100000 b) :
    Calls Try.prog 20 #[va, vb] w (SetPost (quoteL a b) w) := by
  have HA := Lib.hid ha
  have HB := Lib.hid hb
  have HSA := Lib.hid hsa
  have HSB := Lib.hid hsb
  clear hsa hsb
  cases hm : mayL a
  · have HE : Hid (quoteL a b = ([], 2)) := Lib.hid (quoteL_bad (by simp [hm]))
    clear ha hb
    go_enter Try.func20, Try.ntmps20
    go_wp2_with fail
    refine (rmay_set HA.out hla HSA.out).mono ?_
    rintro e w' ⟨rfl, hk1⟩
    rw [hm]
    have HK := Lib.hid hk1
    clear hk1
    go_wp2
    go_ret2
    exact set_post HE.out (own_nil _ _ _ _) HK.out
  · cases hm2 : mayL b
    · have HE : Hid (quoteL a b = ([], 2)) := Lib.hid (quoteL_bad (by simp [hm2]))
      clear ha hb
      go_enter Try.func20, Try.ntmps20
      go_wp2_with fail
      refine (rmay_set HA.out hla HSA.out).mono ?_
      rintro e w' ⟨rfl, hk1⟩
      rw [hm]
      have HK := Lib.hid hk1
      clear hk1
      go_wp2_with fail
      refine (rmay_set (HB.out.new HK.out) hlb HSB.out).mono ?_
      rintro e w' ⟨rfl, hk1⟩
      rw [hm2]
      replace HK := Lib.hid (HK.out.trans hk1)
      clear hk1
      go_wp2
      go_ret2
      exact set_post HE.out (own_nil _ _ _ _) HK.out
    · have HMM : Hid ((mayL a && mayL b) = true) := Lib.hid (by simp [hm, hm2])
      obtain ⟨⟨_, hla16⟩, hsma, _⟩ := mayL_iff.1 hm
      obtain ⟨⟨_, hlb16⟩, hsmb, _⟩ := mayL_iff.1 hm2
      have HLA := Lib.hid hla16
      have HLB := Lib.hid hlb16
      have HMA := Lib.hid hsma
      have HMB := Lib.hid hsmb
      obtain ⟨ao, ca, rfl, _, hca⟩ := ha
      obtain ⟨bo, cb, rfl, _, hcb⟩ := hb
      rw [wcells_len] at HA ⊢
      rw [wcells_len] at HB ⊢
      have HCA := Lib.hid hca
      have HCB := Lib.hid hcb
      clear hca hcb hsma hsmb
      generalize hna : a.length = na at *
      generalize hnb : b.length = nb at *
      have HNA := Lib.hid hna
      have HNB := Lib.hid hnb
      clear hna hnb
      go_enter Try.func20, Try.ntmps20
      go_wp2_with fail
      refine (rmay_set HA.out (by rw [HNA.out]; exact hla) HSA.out).mono ?_
      rintro e w1 ⟨rfl, hk1⟩
      rw [hm]
      have HK := Lib.hid hk1
      clear hk1
      go_wp2_with fail
      refine (rmay_set (HB.out.new HK.out) (by rw [HNB.out]; exact hlb) HSB.out).mono ?_
      rintro e w2 ⟨rfl, hk1⟩
      rw [hm2]
      replace HK := Lib.hid (HK.out.trans hk1)
      clear hk1 hm hm2
      have H0 : Hid (JoinPart w (w2.alloc (Obj.cells #[] 36)) (crossL (a.take 0) b) (.slice (some ⟨w2.heap.size, 0, none⟩) 0 0)) := Lib.hid ⟨own_up (w := w2) (own_new (heap_alloc_new w2 _) (Nat.le_refl _)) HK.out, HK.out.trans (Fr.of_alloc _ _ _)⟩
      have H0F : Hid (longB (crossL (a.take 0) b) = false) := Lib.hid rfl
      go_wp2_with fail
      go_loopw [6, 7] (fun v i wr => ∃ k : Nat, k ≤ na ∧ i = .int .i64 k ∧ Hid (JoinPart w wr (crossL (a.take k) b) v) ∧ Hid (longB (crossL (a.take k) b) = false)) (fun _ i _ => na - (intOf i).toNat)
      case atStart => exact ⟨0, by omega, rfl, H0, H0F⟩
      case round =>
        obtain ⟨k, hk, rfl, hp, hf⟩ := hrel
        clear H0 H0F
        by_cases hlt : k < na
        · have h1 : (k : Int) < na := by omega
          obtain ⟨x, hx⟩ : ∃ x, a[k]? = some x := ⟨_, List.getElem?_eq_getElem (by have := HNA.out; omega)⟩
          obtain ⟨g, off, rfl, _, hcell0⟩ := HCA.out k _ (wcells_get hx)
          have HCX := Lib.hid hcell0
          have HX := Lib.hid hx
          have H1 := jp_zero (x := x) hp
          have H1F : Hid (longB (partL a b k 0 x) = false) := Lib.hid (by rw [part_zero]; exact hf.out)
          clear hx hcell0 hp hf
          go_wp2_with fail
          go_loopw [6, 8] (fun v i wr => ∃ m : Nat, m ≤ nb ∧ i = .int .i64 m ∧ Hid (JoinPart w wr (partL a b k m x) v) ∧ Hid (longB (partL a b k m x) = false)) (fun _ i _ => nb - (intOf i).toNat)
          case atStart => exact ⟨0, by omega, rfl, H1, H1F⟩
          case round =>
            obtain ⟨m, hm, rfl, hp, hf⟩ := hrel
            clear H1 H1F
            by_cases hlt2 : m < nb
            · have h2 : (m : Int) < nb := by omega
              obtain ⟨y, hy⟩ : ∃ y, b[m]? = some y := ⟨_, List.getElem?_eq_getElem (by have := HNB.out; omega)⟩
              obtain ⟨g', off', rfl, _, hcell0⟩ := HCB.out m _ (wcells_get hy)
              have hcy := hp.out.2.cell hcell0 (fun x => x)
              have hcx := hp.out.2.cell HCX.out (fun x => x)
              have HY := Lib.hid hy
              have mx := HMA.out x (List.mem_of_getElem? HX.out)
              have my := HMB.out y (List.mem_of_getElem? hy)
              have HC := Lib.hid (cat_two mx my)
              have HSM := Lib.hid (small_two (x := x) (y := y) (by have := mayS_size mx; omega) (by have := mayS_size my; omega))
              clear hy hcell0 mx my
              by_cases h16 : 16 < (x ++ y).size
              · replace HC : Hid (catS [x, y] = (⟨#[]⟩, 4)) := Lib.hid (by rw [HC.out, if_pos h16])
                have HE : Hid (quoteL a b = ([], 4)) := Lib.hid (quoteL_long HMM.out (by
                  unfold longB
                  rw [List.any_eq_true]
                  exact ⟨x ++ y, cross_mem.2 ⟨x, List.mem_of_getElem? HX.out, y, List.mem_of_getElem? HY.out, rfl⟩, by simpa using h16⟩))
                clear h16
                go_upto_region 10 with fail
                go_cut [9, 10] (fun t9 t10 wx => t9 = .string ⟨#[]⟩ ∧ t10 = .int .i64 4 ∧ Hid (Kept wr wx))
                case first =>
                  go_region_with (go_at_call 45; refine (rcat_any (l := [x, y]) (by exact reads_built (cs := #[.string x, .string y]) (heap_alloc_new _ _)) (by simp) HSM.out).mono ?_; rintro e w9 ⟨rfl, hk9⟩; rw [HC.out]; have HK9 := Lib.hid hk9; clear hk9)
                  all_goals
                    go_wp2_with fail
                    go_meet
                    exact ⟨rfl, rfl, Lib.hid (((Fr.of_alloc _ _ _).trans (Fr.of_drew _ _)).trans HK9.out)⟩
                case rest =>
                obtain ⟨rfl, rfl, hkx⟩ := hcut
                have HK9 := Lib.hid (hp.out.2.trans hkx.out)
                clear hkx hcx hcy
                go_wp2_with fail
                go_ret2
                exact set_post HE.out (own_nil _ _ _ _) HK9.out
              · replace HC : Hid (catS [x, y] = (x ++ y, 0)) := Lib.hid (by rw [HC.out, if_neg h16])
                have HF : Hid (longB (partL a b k (m + 1) x) = false) := Lib.hid (by rw [part_step HY.out, longB_append, hf.out]; simp [longB]; simpa using h16)
                have HL : Hid ((partL a b k m x).length ≤ 272) := Lib.hid (part_len (by have := HNA.out; have := HLA.out; omega) (by have := HNB.out; have := HLB.out; omega))
                clear h16
                generalize hz : x ++ y = z at *
                have HZ := Lib.hid hz
                clear hz
                go_upto_region 10 with fail
                go_cut [9, 10] (fun t9 t10 wx => t9 = .string z ∧ t10 = .int .i64 0 ∧ Hid (Kept wr wx))
                case first =>
                  go_region_with (go_at_call 45; refine (rcat_any (l := [x, y]) (by exact reads_built (cs := #[.string x, .string y]) (heap_alloc_new _ _)) (by simp) HSM.out).mono ?_; rintro e w9 ⟨rfl, hk9⟩; rw [HC.out]; have HK9 := Lib.hid hk9; clear hk9)
                  all_goals
                    go_wp2_with fail
                    go_meet
                    exact ⟨rfl, rfl, Lib.hid (((Fr.of_alloc _ _ _).trans (Fr.of_drew _ _)).trans HK9.out)⟩
                case rest =>
                obtain ⟨rfl, rfl, hkx⟩ := hcut
                replace hp := jp_kept hp hkx.out
                clear hkx hcx hcy
                go_wp2_with (at_builtin; refine list_app rfl (.tmp 48) (.tmp 50) 22 22 rfl Try.slice22 rfl (by exact own_kept hp.out.1 (Fr.of_alloc _ _ _)) rfl (by exact src_one Try.underlying22 (heap_alloc_new _ _) rfl) (by have := HL.out; unfold maxLen; omega) (by have := HL.out; omega) (by have := hp.out.2.size; simp; omega) ?_; intro v2 wq hq; have Hq := Lib.hid (JoinPart.step (m := [z]) ⟨own_kept hp.out.1 (Fr.of_alloc _ _ _), hp.out.2.trans (Fr.of_alloc _ _ _)⟩ hq); clear hq)
                go_roundw
                case rel => exact ⟨m + 1, by omega, by go_num, Lib.hid (by rw [part_step HY.out, HZ.out]; exact Hq.out), HF⟩
                case measure => simp [intOf]; omega
            · obtain rfl : m = nb := by omega
              have H2 := jp_full hp HNB.out HX.out
              have H2F : Hid (longB (crossL (a.take (k + 1)) b) = false) := Lib.hid (by rw [cross_step HX.out, HNB.out]; exact hf.out)
              clear hp hf
              go_wp2_with fail
              go_roundw
              case rel => exact ⟨k + 1, by omega, by go_num, H2, H2F⟩
              case measure => simp [intOf]; omega
        · have hfull : a.take k = a := List.take_of_length_le (by have := HNA.out; omega)
          rw [hfull] at hp hf
          have HE := Lib.hid (quoteL_ok HMM.out hf.out)
          have HR := Lib.hid (Reads.of_row hp.out.1)
          have HS : Hid (Small 100000 (crossL a b)) := Lib.hid (fun s hs => by have := longB_false hf.out s hs; omega)
          have HCL : Hid ((crossL a b).length ≤ 256) := Lib.hid (by have := mayL_and HMM.out; exact cross_le this.1 this.2)
          clear hfull hf
          go_wp2_with fail
          refine (rright_any HR.out (by have := HCL.out; omega) HS.out).mono ?_
          rintro e w5 ⟨v5, rfl, ho5, hk5⟩
          have HO := Lib.hid (own_up ho5 hp.out.2)
          have HK5 := Lib.hid (hp.out.2.trans hk5)
          clear ho5 hk5
          go_wp2_with fail
          refine (bound_any HO.out HK5.out).mono ?_
          rintro e w6 ⟨v6, rfl, ho6, hk6⟩
          have HP : Hid (SetPost (quoteL a b) w (.returned (.tuple #[v6, .int .i64 (boundL (rightS (crossL a b))).2])) w6) := Lib.hid (by rw [HE.out]; exact ⟨v6, rfl, ho6, hk6⟩)
          clear ho6 hk6
          go_wp2
          go_ret2
          exact HP.out
end Go.Proofs.Ytdapklamemalgaa
