/- Contracts and lemmas: Lead2 -/
import Derived.Test.YtdapdpmplbifdaaDoorLead
import Derived.Test.YtdapdpmplbifdaaDoorFirst
import Derived.Laws.RangeAny
import Derived.Lib.OthersKept
namespace Go.Proofs.YtdapdpmplbifdaaDoor
set_option linter.unusedVariables false
set_option linter.unusedSimpArgs false
open Go.RowKit Go.ChangeShapes Go.WideShapes
theorem head_get {s : ByteArray} (h : 0 < s.size) : ((bs s).head?.map tLet).getD false = tLet (s.get! 0) := by
  have := drop_at h
  rw [List.drop_zero] at this
  rw [this]; rfl
theorem lead_stop {s : ByteArray} {pos : Nat} (h : Scan tIn s 0 pos) (hp : pos < s.size → tIn (s.get! pos) = false) (hl : ((bs s).head?.map tLet).getD false = true) : strOf (leadS (bs s)) = s.extract 0 pos := by
  have h1 := (h.stop hp).1
  rw [List.drop_zero] at h1
  unfold leadS
  rw [if_pos hl, h1, ← strOf_extract h.2.1, List.drop_zero]
theorem lead_end {s : ByteArray} (h : Scan tIn s 0 s.size) (hl : 0 < s.size → ((bs s).head?.map tLet).getD false = true) : strOf (leadS (bs s)) = s := by
  rcases Nat.eq_zero_or_pos s.size with h0 | h0
  · have : bs s = [] := List.eq_nil_of_length_eq_zero (by rw [bs_len]; exact h0)
    rw [this, lead_none rfl]
    exact bs_inj (by rw [bs_strOf, this])
  · have h1 := (h.stop (fun hh => absurd hh (Nat.lt_irrefl _))).1
    rw [List.drop_zero, Nat.sub_zero, List.take_of_length_le (by rw [bs_len]; exact Nat.le_refl _)] at h1
    unfold leadS
    rw [if_pos (hl h0), h1, strOf_bs]
theorem let_far1 {r : Int} (h : 128 ≤ r) : rLet r = false := let_far (.inr h)
set_option maxHeartbeats 1000000 in
theorem kname_any (s : ByteArray) (w : World) (hs : s.size ≤ 1000000) :
    Calls Tryd.prog 69 #[.string s] w (KeptPost (.string (strOf (leadS (bs s)))) w) := by
  have H0 : Hid ((w.iter s 0).heap[w.heap.size]? = some (.stringIter s 0) ∧ Kept w (w.iter s 0)) := Lib.hid ⟨World.iter_heap w s 0, Fr.of_alloc _ _ _⟩
  have H1 : Hid (Scan tIn s 0 0) := Lib.hid (.first (Nat.zero_le _))
  go_enter Tryd.func69, Tryd.ntmps69
  go_wp2
  generalize hg : w.heap.size = g0 at H0 ⊢
  have HG := Lib.hid hg
  clear hg
  generalize w.iter s 0 = w1 at H0 ⊢
  go_loopw [] (fun wr => ∃ pos : Nat, pos ≤ s.size ∧ Hid (wr.heap[g0]? = some (.stringIter s pos) ∧ Kept w wr) ∧ Hid (Scan tIn s 0 pos) ∧ Hid (0 < pos → ((bs s).head?.map tLet).getD false = true)) (fun wr => s.size - posOf wr g0)
  case atStart => exact ⟨0, Nat.zero_le _, H0, H1, Lib.hid (fun h => absurd h (Nat.lt_irrefl _))⟩
  case round =>
    obtain ⟨pos, hps, hit, hat, hle⟩ := hrel
    clear H0 H1
    have HPO : Hid (posOf wr g0 = pos) := Lib.hid (posOf_is hit.out.1)
    by_cases hlt : pos < s.size
    · have hnext := fun ty => Go.Lib.run_next_any_at (P := Tryd.prog) wr g0 s pos ty hit.out.1 hlt
      have HN : Hid ((wr.iterAt g0 s (pos + (Utf8.decode s pos).2)).heap[g0]? = some (.stringIter s (pos + (Utf8.decode s pos).2)) ∧ Kept w (wr.iterAt g0 s (pos + (Utf8.decode s pos).2))) := Lib.hid ⟨Go.Lib.iterAt_heap wr g0 s pos _ hit.out.1, iter_kept hit.out.2 (by rw [HG.out]; exact Nat.le_refl _)⟩
      have HI := Lib.hid (rune_tells in_byte (fun r h => rin_far h) hlt)
      have HL := Lib.hid (rune_tells let_byte (fun r h => let_far1 h) hlt)
      have hki : (pos : Int) ≤ (s.size : Int) := by omega
      by_cases h0 : pos = 0
      · have g1 : ((pos : Int) == 0) = true := by simp [h0]
        have HH : Hid (((bs s).head?.map tLet).getD false = tLet (s.get! pos)) := Lib.hid (by rw [h0] at hlt ⊢; exact head_get hlt)
        cases hl : tLet (s.get! pos)
        · have HR : Hid (rLet ((Utf8.decode s pos).1 : Nat) = false) := Lib.hid (HL.out.1.trans hl)
          have HA : Hid (leadS (bs s) = []) := Lib.hid (lead_none (by rw [HH.out, hl]))
          clear HI HL hl HH h0
          generalize (Utf8.decode s pos).2 = d2 at *
          generalize (Utf8.decode s pos).1 = d1 at *
          go_wp2_with (go_at_call 81; refine (klet_any _ _).mono ?_; rintro e w' ⟨rfl, rfl⟩; rw [HR.out])
          go_ret
          exact ⟨ret_str (by rw [HA.out]; rfl), HN.out.2⟩
        · have hq := tIn_of_let hl
          have HR : Hid (rLet ((Utf8.decode s pos).1 : Nat) = true) := Lib.hid (HL.out.1.trans hl)
          have HR2 : Hid (rIn ((Utf8.decode s pos).1 : Nat) = true) := Lib.hid (HI.out.1.trans hq)
          have HA : Hid (((bs s).head?.map tLet).getD false = true) := Lib.hid (by rw [HH.out, hl])
          have HM := Lib.hid (hat.out.more hlt hq)
          have h1 := HI.out.2 hq
          clear HI HL hl HH h0 hq
          rw [h1] at hnext HN
          generalize (Utf8.decode s pos).2 = d2 at *
          generalize (Utf8.decode s pos).1 = d1 at *
          subst h1
          go_wp2_with (first | (go_at_call 81; refine (klet_any _ _).mono ?_; rintro e w' ⟨rfl, rfl⟩; rw [HR.out]) | (go_at_call 75; refine (kin_any _ _).mono ?_; rintro e w' ⟨rfl, rfl⟩; rw [HR2.out]))
          go_roundw
          case rel => exact ⟨pos + 1, hlt, HN, HM, Lib.hid (fun _ => HA.out)⟩
          case measure => rw [posOf_is HN.out.1, HPO.out]; omega
      · have g1 : ((pos : Int) == 0) = false := by simp [h0]
        have HA := Lib.hid (hle.out (by omega))
        cases hq : tIn (s.get! pos)
        · have HR2 : Hid (rIn ((Utf8.decode s pos).1 : Nat) = false) := Lib.hid (HI.out.1.trans hq)
          have HS := Lib.hid (lead_stop hat.out (fun _ => hq) HA.out)
          clear HI HL hq h0
          generalize (Utf8.decode s pos).2 = d2 at *
          generalize (Utf8.decode s pos).1 = d1 at *
          go_wp2_with (go_at_call 75; refine (kin_any _ _).mono ?_; rintro e w' ⟨rfl, rfl⟩; rw [HR2.out])
          go_ret
          exact ⟨ret_str (by rw [HS.out]), HN.out.2⟩
        · have HR2 : Hid (rIn ((Utf8.decode s pos).1 : Nat) = true) := Lib.hid (HI.out.1.trans hq)
          have HM := Lib.hid (hat.out.more hlt hq)
          have h1 := HI.out.2 hq
          clear HI HL hq h0
          rw [h1] at hnext HN
          generalize (Utf8.decode s pos).2 = d2 at *
          generalize (Utf8.decode s pos).1 = d1 at *
          subst h1
          go_wp2_with (go_at_call 75; refine (kin_any _ _).mono ?_; rintro e w' ⟨rfl, rfl⟩; rw [HR2.out])
          go_roundw
          case rel => exact ⟨pos + 1, hlt, HN, HM, Lib.hid (fun _ => HA.out)⟩
          case measure => rw [posOf_is HN.out.1, HPO.out]; omega
    · obtain rfl : pos = s.size := by omega
      have hnext := fun ty => Go.Lib.run_next_end_at (P := Tryd.prog) wr g0 s s.size ty hit.out.1 hlt
      have HS := Lib.hid (lead_end hat.out hle.out)
      go_wp2
      go_ret
      exact ⟨ret_str (by rw [HS.out]), hit.out.2⟩
theorem bl_wide (s : ByteArray) : ∀ (d pos : Nat), pos + d ≤ s.size → (∀ j, pos ≤ j → j < pos + d → 128 ≤ (s.get! j).toNat) → blS true ((bs s).drop pos) = d + blS true ((bs s).drop (pos + d))
  | 0, pos, _, _ => by simp
  | d + 1, pos, h, hj => by
    have h0 := hj pos (Nat.le_refl _) (by omega)
    have h35 : s.get! pos ≠ 35 := by intro e; rw [e] at h0; exact absurd h0 (by decide)
    have h10 : s.get! pos ≠ 10 := by intro e; rw [e] at h0; exact absurd h0 (by decide)
    have hn : noteS true (s.get! pos) = true := by unfold noteS; rw [if_neg h35, if_neg h10]
    have hp : passB true (s.get! pos) = true := by unfold passB; rw [hn]; rfl
    rw [drop_at (by omega), bl_step hp, hn, bl_wide s d (pos + 1) (by omega) (fun j h1 h2 => hj j (by omega) (by omega))]
    have e : pos + 1 + d = pos + (d + 1) := by omega
    rw [e]; omega
/-- on the way over what is passed over -/
def BlTo (s : ByteArray) (pos : Nat) (nt : Bool) : Prop := blS false (bs s) = pos + blS nt ((bs s).drop pos)
theorem BlTo.first (s : ByteArray) : BlTo s 0 false := by unfold BlTo; simp
theorem BlTo.step {s : ByteArray} {pos : Nat} {nt : Bool} (h : BlTo s pos nt) (hlt : pos < s.size) (hp : passB nt (s.get! pos) = true) : BlTo s (pos + 1) (noteS nt (s.get! pos)) := by
  unfold BlTo at *
  rw [h, drop_at hlt, bl_step hp]; omega
theorem BlTo.stop {s : ByteArray} {pos : Nat} {nt : Bool} (h : BlTo s pos nt) (hlt : pos < s.size) (hp : passB nt (s.get! pos) = false) : blS false (bs s) = pos := by
  unfold BlTo at *
  rw [h, drop_at hlt, bl_stop hp]; omega
theorem BlTo.wide {s : ByteArray} {pos : Nat} (h : BlTo s pos true) (hlt : pos < s.size) (hp : 128 ≤ (s.get! pos).toNat) : BlTo s (pos + (Utf8.decode s pos).2) true := by
  unfold BlTo at *
  have hd := decode_len s pos hlt
  rw [h, bl_wide s (Utf8.decode s pos).2 pos hd.1 (fun j h1 h2 => by
    rcases Nat.eq_or_lt_of_le h1 with rfl | h3
    · exact hp
    · exact hd.2 j h3 h2)]
  omega
theorem BlTo.ends {s : ByteArray} {nt : Bool} (h : BlTo s s.size nt) : blS false (bs s) = s.size := by
  unfold BlTo at *
  rw [h, List.drop_eq_nil_of_le (by rw [bs_len]; exact Nat.le_refl _)]; rfl
set_option maxHeartbeats 1000000 in
theorem kblanks_any (s : ByteArray) (w : World) (hs : s.size ≤ 1000000) :
    Calls Tryd.prog 44 #[.string s] w (KeptPost (.int .i64 (blS false (bs s) : Nat)) w) := by
  have H0 : Hid ((w.iter s 0).heap[w.heap.size]? = some (.stringIter s 0) ∧ Kept w (w.iter s 0)) := Lib.hid ⟨World.iter_heap w s 0, Fr.of_alloc _ _ _⟩
  have H1 : Hid (BlTo s 0 false) := Lib.hid (.first s)
  go_enter Tryd.func44, Tryd.ntmps44
  go_wp2
  generalize hg : w.heap.size = g0 at H0 ⊢
  have HG := Lib.hid hg
  clear hg
  generalize w.iter s 0 = w1 at H0 ⊢
  go_loopw [3] (fun v wr => ∃ (pos : Nat) (nt : Bool), v = .bool nt ∧ pos ≤ s.size ∧ Hid (wr.heap[g0]? = some (.stringIter s pos) ∧ Kept w wr) ∧ Hid (BlTo s pos nt)) (fun _ wr => s.size - posOf wr g0)
  case atStart => exact ⟨0, false, rfl, Nat.zero_le _, H0, H1⟩
  case round =>
    obtain ⟨pos, nt, rfl, hps, hit, hat⟩ := hrel
    clear H0 H1
    have HPO : Hid (posOf wr g0 = pos) := Lib.hid (posOf_is hit.out.1)
    by_cases hlt : pos < s.size
    · have hnext := fun ty => Go.Lib.run_next_any_at (P := Tryd.prog) wr g0 s pos ty hit.out.1 hlt
      have HN : Hid ((wr.iterAt g0 s (pos + (Utf8.decode s pos).2)).heap[g0]? = some (.stringIter s (pos + (Utf8.decode s pos).2)) ∧ Kept w (wr.iterAt g0 s (pos + (Utf8.decode s pos).2))) := Lib.hid ⟨Go.Lib.iterAt_heap wr g0 s pos _ hit.out.1, iter_kept hit.out.2 (by rw [HG.out]; exact Nat.le_refl _)⟩
      have HD : Hid (1 ≤ (Utf8.decode s pos).2 ∧ pos + (Utf8.decode s pos).2 ≤ s.size) := Lib.hid ⟨wide_pos hlt, (decode_len s pos hlt).1⟩
      have HB := Lib.hid (rune_tells blank_byte (fun r h => rblank_far h) hlt)
      by_cases h128 : (s.get! pos).toNat < 128
      · have hd := decode_small hlt h128
        have HST : Hid (passB nt (s.get! pos) = true → BlTo s (pos + 1) (noteS nt (s.get! pos))) := Lib.hid (hat.out.step hlt)
        have HSP : Hid (passB nt (s.get! pos) = false → blS false (bs s) = pos) := Lib.hid (hat.out.stop hlt)
        rw [hd] at hnext HN HB
        simp only at hnext HN HB
        clear hd HD
        generalize s.get! pos = c at *
        by_cases e35 : c = 35
        · have g35 := eq_yes 35 35 rfl (by omega) e35
          have HP1 : Hid (BlTo s (pos + 1) true) := Lib.hid (by
            have h1 : noteS nt c = true := by unfold noteS; rw [if_pos e35]
            have h2 := HST.out (by unfold passB; rw [h1]; rfl)
            rw [h1] at h2; exact h2)
          clear e35 HST HSP HB h128
          go_wp2
          all_goals
            go_roundw
            case rel => exact ⟨pos + 1, true, rfl, hlt, HN, HP1⟩
            case measure => rw [posOf_is HN.out.1, HPO.out]; omega
        · have g35 := eq_no 35 35 rfl (by omega) e35
          by_cases e10 : c = 10
          · have g10 : ((c.toNat : Int) != 10) = false := by subst e10; rfl
            have HR : Hid (rBlank (c.toNat : Int) = true) := Lib.hid (by subst e10; rfl)
            have HP1 : Hid (BlTo s (pos + 1) false) := Lib.hid (by
              have h1 : noteS nt c = false := by unfold noteS; rw [if_neg e35, if_pos e10]
              have h2 := HST.out (by unfold passB; rw [h1, e10]; rfl)
              rw [h1] at h2; exact h2)
            clear e35 e10 HST HSP HB h128
            cases nt
            all_goals
              go_wp2_with (go_at_call 68; refine (kblank_any _ _).mono ?_; rintro e w' ⟨rfl, rfl⟩; rw [HR.out])
              go_roundw
              case rel => exact ⟨pos + 1, false, rfl, hlt, HN, HP1⟩
              case measure => rw [posOf_is HN.out.1, HPO.out]; omega
          · have g10 : ((c.toNat : Int) != 10) = true := by rw [bne, eq_no 10 10 rfl (by omega) e10]; rfl
            have hnn : noteS nt c = nt := by unfold noteS; rw [if_neg e35, if_neg e10]
            cases nt
            · cases hb : tBlank c
              · have HR : Hid (rBlank (c.toNat : Int) = false) := Lib.hid (HB.out.1.trans hb)
                have HA := Lib.hid (HSP.out (by unfold passB; rw [hnn, hb]; rfl))
                clear e35 e10 HST HSP HB h128 hnn hb
                go_wp2_with (go_at_call 68; refine (kblank_any _ _).mono ?_; rintro e w' ⟨rfl, rfl⟩; rw [HR.out])
                go_ret
                exact ⟨ret_int (by rw [HA.out]), HN.out.2⟩
              · have HR : Hid (rBlank (c.toNat : Int) = true) := Lib.hid (HB.out.1.trans hb)
                have HP1 : Hid (BlTo s (pos + 1) false) := Lib.hid (by
                  have h2 := HST.out (by unfold passB; rw [hnn, hb]; rfl)
                  rw [hnn] at h2; exact h2)
                clear e35 e10 HST HSP HB h128 hnn hb
                go_wp2_with (go_at_call 68; refine (kblank_any _ _).mono ?_; rintro e w' ⟨rfl, rfl⟩; rw [HR.out])
                go_roundw
                case rel => exact ⟨pos + 1, false, rfl, hlt, HN, HP1⟩
                case measure => rw [posOf_is HN.out.1, HPO.out]; omega
            · have HP1 : Hid (BlTo s (pos + 1) true) := Lib.hid (by
                have h2 := HST.out (by unfold passB; rw [hnn]; rfl)
                rw [hnn] at h2; exact h2)
              clear e35 e10 HST HSP HB h128 hnn
              go_wp2
              go_roundw
              case rel => exact ⟨pos + 1, true, rfl, hlt, HN, HP1⟩
              case measure => rw [posOf_is HN.out.1, HPO.out]; omega
      · have hfar := decode_far hlt (by omega : 128 ≤ (s.get! pos).toNat)
        have hnn : noteS nt (s.get! pos) = nt := by
          unfold noteS
          rw [if_neg (by intro e; rw [e] at h128; exact h128 (by decide)), if_neg (by intro e; rw [e] at h128; exact h128 (by decide))]
        have hb : tBlank (s.get! pos) = false := by
          rw [← blank_byte]
          exact rblank_far (by omega)
        have HR : Hid (rBlank ((Utf8.decode s pos).1 : Nat) = false) := Lib.hid (HB.out.1.trans hb)
        cases nt
        · have HA := Lib.hid (hat.out.stop hlt (by unfold passB; rw [hnn, hb]; rfl))
          clear h128 hnn hb HB HD
          generalize (Utf8.decode s pos).2 = d2 at *
          generalize (Utf8.decode s pos).1 = d1 at *
          have g35 : ((d1 : Int) == 35) = false := by rw [beq_eq_false_iff_ne]; omega
          have g10 : ((d1 : Int) != 10) = true := by rw [bne_iff_ne]; omega
          clear hfar
          go_wp2_with (go_at_call 68; refine (kblank_any _ _).mono ?_; rintro e w' ⟨rfl, rfl⟩; rw [HR.out])
          go_ret
          exact ⟨ret_int (by rw [HA.out]), HN.out.2⟩
        · have HP1 := Lib.hid (hat.out.wide hlt (by omega))
          clear h128 hnn hb HB
          generalize (Utf8.decode s pos).2 = d2 at *
          generalize (Utf8.decode s pos).1 = d1 at *
          have g35 : ((d1 : Int) == 35) = false := by rw [beq_eq_false_iff_ne]; omega
          have g10 : ((d1 : Int) != 10) = true := by rw [bne_iff_ne]; omega
          clear hfar
          go_wp2
          go_roundw
          case rel => exact ⟨pos + d2, true, rfl, HD.out.2, HN, HP1⟩
          case measure => rw [posOf_is HN.out.1, HPO.out]; have := HD.out; omega
    · obtain rfl : pos = s.size := by omega
      have hnext := fun ty => Go.Lib.run_next_end_at (P := Tryd.prog) wr g0 s s.size ty hit.out.1 hlt
      have HS := Lib.hid hat.out.ends
      go_wp2
      go_ret
      exact ⟨ret_int (by rw [HS.out]), hit.out.2⟩
theorem bad_len (l : List UInt8) : decide ((0 : Int) < ((l.takeWhile tBad).length : Nat)) = !tFine l := by
  cases l with
  | nil => rfl
  | cons c r =>
    show _ = !(!tBad c)
    cases h : tBad c <;> simp [List.takeWhile_cons, h]
theorem ksticks_any (s : ByteArray) (w : World) (hs : s.size ≤ 1000000) :
    Calls Tryd.prog 47 #[.string s] w (KeptPost (.bool (!tFine (bs s))) w) := by
  have HC : Hid (∀ W, Calls Tryd.prog 71 #[.string s, .func (.func 74) #[] #[]] W (KeptPost (.int .i64 (((bs s).takeWhile tBad).length : Nat)) W)) :=
    Lib.hid (fun W => klead_any 74 rBad tBad (fun args w => by kernel_rfl) kbad_any bad_byte (fun r h => rbad_far h) s W hs)
  have HB := Lib.hid (bad_len (bs s))
  generalize ((bs s).takeWhile tBad).length = n at *
  go_enter Tryd.func47, Tryd.ntmps47
  go_wp2_with fail
  refine (HC.out _).mono ?_
  rintro e w1 ⟨rfl, hk⟩
  have HK := Lib.hid hk
  clear hk
  go_wp2
  all_goals
    go_ret
    exact ⟨ret_bool (by rw [← HB.out]; simp), HK.out⟩

end Go.Proofs.YtdapdpmplbifdaaDoor
