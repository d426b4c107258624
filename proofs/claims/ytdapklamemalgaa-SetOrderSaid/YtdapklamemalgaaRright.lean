/- What the document's putting right does. -/
import Derived.Test.YtdapklamemalgaaAnd
namespace Go.Proofs.Ytdapklamemalgaa
set_option linter.unusedVariables false
set_option linter.unusedSimpArgs false
open Go.RowKit Go.ChangeShapes Go.WideShapes

/-- a word stands behind the first k -/
def aftB (r : List ByteArray) (k : Nat) (y : ByteArray) : Bool := if k = 0 then true else lessS ((r[k - 1]?).getD ⟨#[]⟩) y
/-- the least of the first i words that stand behind the first k -/
def BestIs (r : List ByteArray) (k : Nat) (l : List ByteArray) (i : Nat) (b : ByteArray) (f : Bool) : Prop :=
  (f = false ∧ ∀ j y, j < i → l[j]? = some y → aftB r k y = false) ∨
  (f = true ∧ b ∈ l ∧ aftB r k b = true ∧ ∀ j y, j < i → l[j]? = some y → aftB r k y = true → lessS y b = false)
theorem aft_iff {r : List ByteArray} (hr : Rising r) {k m : Nat} {y : ByteArray} (hy : r[m]? = some y) (hk : k ≤ r.length) : aftB r k y = true ↔ k ≤ m := by
  unfold aftB
  by_cases h0 : k = 0
  · simp [h0]
  · rw [if_neg h0]
    obtain ⟨t, ht⟩ : ∃ t, r[k - 1]? = some t := ⟨_, List.getElem?_eq_getElem (by omega)⟩
    rw [ht]
    constructor
    · intro h
      rcases Nat.lt_or_ge m k with hlt | hge
      · exfalso
        rcases Nat.lt_or_ge m (k - 1) with h1 | h1
        · have := rising_at hr h1 hy ht
          simp only [Option.getD_some] at h
          rw [lessS_asym h] at this; cases this
        · obtain rfl : m = k - 1 := by omega
          rw [ht] at hy; cases hy
          simp only [Option.getD_some] at h
          rw [lessS_same] at h; cases h
      · exact hge
    · intro h
      exact rising_at hr (by omega) ht hy
theorem best_none {l : List ByteArray} {k : Nat} {b : ByteArray} (hk : k ≤ (rightS l).length) (h : BestIs (rightS l) k l l.length b false) : k = (rightS l).length := by
  rcases h with ⟨_, h⟩ | ⟨h, _⟩
  · rcases Nat.lt_or_ge k (rightS l).length with hlt | hge
    · obtain ⟨c, hc⟩ : ∃ c, (rightS l)[k]? = some c := ⟨_, List.getElem?_eq_getElem hlt⟩
      obtain ⟨j, hj⟩ := List.mem_iff_getElem?.1 ((mem_right c l).1 (List.mem_of_getElem? hc))
      have h1 := h j c (List.getElem?_eq_some_iff.1 hj).1 hj
      have h2 := (aft_iff (rising_right l) hc hk).2 (Nat.le_refl _)
      rw [h1] at h2; cases h2
    · omega
  · cases h
theorem best_found {l : List ByteArray} {k : Nat} {b : ByteArray} (hk : k ≤ (rightS l).length) (h : BestIs (rightS l) k l l.length b true) : (rightS l)[k]? = some b := by
  rcases h with ⟨h, _⟩ | ⟨_, hb, ha, h⟩
  · cases h
  · obtain ⟨m, hm⟩ := List.mem_iff_getElem?.1 ((mem_right b l).2 hb)
    have hkm := (aft_iff (rising_right l) hm hk).1 ha
    rcases Nat.lt_or_ge k m with hlt | hge
    · exfalso
      have hml := (List.getElem?_eq_some_iff.1 hm).1
      obtain ⟨c, hc⟩ : ∃ c, (rightS l)[k]? = some c := ⟨_, List.getElem?_eq_getElem (by omega)⟩
      obtain ⟨j, hj⟩ := List.mem_iff_getElem?.1 ((mem_right c l).1 (List.mem_of_getElem? hc))
      have h1 := h j c (List.getElem?_eq_some_iff.1 hj).1 hj ((aft_iff (rising_right l) hc hk).2 (Nat.le_refl _))
      rw [rising_at (rising_right l) hlt hc hm] at h1; cases h1
    · obtain rfl : m = k := by omega
      exact hm
theorem BestIs.no {r : List ByteArray} {k : Nat} {l : List ByteArray} {i : Nat} {b y : ByteArray} {f : Bool} (h : BestIs r k l i b f) (hy : l[i]? = some y) (ha : aftB r k y = false) : BestIs r k l (i + 1) b f := by
  rcases h with ⟨h1, h2⟩ | ⟨h1, h2, h3, h4⟩
  · exact .inl ⟨h1, get_step h2 hy ha⟩
  · exact .inr ⟨h1, h2, h3, get_step h4 hy (fun e => by rw [ha] at e; cases e)⟩
theorem BestIs.first {r : List ByteArray} {k : Nat} {l : List ByteArray} {i : Nat} {b y : ByteArray} (h : BestIs r k l i b false) (hy : l[i]? = some y) (ha : aftB r k y = true) : BestIs r k l (i + 1) y true := by
  rcases h with ⟨_, h2⟩ | ⟨h1, _⟩
  · refine .inr ⟨rfl, List.mem_of_getElem? hy, ha, ?_⟩
    intro j z hj hz haz
    rcases Nat.lt_or_ge j i with h | h
    · rw [h2 j z h hz] at haz; cases haz
    · obtain rfl : j = i := by omega
      rw [hy] at hz; cases hz
      exact lessS_same _
  · cases h1
theorem BestIs.less {r : List ByteArray} {k : Nat} {l : List ByteArray} {i : Nat} {b y : ByteArray} (h : BestIs r k l i b true) (hy : l[i]? = some y) (ha : aftB r k y = true) (hl : lessS y b = true) : BestIs r k l (i + 1) y true := by
  rcases h with ⟨h1, _⟩ | ⟨_, h2, h3, h4⟩
  · cases h1
  · refine .inr ⟨rfl, List.mem_of_getElem? hy, ha, ?_⟩
    refine get_step (p := fun z => aftB r k z = true → lessS z y = false) ?_ hy (fun _ => lessS_same _)
    intro j z hj hz haz
    cases e : lessS z y
    · rfl
    · have := h4 j z hj hz haz
      rw [lessS_trans e hl] at this; cases this
theorem BestIs.more {r : List ByteArray} {k : Nat} {l : List ByteArray} {i : Nat} {b y : ByteArray} (h : BestIs r k l i b true) (hy : l[i]? = some y) (hl : lessS y b = false) : BestIs r k l (i + 1) b true := by
  rcases h with ⟨h1, _⟩ | ⟨_, h2, h3, h4⟩
  · cases h1
  · exact .inr ⟨rfl, h2, h3, get_step h4 hy (fun _ => hl)⟩
theorem BestIs.size {r : List ByteArray} {k : Nat} {l : List ByteArray} {i n : Nat} {b : ByteArray} (h : BestIs r k l i b true) (hs : Small n l) : b.size ≤ n := by
  rcases h with ⟨h1, _⟩ | ⟨_, h2, _⟩
  · cases h1
  · exact hs b h2
theorem small_le {l : List ByteArray} (h : Small 100000 l) : Small maxLen l := fun s hs => by
  have := h s hs
  unfold maxLen; omega
/-- how long a slice is -/
def lenOf : Value → Nat
  | .slice _ n _ => n
  | _ => 0
/-- the first k of the words put right -/
def OutPart (w wr : World) (r : List ByteArray) (k : Nat) (v : Value) : Prop := wr.ownsRow w.heap.size 36 1 v k (wcells (r.take k)) ∧ Kept w wr
theorem OutPart.kept {w wr w1 : World} {r : List ByteArray} {k : Nat} {v : Value} (h : OutPart w wr r k v) (hk : Kept wr w1) : OutPart w w1 r k v := ⟨own_kept h.1 hk, h.2.trans hk⟩
theorem OutPart.step {w wr w1 : World} {r : List ByteArray} {k : Nat} {v v1 : Value} {x : ByteArray} (h : OutPart w wr r k v) (hx : r[k]? = some x)
    (hp : AppPost wr w.heap.size 36 1 v (k + 1) (wcells (r.take k) ++ [.string x]) v1 w1) : OutPart w w1 r (k + 1) v1 := by
  have hv : ∀ g, v.ownBlock = some g → w.heap.size ≤ g := by
    intro g hg
    rcases h.1.2 with ⟨rfl, _⟩ | ⟨g', cap, cur, rfl, hb, _⟩
    · simp [Value.ownBlock] at hg
    · simp [Value.ownBlock] at hg; omega
  have hk := hp.kept h.2 hv
  refine ⟨?_, hk.1⟩
  rw [List.take_add_one, hx, wcells_append]
  exact hp.1
set_option maxHeartbeats 4000000 in
theorem rright_any {w : World} {G : Nat → Prop} {v : Value} {l : List ByteArray} (h : Reads w G v (wcells l)) (hl : l.length ≤ 100000) (hs : Small 100000 l) :
    Calls Try.prog 39 #[v] w (WordsPost w (rightS l)) := by
  obtain ⟨ao, c, rfl, _, hc⟩ := h
  rw [wcells_len]
  have HC := Lib.hid hc
  have HS : Hid (Small maxLen l) := Lib.hid (small_le hs)
  have HS1 := Lib.hid hs
  clear hc hs
  have hrl := right_length l
  generalize hn : l.length = n at hl hrl ⊢
  have HN := Lib.hid hn
  clear hn
  obtain ⟨r, hr⟩ : ∃ r, r = rightS l := ⟨_, rfl⟩
  have HR := Lib.hid hr
  obtain ⟨nr, hnr⟩ : ∃ nr, nr = r.length := ⟨_, rfl⟩
  have HNR := Lib.hid hnr
  have hnn : nr ≤ n := by rw [hnr, hr]; exact hrl
  clear hr hnr hrl
  have H0 : Hid (OutPart w (w.alloc (Obj.cells #[] 36)) r 0 (.slice (some ⟨w.heap.size, 0, none⟩) 0 0)) := Lib.hid ⟨own_new (heap_alloc_new w _) (Nat.le_refl _), Fr.of_alloc _ _ _⟩
  go_enter Try.func39, Try.ntmps39
  go_wp2
  go_loopw [3] (fun v wr => ∃ k : Nat, k ≤ nr ∧ lenOf v = k ∧ Hid (OutPart w wr r k v)) (fun v _ => nr - lenOf v)
  case atStart => exact ⟨0, by omega, rfl, H0⟩
  case round =>
    obtain ⟨k, hk, hlen, hp⟩ := hrel
    clear H0
    obtain ⟨bo, d, hv, hd⟩ := own_slice hp.out.1
    subst hv
    clear hlen
    have HRD := Lib.hid (Reads.of_row hp.out.1)
    have HB : Hid (BestIs r k l 0 ⟨#[]⟩ false) := Lib.hid (.inl ⟨rfl, fun j y hj => by omega⟩)
    clear HRD
    go_wp2
    go_loopw [4, 5, 6] (fun b f i wr => ∃ (m : Nat) (x : ByteArray) (q : Bool), m ≤ n ∧ b = .string x ∧ f = .bool q ∧ i = .int .i64 m ∧ Hid (OutPart w wr r k (.slice bo k d)) ∧ Hid (BestIs r k l m x q)) (fun _ _ i _ => n - (intOf i).toNat)
    case atStart => exact ⟨0, ⟨#[]⟩, false, by omega, rfl, rfl, rfl, hp, HB⟩
    case round =>
      obtain ⟨m, x, q, hm, rfl, rfl, rfl, hp, hb⟩ := hrel
      clear HB
      by_cases hlt : m < n
      · have h1 : (m : Int) < n := by omega
        obtain ⟨y, hy⟩ : ∃ y, l[m]? = some y := ⟨_, List.getElem?_eq_getElem (by have := HN.out; omega)⟩
        obtain ⟨g, off, rfl, _, hcell0⟩ := HC.out m _ (wcells_get hy)
        have hcell := hp.out.2.cell hcell0 (fun x => x)
        have HCELL := Lib.hid hcell0
        have hsy := Lib.hid (HS.out y (List.mem_of_getElem? hy))
        have HY := Lib.hid hy
        clear hy hcell0
        by_cases h0 : k = 0
        · subst h0
          have haft : aftB r 0 y = true := rfl
          cases q
          · have HA := Lib.hid (hb.out.first HY.out haft)
            clear haft
            go_wp2
            go_quiet (fail)
            go_wp2
            go_roundw
            case rel => exact ⟨m + 1, y, true, by omega, rfl, rfl, by go_num, Lib.hid (hp.out.kept (Fr.of_drewN _ _ _)), HA⟩
            case measure => simp [intOf]; omega
          · have hxs := Lib.hid (hb.out.size HS.out)
            cases hly : lessS y x
            · have HA := Lib.hid (hb.out.more HY.out hly)
              clear haft
              go_wp2
              go_quiet (fail)
              go_wp2_with fail
              refine (rless_any y x _ hsy.out hxs.out).mono ?_
              rintro e w1 ⟨rfl, nd, rfl⟩
              rw [hly]
              go_wp2
              go_roundw
              case rel => exact ⟨m + 1, x, true, by omega, rfl, rfl, by go_num, Lib.hid (hp.out.kept (Fr.of_drewN _ _ _)), HA⟩
              case measure => simp [intOf]; omega
            · have HA := Lib.hid (hb.out.less HY.out haft hly)
              clear haft
              go_wp2
              go_quiet (fail)
              go_wp2_with fail
              refine (rless_any y x _ hsy.out hxs.out).mono ?_
              rintro e w1 ⟨rfl, nd, rfl⟩
              rw [hly]
              go_wp2
              go_roundw
              case rel => exact ⟨m + 1, y, true, by omega, rfl, rfl, by go_num, Lib.hid (hp.out.kept (Fr.of_drewN _ _ _)), HA⟩
              case measure => simp [intOf]; omega
        · have g0 : ((k : Int) == 0) = false := by simp [h0]
          obtain ⟨t, ht⟩ : ∃ t, r[k - 1]? = some t := ⟨_, List.getElem?_eq_getElem (by have := HNR.out; omega)⟩
          have htake : (r.take k)[k - 1]? = some t := by rw [List.getElem?_take, if_pos (by omega)]; exact ht
          obtain ⟨_, _, hbv, _, hbx⟩ := Reads.of_row hp.out.1
          obtain ⟨gb, ob, hbo, _, hbcell⟩ := hbx (k - 1) _ (wcells_get htake)
          rw [wcells_len, List.length_take, show min k r.length = k by have := HNR.out; omega] at hbv
          cases hbv
          cases hbo
          have hts := Lib.hid (HS.out t ((mem_right t l).1 (by rw [← HR.out]; exact List.mem_of_getElem? ht)))
          have hag : aftB r k y = lessS t y := by unfold aftB; rw [if_neg h0, ht]; rfl
          obtain ⟨k', rfl⟩ : ∃ k', k = k' + 1 := ⟨k - 1, by omega⟩
          have e1 : (k' : Int) + 1 - 1 = k' := by omega
          have g1 : ((k' : Int) + 1 == 0) = false := by rw [beq_eq_false_iff_ne]; omega
          have w1 : IntKind.i64.wrap (k' : Int) = k' := IntWalk.i64_in _ (by omega)
          have w2 : IntKind.i64.wrap ((k' : Int) + 1 - 1) = k' := by rw [e1]; exact w1
          have e2 : k' + 1 - 1 = k' := by omega
          rw [e2] at hbcell
          clear htake ht hbx h0 e2
          have HL : Hid (∀ W, Calls Try.prog 34 #[.string t, .string y] W (DrewPost (.bool (aftB r (k' + 1) y)) W)) := Lib.hid (fun W => by rw [hag]; exact rless_any t y W hts.out hsy.out)
          clear hag
          cases haft : aftB r (k' + 1) y
          · rw [haft] at HL
            have HA := Lib.hid (hb.out.no HY.out haft)
            clear haft
            go_wp2
            go_quiet ((go_at_call 34; exact quiet_drew HL.out))
            go_wp2
            go_roundw
            case rel => exact ⟨m + 1, x, q, by omega, rfl, rfl, by go_num, Lib.hid (hp.out.kept (Fr.of_drewN _ _ _)), HA⟩
            case measure => simp [intOf]; omega
          · rw [haft] at HL
            cases q
            · have HA := Lib.hid (hb.out.first HY.out haft)
              clear haft
              go_wp2
              go_quiet ((go_at_call 34; exact quiet_drew HL.out))
              go_wp2
              go_roundw
              case rel => exact ⟨m + 1, y, true, by omega, rfl, rfl, by go_num, Lib.hid (hp.out.kept (Fr.of_drewN _ _ _)), HA⟩
              case measure => simp [intOf]; omega
            · have hxs := Lib.hid (hb.out.size HS.out)
              cases hly : lessS y x
              · have HA := Lib.hid (hb.out.more HY.out hly)
                clear haft
                go_wp2
                go_quiet ((go_at_call 34; exact quiet_drew HL.out))
                go_wp2_with fail
                refine (rless_any y x _ hsy.out hxs.out).mono ?_
                rintro e w1 ⟨rfl, nd, rfl⟩
                rw [hly]
                go_wp2
                go_roundw
                case rel => exact ⟨m + 1, x, true, by omega, rfl, rfl, by go_num, Lib.hid (hp.out.kept (Fr.of_drewN _ _ _)), HA⟩
                case measure => simp [intOf]; omega
              · have HA := Lib.hid (hb.out.less HY.out haft hly)
                clear haft
                go_wp2
                go_quiet ((go_at_call 34; exact quiet_drew HL.out))
                go_wp2_with fail
                refine (rless_any y x _ hsy.out hxs.out).mono ?_
                rintro e w1 ⟨rfl, nd, rfl⟩
                rw [hly]
                go_wp2
                go_roundw
                case rel => exact ⟨m + 1, y, true, by omega, rfl, rfl, by go_num, Lib.hid (hp.out.kept (Fr.of_drewN _ _ _)), HA⟩
                case measure => simp [intOf]; omega
      · obtain rfl : m = n := by omega
        rw [← HN.out] at hb
        cases q
        · have HE : Hid (k = nr) := Lib.hid (by rw [HNR.out, HR.out]; rw [HR.out] at hb; exact best_none (by rw [← HR.out, ← HNR.out]; exact hk) hb.out)
          go_wp2
          go_ret
          refine ⟨_, rfl, ?_, hp.out.2⟩
          have ho := hp.out.1
          have e1 : r.take k = rightS l := by rw [HE.out, HNR.out, List.take_length]; exact HR.out
          rw [e1] at ho
          have e2 : (rightS l).length = k := by rw [← HR.out, ← HNR.out]; exact HE.out.symm
          rw [e2]
          exact ho
        · have HF : Hid (r[k]? = some x) := Lib.hid (by rw [HR.out]; rw [HR.out] at hb; exact best_found (by rw [← HR.out, ← HNR.out]; exact hk) hb.out)
          have hk1 : k + 1 ≤ nr := by have := (List.getElem?_eq_some_iff.1 HF.out).1; have := HNR.out; omega
          clear hb
          go_wp2_with (at_builtin; refine list_app rfl (.tmp 51) (.tmp 53) 23 23 rfl Try.slice23 rfl (by exact own_kept hp.out.1 (Fr.of_alloc _ _ _)) rfl (by exact src_one Try.underlying23 (heap_alloc_new _ _) rfl) (by unfold maxLen; omega) (by omega) (by have := hp.out.2.size; simp; omega) ?_; intro v2 w2 hq; have Hq := Lib.hid (OutPart.step ⟨own_kept hp.out.1 (Fr.of_alloc _ _ _), hp.out.2.trans (Fr.of_alloc _ _ _)⟩ HF.out hq); clear hq)
          obtain ⟨ao2, c2, rfl, _⟩ := own_slice Hq.out.1
          go_roundw
          case rel => exact ⟨k + 1, hk1, rfl, Hq⟩
          case measure => simp [lenOf]; omega
end Go.Proofs.Ytdapklamemalgaa
