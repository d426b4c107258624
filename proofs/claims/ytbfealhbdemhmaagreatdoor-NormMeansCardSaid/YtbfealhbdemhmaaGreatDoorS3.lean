/- Contracts and lemmas: S3 -/
import Derived.Test.YtbfealhbdemhmaaGreatDoorS2
import Derived.Test.YtbfealhbdemhmaaGreatDoorShelf
import Derived.Test.YtbfealhbdemhmaaGreatDoorShelf
import Derived.Shelf.SlSortCmp.NoneTotal
import Derived.Shelf.Spec.SlicesGrow
namespace Go.Proofs.YtbfealhbdemhmaaGreatDoor
set_option linter.unusedVariables false
set_option linter.unusedSimpArgs false
open Go.RowKit Go.ChangeShapes Go.WideShapes
set_option maxRecDepth 20000

theorem clone_any {w : World} {G : Nat → Prop} {v : Value} {l : List ByteArray} (h : Reads w G v (wcells l)) (hl : l.length ≤ 100000) :
    Calls Tryz.prog 125 #[v] w (WordsPost w l) := by
  have HR := Lib.hid h
  obtain ⟨ao, c, rfl, _, hc⟩ := h
  rw [wcells_len] at HR ⊢
  have q22 : ∀ (w : World) (a : Option Addr) (n c n' c' : Nat), (binOp .eql 32 (.slice a n c) (.slice none n' c')).run Tryz.prog w = .ok (.bool a.isNone) w := fun w a n c n' c' => Go.Lib.run_eql_slice_nil w _ _ a n c n' c' Tryz.underlying32
  cases ao with
  | none =>
    obtain rfl := reads_none hc
    clear hc
    go_enter Tryz.func125, Tryz.ntmps125
    go_wp2
    go_ret
    exact ⟨_, rfl, own_nil _ _ _ _, Fr.refl _ _⟩
  | some a =>
    clear hc
    have H0 := Lib.hid (own_new (base := w.heap.size) (size := 1) (heap_alloc_new w (Obj.cells #[] 43)) (Nat.le_refl _))
    have H1 : Hid (Reads (w.alloc (Obj.cells #[] 43)) G (.slice (some a) l.length c) (wcells l)) := Lib.hid (HR.out.new (Fr.of_alloc _ _ _))
    go_enter Tryz.func125, Tryz.ntmps125
    go_wp2_with (at_builtin; refine list_app rfl (.tmp 5) (.tmp 6) 32 32 rfl Tryz.slice32 rfl (by exact H0.out) rfl (by exact H1.out.src Tryz.underlying32 one_str) (by rw [wcells_len]; unfold maxLen; omega) (by rw [wcells_len]; omega) (by simp) ?_; intro v1 w1 hp1; have Hp1 := Lib.hid hp1; clear hp1)
    go_ret
    have hp := Hp1.out.kept (Fr.of_alloc (fun _ => False) w (Obj.cells #[] 43)) (own_at _ _ _)
    refine ⟨v1, rfl, ?_, hp.1⟩
    have := Hp1.out.1
    simpa [wcells_len] using this

theorem compare_any (a b : ByteArray) (w : World) (ha : a.size ≤ maxLen) (hb : b.size ≤ maxLen) :
    Calls Tryz.prog 127 #[.string a, .string b] w fun e w' => e = .returned (.int .i64 (cmpS a b)) ∧ w = w' := by
  cases h1 : lessS a b
  · cases h2 : lessS b a
    · have HA : Hid (cmpS a b = 0) := Lib.hid (by unfold cmpS; rw [if_neg (by simp [h1]), if_neg (by simp [h2])])
      go_enter Tryz.func127, Tryz.ntmps127
      go_wp2_with fail
      refine (less_any a b _ ha hb).mono ?_
      rintro e w' ⟨rfl, rfl⟩
      rw [h1]
      go_wp2_with fail
      refine (less_any b a _ hb ha).mono ?_
      rintro e w' ⟨rfl, rfl⟩
      rw [h2]
      go_wp2
      go_ret
      exact ⟨ret_int HA.out.symm, rfl⟩
    · have HA : Hid (cmpS a b = 1) := Lib.hid (by unfold cmpS; rw [if_neg (by simp [h1]), if_pos h2])
      go_enter Tryz.func127, Tryz.ntmps127
      go_wp2_with fail
      refine (less_any a b _ ha hb).mono ?_
      rintro e w' ⟨rfl, rfl⟩
      rw [h1]
      go_wp2_with fail
      refine (less_any b a _ hb ha).mono ?_
      rintro e w' ⟨rfl, rfl⟩
      rw [h2]
      go_wp2
      go_ret
      exact ⟨ret_int HA.out.symm, rfl⟩
  · have HA : Hid (cmpS a b = -1) := Lib.hid (by unfold cmpS; rw [if_pos h1])
    go_enter Tryz.func127, Tryz.ntmps127
    go_wp2_with fail
    refine (less_any a b _ ha hb).mono ?_
    rintro e w' ⟨rfl, rfl⟩
    rw [h1]
    go_wp2
    go_ret
    exact ⟨ret_int HA.out.symm, rfl⟩

open Go.RowKit Go.ChangeShapes Go.WideShapes
theorem enters54 : ∀ args w, (callFunc 127 args).run Tryz.prog w = .ok (.enter 127 args) w := enters_of Tryz.func127 (by kernel_rfl) rfl
theorem cmp_lays (blk off size : Nat) (w : World) : CmpLays1 Tryz.prog 127 #[] encW cmpW blk off size w := fun m os dk _ x y =>
  (compare_any x.1 y.1 _ x.2 y.2).mono fun _ _ ⟨he, hw⟩ => ⟨he, 0, #[], by rw [Go.Sort.grow_empty]; exact hw.symm⟩
/-- a row whose words don't fall, and are what they were -/
def SortedPost (w : World) (base : Nat) (v : Value) (l : List ByteArray) (en : Ending) (w' : World) : Prop :=
  en = .returned (.tuple #[]) ∧ ∃ d : Array Wd, d.toList.Pairwise (fun a b => lessS b.1 a.1 = false) ∧ (∀ z, z ∈ d.toList.map (·.1) ↔ z ∈ l) ∧ d.size = l.length ∧
    w'.ownsRow base 43 1 v l.length (d.toList.map encW) ∧ Fr (fun k => v.ownBlock = some k) w w'
theorem sort_any {w : World} {base : Nat} {v : Value} {l : List ByteArray} (h : w.ownsRow base 43 1 v l.length (wcells l)) (hs : Small maxLen l) (hl : l.length ≤ 100000) :
    Calls Tryz.prog 126 #[v, .func (.func 127) #[] #[]] w (SortedPost w base v l) := by
  obtain ⟨ao, c, rfl, hc⟩ := own_slice h
  by_cases h0 : l.length = 0
  · obtain rfl : l = [] := List.eq_nil_of_length_eq_zero h0
    refine (AnyF.slices_SortFunc_none (P := Tryz.prog) (ρ := Tryz.sortL_ren) { Tryz.sortL with } ao c (.func (.func 127) #[] #[]) w).mono ?_
    rintro e w' ⟨rfl, rfl⟩
    exact ⟨rfl, #[], by simp, by simp, rfl, by simpa [wcells] using h, Fr.refl _ _⟩
  · rcases h.2 with ⟨_, h2⟩ | ⟨g, cap, cur, hv, hb, hg, hn, hm, hcs, ht⟩
    · exact absurd h2 h0
    · cases hv
      obtain ⟨d, hd1, hd2, hd3⟩ := wds hs
      have hlt : g < w.heap.size := by
        rcases Nat.lt_or_ge g w.heap.size with hlt | hge
        · exact hlt
        · rw [Array.getElem?_eq_none hge] at hg; cases hg
      have hH := own_holds (d := d) (by rw [hd3]; exact h)
      have hcon := Any.slices_SortFunc (P := Tryz.prog) (ρ := Tryz.sortL_ren) Tryz.sortL encW one_encW cmpW swoW 127 #[] g 0 c d w enters54 (cmp_lays g 0 d.size w) hH hlt (by omega)
      rw [hd2] at hcon
      refine hcon.mono ?_
      rintro e w' ⟨rfl, d', n, os, hp, hsd, rfl⟩
      have hsz : d'.size = d.size := hp.1
      have e1 : d'.extract 0 l.length = d' := by rw [show l.length = d'.size by omega]; simp
      have e2 : d.extract 0 l.length = d := by rw [show l.length = d.size by omega]; simp
      have hperm := hp.2.2
      rw [e1, e2] at hperm
      have how := own_put (q := n) (os := os) (d := d') h (by omega)
      refine ⟨rfl, d', ?_, fun z => ?_, by omega, ?_, how.2.mono fun k _ hk => by rw [hk]; rfl⟩
      · rw [List.pairwise_iff_getElem]
        intro i j hi hj hij
        have hi' : i < d'.size := by simpa using hi
        have hj' : j < d'.size := by simpa using hj
        have := hsd i j (Nat.zero_le _) hij (by omega)
        rw [lt_cmpW] at this
        simpa [getElem!_pos, hi', hj'] using this
      · rw [← hd1]
        exact (hperm.map (·.1)).mem_iff
      · exact how.1
/-- words that don't fall, each once -/
theorem compact_any {w : World} {base : Nat} {v : Value} {d : Array Wd} {l : List ByteArray} (h : w.ownsRow base 43 1 v l.length (d.toList.map encW)) (hd : d.toList.Pairwise (fun a b => lessS b.1 a.1 = false)) (hz : ∀ z, z ∈ d.toList.map (·.1) ↔ z ∈ l) (hs : d.size = l.length) (hl : l.length ≤ 100000) :
    Calls Tryz.prog 128 #[v] w fun e w' => ∃ v', e = .returned v' ∧ w'.ownsRow base 43 1 v' (rightS l).length (wcells (rightS l)) ∧ Fr (fun k => v.ownBlock = some k) w w' := by
  have hr : rightS l = (Go.Lib.compactUpTo d d.size).map (·.1) := by rw [compact_sorted d hd]; exact right_same fun z => (hz z).symm
  obtain ⟨ao, c, rfl, hc⟩ := own_slice h
  by_cases h0 : l.length = 0
  · obtain rfl : l = [] := List.eq_nil_of_length_eq_zero h0
    have H := Lib.hid h
    have hd0 : d = #[] := Array.eq_empty_of_size_eq_zero hs
    have HE : Hid (wcells (rightS []) = d.toList.map encW) := Lib.hid (by rw [hd0]; rfl)
    clear h hd hz hs hr hd0
    go_enter Tryz.func128, Tryz.ntmps128
    go_wp2
    go_ret
    exact ⟨_, rfl, by rw [HE.out]; exact H.out, Fr.refl _ _⟩
  · rcases h.2 with ⟨_, h2⟩ | ⟨g, cap, cur, hv, hb, hg, hn, hm, hcs, ht⟩
    · exact absurd h2 h0
    · cases hv
      have hH := own_holds h
      have hcon := AnyE.slices_Compact (P := Tryz.prog) (ρ := Tryz.compactL_ren) Tryz.compactL encW one_encW (eql_encW _ _) (neq_encW _ _) ⟨⟨#[]⟩, by decide⟩ Tryz.zeroValue43 g 0 c d w hH (by omega) (by omega)
      rw [hs] at hcon
      refine hcon.mono ?_
      rintro e w' ⟨rfl, q, rfl⟩
      rw [← hs]
      have hlen : (Go.Lib.compactUpTo d d.size).length ≤ d.size := by
        have := right_length l
        rw [hr, List.length_map] at this
        omega
      have hrl : (rightS l).length = (Go.Lib.compactUpTo d d.size).length := by rw [hr, List.length_map]
      have how := own_put (q := q) (os := #[]) (d := (Go.Lib.compactUpTo d d.size ++ List.replicate (d.size - (Go.Lib.compactUpTo d d.size).length) (⟨⟨#[]⟩, by decide⟩ : Wd)).toArray) h (by simp; omega)
      rw [Go.Sort.grow_empty] at how
      refine ⟨_, rfl, ?_, how.2.mono fun k _ hk => by rw [hk]; rfl⟩
      have hcut := own_cut how.1 (k := (Go.Lib.compactUpTo d d.size).length) (by omega)
      rw [hrl]
      have he : wcells (rightS l) = ((Go.Lib.compactUpTo d d.size ++ List.replicate (d.size - (Go.Lib.compactUpTo d d.size).length) (⟨⟨#[]⟩, by decide⟩ : Wd)).toArray.toList.map encW).take (Go.Lib.compactUpTo d d.size).length := by
        rw [hr]
        simp only [List.map_append]
        rw [List.take_left' (by simp)]
        simp [wcells, encW, Function.comp_def]
      rw [he]
      exact hcut
/-- what putting words right does -/
theorem right_any {w : World} {G : Nat → Prop} {v : Value} {l : List ByteArray} (h : Reads w G v (wcells l)) (hl : l.length ≤ 100000) (hs : Small maxLen l) :
    Calls Tryz.prog 100 #[v] w (WordsPost w (rightS l)) := by
  have H := Lib.hid h
  have HS := Lib.hid hs
  clear h hs
  go_enter Tryz.func100, Tryz.ntmps100
  go_wp2_with fail
  refine (clone_any H.out hl).mono ?_
  rintro e w1 ⟨v1, rfl, ho1, hk1⟩
  have HO1 := Lib.hid ho1
  have HK1 := Lib.hid hk1
  clear ho1 hk1
  go_wp2_with fail
  refine (sort_any HO1.out HS.out hl).mono ?_
  rintro e w2 ⟨rfl, d, hd, hz, hsz, ho2, hf2⟩
  have HO2 := Lib.hid ho2
  have HF2 := Lib.hid hf2
  have HD := Lib.hid hd
  have HZ := Lib.hid hz
  have HSZ := Lib.hid hsz
  clear ho2 hf2 hd hz hsz
  go_wp2_with fail
  refine (compact_any HO2.out HD.out HZ.out HSZ.out hl).mono ?_
  rintro e w3 ⟨v3, rfl, ho3, hf3⟩
  have HO3 := Lib.hid ho3
  have HF3 := Lib.hid hf3
  clear ho3 hf3
  go_wp2
  go_ret
  have hv : ∀ j, v1.ownBlock = some j → w.heap.size ≤ j := by
    intro j hj
    rcases HO1.out.2 with ⟨rfl, _⟩ | ⟨g, cap, cur, rfl, hb, _⟩
    · simp [Value.ownBlock] at hj
    · simp [Value.ownBlock] at hj
      omega
  exact ⟨v3, rfl, HO3.out, (HK1.out.over HF2.out hv).over HF3.out hv⟩

set_option maxHeartbeats 1000000 in
theorem of_set {w : World} {G : Nat → Prop} {v : Value} {l : List ByteArray} (h : Reads w G v (wcells l)) (hl : l.length ≤ 100000) (hs : Small maxLen l) :
    Calls Tryz.prog 58 #[v] w (SetPost (ofL l) w) := by
  have HR := Lib.hid h
  obtain ⟨ao, c, rfl, _, hc⟩ := h
  rw [wcells_len] at HR ⊢
  have HC := Lib.hid hc
  have HS := Lib.hid hs
  have HN : Hid (l.length = l.length) := Lib.hid rfl
  clear hc hs
  generalize hn : l.length = n at HR HN hl ⊢
  replace HN := Lib.hid hn
  clear hn
  have H0 : Hid (Kept w w) := Lib.hid (Fr.refl _ _)
  go_enter Tryz.func58, Tryz.ntmps58
  go_wp2
  go_loopw [9] (fun i wr => ∃ k : Nat, k ≤ n ∧ i = .int .i64 k ∧ Hid (Kept w wr) ∧ Hid (∀ j y, j < k → l[j]? = some y → mayS y = true)) (fun i _ => n - (intOf i).toNat)
  case atStart => exact ⟨0, by omega, rfl, H0, Lib.hid (fun j y hj => by omega)⟩
  case round =>
    obtain ⟨k, hk, rfl, HK, hall⟩ := hrel
    clear H0
    by_cases hlt : k < n
    · have h1 : (k : Int) < n := by omega
      obtain ⟨x, hx⟩ : ∃ x, l[k]? = some x := ⟨_, List.getElem?_eq_getElem (by have := HN.out; omega)⟩
      obtain ⟨g, off, rfl, _, hcell0⟩ := HC.out k _ (wcells_get hx)
      have hcell := HK.out.cell hcell0 (fun x => x)
      have hsx := Lib.hid (HS.out x (List.mem_of_getElem? hx))
      have HX := Lib.hid hx
      clear hx hcell0
      cases hm : mayS x
      · have HA := Lib.hid (ofL_bad HX.out hm)
        go_wp2_with (go_at_call 65; refine (may_any _ _ hsx.out).mono ?_; rintro e w' ⟨rfl, hk1⟩; rw [hm]; replace HK := Lib.hid (HK.out.trans hk1); clear hk1)
        go_ret2
        exact set_post HA.out (own_nil _ _ _ _) HK.out
      · have HA := Lib.hid (get_step hall.out HX.out hm)
        go_wp2_with (go_at_call 65; refine (may_any _ _ hsx.out).mono ?_; rintro e w' ⟨rfl, hk1⟩; rw [hm]; replace HK := Lib.hid (HK.out.trans hk1); clear hk1)
        go_roundw
        case rel => exact ⟨k + 1, by omega, by go_num, HK, HA⟩
        case measure => simp [intOf]; omega
    · have HA := Lib.hid (ofL_ok (l := l) (fun j y hj hy => hall.out j y (by have := HN.out; omega) hy))
      have HR1 := Lib.hid (HR.out.new HK.out)
      go_wp2_with fail
      refine (right_any HR1.out (by rw [HN.out]; exact hl) HS.out).mono ?_
      rintro e w1 ⟨v1, rfl, ho1, hk1⟩
      obtain ⟨bo, d, rfl, hd⟩ := own_slice ho1
      have HP : Hid (SetPost (rightS l, 0) w (.returned (.tuple #[.slice bo (rightS l).length d, .int .i64 0])) w1) := Lib.hid (set_later ⟨_, rfl, ho1, hk1⟩ HK.out)
      replace HK := Lib.hid (HK.out.trans hk1)
      clear hk1 ho1
      generalize hm : (rightS l).length = m at HP hd ⊢
      by_cases h0 : m = 0
      · have HB : Hid (ofL l = ([], 3)) := Lib.hid (by rw [HA.out]; exact boundL_no (.inl (by omega)))
        have g0 : ((m : Int) == 0) = true := by simp [h0]
        clear hm
        go_wp2
        go_ret2
        exact set_post HB.out (own_nil _ _ _ _) HK.out
      · have g0 : ((m : Int) == 0) = false := by simp [h0]
        by_cases h16 : 16 < m
        · have HB : Hid (ofL l = ([], 3)) := Lib.hid (by rw [HA.out]; exact boundL_no (.inr (by omega)))
          have g1 : 16 < (m : Int) := by omega
          clear hm h0
          go_wp2
          go_ret2
          exact set_post HB.out (own_nil _ _ _ _) HK.out
        · have HB : Hid (ofL l = (rightS l, 0)) := Lib.hid (by rw [HA.out]; exact boundL_ok (by omega))
          have g1 : ¬ 16 < (m : Int) := by omega
          clear hm h0
          go_wp2
          go_ret2
          rw [HB.out]
          exact HP.out

set_option maxHeartbeats 1000000 in
theorem may_set {w : World} {G : Nat → Prop} {v : Value} {l : List ByteArray} (h : Reads w G v (wcells l)) (hl : l.length ≤ 100000) (hs : Small maxLen l) :
    Calls Tryz.prog 35 #[v] w (KeptPost (.bool (mayL l)) w) := by
  obtain ⟨ao, c, rfl, _, hc⟩ := h
  rw [wcells_len]
  have HC := Lib.hid hc
  have HS := Lib.hid hs
  clear hc hs
  generalize hn : l.length = n at hl ⊢
  have HN := Lib.hid hn
  by_cases h0 : n = 0
  · have g0 : ((n : Int) == 0) = true := by simp [h0]
    have HA := Lib.hid (mayL_count (l := l) (.inl (by omega)))
    clear hn
    go_enter Tryz.func35, Tryz.ntmps35
    go_wp2
    go_ret
    exact ⟨ret_bool HA.out.symm, Fr.refl _ _⟩
  have g0 : ((n : Int) == 0) = false := by simp [h0]
  by_cases h16 : 16 < n
  · have g1 : 16 < (n : Int) := by omega
    have HA := Lib.hid (mayL_count (l := l) (.inr (by omega)))
    clear hn
    go_enter Tryz.func35, Tryz.ntmps35
    go_wp2
    go_ret
    exact ⟨ret_bool HA.out.symm, Fr.refl _ _⟩
  have g1 : ¬ 16 < (n : Int) := by omega
  have H16 : Hid (1 ≤ n ∧ n ≤ 16) := Lib.hid (by omega)
  clear hn
  have H0 : Hid (Kept w w) := Lib.hid (Fr.refl _ _)
  go_enter Tryz.func35, Tryz.ntmps35
  go_wp2
  clear g0 g1 h0
  go_loopw [15] (fun i wr => ∃ k : Nat, k ≤ n ∧ i = .int .i64 k ∧ Hid (Kept w wr) ∧ Hid (Upto l k)) (fun i _ => n - (intOf i).toNat)
  case atStart => exact ⟨0, by omega, rfl, H0, Lib.hid (fun j y hj => by omega)⟩
  case round =>
    obtain ⟨k, hk, rfl, HK, hall⟩ := hrel
    clear H0
    by_cases hlt : k < n
    · have h1 : (k : Int) < n := by omega
      obtain ⟨x, hx⟩ : ∃ x, l[k]? = some x := ⟨_, List.getElem?_eq_getElem (by have := HN.out; omega)⟩
      obtain ⟨g, off, rfl, _, hcell0⟩ := HC.out k _ (wcells_get hx)
      have hcell := HK.out.cell hcell0 (fun x => x)
      have hsx := Lib.hid (HS.out x (List.mem_of_getElem? hx))
      have HX := Lib.hid hx
      clear hx hcell0
      cases hm : mayS x
      · have HA := Lib.hid (mayL_bad HX.out hm)
        go_wp2_with (go_at_call 65; refine (may_any _ _ hsx.out).mono ?_; rintro e w' ⟨rfl, hk1⟩; rw [hm]; replace HK := Lib.hid (HK.out.trans hk1); clear hk1)
        go_ret
        exact ⟨ret_bool HA.out.symm, HK.out⟩
      · by_cases hk0 : k = 0
        · have e0 : ¬ 0 < (k : Int) := by omega
          clear hk0
          have HA := Lib.hid (hall.out.step HX.out hm (fun i y hi => by omega))
          go_wp2_with (go_at_call 65; refine (may_any _ _ hsx.out).mono ?_; rintro e w' ⟨rfl, hk1⟩; rw [hm]; replace HK := Lib.hid (HK.out.trans hk1); clear hk1)
          go_roundw
          case rel => exact ⟨k + 1, by omega, by go_num, HK, HA⟩
          case measure => simp [intOf]; omega
        · obtain ⟨k, rfl⟩ : ∃ k', k = k' + 1 := ⟨k - 1, by omega⟩
          obtain ⟨y, hy⟩ : ∃ y, l[k]? = some y := ⟨_, List.getElem?_eq_getElem (by have := HN.out; omega)⟩
          obtain ⟨g', off', he, _, hcellp⟩ := HC.out k _ (wcells_get hy)
          cases he
          have hcell2 := HK.out.cell hcellp (fun x => x)
          have hsy := Lib.hid (HS.out y (List.mem_of_getElem? hy))
          have HY := Lib.hid hy
          clear hy hcellp hk0
          have e1 : ((k + 1 : Nat) : Int) - 1 = k := by omega
          have e0 : 0 < ((k + 1 : Nat) : Int) := by omega
          cases hls : lessS y x
          · have HA := Lib.hid (mayL_fall HY.out HX.out hls)
            have hcell3 : ∀ (wx : World), Kept wr wx → wx.cell? ⟨g, off + k, none⟩ = some (.string y) := fun wx hx => hx.cell hcell2 (fun x => x)
            go_wp2_with fail
            refine (may_any _ _ hsx.out).mono ?_
            rintro e w' ⟨rfl, hk1⟩
            rw [hm]
            have hcy := hcell3 w' hk1
            replace HK := Lib.hid (HK.out.trans hk1)
            clear hk1 hcell hcell2 hcell3
            go_wp2_with fail
            refine (less_any y x _ hsy.out hsx.out).mono ?_
            rintro e w' ⟨rfl, rfl⟩
            rw [hls]
            go_wp2
            go_ret
            exact ⟨ret_bool HA.out.symm, HK.out⟩
          · have HA := Lib.hid (hall.out.step HX.out hm (fun i z hi hz => by
              obtain rfl : i = k := by omega
              rw [HY.out] at hz; cases hz; exact hls))
            have hcell3 : ∀ (wx : World), Kept wr wx → wx.cell? ⟨g, off + k, none⟩ = some (.string y) := fun wx hx => hx.cell hcell2 (fun x => x)
            go_wp2_with fail
            refine (may_any _ _ hsx.out).mono ?_
            rintro e w' ⟨rfl, hk1⟩
            rw [hm]
            have hcy := hcell3 w' hk1
            replace HK := Lib.hid (HK.out.trans hk1)
            clear hk1 hcell hcell2 hcell3
            go_wp2_with fail
            refine (less_any y x _ hsy.out hsx.out).mono ?_
            rintro e w' ⟨rfl, rfl⟩
            rw [hls]
            go_wp2
            go_roundw
            case rel => exact ⟨k + 2, by omega, by go_num, HK, HA⟩
            case measure => simp [intOf]; omega
    · have HA := Lib.hid (mayL_all (l := l) (by have := HN.out; have := H16.out; omega) (by have := HN.out; have := H16.out; omega) (fun j y hj hy => hall.out j y (by have := HN.out; omega) hy))
      go_wp2
      go_ret
      exact ⟨ret_bool HA.out.symm, HK.out⟩

theorem grow_any (n : Nat) (w : World) (h0 : 0 < n) (h1 : n ≤ 200000) :
    Calls Tryz.prog 123 #[.slice none 0 0, .int .i64 n] w (WordsPost w []) := by
  obtain ⟨i, hi, hz, hsz, hby⟩ := Tryz.slice33.info
  have hcon := Any8.slices_Grow_grow (P := Tryz.prog) (ρ := Tryz.growL_ren) Tryz.growL i (.string ⟨#[]⟩) hi hz (by omega) none 0 0 n [] w (Nat.le_refl _) (by omega) (by rw [hby]; omega) (by omega) (by simp) (fun _ => rfl) (fun a ha => by cases ha)
  refine hcon.mono ?_
  rintro e w' ⟨rfl, rfl⟩
  have hge := grownCap_ge w (0 + n) 0 (Tryz.growL_ren.t 25)
  have hle := grownCap_le_maxLen w (0 + n) 0 (Tryz.growL_ren.t 25) (by unfold maxLen; omega)
  refine ⟨_, rfl, ⟨by simp [wcells], .inr ⟨w.heap.size, _, _, rfl, Nat.le_refl _, heap_alloc_new w.drew _, Nat.zero_le _, hle, ?_, by simp [wcells]⟩⟩, (Fr.of_drew _ _).trans (Fr.of_alloc _ _ _)⟩
  simp only [Array.size_append, size_zeroCells]
  have : (Value.string ⟨#[]⟩).cells.size = 1 := rfl
  rw [this]
  simp
  rw [Nat.zero_add] at hge
  omega
set_option maxHeartbeats 1000000 in
theorem concat_any {w : World} {G : Nat → Prop} {g : Nat} {va vb : Value} {a b : List ByteArray} (hg : w.heap[g]? = some (.cells #[va, vb] 33 (0, 0))) (ha : Reads w G va (wcells a)) (hb : Reads w G vb (wcells b))
    (hla : a.length ≤ 100000) (hlb : b.length ≤ 100000) (h0 : 0 < a.length + b.length) :
    Calls Tryz.prog 93 #[.slice (some ⟨g, 0, none⟩) 2 2] w (WordsPost w (a ++ b)) := by
  have HA := Lib.hid ha
  have HB := Lib.hid hb
  obtain ⟨ao, ca, rfl, _, _⟩ := ha
  obtain ⟨bo, cb, rfl, _, _⟩ := hb
  rw [wcells_len] at HA HB
  simp only [wcells_len] at hg
  have c0 : w.cell? ⟨g, 0, none⟩ = some (.slice ao a.length ca) := by rw [cell_whole hg]; rfl
  have c1 : w.cell? ⟨g, 1, none⟩ = some (.slice bo b.length cb) := by rw [cell_whole hg]; rfl
  clear hg
  generalize hna : a.length = na at HA hla h0 c0 ⊢
  generalize hnb : b.length = nb at HB hlb h0 c1 ⊢
  have HNA := Lib.hid hna
  have HNB := Lib.hid hnb
  have HC0 := Lib.hid c0
  have HC1 := Lib.hid c1
  clear hna hnb
  go_enter Tryz.func93, Tryz.ntmps93
  go_wp2
  go_loop [3, 11] (fun s i => ∃ k t : Nat, s = .int .i64 t ∧ i = .int .i64 k ∧ ((k = 0 ∧ t = 0) ∨ (k = 1 ∧ t = na) ∨ (k = 2 ∧ t = na + nb))) (fun _ i => 2 - (intOf i).toNat)
  case atStart => exact ⟨0, 0, rfl, rfl, .inl ⟨rfl, rfl⟩⟩
  case round =>
    obtain ⟨k, t, rfl, rfl, hh⟩ := hrel
    rcases hh with ⟨rfl, rfl⟩ | ⟨rfl, rfl⟩ | ⟨rfl, rfl⟩
    · have e1 : ¬ (na : Int) < 0 := by omega
      go_wp2
      go_round
      case rel => exact ⟨1, na, by go_num, by go_num, .inr (.inl ⟨rfl, rfl⟩)⟩
      case measure => simp [intOf]
    · have e1 : ¬ (t : Int) + (nb : Int) < 0 := by omega
      go_wp2
      go_round
      case rel => exact ⟨2, t + nb, by go_num, by go_num, .inr (.inr ⟨rfl, rfl⟩)⟩
      case measure => simp [intOf]
    · clear c0 c1
      have HG : Hid (∀ W, Calls Tryz.prog 123 #[.slice none 0 0, .int .i64 ((na : Int) + (nb : Int))] W (WordsPost W [])) := Lib.hid (fun W => by
        have := grow_any (na + nb) W h0 (by omega)
        rwa [Int.natCast_add] at this)
      go_wp2_with fail
      refine (HG.out _).mono ?_
      rintro e w1 ⟨v1, rfl, ho1, hk1⟩
      have H1 : Hid (JoinPart w w1 [] v1) := Lib.hid ⟨ho1, hk1⟩
      clear ho1 hk1 HG
      go_wp2
      go_loopw [6, 27] (fun v i wr => ∃ k : Nat, i = .int .i64 k ∧ ((k = 0 ∧ Hid (JoinPart w wr [] v)) ∨ (k = 1 ∧ Hid (JoinPart w wr a v)) ∨ (k = 2 ∧ Hid (JoinPart w wr (a ++ b) v)))) (fun _ i _ => 2 - (intOf i).toNat)
      case atStart => exact ⟨0, rfl, .inl ⟨rfl, H1⟩⟩
      case round =>
        obtain ⟨k, rfl, hh⟩ := hrel
        clear H1
        rcases hh with ⟨rfl, hp⟩ | ⟨rfl, hp⟩ | ⟨rfl, hp⟩
        · have c0 := hp.out.2.cell HC0.out (fun x => x)
          have hr := Lib.hid (HA.out.new hp.out.2)
          go_wp2_with (at_builtin; refine list_app rfl (.tmp 31) (.tmp 32) 33 33 rfl Tryz.slice33 rfl (by exact hp.out.1) rfl (by exact hr.out.src Tryz.underlying33 one_str) (by rw [wcells_len, HNA.out]; unfold maxLen; simp only [List.length_nil]; omega) (by rw [wcells_len, HNA.out]; simp only [List.length_nil]; omega) (by exact hp.out.2.size) ?_; intro v2 w2 hp1; have Hp1 := Lib.hid (hp.out.step hp1); clear hp1)
          go_roundw
          case rel => exact ⟨1, by go_num, .inr (.inl ⟨rfl, Hp1⟩)⟩
          case measure => simp [intOf]
        · have c1 := hp.out.2.cell HC1.out (fun x => x)
          have hr := Lib.hid (HB.out.new hp.out.2)
          go_wp2_with (at_builtin; refine list_app rfl (.tmp 31) (.tmp 32) 33 33 rfl Tryz.slice33 rfl (by exact hp.out.1) rfl (by exact hr.out.src Tryz.underlying33 one_str) (by rw [wcells_len, HNA.out, HNB.out]; unfold maxLen; omega) (by rw [wcells_len, HNA.out, HNB.out]; omega) (by exact hp.out.2.size) ?_; intro v2 w2 hp1; have Hp1 := Lib.hid (hp.out.step hp1); clear hp1)
          go_roundw
          case rel => exact ⟨2, by go_num, .inr (.inr ⟨rfl, Hp1⟩)⟩
          case measure => simp [intOf]
        · go_wp2
          go_ret
          exact ⟨_, rfl, hp.out.1, hp.out.2⟩

set_option maxHeartbeats 1000000 in
theorem and_any {w : World} {G : Nat → Prop} {va vb : Value} {a b : List ByteArray} (ha : Reads w G va (wcells a)) (hb : Reads w G vb (wcells b)) (hla : a.length ≤ 100000) (hlb : b.length ≤ 100000) (hsa : Small maxLen a) (hsb : Small maxLen b) :
    Calls Tryz.prog 54 #[va, vb] w (SetPost (andL a b) w) := by
  have HA := Lib.hid ha
  have HB := Lib.hid hb
  have HSA := Lib.hid hsa
  have HSB := Lib.hid hsb
  obtain ⟨ao, ca, rfl, _, _⟩ := ha
  obtain ⟨bo, cb, rfl, _, _⟩ := hb
  clear hsa hsb
  generalize (wcells a).length = na at *
  generalize (wcells b).length = nb at *
  cases hm : mayL a
  · have HE : Hid (andL a b = ([], 2)) := Lib.hid (andL_bad (by simp [hm]))
    go_enter Tryz.func54, Tryz.ntmps54
    go_wp2_with fail
    refine (may_set HA.out hla HSA.out).mono ?_
    rintro e w' ⟨rfl, hk1⟩
    rw [hm]
    have HK := Lib.hid hk1
    clear hk1
    go_wp2
    go_ret2
    exact set_post HE.out (own_nil _ _ _ _) HK.out
  · cases hm2 : mayL b
    · have HE : Hid (andL a b = ([], 2)) := Lib.hid (andL_bad (by simp [hm2]))
      go_enter Tryz.func54, Tryz.ntmps54
      go_wp2_with fail
      refine (may_set HA.out hla HSA.out).mono ?_
      rintro e w' ⟨rfl, hk1⟩
      rw [hm]
      have HK := Lib.hid hk1
      clear hk1
      go_wp2_with fail
      refine (may_set (HB.out.new HK.out) hlb HSB.out).mono ?_
      rintro e w' ⟨rfl, hk1⟩
      rw [hm2]
      replace HK := Lib.hid (HK.out.trans hk1)
      clear hk1
      go_wp2
      go_ret2
      exact set_post HE.out (own_nil _ _ _ _) HK.out
    · have HE := Lib.hid (of_and (a := a) (b := b) (by simp [hm, hm2]))
      have HLA := Lib.hid (mayL_iff.1 hm).1
      have HLB := Lib.hid (mayL_iff.1 hm2).1
      go_enter Tryz.func54, Tryz.ntmps54
      go_wp2_with fail
      refine (may_set HA.out hla HSA.out).mono ?_
      rintro e w' ⟨rfl, hk1⟩
      rw [hm]
      have HK := Lib.hid hk1
      clear hk1
      go_wp2_with fail
      refine (may_set (HB.out.new HK.out) hlb HSB.out).mono ?_
      rintro e w2 ⟨rfl, hk1⟩
      rw [hm2]
      replace HK := Lib.hid (HK.out.trans hk1)
      clear hk1
      go_wp2_with fail
      refine (concat_any (g := w2.heap.size) (heap_alloc_new w2 _) ((HA.out.new HK.out).new (Fr.of_alloc _ _ _)) ((HB.out.new HK.out).new (Fr.of_alloc _ _ _)) hla hlb (by have := HLA.out; omega)).mono ?_
      rintro e w3 ⟨v3, rfl, ho3, hk3⟩
      replace HK := Lib.hid ((HK.out.trans (Fr.of_alloc _ _ _)).trans hk3)
      have HR := Lib.hid (Reads.of_row ho3)
      clear hk3 ho3
      go_wp2_with fail
      refine (of_set HR.out (by rw [List.length_append]; have := HLA.out; have := HLB.out; omega) (small_append HSA.out HSB.out)).mono ?_
      rintro e w4 ⟨v4, rfl, ho4, hk4⟩
      have HP : Hid (SetPost (ofL (a ++ b)) w (.returned (.tuple #[v4, .int .i64 (ofL (a ++ b)).2])) w4) := Lib.hid (set_later ⟨v4, rfl, ho4, hk4⟩ HK.out)
      clear ho4 hk4
      go_wp2
      go_ret2
      rw [← HE.out]
      exact HP.out

theorem join_any (x y : ByteArray) (w : World) (hx : x.size ≤ 100000) (hy : y.size ≤ 100000) :
    Calls Tryz.prog 96 #[.string x, .string y] w (PairPost (catS [x, y]) w) := by
  have hs : Small 100000 [x, y] := fun s hs => by
    rcases List.mem_cons.1 hs with rfl | hs
    · exact hx
    · rcases List.mem_cons.1 hs with rfl | hs
      · exact hy
      · cases hs
  have HS := Lib.hid hs
  have HR := Lib.hid (reads_built (heap_alloc_new w (Obj.cells #[.string x, .string y] 43)))
  clear hs hx hy
  go_enter Tryz.func96, Tryz.ntmps96
  go_wp2_with fail
  refine (cat_any (l := [x, y]) HR.out (by simp) HS.out).mono ?_
  rintro e w1 ⟨rfl, hk1⟩
  have HK : Hid (Kept w w1) := Lib.hid ((Fr.of_alloc _ _ _).trans hk1)
  clear hk1
  generalize hz : catS [x, y] = z
  obtain ⟨z1, z2⟩ := z
  have HZ := Lib.hid hz
  clear hz
  go_wp2
  go_ret2
  exact ⟨pair_of HZ.out, HK.out⟩
set_option maxHeartbeats 2000000 in
theorem collect_any {w : World} {G : Nat → Prop} {va vb : Value} {a b : List ByteArray} (ha : Reads w G va (wcells a)) (hb : Reads w G vb (wcells b)) (hma : mayL a = true) (hmb : mayL b = true) :
    Calls Tryz.prog 95 #[va, vb, .func (.func 96) #[] #[]] w (SetPost (collL a b) w) := by
  obtain ⟨⟨hla0, hla⟩, hsa, _⟩ := mayL_iff.1 hma
  obtain ⟨⟨hlb0, hlb⟩, hsb, _⟩ := mayL_iff.1 hmb
  clear hma hmb
  have HLA := Lib.hid hla
  have HLB := Lib.hid hlb
  have HSA := Lib.hid hsa
  have HSB := Lib.hid hsb
  obtain ⟨ao, ca, rfl, _, hca⟩ := ha
  obtain ⟨bo, cb, rfl, _, hcb⟩ := hb
  rw [wcells_len, wcells_len]
  have HCA := Lib.hid hca
  have HCB := Lib.hid hcb
  clear hca hcb hsa hsb
  generalize hna : a.length = na at *
  generalize hnb : b.length = nb at *
  have HNA := Lib.hid hna
  have HNB := Lib.hid hnb
  have hmul : na * nb ≤ 16 * 16 := Nat.mul_le_mul hla hlb
  have e1 : IntKind.i64.wrap ((na : Int) * (nb : Int)) = (na : Int) * (nb : Int) := IntWalk.i64_in _ (by
    have : ((na * nb : Nat) : Int) ≤ 256 := by omega
    rw [Int.natCast_mul] at this
    have h0 : (0 : Int) ≤ (na : Int) * (nb : Int) := Int.mul_nonneg (by omega) (by omega)
    omega)
  have HMUL : Hid (na * nb ≤ 256) := Lib.hid hmul
  clear hna hnb hmul hla0 hlb0
  obtain ⟨i, hi, hz, hsz, hby⟩ := Tryz.slice32.info
  have HI := Lib.hid hi
  have HZ := Lib.hid hz
  have HSZ := Lib.hid hsz
  have HBY := Lib.hid hby
  clear hi hz hsz hby
  go_enter Tryz.func95, Tryz.ntmps95
  go_wp2_with (at_make; refine wpList_make_own _ rfl _ _ 32 rfl w.heap.size 43 i (.string ⟨#[]⟩) 1 Tryz.underlying32 HI.out HZ.out HSZ.out .i64 .i64 _ (na * nb) rfl rfl (by rw [Int.natCast_mul]) (by rw [HBY.out]; have := HMUL.out; omega) (by have := HMUL.out; unfold maxLen; omega) (Nat.le_refl _) ?_; intro w0 hown0 hgrow0)
  have H0 : Hid (JoinPart w w0 (crossL (a.take 0) b) (.slice (some ⟨w.heap.size, 0, none⟩) 0 (na * nb))) := Lib.hid ⟨hown0, (Fr.of_grown hgrow0).mono (fun k _ h => by cases h)⟩
  clear hown0 hgrow0 e1 HI HZ HSZ HBY
  have H0F : Hid (longB (crossL (a.take 0) b) = false) := Lib.hid rfl
  go_loopw [8, 23] (fun v i wr => ∃ k : Nat, k ≤ na ∧ i = .int .i64 k ∧ Hid (JoinPart w wr (crossL (a.take k) b) v) ∧ Hid (longB (crossL (a.take k) b) = false)) (fun _ i _ => na - (intOf i).toNat)
  case atStart => exact ⟨0, by omega, rfl, H0, H0F⟩
  case round =>
    obtain ⟨k, hk, rfl, hp, hf⟩ := hrel
    clear H0 H0F
    by_cases hlt : k < na
    · have h1 : (k : Int) < na := by omega
      obtain ⟨x, hx⟩ : ∃ x, a[k]? = some x := ⟨_, List.getElem?_eq_getElem (by have := HNA.out; omega)⟩
      obtain ⟨g, off, rfl, _, hcell0⟩ := HCA.out k _ (wcells_get hx)
      have hcell := hp.out.2.cell hcell0 (fun x => x)
      have HX := Lib.hid hx
      have H1 := jp_zero (x := x) hp
      have H1F : Hid (longB (partL a b k 0 x) = false) := Lib.hid (by rw [part_zero]; exact hf.out)
      clear hx hcell0 hp hf
      go_wp2
      clear hcell
      go_loopw [8, 29] (fun v i wr => ∃ m : Nat, m ≤ nb ∧ i = .int .i64 m ∧ Hid (JoinPart w wr (partL a b k m x) v) ∧ Hid (longB (partL a b k m x) = false)) (fun _ i _ => nb - (intOf i).toNat)
      case atStart => exact ⟨0, by omega, rfl, H1, H1F⟩
      case round =>
        obtain ⟨m, hm, rfl, hp, hf⟩ := hrel
        clear H1 H1F
        by_cases hlt2 : m < nb
        · have h2 : (m : Int) < nb := by omega
          obtain ⟨y, hy⟩ : ∃ y, b[m]? = some y := ⟨_, List.getElem?_eq_getElem (by have := HNB.out; omega)⟩
          obtain ⟨g', off', rfl, _, hcell0⟩ := HCB.out m _ (wcells_get hy)
          have hcell := hp.out.2.cell hcell0 (fun x => x)
          have HY := Lib.hid hy
          have mx := HSA.out x (List.mem_of_getElem? HX.out)
          have my := HSB.out y (List.mem_of_getElem? hy)
          have HC := Lib.hid (cat_two mx my)
          have sx := Lib.hid (mayS_size mx)
          have sy := Lib.hid (mayS_size my)
          clear hy hcell0 mx my
          by_cases h16 : 16 < (x ++ y).size
          · replace HC : Hid (catS [x, y] = (⟨#[]⟩, 4)) := Lib.hid (by rw [HC.out, if_pos h16])
            have HE : Hid (collL a b = ([], 4)) := Lib.hid (collL_long (by
              unfold longB
              rw [List.any_eq_true]
              exact ⟨x ++ y, cross_mem.2 ⟨x, List.mem_of_getElem? HX.out, y, List.mem_of_getElem? HY.out, rfl⟩, by simpa using h16⟩))
            clear h16
            go_wp2_with fail
            refine (join_any x y _ (by have := sx.out; omega) (by have := sy.out; omega)).mono ?_
            rintro e w1 ⟨rfl, hk1⟩
            rw [HC.out]
            have HK := Lib.hid (hp.out.2.trans hk1)
            clear hk1
            go_wp2
            go_ret2
            exact set_post HE.out (own_nil _ _ _ _) HK.out
          · replace HC : Hid (catS [x, y] = (x ++ y, 0)) := Lib.hid (by rw [HC.out, if_neg h16])
            have HF : Hid (longB (partL a b k (m + 1) x) = false) := Lib.hid (by rw [part_step HY.out, longB_append, hf.out]; simp [longB]; simpa using h16)
            have HL : Hid ((partL a b k m x).length ≤ 272) := Lib.hid (part_len (by have := HNA.out; have := HLA.out; omega) (by have := HNB.out; have := HLB.out; omega))
            clear h16
            go_wp2_with fail
            refine (join_any x y _ (by have := sx.out; omega) (by have := sy.out; omega)).mono ?_
            rintro e w1 ⟨rfl, hk1⟩
            rw [HC.out]
            replace hp := jp_kept hp hk1
            clear hk1
            go_wp2_with (at_builtin; refine list_app rfl (.tmp 43) (.tmp 45) 32 32 rfl Tryz.slice32 rfl (by exact own_kept hp.out.1 (Fr.of_alloc _ _ _)) rfl (by exact src_one Tryz.underlying32 (heap_alloc_new w1 _) rfl) (by have := HL.out; unfold maxLen; omega) (by have := HL.out; omega) (by have := hp.out.2.size; simp; omega) ?_; intro v2 w2 hq; have Hq := Lib.hid (JoinPart.step (m := [x ++ y]) ⟨own_kept hp.out.1 (Fr.of_alloc _ _ _), hp.out.2.trans (Fr.of_alloc _ _ _)⟩ hq); clear hq)
            go_roundw
            case rel => exact ⟨m + 1, by omega, by go_num, Lib.hid (by rw [part_step HY.out]; exact Hq.out), HF⟩
            case measure => simp [intOf]; omega
        · obtain rfl : m = nb := by omega
          have H2 := jp_full hp HNB.out HX.out
          have H2F : Hid (longB (crossL (a.take (k + 1)) b) = false) := Lib.hid (by rw [cross_step HX.out, HNB.out]; exact hf.out)
          clear hp hf
          go_wp2
          go_roundw
          case rel => exact ⟨k + 1, by omega, by go_num, H2, H2F⟩
          case measure => simp [intOf]; omega
    · have hfull : a.take k = a := List.take_of_length_le (by have := HNA.out; omega)
      rw [hfull] at hp hf
      have HE := Lib.hid (collL_ok hf.out)
      clear hfull hf
      go_wp2
      go_ret2
      exact set_post HE.out hp.out.1 hp.out.2

set_option maxHeartbeats 1000000 in
theorem quote_any {w : World} {G : Nat → Prop} {va vb : Value} {a b : List ByteArray} (ha : Reads w G va (wcells a)) (hb : Reads w G vb (wcells b)) (hla : a.length ≤ 100000) (hlb : b.length ≤ 100000) (hsa : Small maxLen a) (hsb : Small maxLen b) :
    Calls Tryz.prog 56 #[va, vb] w (SetPost (quoteL a b) w) := by
  have HA := Lib.hid ha
  have HB := Lib.hid hb
  have HSA := Lib.hid hsa
  have HSB := Lib.hid hsb
  clear ha hb hsa hsb
  cases hm : mayL a
  · have HE : Hid (quoteL a b = ([], 2)) := Lib.hid (quoteL_bad (by simp [hm]))
    go_enter Tryz.func56, Tryz.ntmps56
    go_wp2_with fail
    refine (may_set HA.out hla HSA.out).mono ?_
    rintro e w' ⟨rfl, hk1⟩
    rw [hm]
    have HK := Lib.hid hk1
    clear hk1
    go_wp2
    go_ret2
    exact set_post HE.out (own_nil _ _ _ _) HK.out
  · cases hm2 : mayL b
    · have HE : Hid (quoteL a b = ([], 2)) := Lib.hid (quoteL_bad (by simp [hm2]))
      go_enter Tryz.func56, Tryz.ntmps56
      go_wp2_with fail
      refine (may_set HA.out hla HSA.out).mono ?_
      rintro e w' ⟨rfl, hk1⟩
      rw [hm]
      have HK := Lib.hid hk1
      clear hk1
      go_wp2_with fail
      refine (may_set (HB.out.new HK.out) hlb HSB.out).mono ?_
      rintro e w' ⟨rfl, hk1⟩
      rw [hm2]
      replace HK := Lib.hid (HK.out.trans hk1)
      clear hk1
      go_wp2
      go_ret2
      exact set_post HE.out (own_nil _ _ _ _) HK.out
    · have HM := Lib.hid hm
      have HM2 := Lib.hid hm2
      cases hlong : longB (crossL a b)
      · have HE := Lib.hid (of_cross (a := a) (b := b) (by simp [hm, hm2]) hlong)
        have HS := Lib.hid (small_long hlong)
        have HC := Lib.hid (collL_ok hlong)
        clear hlong
        go_enter Tryz.func56, Tryz.ntmps56
        go_wp2_with fail
        refine (may_set HA.out hla HSA.out).mono ?_
        rintro e w' ⟨rfl, hk1⟩
        rw [hm]
        have HK := Lib.hid hk1
        clear hk1
        go_wp2_with fail
        refine (may_set (HB.out.new HK.out) hlb HSB.out).mono ?_
        rintro e w2 ⟨rfl, hk1⟩
        rw [hm2]
        replace HK := Lib.hid (HK.out.trans hk1)
        clear hk1 hm hm2
        go_wp2_with fail
        refine (collect_any (HA.out.new HK.out) (HB.out.new HK.out) HM.out HM2.out).mono ?_
        rintro e w3 ⟨v3, rfl, ho3, hk3⟩
        rw [HC.out] at ho3 ⊢
        replace HK := Lib.hid (HK.out.trans hk3)
        have HR := Lib.hid (Reads.of_row ho3)
        clear hk3 ho3
        go_wp2_with fail
        refine (of_set HR.out (by have := cross_le HM.out HM2.out; omega) HS.out).mono ?_
        rintro e w4 ⟨v4, rfl, ho4, hk4⟩
        have HP : Hid (SetPost (ofL (crossL a b)) w (.returned (.tuple #[v4, .int .i64 (ofL (crossL a b)).2])) w4) := Lib.hid (set_later ⟨v4, rfl, ho4, hk4⟩ HK.out)
        clear ho4 hk4
        go_wp2
        go_ret2
        rw [← HE.out]
        exact HP.out
      · have HE := Lib.hid (quoteL_long (a := a) (b := b) (by simp [hm, hm2]) hlong)
        have HC := Lib.hid (collL_long hlong)
        clear hlong
        go_enter Tryz.func56, Tryz.ntmps56
        go_wp2_with fail
        refine (may_set HA.out hla HSA.out).mono ?_
        rintro e w' ⟨rfl, hk1⟩
        rw [hm]
        have HK := Lib.hid hk1
        clear hk1
        go_wp2_with fail
        refine (may_set (HB.out.new HK.out) hlb HSB.out).mono ?_
        rintro e w2 ⟨rfl, hk1⟩
        rw [hm2]
        replace HK := Lib.hid (HK.out.trans hk1)
        clear hk1 hm hm2
        go_wp2_with fail
        refine (collect_any (HA.out.new HK.out) (HB.out.new HK.out) HM.out HM2.out).mono ?_
        rintro e w3 ⟨v3, rfl, ho3, hk3⟩
        rw [HC.out]
        replace HK := Lib.hid (HK.out.trans hk3)
        clear hk3 ho3
        go_wp2
        go_ret2
        exact set_post HE.out (own_nil _ _ _ _) HK.out

theorem alone_any (x : Int) (w : World) (h0 : 0 ≤ x) (h1 : x ≤ 65535) : Calls Tryz.prog 94 #[.int .u16 x] w (WordsPost w [ofS [x]]) := by
  have HG := Lib.hid (good_one h0 h1)
  have HR := Lib.hid (reads_built (heap_alloc_new w (Obj.cells #[.int .u16 x] 57)))
  clear h0 h1
  go_enter Tryz.func94, Tryz.ntmps94
  go_wp2_with fail
  refine (of_any (l := [x]) HR.out HG.out (by simp)).mono ?_
  rintro e w1 ⟨rfl, hk1⟩
  have HK : Hid (Kept w w1) := Lib.hid ((Fr.of_alloc _ _ _).trans hk1)
  clear hk1
  go_wp2
  go_ret
  refine ⟨_, rfl, ?_, HK.out.trans (Fr.of_alloc _ _ _)⟩
  exact own_built (heap_alloc_new w1 (Obj.cells #[.string (ofS [x])] 43)) HK.out.size (by simp [maxLen])

set_option maxHeartbeats 1000000 in
theorem as_any {w : World} {G : Nat → Prop} {va : Value} {a : List ByteArray} {r : Int} (ha : Reads w G va (wcells a)) (hla : a.length ≤ 100000) (hsa : Small maxLen a) (h0 : 0 ≤ r) (h1 : r ≤ 65535) :
    Calls Tryz.prog 98 #[va, .int .u16 r] w (SetPost (asL a r) w) := by
  have HA := Lib.hid ha
  have HSA := Lib.hid hsa
  clear ha hsa
  cases hm : mayL a
  · have HE := Lib.hid (asL_bad (r := r) hm)
    go_enter Tryz.func98, Tryz.ntmps98
    go_wp2_with fail
    refine (may_set HA.out hla HSA.out).mono ?_
    rintro e w' ⟨rfl, hk1⟩
    rw [hm]
    have HK := Lib.hid hk1
    clear hk1
    go_wp2
    go_ret2
    exact set_post HE.out (own_nil _ _ _ _) HK.out
  · have e1 : r.tdiv 8192 = r / 8192 := Int.tdiv_eq_ediv_of_nonneg h0
    have e2 : IntKind.u16.wrap (r / 8192) = r / 8192 := u16_in _ (by omega) (by omega)
    cases hr : decide (r / 8192 = 5)
    · have HE := Lib.hid (asL_kind hm hr)
      have e3 : (r / 8192 != 5) = true := by simpa using hr
      clear hr
      go_enter Tryz.func98, Tryz.ntmps98
      go_wp2_with fail
      refine (may_set HA.out hla HSA.out).mono ?_
      rintro e w' ⟨rfl, hk1⟩
      rw [hm]
      have HK := Lib.hid hk1
      clear hk1
      go_wp2
      go_ret2
      exact set_post HE.out (own_nil _ _ _ _) HK.out
    · have HE := Lib.hid (asL_ok hm hr)
      have e3 : (r / 8192 != 5) = false := by simpa using hr
      clear hr
      go_enter Tryz.func98, Tryz.ntmps98
      go_wp2_with fail
      refine (may_set HA.out hla HSA.out).mono ?_
      rintro e w' ⟨rfl, hk1⟩
      rw [hm]
      have HK := Lib.hid hk1
      clear hk1
      go_wp2_with fail
      refine (alone_any r _ h0 h1).mono ?_
      rintro e w2 ⟨v2, rfl, ho2, hk2⟩
      replace HK := Lib.hid (HK.out.trans hk2)
      have HR := Lib.hid (Reads.of_row ho2).any
      clear hk2 ho2 e1 e2 e3
      go_wp2_with fail
      refine (quote_any (HA.out.new HK.out).any HR.out hla (by simp) HSA.out (small_one r)).mono ?_
      rintro e w4 ⟨v4, rfl, ho4, hk4⟩
      have HP : Hid (SetPost (quoteL a [ofS [r]]) w (.returned (.tuple #[v4, .int .i64 (quoteL a [ofS [r]]).2])) w4) := Lib.hid (set_later ⟨v4, rfl, ho4, hk4⟩ HK.out)
      clear ho4 hk4
      go_wp2
      go_ret2
      rw [HE.out]
      exact HP.out

set_option maxHeartbeats 1000000 in
theorem for_any {w : World} {G : Nat → Prop} {va vb : Value} {a b : List ByteArray} (ha : Reads w G va (wcells a)) (hb : Reads w G vb (wcells b)) (hla : a.length ≤ 100000) (hlb : b.length ≤ 100000) (hsa : Small maxLen a) (hsb : Small maxLen b) :
    Calls Tryz.prog 55 #[va, vb] w (SetPost (forL a b) w) := by
  have HA := Lib.hid ha
  have HB := Lib.hid hb
  have HSA := Lib.hid hsa
  have HSB := Lib.hid hsb
  clear ha hb hsa hsb
  obtain ⟨x, e1, hx⟩ : ∃ x e, quoteL a b = (x, e) := ⟨_, _, rfl⟩
  obtain ⟨y, e2, hy⟩ : ∃ y e, quoteL [ofS [1]] b = (y, e) := ⟨_, _, rfl⟩
  have HX := Lib.hid hx
  have HY := Lib.hid hy
  have hlx := quoteL_len a b
  have hly := quoteL_len [ofS [1]] b
  have hsx := quoteL_small a b
  have hsy := quoteL_small [ofS [1]] b
  rw [hx] at hlx hsx
  rw [hy] at hly hsy
  have HLX : Hid (x.length ≤ 16) := Lib.hid hlx
  have HLY : Hid (y.length ≤ 16) := Lib.hid hly
  have HSX : Hid (Small maxLen x) := Lib.hid (small_of hsx (by unfold maxLen; omega))
  have HSY : Hid (Small maxLen y) := Lib.hid (small_of hsy (by unfold maxLen; omega))
  clear hlx hly hsx hsy hx hy
  by_cases h1 : e1 = 0
  · subst h1
    by_cases h2 : e2 = 0
    · subst h2
      have HE := Lib.hid (forL_ok HX.out HY.out)
      go_enter Tryz.func55, Tryz.ntmps55
      go_wp2_with fail
      refine (quote_any HA.out HB.out hla hlb HSA.out HSB.out).mono ?_
      rintro e w1 ⟨v1, rfl, ho1, hk1⟩
      rw [HX.out] at ho1 ⊢
      have HK := Lib.hid hk1
      have HR1 := Lib.hid (Reads.of_row ho1).any
      clear hk1 ho1
      go_wp2_with fail
      refine (alone_any 1 _ (by omega) (by omega)).mono ?_
      rintro e w2 ⟨v2, rfl, ho2, hk2⟩
      replace HR1 := Lib.hid (HR1.out.new hk2)
      replace HK := Lib.hid (HK.out.trans hk2)
      have HR2 := Lib.hid (Reads.of_row ho2).any
      clear hk2 ho2
      go_wp2_with fail
      refine (quote_any HR2.out (HB.out.new HK.out).any (by simp) hlb (small_one 1) HSB.out).mono ?_
      rintro e w3 ⟨v3, rfl, ho3, hk3⟩
      rw [HY.out] at ho3 ⊢
      replace HR1 := Lib.hid (HR1.out.new hk3)
      replace HK := Lib.hid (HK.out.trans hk3)
      have HR3 := Lib.hid (Reads.of_row ho3).any
      clear hk3 ho3
      go_wp2_with fail
      refine (and_any HR1.out HR3.out (by have := HLX.out; omega) (by have := HLY.out; omega) HSX.out HSY.out).mono ?_
      rintro e w4 ⟨v4, rfl, ho4, hk4⟩
      have HP : Hid (SetPost (andL x y) w (.returned (.tuple #[v4, .int .i64 (andL x y).2])) w4) := Lib.hid (set_later ⟨v4, rfl, ho4, hk4⟩ HK.out)
      clear ho4 hk4
      go_wp2
      go_ret2
      rw [HE.out]
      exact HP.out
    · have HE := Lib.hid (forL_two HX.out HY.out h2)
      have g2 : (e2 != 0) = true := by simpa using h2
      clear h2
      go_enter Tryz.func55, Tryz.ntmps55
      go_wp2_with fail
      refine (quote_any HA.out HB.out hla hlb HSA.out HSB.out).mono ?_
      rintro e w1 ⟨v1, rfl, ho1, hk1⟩
      rw [HX.out] at ho1 ⊢
      have HK := Lib.hid hk1
      clear hk1 ho1
      go_wp2_with fail
      refine (alone_any 1 _ (by omega) (by omega)).mono ?_
      rintro e w2 ⟨v2, rfl, ho2, hk2⟩
      replace HK := Lib.hid (HK.out.trans hk2)
      have HR2 := Lib.hid (Reads.of_row ho2).any
      clear hk2 ho2
      go_wp2_with fail
      refine (quote_any HR2.out (HB.out.new HK.out).any (by simp) hlb (small_one 1) HSB.out).mono ?_
      rintro e w3 ⟨v3, rfl, ho3, hk3⟩
      rw [HY.out]
      replace HK := Lib.hid (HK.out.trans hk3)
      clear hk3 ho3
      go_wp2
      go_ret2
      exact set_post HE.out (own_nil _ _ _ _) HK.out
  · have HE := Lib.hid (forL_one HX.out h1)
    have g1 : (e1 != 0) = true := by simpa using h1
    clear h1
    go_enter Tryz.func55, Tryz.ntmps55
    go_wp2_with fail
    refine (quote_any HA.out HB.out hla hlb HSA.out HSB.out).mono ?_
    rintro e w1 ⟨v1, rfl, ho1, hk1⟩
    rw [HX.out]
    have HK := Lib.hid hk1
    clear hk1 ho1
    go_wp2
    go_ret2
    exact set_post HE.out (own_nil _ _ _ _) HK.out

end Go.Proofs.YtbfealhbdemhmaaGreatDoor
