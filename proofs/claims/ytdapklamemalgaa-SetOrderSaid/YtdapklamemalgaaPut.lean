/- What putting words right does. -/
import Derived.Test.YtdapklamemalgaaKin
import Derived.Shelf.SlSortCmp.NoneTotal
namespace Go.Proofs.Ytdapklamemalgaa
set_option linter.unusedVariables false
set_option linter.unusedSimpArgs false
open Go.RowKit Go.ChangeShapes Go.WideShapes

theorem enters54 : ∀ args w, (callFunc 54 args).run Try.prog w = .ok (.enter 54 args) w := enters_of Try.func54 (by kernel_rfl) rfl
theorem cmp_lays (blk off size : Nat) (w : World) : CmpLays1 Try.prog 54 #[] encW cmpW blk off size w := fun m os dk _ x y =>
  (compare_any x.1 y.1 _ x.2 y.2).mono fun _ _ ⟨he, hw⟩ => ⟨he, 0, #[], by rw [Go.Sort.grow_empty]; exact hw.symm⟩
/-- a row whose words don't fall, and are what they were -/
def SortedPost (w : World) (base : Nat) (v : Value) (l : List ByteArray) (en : Ending) (w' : World) : Prop :=
  en = .returned (.tuple #[]) ∧ ∃ d : Array Wd, d.toList.Pairwise (fun a b => lessS b.1 a.1 = false) ∧ (∀ z, z ∈ d.toList.map (·.1) ↔ z ∈ l) ∧ d.size = l.length ∧
    w'.ownsRow base 36 1 v l.length (d.toList.map encW) ∧ Fr (fun k => v.ownBlock = some k) w w'
theorem sort_any {w : World} {base : Nat} {v : Value} {l : List ByteArray} (h : w.ownsRow base 36 1 v l.length (wcells l)) (hs : Small maxLen l) (hl : l.length ≤ 100000) :
    Calls Try.prog 53 #[v, .func (.func 54) #[] #[]] w (SortedPost w base v l) := by
  obtain ⟨ao, c, rfl, hc⟩ := own_slice h
  by_cases h0 : l.length = 0
  · obtain rfl : l = [] := List.eq_nil_of_length_eq_zero h0
    refine (AnyF.slices_SortFunc_none (P := Try.prog) (ρ := Try.sortL_ren) { Try.sortL with } ao c (.func (.func 54) #[] #[]) w).mono ?_
    rintro e w' ⟨rfl, rfl⟩
    exact ⟨rfl, #[], by simp, by simp, rfl, by simpa [wcells] using h, Fr.refl _ _⟩
  · rcases h.2 with ⟨_, h2⟩ | ⟨g, cap, cur, hv, hb, hg, hn, hm, hcs, ht⟩
    · exact absurd h2 h0
    · cases hv
      obtain ⟨d, hd1, hd2, hd3⟩ := wds hs
      have hlt : g < w.heap.size := by
        rcases Nat.lt_or_ge g w.heap.size with hlt | hge
        · exact hlt
        · rw [Array.getElem?_eq_none hge] at hg; cases hg
      have hH := own_holds (d := d) (by rw [hd3]; exact h)
      have hcon := Any.slices_SortFunc (P := Try.prog) (ρ := Try.sortL_ren) Try.sortL encW one_encW cmpW swoW 54 #[] g 0 c d w enters54 (cmp_lays g 0 d.size w) hH hlt (by omega)
      rw [hd2] at hcon
      refine hcon.mono ?_
      rintro e w' ⟨rfl, d', n, os, hp, hsd, rfl⟩
      have hsz : d'.size = d.size := hp.1
      have e1 : d'.extract 0 l.length = d' := by rw [show l.length = d'.size by omega]; simp
      have e2 : d.extract 0 l.length = d := by rw [show l.length = d.size by omega]; simp
      have hperm := hp.2.2
      rw [e1, e2] at hperm
      have how := own_put (q := n) (os := os) (d := d') h (by omega)
      refine ⟨rfl, d', ?_, fun z => ?_, by omega, ?_, how.2.mono fun k _ hk => by rw [hk]; rfl⟩
      · rw [List.pairwise_iff_getElem]
        intro i j hi hj hij
        have hi' : i < d'.size := by simpa using hi
        have hj' : j < d'.size := by simpa using hj
        have := hsd i j (Nat.zero_le _) hij (by omega)
        rw [lt_cmpW] at this
        simpa [getElem!_pos, hi', hj'] using this
      · rw [← hd1]
        exact (hperm.map (·.1)).mem_iff
      · exact how.1

/-- words that don't fall, each once -/
theorem compact_any {w : World} {base : Nat} {v : Value} {d : Array Wd} {l : List ByteArray} (h : w.ownsRow base 36 1 v l.length (d.toList.map encW)) (hd : d.toList.Pairwise (fun a b => lessS b.1 a.1 = false)) (hz : ∀ z, z ∈ d.toList.map (·.1) ↔ z ∈ l) (hs : d.size = l.length) (hl : l.length ≤ 100000) :
    Calls Try.prog 55 #[v] w fun e w' => ∃ v', e = .returned v' ∧ w'.ownsRow base 36 1 v' (rightS l).length (wcells (rightS l)) ∧ Fr (fun k => v.ownBlock = some k) w w' := by
  have hr : rightS l = (Go.Lib.compactUpTo d d.size).map (·.1) := by rw [compact_sorted d hd]; exact right_same fun z => (hz z).symm
  obtain ⟨ao, c, rfl, hc⟩ := own_slice h
  by_cases h0 : l.length = 0
  · obtain rfl : l = [] := List.eq_nil_of_length_eq_zero h0
    have H := Lib.hid h
    have hd0 : d = #[] := Array.eq_empty_of_size_eq_zero hs
    have HE : Hid (wcells (rightS []) = d.toList.map encW) := Lib.hid (by rw [hd0]; rfl)
    clear h hd hz hs hr hd0
    go_enter Try.func55, Try.ntmps55
    go_wp2
    go_ret
    exact ⟨_, rfl, by rw [HE.out]; exact H.out, Fr.refl _ _⟩
  · rcases h.2 with ⟨_, h2⟩ | ⟨g, cap, cur, hv, hb, hg, hn, hm, hcs, ht⟩
    · exact absurd h2 h0
    · cases hv
      have hH := own_holds h
      have hcon := AnyE.slices_Compact (P := Try.prog) (ρ := Try.compactL_ren) Try.compactL encW one_encW (eql_encW _ _) (neq_encW _ _) ⟨⟨#[]⟩, by decide⟩ Try.zeroValue36 g 0 c d w hH (by omega) (by omega)
      rw [hs] at hcon
      refine hcon.mono ?_
      rintro e w' ⟨rfl, q, rfl⟩
      rw [← hs]
      have hlen : (Go.Lib.compactUpTo d d.size).length ≤ d.size := by
        have := right_length l
        rw [hr, List.length_map] at this
        omega
      have hrl : (rightS l).length = (Go.Lib.compactUpTo d d.size).length := by rw [hr, List.length_map]
      have how := own_put (q := q) (os := #[]) (d := (Go.Lib.compactUpTo d d.size ++ List.replicate (d.size - (Go.Lib.compactUpTo d d.size).length) (⟨⟨#[]⟩, by decide⟩ : Wd)).toArray) h (by simp; omega)
      rw [Go.Sort.grow_empty] at how
      refine ⟨_, rfl, ?_, how.2.mono fun k _ hk => by rw [hk]; rfl⟩
      have hcut := own_cut how.1 (k := (Go.Lib.compactUpTo d d.size).length) (by omega)
      rw [hrl]
      have he : wcells (rightS l) = ((Go.Lib.compactUpTo d d.size ++ List.replicate (d.size - (Go.Lib.compactUpTo d d.size).length) (⟨⟨#[]⟩, by decide⟩ : Wd)).toArray.toList.map encW).take (Go.Lib.compactUpTo d d.size).length := by
        rw [hr]
        simp only [List.map_append]
        rw [List.take_left' (by simp)]
        simp [wcells, encW, Function.comp_def]
      rw [he]
      exact hcut
/-- what putting words right does -/
theorem right_any {w : World} {G : Nat → Prop} {v : Value} {l : List ByteArray} (h : Reads w G v (wcells l)) (hl : l.length ≤ 100000) (hs : Small maxLen l) :
    Calls Try.prog 36 #[v] w (WordsPost w (rightS l)) := by
  have H := Lib.hid h
  have HS := Lib.hid hs
  clear h hs
  go_enter Try.func36, Try.ntmps36
  go_wp2_with fail
  refine (clone_any H.out hl).mono ?_
  rintro e w1 ⟨v1, rfl, ho1, hk1⟩
  have HO1 := Lib.hid ho1
  have HK1 := Lib.hid hk1
  clear ho1 hk1
  go_wp2_with fail
  refine (sort_any HO1.out HS.out hl).mono ?_
  rintro e w2 ⟨rfl, d, hd, hz, hsz, ho2, hf2⟩
  have HO2 := Lib.hid ho2
  have HF2 := Lib.hid hf2
  have HD := Lib.hid hd
  have HZ := Lib.hid hz
  have HSZ := Lib.hid hsz
  clear ho2 hf2 hd hz hsz
  go_wp2_with fail
  refine (compact_any HO2.out HD.out HZ.out HSZ.out hl).mono ?_
  rintro e w3 ⟨v3, rfl, ho3, hf3⟩
  have HO3 := Lib.hid ho3
  have HF3 := Lib.hid hf3
  clear ho3 hf3
  go_wp2
  go_ret
  have hv : ∀ j, v1.ownBlock = some j → w.heap.size ≤ j := by
    intro j hj
    rcases HO1.out.2 with ⟨rfl, _⟩ | ⟨g, cap, cur, rfl, hb, _⟩
    · simp [Value.ownBlock] at hj
    · simp [Value.ownBlock] at hj
      omega
  exact ⟨v3, rfl, HO3.out, (HK1.out.over HF2.out hv).over HF3.out hv⟩
end Go.Proofs.Ytdapklamemalgaa
