/- Contracts and lemmas: L1 -/
import Derived.Test.YtfbmlacklhiecaaS2
import Derived.OpenShut
import Derived.Deep.Slices
namespace Go.Proofs.Ytfbmlacklhiecaa
set_option linter.unusedVariables false
set_option linter.unusedSimpArgs false
open Go.RowKit Go.ChangeShapes Go.WideShapes
set_option maxRecDepth 20000

open Go.RowKit Go.ChangeShapes Go.WideShapes
set_option maxRecDepth 20000
theorem holds_struct {P : Program} {w : World} {t : TypeId} {cs : List Value} {fs : Array Field} (h : Holds P w t cs) (ht : P.underlying t = some (.struct fs)) :
    cs.length = P.cellsOf t ∧ ∀ (i : Nat) (f : Field), fs[i]? = some f → Holds P w f.type ((cs.drop f.offset).take (P.cellsOf f.type)) := by
  obtain ⟨H, enc, base, spare, held, fuel, x, hf⟩ := h
  obtain ⟨xs, n, _, _, hl, hlen, hx⟩ := DataW.trod_struct ht hf
  refine ⟨hl, fun i f hi => ?_⟩
  have h1 := hx i f hi
  have hi' : i < xs.length := by rw [hlen]; exact (Array.getElem?_eq_some_iff.1 hi).1
  rw [List.getElem?_eq_getElem hi'] at h1
  exact ⟨H, enc, base, spare, held, n, _, h1⟩

open Go.RowKit Go.ChangeShapes Go.WideShapes
set_option maxRecDepth 20000
/-- an item that came in -/
structure Itm where
  kind : Int
  n : Int
  t : ByteArray
  wd : ByteArray
  sv : Value
  l : List ByteArray
/-- where an item lies -/
structure ItmAt (w : World) (g o : Nat) (x : Itm) : Prop where
  c0 : w.cell? ⟨g, o, none⟩ = some (.int .i64 x.kind)
  c1 : w.cell? ⟨g, o + 1, none⟩ = some (.int .i64 x.n)
  c2 : w.cell? ⟨g, o + 2, none⟩ = some (.string x.t)
  c3 : w.cell? ⟨g, o + 3, none⟩ = some (.string x.wd)
  c4 : w.cell? ⟨g, o + 4, none⟩ = some x.sv
  rd : Reads w (fun _ => True) x.sv (wcells x.l)
theorem ItmAt.kept {w w' : World} {g o : Nat} {x : Itm} (h : ItmAt w g o x) (k : Kept w w') : ItmAt w' g o x :=
  ⟨k.cell h.c0 (fun x => x), k.cell h.c1 (fun x => x), k.cell h.c2 (fun x => x), k.cell h.c3 (fun x => x), k.cell h.c4 (fun x => x), h.rd.new k⟩
structure ItmOk (x : Itm) : Prop where
  k0 : -9223372036854775808 ≤ x.kind
  k1 : x.kind ≤ 9223372036854775807
  n0 : -9223372036854775808 ≤ x.n
  n1 : x.n ≤ 9223372036854775807
  t : x.t.size ≤ maxLen
  wd : x.wd.size ≤ maxLen
  ll : x.l.length ≤ maxLen
  ls : Small maxLen x.l
def ItemsAt (w : World) (v : Value) (l : List Itm) : Prop :=
  ∃ ao c, v = .slice ao l.length c ∧ l.length ≤ c ∧ l.length ≤ maxLen ∧ (∀ i x, l[i]? = some x → ∃ g off, ao = some ⟨g, off, none⟩ ∧ ItmAt w g (off + i * 5) x) ∧ ∀ x ∈ l, ItmOk x
def ItemsIn (w : World) (v : Value) : Prop := ∃ l, ItemsAt w v l
theorem items_of {w : World} {v : Value} {r : Reach} {b : Nat} (hval : Value.okWide Try.prog w r b 22 v) (h : Holds Try.prog w 22 v.cells.toList) : ItemsIn w v := by
  obtain ⟨ao, len, cap, rfl⟩ := okWide_slice Try.underlying22 hval
  rcases h.slice Try.underlying22 with h0 | ⟨a, len', cap', h1, hl, hm, hx⟩
  · simp [Value.cells] at h0
    obtain ⟨rfl, rfl, rfl⟩ := h0
    exact ⟨[], none, 0, rfl, Nat.le_refl _, Nat.zero_le _, fun i x hi => by simp at hi, fun x hx => by cases hx⟩
  · simp [Value.cells] at h1
    obtain ⟨rfl, rfl, rfl⟩ := h1
    have hC : Try.prog.cellsOf 39 = 5 := by kernel_rfl
    have h3 : Try.prog.cellsOf 3 = 1 := by kernel_rfl
    have h2 : Try.prog.cellsOf 2 = 1 := by kernel_rfl
    have h9 : Try.prog.cellsOf 9 = 1 := by kernel_rfl
    have hw : Try.prog.cellsOf 35 = 1 := by kernel_rfl
    have hs : Try.prog.cellsOf 37 = 1 := by kernel_rfl
    have key : ∀ i, i < len → ∃ x : Itm, ItmOk x ∧ ∃ g off, some a = some ⟨g, off, none⟩ ∧ ItmAt w g (off + i * 5) x := by
      intro i hi
      have ha : a = ⟨a.block, a.off, none⟩ := by
        obtain ⟨cs0, hl0, hc0, _⟩ := hx 0 (by omega)
        rw [hC] at hl0 hc0
        have h00 := hc0 0 (by omega)
        rw [List.getElem?_eq_getElem (by omega)] at h00
        have := spot_of_cell h00
        simp [Addr.add] at this
        cases a; simp_all
      obtain ⟨cs', hlen, hcell, hh⟩ := hx i hi
      rw [hC] at hlen hcell
      match cs', hlen with
      | [c0, c1, c2, c3, c4], _ =>
        obtain ⟨_, hf⟩ := holds_struct hh Try.underlying39
        have f0 := hf 0 _ rfl
        have f1 := hf 1 _ rfl
        have f2 := hf 2 _ rfl
        have f3 := hf 3 _ rfl
        have f4 := hf 4 _ rfl
        simp [h3, h2, h9, hw, hs] at f0 f1 f2 f3 f4
        obtain ⟨k, e0, wk⟩ := f0.int Try.underlying3
        obtain ⟨n, e1, wn⟩ := f1.int Try.underlying2
        obtain ⟨t, e2, wt⟩ := f2.string Try.underlying9
        obtain ⟨wd, e3, ww⟩ := f3.string Try.underlying35
        simp at e0 e1 e2 e3
        subst e0 e1 e2 e3
        have : Inhabited ByteArray := ⟨ByteArray.empty⟩
        obtain ⟨l, hr, hls, hll⟩ := Holds.row (mk := Value.string) (R := fun x => x.size ≤ maxLen) (c := c4) f4 Try.underlying37 hw (fun cs hcs => by
          obtain ⟨x, hx, hw⟩ := hcs.string Try.underlying35
          exact ⟨x, hx, hw⟩)
        exact ⟨⟨k, n, t, wd, c4, l⟩, ⟨(i64_bounds wk).1, (i64_bounds wk).2, (i64_bounds wn).1, (i64_bounds wn).2, wt, ww, hll, hls⟩, a.block, a.off, ha ▸ rfl,
          ⟨cell_form (hcell 0 (by omega)), cell_form (hcell 1 (by omega)), cell_form (hcell 2 (by omega)), cell_form (hcell 3 (by omega)), cell_form (hcell 4 (by omega)), hr⟩⟩
    have : Inhabited Itm := ⟨⟨0, 0, ByteArray.empty, ByteArray.empty, .slice none 0 0, []⟩⟩
    obtain ⟨f, hf⟩ := Deep.choose_lt key
    refine ⟨(List.range len).map f, some a, cap, by simp, by simpa using hl, by simp; omega, fun i x hi => ?_, fun t ht => ?_⟩
    · obtain ⟨hi', rfl⟩ := List.getElem?_eq_some_iff.1 hi
      simp at hi'
      have := hf i hi'
      simp only [List.getElem_map, List.getElem_range]
      exact this.2
    · obtain ⟨i, hi, rfl⟩ := List.mem_map.1 ht
      exact (hf i (by simpa using hi)).1
/-- it is too much to be looked at -/
def bigI (x : Itm) : Bool := decide (1000 < x.t.size) || (decide (100 < x.wd.size) || (decide (60 < x.l.length) || x.l.any (fun y => decide (100 < y.size))))
def largeB (l : List Itm) : Bool := (l.take 100).any bigI
theorem large_at {l : List Itm} {k : Nat} {x : Itm} (hx : l[k]? = some x) (hk : k < 100) (h : bigI x = true) : largeB l = true := by
  rw [largeB, List.any_eq_true]
  refine ⟨x, ?_, h⟩
  rw [List.mem_iff_getElem?]
  exact ⟨k, by rw [List.getElem?_take, if_pos hk]; exact hx⟩
theorem large_no {l : List Itm} (h : ∀ j y, j < l.length → j < 100 → l[j]? = some y → bigI y = false) : largeB l = false := by
  rw [largeB, List.any_eq_false]
  intro x hx
  obtain ⟨i, hi⟩ := List.mem_iff_getElem?.1 hx
  rw [List.getElem?_take] at hi
  split at hi
  · rename_i h1
    rw [h i x (List.getElem?_eq_some_iff.1 hi).1 h1 hi]; simp
  · cases hi
theorem large_of {l : List Itm} {k : Nat} {x : Itm} (h : largeB l = false) (hx : l[k]? = some x) (hk : k < 100) : x.t.size ≤ 1000 ∧ x.wd.size ≤ 100 ∧ x.l.length ≤ 60 ∧ Small 100 x.l := by
  have h1 : bigI x = false := by
    cases e : bigI x
    · rfl
    · rw [large_at hx hk e] at h; cases h
  simp [bigI] at h1
  exact ⟨h1.1, h1.2.1, h1.2.2.1, fun y hy => by have := h1.2.2.2 y hy; omega⟩
theorem get_stepG {α : Type} {l : List α} {k : Nat} {x : α} {p : α → Prop} (h : ∀ j y, j < k → l[j]? = some y → p y) (hx : l[k]? = some x) (hp : p x) : ∀ j y, j < k + 1 → l[j]? = some y → p y := by
  intro j y hj hy
  rcases Nat.lt_or_ge j k with h1 | h1
  · exact h j y h1 hy
  · obtain rfl : j = k := by omega
    rw [hx] at hy; cases hy; exact hp
set_option maxHeartbeats 4000000 in
theorem large_any {w : World} {v : Value} {l : List Itm} (h : ItemsAt w v l) :
    Calls Try.prog 9 #[v] w (KeptPost (.bool (largeB l)) w) := by
  obtain ⟨ao, cap, rfl, hcap, hmax, hc, hok⟩ := h
  have HC := Lib.hid hc
  have HOK := Lib.hid hok
  unfold maxLen at hmax
  clear hc hok
  generalize hn : l.length = n at *
  have HN := Lib.hid hn
  clear hn
  go_enter Try.func9, Try.ntmps9
  go_wp2_with fail
  go_loopw [3] (fun i wr => ∃ k : Nat, k ≤ n ∧ k ≤ 100 ∧ i = .int .i64 k ∧ Hid (Kept w wr) ∧ Hid (∀ j y, j < k → l[j]? = some y → bigI y = false)) (fun i _ => n - (intOf i).toNat)
  case atStart => exact ⟨0, by omega, by omega, rfl, Lib.hid (Fr.refl _ _), Lib.hid (fun j y hj => by omega)⟩
  case round =>
    obtain ⟨k, hk, hk1, rfl, HK, hall⟩ := hrel
    by_cases hlt : k < n ∧ k < 100
    · obtain ⟨h1, h2⟩ := hlt
      obtain ⟨x, hx⟩ : ∃ x, l[k]? = some x := ⟨_, List.getElem?_eq_getElem (by have := HN.out; omega)⟩
      obtain ⟨g, off, ha, hat⟩ := HC.out k x hx
      subst ha
      have HA := Lib.hid (hat.kept HK.out)
      have HX := Lib.hid (And.intro hx (HOK.out x (List.mem_of_getElem? hx)))
      have c2 := HA.out.c2
      have c3 := HA.out.c3
      have c4 := HA.out.c4
      obtain ⟨so, sc, hsv, hscc, hrd⟩ := HA.out.rd
      rw [hsv] at c4
      rw [wcells_len] at c4 hscc
      have HRD := Lib.hid hrd
      have g1 : (k : Int) < n := by omega
      have g2 : (k : Int) < 100 := by omega
      obtain ⟨T, hT⟩ : ∃ T, T = x.t := ⟨_, rfl⟩
      obtain ⟨D, hD⟩ : ∃ D, D = x.wd := ⟨_, rfl⟩
      obtain ⟨L, hL⟩ : ∃ L, L = x.l.length := ⟨_, rfl⟩
      rw [← hT] at c2
      rw [← hD] at c3
      rw [← hL] at c4 hscc
      have HB : Hid ((1000 < T.size ∨ 100 < D.size ∨ 60 < L) → largeB l = true) := Lib.hid (fun h => large_at HX.out.1 h2 (by subst hT hD hL; simp [bigI]; omega))
      have HTT := Lib.hid hT
      have HDD := Lib.hid hD
      have HLL := Lib.hid hL
      clear hx hat hsv hrd hT hD hL
      by_cases b1 : 1000 < T.size
      · have g3 : decide (1000 < T.size) = true := by simpa using b1
        have HF := Lib.hid (HB.out (.inl b1))
        go_wp2
        go_ret
        exact ⟨ret_bool HF.out.symm, HK.out⟩
      by_cases b2 : 100 < D.size
      · have g3 : decide (1000 < T.size) = false := by simpa using b1
        have g4 : decide (100 < D.size) = true := by simpa using b2
        have HF := Lib.hid (HB.out (.inr (.inl b2)))
        go_wp2
        go_ret
        exact ⟨ret_bool HF.out.symm, HK.out⟩
      by_cases b3 : 60 < L
      · have g3 : decide (1000 < T.size) = false := by simpa using b1
        have g4 : decide (100 < D.size) = false := by simpa using b2
        have g5 : decide (60 < L) = true := by simpa using b3
        have HF := Lib.hid (HB.out (.inr (.inr b3)))
        go_wp2
        go_ret
        exact ⟨ret_bool HF.out.symm, HK.out⟩
      have g3 : decide (1000 < T.size) = false := by simpa using b1
      have g4 : decide (100 < D.size) = false := by simpa using b2
      have g5 : decide (60 < L) = false := by simpa using b3
      have g6 : L ≤ 60 := by omega
      clear HB
      go_wp2_with fail
      go_loopw [46] (fun i wx => ∃ m : Nat, m ≤ L ∧ i = .int .i64 m ∧ wr = wx ∧ Hid (∀ j y, j < m → x.l[j]? = some y → y.size ≤ 100)) (fun i _ => L - (intOf i).toNat)
      case atStart => exact ⟨0, by omega, rfl, rfl, Lib.hid (fun j y hj => by omega)⟩
      case round =>
        obtain ⟨m, hm, rfl, rfl, hsm⟩ := hrel
        by_cases hml : m < L
        · have q1 : (m : Int) < L := by omega
          obtain ⟨y, hy⟩ : ∃ y, x.l[m]? = some y := ⟨_, List.getElem?_eq_getElem (by have := HLL.out; omega)⟩
          obtain ⟨g', off', hb, _, hcy⟩ := HRD.out m _ (wcells_get hy)
          subst hb
          have HY := Lib.hid hy
          clear hy
          by_cases hbig : 100 < y.size
          · have q2 : decide (100 < y.size) = true := by simpa using hbig
            have HF : Hid (largeB l = true) := Lib.hid (large_at HX.out.1 h2 (by
              have h9 : x.l.any (fun y => decide (100 < y.size)) = true := List.any_eq_true.2 ⟨y, List.mem_of_getElem? HY.out, by simpa using hbig⟩
              simp [bigI, h9]))
            go_wp2
            go_ret
            exact ⟨ret_bool HF.out.symm, HK.out⟩
          · have q2 : decide (100 < y.size) = false := by simpa using hbig
            have HS2 : Hid (∀ j z, j < m + 1 → x.l[j]? = some z → z.size ≤ 100) := Lib.hid (get_step hsm.out HY.out (by omega))
            go_wp2_with fail
            go_roundw
            case rel => exact ⟨m + 1, by omega, by go_num, trivial, HS2⟩
            case measure => simp [intOf]; omega
        · have q1 : ¬ (m : Int) < L := by omega
          have HNB : Hid (∀ j z, j < k + 1 → l[j]? = some z → bigI z = false) := Lib.hid (get_stepG (p := fun z => bigI z = false) hall.out HX.out.1 (by
            have e1 := HTT.out
            have e2 := HDD.out
            have e3 := HLL.out
            have h9 : x.l.any (fun y => decide (100 < y.size)) = false := by
              rw [List.any_eq_false]
              intro y hy
              obtain ⟨i, hi⟩ := List.mem_iff_getElem?.1 hy
              have := hsm.out i y (by have := (List.getElem?_eq_some_iff.1 hi).1; omega) hi
              simp; omega
            unfold bigI
            rw [h9, ← e1, ← e2, ← e3, g3, g4, g5]; rfl))
          go_wp2_with fail
          go_roundw
          case rel => exact ⟨k + 1, by omega, by omega, by go_num, HK, HNB⟩
          case measure => simp [intOf]; omega
    · have HF : Hid (largeB l = false) := Lib.hid (large_no (fun j y hj hj1 hy => hall.out j y (by have := HN.out; omega) hy))
      by_cases h1 : k < n
      · have g1 : (k : Int) < n := by omega
        have g2 : ¬ (k : Int) < 100 := by omega
        go_wp2
        go_ret
        exact ⟨ret_bool HF.out.symm, HK.out⟩
      · have g1 : ¬ (k : Int) < n := by omega
        go_wp2
        go_ret
        exact ⟨ret_bool HF.out.symm, HK.out⟩

end Go.Proofs.Ytfbmlacklhiecaa
