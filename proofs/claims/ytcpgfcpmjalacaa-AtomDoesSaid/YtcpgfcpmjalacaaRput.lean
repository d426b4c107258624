/- Put of the reference's tables. -/
import Derived.Test.YtcpgfcpmjalacaaApp
namespace Go.Proofs.Ytcpgfcpmjalacaa
open Go.RowKit

/-- what holds while a name is put: nothing that was there has turned; what the rows are -/
structure RPut (w W : World) (F : Nat → Prop) (B : Nat) (L : Nat → List ByteArray) : Prop where
  fr : Fr (fun _ => False) w W
  tab : RTab W F B L
  old : ∀ b, F b → b < w.heap.size

theorem RPut.new {w W W' : World} {F : Nat → Prop} {B : Nat} {L : Nat → List ByteArray} (hf : Hid (Fr (fun g => w.heap.size ≤ g) W W')) (h : RPut w W F B L) : RPut w W' F B L :=
  ⟨⟨hf.out.os.trans h.fr.os, hf.out.tape.trans h.fr.tape, hf.out.output.trans h.fr.output, Nat.le_trans h.fr.size hf.out.size,
      fun k hk _ => (hf.out.block k (Nat.lt_of_lt_of_le hk h.fr.size) (fun e => by omega)).trans (h.fr.block k hk (fun x => x))⟩,
    h.tab.same hf.out (fun k hk e => by have := h.old k hk; omega), h.old⟩

theorem rput_keep {w W W' : World} {F : Nat → Prop} {B k : Nat} {L : Nat → List ByteArray} {v : Value} (hf : Hid (Fr (fun g => w.heap.size ≤ g) W W'))
    (h : Hid (RPut w W F B L) ∧ W.cell? ⟨B, k, none⟩ = some v ∧ W.frozen? ⟨B, k, none⟩ = false) : Hid (RPut w W' F B L) ∧ W'.cell? ⟨B, k, none⟩ = some v ∧ W'.frozen? ⟨B, k, none⟩ = false := by
  have hB := h.1.out.old B h.1.out.tab.inB
  have hb := hf.out.block B (lt_of_cell h.2.1) (fun e => by omega)
  exact ⟨h.1.out.new hf, (cell_of_same hb).trans h.2.1, (frozen_of_same (a := ⟨B, k, none⟩) hb).trans h.2.2⟩

theorem hp1 (W : World) (o : Obj) : (W.alloc o).heap[W.heap.size]? = some o := heap_alloc_new W o
theorem hp2 (W : World) (o o' : Obj) : ((W.alloc o).alloc o').heap[W.heap.size]? = some o := (heap_alloc_old _ _ (by simp)).trans (heap_alloc_new W o)
theorem hp3 (W : World) (o o' : Obj) : ((W.alloc o').alloc o).heap[W.heap.size + 1]? = some o := by
  have := heap_alloc_new (W.alloc o') o
  simpa using this

theorem app_keeps {W w1 : World} {base : Nat} {e : TypeId} {size n : Nat} {v v' : Value} {xs : List Value} {g : Nat} (h : AppPost W base e size v n xs v' w1) (hg : v.ownBlock = some g) :
    ∀ (j : Nat) (o : Obj), W.heap[j]? = some o → j ≠ g → w1.heap[j]? = some o := fun j o hj hne =>
  (h.2.1.block j (Array.getElem?_eq_some_iff.1 hj).1 (fun e => hne (by rw [hg] at e; exact Option.some.inj e))).trans hj

theorem own_slice {w : World} {base n : Nat} {e : TypeId} {size : Nat} {v : Value} {xs : List Value} (h : w.ownsRow base e size v n xs) : ∃ ao c, v = .slice ao n c := by
  rcases h.2 with ⟨rfl, rfl⟩ | ⟨g, cap, cur, rfl, _⟩
  · exact ⟨_, _, rfl⟩
  · exact ⟨_, _, rfl⟩

/-- what holds while a name is put, with the row's own cell -/
def SP (w W : World) (F : Nat → Prop) (B k : Nat) (L : Nat → List ByteArray) (v : Value) : Prop := RPut w W F B L ∧ W.cell? ⟨B, k, none⟩ = some v ∧ W.frozen? ⟨B, k, none⟩ = false

theorem SP.new {w W W' : World} {F : Nat → Prop} {B k : Nat} {L : Nat → List ByteArray} {v : Value} (h : SP w W F B k L v) (hf : Fr (fun g => w.heap.size ≤ g) W W') : SP w W' F B k L v := by
  have hB := h.1.old B h.1.tab.inB
  have hb := hf.block B (lt_of_cell h.2.1) (fun e => by omega)
  exact ⟨h.1.new hf, (cell_of_same hb).trans h.2.1, (frozen_of_same (a := ⟨B, k, none⟩) hb).trans h.2.2⟩
theorem sp1 {w W : World} {F : Nat → Prop} {B k : Nat} {L : Nat → List ByteArray} {v : Value} (h : SP w W F B k L v) (o : Obj) : SP w (W.alloc o).drew F B k L v := h.new ((Fr.of_alloc _ _ _).trans (Fr.of_drew _ _))
theorem sp2 {w W : World} {F : Nat → Prop} {B k : Nat} {L : Nat → List ByteArray} {v : Value} (h : SP w W F B k L v) (o o' : Obj) : SP w ((W.alloc o).alloc o').drew F B k L v :=
  h.new (((Fr.of_alloc _ _ _).trans (Fr.of_alloc _ _ _)).trans (Fr.of_drew _ _))
theorem sp3 {w W : World} {F : Nat → Prop} {B k : Nat} {L : Nat → List ByteArray} {v : Value} (h : SP w W F B k L v) (o : Obj) : SP w (W.alloc o) F B k L v := h.new (Fr.of_alloc _ _ _)

theorem Fr.of_app {W w1 : World} {base n : Nat} {e : TypeId} {size : Nat} {v v' : Value} {xs : List Value} (h : AppPost W base e size v n xs v' w1) (hv : ∀ g, v.ownBlock = some g → base ≤ g) : Fr (fun g => base ≤ g) W w1 :=
  (Fr.of_grown h.2.1).mono (fun g _ hg => hv g hg)

theorem own45 {w1 : World} {base n : Nat} {v : Value} {xs : List Value} (h : Hid (w1.ownsRow base 9 1 v n xs)) : w1.ownsRow base 9 1 v n xs := h.out
theorem keep45 {W w1 : World} {g : Nat} (h : Hid (∀ (j : Nat) (o : Obj), W.heap[j]? = some o → j ≠ g → w1.heap[j]? = some o)) {j : Nat} {o : Obj} (hj : W.heap[j]? = some o) (hne : j ≠ g) : w1.heap[j]? = some o := h.out j o hj hne

theorem of_app48 {W w1 w2 : World} {base n m : Nat} {v v' : Value} {xs ys : List Value} (hq : AppPost W base 9 1 v m ys v' w2) (h : Hid (w1.ownsRow base 9 1 v n xs)) : Fr (fun g => base ≤ g) W w2 :=
  Fr.of_app hq (fun g hg => ((own45 h).lt g hg).1)
theorem sp48 {w W w2 : World} {F : Nat → Prop} {B k : Nat} {L : Nat → List ByteArray} {v : Value} (h : Hid (SP w W F B k L v)) (hf : Fr (fun g => w.heap.size ≤ g) W w2) : SP w w2 F B k L v := h.out.new hf
theorem sp48a {w W w2 : World} {F : Nat → Prop} {B k : Nat} {L : Nat → List ByteArray} {v : Value} {o : Obj} (h : Hid (SP w W F B k L v)) (hf : Fr (fun g => w.heap.size ≤ g) (W.alloc o) w2) : SP w w2 F B k L v := (sp3 h.out o).new hf

theorem app45 {W w1 : World} {base n g : Nat} {v1 : Value} {xs : List Value} (h : AppPost W base 9 1 (.slice (some ⟨g, 0, none⟩) 0 0) (0 + n) ([] ++ xs) v1 w1) (hb : base ≤ g) :
    ∃ ao c, v1 = .slice ao n c ∧ Hid (w1.ownsRow base 9 1 (.slice ao n c) n xs) ∧ Hid (∀ (j : Nat) (o : Obj), W.heap[j]? = some o → j ≠ g → w1.heap[j]? = some o) ∧ Fr (fun g => base ≤ g) W w1 := by
  rw [Nat.zero_add, List.nil_append] at h
  obtain ⟨ao, c, rfl⟩ := own_slice h.1
  exact ⟨ao, c, rfl, h.1, app_keeps h rfl, Fr.of_app h (fun g' hg => by simp [Value.ownBlock] at hg; omega)⟩

theorem app48 {w W w1 w2 : World} {n : Nat} {a : Option Addr} {c : Nat} {v2 : Value} {xs ys : List Value} {F : Nat → Prop} {B k : Nat} {L : Nat → List ByteArray} {v : Value}
    (hq : AppPost W w.heap.size 9 1 (.slice a n c) (n + 1) ys v2 w2) (ho : Hid (w1.ownsRow w.heap.size 9 1 (.slice a n c) n xs)) (hp : Hid (SP w w1 F B k L v)) (hW : W = w1 ∨ ∃ o, W = w1.alloc o) :
    ∃ ao c, v2 = .slice ao (n + 1) c ∧ Hid (w2.ownsRow w.heap.size 9 1 (.slice ao (n + 1) c) (n + 1) ys) ∧ w2.cell? ⟨B, k, none⟩ = some v ∧ w2.frozen? ⟨B, k, none⟩ = false ∧ Hid (SP w w2 F B k L v) := by
  have hfr := of_app48 hq ho
  obtain ⟨ao, c, rfl⟩ := own_slice hq.1
  have hs : SP w w2 F B k L v := by
    rcases hW with rfl | ⟨o, rfl⟩
    · exact sp48 hp hfr
    · exact sp48a hp hfr
  exact ⟨ao, c, rfl, hq.1, hs.2.1, hs.2.2, hs⟩

theorem radd_fin {w w2 : World} {F : Nat → Prop} {B k n : Nat} {L : Nat → List ByteArray} {v : Value} {s : ByteArray} {ao : Option Addr} {c : Nat} (h : RTab w F B L) (hp : Hid (SP w w2 F B k L v))
    (ho : Hid (w2.ownsRow w.heap.size 9 1 (.slice ao (n + 1) c) (n + 1) ((L k).map Value.string ++ [.string s]))) (hn : (L k).length = n) (hk : k < 6) :
    Fr F w (w2.setCell ⟨B, k, none⟩ (.slice ao (n + 1) c)) ∧ RTab (w2.setCell ⟨B, k, none⟩ (.slice ao (n + 1) c)) (grown F w (w2.setCell ⟨B, k, none⟩ (.slice ao (n + 1) c))) B (addL L k s) := by
  have hB := h.old B h.inB
  have hfr := hp.out.1.fr
  have hset : Fr (fun b => b = B) w2 (w2.setCell ⟨B, k, none⟩ (.slice ao (n + 1) c)) := (Fr.of_setCell _ _ _).mono (fun _ _ e => e)
  have hsz : (w2.setCell ⟨B, k, none⟩ (.slice ao (n + 1) c)).heap.size = w2.heap.size := by simp [World.setCell]
  have hF : Fr F w (w2.setCell ⟨B, k, none⟩ (.slice ao (n + 1) c)) := (hfr.mono (fun _ _ x => x.elim)).trans (hset.mono (fun b _ e => by rw [e]; exact h.inB))
  refine ⟨hF, ?_⟩
  obtain ⟨arr, vs, hb, hs, hk'⟩ := hp.out.1.tab.lies
  refine ⟨?_, Or.inl h.inB, arr.setIfInBounds k (.slice ao (n + 1) c), fun j => if j = k then .slice ao (n + 1) c else vs j, ?_, by simpa using hs, ?_⟩
  · intro b hb'
    rcases hb' with hb' | hb'
    · exact Nat.lt_of_lt_of_le (h.old b hb') hF.size
    · exact hb'.2
  · simp only [World.setCell, Array.getElem?_modify]
    simp [hb]
  · intro j hj
    by_cases e : j = k
    · subst e
      simp only [if_true]
      refine ⟨by rw [Array.getElem?_setIfInBounds, if_pos rfl, if_pos (by omega)], ?_⟩
      rw [addL_same]
      have hr : Reads w2 (fun g => w.heap.size ≤ g) (.slice ao (n + 1) c) (L j ++ [s]) := Reads.of_row (n := n + 1) (by simpa using ho.out)
      have hr2 := hr.same hset (fun g hg e => by omega)
      refine hr2.mono (fun g hg h1 => ⟨Or.inr ⟨h1, hg⟩, by omega⟩)
    · simp only [e, if_false]
      refine ⟨by rw [Array.getElem?_setIfInBounds, if_neg (fun x => e x.symm)]; exact (hk' j hj).1, ?_⟩
      rw [addL_other L s e]
      exact ((hk' j hj).2.same hset (fun g hg e => hg.2 e)).mono (fun g _ hg => ⟨Or.inl hg.1, hg.2⟩)

set_option maxHeartbeats 2000000 in
set_option maxRecDepth 100000 in
theorem radd_any (k B : Nat) (s : ByteArray) {w : World} {F : Nat → Prop} {L : Nat → List ByteArray} (h : RTab w F B L) (hfew : ∀ k, (L k).length ≤ 4000) (hk1 : 1 ≤ k) (hk5 : k ≤ 5) (hf : (L k).length < 4000) (hs : s.size ≤ 24) (hm : mayB s.data.toList = true) (hn : numS L k s = 0) :
    Calls Try.prog 15 #[.pointer (some ⟨B, 0, none⟩), .int .i64 k, .string s] w fun e w' => e = .returned (.tuple #[.int .u16 ((k : Int) * 8192 + ((L k).length + 1)), .int .i64 0]) ∧ Fr F w w' ∧ RTab w' (grown F w w') B (addL L k s) := by
  have hki : (k : Int) < 6 := by omega
  have hki0 : 0 ≤ (k : Int) := by omega
  have hkn : ¬ (k : Int) < 1 := by omega
  have hkm : ¬ 5 < (k : Int) := by omega
  have hl4 : ¬ (4000 : Int) ≤ (L k).length := by omega
  obtain ⟨ao, c, hc, hrd⟩ := h.row (show k < 6 by omega)
  have HM := Lib.hid hm
  have hss : s.size ≤ maxLen := by unfold maxLen; omega
  have HF : Hid (∀ W, RTab W F B L → Calls Try.prog 13 #[.pointer (some ⟨B, 0, none⟩), .int .i64 k, .string s] W fun e w' => e = .returned (.tuple #[.int .u16 0, .bool false]) ∧ W = w') := fun W hW => by
    have := rfind_any hW hfew (k : Int) s
    rw [hn] at this
    simpa [foundV] using this
  have H := Lib.hid h
  have HRD := Lib.hid hrd
  have hB := h.old B h.inB
  have hfz : w.frozen? ⟨B, k, none⟩ = false := by obtain ⟨arr, vs, hb, _⟩ := h.lies; exact frozen_arr hb k
  generalize hl : (L k).length = n at *
  have HL := Lib.hid hl
  have HS0 : Hid (SP w w F B k L (.slice ao n c)) := ⟨⟨Fr.refl _ _, h, h.old⟩, hc, hfz⟩
  have hsl := Try.slice30
  have HSL := Lib.hid hsl
  clear h hrd hm hn hl hsl hfew
  go_enter Try.func15, Try.ntmps15
  go_wp2_with (first | (go_at_call 27; refine (rmay_any s _ hss).mono ?_; rintro e w' ⟨rfl, rfl⟩; rw [HM.out]) | (go_at_call 13; refine (HF.out _ H.out).mono ?_; rintro e w' ⟨rfl, rfl⟩))
  go_region_law (first
      | (refine step_app rfl (.tmp 38) (.tmp 44) 30 rfl HSL.out (v := .slice (some ⟨_, 0, none⟩) 0 0) (n := 0) (xs := []) (base := w.heap.size) (news := (L k).map Value.string) rfl ?_ rfl ?_ ?_ ?_ ?_ ?_
         (first | (refine own_fresh (hp1 w _) ?_; omega) | (refine own_fresh (hp2 w _ _) ?_; omega) | (refine own_fresh (hp3 w _ _) ?_; omega))
         (first | exact (HRD.out.same (sp1 HS0.out _).1.fr (fun _ _ x => x)).src.2 | exact (HRD.out.same (sp2 HS0.out _ _).1.fr (fun _ _ x => x)).src.2)
         (unfold maxLen; omega)
         (omega)
         (simp <;> omega)
         intro v1 w1 hp
         obtain ⟨ao1, c1, rfl, HO1, HK1, hfr1⟩ := app45 hp (by omega)
         have hsp1 : SP w w1 F B k L (.slice ao n c) := by first | exact (sp1 HS0.out _).new hfr1 | exact (sp2 HS0.out _ _).new hfr1
         have hc1 := hsp1.2.1
         have hf1 := hsp1.2.2
         have HP1 := Lib.hid hsp1
         have hsz1 := hsp1.1.fr.size
         have HFR1 := Lib.hid hfr1
         clear hp hsp1 hfr1)
      | (refine step_app rfl (.tmp 45) (.tmp 47) 30 rfl HSL.out (v := .slice _ n _) (n := n) (xs := (L k).map Value.string) (base := w.heap.size) (news := [.string s]) rfl ?_ rfl ?_ ?_ ?_ ?_ ?_
         (first | (refine own45 ?_; assumption) | (refine World.ownsRow.alloc (own45 ?_) _; assumption))
         (refine src_one (e := 9) ?_ rfl
          first
            | exact hp1 _ _
            | exact keep45 (by assumption) (by first | exact hp2 w _ _ | exact hp3 w _ _) (by simp))
         (unfold maxLen; omega)
         (omega)
         go_must (first | assumption | (simp <;> omega))
         intro v2 w2 hq
         obtain ⟨ao2, c2, rfl, HO2, hc2, hf2, HP2⟩ := app48 hq (by assumption) (by assumption) (by first | exact Or.inl rfl | exact Or.inr ⟨_, rfl⟩)
         clear hq))
  all_goals
    go_wp2_with (go_at_call 32; refine (rof_any _ _ _ (by omega) (by omega) (by omega) (by omega)).mono ?_; rintro e w' ⟨rfl, rfl⟩)
    go_ret2
    exact ⟨rfl, radd_fin H.out (by assumption) (by assumption) HL.out (by omega)⟩

/-- what Put of the reference leaves -/
def RPutPost (w : World) (F : Nat → Prop) (B : Nat) (L : Nat → List ByteArray) (kind : Int) (s : ByteArray) (e : Ending) (w' : World) : Prop :=
  e = .returned (.tuple #[.int .u16 (putA L kind s), .int .i64 (putE L kind s)]) ∧ Fr F w w' ∧ RTab w' (grown F w w') B (putL L kind s)

theorem RPutPost.still {w : World} {F : Nat → Prop} {B : Nat} {L : Nat → List ByteArray} {kind : Int} {s : ByteArray} (h : RTab w F B L) (hp : putL L kind s = L)
    {a e : Int} (ha : putA L kind s = a) (he : putE L kind s = e) : RPutPost w F B L kind s (.returned (.tuple #[.int .u16 a, .int .i64 e])) w :=
  ⟨by rw [ha, he], Fr.refl _ _, by rw [hp, grown_same]; exact h⟩

set_option maxHeartbeats 2000000 in
set_option maxRecDepth 100000 in
theorem rput_any {w : World} {F : Nat → Prop} {B : Nat} {L : Nat → List ByteArray} (h : RTab w F B L) (hfew : ∀ k, (L k).length ≤ 4000) (kind : Int) (s : ByteArray) (hs : s.size ≤ maxLen) :
    Calls Try.prog 15 #[.pointer (some ⟨B, 0, none⟩), .int .i64 kind, .string s] w (RPutPost w F B L kind s) := by
  by_cases hkk : 1 ≤ kind ∧ kind ≤ 5
  rotate_left
  · have he : putE L kind s = 1 := by simp [putE, hkk]
    have HQ := Lib.hid (RPutPost.still (kind := kind) (s := s) (a := 0) h (by simp [putL, he]) (by simp [putA, he]) he)
    by_cases h1 : kind < 1
    · clear hkk he h hfew
      go_enter Try.func15, Try.ntmps15
      go_wp2
      go_ret2
      exact HQ.out
    · have h2 : 5 < kind := by omega
      clear hkk he h hfew
      go_enter Try.func15, Try.ntmps15
      go_wp2
      go_ret2
      exact HQ.out
  have hk1 : ¬ kind < 1 := by omega
  have hk5 : ¬ 5 < kind := by omega
  cases hm : mayB s.data.toList
  · have he : putE L kind s = 2 := by simp [putE, hkk, hm]
    have HQ := Lib.hid (RPutPost.still (kind := kind) (s := s) (a := 0) h (by simp [putL, he]) (by simp [putA, he]) he)
    clear hkk he h hfew
    go_enter Try.func15, Try.ntmps15
    go_wp2_with (go_at_call 27; refine (rmay_any _ _ hs).mono ?_; rintro e w' ⟨rfl, rfl⟩)
    go_ret2
    exact HQ.out
  have HF := Lib.hid (rfind_any h hfew kind s)
  by_cases hn : numS L kind s = 0
  rotate_left
  · have he : putE L kind s = 0 := by simp [putE, hkk, hm, hn]
    have HQ := Lib.hid (RPutPost.still (kind := kind) (s := s) (a := kind * 8192 + numS L kind s) h (by simp [putL, he, hn]) (by simp [putA, he, hn]) he)
    have e1 : foundV kind (numS L kind s) = .tuple #[.int .u16 (kind * 8192 + numS L kind s), .bool true] := by simp [foundV, hn]
    rw [e1] at HF
    generalize numS L kind s = n at *
    clear he h e1 hfew hkk
    go_enter Try.func15, Try.ntmps15
    go_wp2_with (first | (go_at_call 27; refine (rmay_any _ _ hs).mono ?_; rintro e w' ⟨rfl, rfl⟩) | (go_at_call 13; refine HF.out.mono ?_; rintro e w' ⟨rfl, rfl⟩))
    go_ret2
    exact HQ.out
  obtain ⟨k, rfl⟩ := Int.eq_ofNat_of_zero_le (show 0 ≤ kind by omega)
  have hf := hfew k
  by_cases hlen : (L k).length = 4000
  · have he : putE L (k : Int) s = 3 := by simp only [putE, hkk, hm, hn]; simp [hlen]
    have HQ := Lib.hid (RPutPost.still (kind := k) (s := s) (a := 0) h (by simp [putL, he]) (by simp [putA, he]) he)
    have e1 : foundV (k : Int) (numS L (k : Int) s) = .tuple #[.int .u16 0, .bool false] := by simp [foundV, hn]
    rw [e1] at HF
    obtain ⟨ao, c, hc, _⟩ := h.row (show k < 6 by omega)
    rw [hlen] at hc
    have hki : (k : Int) < 6 := by omega
    have hki0 : 0 ≤ (k : Int) := by omega
    clear he h e1 hlen hf hn hfew hkk
    go_enter Try.func15, Try.ntmps15
    go_wp2_with (first | (go_at_call 27; refine (rmay_any _ _ hs).mono ?_; rintro e w' ⟨rfl, rfl⟩) | (go_at_call 13; refine HF.out.mono ?_; rintro e w' ⟨rfl, rfl⟩))
    go_ret2
    exact HQ.out
  · have he : putE L (k : Int) s = 0 := by simp only [putE, hkk, hm, hn]; simp [hlen]
    have ha : putA L (k : Int) s = k * 8192 + ((L k).length + 1) := by simp [putA, he, hn]
    have hl : putL L (k : Int) s = addL L k s := by simp [putL, he, hn]
    refine (radd_any k B s h hfew (by omega) (by omega) (by omega) (may_size hm) hm hn).mono fun e w' ⟨h1, h2, h3⟩ => ⟨by rw [ha, he]; exact h1, h2, by rw [hl]; exact h3⟩
end Go.Proofs.Ytcpgfcpmjalacaa
