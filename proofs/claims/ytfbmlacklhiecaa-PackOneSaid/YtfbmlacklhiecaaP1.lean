/- Contracts and lemmas: P1 -/
import Derived.Test.YtfbmlacklhiecaaP0
namespace Go.Proofs.Ytfbmlacklhiecaa
set_option linter.unusedVariables false
set_option linter.unusedSimpArgs false
open Go.RowKit Go.ChangeShapes Go.WideShapes
set_option maxRecDepth 20000

open Go.RowKit Go.ChangeShapes Go.WideShapes
set_option maxRecDepth 20000
theorem stopped_any {α : Type} (s : Option α) (b : Nat) (w : World) (h : w.cell? ⟨b, 0, none⟩ = some (.int .i64 (errOf s))) :
    Calls Try.prog 44 #[.pointer (some ⟨b, 0, none⟩)] w fun e w' => e = .returned (.bool s.isNone) ∧ w = w' := by
  cases s with
  | none =>
    simp only [errOf] at h
    go_enter Try.func44, Try.ntmps44
    go_wp2
    go_ret
    exact ⟨rfl, rfl⟩
  | some x =>
    simp only [errOf] at h
    go_enter Try.func44, Try.ntmps44
    go_wp2
    go_ret
    exact ⟨rfl, rfl⟩
/-- what a demand turns -/
def DemW {α : Type} (b : Nat) (s : Option α) (d : Bool) (w w' : World) : Prop := w' = if d = false ∧ s.isSome = true then w.setCell ⟨b, 0, none⟩ (.int .i64 2) else w
set_option maxHeartbeats 1000000 in
theorem demand_any {α : Type} (s : Option α) (d : Bool) (b : Nat) (w : World) (h : w.cell? ⟨b, 0, none⟩ = some (.int .i64 (errOf s))) (hf : w.frozen? ⟨b, 0, none⟩ = false) :
    Calls Try.prog 35 #[.pointer (some ⟨b, 0, none⟩), .bool d] w fun e w' => e = .returned (.tuple #[]) ∧ DemW b s d w w' := by
  cases d with
  | true =>
    go_enter Try.func35, Try.ntmps35
    go_wp2
    go_end0
    exact ⟨rfl, by simp [DemW]⟩
  | false =>
    cases s with
    | none =>
      have HS := Lib.hid (stopped_any (none : Option α) b w h)
      go_enter Try.func35, Try.ntmps35
      go_wp2_with (go_at_call 44; refine HS.out.mono ?_; rintro e w' ⟨rfl, rfl⟩)
      go_end0
      exact ⟨rfl, by simp [DemW]⟩
    | some x =>
      have HS := Lib.hid (stopped_any (some x) b w h)
      go_enter Try.func35, Try.ntmps35
      go_wp2_with (go_at_call 44; refine HS.out.mono ?_; rintro e w' ⟨rfl, rfl⟩)
      go_end0
      exact ⟨rfl, by simp [DemW]⟩
theorem OutAt.c0 {B b : Nat} {s : Option (List UInt8)} {w : World} (h : OutAt B b s w) : w.cell? ⟨b, 0, none⟩ = some (.int .i64 (errOf s)) := by
  obtain ⟨v, hh, _⟩ := h
  rw [Lib.cell_of_heap hh]; rfl
theorem OutAt.f0 {B b : Nat} {s : Option (List UInt8)} {w : World} (h : OutAt B b s w) : w.frozen? ⟨b, 0, none⟩ = false := by
  obtain ⟨v, hh, _⟩ := h
  exact Lib.frozen_of_heap hh 0
theorem InAt.c0 {b : Nat} {s : Option (List UInt8)} {w : World} (h : InAt b s w) : w.cell? ⟨b, 0, none⟩ = some (.int .i64 (errOf s)) := by
  obtain ⟨v, hh, _⟩ := h
  rw [Lib.cell_of_heap hh]; rfl
theorem InAt.f0 {b : Nat} {s : Option (List UInt8)} {w : World} (h : InAt b s w) : w.frozen? ⟨b, 0, none⟩ = false := by
  obtain ⟨v, hh, _⟩ := h
  exact Lib.frozen_of_heap hh 0
theorem OutAt.dem {B b : Nat} {s : Option (List UInt8)} {d : Bool} {w w' : World} (h : OutAt B b s w) (hd : DemW b s d w w') : OutAt B b (dem s d) w' ∧ TurnB B b w w' := by
  unfold DemW at hd
  subst hd
  cases d with
  | true => exact ⟨by simpa [Go.Proofs.Ytfbmlacklhiecaa.dem] using h, by simpa using TurnB.refl B b w⟩
  | false =>
    cases s with
    | none => exact ⟨by simpa [Go.Proofs.Ytfbmlacklhiecaa.dem] using h, by simpa using TurnB.refl B b w⟩
    | some l =>
      obtain ⟨v, hh, _⟩ := h
      refine ⟨⟨v, ?_, fun l hl => by simp [Go.Proofs.Ytfbmlacklhiecaa.dem] at hl⟩, ?_⟩
      · simp only [Option.isSome_some, and_self, if_true]
        rw [blockSet hh]; rfl
      · simp only [Option.isSome_some, and_self, if_true]
        exact TurnB.set
theorem InAt.dem {b : Nat} {s : Option (List UInt8)} {d : Bool} {w w' : World} (h : InAt b s w) (hd : DemW b s d w w') : InAt b (dem s d) w' ∧ Fr (fun k => k = b) w w' := by
  unfold DemW at hd
  subst hd
  cases d with
  | true => exact ⟨by simpa [Go.Proofs.Ytfbmlacklhiecaa.dem] using h, by simpa using Fr.refl _ w⟩
  | false =>
    cases s with
    | none => exact ⟨by simpa [Go.Proofs.Ytfbmlacklhiecaa.dem] using h, by simpa using Fr.refl _ w⟩
    | some l =>
      obtain ⟨v, hh, hv, _⟩ := h
      refine ⟨⟨v, ?_, hv, fun l hl => by simp [Go.Proofs.Ytfbmlacklhiecaa.dem] at hl⟩, ?_⟩
      · simp only [Option.isSome_some, and_self, if_true]
        rw [blockSet hh]; rfl
      · simp only [Option.isSome_some, and_self, if_true]
        exact Fr.of_setCell w ⟨b, 0, none⟩ _
/-- behind an append into an Out -/
theorem OutAt.grow {B b : Nat} {l x : List UInt8} {v v' : Value} {w wx w' : World} (hh : w.heap[b]? = some (.cells #[.int .i64 0, v] 31 (0, 0))) (ho : w.ownsRow B 5 1 v l.length (bcells l))
    (hx : Kept w wx) (hp : AppPost wx B 5 1 v (l.length + x.length) (bcells l ++ bcells x) v' w') :
    w'.heap[b]? = some (.cells #[.int .i64 0, v] 31 (0, 0)) ∧ OutAt B b (some (l ++ x)) (w'.setCell ⟨b, 1, none⟩ v') ∧ TurnB B b w (w'.setCell ⟨b, 1, none⟩ v') := by
  have hhx : wx.heap[b]? = some (.cells #[.int .i64 0, v] 31 (0, 0)) := by rw [hx.block b (heap_lt hh) (fun x => x)]; exact hh
  have hox := own_kept ho hx
  have hne := Lib.ownBlock_ne hox hhx out_ne
  have hf : Fr (fun k => v.ownBlock = some k) wx w' := Fr.of_grown hp.2.1
  have hh' : w'.heap[b]? = some (.cells #[.int .i64 0, v] 31 (0, 0)) := by rw [hf.block b (heap_lt hhx) (fun e => hne e)]; exact hhx
  have hne' := Lib.ownBlock_ne hp.1 hh' out_ne
  refine ⟨hh', ⟨v', by rw [blockSet hh']; rfl, fun l' hl' => ?_⟩, ?_⟩
  · cases hl'
    have e1 : (l ++ x).length = l.length + x.length := by simp
    rw [e1, bcells_append]
    exact hp.1.kept (row := some b) ⟨rfl, rfl, rfl, by simp [World.setCell], fun k _ hk => Below.heap_setCell _ _ _ _ (fun e => hk (by simp [e]))⟩ (.inr hne')
  · have h1 : TurnB B b wx w' := hf.mono (fun k _ e => .inr (own_byt hox e))
    exact ((TurnB.kept hx).trans h1).trans TurnB.set
set_option maxHeartbeats 2000000 in
theorem oone_any {B b : Nat} {s : Option (List UInt8)} {w : World} (c : Int) (hc : c = (UInt8.ofNat c.toNat).toNat) (h : OutAt B b s w) (hl : olen s ≤ 10000000) (hB : B ≤ w.heap.size) :
    Calls Try.prog 36 #[.pointer (some ⟨b, 0, none⟩), .int .u8 c] w (OutPost B b (s.map (· ++ [UInt8.ofNat c.toNat])) w) := by
  have HS := Lib.hid (stopped_any s b w h.c0)
  have HC := Lib.hid hc
  have HE : Hid (bcells [UInt8.ofNat c.toNat] = [.int .u8 c]) := Lib.hid (by
    simp only [bcells, List.map_cons, List.map_nil]
    rw [← hc])
  clear hc
  have HO := Lib.hid h
  cases s with
  | none =>
    clear h
    go_enter Try.func36, Try.ntmps36
    go_wp2_with (go_at_call 44; refine HS.out.mono ?_; rintro e w' ⟨rfl, rfl⟩)
    go_end0
    exact ⟨rfl, HO.out, TurnB.refl _ _ _⟩
  | some l =>
    obtain ⟨v, hh, ho0⟩ := h
    have ho := ho0 l rfl
    simp only [olen] at hl
    have HH := Lib.hid hh
    have HW := Lib.hid ho
    have c1 : w.cell? ⟨b, 1, none⟩ = some v := by rw [Lib.cell_of_heap hh]; rfl
    obtain ⟨ao, cp, hv, hcp⟩ := own_slice ho
    subst hv
    clear ho0 ho hh
    go_enter Try.func36, Try.ntmps36
    go_wp2_with fail
    refine HS.out.mono ?_
    rintro e w' ⟨rfl, rfl⟩
    have e0 : (some l).isNone = false := rfl
    rw [e0]
    go_wp2_with (at_builtin; refine list_app rfl (.tmp 13) (.tmp 15) 29 29 rfl Try.slice29 rfl (by exact own_kept HW.out (Fr.of_alloc _ _ _)) rfl (by exact src_one Try.underlying29 (heap_alloc_new w _) rfl) (by unfold maxLen; omega) (by omega) (by simp; omega) ?_)
    intro v1 w1 hp1
    have HP1 := Lib.hid hp1
    clear hp1
    have hg : Hid _ := Lib.hid (OutAt.grow (x := [UInt8.ofNat c.toNat]) HH.out HW.out (Fr.of_alloc _ w (Obj.cells #[.int .u8 c] 5)) (by rw [HE.out]; exact HP1.out))
    have f1 : w1.frozen? ⟨b, 1, none⟩ = false := Lib.frozen_of_heap hg.out.1 1
    have d1 : w1.cell? ⟨b, 1, none⟩ = some (.slice ao l.length cp) := by rw [Lib.cell_of_heap hg.out.1]; rfl
    obtain ⟨ao1, c1', hv1, _⟩ := own_slice HP1.out.1
    subst hv1
    go_wp2
    go_end0
    exact ⟨rfl, hg.out.2⟩
set_option maxHeartbeats 2000000 in
theorem oput_any {B b : Nat} {s : Option (List UInt8)} {w : World} (t : ByteArray) (h : OutAt B b s w) (hl : olen s ≤ 10000000) (ht : s = none ∨ t.size ≤ 10000000) (hB : B ≤ w.heap.size) :
    Calls Try.prog 38 #[.pointer (some ⟨b, 0, none⟩), .string t] w (OutPost B b (s.map (· ++ bs t)) w) := by
  have HS := Lib.hid (stopped_any s b w h.c0)
  have HO := Lib.hid h
  cases s with
  | none =>
    clear h ht
    go_enter Try.func38, Try.ntmps38
    go_wp2_with (go_at_call 44; refine HS.out.mono ?_; rintro e w' ⟨rfl, rfl⟩)
    go_end0
    exact ⟨rfl, HO.out, TurnB.refl _ _ _⟩
  | some l =>
    obtain ⟨v, hh, ho0⟩ := h
    have ho := ho0 l rfl
    simp only [olen] at hl
    have ht1 : t.size ≤ 10000000 := by rcases ht with h | h <;> simp_all
    have HH := Lib.hid hh
    have HW := Lib.hid ho
    have c1 : w.cell? ⟨b, 1, none⟩ = some v := by rw [Lib.cell_of_heap hh]; rfl
    obtain ⟨ao, cp, hv, hcp⟩ := own_slice ho
    subst hv
    have HSR : Hid (Src Try.prog 1 9 (.string t) t.size (bcells (bs t)) w) := Lib.hid (by
      rw [← bcells_bs]
      exact Src.ofString w Try.underlying9 t)
    clear ho0 ho hh ht
    go_enter Try.func38, Try.ntmps38
    go_wp2_with fail
    refine HS.out.mono ?_
    rintro e w' ⟨rfl, rfl⟩
    have e0 : (some l).isNone = false := rfl
    rw [e0]
    go_wp2_with (at_builtin; refine list_app rfl (.tmp 13) (.tmp 14) 29 9 rfl Try.slice29 rfl HW.out rfl HSR.out (by unfold maxLen; omega) (by omega) (by omega) ?_)
    intro v1 w1 hp1
    have HP1 := Lib.hid hp1
    clear hp1
    have hg : Hid _ := Lib.hid (OutAt.grow (x := bs t) HH.out HW.out (Fr.refl _ w) (by rw [bs_len]; exact HP1.out))
    have f1 : w1.frozen? ⟨b, 1, none⟩ = false := Lib.frozen_of_heap hg.out.1 1
    have d1 : w1.cell? ⟨b, 1, none⟩ = some (.slice ao l.length cp) := by rw [Lib.cell_of_heap hg.out.1]; rfl
    obtain ⟨ao1, c1', hv1, _⟩ := own_slice HP1.out.1
    subst hv1
    go_wp2
    go_end0
    exact ⟨rfl, hg.out.2⟩

end Go.Proofs.Ytfbmlacklhiecaa
