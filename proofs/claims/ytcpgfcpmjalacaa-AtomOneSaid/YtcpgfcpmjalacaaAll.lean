/- All of atom's tables: a copy of a row. -/
import Derived.Test.YtcpgfcpmjalacaaName
namespace Go.Proofs.Ytcpgfcpmjalacaa
open Go.RowKit

/-- a new slice of these strings -/
def NewRow (w : World) (l : List ByteArray) (e : Ending) (w' : World) : Prop :=
  ∃ v, e = .returned v ∧ w'.ownsRow w.heap.size 9 1 v l.length (l.map Value.string) ∧ Fr (fun _ => False) w w'

theorem Fr.alloc_grown {F : Nat → Prop} {w w1 : World} {o : Obj} {row : Option Nat} (h : (w.alloc o).grownBy w1 row) (hr : ∀ k, row = some k → w.heap.size ≤ k) : Fr F w w1 :=
  ⟨h.os, h.tape, h.output, Nat.le_trans (by simp) h.size, fun k hk _ =>
    (h.block k (by simp; omega) (fun e => by have := hr k e.symm; omega)).trans (heap_alloc_old w o hk)⟩

theorem run_eql_nil (w : World) (a : Addr) (n c : Nat) : (binOp .eql 30 (.slice (some a) n c) (.slice none 0 0)).run Try.prog w = .ok (.bool false) w := by kernel_rfl

set_option maxHeartbeats 1000000 in
theorem clone_any {w : World} {ao : Option Addr} {n c : Nat} {l : List ByteArray} (hrow : w.ownsRow 0 9 1 (.slice ao n c) n (l.map Value.string)) (hn : n ≤ 4000) :
    Calls Try.prog 36 #[.slice ao n c] w (NewRow w l) := by
  have hl : l.length = n := by simpa using hrow.1
  obtain ⟨i0, hi, hz0, hz1, hz2⟩ := info_parts Try.info9
  rcases hrow.2 with ⟨hv, h0⟩ | ⟨g, cap, cur, hv, hb, hg, hnc, _⟩
  · subst h0
    obtain rfl : l = [] := List.length_eq_zero_iff.1 hl
    obtain ⟨rfl, rfl⟩ : ao = none ∧ c = 0 := by cases hv; exact ⟨rfl, rfl⟩
    have hq : Hid (NewRow w [] (.returned (.slice none 0 0)) w) := ⟨_, rfl, World.ownsRow_nil _ _ _ _, Fr.refl _ _⟩
    clear hrow hl hv
    have he : (binOp .eql 30 (.slice none 0 0) (.slice none 0 0)).run Try.prog w = .ok (.bool true) w := by kernel_rfl
    go_enter Try.func36, Try.ntmps36
    go_wp2
    go_ret
    exact hq.out
  · obtain ⟨rfl, rfl⟩ : ao = some ⟨g, 0, none⟩ ∧ c = cap := by cases hv; exact ⟨rfl, rfl⟩
    have hglt : g < w.heap.size := (Array.getElem?_eq_some_iff.1 hg).1
    have hcells : ∀ j u, (l.map Value.string)[j]? = some u → (w.alloc (.cells #[] 9)).cell? ((⟨g, 0, none⟩ : Addr).add j) = some u := by
      intro j u hu
      rw [← hrow.cells (g := g) rfl j u hu]
      refine cell_of_same (heap_alloc_old _ _ ?_)
      have : ((⟨g, 0, none⟩ : Addr).add j).block = g := by unfold Addr.add; split <;> rfl
      rw [this]; exact hglt
    have hone : ∀ u ∈ l.map Value.string, u.oneCell' = true := by
      intro u hu; obtain ⟨s, _, rfl⟩ := List.mem_map.1 hu; rfl
    have hmade : (w.alloc (.cells #[] 9)).ownsRow w.heap.size 9 1 (.slice (some ⟨w.heap.size, 0, none⟩) 0 0) 0 [] := World.ownsRow_made w #[] 0 (Nat.le_refl _) (by decide) rfl
    have HM := Lib.hid hmade
    have HC := Lib.hid hcells
    have HO := Lib.hid hone
    have HL : Hid ((l.map Value.string).length = n * 1) := by simp [Hid, hl]
    have HLL := Lib.hid hl
    have he : (binOp .eql 30 (.slice (some ⟨g, 0, none⟩) n c) (.slice none 0 0)).run Try.prog w = .ok (.bool false) w := by kernel_rfl
    clear hmade hcells hone hl hrow hv hg
    go_enter Try.func36, Try.ntmps36
    go_wp2_with (at_builtin; refine wpList_append_own _ rfl (.tmp 5) (.tmp 6) 30 rfl w.heap.size 9 i0 (.string ⟨#[]⟩) 1 16 Try.underlying30 hi hz0 hz1 hz2 rfl (by decide) _ 0 [] rfl HM.out ⟨g, 0, none⟩ n c (l.map Value.string) rfl HL.out HC.out HO.out (by unfold maxLen; omega) (by omega) (by simp) ?_; intro v' w1 hown hgrow _; have H1 := Lib.hid hown; have H2 := Lib.hid hgrow; clear hown hgrow)
    go_ret
    refine ⟨v', rfl, ?_, ?_⟩
    · have := H1.out; rw [Nat.zero_add, List.nil_append] at this; rw [HLL.out]; exact this
    · exact Fr.alloc_grown H2.out (fun k hk => by have : w.heap.size = k := by simpa [Value.ownBlock, Act.eval] using hk
                                                  omega)

/-- the names of a kind -/
def allS (L : Nat → List ByteArray) (kind : Int) : List ByteArray := if 1 ≤ kind ∧ kind ≤ 5 then L kind.toNat else []

set_option maxHeartbeats 400000 in
theorem all_any {w : World} {F : Nat → Prop} {B : Nat} {L : Nat → List ByteArray} (h : Tab w F B L) (kind : Int) :
    Calls Try.prog 18 #[.pointer (some ⟨B, 0, none⟩), .int .i64 kind] w (NewRow w (allS L kind)) := by
  by_cases hk : 1 ≤ kind ∧ kind ≤ 5
  · obtain ⟨k, rfl⟩ := Int.eq_ofNat_of_zero_le (show 0 ≤ kind by omega)
    have e0 : allS L (k : Int) = L k := by unfold allS; rw [if_pos hk]; simp
    rw [e0]
    obtain ⟨ao, c, hc, hrow, _⟩ := h.row (show k < 6 by omega)
    have hfew := h.few k
    have hcl := Lib.hid (clone_any hrow hfew)
    generalize (L k).length = n at *
    have hk1 : 1 ≤ k := by omega
    have hk5 : k ≤ 5 := by omega
    clear hk e0 h hrow
    go_enter Try.func18, Try.ntmps18
    go_wp2_with (first | (go_at_call 34; refine (row_yes k B _ _ hk1 hk5 hc).mono ?_; rintro e w' ⟨rfl, rfl⟩) | (go_at_call 36; refine hcl.out.mono ?_; rintro e w' ⟨v, rfl, h1, h2⟩; have H1 := Lib.hid h1; have H2 := Lib.hid h2; clear h1 h2))
    go_ret
    exact ⟨_, rfl, H1.out, H2.out⟩
  · have e0 : allS L kind = [] := by unfold allS; rw [if_neg hk]
    rw [e0]
    have H := Lib.hid hk
    have hcl := Lib.hid (clone_any (w := w) (ao := none) (n := 0) (c := 0) (l := []) (World.ownsRow_nil w 0 9 1) (by omega))
    clear hk e0 h
    go_enter Try.func18, Try.ntmps18
    go_wp2_with (first | (go_at_call 34; refine (row_no _ B _ H.out).mono ?_; rintro e w' ⟨rfl, rfl⟩) | (go_at_call 36; refine hcl.out.mono ?_; rintro e w' ⟨v, rfl, h1, h2⟩; have H1 := Lib.hid h1; have H2 := Lib.hid h2; clear h1 h2))
    go_ret
    exact ⟨_, rfl, H1.out, H2.out⟩
end Go.Proofs.Ytcpgfcpmjalacaa
