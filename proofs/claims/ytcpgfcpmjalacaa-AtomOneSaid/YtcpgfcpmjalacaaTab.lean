/- Tables. -/
import Derived.Test.YtcpgfcpmjalacaaMay
import Derived.Test.YtcpgfcpmjalacaaLeaf
import Derived.Test.YtcpgfcpmjalacaaMap
import Derived.Deep.AppendLies
import Derived.Deep.RegionLaw
namespace Go.Proofs.Ytcpgfcpmjalacaa
open Go.RowKit

set_option maxHeartbeats 400000 in
theorem row_yes (k : Nat) (B : Nat) (v : Value) (w : World) (h0 : 1 ≤ k) (h1 : k ≤ 5) (hc : w.cell? ⟨B, k, none⟩ = some v) :
    Calls Try.prog 34 #[.pointer (some ⟨B, 0, none⟩), .int .i64 k] w fun e w' => e = .returned v ∧ w = w' := by
  go_enter Try.func34, Try.ntmps34
  go_wp2_with (go_at_call 33; refine (named_yes _ _ (by omega) (by omega)).mono ?_; rintro e w' ⟨rfl, rfl⟩)
  go_ret
  exact ⟨rfl, rfl⟩

set_option maxHeartbeats 400000 in
theorem row_no (k : Int) (B : Nat) (w : World) (h0 : ¬ (1 ≤ k ∧ k ≤ 5)) :
    Calls Try.prog 34 #[.pointer (some ⟨B, 0, none⟩), .int .i64 k] w fun e w' => e = .returned (.slice none 0 0) ∧ w = w' := by
  have H := Lib.hid h0
  clear h0
  go_enter Try.func34, Try.ntmps34
  go_wp2_with (go_at_call 33; refine (named_no _ _ H.out).mono ?_; rintro e w' ⟨rfl, rfl⟩)
  go_ret
  exact ⟨rfl, rfl⟩

set_option maxHeartbeats 400000 in
theorem new_any (w : World) :
    Calls Try.prog 11 #[] w fun e w' => e = .returned (.pointer (some ⟨w.heap.size + 1, 0, none⟩)) ∧ (w.alloc (.map #[] 0)).alloc (.cells #[.slice none 0 0, .slice none 0 0, .slice none 0 0, .slice none 0 0, .slice none 0 0, .slice none 0 0, .map (some w.heap.size)] 64) = w' := by
  have hmm := @run_makeMap Try.prog
  go_enter Try.func11, Try.ntmps11
  go_wp2
  go_ret
  exact ⟨rfl, rfl⟩

theorem Try.info9 : (Try.prog.info? 9).map (fun i => (i.zero, i.size, i.bytes)) = some (some (.string ⟨#[]⟩), 1, 16) := by kernel_rfl

set_option maxHeartbeats 400000 in
theorem number_raw (B m : Nat) (kind : Int) (s : ByteArray) (v : Value) (w : World) (hc : w.cell? ⟨B, 6, none⟩ = some (.map (some m)))
    (hl : (Instr.lookup 60 (.map (some m)) (.agg #[.int .i64 kind, .string s]) false).run Try.prog w = .ok v w) :
    Calls Try.prog 30 #[.pointer (some ⟨B, 0, none⟩), .int .i64 kind, .string s] w fun e w' => e = .returned v ∧ w = w' := by
  go_enter Try.func30, Try.ntmps30
  go_wp2
  go_ret
  exact ⟨rfl, rfl⟩

/-- what add leaves -/
def Added (B m k n : Nat) (xs : List Value) (s : ByteArray) (es : List (Value × Value)) (v : Value) (w : World) (e : Ending) (w' : World) : Prop :=
  ∃ g cap w1 ob, e = .returned (.int .i64 (n + 1)) ∧ w1.ownsRow 0 9 1 (.slice (some ⟨g, 0, none⟩) (n + 1) cap) (n + 1) (xs ++ [.string s]) ∧ w.grownBy w1 v.ownBlock ∧
    (v.ownBlock = some g ∨ w.heap.size ≤ g) ∧ w' = setObjAt (w1.setCell ⟨B, k, none⟩ (.slice (some ⟨g, 0, none⟩) (n + 1) cap)) m ob ∧
    MapIs Try.prog 72 w' m (es ++ [(.agg #[.int .i64 k, .string s], .int .i64 (n + 1))])

theorem old_block {w w1 : World} {o : Obj} {row : Option Nat} (hg : ((w.alloc o).drew).grownBy w1 row) {j : Nat} (hj : j < w.heap.size) (hne : some j ≠ row) : w1.heap[j]? = w.heap[j]? :=
  (hg.block j (by show j < (w.alloc o).heap.size; simp; omega) hne).trans (heap_alloc_old w o hj)

theorem _root_.Go.World.grownBy.of_alloc_drew {w w1 : World} {o : Obj} {row : Option Nat} (hg : ((w.alloc o).drew).grownBy w1 row) : w.grownBy w1 row :=
  ⟨hg.os, hg.tape, hg.output, Nat.le_trans (by show _ ≤ (w.alloc o).heap.size; simp) hg.size, fun _ hk hne => old_block hg hk hne⟩

theorem cell_of_same {w w1 : World} {a : Addr} (h : w1.heap[a.block]? = w.heap[a.block]?) : w1.cell? a = w.cell? a := by simp [World.cell?, h]
theorem frozen_of_same {w w1 : World} {a : Addr} (h : w1.heap[a.block]? = w.heap[a.block]?) : w1.frozen? a = w.frozen? a := by simp [World.frozen?, h]

set_option maxHeartbeats 1000000 in
theorem add_raw (B m k n : Nat) (s : ByteArray) (v : Value) (xs : List Value) (es : List (Value × Value)) (w : World) (h0 : 1 ≤ k) (h1 : k ≤ 5) (hn : n < 4000) (hs : s.size ≤ maxLen)
    (hB : B < w.heap.size)
    (hc : w.cell? ⟨B, k, none⟩ = some v) (hf : w.frozen? ⟨B, k, none⟩ = false) (hcm : w.cell? ⟨B, 6, none⟩ = some (.map (some m)))
    (hown : w.ownsRow 0 9 1 v n xs) (hvB : v.ownBlock ≠ some B) (hvm : v.ownBlock ≠ some m) (hBm : B ≠ m)
    (hm : MapIs Try.prog 72 w m es) (hne : ∀ p ∈ es, p.1 ≠ .agg #[.int .i64 k, .string s]) :
    Calls Try.prog 35 #[.pointer (some ⟨B, 0, none⟩), .int .i64 k, .string s] w (Added B m k n xs s es v w) := by
  obtain ⟨i0, hi, hz0, hz1, hz2⟩ := info_parts Try.info9
  have hsl : ∃ ao c, v = .slice ao n c := by
    rcases hown.2 with ⟨rfl, rfl⟩ | ⟨g, cap, cur, rfl, _⟩
    · exact ⟨_, _, rfl⟩
    · exact ⟨_, _, rfl⟩
  obtain ⟨ao, c, rfl⟩ := hsl
  obtain ⟨kl, hkl⟩ := key72 k s (WalkArith.wf_i64 ⟨by omega, by omega⟩) hs
  have H := Lib.hid hown
  have HvB := Lib.hid hvB
  have Hvm := Lib.hid hvm
  have Hne := Lib.hid hne
  clear hown hvB hvm hne
  go_enter Try.func35, Try.ntmps35
  go_wp2
  have hk6 : (k : Int) < 6 := by omega
  have hk0 : 0 ≤ (k : Int) := by omega
  go_region_law (refine step_append_lies _ rfl (.tmp 15) (.tmp 17) 30 rfl 0 9 i0 (.string ⟨#[]⟩) 1 16 Try.underlying30 hi hz0 hz1 hz2 rfl (by decide) (.slice ao n c) n xs rfl (H.out.drew.kept (World.grownBy_alloc _ _ none) (by cases ao <;> simp [Value.ownBlock])) ⟨w.heap.size, 0, none⟩ 1 1 [.string s] rfl rfl (by intro j u hu; match j, hu with | 0, hu => simp at hu; subst hu; simp [Addr.add]) (by intro u hu; simp at hu; subst hu; rfl) (by decide) (by unfold maxLen; omega) (by omega) (by omega) _ rfl ?_; intro g cap w1 hown1 hgrow hat hlt; have hbB := old_block hgrow hB (fun h => HvB.out h.symm); have hc1 := (cell_of_same (a := ⟨B, k, none⟩) hbB).trans hc; have hc2 := (cell_of_same (a := ⟨B, 6, none⟩) hbB).trans hcm; have hf1 := (frozen_of_same (a := ⟨B, k, none⟩) hbB).trans hf; have Hg := Lib.hid hgrow; have Ho := Lib.hid hown1; have Ha := Lib.hid hat; have Hb := Lib.hid hbB; clear hgrow hown1 hat hbB)
  all_goals
    have hmw : MapIs Try.prog 72 (w1.setCell ⟨B, k, none⟩ (.slice (some ⟨g, 0, none⟩) (n + 1) cap)) m es :=
      hm.same ((Below.heap_setCell _ _ _ _ (by simpa using hBm.symm)).trans (old_block Hg.out hm.lt (fun h => Hvm.out h.symm)))
    have hko : (⟨B, 6, none⟩ : Addr) ≠ ⟨B, k, none⟩ := by simp <;> omega
    have Hm := Lib.hid hmw
    clear hmw hm
    go_wp2_with (at_mapUpdate; refine wpList_put_new _ rfl _ _ _ 60 rfl 3 Try.law72 Try.underlying60 m es (.agg #[.int .i64 k, .string s]) (.int .i64 (n + 1)) kl rfl rfl rfl Hm.out hkl Hne.out ?_; intro ob hmap; have HM := Lib.hid hmap; clear hmap)
    go_ret
    refine ⟨g, cap, w1, ob, rfl, Ho.out, ?_, ?_, rfl, HM.out⟩
    · exact Hg.out.of_alloc_drew
    · rcases Ha.out with h | h
      · exact .inl h
      · right; rw [h]; show _ ≤ (w.alloc _).heap.size; simp
end Go.Proofs.Ytcpgfcpmjalacaa
