/- What laying two lists of words one behind the other does, and taking two sets together. -/
import Derived.Test.YtdapklamemalgaaMayS
import Derived.Shelf.Spec.SlicesGrow
namespace Go.Proofs.Ytdapklamemalgaa
set_option linter.unusedVariables false
set_option linter.unusedSimpArgs false
open Go.RowKit Go.ChangeShapes Go.WideShapes

theorem grow_any (n : Nat) (w : World) (h0 : 0 < n) (h1 : n ≤ 200000) :
    Calls Try.prog 56 #[.slice none 0 0, .int .i64 n] w (WordsPost w []) := by
  obtain ⟨i, hi, hz, hsz, hby⟩ := Try.slice23.info
  have hcon := Any8.slices_Grow_grow (P := Try.prog) (ρ := Try.growL_ren) Try.growL i (.string ⟨#[]⟩) hi hz (by omega) none 0 0 n [] w (Nat.le_refl _) (by omega) (by rw [hby]; omega) (by omega) (by simp) (fun _ => rfl) (fun a ha => by cases ha)
  refine hcon.mono ?_
  rintro e w' ⟨rfl, rfl⟩
  have hge := grownCap_ge w (0 + n) 0 (Try.growL_ren.t 25)
  have hle := grownCap_le_maxLen w (0 + n) 0 (Try.growL_ren.t 25) (by unfold maxLen; omega)
  refine ⟨_, rfl, ⟨by simp [wcells], .inr ⟨w.heap.size, _, _, rfl, Nat.le_refl _, heap_alloc_new w.drew _, Nat.zero_le _, hle, ?_, by simp [wcells]⟩⟩, (Fr.of_drew _ _).trans (Fr.of_alloc _ _ _)⟩
  simp only [Array.size_append, size_zeroCells]
  have : (Value.string ⟨#[]⟩).cells.size = 1 := rfl
  rw [this]
  simp
  rw [Nat.zero_add] at hge
  omega
/-- a row that has words, on the way -/
def JoinPart (w wr : World) (l : List ByteArray) (v : Value) : Prop := wr.ownsRow w.heap.size 36 1 v l.length (wcells l) ∧ Kept w wr
theorem JoinPart.step {w wr w1 : World} {l m : List ByteArray} {v v1 : Value} (h : JoinPart w wr l v)
    (hp : AppPost wr w.heap.size 36 1 v (l.length + (wcells m).length) (wcells l ++ wcells m) v1 w1) : JoinPart w w1 (l ++ m) v1 := by
  have hv : ∀ g, v.ownBlock = some g → w.heap.size ≤ g := by
    intro g hg
    rcases h.1.2 with ⟨rfl, _⟩ | ⟨g', cap, cur, rfl, hb, _⟩
    · simp [Value.ownBlock] at hg
    · simp [Value.ownBlock] at hg; omega
  have hk := hp.kept h.2 hv
  refine ⟨?_, hk.1⟩
  have := hp.1
  rw [wcells_len] at this
  rw [List.length_append, wcells_append]
  exact this
set_option maxHeartbeats 1000000 in
theorem concat_any {w : World} {G : Nat → Prop} {g : Nat} {va vb : Value} {a b : List ByteArray} (hg : w.heap[g]? = some (.cells #[va, vb] 23 (0, 0))) (ha : Reads w G va (wcells a)) (hb : Reads w G vb (wcells b))
    (hla : a.length ≤ 100000) (hlb : b.length ≤ 100000) (h0 : 0 < a.length + b.length) :
    Calls Try.prog 41 #[.slice (some ⟨g, 0, none⟩) 2 2] w (WordsPost w (a ++ b)) := by
  have HA := Lib.hid ha
  have HB := Lib.hid hb
  obtain ⟨ao, ca, rfl, _, _⟩ := ha
  obtain ⟨bo, cb, rfl, _, _⟩ := hb
  rw [wcells_len] at HA HB
  simp only [wcells_len] at hg
  have c0 : w.cell? ⟨g, 0, none⟩ = some (.slice ao a.length ca) := by rw [cell_whole hg]; rfl
  have c1 : w.cell? ⟨g, 1, none⟩ = some (.slice bo b.length cb) := by rw [cell_whole hg]; rfl
  clear hg
  generalize hna : a.length = na at HA hla h0 c0 ⊢
  generalize hnb : b.length = nb at HB hlb h0 c1 ⊢
  have HNA := Lib.hid hna
  have HNB := Lib.hid hnb
  have HC0 := Lib.hid c0
  have HC1 := Lib.hid c1
  clear hna hnb
  go_enter Try.func41, Try.ntmps41
  go_wp2
  go_loop [3, 11] (fun s i => ∃ k t : Nat, s = .int .i64 t ∧ i = .int .i64 k ∧ ((k = 0 ∧ t = 0) ∨ (k = 1 ∧ t = na) ∨ (k = 2 ∧ t = na + nb))) (fun _ i => 2 - (intOf i).toNat)
  case atStart => exact ⟨0, 0, rfl, rfl, .inl ⟨rfl, rfl⟩⟩
  case round =>
    obtain ⟨k, t, rfl, rfl, hh⟩ := hrel
    rcases hh with ⟨rfl, rfl⟩ | ⟨rfl, rfl⟩ | ⟨rfl, rfl⟩
    · have e1 : ¬ (na : Int) < 0 := by omega
      go_wp2
      go_round
      case rel => exact ⟨1, na, by go_num, by go_num, .inr (.inl ⟨rfl, rfl⟩)⟩
      case measure => simp [intOf]
    · have e1 : ¬ (t : Int) + (nb : Int) < 0 := by omega
      go_wp2
      go_round
      case rel => exact ⟨2, t + nb, by go_num, by go_num, .inr (.inr ⟨rfl, rfl⟩)⟩
      case measure => simp [intOf]
    · clear c0 c1
      have HG : Hid (∀ W, Calls Try.prog 56 #[.slice none 0 0, .int .i64 ((na : Int) + (nb : Int))] W (WordsPost W [])) := Lib.hid (fun W => by
        have := grow_any (na + nb) W h0 (by omega)
        rwa [Int.natCast_add] at this)
      go_wp2_with fail
      refine (HG.out _).mono ?_
      rintro e w1 ⟨v1, rfl, ho1, hk1⟩
      have H1 : Hid (JoinPart w w1 [] v1) := Lib.hid ⟨ho1, hk1⟩
      clear ho1 hk1 HG
      go_wp2
      go_loopw [6, 27] (fun v i wr => ∃ k : Nat, i = .int .i64 k ∧ ((k = 0 ∧ Hid (JoinPart w wr [] v)) ∨ (k = 1 ∧ Hid (JoinPart w wr a v)) ∨ (k = 2 ∧ Hid (JoinPart w wr (a ++ b) v)))) (fun _ i _ => 2 - (intOf i).toNat)
      case atStart => exact ⟨0, rfl, .inl ⟨rfl, H1⟩⟩
      case round =>
        obtain ⟨k, rfl, hh⟩ := hrel
        clear H1
        rcases hh with ⟨rfl, hp⟩ | ⟨rfl, hp⟩ | ⟨rfl, hp⟩
        · have c0 := hp.out.2.cell HC0.out (fun x => x)
          have hr := Lib.hid (HA.out.new hp.out.2)
          go_wp2_with (at_builtin; refine list_app rfl (.tmp 31) (.tmp 32) 23 23 rfl Try.slice23 rfl (by exact hp.out.1) rfl (by exact hr.out.src Try.underlying23 one_str) (by rw [wcells_len, HNA.out]; unfold maxLen; simp only [List.length_nil]; omega) (by rw [wcells_len, HNA.out]; simp only [List.length_nil]; omega) (by exact hp.out.2.size) ?_; intro v2 w2 hp1; have Hp1 := Lib.hid (hp.out.step hp1); clear hp1)
          go_roundw
          case rel => exact ⟨1, by go_num, .inr (.inl ⟨rfl, Hp1⟩)⟩
          case measure => simp [intOf]
        · have c1 := hp.out.2.cell HC1.out (fun x => x)
          have hr := Lib.hid (HB.out.new hp.out.2)
          go_wp2_with (at_builtin; refine list_app rfl (.tmp 31) (.tmp 32) 23 23 rfl Try.slice23 rfl (by exact hp.out.1) rfl (by exact hr.out.src Try.underlying23 one_str) (by rw [wcells_len, HNA.out, HNB.out]; unfold maxLen; omega) (by rw [wcells_len, HNA.out, HNB.out]; omega) (by exact hp.out.2.size) ?_; intro v2 w2 hp1; have Hp1 := Lib.hid (hp.out.step hp1); clear hp1)
          go_roundw
          case rel => exact ⟨2, by go_num, .inr (.inr ⟨rfl, Hp1⟩)⟩
          case measure => simp [intOf]
        · go_wp2
          go_ret
          exact ⟨_, rfl, hp.out.1, hp.out.2⟩
end Go.Proofs.Ytdapklamemalgaa
