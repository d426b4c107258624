/- Contracts and lemmas: Aw -/
import Derived.Test.YtbfealhbdemhmaaGreatDoorTb
namespace Go.Proofs.YtbfealhbdemhmaaGreatDoor
set_option linter.unusedVariables false
set_option linter.unusedSimpArgs false
open Go.RowKit Go.ChangeShapes Go.WideShapes
set_option maxRecDepth 20000
theorem awn_all1 : allS [97, 32, 102, 111, 114, 32, 98, 32, 97, 110, 100, 32, 97] = .ok [(⟨1, [97], 3⟩, 0), (⟨3, [], 0⟩, 2), (⟨1, [98], 3⟩, 6), (⟨2, [], 0⟩, 8), (⟨1, [97], 3⟩, 12)] := by
  unfold allS
  rw [if_neg (by decide)]
  exact run_ok (nt' := false) (⟨[], [32, 102, 111, 114, 32, 98, 32, 97, 110, 100, 32, 97], by decide, rfl, rfl, by decide, (by first | (intro _; decide) | (intro h; exact absurd h (by decide))), ⟨[32], [32, 98, 32, 97, 110, 100, 32, 97], by decide, rfl, rfl, by decide, (by first | (intro _; decide) | (intro h; exact absurd h (by decide))), ⟨[32], [32, 97, 110, 100, 32, 97], by decide, rfl, rfl, by decide, (by first | (intro _; decide) | (intro h; exact absurd h (by decide))), ⟨[32], [32, 97], by decide, rfl, rfl, by decide, (by first | (intro _; decide) | (intro h; exact absurd h (by decide))), ⟨[32], [], by decide, rfl, rfl, by decide, (by first | (intro _; decide) | (intro h; exact absurd h (by decide))), rfl⟩⟩⟩⟩⟩) (by decide)
theorem awn_all2 : allS [97, 32, 97, 115, 32, 114, 111, 108, 101, 58, 114, 124, 98] = .ok [(⟨1, [97], 3⟩, 0), (⟨5, [], 0⟩, 2), (⟨1, [114], 5⟩, 5), (⟨4, [], 0⟩, 11), (⟨1, [98], 3⟩, 12)] := by
  unfold allS
  rw [if_neg (by decide)]
  exact run_ok (nt' := false) (⟨[], [32, 97, 115, 32, 114, 111, 108, 101, 58, 114, 124, 98], by decide, rfl, rfl, by decide, (by first | (intro _; decide) | (intro h; exact absurd h (by decide))), ⟨[32], [32, 114, 111, 108, 101, 58, 114, 124, 98], by decide, rfl, rfl, by decide, (by first | (intro _; decide) | (intro h; exact absurd h (by decide))), ⟨[32], [124, 98], by decide, rfl, rfl, by decide, (by first | (intro _; decide) | (intro h; exact absurd h (by decide))), ⟨[], [98], by decide, rfl, rfl, by decide, (by first | (intro _; decide) | (intro h; exact absurd h (by decide))), ⟨[], [], by decide, rfl, rfl, by decide, (by first | (intro _; decide) | (intro h; exact absurd h (by decide))), rfl⟩⟩⟩⟩⟩) (by decide)
theorem awn_all3 : allS [97, 32, 97, 110, 100] = .ok [(⟨1, [97], 3⟩, 0), (⟨2, [], 0⟩, 2)] := by
  unfold allS
  rw [if_neg (by decide)]
  exact run_ok (nt' := false) (⟨[], [32, 97, 110, 100], by decide, rfl, rfl, by decide, (by first | (intro _; decide) | (intro h; exact absurd h (by decide))), ⟨[32], [], by decide, rfl, rfl, by decide, (by first | (intro _; decide) | (intro h; exact absurd h (by decide))), rfl⟩⟩) (by decide)
def awnP1 : PT := .bin 2 (.bin 3 (.atom ⟨1, [97], 3⟩) (.atom ⟨1, [98], 3⟩)) (.atom ⟨1, [97], 3⟩)
def awnP2 : PT := .bin 4 (.bin 5 (.atom ⟨1, [97], 3⟩) (.atom ⟨1, [114], 5⟩)) (.atom ⟨1, [98], 3⟩)
theorem awnP1_ok : awnP1.Ok := ⟨by decide, by decide, by decide, ⟨by decide, by decide, by decide, ⟨rfl, by decide⟩, ⟨rfl, by decide⟩, fun h => absurd h (by decide)⟩, ⟨rfl, by decide⟩, fun h => absurd h (by decide)⟩
theorem awnP2_ok : awnP2.Ok := ⟨by decide, by decide, by decide, ⟨by decide, by decide, by decide, ⟨rfl, by decide⟩, ⟨rfl, by decide⟩, fun _ => ⟨_, rfl, rfl⟩⟩, ⟨rfl, by decide⟩, fun h => absurd h (by decide)⟩
theorem awn_parse1 : ParseIs [97, 32, 102, 111, 114, 32, 98, 32, 97, 110, 100, 32, 97] awnP1.ex.post 0 0 := parse_tree (t := awnP1) awn_all1 rfl awnP1_ok (by decide) (by decide)
theorem awn_parse2 : ParseIs [97, 32, 97, 115, 32, 114, 111, 108, 101, 58, 114, 124, 98] awnP2.ex.post 0 0 := parse_tree (t := awnP2) awn_all2 rfl awnP2_ok (by decide) (by decide)
theorem awn_parse3 : ParseIs [97, 32, 97, 110, 100] [] 5 2 := .inr ⟨_, 2, awn_all3, .inr (.inl ⟨by decide, by decide, rfl⟩), rfl⟩
/-- the table that awake looks at -/
def awnSrc : Nat → List ByteArray := fun k => if k = 1 then [⟨#[107]⟩] else if k = 3 then [⟨#[97]⟩, ⟨#[98]⟩] else if k = 5 then [⟨#[114]⟩] else []
def awnL : Nat → List ByteArray := (Atm.loadS awnSrc).2
theorem awn_load : (Atm.loadS awnSrc).1 = 0 := by decide +kernel
/-- what the texts mean -/
def awnS1 : List ByteArray := match evalE awnL awnP1.ex with | .ok s => s | .error _ => []
def awnS2 : List ByteArray := match evalE awnL awnP2.ex with | .ok s => s | .error _ => []
theorem awn_eval1 : evalE awnL awnP1.ex = .ok awnS1 := by
  have h : (match evalE awnL awnP1.ex with | .ok _ => true | .error _ => false) = true := by decide +kernel
  unfold awnS1
  cases he : evalE awnL awnP1.ex with
  | ok s => rfl
  | error y => rw [he] at h; cases h
theorem awn_eval2 : evalE awnL awnP2.ex = .ok awnS2 := by
  have h : (match evalE awnL awnP2.ex with | .ok _ => true | .error _ => false) = true := by decide +kernel
  unfold awnS2
  cases he : evalE awnL awnP2.ex with
  | ok s => rfl
  | error y => rw [he] at h; cases h
theorem awn_len1 : awnS1.length = 3 := by decide +kernel
theorem awn_len2 : awnS2.length = 1 := by decide +kernel
theorem awn_show1 : showL awnL awnS1 = ([97, 32, 97, 110, 100, 32, 68, 32, 124, 32, 98, 32, 97, 110, 100, 32, 97, 32, 124, 32, 98], 0) := by decide +kernel
theorem awn_show2 : showL awnL awnS2 = ([97, 32, 97, 115, 32, 114, 111, 108, 101, 58, 114, 32, 124, 32, 98], 0) := by decide +kernel
theorem awn_may1 : MayIs awnP1.ex.post awnP1.ex := ⟨PT.ex_ok awnP1_ok, rfl, by decide⟩
theorem awn_may2 : MayIs awnP2.ex.post awnP2.ex := ⟨PT.ex_ok awnP2_ok, rfl, by decide⟩
theorem awn_read1 : Read6 awnL [97, 32, 102, 111, 114, 32, 98, 32, 97, 110, 100, 32, 97] (awnS1, 0, 0) := ⟨_, 0, 0, awn_parse1, .inr ⟨rfl, _, .inl ⟨_, awn_may1, rfl⟩, by rw [awn_eval1]⟩⟩
theorem awn_read2 : Read6 awnL [97, 32, 97, 115, 32, 114, 111, 108, 101, 58, 114, 124, 98] (awnS2, 0, 0) := ⟨_, 0, 0, awn_parse2, .inr ⟨rfl, _, .inl ⟨_, awn_may2, rfl⟩, by rw [awn_eval2]⟩⟩
theorem awn_read3 : Read6 awnL [97, 32, 97, 110, 100] ([], 5, 2) := ⟨_, _, _, awn_parse3, .inl ⟨by decide, rfl⟩⟩
/-- the expression whose second name the table hasn't got -/
def awnP3 : PT := .bin 2 (.atom ⟨1, [97], 3⟩) (.atom ⟨1, [122], 3⟩)
def awnE : Ex := awnP3.ex
theorem awnP3_ok : awnP3.Ok := ⟨by decide, by decide, by decide, ⟨rfl, by decide⟩, ⟨rfl, by decide⟩, fun h => absurd h (by decide)⟩
theorem awn_run : RunIs awnL [⟨1, [97], 3⟩, ⟨1, [122], 3⟩, ⟨2, [], 0⟩] ([], 1, 10) := .inl ⟨awnE, ⟨PT.ex_ok awnP3_ok, rfl, by decide⟩, by
  have h : evalE awnL awnE = .error (1, 10) := by
    have h1 : (match evalE awnL awnE with | .ok _ => false | .error p => decide (p = (1, 10))) = true := by decide +kernel
    cases he : evalE awnL awnE with
    | ok s => rw [he] at h1; cases h1
    | error y => rw [he] at h1; simpa using h1
  rw [h]⟩

open Go.RowKit Go.ChangeShapes Go.WideShapes
set_option maxRecDepth 20000
abbrev aw6W (w : World) : World := ((((((w.alloc (.cells #[] 9)).alloc (.cells #[.string ⟨#[107]⟩] 9)).alloc (.cells #[] 9)).alloc (.cells #[.string ⟨#[97]⟩, .string ⟨#[98]⟩] 9)).alloc (.cells #[] 9)).alloc (.cells #[.string ⟨#[114]⟩] 9))
theorem aw6_h1 (w : World) : (aw6W w).heap[w.heap.size + 1]? = some (.cells #[.string ⟨#[107]⟩] 9 (0, 0)) := by
  have h := heap_alloc_new (w.alloc (.cells #[] 9)) (.cells #[.string ⟨#[107]⟩] 9)
  simp only [World.size_alloc] at h
  rw [heap_alloc_old _ _ (by simp only [World.size_alloc]; omega)]
  rw [heap_alloc_old _ _ (by simp only [World.size_alloc]; omega)]
  rw [heap_alloc_old _ _ (by simp only [World.size_alloc]; omega)]
  rw [heap_alloc_old _ _ (by simp only [World.size_alloc]; omega)]
  exact h
theorem aw6_h3 (w : World) : (aw6W w).heap[w.heap.size + 3]? = some (.cells #[.string ⟨#[97]⟩, .string ⟨#[98]⟩] 9 (0, 0)) := by
  have h := heap_alloc_new (((w.alloc (.cells #[] 9)).alloc (.cells #[.string ⟨#[107]⟩] 9)).alloc (.cells #[] 9)) (.cells #[.string ⟨#[97]⟩, .string ⟨#[98]⟩] 9)
  simp only [World.size_alloc] at h
  rw [heap_alloc_old _ _ (by simp only [World.size_alloc]; omega)]
  rw [heap_alloc_old _ _ (by simp only [World.size_alloc]; omega)]
  exact h
theorem aw6_h5 (w : World) : (aw6W w).heap[w.heap.size + 5]? = some (.cells #[.string ⟨#[114]⟩] 9 (0, 0)) := by
  have h := heap_alloc_new (((((w.alloc (.cells #[] 9)).alloc (.cells #[.string ⟨#[107]⟩] 9)).alloc (.cells #[] 9)).alloc (.cells #[.string ⟨#[97]⟩, .string ⟨#[98]⟩] 9)).alloc (.cells #[] 9)) (.cells #[.string ⟨#[114]⟩] 9)
  simp only [World.size_alloc] at h
  exact h
theorem aw6_reads (w : World) : ∀ k, k < 6 → Atm.Reads (aw6W w) (fun _ => True) (Atm.six (.slice (some ⟨w.heap.size, 0, none⟩) 0 0) (.slice (some ⟨w.heap.size + 1, 0, none⟩) 1 1) (.slice (some ⟨w.heap.size + 2, 0, none⟩) 0 0) (.slice (some ⟨w.heap.size + 3, 0, none⟩) 2 2) (.slice (some ⟨w.heap.size + 4, 0, none⟩) 0 0) (.slice (some ⟨w.heap.size + 5, 0, none⟩) 1 1) k) (awnSrc k) := fun k hk => by
  match k, hk with
  | 0, _ => exact ⟨_, _, rfl, fun i s h => by simp [awnSrc] at h⟩
  | 1, _ => exact ⟨_, _, rfl, fun i s h => by
      have hi := (List.getElem?_eq_some_iff.1 h).1
      match i, hi with
      | 0, _ => cases h; exact ⟨_, _, rfl, trivial, by rw [Atm.cell_arr (aw6_h1 w)]; rfl⟩⟩
  | 2, _ => exact ⟨_, _, rfl, fun i s h => by simp [awnSrc] at h⟩
  | 3, _ => exact ⟨_, _, rfl, fun i s h => by
      have hi := (List.getElem?_eq_some_iff.1 h).1
      match i, hi with
      | 0, _ => cases h; exact ⟨_, _, rfl, trivial, by rw [Atm.cell_arr (aw6_h3 w)]; rfl⟩
      | 1, _ => cases h; exact ⟨_, _, rfl, trivial, by rw [Atm.cell_arr (aw6_h3 w)]; rfl⟩⟩
  | 4, _ => exact ⟨_, _, rfl, fun i s h => by simp [awnSrc] at h⟩
  | 5, _ => exact ⟨_, _, rfl, fun i s h => by
      have hi := (List.getElem?_eq_some_iff.1 h).1
      match i, hi with
      | 0, _ => cases h; exact ⟨_, _, rfl, trivial, by rw [Atm.cell_arr (aw6_h5 w)]; rfl⟩⟩
def aw6T : List TrmB := [⟨1, 3, ⟨#[97]⟩⟩, ⟨1, 3, ⟨#[122]⟩⟩, ⟨2, 0, ⟨#[]⟩⟩]
theorem aw6_terms (w : World) : ReadsX (w.alloc (.cells #[.int .i64 1, .int .i64 3, .string ⟨#[97]⟩, .int .i64 1, .int .i64 3, .string ⟨#[122]⟩, .int .i64 2, .int .i64 0, .string ⟨#[]⟩] 52)) (.slice (some ⟨w.heap.size, 0, none⟩) 3 3) aw6T :=
  ⟨_, 3, rfl, Nat.le_refl _, fun i t h => by
    have hi := (List.getElem?_eq_some_iff.1 h).1
    have hh := heap_alloc_new w (.cells #[.int .i64 1, .int .i64 3, .string ⟨#[97]⟩, .int .i64 1, .int .i64 3, .string ⟨#[122]⟩, .int .i64 2, .int .i64 0, .string ⟨#[]⟩] 52)
    match i, hi with
    | 0, _ => cases h; exact ⟨_, _, rfl, by rw [Atm.cell_arr hh]; rfl, by rw [Atm.cell_arr hh]; rfl, by rw [Atm.cell_arr hh]; rfl⟩
    | 1, _ => cases h; exact ⟨_, _, rfl, by rw [Atm.cell_arr hh]; rfl, by rw [Atm.cell_arr hh]; rfl, by rw [Atm.cell_arr hh]; rfl⟩
    | 2, _ => cases h; exact ⟨_, _, rfl, by rw [Atm.cell_arr hh]; rfl, by rw [Atm.cell_arr hh]; rfl, by rw [Atm.cell_arr hh]; rfl⟩⟩
theorem awn_mayL1 : mayL awnS1 = true := by decide +kernel
theorem awn_mayL2 : mayL awnS2 = true := by decide +kernel
/-- what the program's three functions answer in the worlds that come behind w -/
structure Norm6 (w : World) : Prop where
  read : ∀ W, Kept w W → ∀ F B L (s : ByteArray), Atm.Tab W F B L → s.size ≤ 1000000 → Calls Tryz.prog 15 #[.pointer (some ⟨B, 0, none⟩), .string s] W (Read6Post L (bs s) W)
  show6 : ∀ W, Kept w W → ∀ F B L (v : Value) (s : List ByteArray), Atm.Tab W F B L → Reads W (fun _ => True) v (wcells s) → s.length ≤ 100000 → Small 100000 s → Calls Tryz.prog 17 #[.pointer (some ⟨B, 0, none⟩), v] W (Show6Post L s W)
  run : ∀ W, Kept w W → ∀ F B L (v : Value) (l : List TrmB), Atm.Tab W F B L → ReadsX W v l → l.length ≤ 1000000 → (∀ t ∈ l, t.name.size ≤ 1000000) → Calls Tryz.prog 12 #[.pointer (some ⟨B, 0, none⟩), v] W (RunPost L (l.map TrmB.tok) W)
  none6 : ∀ W, Kept w W → ∀ (s : ByteArray), s.size ≤ 1000000 → Calls Tryz.prog 15 #[.pointer none, .string s] W fun e w' => ∃ v n, e = .returned (.tuple #[v, n, .int .i64 2]) ∧ Kept W w'
theorem Norm6.later {w w' : World} (h : Norm6 w) (hk : Kept w w') : Norm6 w' :=
  ⟨fun W hW => h.read W (hk.trans hW), fun W hW => h.show6 W (hk.trans hW), fun W hW => h.run W (hk.trans hW), fun W hW => h.none6 W (hk.trans hW)⟩
set_option maxHeartbeats 8000000 in
theorem kawake6_any (w : World) (hN : Norm6 w) : Calls Tryz.prog 9 #[] w (KeptPost (.bool true) w) := by
  have HLD := Lib.hid (Atm.load_any _ awnSrc (aw6_reads w) (fun k hk => by match k, hk with | 0, _ => decide | 1, _ => decide | 2, _ => decide | 3, _ => decide | 4, _ => decide | 5, _ => decide) (fun k hk => by match k, hk with | 0, _ => decide | 1, _ => decide | 2, _ => decide | 3, _ => decide | 4, _ => decide | 5, _ => decide))
  have HK0 : Hid (Kept w (aw6W w)) := Lib.hid ((Fr.of_alloc _ _ _).trans ((Fr.of_alloc _ _ _).trans ((Fr.of_alloc _ _ _).trans ((Fr.of_alloc _ _ _).trans ((Fr.of_alloc _ _ _).trans (Fr.of_alloc _ _ _))))))
  have HN := Lib.hid hN
  clear hN
  have ew1 : (wcells awnS1).length = 3 := by rw [wcells_len]; exact awn_len1
  have ew2 : (wcells awnS2).length = 1 := by rw [wcells_len]; exact awn_len2
  have EW1 := Lib.hid ew1
  have EW2 := Lib.hid ew2
  clear ew1 ew2
  go_enter Tryz.func9, Tryz.ntmps9
  go_wp2_with fail
  refine (HLD.out).mono ?_
  rintro e w1 ⟨hf1, hp1⟩
  have HK1 := Lib.hid (HK0.out.trans (atm_to hf1))
  obtain ⟨B, F, rfl, HT⟩ : ∃ B F, e = .returned (.tuple #[.pointer (some ⟨B, 0, none⟩), .int .i64 0]) ∧ Hid (Atm.Tab w1 F B awnL) := by
    rcases hp1 with ⟨_, B, F, he, ht, _⟩ | ⟨h0, _⟩
    · exact ⟨B, F, he, Lib.hid ht⟩
    · exact absurd awn_load h0
  clear hf1 hp1 HLD HK0
  have HRA : Hid (∀ W, Kept w1 W → ∀ s : ByteArray, s.size ≤ 1000000 → ∀ x n q, Read6 awnL (bs s) (x, n, q) → Calls Tryz.prog 15 #[.pointer (some ⟨B, 0, none⟩), .string s] W fun e w' => ∃ v, e = .returned (.tuple #[v, .int .i64 n, .int .i64 q]) ∧ Reads w' (fun _ => True) v (wcells x) ∧ Kept W w') :=
    Lib.hid (fun W hW s hs x n q hr => (HN.out.read W (HK1.out.trans hW) F B awnL s (HT.out.later hW) hs).mono (fun e w' h => by
      obtain ⟨v, x', n', q', he, hr', hrd, hk⟩ := h
      have hu := hr'.unique hr
      simp only [Prod.mk.injEq] at hu
      obtain ⟨rfl, rfl, rfl⟩ := hu
      exact ⟨v, he, hrd, hk⟩))
  have HSH : Hid (∀ W, Kept w1 W → ∀ v s x q, showL awnL s = (x, q) → Reads W (fun _ => True) v (wcells s) → s.length ≤ 100000 → Small 100000 s → Calls Tryz.prog 17 #[.pointer (some ⟨B, 0, none⟩), v] W (KeptPost (.tuple #[.string (strOf x), .int .i64 q]) W)) :=
    Lib.hid (fun W hW v s x q hx hr hl hs => (HN.out.show6 W (HK1.out.trans hW) F B awnL v s (HT.out.later hW) hr hl hs).mono (fun e w' h => by
      obtain ⟨he, hk⟩ := h
      rw [hx] at he
      exact ⟨he, hk⟩))
  have HR1 := Lib.hid (fun W hW => HRA.out W hW ⟨#[97, 32, 102, 111, 114, 32, 98, 32, 97, 110, 100, 32, 97]⟩ (by decide) _ _ _ awn_read1)
  have HR2 := Lib.hid (fun W hW => HRA.out W hW ⟨#[97, 32, 97, 115, 32, 114, 111, 108, 101, 58, 114, 124, 98]⟩ (by decide) _ _ _ awn_read2)
  have HR3 := Lib.hid (fun W hW => HRA.out W hW ⟨#[97, 32, 97, 110, 100]⟩ (by decide) _ _ _ awn_read3)
  have HS1 : Hid (∀ W, Kept w1 W → ∀ v, Reads W (fun _ => True) v (wcells awnS1) → Calls Tryz.prog 17 #[.pointer (some ⟨B, 0, none⟩), v] W (KeptPost (.tuple #[.string ⟨#[97, 32, 97, 110, 100, 32, 68, 32, 124, 32, 98, 32, 97, 110, 100, 32, 97, 32, 124, 32, 98]⟩, .int .i64 0]) W)) := Lib.hid (fun W hW v hr => HSH.out W hW v awnS1 _ _ awn_show1 hr (may_bounds awn_mayL1).1 (may_bounds awn_mayL1).2)
  have HS2 : Hid (∀ W, Kept w1 W → ∀ v, Reads W (fun _ => True) v (wcells awnS2) → Calls Tryz.prog 17 #[.pointer (some ⟨B, 0, none⟩), v] W (KeptPost (.tuple #[.string ⟨#[97, 32, 97, 115, 32, 114, 111, 108, 101, 58, 114, 32, 124, 32, 98]⟩, .int .i64 0]) W)) := Lib.hid (fun W hW v hr => HSH.out W hW v awnS2 _ _ awn_show2 hr (may_bounds awn_mayL2).1 (may_bounds awn_mayL2).2)
  have HRU : Hid (∀ W, Kept w1 W → ∀ v, ReadsX W v aw6T → Calls Tryz.prog 12 #[.pointer (some ⟨B, 0, none⟩), v] W fun e w' => ∃ v, e = .returned (.tuple #[v, .int .i64 1, .int .i64 10]) ∧ Kept W w') :=
    Lib.hid (fun W hW v hr => (HN.out.run W (HK1.out.trans hW) F B awnL v aw6T (HT.out.later hW) hr (by decide) (by decide)).mono (fun e w' h => by
      obtain ⟨v, x, n, q, he, hr', _, hk⟩ := h
      have hu := hr'.unique awn_run
      simp only [Prod.mk.injEq] at hu
      obtain ⟨rfl, rfl, rfl⟩ := hu
      exact ⟨v, he, hk⟩))
  have HNO := Lib.hid (fun W (hW : Kept w1 W) => HN.out.none6 W (HK1.out.trans hW) ⟨#[97]⟩ (by decide))
  clear HRA HSH HT HN
  go_wp2_with fail
  refine (HR1.out _ (Fr.refl _ _)).mono ?_
  rintro e w2 ⟨v1, rfl, hr1, hk2⟩
  have HK2 := Lib.hid hk2
  have HV1 := Lib.hid hr1
  obtain ⟨a1, c1, rfl, _⟩ := hr1
  rw [EW1.out] at *
  clear hk2
  go_wp2_with fail
  refine (HS1.out _ HK2.out _ HV1.out).mono ?_
  rintro e w3 ⟨rfl, hk3⟩
  have HK3 := Lib.hid (HK2.out.trans hk3)
  clear hk3
  go_wp2_with fail
  refine (HR2.out _ HK3.out).mono ?_
  rintro e w4 ⟨v2, rfl, hr2, hk4⟩
  have HK4 := Lib.hid (HK3.out.trans hk4)
  have HV2 := Lib.hid hr2
  obtain ⟨a2, c2, rfl, _⟩ := hr2
  rw [EW2.out] at *
  clear hk4
  go_wp2_with fail
  refine (HS2.out _ HK4.out _ HV2.out).mono ?_
  rintro e w5 ⟨rfl, hk5⟩
  have HK5 := Lib.hid (HK4.out.trans hk5)
  clear hk5
  go_wp2_with fail
  refine (HRU.out _ (HK5.out.trans (Fr.of_alloc _ _ _)) _ (aw6_terms w5)).mono ?_
  rintro e w6 ⟨v3, rfl, hk6⟩
  have HK6 := Lib.hid ((HK5.out.trans (Fr.of_alloc _ _ _)).trans hk6)
  clear hk6
  go_wp2_with fail
  refine (HR3.out _ HK6.out).mono ?_
  rintro e w7 ⟨v4, rfl, _, hk7⟩
  have HK7 := Lib.hid (HK6.out.trans hk7)
  clear hk7
  go_wp2_with fail
  refine (HNO.out _ HK7.out).mono ?_
  rintro e w8 ⟨v5, n5, rfl, hk8⟩
  have HK8 := Lib.hid (HK1.out.trans (HK7.out.trans hk8))
  clear hk8
  go_wp2
  go_ret
  exact ⟨rfl, HK8.out⟩

end Go.Proofs.YtbfealhbdemhmaaGreatDoor
