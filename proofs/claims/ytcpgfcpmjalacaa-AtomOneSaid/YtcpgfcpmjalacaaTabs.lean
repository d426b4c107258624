/- Tables of package atom: the predicate that says which names a table has, and what each method does by it. -/
import Derived.Test.YtcpgfcpmjalacaaTab
namespace Go.Proofs.Ytcpgfcpmjalacaa
open Go.RowKit

instance decBA : DecidableEq ByteArray := fun a b => decidable_of_iff (a.data = b.data) ⟨fun h => by cases a; cases b; simp_all, fun h => by rw [h]⟩

/-- the place of a name in a row, from 1 on; 0 if it has none -/
def posOf : List ByteArray → ByteArray → Nat
  | [], _ => 0
  | x :: r, s => if x = s then 1 else match posOf r s with
    | 0 => 0
    | n + 1 => n + 2

theorem posOf_none {s : ByteArray} : ∀ {l : List ByteArray}, posOf l s = 0 ↔ s ∉ l
  | [] => by simp [posOf]
  | x :: r => by
    have ih := posOf_none (s := s) (l := r)
    unfold posOf
    split
    · rename_i h; simp [h]
    · rename_i h
      have h' : ¬ s = x := fun e => h e.symm
      split
      · rename_i h0; simp [h', ih.1 h0]
      · rename_i n h0
        have : s ∈ r := by
          by_cases hm : s ∈ r
          · exact hm
          · have := ih.2 hm; omega
        simp [this]
theorem posOf_get {s : ByteArray} : ∀ {l : List ByteArray} {n : Nat}, posOf l s = n + 1 → l[n]? = some s
  | [], n, h => by simp [posOf] at h
  | x :: r, n, h => by
    unfold posOf at h
    split at h
    · rename_i he
      obtain rfl : n = 0 := by omega
      simp [he]
    · split at h
      · omega
      · rename_i m h0
        obtain rfl : n = m + 1 := by omega
        simpa using posOf_get h0
theorem nodup_inj {α : Type} {l : List α} (hn : l.Nodup) {i j : Nat} {s : α} (h : l[i]? = some s) (h' : l[j]? = some s) : i = j := by
  obtain ⟨h1, e1⟩ := List.getElem?_eq_some_iff.1 h
  obtain ⟨h2, e2⟩ := List.getElem?_eq_some_iff.1 h'
  have hp := List.pairwise_iff_getElem.1 hn
  rcases Nat.lt_trichotomy i j with hlt | he | hlt
  · exact absurd (e1.trans e2.symm) (hp i j h1 h2 hlt)
  · exact he
  · exact absurd (e2.trans e1.symm) (hp j i h2 h1 hlt)
theorem posOf_some {l : List ByteArray} {s : ByteArray} {i : Nat} (hn : l.Nodup) (h : l[i]? = some s) : posOf l s = i + 1 := by
  have hm : s ∈ l := List.mem_of_getElem? h
  rcases hp : posOf l s with _ | n
  · exact absurd hm (posOf_none.1 hp)
  · rw [nodup_inj hn h (posOf_get hp)]
theorem posOf_le {l : List ByteArray} {s : ByteArray} : posOf l s ≤ l.length := by
  rcases hp : posOf l s with _ | n
  · omega
  · obtain ⟨h1, _⟩ := List.getElem?_eq_some_iff.1 (posOf_get hp)
    omega
theorem posOf_append {l : List ByteArray} {s : ByteArray} (h : s ∉ l) : posOf (l ++ [s]) s = l.length + 1 := by
  induction l with
  | nil => simp [posOf]
  | cons x r ih =>
    have h1 : ¬ x = s := fun e => h (by simp [e])
    have h2 := ih (fun hm => h (by simp [hm]))
    simp [posOf, h1, h2]

/-- only blocks of F, and new ones, turn -/
structure Fr (F : Nat → Prop) (w w' : World) : Prop where
  os : w'.os = w.os
  tape : w'.tape = w.tape
  output : w'.output = w.output
  size : w.heap.size ≤ w'.heap.size
  block : ∀ k, k < w.heap.size → ¬ F k → w'.heap[k]? = w.heap[k]?

theorem Fr.refl (F : Nat → Prop) (w : World) : Fr F w w := ⟨rfl, rfl, rfl, Nat.le_refl _, fun _ _ _ => rfl⟩
theorem Fr.trans {F : Nat → Prop} {a b c : World} (h : Fr F a b) (k : Fr F b c) : Fr F a c :=
  ⟨k.os.trans h.os, k.tape.trans h.tape, k.output.trans h.output, Nat.le_trans h.size k.size, fun i hi hn => (k.block i (Nat.lt_of_lt_of_le hi h.size) hn).trans (h.block i hi hn)⟩
theorem Fr.mono {F G : Nat → Prop} {a b : World} (h : Fr F a b) (hg : ∀ k, k < a.heap.size → F k → G k) : Fr G a b :=
  ⟨h.os, h.tape, h.output, h.size, fun i hi hn => h.block i hi (fun hf => hn (hg i hi hf))⟩
theorem Fr.of_grown {a b : World} {row : Option Nat} (h : a.grownBy b row) : Fr (fun k => row = some k) a b :=
  ⟨h.os, h.tape, h.output, h.size, fun i hi hn => h.block i hi (fun e => hn e.symm)⟩
theorem Fr.of_setCell (w : World) (a : Addr) (v : Value) : Fr (fun k => k = a.block) w (w.setCell a v) :=
  ⟨rfl, rfl, rfl, by simp [World.setCell], fun i _ hn => Below.heap_setCell _ _ _ _ hn⟩
theorem Fr.of_setObj (w : World) (b : Nat) (o : Obj) : Fr (fun k => k = b) w (setObjAt w b o) :=
  ⟨rfl, rfl, rfl, by simp [setObjAt], fun i _ hn => setObjAt_other hn⟩
theorem Fr.of_alloc (F : Nat → Prop) (w : World) (o : Obj) : Fr F w (w.alloc o) :=
  ⟨rfl, rfl, rfl, by simp, fun i hi _ => heap_alloc_old w o hi⟩
theorem Fr.of_drew (F : Nat → Prop) (w : World) : Fr F w w.drew := ⟨rfl, rfl, rfl, Nat.le_refl _, fun _ _ _ => rfl⟩
theorem Fr.below {F : Nat → Prop} {a b : World} {B : Nat} (h : Fr F a b) (hF : ∀ k, F k → B ≤ k) (hB : B ≤ a.heap.size) : Below B a b :=
  ⟨h.os, h.tape, h.output, h.size, fun k hk => h.block k (by omega) (fun hf => by have := hF k hf; omega)⟩

/-- what F has become: its blocks, and the new ones -/
def grown (F : Nat → Prop) (w w' : World) (k : Nat) : Prop := F k ∨ (w.heap.size ≤ k ∧ k < w'.heap.size)

/-- the table at block B has the names L, and lies in the blocks F -/
structure Tab (w : World) (F : Nat → Prop) (B : Nat) (L : Nat → List ByteArray) : Prop where
  nodup : ∀ k, (L k).Nodup
  few : ∀ k, (L k).length ≤ 4000
  good : ∀ k s, s ∈ L k → mayB s.data.toList = true
  none0 : L 0 = []
  old : ∀ b, F b → b < w.heap.size
  inB : F B
  lies : ∃ (m : Nat) (es : List (Value × Value)) (vs : Nat → Value) (arr : Array Value),
    F m ∧ B ≠ m ∧ w.heap[B]? = some (.cells arr 64 (0, 0)) ∧ arr.size = 7 ∧ (∀ k, k < 6 → arr[k]? = some (vs k)) ∧ arr[6]? = some (.map (some m)) ∧
    MapIs Try.prog 72 w m es ∧
    (∀ k, k < 6 → w.ownsRow 0 9 1 (vs k) (L k).length ((L k).map Value.string)) ∧
    (∀ k, k < 6 → ∀ g, (vs k).ownBlock = some g → F g ∧ g ≠ B ∧ g ≠ m) ∧
    (∀ j k, j < 6 → k < 6 → j ≠ k → ∀ g, (vs j).ownBlock = some g → (vs k).ownBlock ≠ some g) ∧
    (∀ p ∈ es, ∃ (k i : Nat) (s : ByteArray), 1 ≤ k ∧ k ≤ 5 ∧ (L k)[i]? = some s ∧ p = (.agg #[.int .i64 k, .string s], .int .i64 ((i : Int) + 1))) ∧
    (∀ (k i : Nat) (s : ByteArray), 1 ≤ k → k ≤ 5 → (L k)[i]? = some s → ((.agg #[.int .i64 k, .string s], .int .i64 ((i : Int) + 1)) : Value × Value) ∈ es)

theorem may_size {s : ByteArray} (h : mayB s.data.toList = true) : s.size ≤ 24 := by
  simp only [mayB, Bool.and_eq_true, decide_eq_true_eq] at h
  have := h.1.1.2
  simpa using this

theorem Tab.same {w w' : World} {F : Nat → Prop} {B : Nat} {L : Nat → List ByteArray} (h : Tab w F B L) {G : Nat → Prop} (hf : Fr G w w') (hd : ∀ k, F k → G k → False) : Tab w' F B L := by
  obtain ⟨m, es, vs, arr, hm, hBm, hb, hsz, hk, h6, hmap, hrow, hown, hap, h1, h2⟩ := h.lies
  have eqb : ∀ k, F k → w'.heap[k]? = w.heap[k]? := fun k hk => hf.block k (h.old k hk) (fun hg => hd k hk hg)
  refine ⟨h.nodup, h.few, h.good, h.none0, fun b hb => Nat.lt_of_lt_of_le (h.old b hb) hf.size, h.inB, m, es, vs, arr, hm, hBm, (eqb B h.inB).trans hb, hsz, hk, h6, hmap.same (eqb m hm), ?_, hown, hap, h1, h2⟩
  intro k hk6
  have hr := hrow k hk6
  refine ⟨hr.1, ?_⟩
  rcases hr.2 with hn | ⟨g, cap, cur, hv, hbg, hgg, rest⟩
  · exact .inl hn
  · refine .inr ⟨g, cap, cur, hv, hbg, ?_, rest⟩
    rw [eqb g (hown k hk6 g (by rw [hv]; rfl)).1]
    exact hgg

/-- the number of a name among its kind; 0 if the table hasn't got it -/
def numS (L : Nat → List ByteArray) (kind : Int) (s : ByteArray) : Nat := if 1 ≤ kind ∧ kind ≤ 5 then posOf (L kind.toNat) s else 0

theorem cell_arr {w : World} {B : Nat} {arr : Array Value} {t : TypeId} {fr : Nat × Nat} (h : w.heap[B]? = some (.cells arr t fr)) (j : Nat) : w.cell? ⟨B, j, none⟩ = arr[j]? := by simp [World.cell?, h]
theorem frozen_arr {w : World} {B : Nat} {arr : Array Value} {t : TypeId} (h : w.heap[B]? = some (.cells arr t (0, 0))) (j : Nat) : w.frozen? ⟨B, j, none⟩ = false := by simp [World.frozen?, h]

theorem num_any {w : World} {F : Nat → Prop} {B : Nat} {L : Nat → List ByteArray} (h : Tab w F B L) (kind : Int) (s : ByteArray) (hk : (Lit.int .i64 kind).wf = true) (hs : s.size ≤ maxLen) :
    Calls Try.prog 30 #[.pointer (some ⟨B, 0, none⟩), .int .i64 kind, .string s] w fun e w' => e = .returned (.int .i64 (numS L kind s)) ∧ w = w' := by
  obtain ⟨m, es, vs, arr, hm, hBm, hb, hsz, hkk, h6, hmap, hrow, hown, hap, h1, h2⟩ := h.lies
  obtain ⟨kl, hkl⟩ := key72 kind s hk hs
  have hc := (cell_arr hb 6).trans h6
  have hz : (zeroValue 3).run Try.prog w = .ok (.int .i64 0) w := by kernel_rfl
  rcases hmap.look Try.law72 Try.underlying60 hz hkl false with ⟨hne, hrun⟩ | ⟨v, hin, hrun⟩
  · have e0 : numS L kind s = 0 := by
      unfold numS
      split
      · rename_i hk15
        rw [posOf_none]
        intro hmem
        obtain ⟨i, hi⟩ := List.mem_iff_getElem?.1 hmem
        have := h2 kind.toNat i s (by omega) (by omega) hi
        refine hne _ this ?_
        simp [Int.toNat_of_nonneg (show 0 ≤ kind by omega)]
      · rfl
    rw [e0]
    exact number_raw B m kind s _ w hc hrun
  · obtain ⟨k, i, s', hk1, hk5, hget, heq⟩ := h1 _ hin
    simp only [Prod.mk.injEq, Value.agg.injEq, Array.mk.injEq, List.cons.injEq, Value.int.injEq, Value.string.injEq, and_true, true_and] at heq
    obtain ⟨⟨rfl, rfl⟩, rfl⟩ := heq
    have e0 : numS L (k : Int) s = i + 1 := by
      unfold numS
      rw [if_pos (by omega)]
      exact posOf_some (h.nodup _) (by simpa using hget)
    rw [e0]
    exact number_raw B m k s _ w hc hrun
end Go.Proofs.Ytcpgfcpmjalacaa
