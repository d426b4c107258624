/- What copying a list of words, and comparing two, does; what a list of words' cells are behind a sort. -/
import Derived.Test.YtdapklamemalgaaSets
import Derived.Test.YtdapklamemalgaaShelf
import Derived.Lib.SliceRun
import Derived.Shelf.SlicesE.Compact
import Derived.Shelf.SlSortCmp.Kit1
namespace Go.Proofs.Ytdapklamemalgaa
set_option linter.unusedVariables false
set_option linter.unusedSimpArgs false
open Go.RowKit Go.ChangeShapes Go.WideShapes

theorem Try.info36 : (Try.prog.info? 36).map (fun i => (i.zero, i.size, i.bytes)) = some (some (.string ⟨#[]⟩), 1, 16) := by kernel_rfl
theorem Try.slice22 : SliceOf Try.prog 22 36 (.string ⟨#[]⟩) 1 16 := slice_of Try.underlying22 Try.info36 rfl (by decide)
theorem Try.slice23 : SliceOf Try.prog 23 36 (.string ⟨#[]⟩) 1 16 := slice_of Try.underlying23 Try.info36 rfl (by decide)
theorem one_str {l : List ByteArray} : ∀ u ∈ wcells l, u.oneCell' = true := fun u hu => by obtain ⟨_, _, rfl⟩ := List.mem_map.1 hu; rfl
theorem wcells_len (l : List ByteArray) : (wcells l).length = l.length := by simp [wcells]
theorem wcells_append (l m : List ByteArray) : wcells (l ++ m) = wcells l ++ wcells m := by simp [wcells]
/-- a row of the call's own that has these words -/
def WordsPost (w : World) (l : List ByteArray) (en : Ending) (w' : World) : Prop :=
  ∃ v, en = .returned v ∧ w'.ownsRow w.heap.size 36 1 v l.length (wcells l) ∧ Kept w w'
theorem reads_none {w : World} {G : Nat → Prop} {l : List ByteArray} (hc : ∀ i x, (wcells l)[i]? = some x → ∃ g off, (none : Option Addr) = some ⟨g, off, none⟩ ∧ G g ∧ w.cell? ⟨g, off + i, none⟩ = some x) : l = [] := by
  cases l with
  | nil => rfl
  | cons x r =>
    obtain ⟨g, off, h, _⟩ := hc 0 (.string x) rfl
    cases h
theorem clone_any {w : World} {G : Nat → Prop} {v : Value} {l : List ByteArray} (h : Reads w G v (wcells l)) (hl : l.length ≤ 100000) :
    Calls Try.prog 52 #[v] w (WordsPost w l) := by
  have HR := Lib.hid h
  obtain ⟨ao, c, rfl, _, hc⟩ := h
  rw [wcells_len] at HR ⊢
  have q22 : ∀ (w : World) (a : Option Addr) (n c n' c' : Nat), (binOp .eql 22 (.slice a n c) (.slice none n' c')).run Try.prog w = .ok (.bool a.isNone) w := fun w a n c n' c' => Go.Lib.run_eql_slice_nil w _ _ a n c n' c' Try.underlying22
  cases ao with
  | none =>
    obtain rfl := reads_none hc
    clear hc
    go_enter Try.func52, Try.ntmps52
    go_wp2
    go_ret
    exact ⟨_, rfl, own_nil _ _ _ _, Fr.refl _ _⟩
  | some a =>
    clear hc
    have H0 := Lib.hid (own_new (base := w.heap.size) (size := 1) (heap_alloc_new w (Obj.cells #[] 36)) (Nat.le_refl _))
    have H1 : Hid (Reads (w.alloc (Obj.cells #[] 36)) G (.slice (some a) l.length c) (wcells l)) := Lib.hid (HR.out.new (Fr.of_alloc _ _ _))
    go_enter Try.func52, Try.ntmps52
    go_wp2_with (at_builtin; refine list_app rfl (.tmp 5) (.tmp 6) 22 22 rfl Try.slice22 rfl (by exact H0.out) rfl (by exact H1.out.src Try.underlying22 one_str) (by rw [wcells_len]; unfold maxLen; omega) (by rw [wcells_len]; omega) (by simp) ?_; intro v1 w1 hp1; have Hp1 := Lib.hid hp1; clear hp1)
    go_ret
    have hp := Hp1.out.kept (Fr.of_alloc (fun _ => False) w (Obj.cells #[] 36)) (own_at _ _ _)
    refine ⟨v1, rfl, ?_, hp.1⟩
    have := Hp1.out.1
    simpa [wcells_len] using this

/-- how two words compare -/
def cmpS (x y : ByteArray) : Int := if lessS x y = true then -1 else if lessS y x = true then 1 else 0
theorem compare_any (a b : ByteArray) (w : World) (ha : a.size ≤ maxLen) (hb : b.size ≤ maxLen) :
    Calls Try.prog 54 #[.string a, .string b] w fun e w' => e = .returned (.int .i64 (cmpS a b)) ∧ w = w' := by
  cases h1 : lessS a b
  · cases h2 : lessS b a
    · have HA : Hid (cmpS a b = 0) := Lib.hid (by unfold cmpS; rw [if_neg (by simp [h1]), if_neg (by simp [h2])])
      go_enter Try.func54, Try.ntmps54
      go_wp2_with fail
      refine (less_any a b _ ha hb).mono ?_
      rintro e w' ⟨rfl, rfl⟩
      rw [h1]
      go_wp2_with fail
      refine (less_any b a _ hb ha).mono ?_
      rintro e w' ⟨rfl, rfl⟩
      rw [h2]
      go_wp2
      go_ret
      exact ⟨ret_int HA.out.symm, rfl⟩
    · have HA : Hid (cmpS a b = 1) := Lib.hid (by unfold cmpS; rw [if_neg (by simp [h1]), if_pos h2])
      go_enter Try.func54, Try.ntmps54
      go_wp2_with fail
      refine (less_any a b _ ha hb).mono ?_
      rintro e w' ⟨rfl, rfl⟩
      rw [h1]
      go_wp2_with fail
      refine (less_any b a _ hb ha).mono ?_
      rintro e w' ⟨rfl, rfl⟩
      rw [h2]
      go_wp2
      go_ret
      exact ⟨ret_int HA.out.symm, rfl⟩
  · have HA : Hid (cmpS a b = -1) := Lib.hid (by unfold cmpS; rw [if_pos h1])
    go_enter Try.func54, Try.ntmps54
    go_wp2_with fail
    refine (less_any a b _ ha hb).mono ?_
    rintro e w' ⟨rfl, rfl⟩
    rw [h1]
    go_wp2
    go_ret
    exact ⟨ret_int HA.out.symm, rfl⟩

/-- words that are no longer than a string can be -/
abbrev Wd := { s : ByteArray // s.size ≤ maxLen }
instance : Inhabited Wd := ⟨⟨ByteArray.empty, by decide⟩⟩
def encW (x : Wd) : Value := .string x.1
def cmpW (x y : Wd) : Int := cmpS x.1 y.1
theorem lt_cmpW (x y : Wd) : ltOf cmpW x y = lessS x.1 y.1 := by
  unfold ltOf cmpW cmpS
  cases h : lessS x.1 y.1
  · cases h2 : lessS y.1 x.1 <;> simp
  · simp
theorem wd_ext {x y : Wd} (h : x.1 = y.1) : x = y := Subtype.ext h
theorem swoW : Go.Sort.SWO (ltOf cmpW) where
  irrefl x := by rw [lt_cmpW]; exact lessS_same _
  trans x y z h1 h2 := by rw [lt_cmpW] at *; exact lessS_trans h1 h2
  ntrans x y z h1 h2 := by
    rw [lt_cmpW] at *
    cases h : lessS x.1 z.1
    · rfl
    · by_cases e : x.1 = y.1
      · rw [e] at h; rw [h] at h2; cases h2
      · have := lessS_trans (lessS_total e h1) h
        rw [this] at h2; cases h2
/-- words as a row of them -/
theorem wds {l : List ByteArray} (h : Small maxLen l) : ∃ d : Array Wd, d.toList.map (·.1) = l ∧ d.size = l.length ∧ d.toList.map encW = wcells l := by
  refine ⟨(l.attach.map (fun x => (⟨x.1, h x.1 x.2⟩ : Wd))).toArray, ?_, by simp, ?_⟩
  · simp
  · simp [wcells, encW]
theorem one_encW : OneCell encW := fun _ => rfl
theorem eql_encW (P : Program) (T : TypeId) : EqlAt P T encW (fun x y => decide (x = y)) :=
  ⟨fun x y w => by
    rw [show encW x = Value.string x.1 from rfl, show encW y = Value.string y.1 from rfl, (EqlAt.string P T).1 x.1 y.1 w]
    dsimp only
    rw [beq_bs]
    congr 2
    exact decide_eq_decide.2 ⟨fun h => wd_ext h, fun h => by rw [h]⟩, fun op a b x y w => (EqlAt.string P T).2 op a b x.1 y.1 w⟩
theorem neq_encW (P : Program) (T : TypeId) : NeqAt P T encW (fun x y => decide (x = y)) :=
  ⟨fun x y w => by
    rw [show encW x = Value.string x.1 from rfl, show encW y = Value.string y.1 from rfl, (NeqAt.string P T).1 x.1 y.1 w]
    dsimp only
    rw [beq_bs]
    congr 3
    exact decide_eq_decide.2 ⟨fun h => wd_ext h, fun h => by rw [h]⟩, fun op a b x y w => (NeqAt.string P T).2 op a b x.1 y.1 w⟩
theorem frozen_row {w : World} {g i : Nat} {cs : Array Value} {e : TypeId} (h : w.heap[g]? = some (.cells cs e (0, 0))) : w.frozen? ⟨g, i, none⟩ = false := by
  unfold World.frozen?
  rw [h]
  simp
theorem own_holds {w : World} {base g n cap : Nat} {e : TypeId} {d : Array Wd} (h : w.ownsRow base e 1 (.slice (some ⟨g, 0, none⟩) n cap) n (d.toList.map encW)) : Go.Sort.Holds encW w g 0 d := by
  intro j hj
  refine ⟨?_, ?_⟩
  · have := h.cells (g := g) rfl j (encW d[j]!) (by simp [hj, getElem!_pos])
    rwa [Addr.add_lit] at this
  · rcases h.2 with ⟨hv, _⟩ | ⟨g', cap', cur, hv, _, hg, _⟩
    · cases hv
    · cases hv
      exact frozen_row hg
/-- behind a row's change -/
theorem own_put {w : World} {base g n cap q : Nat} {e : TypeId} {xs : List Value} {os : Array Obj} {d : Array Wd} (h : w.ownsRow base e 1 (.slice (some ⟨g, 0, none⟩) n cap) n xs) (hd : d.size = n) :
    (Go.Sort.grow (Go.Sort.putRow encW (Go.Sort.ahead w q) g 0 d) os).ownsRow base e 1 (.slice (some ⟨g, 0, none⟩) n cap) n (d.toList.map encW) ∧ Fr (fun k => k = g) w (Go.Sort.grow (Go.Sort.putRow encW (Go.Sort.ahead w q) g 0 d) os) := by
  rcases h.2 with ⟨hv, _⟩ | ⟨g', cap', cur, hv, hb, hg, hn, hm, hs, ht⟩
  · cases hv
  · cases hv
    have hlt : g < w.heap.size := by
      rcases Nat.lt_or_ge g w.heap.size with hlt | hge
      · exact hlt
      · rw [Array.getElem?_eq_none hge] at hg; cases hg
    have hsz : (Go.Sort.putRow encW (Go.Sort.ahead w q) g 0 d).heap.size = w.heap.size := by
      simp [Go.Sort.putRow, Go.Sort.mapBlock, Go.Sort.ahead]
    have hat : ∀ k, k < w.heap.size → (Go.Sort.grow (Go.Sort.putRow encW (Go.Sort.ahead w q) g 0 d) os).heap[k]? = (w.heap.modify g (Go.Sort.onCells (Go.Sort.putCells encW 0 d)))[k]? := by
      intro k hk
      rw [Go.Sort.heap_grow_old _ _ (by rw [hsz]; exact hk)]
      rfl
    refine ⟨⟨by simp [hd], .inr ⟨g, cap, Go.Sort.putCells encW 0 d cur, rfl, hb, ?_, hn, hm, by simp [Go.Sort.putCells, hs], ?_⟩⟩, ⟨rfl, rfl, rfl, by rw [Go.Sort.size_grow, hsz]; omega, ?_⟩⟩
    · rw [hat g hlt, Array.getElem?_modify, if_pos rfl, hg]
      rfl
    · apply List.ext_getElem?
      intro j
      rw [List.getElem?_take]
      split
      · rename_i hj
        have hj1 : j < cur.size := by omega
        have hj2 : j < d.size := by omega
        simp only [Go.Sort.putCells, Array.getElem?_toList, Array.getElem?_mapIdx, Array.getElem?_eq_getElem hj1, Option.map_some, List.getElem?_map, Array.getElem?_eq_getElem hj2]
        rw [if_pos (by omega)]
        simp [getElem!_pos, hj2]
      · rw [List.getElem?_eq_none]
        simp; omega
    · intro k hk hne
      rw [hat k hk, Array.getElem?_modify, if_neg (fun e => hne e.symm)]
/-- a row cut short -/
theorem own_cut {w : World} {base g n cap k : Nat} {e : TypeId} {xs : List Value} (h : w.ownsRow base e 1 (.slice (some ⟨g, 0, none⟩) n cap) n xs) (hk : k ≤ n) :
    w.ownsRow base e 1 (.slice (some ⟨g, 0, none⟩) k cap) k (xs.take k) := by
  have hl := h.1
  rcases h.2 with ⟨hv, _⟩ | ⟨g', cap', cur, hv, hb, hg, hn, hm, hs, ht⟩
  · cases hv
  · cases hv
    refine ⟨by rw [List.length_take]; omega, .inr ⟨g, cap, cur, rfl, hb, hg, by omega, hm, hs, ?_⟩⟩
    rw [← ht, List.take_take]
    congr 1
    omega
/-- what is kept of words that don't fall is the words put right -/
theorem compact_sorted (d : Array Wd) (hd : d.toList.Pairwise (fun a b => lessS b.1 a.1 = false)) :
    (Go.Lib.compactUpTo d d.size).map (·.1) = rightS (d.toList.map (·.1)) := by
  have hle : ∀ i j : Nat, i < j → j < d.size → lessS d[j]!.1 d[i]!.1 = false := by
    intro i j hij hj
    have := List.pairwise_iff_getElem.1 hd i j (by simp; omega) (by simpa using hj) hij
    simpa [getElem!_pos, hj, show i < d.size by omega] using this
  have key : ∀ m, m ≤ d.size → Rising ((Go.Lib.compactUpTo d m).map (·.1)) ∧ ∀ z, z ∈ (Go.Lib.compactUpTo d m).map (·.1) ↔ ∃ j, j < m ∧ d[j]!.1 = z := by
    intro m
    induction m with
    | zero => intro _; exact ⟨by simp [Go.Lib.compactUpTo, Rising], fun z => by simp [Go.Lib.compactUpTo]⟩
    | succ m ih =>
      intro hm
      obtain ⟨h1, h2⟩ := ih (by omega)
      rw [Go.Lib.compactUpTo_succ]
      cases hk : Go.Lib.keeps d m
      · simp only [Bool.false_eq_true, if_false, List.append_nil]
        refine ⟨h1, fun z => ?_⟩
        rw [h2 z]
        simp only [Go.Lib.keeps, decide_eq_false_iff_not, not_or, Decidable.not_not] at hk
        constructor
        · rintro ⟨j, hj, e⟩; exact ⟨j, by omega, e⟩
        · rintro ⟨j, hj, e⟩
          rcases Nat.lt_or_ge j m with h | h
          · exact ⟨j, h, e⟩
          · obtain rfl : j = m := by omega
            exact ⟨j - 1, by omega, by rw [← hk.2]; exact e⟩
      · simp only [if_true, List.map_append, List.map_cons, List.map_nil]
        simp only [Go.Lib.keeps, decide_eq_true_eq] at hk
        constructor
        · unfold Rising at h1 ⊢
          rw [List.pairwise_append]
          refine ⟨h1, by simp, fun a ha b hb => ?_⟩
          rw [List.mem_singleton] at hb
          subst hb
          obtain ⟨j, hj, rfl⟩ := (h2 a).1 ha
          rcases hk with h0 | hne
          · omega
          · have hlast : lessS d[m - 1]!.1 d[m]!.1 = true := lessS_total (fun e => hne (wd_ext e)) (hle (m - 1) m (by omega) (by omega))
            rcases Nat.lt_or_ge j (m - 1) with h | h
            · by_cases e : d[j]!.1 = d[m - 1]!.1
              · rw [e]; exact hlast
              · exact lessS_trans (lessS_total (fun x => e x.symm) (hle j (m - 1) h (by omega))) hlast
            · obtain rfl : j = m - 1 := by omega
              exact hlast
        · intro z
          rw [List.mem_append, h2 z, List.mem_singleton]
          constructor
          · rintro (⟨j, hj, e⟩ | rfl)
            · exact ⟨j, by omega, e⟩
            · exact ⟨m, by omega, rfl⟩
          · rintro ⟨j, hj, e⟩
            rcases Nat.lt_or_ge j m with h | h
            · exact .inl ⟨j, h, e⟩
            · obtain rfl : j = m := by omega
              exact .inr e.symm
  obtain ⟨h1, h2⟩ := key d.size (Nat.le_refl _)
  refine rising_ext h1 (rising_right _) (fun z => ?_)
  rw [h2 z, mem_right, List.mem_map]
  constructor
  · rintro ⟨j, hj, e⟩
    exact ⟨d[j]!, by rw [getElem!_pos d j hj]; simp, e⟩
  · rintro ⟨x, hx, e⟩
    obtain ⟨j, hj, rfl⟩ := List.getElem_of_mem hx
    exact ⟨j, by simpa using hj, by rw [getElem!_pos d j (by simpa using hj)]; simpa using e⟩
end Go.Proofs.Ytdapklamemalgaa
