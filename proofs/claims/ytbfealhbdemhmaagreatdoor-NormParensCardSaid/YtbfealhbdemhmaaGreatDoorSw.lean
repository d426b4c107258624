/- Contracts and lemmas: Sw -/
import Derived.Test.YtbfealhbdemhmaaGreatDoorNo
import Derived.Test.YtbfealhbdemhmaaGreatDoorR3
import Derived.Shelf.Strings.BuilderK
import Derived.Test.YtbfealhbdemhmaaGreatDoorShelf
import Derived.Shelf.Strings.OnBuilder
namespace Go.Proofs.YtbfealhbdemhmaaGreatDoor
set_option linter.unusedVariables false
set_option linter.unusedSimpArgs false
open Go.RowKit Go.ChangeShapes Go.WideShapes
set_option maxRecDepth 20000
theorem bld_size : (Tryz.prog.info? 112).map (·.size) = some 2 := by kernel_rfl
theorem bld_lies : liesAt Tryz.prog Tryz.prog.depth 112 (2 / Tryz.prog.cellsOf 112) 0 112 1 = true := by kernel_rfl
theorem byte_info : (Tryz.prog.info? 5).map (fun i => (i.zero, i.size, i.bytes)) = some (some (.int .u8 0), 1, 1) := by kernel_rfl
set_option maxHeartbeats 1000000 in
theorem kcopy_used (b : Nat) (w : World) (h0 : w.cell? ⟨b, 0, none⟩ = some (.pointer (some ⟨b, 0, none⟩))) :
    Calls Tryz.prog 113 #[.pointer (some ⟨b, 0, none⟩)] w fun e w' => e = .returned (.tuple #[]) ∧ w = w' := by
  obtain ⟨j, hj, _⟩ := Option.map_eq_some_iff.1 bld_size
  go_enter Tryz.func113, Tryz.ntmps113
  go_wp2
  rw [Lib.run_neq_ptr_same w _ Tryz.underlying110 hj]
  go_wp2
  go_end0
  exact ⟨rfl, rfl⟩
set_option maxHeartbeats 1000000 in
theorem kcopy_fresh (b : Nat) (w : World) (h0 : w.cell? ⟨b, 0, none⟩ = some (.pointer none)) (hsh : w.shape? b = some (112, 2)) (hfz : w.frozen? ⟨b, 0, none⟩ = false) :
    Calls Tryz.prog 113 #[.pointer (some ⟨b, 0, none⟩)] w fun e w' => e = .returned (.tuple #[]) ∧ w' = w.setCell ⟨b, 0, none⟩ (.pointer (some ⟨b, 0, none⟩)) := by
  obtain ⟨j, hj, hjs⟩ := Option.map_eq_some_iff.1 bld_size
  go_enter Tryz.func113, Tryz.ntmps113
  go_wp2
  rw [Lib.run_to_unsafe w ⟨b, 0, none⟩ Tryz.underlying110 Tryz.underlying171 hj (by rw [hjs]; decide) hsh (Nat.zero_lt_succ 1)]
  simp only [Result.andThen]
  rw [Oper.upon_value]
  go_wp2
  rw [run_callFunc_extern Tryz.func145 (by kernel_rfl) (by kernel_rfl) (by kernel_rfl) (e := Extern.AbiNoEscape.same) (by kernel_rfl)]
  rw [Lib.run_noEscape]
  simp only [Result.andThen]
  rw [Oper.upon_value]
  go_wp2
  rw [Lib.run_from_unsafe w ⟨b, 0, none⟩ Tryz.underlying171 Tryz.underlying110 hj hsh bld_lies]
  simp only [Result.andThen]
  rw [Oper.upon_value]
  go_wp2
  go_end0
  exact ⟨rfl, rfl⟩
/-- a builder that holds these bytes -/
abbrev BldAt (B b : Nat) (cs : List Value) (w : World) : Prop := Lib.BuilderAtF 112 5 B b (.pointer (some ⟨b, 0, none⟩)) cs w
abbrev Bld (B b : Nat) (cs : List Value) (w : World) : Prop := Lib.IsBuilderF 112 5 B b cs w
theorem kcopy_any (B b : Nat) (cs : List Value) (w : World) (h : Bld B b cs w) :
    Calls Tryz.prog 113 #[.pointer (some ⟨b, 0, none⟩)] w fun e w' => e = .returned (.tuple #[]) ∧ (BldAt B b cs w' ∧ Below B w w') := by
  rcases h with h | h
  · refine (kcopy_fresh b w h.cell0 h.shape h.frozen0).mono ?_
    rintro e w' ⟨rfl, rfl⟩
    exact ⟨rfl, h.used _, (Below.refl B w).setCell (p := ⟨b, 0, none⟩) h.1 _⟩
  · refine (kcopy_used b w h.cell0).mono ?_
    rintro e w' ⟨rfl, rfl⟩
    exact ⟨rfl, h, Below.refl B _⟩
theorem blt {w : World} {b : Nat} {o : Obj} (h : w.heap[b]? = some o) : b < w.heap.size := (Array.getElem?_eq_some_iff.1 h).1
theorem bld_ne : (112 : TypeId) ≠ 5 := by decide
set_option maxHeartbeats 2000000 in
theorem kwriteString_any (B b : Nat) (cs : List Value) (s : ByteArray) (w : World) (h : Bld B b cs w) (hlen : cs.length + s.size ≤ 1000000) (hBw : B ≤ w.heap.size) :
    Calls Tryz.prog 70 #[.pointer (some ⟨b, 0, none⟩), .string s] w fun e w' => e = .returned (.tuple #[.int .i64 s.size, .nilIface]) ∧ (BldAt B b (cs ++ Lib.strCells s) w' ∧ Below B w w') := by
  obtain ⟨i0, hi, hz0, hz1, hz2⟩ := info_parts byte_info
  go_enter Tryz.func70, Tryz.ntmps70
  go_wp2_with (go_at_call 113; refine (kcopy_any B b cs _ h).mono ?_)
  rintro e w1 ⟨rfl, h1, hb1⟩
  obtain ⟨hB, v, hbk, hown, hne⟩ := h1
  have c0 : w1.cell? ⟨b, 0, none⟩ = some (.pointer (some ⟨b, 0, none⟩)) := by rw [Lib.cell_of_heap hbk]; rfl
  have c1 : w1.cell? ⟨b, 1, none⟩ = some v := by rw [Lib.cell_of_heap hbk]; rfl
  go_wp2_with (at_builtin; refine Lib.wpList_append_own_stringF _ rfl _ _ 103 9 rfl B 5 i0 Tryz.underlying103 Tryz.underlying9 hi hz0 hz1 hz2 _ _ _ rfl hown s rfl ?c3 ?c4 ?c5 ?_)
  case c3 => unfold maxLen; omega
  case c4 => omega
  case c5 => have := hb1.size; omega
  intro v' w2 hown' hgrow _
  have hlt := blt hbk
  have hb2 : w2.heap[b]? = some (.cells #[.pointer (some ⟨b, 0, none⟩), v] 112 (0, 0)) := by
    rw [hgrow.block b hlt (fun e => hne e.symm)]
    exact hbk
  have d0 : w2.cell? ⟨b, 0, none⟩ = some (.pointer (some ⟨b, 0, none⟩)) := by rw [Lib.cell_of_heap hb2]; rfl
  have d1 : w2.cell? ⟨b, 1, none⟩ = some v := by rw [Lib.cell_of_heap hb2]; rfl
  have f1 : w2.frozen? ⟨b, 1, none⟩ = false := Lib.frozen_of_heap hb2 1
  obtain ⟨ao, n', cap, rfl⟩ : ∃ ao n' cap, v' = .slice ao n' cap := by
    rcases hown'.2 with ⟨hv, _⟩ | ⟨g, cap, cur, fz, hv, _⟩
    · exact ⟨_, _, _, hv⟩
    · exact ⟨_, _, _, hv⟩
  go_wp2
  go_ret2
  refine ⟨rfl, ?_, ?_⟩
  · exact Lib.BuilderAtF.put hB hb2 (bs' := cs ++ Lib.strCells s) (by simpa [Lib.strCells_length] using hown') bld_ne
  · exact (hb1.grown hgrow (by have := hb1.size; omega) (fun k hk => (hown.lt k hk).1)).setCell (p := ⟨b, 1, none⟩) hB _
theorem stringX : Builder.Extra Tryz.prog Tryz.stringL_ren where
  sizeBuilder := by kernel_rfl
  liesBuilder := by kernel_rfl
  t5 := Tryz.underlying5
  a5 := Tryz.isAgg5
  z5 := Tryz.sizeOf5
  v5 := Tryz.zeroValue5
  infoByte := by kernel_rfl
  cellsByte := by kernel_rfl
  sizeByte := by kernel_rfl
  neB5 := by decide
theorem kstring_any (B b : Nat) (l : List UInt8) (w : World) (h : Bld B b (Lib.byteCells l) w) (hBw : B ≤ w.heap.size) :
    Calls Tryz.prog 72 #[.pointer (some ⟨b, 0, none⟩)] w fun e w' => e = .returned (.string (strOf l)) ∧ Below B w w' :=
  (Any.Builder_String_any_k Tryz.stringL stringX B b l w h hBw).mono (fun e w' h => ⟨h.1, h.2.2.1⟩)
theorem kept_below {w wr w' : World} (h : Kept w wr) (k : Below w.heap.size wr w') : Kept w w' :=
  ⟨k.os.trans h.os, k.tape.trans h.tape, k.output.trans h.output, Nat.le_trans h.size k.size, fun i hi hn => (k.block i hi).trans (h.block i hi hn)⟩
theorem bld_kept {B b : Nat} {cs : List Value} {w w' : World} (h : Bld B b cs w) (hk : Kept w w') : Bld B b cs w' := by
  have go : ∀ p, Lib.BuilderAtF 112 5 B b p cs w → Lib.BuilderAtF 112 5 B b p cs w' := by
    rintro p ⟨hB, v, hb, hown, hne⟩
    refine ⟨hB, v, ?_, hown.kept (hk.grown none) ?_, hne⟩
    · rw [hk.block b (blt hb) (fun x => x)]; exact hb
    · cases v.ownBlock <;> simp
  rcases h with h | h
  · exact .inl (go _ h)
  · exact .inr (go _ h)
theorem bld_new (w : World) : Bld w.heap.size w.heap.size (Lib.byteCells []) (w.alloc (Obj.cells #[.pointer none, .slice none 0 0] 112)) :=
  .inl ⟨Nat.le_refl _, .slice none 0 0, heap_alloc_new w _, World.ownsRowF_nil _ _ _ _, by simp [Value.ownBlock]⟩
theorem byteCells_strOf (x : List UInt8) : Lib.strCells (strOf x) = Lib.byteCells x := rfl

open Go.RowKit Go.ChangeShapes Go.WideShapes
set_option maxRecDepth 20000
theorem tab_names {w : World} {F : Nat → Prop} {B : Nat} {L : Nat → List ByteArray} (h : Atm.Tab w F B L) (a : Int) : ((Atm.nameOf L a).getD ⟨#[]⟩).size ≤ 24 := by
  cases hn : Atm.nameOf L a with
  | none => decide
  | some s =>
    show s.size ≤ 24
    unfold Atm.nameOf at hn
    split at hn
    · cases hn; decide
    · split at hn
      · exact Atm.may_size (h.good _ s (List.mem_of_getElem? hn))
      · cases hn
theorem kshowatom_any {w : World} {F : Nat → Prop} {B : Nat} {L : Nat → List ByteArray} (hT : Atm.Tab w F B L) (hLd : LaidT w) (a : Int) (h0 : 0 ≤ a) (h1 : a ≤ 65535) :
    Calls Tryz.prog 68 #[.pointer (some ⟨B, 0, none⟩), .int .u16 a] w (KeptPost (.string (strOf (sayA L a))) w) := by
  have HN := Lib.hid (Atm.name_any hT a h0 h1)
  have HW : Hid (∀ n, Calls Tryz.prog 52 #[tokA 1 ((Atm.nameOf L a).getD ⟨#[]⟩) (a / 8192) 0] (w.drewN n) (KeptPost (.string (strOf (sayA L a))) (w.drewN n))) :=
    Lib.hid (fun n => kword_any 1 _ (a / 8192) 0 (w.drewN n) (by have := tab_names hT a; omega) (hLd.kept (Fr.of_drewN _ w n)))
  have HKD := Lib.hid (fun W => Atm.kind_any a W h0 h1)
  clear hT hLd
  unfold Atm.nameV at HN
  unfold tokA at HW
  generalize (Atm.nameOf L a).getD ⟨#[]⟩ = nm at *
  go_enter Tryz.func68, Tryz.ntmps68
  go_wp2_with fail
  refine HN.out.mono ?_
  rintro e w1 ⟨rfl, n, rfl⟩
  go_wp2_with fail
  refine (HKD.out _).mono ?_
  rintro e w1 ⟨rfl, rfl⟩
  go_wp2_with fail
  refine (HW.out n).mono ?_
  rintro e w2 ⟨rfl, hk⟩
  have HK := Lib.hid ((Fr.of_drewN (fun _ => False) w n).trans hk)
  clear hk
  go_wp2
  go_ret
  exact ⟨rfl, HK.out⟩
theorem kbetween_any (b : Bool) (w : World) : Calls Tryz.prog 71 #[.bool b] w fun e w' => e = .returned (.string (strOf (sepA 1 b))) ∧ w = w' := by
  cases b
  · go_enter Tryz.func71, Tryz.ntmps71
    go_wp2
    go_ret
    exact ⟨rfl, rfl⟩
  · go_enter Tryz.func71, Tryz.ntmps71
    go_wp2
    go_ret
    exact ⟨rfl, rfl⟩
/-- a builder at a block, its bytes from a block on -/
def BW (B2 b : Nat) (cs : List Value) (w : World) : Prop :=
  ∃ p v, (p = .pointer none ∨ p = .pointer (some ⟨b, 0, none⟩)) ∧ w.heap[b]? = some (.cells #[p, v] 112 (0, 0)) ∧ w.ownsRowF B2 5 1 v cs.length cs
theorem BW.kept {B2 b : Nat} {cs : List Value} {w w' : World} (h : BW B2 b cs w) (hk : Kept w w') : BW B2 b cs w' := by
  obtain ⟨p, v, hp, hb, ho⟩ := h
  refine ⟨p, v, hp, ?_, ho.kept (hk.grown none) ?_⟩
  · rw [hk.block b (blt hb) (fun x => x)]; exact hb
  · cases v.ownBlock <;> simp
theorem BW.new (w : World) (B2 : Nat) : BW B2 w.heap.size [] (w.alloc (Obj.cells #[.pointer none, .slice none 0 0] 112)) :=
  ⟨_, _, .inl rfl, heap_alloc_new w _, World.ownsRowF_nil _ _ _ _⟩
theorem BW.bld {B2 b : Nat} {cs : List Value} {w : World} (h : BW B2 b cs w) (hb : b ≤ B2) : Bld b b cs w := by
  obtain ⟨p, v, hp, hh, ho⟩ := h
  have ho' : w.ownsRowF b 5 1 v cs.length cs := by
    refine ⟨ho.1, ?_⟩
    rcases ho.2 with h1 | ⟨g, cap, cur, fz, h1, h2, h3⟩
    · exact .inl h1
    · exact .inr ⟨g, cap, cur, fz, h1, Nat.le_trans hb h2, h3⟩
  have hne := Lib.ownBlock_neF ho' hh bld_ne
  rcases hp with rfl | rfl
  · exact .inl ⟨Nat.le_refl _, v, hh, ho', hne⟩
  · exact .inr ⟨Nat.le_refl _, v, hh, ho', hne⟩

open Go.RowKit Go.ChangeShapes Go.WideShapes
set_option maxRecDepth 20000
theorem kcopy_b {B2 b : Nat} {cs : List Value} {w : World} (h : BW B2 b cs w) (hb : b < B2) :
    Calls Tryz.prog 113 #[.pointer (some ⟨b, 0, none⟩)] w fun e w' => e = .returned (.tuple #[]) ∧ (∃ v, w'.heap[b]? = some (.cells #[.pointer (some ⟨b, 0, none⟩), v] 112 (0, 0)) ∧ w'.ownsRowF B2 5 1 v cs.length cs) ∧ Fr (fun k => k = b ∨ B2 ≤ k) w w' ∧ w'.heap.size = w.heap.size := by
  obtain ⟨p, v, hp, hh, ho⟩ := h
  rcases hp with rfl | rfl
  · refine (kcopy_fresh b w (by rw [Lib.cell_of_heap hh]; rfl) (by simp [World.shape?, hh]) (Lib.frozen_of_heap hh 0)).mono ?_
    rintro e w' ⟨rfl, rfl⟩
    refine ⟨rfl, ⟨v, ?_, ?_⟩, (Fr.of_setCell w ⟨b, 0, none⟩ _).mono (fun k _ e => .inl e), by simp [World.setCell]⟩
    · simp [World.setCell, Array.getElem?_modify, hh]
    · have hne : v.ownBlock ≠ some b := Lib.ownBlock_neF ho hh bld_ne
      exact ho.kept (row := some b) ⟨rfl, rfl, rfl, by simp [World.setCell], fun k _ hk => Below.heap_setCell _ _ _ _ (fun e => hk (by simp [e]))⟩ (Or.inr hne)
  · refine (kcopy_used b w (by rw [Lib.cell_of_heap hh]; rfl)).mono ?_
    rintro e w' ⟨rfl, rfl⟩
    exact ⟨rfl, ⟨v, hh, ho⟩, Fr.refl _ _, rfl⟩
set_option maxHeartbeats 2000000 in
theorem kws_any {B2 b : Nat} {cs : List Value} {w : World} (s : ByteArray) (h : BW B2 b cs w) (hb : b < B2) (hBw : B2 ≤ w.heap.size) (hlen : cs.length + s.size ≤ 10000000) :
    Calls Tryz.prog 70 #[.pointer (some ⟨b, 0, none⟩), .string s] w fun e w' => e = .returned (.tuple #[.int .i64 s.size, .nilIface]) ∧ BW B2 b (cs ++ Lib.strCells s) w' ∧ Fr (fun k => k = b ∨ B2 ≤ k) w w' := by
  obtain ⟨i0, hi, hz0, hz1, hz2⟩ := info_parts byte_info
  have HCC := Lib.hid (kcopy_b h hb)
  clear h
  go_enter Tryz.func70, Tryz.ntmps70
  go_wp2_with (go_at_call 113; refine HCC.out.mono ?_)
  rintro e w1 ⟨rfl, ⟨v, hbk, hown⟩, hf1, hs1⟩
  have HF1 := Lib.hid hf1
  clear hf1
  have hne := Lib.ownBlock_neF hown hbk bld_ne
  have c0 : w1.cell? ⟨b, 0, none⟩ = some (.pointer (some ⟨b, 0, none⟩)) := by rw [Lib.cell_of_heap hbk]; rfl
  have c1 : w1.cell? ⟨b, 1, none⟩ = some v := by rw [Lib.cell_of_heap hbk]; rfl
  go_wp2_with (at_builtin; refine Lib.wpList_append_own_stringF _ rfl _ _ 103 9 rfl B2 5 i0 Tryz.underlying103 Tryz.underlying9 hi hz0 hz1 hz2 _ _ _ rfl hown s rfl ?c3 ?c4 ?c5 ?_)
  case c3 => unfold maxLen; omega
  case c4 => omega
  case c5 => omega
  intro v' w2 hown' hgrow _
  have hlt := blt hbk
  have hb2 : w2.heap[b]? = some (.cells #[.pointer (some ⟨b, 0, none⟩), v] 112 (0, 0)) := by
    rw [hgrow.block b hlt (fun e => hne e.symm)]
    exact hbk
  have HF2 := Lib.hid ((Fr.of_grown hgrow).mono (G := fun k => k = b ∨ B2 ≤ k) (fun k _ e => .inr (hown.lt k e).1))
  have d0 : w2.cell? ⟨b, 0, none⟩ = some (.pointer (some ⟨b, 0, none⟩)) := by rw [Lib.cell_of_heap hb2]; rfl
  have d1 : w2.cell? ⟨b, 1, none⟩ = some v := by rw [Lib.cell_of_heap hb2]; rfl
  have f1 : w2.frozen? ⟨b, 1, none⟩ = false := Lib.frozen_of_heap hb2 1
  obtain ⟨ao, n', cap, rfl⟩ : ∃ ao n' cap, v' = .slice ao n' cap := by
    rcases hown'.2 with ⟨hv, _⟩ | ⟨g, cap, cur, fz, hv, _⟩
    · exact ⟨_, _, _, hv⟩
    · exact ⟨_, _, _, hv⟩
  go_wp2
  go_ret2
  have hne' := Lib.ownBlock_neF hown' hb2 bld_ne
  refine ⟨rfl, ⟨.pointer (some ⟨b, 0, none⟩), .slice ao n' cap, .inr rfl, ?_, ?_⟩, ?_⟩
  · rw [block_set hb2]; rfl
  · have hl2 : (cs ++ Lib.strCells s).length = cs.length + s.size := by simp [Lib.strCells_length]
    rw [hl2]
    exact hown'.kept (row := some b) ⟨rfl, rfl, rfl, by simp [World.setCell], fun k _ hk => Below.heap_setCell _ _ _ _ (fun e => hk (by simp [e]))⟩ (Or.inr hne')
  · exact (HF1.out.trans HF2.out).trans ((Fr.of_setCell w2 ⟨b, 1, none⟩ _).mono (fun k _ e => .inl e))

open Go.RowKit Go.ChangeShapes Go.WideShapes
set_option maxRecDepth 20000
/-- what showWord answers -/
def wordV : Option (List UInt8) → Value
  | some y => .tuple #[.string (strOf y), .int .i64 0]
  | none => .tuple #[.string ⟨#[]⟩, .int .i64 10]
theorem word_ret {o : Option (List UInt8)} {y : List UInt8} (h : o = some y) : Ending.returned (.tuple #[.string (strOf y), .int .i64 0]) = .returned (wordV o) := by rw [h]; rfl
theorem word_ret0 {o : Option (List UInt8)} (h : o = none) : Ending.returned (.tuple #[.string ⟨#[]⟩, .int .i64 10]) = .returned (wordV o) := by rw [h]; rfl
theorem sepA_kind (j : Nat) (b : Bool) (h : j ≠ 0) : sepA j b = sepA 1 b := by unfold sepA; rw [if_neg h, if_neg (show ¬ (1 : Nat) = 0 by decide)]
theorem sepA_len (j : Nat) (b : Bool) : (sepA j b).length ≤ 4 := by
  unfold sepA
  split
  · simp
  · split <;> simp
set_option maxHeartbeats 4000000 in
theorem kshowword_any {w : World} {F : Nat → Prop} {B : Nat} {L : Nat → List ByteArray} (hT : Atm.Tab w F B L) (hLd : LaidT w) (x : ByteArray) (hx : x.size ≤ 1000) :
    Calls Tryz.prog 36 #[.pointer (some ⟨B, 0, none⟩), .string x] w (KeptPost (wordV (sayW L true true (atoms (bs x)))) w) := by
  have HSA : Hid (∀ W, Kept w W → ∀ a : Int, 0 ≤ a → a ≤ 65535 → Calls Tryz.prog 68 #[.pointer (some ⟨B, 0, none⟩), .int .u16 a] W (KeptPost (.string (strOf (sayA L a))) W)) := Lib.hid (fun W hW a h0 h1 => kshowatom_any (hT.later hW) (hLd.kept hW) a h0 h1)
  have HKD := Lib.hid (fun a (h0 : (0 : Int) ≤ a) (h1 : a ≤ 65535) W => Atm.kind_any a W h0 h1)
  have HAN : Hid ((atoms (bs x)).length ≤ 500) := Lib.hid (by rw [atoms_len, bs_len]; omega)
  have HAG := Lib.hid (atoms_good (bs x))
  have HAW := Lib.hid (fun W => atoms_any x W (by omega))
  clear hT hLd hx
  generalize hA : atoms (bs x) = A at *
  have HCL : Hid ((cellsOf A).length = A.length) := Lib.hid (by simp [cellsOf])
  clear hA
  have HK0 : Hid (Kept w (w.alloc (Obj.cells #[.pointer none, .slice none 0 0] 112))) := Lib.hid (Fr.of_alloc _ _ _)
  have HB0 := Lib.hid (BW.new w)
  go_enter Tryz.func36, Tryz.ntmps36
  go_wp2_with fail
  refine (HAW.out _).mono ?_
  rintro e w1 ⟨v1, rfl, hrow, hk1⟩
  have HK1 := Lib.hid (HK0.out.trans hk1)
  have HB1 := Lib.hid ((HB0.out w1.heap.size).kept hk1)
  have HLT : Hid (w.heap.size < w1.heap.size) := Lib.hid (by have := hk1.size; simp at this; omega)
  obtain ⟨ar, cr, hvr, hcr, hxr⟩ := Reads.of_row hrow
  subst hvr
  have HXR := Lib.hid hxr
  have HNB : Hid (∀ g off (i : Nat) (u : Value), (cellsOf A)[i]? = some u → ar = some ⟨g, off, none⟩ → g ≠ w.heap.size ∧ g < w1.heap.size) := Lib.hid (fun g off i u hu he => by
    obtain ⟨g', off', he', hg', hc'⟩ := hxr i u hu
    rw [he] at he'
    cases he'
    refine ⟨by have := hg'.1; have := hk1.size; simp at *; omega, ?_⟩
    rcases Nat.lt_or_ge g w1.heap.size with h | h
    · exact h
    · simp [World.cell?, Array.getElem?_eq_none h] at hc')
  clear hk1 hrow hxr HK0 HB0 HAW
  generalize hb0 : w.heap.size = b0 at *
  have HBE : Hid (w.heap.size ≤ b0) := Lib.hid (by omega)
  clear hb0
  generalize hm8 : (cellsOf A).length = m at *
  have HM8 := Lib.hid hm8
  clear hm8
  have hm9 : m ≤ 500 := by rw [HCL.out]; exact HAN.out
  have HF0 : Hid (Fr (fun k => k = b0 ∨ w1.heap.size ≤ k) w1 w1) := Lib.hid (Fr.refl _ _)
  have hHW : ∀ W, Fr (fun k => k = b0 ∨ w1.heap.size ≤ k) w1 W → Kept w W := fun W h => HK1.out.over h (fun j hj => by have := HBE.out; have := HLT.out; omega)
  have HHW := Lib.hid hHW
  clear hHW
  go_wp2
  go_loopw [7, 14] (fun ov iv wr => ∃ (j : Nat) (o : List UInt8) (only : Bool), ov = .bool only ∧ iv = .int .i64 j ∧ j ≤ m ∧ Hid (sayW L true true A = (sayW L only (decide (j = 0)) (A.drop j)).map (o ++ ·)) ∧ Hid (o.length ≤ j * 44) ∧ Hid (BW w1.heap.size b0 (Lib.byteCells o) wr) ∧ Hid (Fr (fun k => k = b0 ∨ w1.heap.size ≤ k) w1 wr)) (fun _ iv _ => m - (intOf iv).toNat)
  case atStart => exact ⟨0, [], true, rfl, rfl, by omega, Lib.hid (by simp), Lib.hid (by simp), HB1, HF0⟩
  case round =>
    obtain ⟨j, o, only, rfl, rfl, hj, hsw, hlo, hbw, hfr⟩ := hrel
    clear HB1 HF0
    have HKW := Lib.hid (HHW.out _ hfr.out)
    by_cases hlt : j < m
    · have hlti : (j : Int) < m := by omega
      obtain ⟨a, ha⟩ : ∃ a, A[j]? = some a := ⟨_, List.getElem?_eq_getElem (by rw [← HCL.out]; exact hlt)⟩
      obtain ⟨g, off, rfl, _, hc0⟩ := HXR.out j _ (cells_get ha)
      have hnb := HNB.out g off j _ (cells_get ha) rfl
      have c0 := hfr.out.cell hc0 (by rintro (h | h); exact hnb.1 h; omega)
      have hr := HAG.out a (List.mem_of_getElem? ha)
      have HA := Lib.hid ha
      obtain ⟨wd, hsa, hwl⟩ : ∃ wd : List UInt8, sayA L a = wd ∧ wd.length ≤ 40 := ⟨_, rfl, word_len _⟩
      have HSW0 := HSA.out wr HKW.out a hr.1 hr.2
      rw [hsa] at HSW0
      have HCW := Lib.hid HSW0
      have HKA := Lib.hid (HKD.out a hr.1 hr.2)
      have HSE := Lib.hid hsa
      have HWL := Lib.hid hwl
      clear ha hc0 hnb hr hsa hwl HSW0
      by_cases hw : wd = []
      · have HX := Lib.hid (sayW_none HA.out hsw.out (by rw [HSE.out, hw]))
        have hE : (strOf wd).toList = [] := by rw [bs_toList, bs_strOf]; exact hw
        clear hw
        go_wp2_with fail
        refine HCW.out.mono ?_
        rintro e w4 ⟨rfl, hk4⟩
        have HK4 := Lib.hid (HKW.out.trans hk4)
        clear hk4 c0
        go_wp2
        go_ret2
        exact ⟨word_ret0 HX.out, HK4.out⟩
      · have hE : ¬ (strOf wd).toList = [] := by rw [bs_toList, bs_strOf]; exact hw
        have hE2 : (strOf wd).toList.isEmpty = false := by rw [bs_toList, bs_strOf]; simpa using hw
        have HSN := Lib.hid (sayW_step HA.out hsw.out (by rw [HSE.out]; exact hw))
        rw [HSE.out] at HSN
        clear hw
        go_wp2_with fail
        refine HCW.out.mono ?_
        rintro e w4 ⟨rfl, hk4⟩
        have HB4 := Lib.hid (hbw.out.kept hk4)
        have HF4 := Lib.hid (hfr.out.trans (hk4.mono (G := fun k => k = b0 ∨ w1.heap.size ≤ k) (fun k _ h => h.elim)))
        have HS4 : Hid (w1.heap.size ≤ w4.heap.size) := Lib.hid HF4.out.size
        have hol : o.length ≤ 22000 := by have := hlo.out; omega
        clear hk4 c0
        by_cases hj0 : j = 0
        · subst hj0
          have HWS := Lib.hid (kws_any (strOf wd) HB4.out HLT.out HS4.out (by rw [Lib.byteCells_length, strOf_size]; have := HWL.out; omega))
          go_wp2_with fail
          refine HWS.out.mono ?_
          rintro e w5 ⟨rfl, hb5, hf5⟩
          rw [byteCells_strOf, ← Lib.byteCells_append] at hb5
          have HB5 := Lib.hid hb5
          have HF5 := Lib.hid (HF4.out.trans hf5)
          clear hb5 hf5
          go_wp2
          exact ⟨⟨1, o ++ wd, only, rfl, rfl, by omega, Lib.hid (by simpa [sepA] using HSN.out), Lib.hid (by have := HWL.out; have := hlo.out; simp only [List.length_append]; omega), HB5, HF5⟩, by simp [intOf]; omega⟩
        · have gj : 0 < (j : Int) := by omega
          have e1 : decide (j = 0) = false := by simp [hj0]
          rw [e1, Bool.false_or, sepA_kind j _ hj0, ← List.append_assoc] at HSN
          cases only
          · rw [Bool.false_and] at HSN
            go_wp2_with fail
            refine (kbetween_any false _).mono ?_
            rintro e w5 ⟨rfl, rfl⟩
            have HW1 := Lib.hid (kws_any (strOf (sepA 1 false)) HB4.out HLT.out HS4.out (by rw [Lib.byteCells_length, strOf_size]; have := sepA_len 1 false; omega))
            go_wp2_with fail
            refine HW1.out.mono ?_
            rintro e w5 ⟨rfl, hb5, hf5⟩
            rw [byteCells_strOf, ← Lib.byteCells_append] at hb5
            have HB5 := Lib.hid hb5
            have HF5 := Lib.hid (HF4.out.trans hf5)
            have HS5 : Hid (w1.heap.size ≤ w5.heap.size) := Lib.hid HF5.out.size
            clear hb5 hf5
            have HW2 := Lib.hid (kws_any (strOf wd) HB5.out HLT.out HS5.out (by rw [Lib.byteCells_length, strOf_size, List.length_append]; have := HWL.out; have := sepA_len 1 false; omega))
            go_wp2_with fail
            refine HW2.out.mono ?_
            rintro e w6 ⟨rfl, hb6, hf6⟩
            rw [byteCells_strOf, ← Lib.byteCells_append] at hb6
            have HB6 := Lib.hid hb6
            have HF6 := Lib.hid (HF5.out.trans hf6)
            clear hb6 hf6
            go_wp2
            exact ⟨⟨j + 1, (o ++ sepA 1 false) ++ wd, false, by rfl, by go_num, by omega, HSN, Lib.hid (by have := HWL.out; have := hlo.out; have := sepA_len 1 false; simp only [List.length_append]; omega), HB6, HF6⟩, by simp [intOf]; omega⟩
          · rw [Bool.true_and] at HSN
            by_cases hk5 : a / 8192 = 5
            · have g5 : (a / 8192 == 5) = true := by simp [hk5]
              rw [decide_eq_true hk5] at HSN
              clear hk5
              go_wp2_with fail
              refine (HKA.out _).mono ?_
              rintro e w5 ⟨rfl, rfl⟩
              go_wp2_with fail
              refine (kbetween_any true _).mono ?_
              rintro e w5 ⟨rfl, rfl⟩
              have HW1 := Lib.hid (kws_any (strOf (sepA 1 true)) HB4.out HLT.out HS4.out (by rw [Lib.byteCells_length, strOf_size]; have := sepA_len 1 true; omega))
              go_wp2_with fail
              refine HW1.out.mono ?_
              rintro e w5 ⟨rfl, hb5, hf5⟩
              rw [byteCells_strOf, ← Lib.byteCells_append] at hb5
              have HB5 := Lib.hid hb5
              have HF5 := Lib.hid (HF4.out.trans hf5)
              have HS5 : Hid (w1.heap.size ≤ w5.heap.size) := Lib.hid HF5.out.size
              clear hb5 hf5
              have HW2 := Lib.hid (kws_any (strOf wd) HB5.out HLT.out HS5.out (by rw [Lib.byteCells_length, strOf_size, List.length_append]; have := HWL.out; have := sepA_len 1 true; omega))
              go_wp2_with fail
              refine HW2.out.mono ?_
              rintro e w6 ⟨rfl, hb6, hf6⟩
              rw [byteCells_strOf, ← Lib.byteCells_append] at hb6
              have HB6 := Lib.hid hb6
              have HF6 := Lib.hid (HF5.out.trans hf6)
              clear hb6 hf6
              go_wp2
              exact ⟨⟨j + 1, (o ++ sepA 1 true) ++ wd, true, by rfl, by go_num, by omega, HSN, Lib.hid (by have := HWL.out; have := hlo.out; have := sepA_len 1 true; simp only [List.length_append]; omega), HB6, HF6⟩, by simp [intOf]; omega⟩
            · have g5 : (a / 8192 == 5) = false := by simp [hk5]
              rw [decide_eq_false hk5] at HSN
              clear hk5
              go_wp2_with fail
              refine (HKA.out _).mono ?_
              rintro e w5 ⟨rfl, rfl⟩
              go_wp2_with fail
              refine (kbetween_any false _).mono ?_
              rintro e w5 ⟨rfl, rfl⟩
              have HW1 := Lib.hid (kws_any (strOf (sepA 1 false)) HB4.out HLT.out HS4.out (by rw [Lib.byteCells_length, strOf_size]; have := sepA_len 1 false; omega))
              go_wp2_with fail
              refine HW1.out.mono ?_
              rintro e w5 ⟨rfl, hb5, hf5⟩
              rw [byteCells_strOf, ← Lib.byteCells_append] at hb5
              have HB5 := Lib.hid hb5
              have HF5 := Lib.hid (HF4.out.trans hf5)
              have HS5 : Hid (w1.heap.size ≤ w5.heap.size) := Lib.hid HF5.out.size
              clear hb5 hf5
              have HW2 := Lib.hid (kws_any (strOf wd) HB5.out HLT.out HS5.out (by rw [Lib.byteCells_length, strOf_size, List.length_append]; have := HWL.out; have := sepA_len 1 false; omega))
              go_wp2_with fail
              refine HW2.out.mono ?_
              rintro e w6 ⟨rfl, hb6, hf6⟩
              rw [byteCells_strOf, ← Lib.byteCells_append] at hb6
              have HB6 := Lib.hid hb6
              have HF6 := Lib.hid (HF5.out.trans hf6)
              clear hb6 hf6
              go_wp2
              exact ⟨⟨j + 1, (o ++ sepA 1 false) ++ wd, false, by rfl, by go_num, by omega, HSN, Lib.hid (by have := HWL.out; have := hlo.out; have := sepA_len 1 false; simp only [List.length_append]; omega), HB6, HF6⟩, by simp [intOf]; omega⟩
    · have hlti : ¬ (j : Int) < m := by omega
      have HX := Lib.hid (sayW_end (by rw [← HCL.out]; omega) hsw.out)
      have HST := Lib.hid (kstring_any b0 b0 o wr (hbw.out.bld (Nat.le_of_lt HLT.out)) (by have := hfr.out.size; have := HLT.out; omega))
      go_wp2_with fail
      refine HST.out.mono ?_
      rintro e w5 ⟨rfl, hb5⟩
      have HK5 : Hid (Kept w w5) := Lib.hid (HKW.out.over (F := fun k => b0 ≤ k) ⟨hb5.os, hb5.tape, hb5.output, hb5.size, fun i hi hn => hb5.block i (by omega)⟩ (fun j hj => by have := HBE.out; omega))
      clear hb5
      go_wp2
      go_ret2
      exact ⟨word_ret HX.out, HK5.out⟩

open Go.RowKit Go.ChangeShapes Go.WideShapes
set_option maxRecDepth 20000
theorem Tryz.infoStr6 : (Tryz.prog.info? 9).map (fun i => (i.zero, i.size, i.bytes)) = some (some (.string ⟨#[]⟩), 1, 16) := by kernel_rfl
theorem Tryz.sliceStr6 : SliceOf Tryz.prog 22 9 (.string ⟨#[]⟩) 1 16 := slice_of Tryz.underlying22 Tryz.infoStr6 rfl (by decide)
theorem joinX : Builder.Extra Tryz.prog Tryz.joinL_ren where
  sizeBuilder := by kernel_rfl
  liesBuilder := by kernel_rfl
  t5 := Tryz.underlying5
  a5 := Tryz.isAgg5
  z5 := Tryz.sizeOf5
  v5 := Tryz.zeroValue5
  infoByte := by kernel_rfl
  cellsByte := by kernel_rfl
  sizeByte := by kernel_rfl
  neB5 := by decide
/-- texts as strings -/
def tcells (ws : List (List UInt8)) : List Value := ws.map (fun y => .string (strOf y))
theorem tcells_len (ws : List (List UInt8)) : (tcells ws).length = ws.length := by simp [tcells]
theorem tcells_snoc (ws : List (List UInt8)) (y : List UInt8) : tcells (ws ++ [y]) = tcells ws ++ [.string (strOf y)] := by simp [tcells]
def andS : List UInt8 := [32, 97, 110, 100, 32]
theorem kjoin_any {w : World} {base : Nat} {v : Value} {ws : List (List UInt8)} (h : w.ownsRow base 9 1 v ws.length (tcells ws)) (hne : ws ≠ []) (hn : ws.length ≤ 1000) (hl : ∀ y ∈ ws, y.length ≤ 1000) :
    Calls Tryz.prog 37 #[v, .string ⟨#[32, 97, 110, 100, 32]⟩] w (KeptPost (.string (strOf (Lib.join ws andS))) w) := by
  have hn0 : ws.length ≠ 0 := fun e => hne (List.length_eq_zero_iff.1 e)
  obtain ⟨g, cap, rfl, hc⟩ := own_some h hn0
  have hlt : g < w.heap.size := (own_lt h (g := g) (by simp [Value.ownBlock])).2
  have e1 : ((ws.map strOf).map (·.data.toList)) = ws := by
    rw [List.map_map]
    exact (List.map_congr_left (fun y _ => (rfl : (strOf y).data.toList = y))).trans (List.map_id ws)
  have hlen : (Lib.join ws andS).length ≤ 2000000 := by
    obtain ⟨x, r, rfl⟩ := List.exists_cons_of_ne_nil hne
    rw [Lib.join_cons, List.length_append, Lib.joinTail_length]
    have h1 := hl x (by simp)
    have h2 : ∀ r : List (List UInt8), (∀ y ∈ r, y.length ≤ 1000) → Lib.lens r ≤ 1000 * r.length := fun r => by
      induction r with
      | nil => intro _; simp [Lib.lens]
      | cons y r ih =>
        intro hy
        have := ih (fun z hz => hy z (by simp [hz]))
        have := hy y (by simp)
        simp only [Lib.lens, List.map_cons, List.sum_cons, List.length_cons] at *
        omega
    have h3 := h2 r (fun y hy => hl y (by simp [hy]))
    simp only [List.length_cons] at hn
    have h4 : andS.length = 5 := rfl
    rw [h4]
    omega
  have hj := Any.strings_Join Tryz.joinL joinX g 0 cap (ws.map strOf) ⟨#[32, 97, 110, 100, 32]⟩ w (fun j x hx => by
      rw [List.getElem?_map] at hx
      obtain ⟨y, hy, rfl⟩ := Option.map_eq_some_iff.1 hx
      rw [Nat.zero_add]
      exact own_at1 h (by unfold tcells; rw [List.getElem?_map, hy]; rfl)) hlt (by rw [List.length_map]; omega) (by rw [List.length_map]; exact hc) (by rw [e1]; show (Lib.join ws andS).length ≤ _; omega)
  rw [List.length_map, e1] at hj
  refine hj.mono ?_
  rintro e w' ⟨rfl, hb⟩
  exact ⟨rfl, hb.os, hb.tape, hb.output, hb.size, fun i hi _ => hb.block i hi⟩
theorem sayW_short {L : Nat → List ByteArray} : ∀ {A : List Int} {b f : Bool} {y : List UInt8}, sayW L b f A = some y → y.length ≤ 44 * A.length
  | [], b, f, y, h => by
    rw [sayW] at h
    cases h
    simp
  | a :: r, b, f, y, h => by
    rw [sayW] at h
    split at h
    · cases h
    · obtain ⟨x, hx, rfl⟩ := Option.map_eq_some_iff.1 h
      have ih := sayW_short hx
      have h1 : (sayA L a).length ≤ 40 := word_len _
      simp only [List.length_append, List.length_cons]
      have h2 : (if f = true then ([] : List UInt8) else if (b && decide (a / 8192 = 5)) = true then [32, 97, 115, 32] else [32, 124, 32]).length ≤ 4 := by
        split
        · simp
        · split <;> simp
      omega
theorem sayL_tail {L : Nat → List ByteArray} : ∀ {s : List ByteArray} {ws : List (List UInt8)}, s.map (fun y => sayW L true true (atoms (bs y))) = ws.map some → sayL L false s = some (Lib.joinTail andS ws)
  | [], ws, h => by
    have : ws = [] := by simpa using h.symm
    subst this
    rfl
  | y :: r, [], h => by simp at h
  | y :: r, x :: ws, h => by
    simp only [List.map_cons, List.cons.injEq] at h
    rw [sayL, h.1]
    simp only []
    rw [sayL_tail h.2]
    rfl
theorem sayL_join {L : Nat → List ByteArray} {s : List ByteArray} {ws : List (List UInt8)} (hs : s ≠ []) (h : s.map (fun y => sayW L true true (atoms (bs y))) = ws.map some) : sayL L true s = some (Lib.join ws andS) := by
  obtain ⟨y, r, rfl⟩ := List.exists_cons_of_ne_nil hs
  match ws, h with
  | x :: ws, h =>
    simp only [List.map_cons, List.cons.injEq] at h
    rw [sayL, h.1]
    simp only []
    rw [sayL_tail h.2, Lib.join_cons]
    rfl
theorem sayL_lack {L : Nat → List ByteArray} : ∀ {s : List ByteArray} {b : Bool} {y : ByteArray}, y ∈ s → sayW L true true (atoms (bs y)) = none → sayL L b s = none
  | z :: r, b, y, h, hy => by
    rw [sayL]
    rcases List.mem_cons.1 h with rfl | h
    · rw [hy]
    · cases hz : sayW L true true (atoms (bs z)) with
      | none => rfl
      | some x =>
        simp only []
        rw [sayL_lack h hy]
        rfl

open Go.RowKit Go.ChangeShapes Go.WideShapes
set_option maxRecDepth 20000
theorem map_snoc {α β : Type} {f : α → β} {s : List α} {k : Nat} {y : α} {ws : List β} (h : (s.take k).map f = ws) (hy : s[k]? = some y) : (s.take (k + 1)).map f = ws ++ [f y] := by
  rw [List.take_add_one, hy, List.map_append, h]
  rfl
set_option maxHeartbeats 4000000 in
theorem kshow6_any {w : World} {F : Nat → Prop} {B : Nat} {L : Nat → List ByteArray} (hT : Atm.Tab w F B L) (hLd : LaidT w) {G : Nat → Prop} {v : Value} {s : List ByteArray} (h : Reads w G v (wcells s)) (hl : s.length ≤ 100000) (hs : Small 100000 s) :
    Calls Tryz.prog 17 #[.pointer (some ⟨B, 0, none⟩), v] w (Show6Post L s w) := by
  have HR := Lib.hid h
  have HMY := Lib.hid (may_set (w := w) HR.out hl (fun x hx => by have := hs x hx; unfold maxLen; omega))
  have HSW : Hid (∀ W, Kept w W → ∀ x : ByteArray, x.size ≤ 1000 → Calls Tryz.prog 36 #[.pointer (some ⟨B, 0, none⟩), .string x] W (KeptPost (wordV (sayW L true true (atoms (bs x)))) W)) := Lib.hid (fun W hW x hx => kshowword_any (hT.later hW) (hLd.kept hW) x hx)
  obtain ⟨ao, c, rfl, hcc, hc⟩ := h
  have HC := Lib.hid hc
  have HWN : Hid ((wcells s).length = s.length) := Lib.hid (wcells_len s)
  clear hT hLd hc hl hs hcc
  by_cases hm : mayL s = true
  rotate_left
  · have hm' : mayL s = false := by simpa using hm
    have HX : Hid (showL L s = ([], 2)) := Lib.hid (by unfold showL; rw [if_pos hm'])
    generalize (wcells s).length = n at *
    go_enter Tryz.func17, Tryz.ntmps17
    go_wp2_with fail
    refine HMY.out.mono ?_
    rintro e w1 ⟨rfl, hk1⟩
    rw [hm']
    have HK := Lib.hid hk1
    clear hk1 hm hm'
    go_wp2
    go_ret2
    exact show6_of HX.out HK.out
  have HMI := Lib.hid (mayL_iff.1 hm)
  have HMT := Lib.hid hm
  have hn16 : s.length ≤ 16 := HMI.out.1.2
  generalize hn : (wcells s).length = n at *
  have HN : Hid (s.length = n) := Lib.hid (by rw [← HWN.out])
  have hnn : n ≤ 16 := by rw [← HN.out]; exact hn16
  clear hn hn16 HWN
  go_enter Tryz.func17, Tryz.ntmps17
  go_wp2_with fail
  refine HMY.out.mono ?_
  rintro e w1 ⟨rfl, hk1⟩
  rw [hm]
  have HK1 := Lib.hid hk1
  have HO0 : Hid (w1.ownsRow w.heap.size 9 1 (.slice none 0 0) ([] : List (List UInt8)).length (tcells [])) := Lib.hid (own_nil _ _ _ _)
  clear hk1 hm HMY
  go_wp2
  go_loopw [6, 20] (fun sv iv wr => ∃ (k : Nat) (ws : List (List UInt8)), iv = .int .i64 k ∧ k ≤ n ∧ Hid (ws.length = k) ∧ Hid ((s.take k).map (fun y => sayW L true true (atoms (bs y))) = ws.map some) ∧ Hid (wr.ownsRow w.heap.size 9 1 sv ws.length (tcells ws)) ∧ Hid (Kept w wr)) (fun _ iv _ => n - (intOf iv).toNat)
  case atStart => exact ⟨0, [], rfl, by omega, Lib.hid rfl, Lib.hid (by simp), HO0, HK1⟩
  case round =>
    obtain ⟨k, ws, rfl, hk, hwk, hws, ho, hkp⟩ := hrel
    clear HK1 HO0
    by_cases hlt : k < n
    · have hlti : (k : Int) < n := by omega
      obtain ⟨y, hy⟩ : ∃ y, s[k]? = some y := ⟨_, List.getElem?_eq_getElem (by rw [HN.out]; exact hlt)⟩
      obtain ⟨g, off, rfl, _, hcell0⟩ := HC.out k _ (wcells_get hy)
      have hcell := hkp.out.cell hcell0 (fun x => x)
      have HY := Lib.hid hy
      have HMW := Lib.hid (mayS_size (HMI.out.2.1 y (List.mem_of_getElem? hy)))
      have HCW := Lib.hid (HSW.out _ hkp.out y (by have := HMW.out.2.2.1; omega))
      clear hcell0 hy
      cases hw : sayW L true true (atoms (bs y)) with
      | none =>
        rw [hw] at HCW
        have HX : Hid (showL L s = ([], 10)) := Lib.hid (by unfold showL; rw [if_neg (by rw [HMT.out]; decide), sayL_lack (List.mem_of_getElem? HY.out) hw])
        unfold wordV at HCW
        simp only [] at HCW
        clear hw
        go_wp2_with fail
        refine HCW.out.mono ?_
        rintro e w4 ⟨rfl, hk4⟩
        have HK4 := Lib.hid (hkp.out.trans hk4)
        clear hk4 hcell
        go_wp2
        go_ret2
        exact show6_of HX.out HK4.out
      | some x =>
        rw [hw] at HCW
        have HNX : Hid ((s.take (k + 1)).map (fun y => sayW L true true (atoms (bs y))) = (ws ++ [x]).map some) := Lib.hid (by rw [map_snoc hws.out HY.out, hw]; simp)
        unfold wordV at HCW
        simp only [] at HCW
        clear hw
        go_wp2_with fail
        refine HCW.out.mono ?_
        rintro e w4 ⟨rfl, hk4⟩
        have HK4 := Lib.hid (hkp.out.trans hk4)
        have HO4 : Hid ((w4.alloc (.cells #[.string (strOf x)] 9)).ownsRow w.heap.size 9 1 _ ws.length (tcells ws)) := Lib.hid (own_kept ho.out (hk4.trans (Fr.of_alloc _ _ _)))
        obtain ⟨bo, d, hv, hd⟩ := own_slice ho.out
        subst hv
        have HBS : Hid (w.heap.size ≤ (w4.alloc (.cells #[.string (strOf x)] 9)).heap.size) := Lib.hid (HK4.out.trans (Fr.of_alloc _ _ _)).size
        have HOW := Lib.hid (fun g hg => (own_lt HO4.out (g := g) hg).1)
        clear hk4 hcell ho
        generalize hml : ws.length = m at *
        have HML := Lib.hid hml
        have hmb : m ≤ 16 := by have := hwk.out; omega
        clear hml
        go_wp2_with (at_builtin; refine list_app rfl (.tmp 33) (.tmp 35) 22 22 rfl Tryz.sliceStr6 rfl HO4.out rfl (src_one (u := .string (strOf x)) Tryz.underlying22 (heap_alloc_new _ _) rfl) (by unfold maxLen; omega) (by omega) HBS.out ?_; intro v1 w6 hq; have HQ := Lib.hid hq; clear hq)
        go_roundw
        case rel => exact ⟨k + 1, ws ++ [x], by go_num, by omega, Lib.hid (by rw [List.length_append, HML.out, hwk.out]; rfl), HNX, Lib.hid (by have := HQ.out.1; rw [tcells_snoc, List.length_append, HML.out]; exact this), Lib.hid (HQ.out.kept (HK4.out.trans (Fr.of_alloc _ _ _)) HOW.out).1⟩
        case measure => simp [intOf]; omega
    · have hke : k = n := by omega
      have HJN := hws.out
      rw [List.take_of_length_le (by rw [HN.out]; omega)] at HJN
      have hne : s ≠ [] := by have := HMI.out.1.1; intro e; rw [e] at this; simp at this
      have HX : Hid (showL L s = (Lib.join ws andS, 0)) := Lib.hid (by unfold showL; rw [if_neg (by rw [HMT.out]; decide), sayL_join hne HJN])
      have HJ := Lib.hid (kjoin_any ho.out (by intro e; have h1 := hwk.out; rw [e] at h1; have := HMI.out.1.1; have h2 := HN.out; simp at h1; omega) (by rw [hwk.out]; omega) (fun y hy => by
        have h1 : some y ∈ ws.map some := List.mem_map.2 ⟨y, hy, rfl⟩
        rw [← HJN] at h1
        obtain ⟨z, hz, he⟩ := List.mem_map.1 h1
        have h2 := sayW_short he
        have h3 := (mayS_size (HMI.out.2.1 z hz)).2.2.1
        rw [atoms_len, bs_len] at h2
        omega))
      clear HJN hne
      have hlti : ¬ (k : Int) < n := by omega
      go_wp2_with fail
      refine HJ.out.mono ?_
      rintro e w5 ⟨rfl, hk5⟩
      have HK5 := Lib.hid (hkp.out.trans hk5)
      clear hk5
      go_wp2
      go_ret2
      exact show6_of HX.out HK5.out

end Go.Proofs.YtbfealhbdemhmaaGreatDoor
