/- Contracts and lemmas: P0 -/
import Derived.Test.YtfbmlacklhiecaaS2
import Derived.Lib.Builder
namespace Go.Proofs.Ytfbmlacklhiecaa
set_option linter.unusedVariables false
set_option linter.unusedSimpArgs false
open Go.RowKit Go.ChangeShapes Go.WideShapes
set_option maxRecDepth 20000

open Go.RowKit Go.ChangeShapes Go.WideShapes
set_option maxRecDepth 20000
/-- an error's number -/
def errOf {α : Type} : Option α → Int
  | some _ => 0
  | none => 2
/-- it goes on if it is so -/
def dem {α : Type} (s : Option α) (d : Bool) : Option α := if d = true then s else none
theorem dem_true {α : Type} (s : Option α) : dem s true = s := rfl
theorem dem_false {α : Type} (s : Option α) : dem s false = none := rfl
theorem dem_none {α : Type} (d : Bool) : dem (none : Option α) d = none := by cases d <;> rfl
/-- a number's bytes -/
def numF : Nat → Nat → List UInt8
  | 0, n => [UInt8.ofNat n]
  | f + 1, n => if 128 ≤ n then UInt8.ofNat (n % 128 + 128) :: numF f (n / 128) else [UInt8.ofNat n]
def numB (n : Nat) : List UInt8 := numF 9 n
theorem numF_len : ∀ f n, 1 ≤ (numF f n).length ∧ (numF f n).length ≤ f + 1
  | 0, n => by simp [numF]
  | f + 1, n => by
    have := numF_len f (n / 128)
    unfold numF
    split <;> simp <;> omega
theorem numB_len (n : Nat) : 1 ≤ (numB n).length ∧ (numB n).length ≤ 10 := numF_len 9 n
def wordB (w : ByteArray) : List UInt8 := UInt8.ofNat (w.size / 2) :: bs w
def setW : List ByteArray → List UInt8
  | [] => []
  | w :: r => wordB w ++ setW r
def setB (l : List ByteArray) : List UInt8 := UInt8.ofNat l.length :: setW l
theorem setW_append : ∀ (a b : List ByteArray), setW (a ++ b) = setW a ++ setW b
  | [], b => rfl
  | w :: r, b => by simp [setW, setW_append r b]
/-- what an Out has behind a call -/
def oNum (s : Option (List UInt8)) (n : Int) : Option (List UInt8) := (dem s (decide (0 ≤ n ∧ n ≤ 4611686018427387904))).map (· ++ numB n.toNat)
def oText (s : Option (List UInt8)) (t : ByteArray) : Option (List UInt8) := (oNum s t.size).map (· ++ bs t)
def oWord (s : Option (List UInt8)) (w : ByteArray) : Option (List UInt8) := (dem s (mayS w)).map (· ++ wordB w)
def oSet (s : Option (List UInt8)) (l : List ByteArray) : Option (List UInt8) := (dem s (mayL l)).map (· ++ setB l)
def oDone : Option (List UInt8) → ByteArray × Int
  | some l => (⟨l.toArray⟩, 0)
  | none => (⟨#[]⟩, 2)
def olen : Option (List UInt8) → Nat
  | some l => l.length
  | none => 0
theorem oNum_none (n : Int) : oNum none n = none := by simp [oNum, dem_none]
theorem oText_none (t : ByteArray) : oText none t = none := by simp [oText, oNum_none]
theorem oWord_none (t : ByteArray) : oWord none t = none := by simp [oWord, dem_none]
theorem oSet_none (t : List ByteArray) : oSet none t = none := by simp [oSet, dem_none]
theorem olen_map (s : Option (List UInt8)) (x : List UInt8) : olen (s.map (· ++ x)) ≤ olen s + x.length := by cases s <;> simp [olen]
theorem olen_dem (s : Option (List UInt8)) (d : Bool) : olen (dem s d) ≤ olen s := by cases d <;> simp [dem, olen]
theorem oNum_len (s : Option (List UInt8)) (n : Int) : olen (oNum s n) ≤ olen s + 10 := by
  have h1 := olen_map (dem s (decide (0 ≤ n ∧ n ≤ 4611686018427387904))) (numB n.toNat)
  have h2 := olen_dem s (decide (0 ≤ n ∧ n ≤ 4611686018427387904))
  have h3 := numB_len n.toNat
  unfold oNum; omega
theorem oText_len (s : Option (List UInt8)) (t : ByteArray) : olen (oText s t) ≤ olen s + 10 + t.size := by
  have h1 := olen_map (oNum s t.size) (bs t)
  have h2 := oNum_len s t.size
  rw [bs_len] at h1
  unfold oText; omega
theorem mayS_sz {w : ByteArray} (h : mayS w = true) : 2 ≤ w.size ∧ w.size ≤ 16 ∧ w.size % 2 = 0 := by
  simp [mayS, tornB] at h; omega
theorem oWord_len (s : Option (List UInt8)) (w : ByteArray) : olen (oWord s w) ≤ olen s + 17 := by
  unfold oWord
  cases hm : mayS w
  · simp [dem, olen]
  · have h1 := olen_map s (wordB w)
    have := mayS_sz hm
    have h2 : (wordB w).length = w.size + 1 := by simp [wordB, bs_len]
    simp only [dem_true]
    omega
/-- bytes of an In that stand from here on -/
def numR : Nat → Nat → Nat → List UInt8 → Option (Nat × List UInt8)
  | 0, _, _, _ => none
  | _ + 1, _, _, [] => none
  | f + 1, p, n, c :: r => if p ≠ 0 ∧ c = 0 then none else if c.toNat < 128 then some (n + c.toNat * 128 ^ p, r) else numR f (p + 1) (n + (c.toNat - 128) * 128 ^ p) r
def iNum (s : Option (List UInt8)) (most : Int) : Int × Option (List UInt8) :=
  match s.bind (numR 9 0 0) with
  | some (n, r) => if (n : Int) ≤ most ∧ (n : Int) ≤ 4611686018427387904 then ((n : Int), some r) else (0, none)
  | none => (0, none)
def iTake (s : Option (List UInt8)) (n : Nat) : ByteArray × Option (List UInt8) :=
  match s with
  | some l => if n ≤ l.length then (⟨(l.take n).toArray⟩, some (l.drop n)) else (⟨#[]⟩, none)
  | none => (⟨#[]⟩, none)
def iOne : Option (List UInt8) → UInt8 × Option (List UInt8)
  | some (c :: r) => (c, some r)
  | _ => (0, none)
def iText (s : Option (List UInt8)) (most : Int) : ByteArray × Option (List UInt8) := iTake (iNum s most).2 (iNum s most).1.toNat
/-- a word and what is left, if it may be -/
def keepW (r : ByteArray × Option (List UInt8)) : ByteArray × Option (List UInt8) :=
  match dem r.2 (mayS r.1) with
  | some l => (r.1, some l)
  | none => (⟨#[]⟩, none)
def iWord (s : Option (List UInt8)) : ByteArray × Option (List UInt8) := keepW (iTake (iOne s).2 (2 * (iOne s).1.toNat))
def iWords : Nat → Option (List UInt8) → List ByteArray × Option (List UInt8)
  | 0, s => ([], s)
  | n + 1, s => ((iWord s).1 :: (iWords n (iWord s).2).1, (iWords n (iWord s).2).2)
def keepL (r : List ByteArray × Option (List UInt8)) : List ByteArray × Option (List UInt8) :=
  match dem r.2 (mayL r.1) with
  | some l => (r.1, some l)
  | none => ([], none)
def iSet (s : Option (List UInt8)) : List ByteArray × Option (List UInt8) := keepL (iWords (iOne s).1.toNat (iOne s).2)
def iLeft : Option (List UInt8) → Int
  | some l => l.length
  | none => 0
def iDone : Option (List UInt8) → Int × Option (List UInt8)
  | some [] => (0, some [])
  | _ => (2, none)
theorem iNum_none (m : Int) : iNum none m = (0, none) := rfl
theorem iTake_none (n : Nat) : iTake none n = (⟨#[]⟩, none) := rfl
theorem iText_none (m : Int) : iText none m = (⟨#[]⟩, none) := rfl
theorem iWord_none : iWord none = (⟨#[]⟩, none) := rfl
theorem iWords_none : ∀ n, (iWords n none).2 = none
  | 0 => rfl
  | n + 1 => by simp [iWords, iWord_none, iWords_none n]
theorem iSet_none : iSet none = ([], none) := rfl
theorem iTake_size (s : Option (List UInt8)) (n : Nat) : (iTake s n).1.size ≤ n := by
  unfold iTake
  split
  · split
    · show (List.take n _).toArray.size ≤ n
      simp; omega
    · exact Nat.zero_le _
  · exact Nat.zero_le _
theorem iWord_size (s : Option (List UInt8)) : (iWord s).1.size ≤ 510 := by
  unfold iWord keepW
  split
  · have := iTake_size (iOne s).2 (2 * (iOne s).1.toNat)
    have := (iOne s).1.toNat_lt
    simp only []; omega
  · exact Nat.zero_le _
theorem iWords_size : ∀ (n : Nat) (s : Option (List UInt8)), Small 510 (iWords n s).1
  | 0, s => fun x hx => by cases hx
  | n + 1, s => fun x hx => by
    simp only [iWords, List.mem_cons] at hx
    rcases hx with rfl | hx
    · exact iWord_size s
    · exact iWords_size n _ x hx
theorem iWords_len : ∀ (n : Nat) (s : Option (List UInt8)), (iWords n s).1.length = n
  | 0, s => rfl
  | n + 1, s => by simp [iWords, iWords_len n]

open Go.RowKit Go.ChangeShapes Go.WideShapes
set_option maxRecDepth 20000
theorem blockSet {w : World} {g o : Nat} {v : Value} {cs : Array Value} {t : TypeId} {fr : Nat × Nat} (h : w.heap[g]? = some (.cells cs t fr)) : (w.setCell ⟨g, o, none⟩ v).heap[g]? = some (.cells (cs.setIfInBounds o v) t fr) := by
  simp [World.setCell, Array.getElem?_modify, h]
theorem heap_lt {w : World} {b : Nat} {o : Obj} (h : w.heap[b]? = some o) : b < w.heap.size := (Array.getElem?_eq_some_iff.1 h).1
/-- a block of bytes from B on -/
def Byt (B : Nat) (w : World) (k : Nat) : Prop := B ≤ k ∧ ∃ cs fr, w.heap[k]? = some (.cells cs 5 fr)
/-- only the block b turns, and blocks of bytes from B on -/
def TurnB (B b : Nat) (w w' : World) : Prop := Fr (fun k => k = b ∨ Byt B w k) w w'
theorem TurnB.refl (B b : Nat) (w : World) : TurnB B b w w := Fr.refl _ _
theorem TurnB.trans {B b : Nat} {x y z : World} (h : TurnB B b x y) (k : TurnB B b y z) : TurnB B b x z := by
  refine ⟨k.os.trans h.os, k.tape.trans h.tape, k.output.trans h.output, Nat.le_trans h.size k.size, fun i hi hn => ?_⟩
  have h1 := h.block i hi hn
  rw [← h1]
  refine k.block i (Nat.lt_of_lt_of_le hi h.size) (fun hf => hn ?_)
  rcases hf with hf | ⟨hb, cs, fr, hc⟩
  · exact .inl hf
  · exact .inr ⟨hb, cs, fr, by rw [← h1]; exact hc⟩
theorem TurnB.kept {B b : Nat} {x y : World} (h : Kept x y) : TurnB B b x y := h.mono (fun _ _ f => f.elim)
theorem TurnB.set {B b : Nat} {w : World} {o : Nat} {v : Value} : TurnB B b w (w.setCell ⟨b, o, none⟩ v) := (Fr.of_setCell w ⟨b, o, none⟩ v).mono (fun k _ e => .inl e)
/-- an Out: bytes, or none with an error -/
def OutAt (B b : Nat) (s : Option (List UInt8)) (w : World) : Prop :=
  ∃ v, w.heap[b]? = some (.cells #[.int .i64 (errOf s), v] 31 (0, 0)) ∧ ∀ l, s = some l → w.ownsRow B 5 1 v l.length (bcells l)
theorem out_ne : (31 : TypeId) ≠ 5 := by decide
theorem own_byt {w : World} {B n g : Nat} {v : Value} {xs : List Value} (h : w.ownsRow B 5 1 v n xs) (hg : v.ownBlock = some g) : Byt B w g := by
  rcases h.2 with ⟨rfl, _⟩ | ⟨g', cap, cur, rfl, hb, hh, _⟩
  · simp [Value.ownBlock] at hg
  · have : g' = g := by simpa [Value.ownBlock] using hg
    subst this
    exact ⟨hb, cur, _, hh⟩
theorem OutAt.lt {B b : Nat} {s : Option (List UInt8)} {w : World} (h : OutAt B b s w) : b < w.heap.size := by
  obtain ⟨v, h, _⟩ := h
  exact heap_lt h
/-- what turns neither it nor its row -/
theorem OutAt.fr {B b : Nat} {s : Option (List UInt8)} {w w' : World} {F : Nat → Prop} (h : OutAt B b s w) (hf : Fr F w w') (hb : ¬ F b) (hF : ∀ k, F k → ¬ Byt B w k) : OutAt B b s w' := by
  obtain ⟨v, hh, ho⟩ := h
  refine ⟨v, ?_, fun l hl => ?_⟩
  · rw [hf.block b (heap_lt hh) hb]; exact hh
  · have hol := ho l hl
    rcases hol.2 with ⟨rfl, h0⟩ | ⟨g, cap, cur, rfl, hbg, hg, hn, hm, hs, ht⟩
    · exact ⟨hol.1, .inl ⟨rfl, h0⟩⟩
    · refine ⟨hol.1, .inr ⟨g, cap, cur, rfl, hbg, ?_, hn, hm, hs, ht⟩⟩
      rw [hf.block g (heap_lt hg) (fun hx => hF g hx ⟨hbg, cur, _, hg⟩)]
      exact hg
theorem OutAt.kept {B b : Nat} {s : Option (List UInt8)} {w w' : World} (h : OutAt B b s w) (hf : Kept w w') : OutAt B b s w' := h.fr hf (fun x => x) (fun _ x => x.elim)
/-- a block of another type stays -/
theorem TurnB.other {B b g : Nat} {w w' : World} {cs : Array Value} {t : TypeId} {fr : Nat × Nat} (h : TurnB B b w w') (hg : w.heap[g]? = some (.cells cs t fr)) (hb : g ≠ b) (ht : t ≠ 5) : w'.heap[g]? = some (.cells cs t fr) := by
  rw [h.block g (heap_lt hg) (fun hf => ?_)]
  · exact hg
  · rcases hf with hf | ⟨_, cs', fr', hc⟩
    · exact hb hf
    · rw [hg] at hc; cases hc; exact ht rfl
theorem TurnB.over {B b : Nat} {w0 w w' : World} (h : TurnB B b w w') (hk : Kept w0 w) (hb : w0.heap.size ≤ b) (hB : w0.heap.size ≤ B) : Kept w0 w' :=
  ⟨h.os.trans hk.os, h.tape.trans hk.tape, h.output.trans hk.output, Nat.le_trans hk.size h.size, fun i hi _ => (h.block i (Nat.lt_of_lt_of_le hi hk.size) (fun f => by rcases f with f | ⟨f, _⟩ <;> omega)).trans (hk.block i hi (fun x => x))⟩
/-- a call of an Out's -/
def OutPost (B b : Nat) (s' : Option (List UInt8)) (w : World) (e : Ending) (w' : World) : Prop := e = .returned (.tuple #[]) ∧ OutAt B b s' w' ∧ TurnB B b w w'
/-- an In: bytes that are left, or none with an error -/
def InAt (b : Nat) (s : Option (List UInt8)) (w : World) : Prop :=
  ∃ r : ByteArray, w.heap[b]? = some (.cells #[.int .i64 (errOf s), .string r] 74 (0, 0)) ∧ r.size ≤ 1000000 ∧ ∀ l, s = some l → bs r = l
theorem InAt.lt {b : Nat} {s : Option (List UInt8)} {w : World} (h : InAt b s w) : b < w.heap.size := by
  obtain ⟨v, h, _⟩ := h
  exact heap_lt h
theorem InAt.fr {b : Nat} {s : Option (List UInt8)} {w w' : World} {F : Nat → Prop} (h : InAt b s w) (hf : Fr F w w') (hb : ¬ F b) : InAt b s w' := by
  obtain ⟨r, hh, ho⟩ := h
  refine ⟨r, ?_, ho⟩
  rw [hf.block b (heap_lt hh) hb]; exact hh
theorem InAt.kept {b : Nat} {s : Option (List UInt8)} {w w' : World} (h : InAt b s w) (hf : Kept w w') : InAt b s w' := h.fr hf (fun x => x)
theorem InAt.turnB {B b c : Nat} {s : Option (List UInt8)} {w w' : World} (h : InAt c s w) (hf : TurnB B b w w') (hb : c ≠ b) : InAt c s w' := by
  obtain ⟨r, hh, ho⟩ := h
  exact ⟨r, hf.other hh hb (by decide), ho⟩
/-- a call of an In's -/
def InPost (b : Nat) (v : Value) (s' : Option (List UInt8)) (w : World) (e : Ending) (w' : World) : Prop := e = .returned v ∧ InAt b s' w' ∧ Fr (fun k => k = b) w w'
/-- what turns one block that is no row of bytes -/
theorem OutAt.one {B b c : Nat} {s : Option (List UInt8)} {w w' : World} {cs : Array Value} {t : TypeId} {fr : Nat × Nat} (h : OutAt B b s w) (hf : Fr (fun k => k = c) w w') (hc : w.heap[c]? = some (.cells cs t fr)) (hb : c ≠ b) (ht : t ≠ 5) : OutAt B b s w' :=
  h.fr hf (fun e => hb e.symm) (fun k hk => by
    subst hk
    rintro ⟨_, cs', fr', hh⟩
    rw [hc] at hh; cases hh; exact ht rfl)
theorem fr_over {c : Nat} {w0 w w' : World} (h : Fr (fun k => k = c) w w') (hk : Kept w0 w) (hc : w0.heap.size ≤ c) : Kept w0 w' := Fr.over hk h (fun j hj => by omega)
/-- the document's Out -/
def ROutAt (b : Nat) (s : Option (List UInt8)) (w : World) : Prop :=
  ∃ r : ByteArray, w.heap[b]? = some (.cells #[.string r, .bool s.isNone] 34 (0, 0)) ∧ ∀ l, s = some l → bs r = l
theorem ROutAt.lt {b : Nat} {s : Option (List UInt8)} {w : World} (h : ROutAt b s w) : b < w.heap.size := by
  obtain ⟨v, h, _⟩ := h
  exact heap_lt h
theorem ROutAt.fr {b : Nat} {s : Option (List UInt8)} {w w' : World} {F : Nat → Prop} (h : ROutAt b s w) (hf : Fr F w w') (hb : ¬ F b) : ROutAt b s w' := by
  obtain ⟨r, hh, ho⟩ := h
  refine ⟨r, ?_, ho⟩
  rw [hf.block b (heap_lt hh) hb]; exact hh
theorem ROutAt.kept {b : Nat} {s : Option (List UInt8)} {w w' : World} (h : ROutAt b s w) (hf : Kept w w') : ROutAt b s w' := h.fr hf (fun x => x)
theorem ROutAt.turnB {B b c : Nat} {s : Option (List UInt8)} {w w' : World} (h : ROutAt c s w) (hf : TurnB B b w w') (hb : c ≠ b) : ROutAt c s w' := by
  obtain ⟨r, hh, ho⟩ := h
  exact ⟨r, hf.other hh hb (by decide), ho⟩
def ROutPost (b : Nat) (s' : Option (List UInt8)) (w : World) (e : Ending) (w' : World) : Prop := e = .returned (.tuple #[]) ∧ ROutAt b s' w' ∧ Fr (fun k => k = b) w w'
/-- the document's In, over the bytes x -/
def RInAt (b : Nat) (x : ByteArray) (s : Option (List UInt8)) (w : World) : Prop :=
  ∃ at0 : Nat, w.heap[b]? = some (.cells #[.string x, .int .i64 at0, .bool s.isNone] 50 (0, 0)) ∧ at0 ≤ x.size ∧ ∀ l, s = some l → (bs x).drop at0 = l
theorem RInAt.lt {b : Nat} {x : ByteArray} {s : Option (List UInt8)} {w : World} (h : RInAt b x s w) : b < w.heap.size := by
  obtain ⟨v, h, _⟩ := h
  exact heap_lt h
theorem RInAt.fr {b : Nat} {x : ByteArray} {s : Option (List UInt8)} {w w' : World} {F : Nat → Prop} (h : RInAt b x s w) (hf : Fr F w w') (hb : ¬ F b) : RInAt b x s w' := by
  obtain ⟨r, hh, ho⟩ := h
  refine ⟨r, ?_, ho⟩
  rw [hf.block b (heap_lt hh) hb]; exact hh
theorem RInAt.kept {b : Nat} {x : ByteArray} {s : Option (List UInt8)} {w w' : World} (h : RInAt b x s w) (hf : Kept w w') : RInAt b x s w' := h.fr hf (fun x => x)
def RInPost (b : Nat) (x : ByteArray) (v : Value) (s' : Option (List UInt8)) (w : World) (e : Ending) (w' : World) : Prop := e = .returned v ∧ RInAt b x s' w' ∧ Fr (fun k => k = b) w w'

end Go.Proofs.Ytfbmlacklhiecaa
