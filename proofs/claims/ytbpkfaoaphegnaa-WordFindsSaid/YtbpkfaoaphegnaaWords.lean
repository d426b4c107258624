/- Words as lists of bytes and of atoms: the plain mathematics. -/
import Derived.Laws.Strings
import Derived.Laws.Strings2
import Derived.Laws.Concat
import Derived.WalkKit
import GoSem.Op.String
namespace Go.Proofs.Ytbpkfaoaphegnaa

/-- a string's bytes -/
def bs (s : ByteArray) : List UInt8 := s.data.toList
theorem bs_mk (l : List UInt8) : bs ⟨l.toArray⟩ = l := rfl
theorem bs_len (s : ByteArray) : (bs s).length = s.size := by simp [bs]
theorem bs_inj {s t : ByteArray} (h : bs s = bs t) : s = t := by
  cases s; cases t; simp [bs] at h; simp [h]
theorem bs_iff {s t : ByteArray} : bs s = bs t ↔ s = t := ⟨bs_inj, fun h => by rw [h]⟩
theorem bs_toList (s : ByteArray) : s.toList = bs s := ByteArray.toList_eq s
theorem beq_bs (s t : ByteArray) : (s.toList == t.toList) = decide (s = t) := by
  rw [bs_toList, bs_toList, Bool.eq_iff_iff]; simp [bs_iff]
theorem bs_get (s : ByteArray) (k : Nat) (h : k < s.size) : (bs s)[k]? = some s[k] := by
  rw [bs, List.getElem?_eq_getElem (by simpa using h)]; rfl
theorem bs_append (s t : ByteArray) : bs (s ++ t) = bs s ++ bs t := by simp [bs]
theorem bs_extract (s : ByteArray) (a b : Nat) : bs (s.extract a b) = ((bs s).drop a).take (b - a) := by
  simp [bs]

/-- the atoms of bytes -/
def atoms : List UInt8 → List Int
  | a :: b :: r => (256 * (a.toNat : Int) + (b.toNat : Int)) :: atoms r
  | _ => []
/-- the bytes of atoms -/
def unatoms : List Int → List UInt8
  | [] => []
  | x :: r => UInt8.ofNat (x / 256).toNat :: UInt8.ofNat (x % 256).toNat :: unatoms r
/-- these are atoms -/
def Good (l : List Int) : Prop := ∀ x ∈ l, 0 ≤ x ∧ x ≤ 65535

theorem atoms_len : ∀ l : List UInt8, (atoms l).length = l.length / 2
  | [] => rfl
  | [_] => by simp [atoms]
  | _ :: _ :: r => by simp [atoms, atoms_len r]; omega
theorem atoms_get : ∀ (l : List UInt8) (k : Nat) (a b : UInt8), l[2 * k]? = some a → l[2 * k + 1]? = some b → (atoms l)[k]? = some (256 * (a.toNat : Int) + (b.toNat : Int))
  | [], k, a, b, h, _ => by simp at h
  | [x], 0, a, b, _, h => by simp at h
  | [x], k + 1, a, b, h, _ => by simp at h
  | x :: y :: r, 0, a, b, h, h' => by simp at h h'; simp [atoms, h, h']
  | x :: y :: r, k + 1, a, b, h, h' => by
    have e : 2 * (k + 1) = 2 * k + 1 + 1 := by omega
    rw [e] at h h'
    simp only [List.getElem?_cons_succ] at h h'
    simpa [atoms] using atoms_get r k a b h h'
theorem atoms_good : ∀ l : List UInt8, Good (atoms l)
  | [] => by simp [atoms, Good]
  | [_] => by simp [atoms, Good]
  | a :: b :: r => by
    have ih := atoms_good r
    have ha := a.toNat_lt
    have hb := b.toNat_lt
    intro x hx
    simp only [atoms, List.mem_cons] at hx
    rcases hx with rfl | hx
    · omega
    · exact ih x hx
theorem unatoms_len : ∀ l : List Int, (unatoms l).length = 2 * l.length
  | [] => rfl
  | x :: r => by simp [unatoms, unatoms_len r]; omega
theorem unatoms_append : ∀ (l m : List Int), unatoms (l ++ m) = unatoms l ++ unatoms m
  | [], m => rfl
  | x :: r, m => by simp [unatoms, unatoms_append r m]
theorem byte_hi (a b : UInt8) : UInt8.ofNat ((256 * (a.toNat : Int) + (b.toNat : Int)) / 256).toNat = a := by
  have ha := a.toNat_lt
  have hb := b.toNat_lt
  have : ((256 * (a.toNat : Int) + (b.toNat : Int)) / 256).toNat = a.toNat := by omega
  rw [this]; simp
theorem byte_lo (a b : UInt8) : UInt8.ofNat ((256 * (a.toNat : Int) + (b.toNat : Int)) % 256).toNat = b := by
  have ha := a.toNat_lt
  have hb := b.toNat_lt
  have : ((256 * (a.toNat : Int) + (b.toNat : Int)) % 256).toNat = b.toNat := by omega
  rw [this]; simp
theorem atoms_unatoms : ∀ l : List Int, Good l → atoms (unatoms l) = l
  | [], _ => rfl
  | x :: r, h => by
    have hx := h x (by simp)
    have ih := atoms_unatoms r (fun y hy => h y (by simp [hy]))
    simp only [unatoms, atoms, ih, UInt8.toNat_ofNat']
    congr 1
    omega
theorem unatoms_atoms : ∀ l : List UInt8, l.length % 2 = 0 → unatoms (atoms l) = l
  | [], _ => rfl
  | [_], h => by simp at h
  | a :: b :: r, h => by
    have ih := unatoms_atoms r (by simp at h; omega)
    simp only [atoms, unatoms, ih, byte_hi, byte_lo]
theorem atoms_append : ∀ (l m : List UInt8), l.length % 2 = 0 → atoms (l ++ m) = atoms l ++ atoms m
  | [], m, _ => by simp [atoms]
  | [_], m, h => by simp at h
  | a :: b :: r, m, h => by
    have ih := atoms_append r m (by simp at h; omega)
    simp [atoms, ih]
theorem atoms_drop : ∀ (k : Nat) (l : List UInt8), atoms (l.drop (2 * k)) = (atoms l).drop k
  | 0, l => rfl
  | k + 1, [] => by simp [atoms]
  | k + 1, [_] => by rw [List.drop_eq_nil_of_le (by simp; omega)]; simp [atoms]
  | k + 1, a :: b :: r => by
    have e : 2 * (k + 1) = 2 * k + 1 + 1 := by omega
    rw [e]
    simp only [List.drop_succ_cons, atoms]
    exact atoms_drop k r
theorem atoms_take : ∀ (k : Nat) (l : List UInt8), atoms (l.take (2 * k)) = (atoms l).take k
  | 0, l => by simp [atoms]
  | k + 1, [] => by simp [atoms]
  | k + 1, [_] => by
    have e : 2 * (k + 1) = 2 * k + 1 + 1 := by omega
    rw [e]
    simp [atoms]
  | k + 1, a :: b :: r => by
    have e : 2 * (k + 1) = 2 * k + 1 + 1 := by omega
    rw [e]
    simp only [List.take_succ_cons, atoms]
    rw [atoms_take k r]
theorem atoms_inj {l m : List UInt8} (hl : l.length % 2 = 0) (hm : m.length % 2 = 0) (h : atoms l = atoms m) : l = m := by
  rw [← unatoms_atoms l hl, ← unatoms_atoms m hm, h]
theorem atoms_torn {l : List UInt8} (h : l.length % 2 = 1) : atoms l = atoms (l.take (l.length - 1)) := by
  have : l.length - 1 = 2 * (l.length / 2) := by omega
  rw [this, atoms_take, List.take_of_length_le (by rw [atoms_len]; omega)]

/-- the word of atoms -/
def ofS (l : List Int) : ByteArray := ⟨(unatoms l).toArray⟩
theorem bs_ofS (l : List Int) : bs (ofS l) = unatoms l := rfl
theorem ofS_size (l : List Int) : (ofS l).size = 2 * l.length := by rw [← bs_len, bs_ofS, unatoms_len]

/-- a byte is left behind the last atom -/
def tornB (s : ByteArray) : Bool := decide (s.size % 2 = 1)
/-- it may be -/
def mayS (s : ByteArray) : Bool := !tornB s && (decide (1 ≤ s.size / 2 ∧ s.size / 2 ≤ 8) && (atoms (bs s)).all (fun x => x != 0))
/-- the atom at a place -/
def atS (s : ByteArray) (i : Int) : Int := if 0 ≤ i then ((atoms (bs s))[i.toNat]?).getD 0 else 0
theorem atS_good (s : ByteArray) (i : Int) : 0 ≤ atS s i ∧ atS s i ≤ 65535 := by
  unfold atS
  split
  · cases h : (atoms (bs s))[i.toNat]? with
    | none => simp
    | some x => exact atoms_good _ x (List.mem_of_getElem? h)
  · simp
theorem atS_out {s : ByteArray} {i : Int} (h : i < 0 ∨ (s.size : Int) / 2 ≤ i) : atS s i = 0 := by
  unfold atS
  split
  · rw [List.getElem?_eq_none (by rw [atoms_len, bs_len]; omega)]; rfl
  · rfl
theorem atS_in {s : ByteArray} {i : Nat} (h : 2 * i + 1 < s.size) : atS s i = 256 * ((s[2 * i]).toNat : Int) + ((s[2 * i + 1]).toNat : Int) := by
  unfold atS
  rw [if_pos (by omega), Int.toNat_natCast, atoms_get (bs s) i _ _ (bs_get s (2 * i) (by omega)) (bs_get s (2 * i + 1) h)]
  rfl
theorem atS_get {s : ByteArray} {i : Nat} {x : Int} (h : (atoms (bs s))[i]? = some x) : atS s i = x := by
  unfold atS
  rw [if_pos (by omega), Int.toNat_natCast, h]; rfl

/-- there are n atoms at the place i on -/
def partB (s : ByteArray) (i n : Int) : Bool := decide (0 ≤ i ∧ 0 ≤ n ∧ n ≤ (s.size : Int) / 2 - i)
/-- a part, and what is wrong -/
def subS (s : ByteArray) (i n : Int) : ByteArray × Int :=
  if tornB s = true then (⟨#[]⟩, 2) else if partB s i n = false then (⟨#[]⟩, 5) else (s.extract (2 * i.toNat) (2 * (i.toNat + n.toNat)), 0)
/-- all of them one behind the other -/
def flatS : List ByteArray → List UInt8
  | [] => []
  | s :: r => bs s ++ flatS r
def catS (l : List ByteArray) : ByteArray × Int :=
  if l.any tornB = true then (⟨#[]⟩, 2) else if 16 < (flatS l).length then (⟨#[]⟩, 4) else (⟨(flatS l).toArray⟩, 0)
def swapS (s : ByteArray) (i n : Int) (v : ByteArray) : ByteArray × Int :=
  if (tornB s || tornB v) = true then (⟨#[]⟩, 2) else if partB s i n = false then (⟨#[]⟩, 5) else catS [s.extract 0 (2 * i.toNat), v, s.extract (2 * (i.toNat + n.toNat)) s.size]
/-- the word v stands in w at the place k -/
def standsB (w v : ByteArray) (k : Nat) : Bool := decide (((bs w).drop (2 * k)).take v.size = bs v)
/-- the first place from a place on -/
def FindIs (w v : ByteArray) (i : Int) (r : Int) : Prop :=
  if tornB v = true ∨ v.size = 0 then r = -1 else
    (r = -1 ∧ ∀ k : Nat, i ≤ k → standsB w v k = false) ∨ ∃ k : Nat, r = k ∧ i ≤ k ∧ standsB w v k = true ∧ ∀ j : Nat, j < k → i ≤ j → standsB w v j = false
theorem FindIs.unique {w v : ByteArray} {i r r' : Int} (h : FindIs w v i r) (h' : FindIs w v i r') : r = r' := by
  unfold FindIs at h h'
  split at h
  · rename_i hn
    rw [if_pos hn] at h'
    rw [h, h']
  · rename_i hn
    rw [if_neg hn] at h'
    rcases h with ⟨h1, h2⟩ | ⟨k, h1, h2, h3, h4⟩ <;> rcases h' with ⟨g1, g2⟩ | ⟨k', g1, g2, g3, g4⟩
    · rw [h1, g1]
    · rw [h2 k' g2] at g3; cases g3
    · rw [g2 k h2] at h3; cases h3
    · rcases Nat.lt_trichotomy k k' with hlt | he | hlt
      · rw [g4 k hlt h2] at h3; cases h3
      · rw [h1, g1, he]
      · rw [h4 k' hlt g2] at g3; cases g3
theorem stands_le {w v : ByteArray} {k : Nat} (h : standsB w v k = true) (hv : 0 < v.size) : 2 * k + v.size ≤ w.size := by
  simp only [standsB, decide_eq_true_eq] at h
  have := congrArg List.length h
  simp [bs_len] at this
  omega
/-- less -/
def lessS (a b : ByteArray) : Bool := if a.size = b.size then Op.bytesLess (bs a) (bs b) else decide (a.size < b.size)

theorem tornB_false {s : ByteArray} (h : tornB s = false) : s.size % 2 = 0 := by
  simp [tornB] at h; omega
theorem tornB_true {s : ByteArray} (h : tornB s = true) : s.size % 2 = 1 := by
  simpa [tornB] using h
theorem flat_append : ∀ (l m : List ByteArray), flatS (l ++ m) = flatS l ++ flatS m
  | [], m => rfl
  | s :: r, m => by simp [flatS, flat_append r m]
theorem catS_size (l : List ByteArray) : (catS l).1.size ≤ 16 := by
  unfold catS
  split
  · decide
  · split
    · decide
    · rename_i h
      show (flatS l).toArray.size ≤ 16
      simp; omega
end Go.Proofs.Ytbpkfaoaphegnaa
