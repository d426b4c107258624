/- Contracts and lemmas: Tt -/
import Derived.Test.YtbfealhbdemhmaaGreatDoorB0
import Derived.Laws.RangeAny
import Derived.Lib.OthersKept
import Derived.Laws.ResultCell
import Derived.Laws.Concat
namespace Go.Proofs.YtbfealhbdemhmaaGreatDoor
set_option linter.unusedVariables false
set_option linter.unusedSimpArgs false
open Go.RowKit Go.ChangeShapes Go.WideShapes
set_option maxRecDepth 20000

/-- a small letter -/
def tLet (c : UInt8) : Bool := decide (97 ≤ c.toNat ∧ c.toNat ≤ 122)
/-- a digit -/
def tDig (c : UInt8) : Bool := decide (48 ≤ c.toNat ∧ c.toNat ≤ 57)
/-- a capital letter -/
def tUp (c : UInt8) : Bool := decide (65 ≤ c.toNat ∧ c.toNat ≤ 90)
/-- it goes on a name -/
def tIn (c : UInt8) : Bool := tLet c || (tDig c || (c == 45 || c == 46))
/-- it may not stand behind a name -/
def tBad (c : UInt8) : Bool := tIn c || (tUp c || c == 58)
/-- what comes may stand behind a name -/
def tFine : List UInt8 → Bool
  | [] => true
  | c :: _ => !tBad c
/-- a blank -/
def tBlank (c : UInt8) : Bool := c == 32 || (c == 9 || c == 10)
/-- a token, but for its place -/
structure Tok where
  kind : Int
  name : List UInt8
  of : Int
theorem tok_ext {a b : Tok} (h1 : a.kind = b.kind) (h2 : a.name = b.name) (h3 : a.of = b.of) : a = b := by
  cases a; cases b; simp_all
/-- a name may be -/
def tMay (s : List UInt8) : Bool := decide (1 ≤ s.length ∧ s.length ≤ 24) && ((s.head?.map tLet).getD false && s.all tIn)
/-- the token of a keyword; 0: it is none -/
def tKey (s : List UInt8) : Int := if s = [97, 110, 100] then 2 else if s = [102, 111, 114] then 3 else if s = [97, 115] then 5 else 0
/-- how an atom's kind is written -/
def tPre (k : Int) : List UInt8 := if k = 1 then [107, 101, 121, 58] else if k = 2 then [99, 104, 97, 110, 58] else if k = 4 then [103, 114, 111, 117, 112, 58] else if k = 5 then [114, 111, 108, 101, 58] else []
/-- digits may be a number -/
def tNum (s : List UInt8) : Bool := s.all tDig && (decide (1 ≤ s.length ∧ s.length ≤ 9) && (decide (s.head? ≠ some 48) || decide (s.length = 1)))
/-- a sign by itself -/
def tOne (c : UInt8) : Bool := c == 61 || (c == 44 || (c == 59 || (c == 60 || (c == 62 || (c == 33 || (c == 63 || c == 42))))))
/-- a text is a sign by itself -/
def tSign : List UInt8 → Bool
  | [c] => tOne c
  | _ => false
/-- how a token is written; nothing: there is no such token -/
def wordS (t : Tok) : List UInt8 :=
  if t.kind = 1 then
    (if t.of = 0 ∧ t.name = [68] then [68]
     else if tMay t.name = true ∧ (1 ≤ t.of ∧ t.of ≤ 5) ∧ (t.of = 3 → tKey t.name = 0) then tPre t.of ++ t.name else [])
  else if t.kind = 8 then (if tNum t.name = true ∧ t.of = 0 then t.name else [])
  else if t.kind = 9 then (if tSign t.name = true ∧ t.of = 0 then t.name else [])
  else if t.name = [] ∧ t.of = 0 then
    (if t.kind = 2 then [97, 110, 100] else if t.kind = 3 then [102, 111, 114] else if t.kind = 4 then [124] else if t.kind = 5 then [97, 115] else if t.kind = 6 then [40] else if t.kind = 7 then [41] else [])
  else []
/-- what comes behind it counts -/
def sepB (t : Tok) : Bool := decide (t.kind = 1 ∨ t.kind = 2 ∨ t.kind = 3 ∨ t.kind = 5 ∨ t.kind = 8)
/-- this may stand behind it -/
def Follow (t : Tok) (r : List UInt8) : Prop := sepB t = true → tFine r = true
/-- the name that stands there -/
def nameS (l : List UInt8) : Option (List UInt8) :=
  if (l.head?.map tLet).getD false = true ∧ (l.takeWhile tIn).length ≤ 24 ∧ tFine (l.drop (l.takeWhile tIn).length) = true then some (l.takeWhile tIn) else none
/-- the sign that stands there, with how many bytes -/
def signS (l : List UInt8) : Option (Tok × Nat) :=
  if [107, 101, 121, 58].isPrefixOf l = true then (nameS (l.drop 4)).map (fun w => (⟨1, w, 1⟩, 4 + w.length))
  else if [99, 104, 97, 110, 58].isPrefixOf l = true then (nameS (l.drop 5)).map (fun w => (⟨1, w, 2⟩, 5 + w.length))
  else if [103, 114, 111, 117, 112, 58].isPrefixOf l = true then (nameS (l.drop 6)).map (fun w => (⟨1, w, 4⟩, 6 + w.length))
  else if [114, 111, 108, 101, 58].isPrefixOf l = true then (nameS (l.drop 5)).map (fun w => (⟨1, w, 5⟩, 5 + w.length))
  else match l with
    | [] => none
    | c :: r =>
      if tLet c = true then (nameS (c :: r)).map (fun w => (if tKey w = 0 then ⟨1, w, 3⟩ else ⟨tKey w, [], 0⟩, w.length))
      else if c = 68 then (if tFine r = true then some (⟨1, [68], 0⟩, 1) else none)
      else if c = 124 then some (⟨4, [], 0⟩, 1)
      else if c = 40 then some (⟨6, [], 0⟩, 1)
      else if c = 41 then some (⟨7, [], 0⟩, 1)
      else if tDig c = true then
        (if tNum ((c :: r).takeWhile tDig) = true ∧ tFine ((c :: r).drop ((c :: r).takeWhile tDig).length) = true then some (⟨8, (c :: r).takeWhile tDig, 0⟩, ((c :: r).takeWhile tDig).length) else none)
      else if tOne c = true then some (⟨9, [c], 0⟩, 1)
      else none
theorem tIn_of_let {c : UInt8} (h : tLet c = true) : tIn c = true := by unfold tIn; rw [h]; rfl
theorem tIn_of_dig {c : UInt8} (h : tDig c = true) : tIn c = true := by unfold tIn; rw [h]; simp
theorem tBad_of_in {c : UInt8} (h : tIn c = true) : tBad c = true := by unfold tBad; rw [h]; rfl
theorem tIn_colon : tIn 58 = false := by decide
theorem fine_not {r : List UInt8} (h : tFine r = true) : ∀ c, r.head? = some c → tBad c = false := by
  intro c hc
  cases r with
  | nil => cases hc
  | cons x r =>
    cases hc
    simpa [tFine] using h
theorem take_all {p : UInt8 → Bool} {w r : List UInt8} (hw : w.all p = true) (hr : ∀ c, r.head? = some c → p c = false) : (w ++ r).takeWhile p = w := by
  induction w with
  | nil =>
    cases r with
    | nil => rfl
    | cons c r => simp [hr c rfl]
  | cons c w ih =>
    simp only [List.all_cons, Bool.and_eq_true] at hw
    simp [hw.1, ih hw.2]
theorem take_in {w r : List UInt8} (hw : w.all tIn = true) (hr : tFine r = true) : (w ++ r).takeWhile tIn = w :=
  take_all hw fun c hc => by
    have := fine_not hr c hc
    cases h : tIn c
    · rfl
    · rw [tBad_of_in h] at this; cases this
theorem take_dig {w r : List UInt8} (hw : w.all tDig = true) (hr : tFine r = true) : (w ++ r).takeWhile tDig = w :=
  take_all hw fun c hc => by
    have := fine_not hr c hc
    cases h : tDig c
    · rfl
    · rw [tBad_of_in (tIn_of_dig h)] at this; cases this
/-- no kind's letters and a colon stand where a name and what may follow it do -/
theorem no_pre : ∀ (q w r : List UInt8), q.all tLet = true → w.all tIn = true → tFine r = true → (q ++ [58]).isPrefixOf (w ++ r) = false
  | [], [], [], _, _, _ => rfl
  | [], [], c :: r, _, _, hr => by
    have := fine_not hr c rfl
    have hc : (58 == c) = false := by
      rw [beq_eq_false_iff_ne]; rintro rfl; exact absurd this (by decide)
    simp [List.isPrefixOf, hc]
  | [], c :: w, r, _, hw, _ => by
    simp only [List.all_cons, Bool.and_eq_true] at hw
    have hc : (58 == c) = false := by
      rw [beq_eq_false_iff_ne]; rintro rfl; exact absurd hw.1 (by decide)
    simp [List.isPrefixOf, hc]
  | a :: q, [], [], _, _, _ => rfl
  | a :: q, [], c :: r, hq, _, hr => by
    simp only [List.all_cons, Bool.and_eq_true] at hq
    have := fine_not hr c rfl
    have hc : (a == c) = false := by
      rw [beq_eq_false_iff_ne]; rintro rfl; rw [tBad_of_in (tIn_of_let hq.1)] at this; cases this
    simp [List.isPrefixOf, hc]
  | a :: q, c :: w, r, hq, hw, hr => by
    simp only [List.all_cons, Bool.and_eq_true] at hq hw
    have ih := no_pre q w r hq.2 hw.2 hr
    simp only [List.cons_append, List.isPrefixOf]
    rw [ih]
    simp
theorem name_of {w r : List UInt8} (hw : tMay w = true) (hr : tFine r = true) : nameS (w ++ r) = some w := by
  unfold tMay at hw
  simp only [Bool.and_eq_true, decide_eq_true_eq] at hw
  obtain ⟨⟨h1, h2⟩, h3, h4⟩ := hw
  unfold nameS
  rw [take_in h4 hr, List.drop_left]
  cases w with
  | nil => simp at h1
  | cons c w => rw [if_pos ⟨h3, h2, hr⟩]
theorem may_all {w : List UInt8} (h : tMay w = true) : w.all tIn = true ∧ w ≠ [] ∧ ∃ c v, w = c :: v ∧ tLet c = true := by
  unfold tMay at h
  simp only [Bool.and_eq_true, decide_eq_true_eq] at h
  obtain ⟨⟨h1, h2⟩, h3, h4⟩ := h
  cases w with
  | nil => simp at h1
  | cons c w => exact ⟨h4, by simp, c, w, rfl, by simpa using h3⟩
/-- the name that is told may be, stands there, and what follows may -/
theorem name_told {l w : List UInt8} (h : nameS l = some w) : tMay w = true ∧ l = w ++ l.drop w.length ∧ tFine (l.drop w.length) = true := by
  unfold nameS at h
  split at h
  · rename_i hc
    obtain ⟨h1, h2, h3⟩ := hc
    cases h
    have ht : l.takeWhile tIn ++ l.drop (l.takeWhile tIn).length = l := by
      have e : l.dropWhile tIn = l.drop (l.takeWhile tIn).length := by
        conv => rhs; arg 2; rw [← List.takeWhile_append_dropWhile (p := tIn) (l := l)]
        rw [List.drop_left]
      rw [← e]; exact List.takeWhile_append_dropWhile
    refine ⟨?_, ht.symm, h3⟩
    unfold tMay
    cases l with
    | nil => simp at h1
    | cons c r =>
      have hc : tLet c = true := by simpa using h1
      have hin := tIn_of_let hc
      simp only [List.takeWhile_cons, hin, if_true] at h2 ⊢
      simp only [Bool.and_eq_true, decide_eq_true_eq, List.head?_cons, Option.map_some, Option.getD_some, List.all_cons]
      refine ⟨⟨by simp, h2⟩, hc, hin, List.all_takeWhile⟩
  · cases h
theorem key_cases (w : List UInt8) : (tKey w = 0) ∨ (w = [97, 110, 100] ∧ tKey w = 2) ∨ (w = [102, 111, 114] ∧ tKey w = 3) ∨ (w = [97, 115] ∧ tKey w = 5) := by
  unfold tKey
  split
  · right; left; exact ⟨by assumption, rfl⟩
  · split
    · right; right; left; exact ⟨by assumption, rfl⟩
    · split
      · right; right; right; exact ⟨by assumption, rfl⟩
      · left; rfl

theorem no_pres {w r : List UInt8} (ha : w.all tIn = true) (hf : tFine r = true) :
    ¬ [107, 101, 121, 58].isPrefixOf (w ++ r) = true ∧ ¬ [99, 104, 97, 110, 58].isPrefixOf (w ++ r) = true ∧ ¬ [103, 114, 111, 117, 112, 58].isPrefixOf (w ++ r) = true ∧ ¬ [114, 111, 108, 101, 58].isPrefixOf (w ++ r) = true := by
  have p1 : [107, 101, 121, 58].isPrefixOf (w ++ r) = false := no_pre [107, 101, 121] w r (by decide) ha hf
  have p2 : [99, 104, 97, 110, 58].isPrefixOf (w ++ r) = false := no_pre [99, 104, 97, 110] w r (by decide) ha hf
  have p3 : [103, 114, 111, 117, 112, 58].isPrefixOf (w ++ r) = false := no_pre [103, 114, 111, 117, 112] w r (by decide) ha hf
  have p4 : [114, 111, 108, 101, 58].isPrefixOf (w ++ r) = false := no_pre [114, 111, 108, 101] w r (by decide) ha hf
  rw [p1, p2, p3, p4]
  simp
/-- what is written of a token is read as that token, whatever may stand behind it -/
theorem sign_of {t : Tok} {r : List UInt8} (hw : wordS t ≠ []) (hr : Follow t r) : signS (wordS t ++ r) = some (t, (wordS t).length) := by
  obtain ⟨k, nm, o⟩ := t
  have hk : k = 1 ∨ k = 2 ∨ k = 3 ∨ k = 4 ∨ k = 5 ∨ k = 6 ∨ k = 7 ∨ k = 8 ∨ k = 9 := by
    unfold wordS at hw
    simp only at hw
    by_cases h1 : k = 1; · exact .inl h1
    by_cases h8 : k = 8; · simp [h8]
    by_cases h9 : k = 9; · simp [h9]
    rw [if_neg h1, if_neg h8, if_neg h9] at hw
    split at hw
    · by_cases h2 : k = 2; · simp [h2]
      by_cases h3 : k = 3; · simp [h3]
      by_cases h4 : k = 4; · simp [h4]
      by_cases h5 : k = 5; · simp [h5]
      by_cases h6 : k = 6; · simp [h6]
      by_cases h7 : k = 7; · simp [h7]
      rw [if_neg h2, if_neg h3, if_neg h4, if_neg h5, if_neg h6, if_neg h7] at hw
      exact absurd rfl hw
    · exact absurd rfl hw
  -- a keyword
  have kwd : ∀ (w : List UInt8) (kk : Int), tMay w = true → tKey w = kk → kk ≠ 0 → tFine r = true → signS (w ++ r) = some (⟨kk, [], 0⟩, w.length) := by
    intro w kk hm hkk h0 hf
    obtain ⟨ha, _, c, v, rfl, hc⟩ := may_all hm
    unfold signS
    rw [if_neg (no_pres ha hf).1, if_neg (no_pres ha hf).2.1, if_neg (no_pres ha hf).2.2.1, if_neg (no_pres ha hf).2.2.2]
    have hn := name_of hm hf
    simp only [List.cons_append] at hn ⊢
    rw [if_pos hc, hn]
    simp [hkk, h0]
  rcases hk with rfl | rfl | rfl | rfl | rfl | rfl | rfl | rfl | rfl
  · -- an atom
    have hf : tFine r = true := hr (by simp [sepB])
    unfold wordS at hw ⊢
    simp only [if_true] at hw ⊢
    by_cases hd : o = 0 ∧ nm = [68]
    · obtain ⟨rfl, rfl⟩ := hd
      simp only [and_self, if_true, List.cons_append, List.nil_append, List.length_singleton]
      unfold signS
      simp [List.isPrefixOf, tLet, hf]
    · rw [if_neg hd] at hw ⊢
      split at hw
      · rename_i hcond
        rw [if_pos hcond]
        obtain ⟨hm, ⟨ho1, ho2⟩, hkey⟩ := hcond
        obtain ⟨ha, _, c, v, hcv, hc⟩ := may_all hm
        have hn := name_of hm hf
        have ho : o = 1 ∨ o = 2 ∨ o = 3 ∨ o = 4 ∨ o = 5 := by omega
        rcases ho with rfl | rfl | rfl | rfl | rfl
        · simp only [tPre, if_true]
          unfold signS
          rw [if_pos (by simp [List.isPrefixOf])]
          simp [hn]
          omega
        · simp only [tPre]
          unfold signS
          rw [if_neg (by simp [List.isPrefixOf]), if_pos (by simp [List.isPrefixOf])]
          simp [hn]
          omega
        · simp only [tPre]
          unfold signS
          have e0 : (if (3 : Int) = 1 then ([107, 101, 121, 58] : List UInt8) else if (3 : Int) = 2 then [99, 104, 97, 110, 58] else if (3 : Int) = 4 then [103, 114, 111, 117, 112, 58] else if (3 : Int) = 5 then [114, 111, 108, 101, 58] else []) = [] := by simp
          rw [e0, List.nil_append]
          rw [if_neg (no_pres ha hf).1, if_neg (no_pres ha hf).2.1, if_neg (no_pres ha hf).2.2.1, if_neg (no_pres ha hf).2.2.2]
          subst hcv
          simp only [List.cons_append] at hn ⊢
          rw [if_pos hc, hn]
          simp [hkey rfl]
        · simp only [tPre]
          unfold signS
          rw [if_neg (by simp [List.isPrefixOf]), if_neg (by simp [List.isPrefixOf]), if_pos (by simp [List.isPrefixOf])]
          simp [hn]
          omega
        · simp only [tPre]
          unfold signS
          rw [if_neg (by simp [List.isPrefixOf]), if_neg (by simp [List.isPrefixOf]), if_neg (by simp [List.isPrefixOf]), if_pos (by simp [List.isPrefixOf])]
          simp [hn]
          omega
      · exact absurd rfl hw
  · have hf : tFine r = true := hr (by simp [sepB])
    unfold wordS at hw ⊢
    simp at hw ⊢
    obtain ⟨rfl, rfl⟩ := hw
    simpa using kwd [97, 110, 100] 2 (by decide) (by decide) (by decide) hf
  · have hf : tFine r = true := hr (by simp [sepB])
    unfold wordS at hw ⊢
    simp at hw ⊢
    obtain ⟨rfl, rfl⟩ := hw
    simpa using kwd [102, 111, 114] 3 (by decide) (by decide) (by decide) hf
  · unfold wordS at hw ⊢
    simp at hw ⊢
    obtain ⟨rfl, rfl⟩ := hw
    simp
    unfold signS
    simp [List.isPrefixOf, tLet]
  · have hf : tFine r = true := hr (by simp [sepB])
    unfold wordS at hw ⊢
    simp at hw ⊢
    obtain ⟨rfl, rfl⟩ := hw
    simpa using kwd [97, 115] 5 (by decide) (by decide) (by decide) hf
  · unfold wordS at hw ⊢
    simp at hw ⊢
    obtain ⟨rfl, rfl⟩ := hw
    simp
    unfold signS
    simp [List.isPrefixOf, tLet]
  · unfold wordS at hw ⊢
    simp at hw ⊢
    obtain ⟨rfl, rfl⟩ := hw
    simp
    unfold signS
    simp [List.isPrefixOf, tLet]
  · have hf : tFine r = true := hr (by simp [sepB])
    unfold wordS at hw ⊢
    rw [if_neg (by simp), if_pos rfl] at hw ⊢
    simp only at hw ⊢
    split at hw
    · rename_i hcond
      rw [if_pos hcond]
      obtain ⟨hn, rfl⟩ := hcond
      have hd : nm.all tDig = true := by unfold tNum at hn; simp only [Bool.and_eq_true] at hn; exact hn.1
      have ha : nm.all tIn = true := by
        rw [List.all_eq_true] at hd ⊢
        exact fun x hx => tIn_of_dig (hd x hx)
      have htk := take_dig hd hf
      unfold signS
      rw [if_neg (no_pres ha hf).1, if_neg (no_pres ha hf).2.1, if_neg (no_pres ha hf).2.2.1, if_neg (no_pres ha hf).2.2.2]
      cases nm with
      | nil => exact absurd rfl hw
      | cons c v =>
        have hc : tDig c = true := by simp only [List.all_cons, Bool.and_eq_true] at hd; exact hd.1
        have hr1 : 48 ≤ c.toNat ∧ c.toNat ≤ 57 := by simpa [tDig] using hc
        have h1 : ¬ tLet c = true := by unfold tLet; simp; omega
        have h2 : c ≠ 68 := by rintro rfl; exact absurd hr1 (by decide)
        have h3 : c ≠ 124 := by rintro rfl; exact absurd hr1 (by decide)
        have h4 : c ≠ 40 := by rintro rfl; exact absurd hr1 (by decide)
        have h5 : c ≠ 41 := by rintro rfl; exact absurd hr1 (by decide)
        simp only [List.cons_append] at htk ⊢
        rw [if_neg h1, if_neg h2, if_neg h3, if_neg h4, if_neg h5, if_pos hc, htk]
        have hdrop : (c :: (v ++ r)).drop (c :: v).length = r := by simp
        rw [hdrop, if_pos ⟨hn, hf⟩]
    · exact absurd rfl hw
  · unfold wordS at hw ⊢
    rw [if_neg (by simp), if_neg (by simp), if_pos rfl] at hw ⊢
    simp only at hw ⊢
    split at hw
    · rename_i hcond
      rw [if_pos hcond]
      obtain ⟨hn, rfl⟩ := hcond
      match nm, hn with
      | [c], hn =>
        simp only [tSign, tOne, Bool.or_eq_true, beq_iff_eq] at hn
        rcases hn with rfl | rfl | rfl | rfl | rfl | rfl | rfl | rfl <;> (unfold signS; simp [List.isPrefixOf, tLet, tDig, tOne])
    · exact absurd rfl hw
theorem word_may {w : List UInt8} {o : Int} (h : tMay w = true) (ho : 1 ≤ o ∧ o ≤ 5) (hk : o = 3 → tKey w = 0) : wordS ⟨1, w, o⟩ = tPre o ++ w := by
  unfold wordS
  rw [if_pos rfl, if_neg (by simp only; omega), if_pos ⟨h, ho, hk⟩]
theorem pre_split {p l : List UInt8} (h : p.isPrefixOf l = true) : l = p ++ l.drop p.length := by
  obtain ⟨r, rfl⟩ := List.isPrefixOf_iff_prefix.1 h
  simp
theorem may_ne {w : List UInt8} (h : tMay w = true) : w ≠ [] := (may_all h).2.1
/-- what a sign is read of is what is written of it, and what follows may -/
structure SignOk (l : List UInt8) (t : Tok) (k : Nat) : Prop where
  ne : wordS t ≠ []
  len : k = (wordS t).length
  split : l = wordS t ++ l.drop k
  follow : Follow t (l.drop k)
theorem sign_ok {l : List UInt8} {t : Tok} {k : Nat} (h : signS l = some (t, k)) : SignOk l t k := by
  have atom : ∀ (p : List UInt8) (o : Int), tPre o = p → (1 ≤ o ∧ o ≤ 5) → o ≠ 3 → p.isPrefixOf l = true → (nameS (l.drop p.length)).map (fun w => ((⟨1, w, o⟩ : Tok), p.length + w.length)) = some (t, k) → SignOk l t k := by
    intro p o hp ho h3 hpre hm
    obtain ⟨w, hw, he⟩ := Option.map_eq_some_iff.1 hm
    simp only [Prod.mk.injEq] at he
    obtain ⟨rfl, rfl⟩ := he
    obtain ⟨hmay, hsp, hfine⟩ := name_told hw
    have hword : wordS ⟨1, w, o⟩ = p ++ w := by rw [word_may hmay ho (fun e => absurd e h3), hp]
    refine ⟨by rw [hword]; simp [may_ne hmay], by rw [hword]; simp, ?_, ?_⟩
    · rw [hword]
      have h1 := pre_split hpre
      rw [← List.drop_drop, List.append_assoc, ← hsp]
      exact h1
    · intro _
      rw [← List.drop_drop]
      exact hfine
  unfold signS at h
  by_cases q1 : [107, 101, 121, 58].isPrefixOf l = true
  · rw [if_pos q1] at h
    exact atom [107, 101, 121, 58] 1 rfl (by decide) (by decide) q1 h
  · rw [if_neg q1] at h
    by_cases q2 : [99, 104, 97, 110, 58].isPrefixOf l = true
    · rw [if_pos q2] at h
      exact atom [99, 104, 97, 110, 58] 2 rfl (by decide) (by decide) q2 h
    · rw [if_neg q2] at h
      by_cases q3 : [103, 114, 111, 117, 112, 58].isPrefixOf l = true
      · rw [if_pos q3] at h
        exact atom [103, 114, 111, 117, 112, 58] 4 rfl (by decide) (by decide) q3 h
      · rw [if_neg q3] at h
        by_cases q4 : [114, 111, 108, 101, 58].isPrefixOf l = true
        · rw [if_pos q4] at h
          exact atom [114, 111, 108, 101, 58] 5 rfl (by decide) (by decide) q4 h
        · rw [if_neg q4] at h
          cases l with
          | nil => cases h
          | cons c r =>
            simp only at h
            split at h
            · obtain ⟨w, hw, he⟩ := Option.map_eq_some_iff.1 h
              simp only [Prod.mk.injEq] at he
              obtain ⟨rfl, rfl⟩ := he
              obtain ⟨hmay, hsp, hfine⟩ := name_told hw
              have hword : wordS (if tKey w = 0 then ⟨1, w, 3⟩ else ⟨tKey w, [], 0⟩) = w := by
                rcases key_cases w with h0 | ⟨rfl, h0⟩ | ⟨rfl, h0⟩ | ⟨rfl, h0⟩
                · rw [if_pos h0, word_may hmay (by decide) (fun _ => h0)]
                  simp [tPre]
                · rw [h0]; decide
                · rw [h0]; decide
                · rw [h0]; decide
              exact ⟨by rw [hword]; exact may_ne hmay, by rw [hword], by rw [hword]; exact hsp, fun _ => hfine⟩
            · split at h
              · split at h
                · rename_i hc hf
                  cases h
                  subst hc
                  exact ⟨by decide, by decide, by simp [wordS], fun _ => hf⟩
                · cases h
              · split at h
                · rename_i hc
                  cases h; subst hc
                  exact ⟨by decide, by decide, by simp [wordS], fun e => by simp [sepB] at e⟩
                · split at h
                  · rename_i hc
                    cases h; subst hc
                    exact ⟨by decide, by decide, by simp [wordS], fun e => by simp [sepB] at e⟩
                  · split at h
                    · rename_i hc
                      cases h; subst hc
                      exact ⟨by decide, by decide, by simp [wordS], fun e => by simp [sepB] at e⟩
                    · split at h
                      · split at h
                        · rename_i hd hcond
                          obtain ⟨hn, hf⟩ := hcond
                          cases h
                          have hword : wordS ⟨8, (c :: r).takeWhile tDig, 0⟩ = (c :: r).takeWhile tDig := by
                            unfold wordS
                            rw [if_neg (by simp), if_pos rfl, if_pos ⟨hn, rfl⟩]
                          have hne : (c :: r).takeWhile tDig ≠ [] := by simp [List.takeWhile_cons, hd]
                          refine ⟨by rw [hword]; exact hne, by rw [hword], ?_, fun _ => hf⟩
                          rw [hword]
                          have e : (c :: r).dropWhile tDig = (c :: r).drop ((c :: r).takeWhile tDig).length := by
                            conv => rhs; arg 2; rw [← List.takeWhile_append_dropWhile (p := tDig) (l := c :: r)]
                            rw [List.drop_left]
                          rw [← e]; exact List.takeWhile_append_dropWhile.symm
                        · cases h
                      · split at h
                        · rename_i ho
                          cases h
                          have hword : wordS ⟨9, [c], 0⟩ = [c] := by
                            unfold wordS
                            rw [if_neg (by simp), if_neg (by simp), if_pos rfl, if_pos ⟨ho, rfl⟩]
                          exact ⟨by rw [hword]; simp, by rw [hword]; rfl, by rw [hword]; rfl, fun e => by simp [sepB] at e⟩
                        · cases h

/-- in a note behind a byte? -/
def noteS (nt : Bool) (c : UInt8) : Bool := if c = 35 then true else if c = 10 then false else nt
/-- it is passed over -/
def passB (nt : Bool) (c : UInt8) : Bool := noteS nt c || tBlank c
/-- the tokens from a place on, or where what is wrong -/
def goS (nt : Bool) (p n : Nat) : List UInt8 → Except (Nat × Int) (List (Tok × Nat))
  | [] => .ok []
  | c :: r =>
    if passB nt c = true then goS (noteS nt c) (p + 1) n r
    else match signS (c :: r) with
      | none => .error (p, 2)
      | some (t, k) => if n = 1000 then .error (p, 3) else (goS false (p + k) (n + 1) (r.drop (k - 1))).map (fun m => (t, p) :: m)
termination_by l => l.length
decreasing_by
  · simp
  · simp; omega
/-- a text's tokens -/
def allS (l : List UInt8) : Except (Nat × Int) (List (Tok × Nat)) := if 4000 < l.length then .error (0, 3) else goS false 0 0 l
/-- the state behind what is passed over as a whole -/
def skips (nt : Bool) : List UInt8 → Option Bool
  | [] => some nt
  | c :: r => if passB nt c = true then skips (noteS nt c) r else none
theorem skips_append : ∀ (b r : List UInt8) (nt nt' : Bool), skips nt b = some nt' → skips nt (b ++ r) = skips nt' r
  | [], r, nt, nt', h => by cases h; rfl
  | c :: b, r, nt, nt', h => by
    unfold skips at h
    split at h
    · rename_i hp
      simp only [List.cons_append]
      rw [skips, if_pos hp]
      exact skips_append b r _ _ h
    · cases h
theorem go_skip : ∀ (b r : List UInt8) (nt nt' : Bool) (p n : Nat), skips nt b = some nt' → goS nt p n (b ++ r) = goS nt' (p + b.length) n r
  | [], r, nt, nt', p, n, h => by cases h; rfl
  | c :: b, r, nt, nt', p, n, h => by
    unfold skips at h
    split at h
    · rename_i hp
      simp only [List.cons_append]
      rw [goS, if_pos hp, go_skip b r _ nt' (p + 1) n h]
      simp only [List.length_cons]
      congr 1
      omega
    · cases h
theorem pass_none {c : UInt8} {r : List UInt8} (h : passB false c = true) : signS (c :: r) = none := by
  have hc : c = 35 ∨ c = 32 ∨ c = 9 ∨ c = 10 := by
    unfold passB noteS tBlank at h
    by_cases h1 : c = 35
    · exact .inl h1
    · rw [if_neg h1] at h
      simp at h
      rcases h with h | h | h <;> simp [h]
  rcases hc with rfl | rfl | rfl | rfl <;> (unfold signS; simp [List.isPrefixOf, tLet, tDig, tOne])
theorem go_sign {t : Tok} {r : List UInt8} {p n : Nat} (hw : wordS t ≠ []) (hr : Follow t r) (hn : n ≠ 1000) :
    goS false p n (wordS t ++ r) = (goS false (p + (wordS t).length) (n + 1) r).map (fun m => (t, p) :: m) := by
  have hs := sign_of hw hr
  cases hv : wordS t with
  | nil => exact absurd hv hw
  | cons c v =>
    rw [hv] at hs
    simp only [List.cons_append] at hs ⊢
    have hp : ¬ passB false c = true := fun h => by rw [pass_none h] at hs; cases hs
    rw [goS, if_neg hp, hs]
    simp only [if_neg hn]
    congr 2
    simp
theorem follow_nil (t : Tok) : Follow t [] := fun _ => rfl
theorem follow_fine {t : Tok} {r : List UInt8} (h : tFine r = true) : Follow t r := fun _ => h
theorem follow_append {t : Tok} {a r : List UInt8} (h : Follow t a) (hr : tFine r = true) : Follow t (a ++ r) := fun hs => by
  cases a with
  | nil => exact hr
  | cons c a => exact h hs
/-- these tokens stand in l from the place p on, with what is passed over in between -/
def Run : Bool → Nat → List UInt8 → List (Tok × Nat) → Bool → Prop
  | nt, _, l, [], nt' => skips nt l = some nt'
  | nt, p, l, (t, q) :: m, nt' => ∃ b rest, l = b ++ (wordS t ++ rest) ∧ q = p + b.length ∧ skips nt b = some false ∧ wordS t ≠ [] ∧ Follow t rest ∧ Run false (q + (wordS t).length) rest m nt'
theorem run_go : ∀ (m : List (Tok × Nat)) (nt nt' : Bool) (p n : Nat) (l r : List UInt8), Run nt p l m nt' → tFine r = true → n + m.length ≤ 1000 →
    goS nt p n (l ++ r) = (goS nt' (p + l.length) (n + m.length) r).map (fun x => m ++ x)
  | [], nt, nt', p, n, l, r, h, _, _ => by
    rw [go_skip l r nt nt' p n h]
    simp only [List.length_nil, Nat.add_zero, List.nil_append]
    cases goS nt' (p + l.length) n r <;> rfl
  | (t, q) :: m, nt, nt', p, n, l, r, h, hr, hn => by
    obtain ⟨b, rest, rfl, rfl, hb, hw, hf, hrun⟩ := h
    simp only [List.length_cons] at hn
    have ih := run_go m false nt' (p + b.length + (wordS t).length) (n + 1) rest r hrun hr (by omega)
    rw [List.append_assoc, go_skip b _ nt false p n hb, List.append_assoc, go_sign hw (follow_append hf hr) (by omega), ih]
    have e1 : p + b.length + (wordS t).length + rest.length = p + (b ++ (wordS t ++ rest)).length := by simp; omega
    have e2 : n + 1 + m.length = n + ((t, p + b.length) :: m).length := by simp; omega
    rw [e1, e2]
    cases goS nt' (p + (b ++ (wordS t ++ rest)).length) (n + ((t, p + b.length) :: m).length) r <;> rfl
theorem run_ok {m : List (Tok × Nat)} {nt nt' : Bool} {p n : Nat} {l : List UInt8} (h : Run nt p l m nt') (hn : n + m.length ≤ 1000) : goS nt p n l = .ok m := by
  have := run_go m nt nt' p n l [] h rfl hn
  rw [List.append_nil] at this
  rw [this, goS]
  simp [Except.map]
theorem pass_false {nt : Bool} {c : UInt8} (h : ¬ passB nt c = true) : passB false c = false ∧ nt = false := by
  unfold passB noteS tBlank at *
  by_cases h1 : c = 35
  · simp [h1] at h
  · by_cases h2 : c = 10
    · simp [h2] at h
    · rw [if_neg h1, if_neg h2] at h
      simp at h
      rw [if_neg h1, if_neg h2]
      simp [h]
theorem run_skip {nt nt' : Bool} {p : Nat} {c : UInt8} {l : List UInt8} {m : List (Tok × Nat)} (hp : passB nt c = true) (h : Run (noteS nt c) (p + 1) l m nt') : Run nt p (c :: l) m nt' := by
  cases m with
  | nil =>
    unfold Run at *
    rw [skips, if_pos hp]; exact h
  | cons x m =>
    obtain ⟨t, q⟩ := x
    obtain ⟨b, rest, rfl, rfl, hb, hw, hf, hr⟩ := h
    refine ⟨c :: b, rest, by simp, by simp; omega, ?_, hw, hf, ?_⟩
    · rw [skips, if_pos hp]; exact hb
    · exact hr
theorem go_run : ∀ (k : Nat) (nt : Bool) (p n : Nat) (l : List UInt8) (m : List (Tok × Nat)), l.length ≤ k → n ≤ 1000 → goS nt p n l = .ok m → (∃ nt', Run nt p l m nt') ∧ n + m.length ≤ 1000
  | k, nt, p, n, [], m, _, hn, h => by
    rw [goS] at h
    cases h
    exact ⟨⟨nt, rfl⟩, by simpa using hn⟩
  | 0, nt, p, n, c :: r, m, hk, _, _ => by simp at hk
  | k + 1, nt, p, n, c :: r, m, hk, hn, h => by
    simp only [List.length_cons] at hk
    rw [goS] at h
    split at h
    · rename_i hp
      obtain ⟨⟨nt', h1⟩, h2⟩ := go_run k (noteS nt c) (p + 1) n r m (by omega) hn h
      exact ⟨⟨nt', run_skip hp h1⟩, h2⟩
    · rename_i hp
      obtain ⟨hp0, rfl⟩ := pass_false hp
      split at h
      · cases h
      · rename_i t j hs
        split at h
        · cases h
        · rename_i h1000
          have ok := sign_ok hs
          have hj : 0 < j := by rw [ok.len]; exact List.length_pos_iff.2 ok.ne
          have hdrop : r.drop (j - 1) = (c :: r).drop j := by
            obtain ⟨j', rfl⟩ : ∃ j', j = j' + 1 := ⟨j - 1, by omega⟩
            simp
          rw [hdrop] at h
          cases hg : goS false (p + j) (n + 1) ((c :: r).drop j) with
          | error e => rw [hg] at h; cases h
          | ok m' =>
            rw [hg] at h
            simp only [Except.map, Except.ok.injEq] at h
            subst h
            obtain ⟨⟨nt', h1⟩, h2⟩ := go_run k false (p + j) (n + 1) ((c :: r).drop j) m' (by simp; omega) (by omega) hg
            refine ⟨⟨nt', [], (c :: r).drop j, ?_, by simp, rfl, ok.ne, ok.follow, ?_⟩, by simp; omega⟩
            · rw [List.nil_append]; exact ok.split
            · rw [← ok.len]; exact h1
/-- where what is wrong, and what stands ahead of it -/
structure Wrong (nt : Bool) (p n : Nat) (l : List UInt8) (q : Nat) (e : Int) (k : Nat) (m : List (Tok × Nat)) : Prop where
  place : q = p + k
  inside : k < l.length
  ahead : Run nt p (l.take k) m false
  few : n + m.length ≤ 1000
  pass : ∀ c, (l.drop k).head? = some c → passB false c = false
  what : (e = 2 ∧ signS (l.drop k) = none) ∨ (e = 3 ∧ n + m.length = 1000)
theorem go_wrong : ∀ (j : Nat) (nt : Bool) (p n : Nat) (l : List UInt8) (q : Nat) (e : Int), l.length ≤ j → n ≤ 1000 → goS nt p n l = .error (q, e) → ∃ k m, Wrong nt p n l q e k m
  | j, nt, p, n, [], q, e, _, _, h => by rw [goS] at h; cases h
  | 0, nt, p, n, c :: r, q, e, hj, _, _ => by simp at hj
  | j + 1, nt, p, n, c :: r, q, e, hj, hn, h => by
    simp only [List.length_cons] at hj
    rw [goS] at h
    split at h
    · rename_i hp
      obtain ⟨k, m, hw⟩ := go_wrong j (noteS nt c) (p + 1) n r q e (by omega) hn h
      refine ⟨k + 1, m, by have := hw.place; omega, by have := hw.inside; simp; omega, ?_, hw.few, by simpa using hw.pass, by simpa using hw.what⟩
      rw [List.take_succ_cons]
      exact run_skip hp hw.ahead
    · rename_i hp
      obtain ⟨hp0, rfl⟩ := pass_false hp
      have hpass : ∀ x, ((c :: r).drop 0).head? = some x → passB false x = false := fun x hx => by simp at hx; rw [← hx]; exact hp0
      split at h
      · rename_i hs
        cases h
        exact ⟨0, [], rfl, by simp, rfl, by simpa using hn, hpass, .inl ⟨rfl, hs⟩⟩
      · rename_i t i hs
        split at h
        · rename_i h1000
          cases h
          exact ⟨0, [], rfl, by simp, rfl, by simpa using hn, hpass, .inr ⟨rfl, by simpa using h1000⟩⟩
        · rename_i h1000
          have ok := sign_ok hs
          have hi : 0 < i := by rw [ok.len]; exact List.length_pos_iff.2 ok.ne
          have hdrop : r.drop (i - 1) = (c :: r).drop i := by
            obtain ⟨i', rfl⟩ : ∃ i', i = i' + 1 := ⟨i - 1, by omega⟩
            simp
          rw [hdrop] at h
          cases hg : goS false (p + i) (n + 1) ((c :: r).drop i) with
          | ok m' => rw [hg] at h; cases h
          | error e' =>
            rw [hg] at h
            simp only [Except.map, Except.error.injEq] at h
            subst h
            obtain ⟨k, m, hw⟩ := go_wrong j false (p + i) (n + 1) ((c :: r).drop i) q e (by simp; omega) (by omega) hg
            have hin := hw.inside
            rw [List.length_drop] at hin
            have hst : (c :: r).take i = wordS t := by
              conv => lhs; rw [ok.split]
              rw [ok.len, List.take_left]
            refine ⟨i + k, (t, p) :: m, by have := hw.place; omega, by omega, ?_, by have := hw.few; simp; omega, by rw [← List.drop_drop]; exact hw.pass, by
              rw [← List.drop_drop]
              rcases hw.what with h1 | ⟨h1, h2⟩
              · exact .inl h1
              · exact .inr ⟨h1, by simp; omega⟩⟩
            refine ⟨[], ((c :: r).drop i).take k, ?_, by simp, rfl, ok.ne, ?_, ?_⟩
            · rw [List.nil_append, ← hst, List.take_add]
            · intro hs2
              have := ok.follow hs2
              cases hx : (c :: r).drop i with
              | nil => rw [List.take_nil]; rfl
              | cons y z =>
                rw [hx] at this
                cases k with
                | zero => rfl
                | succ k => exact this
            · rw [← ok.len]; exact hw.ahead

/-- words parted by one space -/
def joinS : List (List UInt8) → List UInt8
  | [] => []
  | [w] => w
  | w :: v :: r => w ++ 32 :: joinS (v :: r)
/-- tokens, written -/
def textS (l : List Tok) : List UInt8 × Int :=
  if 1000 < l.length then ([], 3) else if (l.any fun t => decide (wordS t = [])) = true then ([], 2) else if 4000 < (joinS (l.map wordS)).length then ([], 2) else (joinS (l.map wordS), 0)
theorem fine_space (r : List UInt8) : tFine (32 :: r) = true := by
  show (!tBad 32) = true
  decide
theorem run_lead {nt nt1 nt' : Bool} {p : Nat} {b l : List UInt8} {m : List (Tok × Nat)} (hb : skips nt b = some nt1) (h : Run nt1 (p + b.length) l m nt') : Run nt p (b ++ l) m nt' := by
  cases m with
  | nil =>
    unfold Run at *
    rw [skips_append b l nt nt1 hb]; exact h
  | cons x m =>
    obtain ⟨t, q⟩ := x
    obtain ⟨b', rest, rfl, rfl, hb', hw, hf, hr⟩ := h
    refine ⟨b ++ b', rest, by simp, by simp; omega, ?_, hw, hf, hr⟩
    rw [skips_append b b' nt nt1 hb]; exact hb'
/-- what is written can be read -/
theorem run_join : ∀ (l : List Tok) (p : Nat), (∀ t ∈ l, wordS t ≠ []) → ∃ m, Run false p (joinS (l.map wordS)) m false ∧ m.map (·.1) = l
  | [], p, _ => ⟨[], rfl, rfl⟩
  | [t], p, h => ⟨[(t, p)], ⟨[], [], by simp [joinS], by simp, rfl, h t (by simp), follow_nil t, rfl⟩, rfl⟩
  | t :: u :: r, p, h => by
    obtain ⟨m, h1, h2⟩ := run_join (u :: r) (p + (wordS t).length + 1) (fun x hx => h x (by simp [hx]))
    refine ⟨(t, p) :: m, ⟨[], 32 :: joinS ((u :: r).map wordS), by simp [joinS], by simp, rfl, h t (by simp), follow_fine (fine_space _), ?_⟩, by simp [h2]⟩
    exact run_lead (b := [32]) (nt1 := false) (by decide) h1
theorem text_zero {l : List Tok} {x : List UInt8} (h : textS l = (x, 0)) : x = joinS (l.map wordS) ∧ l.length ≤ 1000 ∧ x.length ≤ 4000 ∧ ∀ t ∈ l, wordS t ≠ [] := by
  unfold textS at h
  split at h
  · cases h
  · split at h
    · cases h
    · split at h
      · cases h
      · rename_i h1 h2 h3
        cases h
        refine ⟨rfl, by omega, by omega, fun t ht e => h2 ?_⟩
        rw [List.any_eq_true]
        exact ⟨t, ht, by simpa using e⟩
/-- what is written is read as it was -/
theorem text_back {l : List Tok} {x : List UInt8} (h : textS l = (x, 0)) : ∃ m, allS x = .ok m ∧ m.map (·.1) = l := by
  obtain ⟨rfl, h1, h2, h3⟩ := text_zero h
  obtain ⟨m, hr, hm⟩ := run_join l 0 h3
  refine ⟨m, ?_, hm⟩
  unfold allS
  rw [if_neg (by omega)]
  have : m.length = l.length := by rw [← hm, List.length_map]
  exact run_ok hr (by omega)
/-- how many bytes tokens take -/
def sumS (l : List Tok) : Nat := (l.map (fun t => (wordS t).length)).sum
theorem run_sum : ∀ (m : List (Tok × Nat)) (nt nt' : Bool) (p : Nat) (l : List UInt8), Run nt p l m nt' → sumS (m.map (·.1)) ≤ l.length ∧ m.length ≤ sumS (m.map (·.1)) ∧ ∀ t ∈ m.map (·.1), wordS t ≠ []
  | [], nt, nt', p, l, h => ⟨by simp [sumS], by simp, by simp⟩
  | (t, q) :: m, nt, nt', p, l, h => by
    obtain ⟨b, rest, rfl, rfl, hb, hw, hf, hr⟩ := h
    obtain ⟨h1, h2, h3⟩ := run_sum m false nt' _ rest hr
    have h0 : 0 < (wordS t).length := List.length_pos_iff.2 hw
    simp only [sumS, List.map_cons, List.sum_cons, List.length_append, List.length_cons] at *
    refine ⟨by omega, by omega, fun u hu => ?_⟩
    rcases List.mem_cons.1 hu with rfl | hu
    · exact hw
    · exact h3 u hu
theorem join_len : ∀ l : List Tok, (joinS (l.map wordS)).length ≤ sumS l + l.length
  | [] => by simp [joinS, sumS]
  | [t] => by simp [joinS, sumS]
  | t :: u :: r => by
    have ih := join_len (u :: r)
    simp only [sumS, List.map_cons, List.sum_cons, joinS, List.length_append, List.length_cons] at *
    omega
theorem all_run {s : List UInt8} {m : List (Tok × Nat)} (h : allS s = .ok m) : (∃ nt, Run false 0 s m nt) ∧ m.length ≤ 1000 ∧ s.length ≤ 4000 := by
  unfold allS at h
  split at h
  · cases h
  · obtain ⟨h1, h2⟩ := go_run s.length false 0 0 s m (Nat.le_refl _) (by omega) h
    exact ⟨h1, by omega, by omega⟩
/-- what is read can be written, but for what gets too long -/
theorem read_text {s : List UInt8} {m : List (Tok × Nat)} (h : allS s = .ok m) : (textS (m.map (·.1))).2 = 0 ∨ ((textS (m.map (·.1))).2 = 2 ∧ 1900 < s.length) := by
  obtain ⟨⟨nt, hr⟩, h1, h2⟩ := all_run h
  obtain ⟨s1, s2, s3⟩ := run_sum m false nt 0 s hr
  have hj := join_len (m.map (·.1))
  rw [List.length_map] at hj
  unfold textS
  rw [if_neg (by rw [List.length_map]; omega), if_neg (by
    rw [List.any_eq_true]
    rintro ⟨t, ht, e⟩
    exact s3 t ht (by simpa using e))]
  split
  · right; exact ⟨rfl, by omega⟩
  · left; rfl
/-- what may stand behind a word, and is passed over -/
def OkB (b : List UInt8) : Prop := b ≠ [] ∧ tFine b = true ∧ skips false b = some false
/-- words, each with what is passed over behind it -/
def flatB (ps : List (Tok × List UInt8)) : List UInt8 := ps.flatMap (fun x => wordS x.1 ++ x.2)
theorem fine_append {a r : List UInt8} (h : tFine a = true) (ha : a ≠ []) : tFine (a ++ r) = true := by
  cases a with
  | nil => exact absurd rfl ha
  | cons c a => exact h
theorem run_flat : ∀ (ps : List (Tok × List UInt8)) (p : Nat), (∀ x ∈ ps, wordS x.1 ≠ [] ∧ OkB x.2) → ∃ m, Run false p (flatB ps) m false ∧ m.map (·.1) = ps.map (·.1)
  | [], p, _ => ⟨[], rfl, rfl⟩
  | (t, b) :: r, p, h => by
    obtain ⟨m, h1, h2⟩ := run_flat r (p + (wordS t).length + b.length) (fun x hx => h x (by simp [hx]))
    obtain ⟨hw, hb1, hb2, hb3⟩ := h (t, b) (by simp)
    refine ⟨(t, p) :: m, ⟨[], b ++ flatB r, by simp [flatB], by simp, rfl, hw, follow_fine (fine_append hb2 hb1), ?_⟩, by simp [h2]⟩
    exact run_lead hb3 h1
theorem run_behind : ∀ (m : List (Tok × Nat)) (nt nt1 nt' : Bool) (p : Nat) (l b : List UInt8), Run nt p l m nt1 → tFine b = true → skips nt1 b = some nt' → Run nt p (l ++ b) m nt'
  | [], nt, nt1, nt', p, l, b, h, _, hb => by
    unfold Run at *
    rw [skips_append l b nt nt1 h]; exact hb
  | (t, q) :: m, nt, nt1, nt', p, l, b, h, hf, hb => by
    obtain ⟨a, rest, rfl, rfl, ha, hw, hfo, hr⟩ := h
    exact ⟨a, rest ++ b, by simp, rfl, ha, hw, follow_append hfo hf, run_behind m false nt1 nt' _ rest b hr hf hb⟩
/-- blanks ahead and behind change nothing but places -/
theorem blanks_same {ps : List (Tok × List UInt8)} (h : ∀ x ∈ ps, wordS x.1 ≠ [] ∧ OkB x.2) (hn : ps.length ≤ 1000) {a b : List UInt8} {nt : Bool} (ha : skips false a = some false) (hb : tFine b = true) (hb2 : skips false b = some nt)
    (hlen : (a ++ (flatB ps ++ b)).length ≤ 4000) : ∃ m, allS (a ++ (flatB ps ++ b)) = .ok m ∧ m.map (·.1) = ps.map (·.1) := by
  obtain ⟨m, h1, h2⟩ := run_flat ps (0 + a.length) h
  refine ⟨m, ?_, h2⟩
  unfold allS
  rw [if_neg (by omega)]
  have hm : m.length = ps.length := by
    have := congrArg List.length h2
    simpa using this
  exact run_ok (run_lead ha (run_behind m false false nt _ _ b h1 hb hb2)) (by omega)
/-- the first wrong thing is told -/
theorem cuts_same {s : List UInt8} {q : Nat} (h : allS s = .error (q, 2)) : q < s.length ∧ s.length ≤ 4000 ∧ ∃ m : List (Tok × Nat), allS (s.take q) = .ok m ∧ m.length ≤ 1000 ∧
    (s.length ≤ 3990 → allS (s.take q ++ 32 :: 41 :: s.drop q) = if m.length = 1000 then .error (q + 1, 3) else .error (q + 2, 2)) := by
  have hs : s.length ≤ 4000 := by
    unfold allS at h
    split at h
    · cases h
    · omega
  have hg : goS false 0 0 s = .error (q, 2) := by unfold allS at h; rw [if_neg (by omega)] at h; exact h
  obtain ⟨k, m, hw⟩ := go_wrong s.length false 0 0 s q 2 (Nat.le_refl _) (by omega) hg
  have hk : k = q := by have := hw.place; omega
  subst hk
  have hfew := hw.few
  have hin := hw.inside
  have htake : (s.take k).length = k := by rw [List.length_take]; have := hw.inside; omega
  refine ⟨hw.inside, hs, m, ?_, by omega, fun h3 => ?_⟩
  · unfold allS
    rw [if_neg (by omega)]
    exact run_ok hw.ahead hw.few
  · have hsig : signS (s.drop k) = none := by
      rcases hw.what with h1 | h1
      · exact h1.2
      · exact absurd h1.1 (by decide)
    unfold allS
    rw [if_neg (by
      rw [List.length_append, htake]
      simp only [List.length_cons, List.length_drop]
      omega)]
    rw [run_go m false false 0 0 (s.take k) (32 :: 41 :: s.drop k) hw.ahead (fine_space _) hw.few, htake]
    rw [goS, if_pos (by decide), show noteS false 32 = false by decide]
    have h41 : signS (41 :: s.drop k) = some (⟨7, [], 0⟩, 1) := by unfold signS; simp [List.isPrefixOf, tLet]
    rw [goS, if_neg (by decide), h41]
    simp only [Nat.zero_add]
    split
    · rfl
    · rename_i hm
      simp only [Nat.sub_self, List.drop_zero]
      cases hd : s.drop k with
      | nil =>
        have h9 := congrArg List.length hd
        rw [List.length_drop, List.length_nil] at h9
        omega
      | cons c r =>
        have hp := hw.pass c (by rw [hd]; rfl)
        rw [hd] at hsig
        rw [goS, if_neg (by rw [hp]; simp), hsig]
        rfl

open Go.RowKit Go.ChangeShapes Go.WideShapes
/-- how many bytes a rune takes: they lie in the text, and the further ones are none of a small text's -/
theorem decode_len (s : ByteArray) (i : Nat) (h : i < s.size) : i + (Utf8.decode s i).2 ≤ s.size ∧ ∀ j, i < j → j < i + (Utf8.decode s i).2 → 128 ≤ (s.get! j).toNat := by
  have one : ∀ x : Nat, (i + (x, 1).2 ≤ s.size) ∧ ∀ j, i < j → j < i + (x, 1).2 → 128 ≤ (s.get! j).toNat := fun x => ⟨by simp; omega, fun j h1 h2 => by simp at h2; omega⟩
  unfold Utf8.decode
  dsimp only
  split
  · exact one _
  · split
    · rename_i h1
      simp only [Bool.and_eq_true, decide_eq_true_eq, beq_iff_eq] at h1
      obtain ⟨_, h2, h3⟩ := h1
      split
      · refine ⟨by simp; omega, fun j h4 h5 => ?_⟩
        simp at h5
        obtain rfl : j = i + 1 := by omega
        omega
      · exact one _
    · split
      · rename_i h1
        simp only [Bool.and_eq_true, decide_eq_true_eq, beq_iff_eq] at h1
        obtain ⟨⟨_, h2, h3⟩, h4, h5⟩ := h1
        split
        · refine ⟨by simp; omega, fun j h6 h7 => ?_⟩
          simp at h7
          have : j = i + 1 ∨ j = i + 2 := by omega
          rcases this with rfl | rfl <;> omega
        · exact one _
      · split
        · rename_i h1
          simp only [Bool.and_eq_true, decide_eq_true_eq, beq_iff_eq] at h1
          obtain ⟨⟨⟨_, h2, h3⟩, h4, h5⟩, h6, h7⟩ := h1
          split
          · refine ⟨by simp; omega, fun j h8 h9 => ?_⟩
            simp at h9
            have : j = i + 1 ∨ j = i + 2 ∨ j = i + 3 := by omega
            rcases this with rfl | rfl | rfl <;> omega
          · exact one _
        · exact one _
theorem get_bang (s : ByteArray) (i : Nat) (h : i < s.size) : s.get! i = s[i] := by
  have := get_at s i h
  simpa using this
/-- the byte at a place; none: 256 and more -/
def byteN (s : ByteArray) (a : Nat) : Nat := (s.get! a).toNat
/-- the rune at a place, and the place behind it -/
def RuneIs (s : ByteArray) (a : Nat) (r next : Int) : Prop :=
  (a < s.size → (byteN s a < 128 → r = byteN s a ∧ next = (a : Int) + 1) ∧ (128 ≤ byteN s a → (r = -1 ∨ 128 ≤ r) ∧ (a : Int) < next ∧ next ≤ s.size)) ∧ (s.size ≤ a → r = -1 ∧ next = s.size)
def RunePost (s : ByteArray) (a : Nat) (w : World) (e : Ending) (w' : World) : Prop := ∃ r next : Int, e = .returned (.tuple #[.int .i32 r, .int .i64 next]) ∧ RuneIs s a r next ∧ Kept w w'
/-- a rune's walk, on the way -/
def RuneAt (s : ByteArray) (a pos : Nat) (r : Int) : Prop := pos ≤ s.size ∧ ((pos ≤ a ∧ r = -1) ∨ (a < pos ∧ a < s.size ∧ RuneIs s a r pos))
theorem RuneAt.over {s : ByteArray} {a pos : Nat} {r : Int} (h : RuneAt s a pos r) (hp : a < pos) : RuneIs s a r pos := by
  rcases h.2 with h1 | h1
  · omega
  · exact h1.2.2
theorem RuneAt.ends {s : ByteArray} {a : Nat} {r : Int} (h : RuneAt s a s.size r) : RuneIs s a r s.size := by
  rcases h.2 with ⟨h1, rfl⟩ | h1
  · exact ⟨fun h => by omega, fun _ => ⟨rfl, rfl⟩⟩
  · exact h1.2.2
theorem RuneAt.hit {s : ByteArray} {a : Nat} {r : Int} (h : a < s.size) : RuneAt s a (a + (Utf8.decode s a).2) ((Utf8.decode s a).1 : Nat) := by
  have hl := decode_len s a h
  have hb : byteN s a = (s[a]'h).toNat := by unfold byteN; rw [get_bang s a h]
  refine ⟨hl.1, .inr ?_⟩
  by_cases h128 : (s[a]'h).toNat < 128
  · have hd := decode_ascii s a h h128
    rw [hd]
    refine ⟨by simp, h, fun _ => ⟨fun _ => ⟨by rw [hb], by simp⟩, fun h2 => by omega⟩, fun h2 => by omega⟩
  · have hd := decode_high s a h (by omega)
    refine ⟨by omega, h, fun _ => ⟨fun h2 => by omega, fun _ => ⟨.inr (by omega), by omega, by omega⟩⟩, fun h2 => by omega⟩
theorem RuneAt.pass {s : ByteArray} {a pos : Nat} {r : Int} (h : RuneAt s a pos r) (hp : pos < a) (hs : pos < s.size) : RuneAt s a (pos + (Utf8.decode s pos).2) r := by
  have hl := decode_len s pos hs
  obtain ⟨_, h2⟩ := h
  rcases h2 with ⟨h1, rfl⟩ | h1
  · refine ⟨hl.1, ?_⟩
    rcases Nat.lt_or_ge a (pos + (Utf8.decode s pos).2) with h3 | h3
    · right
      have h128 := hl.2 a hp h3
      refine ⟨h3, by omega, fun _ => ⟨fun h4 => ?_, fun _ => ⟨.inl rfl, by omega, by omega⟩⟩, fun h4 => by omega⟩
      unfold byteN at h4
      omega
    · left; exact ⟨h3, rfl⟩
  · omega
/-- where the iterator stands -/
def posOf (w : World) (g : Nat) : Nat := match w.heap[g]? with
  | some (.stringIter _ p) => p
  | _ => 0
theorem posOf_is {w : World} {g p : Nat} {s : ByteArray} (h : w.heap[g]? = some (.stringIter s p)) : posOf w g = p := by unfold posOf; rw [h]
theorem iter_kept {w wr : World} {g p : Nat} {s : ByteArray} (hk : Kept w wr) (hg : w.heap.size ≤ g) : Kept w (wr.iterAt g s p) :=
  hk.over (F := fun k => k = g) ⟨rfl, rfl, rfl, by rw [Go.Lib.iterAt_size]; exact Nat.le_refl _, fun i _ hn => Go.Lib.iterAt_other wr g i s p hn⟩ (fun j hj => by rw [hj]; exact hg)
set_option maxHeartbeats 1000000 in
theorem rune_any (s : ByteArray) (a : Nat) (w : World) (hs : s.size ≤ 1000000) (ha : a ≤ 1000000) :
    Calls Tryz.prog 141 #[.string s, .int .i64 a] w (RunePost s a w) := by
  have H0 : Hid ((w.iter s 0).heap[w.heap.size]? = some (.stringIter s 0) ∧ Kept w (w.iter s 0)) := Lib.hid ⟨World.iter_heap w s 0, Fr.of_alloc _ _ _⟩
  have H1 : Hid (RuneAt s a 0 (-1)) := Lib.hid ⟨Nat.zero_le _, .inl ⟨Nat.zero_le _, rfl⟩⟩
  go_enter Tryz.func141, Tryz.ntmps141
  go_wp2
  generalize hg : w.heap.size = g at H0 ⊢
  have HG := Lib.hid hg
  clear hg
  generalize w.iter s 0 = w1 at H0 ⊢
  go_loopw [6] (fun v wr => ∃ (pos : Nat) (r : Int), v = .int .i32 r ∧ pos ≤ s.size ∧ Hid (wr.heap[g]? = some (.stringIter s pos) ∧ Kept w wr) ∧ Hid (RuneAt s a pos r)) (fun _ wr => s.size - posOf wr g)
  case atStart => exact ⟨0, -1, rfl, Nat.zero_le _, H0, H1⟩
  case round =>
    obtain ⟨pos, r, rfl, hps, hit, hat⟩ := hrel
    clear H0 H1
    have HPO : Hid (posOf wr g = pos) := Lib.hid (posOf_is hit.out.1)
    by_cases hlt : pos < s.size
    · have hnext := fun ty => Go.Lib.run_next_any_at (P := Tryz.prog) wr g s pos ty hit.out.1 hlt
      have HN : Hid ((wr.iterAt g s (pos + (Utf8.decode s pos).2)).heap[g]? = some (.stringIter s (pos + (Utf8.decode s pos).2)) ∧ Kept w (wr.iterAt g s (pos + (Utf8.decode s pos).2))) := Lib.hid ⟨Go.Lib.iterAt_heap wr g s pos _ hit.out.1, iter_kept hit.out.2 (by rw [HG.out]; exact Nat.le_refl _)⟩
      have HD : Hid (1 ≤ (Utf8.decode s pos).2 ∧ pos + (Utf8.decode s pos).2 ≤ s.size) := Lib.hid ⟨by
        by_cases h128 : (s[pos]'hlt).toNat < 128
        · rw [decode_ascii s pos hlt h128]; exact Nat.le_refl _
        · exact (decode_high s pos hlt (by omega)).2, (decode_len s pos hlt).1⟩
      rcases Nat.lt_trichotomy pos a with hc | hc | hc
      · have HP := Lib.hid (hat.out.pass hc hlt)
        have c1 : ((pos : Int) == (a : Int)) = false := by rw [beq_eq_false_iff_ne]; omega
        have c2 : ¬ (a : Int) < (pos : Int) := by omega
        generalize (Utf8.decode s pos).2 = d2 at *
        generalize (Utf8.decode s pos).1 = d1 at *
        clear hc
        go_wp2
        go_roundw
        case rel => exact ⟨pos + d2, r, rfl, HD.out.2, HN, HP⟩
        case measure => rw [posOf_is HN.out.1, HPO.out]; have := HD.out; omega
      · have HP : Hid (RuneAt s a (pos + (Utf8.decode s pos).2) ((Utf8.decode s pos).1 : Nat)) := Lib.hid (by rw [hc]; rw [hc] at hlt; exact RuneAt.hit hlt (r := r))
        have c1 : ((pos : Int) == (a : Int)) = true := by rw [beq_iff_eq]; omega
        have c2 : ¬ (a : Int) < (pos : Int) := by omega
        generalize (Utf8.decode s pos).2 = d2 at *
        generalize (Utf8.decode s pos).1 = d1 at *
        clear hc
        go_wp2
        go_roundw
        case rel => exact ⟨pos + d2, d1, rfl, HD.out.2, HN, HP⟩
        case measure => rw [posOf_is HN.out.1, HPO.out]; have := HD.out; omega
      · have HP := Lib.hid (hat.out.over hc)
        have c1 : ((pos : Int) == (a : Int)) = false := by rw [beq_eq_false_iff_ne]; omega
        have c2 : (a : Int) < (pos : Int) := by omega
        generalize (Utf8.decode s pos).2 = d2 at *
        generalize (Utf8.decode s pos).1 = d1 at *
        clear hc
        go_wp2
        go_ret2
        exact ⟨r, pos, rfl, HP.out, HN.out.2⟩
    · obtain rfl : pos = s.size := by omega
      have hnext := fun ty => Go.Lib.run_next_end_at (P := Tryz.prog) wr g s s.size ty hit.out.1 hlt
      have HP := Lib.hid hat.out.ends
      go_wp2
      go_ret2
      exact ⟨r, s.size, rfl, HP.out, hit.out.2⟩

open Go.RowKit Go.ChangeShapes Go.WideShapes
def rLet (r : Int) : Bool := decide (97 ≤ r ∧ r ≤ 122)
def rDig (r : Int) : Bool := decide (48 ≤ r ∧ r ≤ 57)
def rIn (r : Int) : Bool := rLet r || (rDig r || (decide (r = 45) || decide (r = 46)))
def rFine (r : Int) : Bool := !rIn r && (!decide (65 ≤ r ∧ r ≤ 90) && !decide (r = 58))
theorem let_byte (c : UInt8) : rLet (c.toNat : Int) = tLet c := by unfold rLet tLet; rw [decide_eq_decide]; omega
theorem dig_byte (c : UInt8) : rDig (c.toNat : Int) = tDig c := by unfold rDig tDig; rw [decide_eq_decide]; omega
theorem byte_is (c : UInt8) (n : Nat) (m : Int) (hm : m = n) (hn : n < 256) : decide ((c.toNat : Int) = m) = (c == UInt8.ofNat n) := by
  subst hm
  rw [Bool.eq_iff_iff, decide_eq_true_eq, beq_iff_eq]
  constructor
  · intro h
    apply UInt8.toNat_inj.1
    rw [UInt8.toNat_ofNat']
    omega
  · rintro rfl
    rw [UInt8.toNat_ofNat']
    omega
theorem in_byte (c : UInt8) : rIn (c.toNat : Int) = tIn c := by
  unfold rIn tIn
  rw [let_byte, dig_byte]
  rw [byte_is c 45 45 rfl (by omega), byte_is c 46 46 rfl (by omega)]
  rfl
theorem fine_byte (c : UInt8) : rFine (c.toNat : Int) = !tBad c := by
  unfold rFine tBad
  rw [in_byte]
  rw [byte_is c 58 58 rfl (by omega)]
  have h2 : decide (65 ≤ (c.toNat : Int) ∧ (c.toNat : Int) ≤ 90) = tUp c := by unfold tUp; rw [decide_eq_decide]; omega
  rw [h2]
  simp [Bool.not_or]
theorem fine_far {r : Int} (h : r = -1 ∨ 128 ≤ r) : rFine r = true := by
  unfold rFine rIn rLet rDig
  simp
  omega
theorem bad_far {c : UInt8} (h : 128 ≤ c.toNat) : tBad c = false := by
  have := fine_byte c
  rw [fine_far (.inr (by omega))] at this
  simpa using this.symm
theorem drop_at {s : ByteArray} {a : Nat} (h : a < s.size) : (bs s).drop a = s.get! a :: (bs s).drop (a + 1) := by
  have hl : a < (bs s).length := by rw [bs_len]; exact h
  rw [List.drop_eq_getElem_cons hl, get_bang s a h]
  rfl
theorem fine_rune {s : ByteArray} {a : Nat} {r next : Int} (h : RuneIs s a r next) : rFine r = tFine ((bs s).drop a) := by
  rcases Nat.lt_or_ge a s.size with hlt | hge
  · rw [drop_at hlt]
    have h1 := h.1 hlt
    show rFine r = !tBad (s.get! a)
    by_cases h128 : byteN s a < 128
    · obtain ⟨rfl, _⟩ := h1.1 h128
      exact fine_byte _
    · have h2 : 128 ≤ byteN s a := by omega
      rw [fine_far (h1.2 h2).1, bad_far h2]
      rfl
  · rw [fine_far (.inl (h.2 hge).1), List.drop_eq_nil_of_le (by rw [bs_len]; exact hge)]
    rfl
theorem letter_any (r : Int) (w : World) : Calls Tryz.prog 142 #[.int .i32 r] w fun e w' => e = .returned (.bool (rLet r)) ∧ w = w' := by
  by_cases h1 : 97 ≤ r
  · by_cases h2 : r ≤ 122
    · have HA : Hid (rLet r = true) := Lib.hid (by unfold rLet; simp; omega)
      go_enter Tryz.func142, Tryz.ntmps142
      go_wp2
      go_ret
      exact ⟨ret_bool HA.out.symm, rfl⟩
    · have HA : Hid (rLet r = false) := Lib.hid (by unfold rLet; simp; omega)
      go_enter Tryz.func142, Tryz.ntmps142
      go_wp2
      go_ret
      exact ⟨ret_bool HA.out.symm, rfl⟩
  · have HA : Hid (rLet r = false) := Lib.hid (by unfold rLet; simp; omega)
    go_enter Tryz.func142, Tryz.ntmps142
    go_wp2
    go_ret
    exact ⟨ret_bool HA.out.symm, rfl⟩
theorem digit_any (r : Int) (w : World) : Calls Tryz.prog 115 #[.int .i32 r] w fun e w' => e = .returned (.bool (rDig r)) ∧ w = w' := by
  by_cases h1 : 48 ≤ r
  · by_cases h2 : r ≤ 57
    · have HA : Hid (rDig r = true) := Lib.hid (by unfold rDig; simp; omega)
      go_enter Tryz.func115, Tryz.ntmps115
      go_wp2
      go_ret
      exact ⟨ret_bool HA.out.symm, rfl⟩
    · have HA : Hid (rDig r = false) := Lib.hid (by unfold rDig; simp; omega)
      go_enter Tryz.func115, Tryz.ntmps115
      go_wp2
      go_ret
      exact ⟨ret_bool HA.out.symm, rfl⟩
  · have HA : Hid (rDig r = false) := Lib.hid (by unfold rDig; simp; omega)
    go_enter Tryz.func115, Tryz.ntmps115
    go_wp2
    go_ret
    exact ⟨ret_bool HA.out.symm, rfl⟩
theorem inName_any (r : Int) (w : World) : Calls Tryz.prog 153 #[.int .i32 r] w fun e w' => e = .returned (.bool (rIn r)) ∧ w = w' := by
  cases h1 : rLet r
  · cases h2 : rDig r
    · by_cases h3 : r = 45
      · have HA : Hid (rIn r = true) := Lib.hid (by unfold rIn; rw [h1, h2]; simp [h3])
        have g3 : (r == 45) = true := by simp [h3]
        clear h3
        go_enter Tryz.func153, Tryz.ntmps153
        go_wp2_with (first | (go_at_call 142; refine (letter_any _ _).mono ?_; rintro e w' ⟨rfl, rfl⟩; rw [h1]) | (go_at_call 115; refine (digit_any _ _).mono ?_; rintro e w' ⟨rfl, rfl⟩; rw [h2]))
        go_ret
        exact ⟨ret_bool HA.out.symm, rfl⟩
      · have g3 : (r == 45) = false := by simp [h3]
        by_cases h4 : r = 46
        · have HA : Hid (rIn r = true) := Lib.hid (by unfold rIn; rw [h1, h2]; simp [h4])
          have g4 : (r == 46) = true := by simp [h4]
          clear h3 h4
          go_enter Tryz.func153, Tryz.ntmps153
          go_wp2_with (first | (go_at_call 142; refine (letter_any _ _).mono ?_; rintro e w' ⟨rfl, rfl⟩; rw [h1]) | (go_at_call 115; refine (digit_any _ _).mono ?_; rintro e w' ⟨rfl, rfl⟩; rw [h2]))
          go_ret
          exact ⟨ret_bool HA.out.symm, rfl⟩
        · have HA : Hid (rIn r = false) := Lib.hid (by unfold rIn; rw [h1, h2]; simp [h3, h4])
          have g4 : (r == 46) = false := by simp [h4]
          clear h3 h4
          go_enter Tryz.func153, Tryz.ntmps153
          go_wp2_with (first | (go_at_call 142; refine (letter_any _ _).mono ?_; rintro e w' ⟨rfl, rfl⟩; rw [h1]) | (go_at_call 115; refine (digit_any _ _).mono ?_; rintro e w' ⟨rfl, rfl⟩; rw [h2]))
          go_ret
          exact ⟨ret_bool HA.out.symm, rfl⟩
    · have HA : Hid (rIn r = true) := Lib.hid (by unfold rIn; rw [h1, h2]; rfl)
      go_enter Tryz.func153, Tryz.ntmps153
      go_wp2_with (first | (go_at_call 142; refine (letter_any _ _).mono ?_; rintro e w' ⟨rfl, rfl⟩; rw [h1]) | (go_at_call 115; refine (digit_any _ _).mono ?_; rintro e w' ⟨rfl, rfl⟩; rw [h2]))
      go_ret
      exact ⟨ret_bool HA.out.symm, rfl⟩
  · have HA : Hid (rIn r = true) := Lib.hid (by unfold rIn; rw [h1]; rfl)
    go_enter Tryz.func153, Tryz.ntmps153
    go_wp2_with (go_at_call 142; refine (letter_any _ _).mono ?_; rintro e w' ⟨rfl, rfl⟩; rw [h1])
    go_ret
    exact ⟨ret_bool HA.out.symm, rfl⟩
set_option maxHeartbeats 1000000 in
theorem fine_any (s : ByteArray) (a : Nat) (w : World) (hs : s.size ≤ 1000000) (ha : a ≤ 1000000) :
    Calls Tryz.prog 143 #[.string s, .int .i64 a] w (KeptPost (.bool (tFine ((bs s).drop a))) w) := by
  go_enter Tryz.func143, Tryz.ntmps143
  go_wp2_with fail
  refine (rune_any s a w hs ha).mono ?_
  rintro e w1 ⟨r, next, rfl, hr, hk⟩
  have HF := Lib.hid (fine_rune hr)
  have HK := Lib.hid hk
  clear hr hk
  cases h1 : rIn r
  · by_cases h2 : 65 ≤ r
    · by_cases h3 : r ≤ 90
      · have HA : Hid (rFine r = false) := Lib.hid (by unfold rFine; rw [h1]; simp; omega)
        go_wp2_with (go_at_call 153; refine (inName_any _ _).mono ?_; rintro e w' ⟨rfl, rfl⟩; rw [h1])
        go_ret
        exact ⟨ret_bool (by rw [← HF.out, HA.out]; first | done | rfl | (simp; omega)), HK.out⟩
      · have HA : Hid (rFine r = true) := Lib.hid (by unfold rFine; rw [h1]; simp [show ¬ r ≤ 90 from h3]; omega)
        have g4 : (r != 58) = true := by simp; omega
        go_wp2_with (go_at_call 153; refine (inName_any _ _).mono ?_; rintro e w' ⟨rfl, rfl⟩; rw [h1])
        go_ret
        exact ⟨ret_bool (by rw [← HF.out, HA.out]; first | done | rfl | (simp; omega)), HK.out⟩
    · by_cases h4 : r = 58
      · have HA : Hid (rFine r = false) := Lib.hid (by unfold rFine; rw [h1]; simp [h4])
        have g4 : (r != 58) = false := by simp [h4]
        clear h4
        go_wp2_with (go_at_call 153; refine (inName_any _ _).mono ?_; rintro e w' ⟨rfl, rfl⟩; rw [h1])
        go_ret
        exact ⟨ret_bool (by rw [← HF.out, HA.out]; first | done | rfl | (simp; omega)), HK.out⟩
      · have HA : Hid (rFine r = true) := Lib.hid (by unfold rFine; rw [h1]; simp [h4]; omega)
        have g4 : (r != 58) = true := by simp [h4]
        clear h4
        go_wp2_with (go_at_call 153; refine (inName_any _ _).mono ?_; rintro e w' ⟨rfl, rfl⟩; rw [h1])
        go_ret
        exact ⟨ret_bool (by rw [← HF.out, HA.out]; first | done | rfl | (simp; omega)), HK.out⟩
  · have HA : Hid (rFine r = false) := Lib.hid (by unfold rFine; rw [h1]; rfl)
    go_wp2_with (go_at_call 153; refine (inName_any _ _).mono ?_; rintro e w' ⟨rfl, rfl⟩; rw [h1])
    go_ret
    exact ⟨ret_bool (by rw [← HF.out, HA.out]; first | done | rfl | (simp; omega)), HK.out⟩
theorem begins_is {s p : ByteArray} {a : Nat} (h : a + p.size ≤ s.size) : ((s.extract a (a + p.size)).toList == p.toList) = (bs p).isPrefixOf ((bs s).drop a) := by
  rw [beq_bs, Bool.eq_iff_iff, decide_eq_true_eq, List.isPrefixOf_iff_prefix, ← bs_iff, bs_extract]
  have e : a + p.size - a = (bs p).length := by rw [bs_len]; omega
  rw [e]
  constructor
  · intro h; rw [← h]; exact List.take_prefix _ _
  · intro h; exact (List.prefix_iff_eq_take.1 h).symm
theorem begins_any (s p : ByteArray) (a : Nat) (w : World) (hs : s.size ≤ 1000000) (ha : a ≤ s.size) (hp : p.size ≤ 1000000) :
    Calls Tryz.prog 139 #[.string s, .int .i64 a, .string p] w fun e w' => e = .returned (.bool ((bs p).isPrefixOf ((bs s).drop a))) ∧ w = w' := by
  by_cases h : a + p.size ≤ s.size
  · have h1 : (a : Int) + (p.size : Int) ≤ s.size := by omega
    have e1 : ((a : Int) + (p.size : Int)).toNat = a + p.size := by omega
    have e2 : (0 : Int) ≤ (a : Int) + (p.size : Int) := by omega
    have e3 : (a : Int) ≤ (a : Int) + (p.size : Int) := by omega
    have HB := Lib.hid (begins_is h)
    generalize (bs p).isPrefixOf ((bs s).drop a) = r at HB ⊢
    generalize hx : s.extract a (a + p.size) = x at HB
    have HX := Lib.hid hx
    clear hx h
    go_enter Tryz.func139, Tryz.ntmps139
    go_wp2
    go_ret
    exact ⟨ret_bool (by rw [HX.out, HB.out]), rfl⟩
  · have h1 : ¬ (a : Int) + (p.size : Int) ≤ s.size := by omega
    have HB : Hid ((bs p).isPrefixOf ((bs s).drop a) = false) := Lib.hid (by
      cases e : (bs p).isPrefixOf ((bs s).drop a)
      · rfl
      · have := (List.isPrefixOf_iff_prefix.1 e).length_le
        rw [List.length_drop, bs_len, bs_len] at this
        omega)
    clear h
    go_enter Tryz.func139, Tryz.ntmps139
    go_wp2
    go_ret
    exact ⟨ret_bool HB.out.symm, rfl⟩
/-- the string of bytes -/
def strOf (l : List UInt8) : ByteArray := ⟨l.toArray⟩
theorem prefix_any (k : Int) (w : World) : Calls Tryz.prog 79 #[.int .i64 k] w fun e w' => e = .returned (.string (strOf (tPre k))) ∧ w = w' := by
  by_cases h1 : k = 1
  · subst h1
    go_enter Tryz.func79, Tryz.ntmps79
    go_wp2
    go_ret
    exact ⟨rfl, rfl⟩
  by_cases h2 : k = 2
  · subst h2
    go_enter Tryz.func79, Tryz.ntmps79
    go_wp2
    go_ret
    exact ⟨rfl, rfl⟩
  by_cases h4 : k = 4
  · subst h4
    go_enter Tryz.func79, Tryz.ntmps79
    go_wp2
    go_ret
    exact ⟨rfl, rfl⟩
  by_cases h5 : k = 5
  · subst h5
    go_enter Tryz.func79, Tryz.ntmps79
    go_wp2
    go_ret
    exact ⟨rfl, rfl⟩
  have HA : Hid (strOf (tPre k) = ⟨#[]⟩) := Lib.hid (by unfold tPre; rw [if_neg h1, if_neg h2, if_neg h4, if_neg h5]; rfl)
  have g1 : (k == 1) = false := by simp [h1]
  have g2 : (k == 2) = false := by simp [h2]
  have g4 : (k == 4) = false := by simp [h4]
  have g5 : (k == 5) = false := by simp [h5]
  clear h1 h2 h4 h5
  go_enter Tryz.func79, Tryz.ntmps79
  go_wp2
  go_ret
  exact ⟨by rw [HA.out]; rfl, rfl⟩
theorem str_yes {s : ByteArray} {l : List UInt8} (h : bs s = l) : (s.toList == l) = true := by rw [bs_toList, h]; simp
theorem str_no {s : ByteArray} {l : List UInt8} (h : bs s ≠ l) : (s.toList == l) = false := by rw [bs_toList]; simpa using h
theorem keyword_any (s : ByteArray) (w : World) : Calls Tryz.prog 78 #[.string s] w fun e w' => e = .returned (.int .i64 (tKey (bs s))) ∧ w = w' := by
  have HK : Hid (tKey (bs s) = if bs s = [97, 110, 100] then 2 else if bs s = [102, 111, 114] then 3 else if bs s = [97, 115] then 5 else 0) := Lib.hid rfl
  by_cases h1 : bs s = [97, 110, 100]
  · have q1 := str_yes h1
    have H1 := Lib.hid h1
    clear h1
    go_enter Tryz.func78, Tryz.ntmps78
    go_wp2
    go_ret
    exact ⟨ret_int (by rw [HK.out, if_pos H1.out]), rfl⟩
  · have q1 := str_no h1
    by_cases h2 : bs s = [102, 111, 114]
    · have q2 := str_yes h2
      have H1 := Lib.hid h1
      have H2 := Lib.hid h2
      clear h1 h2
      go_enter Tryz.func78, Tryz.ntmps78
      go_wp2
      go_ret
      exact ⟨ret_int (by rw [HK.out, if_neg H1.out, if_pos H2.out]), rfl⟩
    · have q2 := str_no h2
      by_cases h3 : bs s = [97, 115]
      · have q3 := str_yes h3
        have H1 := Lib.hid h1
        have H2 := Lib.hid h2
        have H3 := Lib.hid h3
        clear h1 h2 h3
        go_enter Tryz.func78, Tryz.ntmps78
        go_wp2
        go_ret
        exact ⟨ret_int (by rw [HK.out, if_neg H1.out, if_neg H2.out, if_pos H3.out]), rfl⟩
      · have q3 := str_no h3
        have H1 := Lib.hid h1
        have H2 := Lib.hid h2
        have H3 := Lib.hid h3
        clear h1 h2 h3
        go_enter Tryz.func78, Tryz.ntmps78
        go_wp2
        go_ret
        exact ⟨ret_int (by rw [HK.out, if_neg H1.out, if_neg H2.out, if_neg H3.out]), rfl⟩
theorem sign_is (l : List UInt8) : tSign l = ((l == [61]) || ((l == [44]) || ((l == [59]) || ((l == [60]) || ((l == [62]) || ((l == [33]) || ((l == [63]) || (l == [42])))))))) := by
  match l with
  | [] => rfl
  | [c] =>
    unfold tSign tOne
    simp only [List.cons_beq_cons, beq_self_eq_true, Bool.and_true]
  | c :: d :: r => simp [tSign]
set_option maxHeartbeats 1000000 in
theorem isSign_any (s : ByteArray) (w : World) : Calls Tryz.prog 81 #[.string s] w fun e w' => e = .returned (.bool (tSign (bs s))) ∧ w = w' := by
  rw [sign_is, ← bs_toList]
  go_enter Tryz.func81, Tryz.ntmps81
  go_wp2
  all_goals
    go_ret
    exact ⟨ret_bool (by first | (simp only [Bool.or_assoc]; done) | (simp [*]; done)), rfl⟩

open Go.RowKit Go.ChangeShapes Go.WideShapes
theorem run_at (s : ByteArray) (k : Nat) (h : k < s.size) (wx : World) :
    (Instr.index 9 (.string s) (.int .i64 (k : Int))).run Tryz.prog wx = .ok (.int .u8 (s.get! k).toNat) wx := by
  rw [get_bang s k h]
  simp [Instr.index, run_underlying Tryz.underlying9, asInt, asIntOf, h]
theorem bs_at {s : ByteArray} {k : Nat} (h : k < s.size) : (bs s)[k]? = some (s.get! k) := by
  rw [bs_get s k h, get_bang s k h]
set_option maxHeartbeats 1000000 in
theorem number_any (s : ByteArray) (w : World) (hs : s.size ≤ 1000000) : Calls Tryz.prog 80 #[.string s] w fun e w' => e = .returned (.bool (tNum (bs s))) ∧ w = w' := by
  have HL := Lib.hid (bs_len s)
  go_enter Tryz.func80, Tryz.ntmps80
  go_wp2
  go_loop [3] (fun i => ∃ k : Nat, k ≤ s.size ∧ i = .int .i64 k ∧ Hid (∀ j c, j < k → (bs s)[j]? = some c → tDig c = true)) (fun i => s.size - (intOf i).toNat)
  case atStart => exact ⟨0, by omega, rfl, Lib.hid (fun i y hi => by omega)⟩
  case round =>
    obtain ⟨k, hk, rfl, hall⟩ := hrel
    by_cases hlt : k < s.size
    · have h1 : (k : Int) < s.size := by omega
      have hc := Lib.hid (bs_at hlt)
      have x1 := run_at s k hlt
      generalize s.get! k = c at *
      have hcl := c.toNat_lt
      have e1 : IntKind.i32.wrap (c.toNat : Int) = c.toNat := by simp [IntKind.wrap, IntKind.bits, IntKind.signed]; omega
      have HD := Lib.hid (dig_byte c)
      cases hd : tDig c
      · have HA : Hid (tNum (bs s) = false) := Lib.hid (by
          unfold tNum
          have : (bs s).all tDig = false := by rw [List.all_eq_false]; exact ⟨c, List.mem_of_getElem? hc.out, by simp [hd]⟩
          rw [this]; rfl)
        rw [hd] at HD
        clear hd
        go_wp2_with (go_at_call 115; refine (digit_any _ _).mono ?_; rintro e w' ⟨rfl, rfl⟩; rw [HD.out])
        go_ret
        exact ⟨ret_bool HA.out.symm, rfl⟩
      · have HA : Hid (∀ j c, j < k + 1 → (bs s)[j]? = some c → tDig c = true) := Lib.hid (fun j y hj hy => by
          rcases Nat.lt_or_ge j k with h | h
          · exact hall.out j y h hy
          · obtain rfl : j = k := by omega
            rw [hc.out] at hy; cases hy; exact hd)
        rw [hd] at HD
        clear hd
        go_wp2_with (go_at_call 115; refine (digit_any _ _).mono ?_; rintro e w' ⟨rfl, rfl⟩; rw [HD.out])
        go_round
        case rel => exact ⟨k + 1, by omega, by go_num, HA⟩
        case measure => simp [intOf]; omega
    · have HA : Hid ((bs s).all tDig = true) := Lib.hid (by
        rw [List.all_eq_true]
        intro c hc
        obtain ⟨i, hi⟩ := List.mem_iff_getElem?.1 hc
        exact hall.out i c (by have := (List.getElem?_eq_some_iff.1 hi).1; rw [HL.out] at this; omega) hi)
      have h1 : ¬ (k : Int) < s.size := by omega
      by_cases h0 : s.size = 0
      · have g0 : ¬ 1 ≤ s.size := by omega
        have HB : Hid (tNum (bs s) = false) := Lib.hid (by unfold tNum; rw [HL.out]; simp; omega)
        have g1 : ¬ 1 ≤ (s.size : Int) := by omega
        go_wp2
        go_ret
        exact ⟨ret_bool HB.out.symm, rfl⟩
      · have g0 : 1 ≤ s.size := by omega
        have g1 : 1 ≤ (s.size : Int) := by omega
        by_cases h9 : s.size ≤ 9
        · have g9 : (s.size : Int) ≤ 9 := by omega
          have x1 : ∀ wx : World, Sem.run Tryz.prog (Instr.index 9 (Value.string s) (Value.int IntKind.i64 0)) wx = Result.ok (Value.int IntKind.u8 (s.get! 0).toNat) wx := run_at s 0 (by omega)
          have hc := Lib.hid (bs_at (s := s) (k := 0) (by omega))
          generalize s.get! 0 = c at *
          have hcl := c.toNat_lt
          have hh : (bs s).head? = some c := by rw [List.head?_eq_getElem?]; exact hc.out
          have HB : Hid (tNum (bs s) = (decide (c ≠ 48) || decide (s.size = 1))) := Lib.hid (by
            unfold tNum
            rw [HA.out, HL.out, hh]
            simp [g0, h9])
          by_cases h48 : c = 48
          · have g48 : ((c.toNat : Int) != 48) = false := by subst h48; rfl
            have HC : Hid (tNum (bs s) = decide (s.size = 1)) := Lib.hid (by rw [HB.out, h48]; simp)
            clear h48 hh
            by_cases hs1 : s.size = 1
            · have e1 : ((s.size : Int) == 1) = true := by simp; omega
              have e2 : (s.size : Int) = 1 := by omega
              have HD : Hid (tNum (bs s) = true) := Lib.hid (by rw [HC.out]; simp [hs1])
              go_wp2
              go_ret
              exact ⟨ret_bool HD.out.symm, rfl⟩
            · have e1 : ((s.size : Int) == 1) = false := by simp; omega
              have e2 : ¬ (s.size : Int) = 1 := by omega
              have HD : Hid (tNum (bs s) = false) := Lib.hid (by rw [HC.out]; simp [hs1])
              go_wp2
              go_ret
              exact ⟨ret_bool HD.out.symm, rfl⟩
          · have g48 : ((c.toNat : Int) != 48) = true := by
              simp
              intro e
              exact h48 (UInt8.toNat_inj.1 (by have : (48 : UInt8).toNat = 48 := rfl; omega))
            have HC : Hid (tNum (bs s) = true) := Lib.hid (by rw [HB.out]; simp [h48])
            clear h48 hh
            go_wp2
            go_ret
            exact ⟨ret_bool HC.out.symm, rfl⟩
        · have g9 : ¬ (s.size : Int) ≤ 9 := by omega
          have HB : Hid (tNum (bs s) = false) := Lib.hid (by unfold tNum; rw [HL.out]; simp; omega)
          go_wp2
          go_ret
          exact ⟨ret_bool HB.out.symm, rfl⟩

open Go.RowKit Go.ChangeShapes Go.WideShapes
theorem let_far {r : Int} (h : r = -1 ∨ 128 ≤ r) : rLet r = false := by unfold rLet; simp; omega
theorem let_rune {s : ByteArray} {a : Nat} {r next : Int} (h : RuneIs s a r next) : rLet r = ((((bs s).drop a).head?.map tLet).getD false) := by
  rcases Nat.lt_or_ge a s.size with hlt | hge
  · rw [drop_at hlt]
    have h1 := h.1 hlt
    show rLet r = tLet (s.get! a)
    by_cases h128 : byteN s a < 128
    · obtain ⟨rfl, _⟩ := h1.1 h128
      exact let_byte _
    · have h2 : 128 ≤ byteN s a := by omega
      rw [let_far (h1.2 h2).1]
      unfold tLet
      unfold byteN at h2
      simp
      omega
  · rw [let_far (.inl (h.2 hge).1), List.drop_eq_nil_of_le (by rw [bs_len]; exact hge)]
    rfl
theorem bs_strOf (l : List UInt8) : bs (strOf l) = l := by simp [bs, strOf]
theorem strOf_extract {s : ByteArray} {a b : Nat} (h : b ≤ s.size) : strOf (((bs s).drop a).take (b - a)) = s.extract a b := bs_inj (by rw [bs_strOf, bs_extract])
/-- a scan over bytes of a class, on the way -/
def Scan (p : UInt8 → Bool) (s : ByteArray) (a k : Nat) : Prop := a ≤ k ∧ k ≤ s.size ∧ ((bs s).drop a).takeWhile p = ((bs s).drop a).take (k - a) ++ ((bs s).drop k).takeWhile p
theorem Scan.first {p : UInt8 → Bool} {s : ByteArray} {a : Nat} (h : a ≤ s.size) : Scan p s a a := ⟨Nat.le_refl _, h, by simp⟩
theorem take_more {s : ByteArray} {a k : Nat} (h1 : a ≤ k) (h : k < s.size) : ((bs s).drop a).take (k + 1 - a) = ((bs s).drop a).take (k - a) ++ [s.get! k] := by
  have e : k + 1 - a = k - a + 1 := by omega
  rw [e, List.take_add_one, List.getElem?_drop, show a + (k - a) = k by omega, bs_at h]
  rfl
theorem Scan.more {p : UInt8 → Bool} {s : ByteArray} {a k : Nat} (h : Scan p s a k) (hk : k < s.size) (hp : p (s.get! k) = true) : Scan p s a (k + 1) := by
  obtain ⟨h1, h2, h3⟩ := h
  refine ⟨by omega, hk, ?_⟩
  rw [h3, take_more h1 hk, drop_at hk, List.takeWhile_cons, hp]
  simp
theorem Scan.stop {p : UInt8 → Bool} {s : ByteArray} {a k : Nat} (h : Scan p s a k) (hp : k < s.size → p (s.get! k) = false) : ((bs s).drop a).takeWhile p = ((bs s).drop a).take (k - a) ∧ (((bs s).drop a).takeWhile p).length = k - a ∧ ((bs s).drop a).drop (k - a) = (bs s).drop k := by
  obtain ⟨h1, h2, h3⟩ := h
  have e : ((bs s).drop a).takeWhile p = ((bs s).drop a).take (k - a) := by
    rw [h3]
    rcases Nat.lt_or_ge k s.size with hk | hk
    · rw [drop_at hk, List.takeWhile_cons, hp hk]; simp
    · rw [show (bs s).drop k = [] from List.drop_eq_nil_of_le (by rw [bs_len]; exact hk)]; simp
  refine ⟨e, ?_, ?_⟩
  · rw [e, List.length_take, List.length_drop, bs_len]; omega
  · rw [List.drop_drop]; congr 1; omega
/-- a name as it is returned -/
def nameV (a : Nat) : Option (List UInt8) → Value
  | none => .tuple #[.string (strOf []), .int .i64 (-1)]
  | some x => .tuple #[.string (strOf x), .int .i64 ((a + x.length : Nat) : Int)]
theorem name_no {s : ByteArray} {a : Nat} {r next : Int} (h : RuneIs s a r next) (hr : rLet r = false) : nameS ((bs s).drop a) = none := by
  unfold nameS
  rw [← let_rune h, hr]
  simp
theorem name_yes {s : ByteArray} {a k : Nat} {r next : Int} (h : RuneIs s a r next) (hr : rLet r = true) (hs : Scan tIn s a k) (hp : k < s.size → tIn (s.get! k) = false) :
    nameS ((bs s).drop a) = if k - a ≤ 24 ∧ tFine ((bs s).drop k) = true then some (((bs s).drop a).take (k - a)) else none := by
  obtain ⟨h1, h2, h3⟩ := hs.stop hp
  unfold nameS
  rw [← let_rune h, hr, h2, h3, h1]
  simp
theorem nameV_some {s : ByteArray} {a k : Nat} (h1 : a ≤ k) (h2 : k ≤ s.size) : nameV a (some (((bs s).drop a).take (k - a))) = .tuple #[.string (s.extract a k), .int .i64 (k : Int)] := by
  have e : (((bs s).drop a).take (k - a)).length = k - a := by rw [List.length_take, List.length_drop, bs_len]; omega
  show Value.tuple #[.string (strOf (((bs s).drop a).take (k - a))), .int .i64 ((a + (((bs s).drop a).take (k - a)).length : Nat) : Int)] = _
  rw [strOf_extract h2, e, show a + (k - a) = k by omega]
set_option maxHeartbeats 1000000 in
theorem name_any (s : ByteArray) (a : Nat) (w : World) (hs : s.size ≤ 1000000) (ha : a ≤ s.size) :
    Calls Tryz.prog 140 #[.string s, .int .i64 a] w (KeptPost (nameV a (nameS ((bs s).drop a))) w) := by
  go_enter Tryz.func140, Tryz.ntmps140
  go_wp2_with fail
  refine (rune_any s a w hs (by omega)).mono ?_
  rintro e w1 ⟨r, next, rfl, hr, hk⟩
  have HR := Lib.hid hr
  have HK := Lib.hid hk
  clear hr hk
  cases h1 : rLet r
  · have HN : Hid (nameS ((bs s).drop a) = none) := Lib.hid (name_no HR.out h1)
    go_wp2_with (go_at_call 142; refine (letter_any _ _).mono ?_; rintro e w' ⟨rfl, rfl⟩; rw [h1])
    go_ret2
    exact ⟨by rw [HN.out]; rfl, HK.out⟩
  · have H1 := Lib.hid h1
    go_wp2_with (go_at_call 142; refine (letter_any _ _).mono ?_; rintro e w' ⟨rfl, rfl⟩; rw [h1])
    clear h1
    go_loop [8] (fun i => ∃ k : Nat, i = .int .i64 k ∧ k ≤ s.size ∧ Hid (Scan tIn s a k)) (fun i => s.size - (intOf i).toNat)
    case atStart => exact ⟨a, rfl, ha, Lib.hid (.first ha)⟩
    case round =>
      obtain ⟨k, rfl, hk, hsc⟩ := hrel
      have hak : a ≤ k := hsc.out.1
      have haki : (a : Int) ≤ (k : Int) := by omega
      have hki : (k : Int) ≤ (s.size : Int) := by omega
      by_cases hlt : k < s.size
      · have hlti : (k : Int) < s.size := by omega
        have x1 := run_at s k hlt
        have HC : Hid (tIn (s.get! k) = true → Scan tIn s a (k + 1)) := Lib.hid (hsc.out.more hlt)
        have HS0 : Hid (tIn (s.get! k) = false → _) := Lib.hid (fun hh => name_yes HR.out H1.out hsc.out (fun _ => hh))
        generalize s.get! k = c at *
        have hcl := c.toNat_lt
        have e1 : IntKind.i32.wrap (c.toNat : Int) = c.toNat := by simp [IntKind.wrap, IntKind.bits, IntKind.signed]; omega
        have HD := Lib.hid (in_byte c)
        cases hd : tIn c
        · have HS := Lib.hid (HS0.out hd)
          rw [hd] at HD
          clear hd HC HS0
          by_cases h24 : k - a ≤ 24
          · have g24 : ¬ (24 : Int) < (k : Int) - a := by omega
            cases hf : tFine ((bs s).drop k)
            · have HN : Hid (nameS ((bs s).drop a) = none) := Lib.hid (by rw [HS.out, hf]; simp)
              go_wp2_with (go_at_call 153; refine (inName_any _ _).mono ?_; rintro e w' ⟨rfl, rfl⟩; rw [HD.out])
              refine (fine_any s k _ hs (by omega)).mono ?_
              rintro e w2 ⟨rfl, hk2⟩
              rw [hf]
              have HK2 := Lib.hid (HK.out.trans hk2)
              clear hk2 hf
              go_wp2
              go_ret2
              exact ⟨by rw [HN.out]; rfl, HK2.out⟩
            · have HN : Hid (nameS ((bs s).drop a) = some (((bs s).drop a).take (k - a))) := Lib.hid (by rw [HS.out, hf]; simp [h24])
              go_wp2_with (go_at_call 153; refine (inName_any _ _).mono ?_; rintro e w' ⟨rfl, rfl⟩; rw [HD.out])
              refine (fine_any s k _ hs (by omega)).mono ?_
              rintro e w2 ⟨rfl, hk2⟩
              rw [hf]
              have HK2 := Lib.hid (HK.out.trans hk2)
              have HV := Lib.hid (nameV_some hsc.out.1 hk)
              clear hk2 hf
              go_wp2
              go_ret2
              exact ⟨by rw [HN.out, HV.out]; rfl, HK2.out⟩
          · have g24 : (24 : Int) < (k : Int) - a := by omega
            have HN : Hid (nameS ((bs s).drop a) = none) := Lib.hid (by rw [HS.out]; simp [h24])
            go_wp2_with (go_at_call 153; refine (inName_any _ _).mono ?_; rintro e w' ⟨rfl, rfl⟩; rw [HD.out])
            go_ret2
            exact ⟨by rw [HN.out]; rfl, HK.out⟩
        · have HSC := Lib.hid (HC.out hd)
          rw [hd] at HD
          clear hd HC HS0
          go_wp2_with (go_at_call 153; refine (inName_any _ _).mono ?_; rintro e w' ⟨rfl, rfl⟩; rw [HD.out])
          go_round
          case rel => exact ⟨k + 1, by go_num, hlt, HSC⟩
          case measure => simp [intOf]; omega
      · have hlti : ¬ (k : Int) < s.size := by omega
        have HS := Lib.hid (name_yes HR.out H1.out hsc.out (fun hh => absurd hh hlt))
        by_cases h24 : k - a ≤ 24
        · have g24 : ¬ (24 : Int) < (k : Int) - a := by omega
          cases hf : tFine ((bs s).drop k)
          · have HN : Hid (nameS ((bs s).drop a) = none) := Lib.hid (by rw [HS.out, hf]; simp)
            go_wp2_with fail
            refine (fine_any s k _ hs (by omega)).mono ?_
            rintro e w2 ⟨rfl, hk2⟩
            rw [hf]
            have HK2 := Lib.hid (HK.out.trans hk2)
            clear hk2 hf
            go_wp2
            go_ret2
            exact ⟨by rw [HN.out]; rfl, HK2.out⟩
          · have HN : Hid (nameS ((bs s).drop a) = some (((bs s).drop a).take (k - a))) := Lib.hid (by rw [HS.out, hf]; simp [h24])
            go_wp2_with fail
            refine (fine_any s k _ hs (by omega)).mono ?_
            rintro e w2 ⟨rfl, hk2⟩
            rw [hf]
            have HK2 := Lib.hid (HK.out.trans hk2)
            have HV := Lib.hid (nameV_some hsc.out.1 hk)
            clear hk2 hf
            go_wp2
            go_ret2
            exact ⟨by rw [HN.out, HV.out]; rfl, HK2.out⟩
        · have g24 : (24 : Int) < (k : Int) - a := by omega
          have HN : Hid (nameS ((bs s).drop a) = none) := Lib.hid (by rw [HS.out]; simp [h24])
          go_wp2_with fail
          go_ret2
          exact ⟨by rw [HN.out]; rfl, HK.out⟩

open Go.RowKit Go.ChangeShapes Go.WideShapes
/-- a token's value, at a place -/
def tokV (t : Tok) (a : Nat) : Value := .agg #[.int .i64 t.kind, .string (strOf t.name), .int .i64 t.of, .int .i64 a]
def SignPost (l : List UInt8) (a : Nat) (w : World) (e : Ending) (w' : World) : Prop :=
  Kept w w' ∧ match signS l with
    | none => ∃ t : Tok, e = .returned (.tuple #[tokV t a, .int .i64 (-1)])
    | some (t, k) => e = .returned (.tuple #[tokV t a, .int .i64 ((a + k : Nat) : Int)])
/-- a block of four cells -/
def Four (w : World) (g : Nat) (a b c d : Value) : Prop := ∃ t, w.heap[g]? = some (.cells #[a, b, c, d] t (0, 0))
theorem Four.c0 {w : World} {g : Nat} {a b c d : Value} (h : Four w g a b c d) : w.cell? ⟨g, 0, none⟩ = some a := by obtain ⟨t, h⟩ := h; rw [cell_whole h]; rfl
theorem Four.c1 {w : World} {g : Nat} {a b c d : Value} (h : Four w g a b c d) : w.cell? ⟨g, 1, none⟩ = some b := by obtain ⟨t, h⟩ := h; rw [cell_whole h]; rfl
theorem Four.c2 {w : World} {g : Nat} {a b c d : Value} (h : Four w g a b c d) : w.cell? ⟨g, 2, none⟩ = some c := by obtain ⟨t, h⟩ := h; rw [cell_whole h]; rfl
theorem Four.c3 {w : World} {g : Nat} {a b c d : Value} (h : Four w g a b c d) : w.cell? ⟨g, 3, none⟩ = some d := by obtain ⟨t, h⟩ := h; rw [cell_whole h]; rfl
theorem Four.fz {w : World} {g : Nat} {a b c d : Value} (h : Four w g a b c d) (j : Nat) : w.frozen? ⟨g, j, none⟩ = false := by obtain ⟨t, h⟩ := h; simp [World.frozen?, h]
theorem Four.lt {w : World} {g : Nat} {a b c d : Value} (h : Four w g a b c d) : g < w.heap.size := by obtain ⟨t, h⟩ := h; exact (Array.getElem?_eq_some_iff.1 h).1
theorem Four.kept {w w' : World} {g : Nat} {a b c d : Value} (h : Four w g a b c d) (hk : Kept w w') : Four w' g a b c d := by
  have hl := h.lt
  obtain ⟨t, h⟩ := h
  exact ⟨t, (hk.block g hl (by simp)).trans h⟩
theorem Four.other {w : World} {g g' o : Nat} {v a b c d : Value} (h : Four w g a b c d) (hn : g ≠ g') : Four (w.setCell ⟨g', o, none⟩ v) g a b c d := by
  have hl := h.lt
  obtain ⟨t, h⟩ := h
  exact ⟨t, ((Fr.of_setCell w ⟨g', o, none⟩ v).block g hl hn).trans h⟩
theorem four_new (w : World) (a b c d : Value) (t : TypeId) : Four (w.alloc (.cells #[a, b, c, d] t)) w.heap.size a b c d := ⟨t, heap_alloc_new w _⟩
theorem block_set {w : World} {g o : Nat} {v : Value} {cs : Array Value} {t : TypeId} {fr : Nat × Nat} (h : w.heap[g]? = some (.cells cs t fr)) : (w.setCell ⟨g, o, none⟩ v).heap[g]? = some (.cells (cs.setIfInBounds o v) t fr) := by
  simp [World.setCell, Array.getElem?_modify, h]
theorem Four.put {w : World} {g : Nat} {a b c d x y z u : Value} (h : Four w g a b c d) :
    Four ((((w.setCell ⟨g, 0, none⟩ x).setCell ⟨g, 1, none⟩ y).setCell ⟨g, 2, none⟩ z).setCell ⟨g, 3, none⟩ u) g x y z u := by
  obtain ⟨t, h⟩ := h
  have h1 := block_set (o := 0) (v := x) h
  have h2 := block_set (o := 1) (v := y) h1
  have h3 := block_set (o := 2) (v := z) h2
  have h4 := block_set (o := 3) (v := u) h3
  exact ⟨t, by simpa using h4⟩
theorem put_kept {w w0 : World} {g : Nat} {x y z u : Value} (h : Kept w w0) (hg : w.heap.size ≤ g) :
    Kept w ((((w0.setCell ⟨g, 0, none⟩ x).setCell ⟨g, 1, none⟩ y).setCell ⟨g, 2, none⟩ z).setCell ⟨g, 3, none⟩ u) :=
  (((h.over (Fr.of_setCell _ _ _) (fun j e => by simp at e; omega)).over (Fr.of_setCell _ _ _) (fun j e => by simp at e; omega)).over (Fr.of_setCell _ _ _) (fun j e => by simp at e; omega)).over (Fr.of_setCell _ _ _) (fun j e => by simp at e; omega)
theorem one_kept {w w0 : World} {g o : Nat} {x : Value} (h : Kept w w0) (hg : w.heap.size ≤ g) : Kept w (w0.setCell ⟨g, o, none⟩ x) :=
  h.over (Fr.of_setCell _ _ _) (fun j e => by simp at e; omega)
theorem sign_ret {W : World} {g : Nat} {a b c d v : Value} {tmps : Array Value} (h : Four W g a b c d) (h4 : tmps.getD 4 undef = .pointer (some ⟨g, 0, none⟩)) (h5 : tmps.getD 5 undef = v) :
    (results Tryz.f107 tmps).run Tryz.prog W = .ok (.tuple #[.agg #[a, b, c, d], v]) W := by
  have c0 := h.c0
  have c1 := h.c1
  have c2 := h.c2
  have c3 := h.c3
  rw [results_cell_tmp rfl, h4, h5]
  go_simp
/-- the kinds in their order -/
def kindOf (k : Nat) : Int := if k = 0 then 1 else if k = 1 then 2 else if k = 2 then 4 else 5
theorem sign_pre {l : List UInt8} {k : Nat} (hk : k < 4) (h : ∀ m, m < k → (tPre (kindOf m)).isPrefixOf l = false) (h1 : (tPre (kindOf k)).isPrefixOf l = true) :
    signS l = (nameS (l.drop (tPre (kindOf k)).length)).map (fun w => ((⟨1, w, kindOf k⟩ : Tok), (tPre (kindOf k)).length + w.length)) := by
  have hc : k = 0 ∨ k = 1 ∨ k = 2 ∨ k = 3 := by omega
  rcases hc with rfl | rfl | rfl | rfl
  · have q1 : [107, 101, 121, 58].isPrefixOf l = true := h1
    unfold signS; rw [if_pos q1]; rfl
  · have q1 : ¬ [107, 101, 121, 58].isPrefixOf l = true := by rw [show [107, 101, 121, 58].isPrefixOf l = false from h 0 (by omega)]; simp
    have q2 : [99, 104, 97, 110, 58].isPrefixOf l = true := h1
    unfold signS; rw [if_neg q1, if_pos q2]; rfl
  · have q1 : ¬ [107, 101, 121, 58].isPrefixOf l = true := by rw [show [107, 101, 121, 58].isPrefixOf l = false from h 0 (by omega)]; simp
    have q2 : ¬ [99, 104, 97, 110, 58].isPrefixOf l = true := by rw [show [99, 104, 97, 110, 58].isPrefixOf l = false from h 1 (by omega)]; simp
    have q3 : [103, 114, 111, 117, 112, 58].isPrefixOf l = true := h1
    unfold signS; rw [if_neg q1, if_neg q2, if_pos q3]; rfl
  · have q1 : ¬ [107, 101, 121, 58].isPrefixOf l = true := by rw [show [107, 101, 121, 58].isPrefixOf l = false from h 0 (by omega)]; simp
    have q2 : ¬ [99, 104, 97, 110, 58].isPrefixOf l = true := by rw [show [99, 104, 97, 110, 58].isPrefixOf l = false from h 1 (by omega)]; simp
    have q3 : ¬ [103, 114, 111, 117, 112, 58].isPrefixOf l = true := by rw [show [103, 114, 111, 117, 112, 58].isPrefixOf l = false from h 2 (by omega)]; simp
    have q4 : [114, 111, 108, 101, 58].isPrefixOf l = true := h1
    unfold signS; rw [if_neg q1, if_neg q2, if_neg q3, if_pos q4]; rfl
/-- the sign where no kind is written -/
def bareS : List UInt8 → Option (Tok × Nat)
  | [] => none
  | c :: r =>
    if tLet c = true then (nameS (c :: r)).map (fun w => (if tKey w = 0 then ⟨1, w, 3⟩ else ⟨tKey w, [], 0⟩, w.length))
    else if c = 68 then (if tFine r = true then some (⟨1, [68], 0⟩, 1) else none)
    else if c = 124 then some (⟨4, [], 0⟩, 1)
    else if c = 40 then some (⟨6, [], 0⟩, 1)
    else if c = 41 then some (⟨7, [], 0⟩, 1)
    else if tDig c = true then
      (if tNum ((c :: r).takeWhile tDig) = true ∧ tFine ((c :: r).drop ((c :: r).takeWhile tDig).length) = true then some (⟨8, (c :: r).takeWhile tDig, 0⟩, ((c :: r).takeWhile tDig).length) else none)
    else if tOne c = true then some (⟨9, [c], 0⟩, 1)
    else none
theorem sign_bare {l : List UInt8} (h : ∀ m, m < 4 → (tPre (kindOf m)).isPrefixOf l = false) : signS l = bareS l := by
  unfold signS
  rw [if_neg (by rw [show [107, 101, 121, 58].isPrefixOf l = false from h 0 (by omega)]; simp), if_neg (by rw [show [99, 104, 97, 110, 58].isPrefixOf l = false from h 1 (by omega)]; simp), if_neg (by rw [show [103, 114, 111, 117, 112, 58].isPrefixOf l = false from h 2 (by omega)]; simp), if_neg (by rw [show [114, 111, 108, 101, 58].isPrefixOf l = false from h 3 (by omega)]; simp)]
  cases l <;> rfl
theorem pre_len (k : Int) : (tPre k).length ≤ 6 := by
  unfold tPre
  split
  · decide
  · split
    · decide
    · split
      · decide
      · split <;> decide
theorem strOf_size (l : List UInt8) : (strOf l).size = l.length := by rw [← bs_len, bs_strOf]
theorem bare_let {l : List UInt8} (h : (l.head?.map tLet).getD false = true) : bareS l = (nameS l).map (fun w => (if tKey w = 0 then ⟨1, w, 3⟩ else ⟨tKey w, [], 0⟩, w.length)) := by
  cases l with
  | nil => cases h
  | cons c r =>
    have hc : tLet c = true := by simpa using h
    show (if tLet c = true then _ else _) = _
    rw [if_pos hc]
theorem rune_small {s : ByteArray} {a : Nat} {r next : Int} (h : RuneIs s a r next) (h0 : 0 ≤ r) (h1 : r < 128) : a < s.size ∧ r = ((s.get! a).toNat : Int) ∧ next = (a : Int) + 1 := by
  rcases Nat.lt_or_ge a s.size with hlt | hge
  · have h2 := h.1 hlt
    by_cases h3 : byteN s a < 128
    · have := h2.1 h3
      exact ⟨hlt, this.1, this.2⟩
    · have := (h2.2 (by omega)).1
      omega
  · have := (h.2 hge).1
    omega
/-- a sign of one byte by its own, or of digits -/
theorem bare_at {s : ByteArray} {a : Nat} {c : UInt8} (h : a < s.size) (hc : s.get! a = c) : (bs s).drop a = c :: (bs s).drop (a + 1) := by rw [drop_at h, hc]
theorem bare_68 (l : List UInt8) : bareS (68 :: l) = if tFine l = true then some (⟨1, [68], 0⟩, 1) else none := rfl
theorem bare_124 (l : List UInt8) : bareS (124 :: l) = some (⟨4, [], 0⟩, 1) := rfl
theorem bare_40 (l : List UInt8) : bareS (40 :: l) = some (⟨6, [], 0⟩, 1) := rfl
theorem bare_41 (l : List UInt8) : bareS (41 :: l) = some (⟨7, [], 0⟩, 1) := rfl
theorem byte_of {s : ByteArray} {a n : Nat} {r : Int} (h : r = ((s.get! a).toNat : Int)) (hr : r = n) (hn : n < 256) : s.get! a = UInt8.ofNat n := by
  have := byte_is (s.get! a) n n rfl hn
  have h2 : ((s.get! a).toNat : Int) = n := by omega
  rw [h2] at this
  simpa using this.symm
theorem bare_digits {s : ByteArray} {a m : Nat} {r next : Int} (h : RuneIs s a r next) (hd : rDig r = true) (hs : Scan tDig s a m) (hp : m < s.size → tDig (s.get! m) = false) :
    bareS ((bs s).drop a) = if tNum (((bs s).drop a).take (m - a)) = true ∧ tFine ((bs s).drop m) = true then some (⟨8, ((bs s).drop a).take (m - a), 0⟩, m - a) else none := by
  have hr : 48 ≤ r ∧ r ≤ 57 := by unfold rDig at hd; simpa using hd
  obtain ⟨h1, h2, h3⟩ := hs.stop hp
  obtain ⟨hlt, hrc, _⟩ := rune_small h (by omega) (by omega)
  have q1 : ¬ tLet (s.get! a) = true := by unfold tLet; simp; omega
  have q2 : tDig (s.get! a) = true := by unfold tDig; simp; omega
  have nq : ∀ n : Nat, n < 256 → (57 < n ∨ n < 48) → s.get! a ≠ UInt8.ofNat n := by
    intro n hn h48 e
    have : (s.get! a).toNat = n := by rw [e]; simp; omega
    omega
  rw [drop_at hlt] at h1 h2 h3 ⊢
  show (if tLet (s.get! a) = true then _ else if s.get! a = 68 then _ else if s.get! a = 124 then _ else if s.get! a = 40 then _ else if s.get! a = 41 then _ else if tDig (s.get! a) = true then _ else _) = _
  rw [if_neg q1, if_neg (show ¬ s.get! a = 68 from nq 68 (by omega) (by omega)), if_neg (show ¬ s.get! a = 124 from nq 124 (by omega) (by omega)), if_neg (show ¬ s.get! a = 40 from nq 40 (by omega) (by omega)), if_neg (show ¬ s.get! a = 41 from nq 41 (by omega) (by omega)), if_pos q2, h2, h3, h1]
theorem strOf_bs (x : ByteArray) : strOf (bs x) = x := bs_inj (bs_strOf _)
theorem rune_next {s : ByteArray} {a : Nat} {r next : Int} (h : RuneIs s a r next) (ha : a ≤ s.size) : ∃ n : Nat, next = n ∧ a ≤ n ∧ n ≤ s.size := by
  rcases Nat.lt_or_ge a s.size with hlt | hge
  · have h2 := h.1 hlt
    by_cases h3 : byteN s a < 128
    · exact ⟨a + 1, by rw [(h2.1 h3).2]; rfl, by omega, hlt⟩
    · obtain ⟨_, h4, h5⟩ := h2.2 (by omega)
      exact ⟨next.toNat, by omega, by omega, by omega⟩
  · exact ⟨s.size, (h.2 hge).2, ha, Nat.le_refl _⟩
theorem one_far {c : UInt8} (h : 128 ≤ c.toNat) : tOne c = false := by
  have nq : ∀ n : Nat, n < 128 → (c == UInt8.ofNat n) = false := by
    intro n hn
    rw [beq_eq_false_iff_ne]
    intro e
    have : c.toNat = n := by rw [e]; simp; omega
    omega
  unfold tOne
  rw [show (c == 61) = false from nq 61 (by omega), show (c == 44) = false from nq 44 (by omega), show (c == 59) = false from nq 59 (by omega), show (c == 60) = false from nq 60 (by omega), show (c == 62) = false from nq 62 (by omega), show (c == 33) = false from nq 33 (by omega), show (c == 63) = false from nq 63 (by omega), show (c == 42) = false from nq 42 (by omega)]
  rfl
theorem bare_one {s : ByteArray} {a n : Nat} {r : Int} (h : RuneIs s a r n) (ha : a ≤ s.size) (hl : rLet r = false) (hd : rDig r = false) (h68 : r ≠ 68) (h124 : r ≠ 124) (h40 : r ≠ 40) (h41 : r ≠ 41) :
    bareS ((bs s).drop a) = if tSign (bs (s.extract a n)) = true then some (⟨9, bs (s.extract a n), 0⟩, n - a) else none := by
  rw [bs_extract]
  rcases Nat.lt_or_ge a s.size with hlt | hge
  · have h2 := h.1 hlt
    have bare : ∀ c : UInt8, ∀ t, tLet c = false → tDig c = false → c ≠ 68 → c ≠ 124 → c ≠ 40 → c ≠ 41 → bareS (c :: t) = if tOne c = true then some (⟨9, [c], 0⟩, 1) else none := by
      intro c t q1 q2 q3 q4 q5 q6
      show (if tLet c = true then _ else if c = 68 then _ else if c = 124 then _ else if c = 40 then _ else if c = 41 then _ else if tDig c = true then _ else _) = _
      rw [if_neg (by rw [q1]; simp), if_neg q3, if_neg q4, if_neg q5, if_neg q6, if_neg (by rw [q2]; simp)]
    rw [drop_at hlt]
    by_cases h3 : byteN s a < 128
    · obtain ⟨h4, h5⟩ := h2.1 h3
      obtain rfl : n = a + 1 := by omega
      have nq : ∀ m : Nat, m < 256 → r ≠ m → s.get! a ≠ UInt8.ofNat m := by
        intro m hm hr e
        have : (s.get! a).toNat = m := by rw [e]; simp; omega
        unfold byteN at h4
        omega
      rw [bare _ _ (by rw [← let_byte]; unfold byteN at h4; rw [← h4]; exact hl) (by rw [← dig_byte]; unfold byteN at h4; rw [← h4]; exact hd) (nq 68 (by omega) (by omega)) (nq 124 (by omega) (by omega)) (nq 40 (by omega) (by omega)) (nq 41 (by omega) (by omega))]
      rw [show a + 1 - a = 1 by omega]
      rfl
    · have h128 : 128 ≤ (s.get! a).toNat := by unfold byteN at h3; omega
      have nq : ∀ m : Nat, m < 128 → s.get! a ≠ UInt8.ofNat m := by
        intro m hm e
        have : (s.get! a).toNat = m := by rw [e]; simp; omega
        omega
      obtain ⟨_, h4, h5⟩ := h2.2 (by omega)
      rw [bare _ _ (by unfold tLet; simp; omega) (by unfold tDig; simp; omega) (nq 68 (by omega)) (nq 124 (by omega)) (nq 40 (by omega)) (nq 41 (by omega)), one_far h128]
      obtain ⟨q, hq⟩ : ∃ q, n - a = q + 1 := ⟨n - a - 1, by omega⟩
      rw [hq, List.take_succ_cons]
      cases ht : ((bs s).drop (a + 1)).take q with
      | nil =>
        show _ = if tOne (s.get! a) = true then _ else _
        rw [one_far h128]
        simp
      | cons y z => rfl
  · have : (bs s).drop a = [] := List.drop_eq_nil_of_le (by rw [bs_len]; exact hge)
    rw [this, List.take_nil]
    rfl
/-- a walk of sign, at its start -/
structure Sgn (w w0 : World) (g0 g1 g2 : Nat) (a : Nat) : Prop where
  kept : Kept w w0
  n0 : w.heap.size ≤ g0
  n1 : w.heap.size ≤ g1
  ne : g0 ≠ g1
  r : Four w0 g0 (.int .i64 0) (.string ⟨#[]⟩) (.int .i64 0) (.int .i64 0)
  t : Four w0 g1 (.int .i64 0) (.string ⟨#[]⟩) (.int .i64 0) (.int .i64 a)
  k : Four w0 g2 (.int .i64 1) (.int .i64 2) (.int .i64 4) (.int .i64 5)
theorem Sgn.later {w w0 w1 : World} {g0 g1 g2 a : Nat} (h : Sgn w w0 g0 g1 g2 a) (hk : Kept w0 w1) : Sgn w w1 g0 g1 g2 a :=
  ⟨h.kept.trans hk, h.n0, h.n1, h.ne, h.r.kept hk, h.t.kept hk, h.k.kept hk⟩
theorem Sgn.at {w w0 : World} {g0 g1 g2 a k : Nat} (h : Sgn w w0 g0 g1 g2 a) (hk : k < 4) : w0.cell? ⟨g2, k, none⟩ = some (.int .i64 (kindOf k)) := by
  have hc : k = 0 ∨ k = 1 ∨ k = 2 ∨ k = 3 := by omega
  rcases hc with rfl | rfl | rfl | rfl
  · exact h.k.c0
  · exact h.k.c1
  · exact h.k.c2
  · exact h.k.c3
set_option maxHeartbeats 2000000 in
theorem sign_any (s : ByteArray) (a : Nat) (w : World) (hs : s.size ≤ 1000000) (ha : a ≤ s.size) :
    Calls Tryz.prog 107 #[.string s, .int .i64 a] w (SignPost ((bs s).drop a) a w) := by
  have H0 : Hid (Sgn w (((w.alloc (Obj.cells #[.int .i64 0, .string ⟨#[]⟩, .int .i64 0, .int .i64 0] 85)).alloc (Obj.cells #[.int .i64 0, .string ⟨#[]⟩, .int .i64 0, .int .i64 a] 85)).alloc (Obj.cells #[.int .i64 1, .int .i64 2, .int .i64 4, .int .i64 5] 3)) w.heap.size (w.heap.size + 1) (w.heap.size + 1 + 1) a) := Lib.hid (by
    refine ⟨((Fr.of_alloc _ _ _).trans (Fr.of_alloc _ _ _)).trans (Fr.of_alloc _ _ _), Nat.le_refl _, by omega, by omega, ?_, ?_, ?_⟩
    · exact ((four_new w _ _ _ _ _).kept (Fr.of_alloc _ _ _)).kept (Fr.of_alloc _ _ _)
    · have := four_new (w.alloc (Obj.cells #[.int .i64 0, .string ⟨#[]⟩, .int .i64 0, .int .i64 0] 85)) (.int .i64 0) (.string ⟨#[]⟩) (.int .i64 0) (.int .i64 a) 85
      rw [World.size_alloc] at this
      exact this.kept (Fr.of_alloc _ _ _)
    · have := four_new ((w.alloc (Obj.cells #[.int .i64 0, .string ⟨#[]⟩, .int .i64 0, .int .i64 0] 85)).alloc (Obj.cells #[.int .i64 0, .string ⟨#[]⟩, .int .i64 0, .int .i64 a] 85)) (.int .i64 1) (.int .i64 2) (.int .i64 4) (.int .i64 5) 3
      rw [World.size_alloc, World.size_alloc] at this
      exact this)
  go_enter Tryz.func107, Tryz.ntmps107
  go_wp2_with fail
  generalize ((w.alloc _).alloc _).alloc _ = w0 at H0 ⊢
  generalize hg2 : w.heap.size + 1 + 1 = g2 at H0 ⊢
  generalize hg1 : w.heap.size + 1 = g1 at H0 ⊢
  generalize hg0 : w.heap.size = g0 at H0 ⊢
  clear hg2 hg1 hg0
  go_loop [8] (fun i => ∃ k : Nat, i = .int .i64 k ∧ k ≤ 4 ∧ Hid (∀ m, m < k → (tPre (kindOf m)).isPrefixOf ((bs s).drop a) = false)) (fun i => 4 - (intOf i).toNat)
  case atStart => exact ⟨0, rfl, by omega, Lib.hid (fun m hm => by omega)⟩
  case round =>
    obtain ⟨k, rfl, hk, hno⟩ := hrel
    by_cases hlt : k < 4
    · have hlti : (k : Int) < 4 := by omega
      have x0 := H0.out.at hlt
      have hp0 : Hid ((tPre (kindOf k)).isPrefixOf ((bs s).drop a) = (tPre (kindOf k)).isPrefixOf ((bs s).drop a)) := Lib.hid rfl
      cases hb : (tPre (kindOf k)).isPrefixOf ((bs s).drop a)
      · have HN : Hid (∀ m, m < k + 1 → (tPre (kindOf m)).isPrefixOf ((bs s).drop a) = false) := Lib.hid (fun m hm => by
          rcases Nat.lt_or_ge m k with h | h
          · exact hno.out m h
          · obtain rfl : m = k := by omega
            exact hb)
        have HB : Hid ((bs (strOf (tPre (kindOf k)))).isPrefixOf ((bs s).drop a) = false) := Lib.hid (by rw [bs_strOf]; exact hb)
        clear hb
        go_wp2_with (first | (go_at_call 79; refine (prefix_any _ _).mono ?_; rintro e w' ⟨rfl, rfl⟩) | (go_at_call 139; refine (begins_any s _ a _ hs ha (by rw [strOf_size]; have := pre_len (kindOf k); omega)).mono ?_; rintro e w' ⟨rfl, rfl⟩; rw [HB.out]))
        go_round
        case rel => exact ⟨k + 1, by go_num, by omega, HN⟩
        case measure => simp [intOf]; omega
      · have HS := Lib.hid (sign_pre hlt hno.out hb)
        have HB : Hid ((bs (strOf (tPre (kindOf k)))).isPrefixOf ((bs s).drop a) = true) := Lib.hid (by rw [bs_strOf]; exact hb)
        have hp6 : (strOf (tPre (kindOf k))).size ≤ 6 := by rw [strOf_size]; exact pre_len _
        have hle : a + (strOf (tPre (kindOf k))).size ≤ s.size := by
          have := (List.isPrefixOf_iff_prefix.1 hb).length_le
          rw [List.length_drop, bs_len, ← strOf_size] at this
          omega
        have HN : ∀ W, Calls Tryz.prog 140 #[.string s, .int .i64 ((a : Int) + ((strOf (tPre (kindOf k))).size : Int))] W (KeptPost (nameV (a + (tPre (kindOf k)).length) (nameS (((bs s).drop a).drop (tPre (kindOf k)).length))) W) := fun W => by
          have h := name_any s (a + (strOf (tPre (kindOf k))).size) W hs hle
          rw [strOf_size, ← List.drop_drop] at h
          rw [strOf_size]
          exact h
        replace HN := Lib.hid HN
        have HP := Lib.hid (fun W => prefix_any (kindOf k) W)
        clear hb hno
        generalize (tPre (kindOf k)) = p at *
        generalize kindOf k = kk at *
        generalize nameS (((bs s).drop a).drop p.length) = o at *
        generalize hps : strOf p = ps at *
        have HQ := Lib.hid hps
        clear hps
        cases o with
        | none =>
          go_wp2_with (first | (go_at_call 79; refine (HP.out _).mono ?_; rintro e w' ⟨rfl, rfl⟩) | (go_at_call 139; refine (begins_any s _ a _ hs ha (by omega)).mono ?_; rintro e w' ⟨rfl, rfl⟩; rw [HB.out]))
          have HN2 : Hid (∀ W, Calls Tryz.prog 140 #[.string s, .int .i64 ((a : Int) + (ps.size : Int))] W (KeptPost (.tuple #[.string ⟨#[]⟩, .int .i64 (-1)]) W)) := HN
          refine (HN2.out _).mono ?_
          rintro e w1 ⟨rfl, hk1⟩
          have y0 := hk1.cell x0 (by simp)
          have H1 := Lib.hid (H0.out.later hk1)
          have r0 := H1.out.r.c0
          have r1 := H1.out.r.c1
          have r2 := H1.out.r.c2
          have r3 := H1.out.r.c3
          have f0 := H1.out.r.fz 0
          have f1 := H1.out.r.fz 1
          have f2 := H1.out.r.fz 2
          have f3 := H1.out.r.fz 3
          clear hk1
          go_wp2
          clear r0 r1 r2 r3 f0 f1 f2 f3 y0
          refine bodyPost_ret (sign_ret H1.out.r.put rfl rfl) rfl ⟨put_kept H1.out.kept H1.out.n0, ?_⟩
          rw [HS.out]
          exact ⟨⟨1, [], kk⟩, rfl⟩
        | some y =>
          go_wp2_with (first | (go_at_call 79; refine (HP.out _).mono ?_; rintro e w' ⟨rfl, rfl⟩) | (go_at_call 139; refine (begins_any s _ a _ hs ha (by omega)).mono ?_; rintro e w' ⟨rfl, rfl⟩; rw [HB.out]))
          have HN2 : Hid (∀ W, Calls Tryz.prog 140 #[.string s, .int .i64 ((a : Int) + (ps.size : Int))] W (KeptPost (.tuple #[.string (strOf y), .int .i64 ((a + p.length + y.length : Nat) : Int)]) W)) := HN
          refine (HN2.out _).mono ?_
          rintro e w1 ⟨rfl, hk1⟩
          have y0 := hk1.cell x0 (by simp)
          have H1 := Lib.hid (H0.out.later hk1)
          have r0 := H1.out.r.c0
          have r1 := H1.out.r.c1
          have r2 := H1.out.r.c2
          have r3 := H1.out.r.c3
          have f0 := H1.out.r.fz 0
          have f1 := H1.out.r.fz 1
          have f2 := H1.out.r.fz 2
          have f3 := H1.out.r.fz 3
          clear hk1
          go_wp2
          clear r0 r1 r2 r3 f0 f1 f2 f3 y0
          refine bodyPost_ret (sign_ret H1.out.r.put rfl rfl) rfl ⟨put_kept H1.out.kept H1.out.n0, ?_⟩
          rw [HS.out]
          show Ending.returned (.tuple #[tokV ⟨1, y, kk⟩ a, .int .i64 ((a + p.length + y.length : Nat) : Int)]) = .returned (.tuple #[tokV ⟨1, y, kk⟩ a, .int .i64 ((a + (p.length + y.length) : Nat) : Int)])
          rw [Nat.add_assoc]
    · have hlti : ¬ (k : Int) < 4 := by omega
      have HS := Lib.hid (sign_bare (l := (bs s).drop a) (fun m hm => hno.out m (by omega)))
      clear hno
      go_wp2_with fail
      refine (rune_any s a _ hs (by omega)).mono ?_
      rintro e w1 ⟨r, next, rfl, hr, hk1⟩
      have H1 := Lib.hid (H0.out.later hk1)
      have HR := Lib.hid hr
      clear hr hk1 H0
      cases hl : rLet r
      · have hne := H1.out.ne
        have r0 := H1.out.r.c0
        have r1 := H1.out.r.c1
        have r2 := H1.out.r.c2
        have r3 := H1.out.r.c3
        have f0 := H1.out.r.fz 0
        have f1 := H1.out.r.fz 1
        have f2 := H1.out.r.fz 2
        have f3 := H1.out.r.fz 3
        have t0 := H1.out.t.c0
        have t1 := H1.out.t.c1
        have t2 := H1.out.t.c2
        have t3 := H1.out.t.c3
        have u0 := H1.out.t.fz 0
        have hne2 := H1.out.ne.symm
        by_cases e68 : r = 68
        · obtain ⟨hlt2, hrc, hnx⟩ := rune_small HR.out (by omega) (by omega)
          have hc : s.get! a = 68 := byte_of (n := 68) hrc (by omega) (by omega)
          have HB := Lib.hid (bare_at hlt2 hc)
          subst e68 hnx
          clear hrc hc HR
          cases hf : tFine ((bs s).drop (a + 1))
          · have HF : Hid (∀ W, Calls Tryz.prog 143 #[.string s, .int .i64 ((a : Int) + 1)] W (KeptPost (.bool false) W)) := Lib.hid (fun W => by rw [← hf]; exact fine_any s (a + 1) W hs (by omega))
            go_wp2_with (go_at_call 142; refine (letter_any _ _).mono ?_; rintro e w' ⟨rfl, rfl⟩; rw [hl])
            refine (HF.out _).mono ?_
            rintro e w2 ⟨rfl, hk2⟩
            have H2 := Lib.hid (H1.out.later hk2)
            clear r0 r1 r2 r3 f0 f1 f2 f3 t0 t1 t2 t3 u0 hk2
            have r0 := H2.out.r.c0
            have r1 := H2.out.r.c1
            have r2 := H2.out.r.c2
            have r3 := H2.out.r.c3
            have f0 := H2.out.r.fz 0
            have f1 := H2.out.r.fz 1
            have f2 := H2.out.r.fz 2
            have f3 := H2.out.r.fz 3
            have t0 := H2.out.t.c0
            have t1 := H2.out.t.c1
            have t2 := H2.out.t.c2
            have t3 := H2.out.t.c3
            have u0 := H2.out.t.fz 0
            have hne := H2.out.ne
            have hne2 := H2.out.ne.symm
            go_wp2
            clear r0 r1 r2 r3 f0 f1 f2 f3 t0 t1 t2 t3 u0
            refine bodyPost_ret (sign_ret H2.out.r.put rfl rfl) rfl ⟨put_kept H2.out.kept H2.out.n0, ?_⟩
            rw [HS.out, HB.out, bare_68, hf]
            exact ⟨⟨0, [], 0⟩, rfl⟩
          · have HF : Hid (∀ W, Calls Tryz.prog 143 #[.string s, .int .i64 ((a : Int) + 1)] W (KeptPost (.bool true) W)) := Lib.hid (fun W => by rw [← hf]; exact fine_any s (a + 1) W hs (by omega))
            go_wp2_with (go_at_call 142; refine (letter_any _ _).mono ?_; rintro e w' ⟨rfl, rfl⟩; rw [hl])
            refine (HF.out _).mono ?_
            rintro e w2 ⟨rfl, hk2⟩
            have H2 := Lib.hid (H1.out.later hk2)
            clear r0 r1 r2 r3 f0 f1 f2 f3 t0 t1 t2 t3 u0 hk2
            have r0 := H2.out.r.c0
            have r1 := H2.out.r.c1
            have r2 := H2.out.r.c2
            have r3 := H2.out.r.c3
            have f0 := H2.out.r.fz 0
            have f1 := H2.out.r.fz 1
            have f2 := H2.out.r.fz 2
            have f3 := H2.out.r.fz 3
            have t0 := H2.out.t.c0
            have t1 := H2.out.t.c1
            have t2 := H2.out.t.c2
            have t3 := H2.out.t.c3
            have u0 := H2.out.t.fz 0
            have hne := H2.out.ne
            have hne2 := H2.out.ne.symm
            go_wp2
            clear r0 r1 r2 r3 f0 f1 f2 f3 t0 t1 t2 t3 u0
            refine bodyPost_ret (sign_ret H2.out.r.put rfl rfl) rfl ⟨put_kept H2.out.kept H2.out.n0, ?_⟩
            rw [HS.out, HB.out, bare_68, hf]
            exact rfl
        · have g68 : (r == 68) = false := by simp [e68]
          by_cases e124 : r = 124
          · obtain ⟨hlt2, hrc, hnx⟩ := rune_small HR.out (by omega) (by omega)
            have hc := byte_of (n := 124) hrc (by omega) (by omega)
            have HB := Lib.hid (bare_at hlt2 hc)
            subst e124 hnx
            clear hrc hc HR g68
            go_wp2_with (go_at_call 142; refine (letter_any _ _).mono ?_; rintro e w' ⟨rfl, rfl⟩; rw [hl])
            clear r0 r1 r2 r3 f0 f1 f2 f3 t0 t1 t2 t3 u0
            refine bodyPost_ret (sign_ret (H1.out.r.other hne).put rfl rfl) rfl ⟨put_kept (one_kept H1.out.kept H1.out.n1) H1.out.n0, ?_⟩
            rw [HS.out, HB.out]
            exact rfl
          by_cases e40 : r = 40
          · obtain ⟨hlt2, hrc, hnx⟩ := rune_small HR.out (by omega) (by omega)
            have hc := byte_of (n := 40) hrc (by omega) (by omega)
            have HB := Lib.hid (bare_at hlt2 hc)
            subst e40 hnx
            clear hrc hc HR g68
            go_wp2_with (go_at_call 142; refine (letter_any _ _).mono ?_; rintro e w' ⟨rfl, rfl⟩; rw [hl])
            clear r0 r1 r2 r3 f0 f1 f2 f3 t0 t1 t2 t3 u0
            refine bodyPost_ret (sign_ret ((H1.out.r.other hne).other hne).put rfl rfl) rfl ⟨put_kept (one_kept (one_kept H1.out.kept H1.out.n1) H1.out.n1) H1.out.n0, ?_⟩
            rw [HS.out, HB.out]
            exact rfl
          by_cases e41 : r = 41
          · obtain ⟨hlt2, hrc, hnx⟩ := rune_small HR.out (by omega) (by omega)
            have hc := byte_of (n := 41) hrc (by omega) (by omega)
            have HB := Lib.hid (bare_at hlt2 hc)
            subst e41 hnx
            clear hrc hc HR g68
            go_wp2_with (go_at_call 142; refine (letter_any _ _).mono ?_; rintro e w' ⟨rfl, rfl⟩; rw [hl])
            clear r0 r1 r2 r3 f0 f1 f2 f3 t0 t1 t2 t3 u0
            refine bodyPost_ret (sign_ret ((H1.out.r.other hne).other hne).put rfl rfl) rfl ⟨put_kept (one_kept (one_kept H1.out.kept H1.out.n1) H1.out.n1) H1.out.n0, ?_⟩
            rw [HS.out, HB.out]
            exact rfl
          have g124 : (r == 124) = false := by simp [e124]
          have g40 : (r == 40) = false := by simp [e40]
          have g41 : (r == 41) = false := by simp [e41]
          cases hd : rDig r
          · obtain ⟨n, rfl, han, hns⟩ := rune_next HR.out ha
            have hani : (a : Int) ≤ n := by omega
            have hnsi : (n : Int) ≤ s.size := by omega
            have HE := Lib.hid (bare_one HR.out ha hl hd e68 e124 e40 e41)
            clear e68 e124 e40 e41
            cases hq : tSign (bs (s.extract a n))
            · have HSg : Hid (∀ W, Calls Tryz.prog 81 #[.string (s.extract a n)] W fun e w' => e = .returned (.bool false) ∧ W = w') := Lib.hid (fun W => by rw [← hq]; exact isSign_any _ W)
              go_wp2_with (first | (go_at_call 142; refine (letter_any _ _).mono ?_; rintro e w' ⟨rfl, rfl⟩; rw [hl]) | (go_at_call 115; refine (digit_any _ _).mono ?_; rintro e w' ⟨rfl, rfl⟩; rw [hd]) | (go_at_call 81; refine (HSg.out _).mono ?_; rintro e w' ⟨rfl, rfl⟩))
              clear r0 r1 r2 r3 f0 f1 f2 f3 t0 t1 t2 t3 u0
              refine bodyPost_ret (sign_ret H1.out.r.put rfl rfl) rfl ⟨put_kept H1.out.kept H1.out.n0, ?_⟩
              rw [HS.out, HE.out, hq, if_neg (by simp)]
              exact ⟨⟨0, [], 0⟩, rfl⟩
            · have HSg : Hid (∀ W, Calls Tryz.prog 81 #[.string (s.extract a n)] W fun e w' => e = .returned (.bool true) ∧ W = w') := Lib.hid (fun W => by rw [← hq]; exact isSign_any _ W)
              go_wp2_with (first | (go_at_call 142; refine (letter_any _ _).mono ?_; rintro e w' ⟨rfl, rfl⟩; rw [hl]) | (go_at_call 115; refine (digit_any _ _).mono ?_; rintro e w' ⟨rfl, rfl⟩; rw [hd]) | (go_at_call 81; refine (HSg.out _).mono ?_; rintro e w' ⟨rfl, rfl⟩))
              clear r0 r1 r2 r3 f0 f1 f2 f3 t0 t1 t2 t3 u0
              refine bodyPost_ret (sign_ret H1.out.r.put rfl rfl) rfl ⟨put_kept H1.out.kept H1.out.n0, ?_⟩
              rw [HS.out, HE.out, hq, if_pos rfl]
              show _ = Ending.returned (.tuple #[tokV ⟨9, bs (s.extract a n), 0⟩ a, .int .i64 ((a + (n - a) : Nat) : Int)])
              unfold tokV
              rw [strOf_bs, show a + (n - a) = n by omega]
              rfl
          · have HDg := Lib.hid hd
            clear e68 e124 e40 e41
            go_wp2_with (first | (go_at_call 142; refine (letter_any _ _).mono ?_; rintro e w' ⟨rfl, rfl⟩; rw [hl]) | (go_at_call 115; refine (digit_any _ _).mono ?_; rintro e w' ⟨rfl, rfl⟩; rw [hd]))
            clear hd
            go_loop [16] (fun i => ∃ m : Nat, i = .int .i64 m ∧ Hid (Scan tDig s a m)) (fun i => s.size - (intOf i).toNat)
            case atStart => exact ⟨a, rfl, Lib.hid (.first ha)⟩
            case round =>
              obtain ⟨m, rfl, hsc⟩ := hrel
              by_cases hlt9 : m < s.size
              · have hlti9 : (m : Int) < s.size := by omega
                have x1 := run_at s m hlt9
                have HC : Hid (tDig (s.get! m) = true → Scan tDig s a (m + 1)) := Lib.hid (hsc.out.more hlt9)
                have HE0 : Hid (tDig (s.get! m) = false → _) := Lib.hid (fun hh => bare_digits HR.out HDg.out hsc.out (fun _ => hh))
                generalize s.get! m = c at *
                have hcl := c.toNat_lt
                have e1 : IntKind.i32.wrap (c.toNat : Int) = c.toNat := by simp [IntKind.wrap, IntKind.bits, IntKind.signed]; omega
                have HD := Lib.hid (dig_byte c)
                cases hd : tDig c
                · have HE := Lib.hid (HE0.out hd)
                  rw [hd] at HD
                  clear hd HC HE0
                  have hnx2 := (rfl : (0 : Nat) = 0)
                  have ham : a ≤ m := hsc.out.1
                  have hms : m ≤ s.size := hsc.out.2.1
                  have hami : (a : Int) ≤ m := by omega
                  have hmsi : (m : Int) ≤ s.size := by omega
                  cases hq : tNum (((bs s).drop a).take (m - a))
                  · have HNum : Hid (∀ W, Calls Tryz.prog 80 #[.string (s.extract a m)] W fun e w' => e = .returned (.bool false) ∧ W = w') := Lib.hid (fun W => by rw [← hq, ← bs_extract]; exact number_any _ W (by have h := bs_len (s.extract a m); rw [bs_extract, List.length_take, List.length_drop, bs_len] at h; omega))
                    go_wp2_with (first | (go_at_call 115; refine (digit_any _ _).mono ?_; rintro e w' ⟨rfl, rfl⟩; rw [HD.out]) | (go_at_call 80; refine (HNum.out _).mono ?_; rintro e w' ⟨rfl, rfl⟩))
                    clear r0 r1 r2 r3 f0 f1 f2 f3 t0 t1 t2 t3 u0
                    refine bodyPost_ret (sign_ret H1.out.r.put rfl rfl) rfl ⟨put_kept H1.out.kept H1.out.n0, ?_⟩
                    rw [HS.out, HE.out, hq, if_neg (by simp)]
                    exact ⟨⟨0, [], 0⟩, rfl⟩
                  · have HNum : Hid (∀ W, Calls Tryz.prog 80 #[.string (s.extract a m)] W fun e w' => e = .returned (.bool true) ∧ W = w') := Lib.hid (fun W => by rw [← hq, ← bs_extract]; exact number_any _ W (by have h := bs_len (s.extract a m); rw [bs_extract, List.length_take, List.length_drop, bs_len] at h; omega))
                    cases hf : tFine ((bs s).drop m)
                    · have HF : Hid (∀ W, Calls Tryz.prog 143 #[.string s, .int .i64 (m : Int)] W (KeptPost (.bool false) W)) := Lib.hid (fun W => by rw [← hf]; exact fine_any s m W hs (by omega))
                      go_wp2_with (first | (go_at_call 115; refine (digit_any _ _).mono ?_; rintro e w' ⟨rfl, rfl⟩; rw [HD.out]) | (go_at_call 80; refine (HNum.out _).mono ?_; rintro e w' ⟨rfl, rfl⟩))
                      refine (HF.out _).mono ?_
                      rintro e w2 ⟨rfl, hk2⟩
                      have H2 := Lib.hid (H1.out.later hk2)
                      clear r0 r1 r2 r3 f0 f1 f2 f3 t0 t1 t2 t3 u0
                      clear hk2
                      have r0 := H2.out.r.c0
                      have r1 := H2.out.r.c1
                      have r2 := H2.out.r.c2
                      have r3 := H2.out.r.c3
                      have f0 := H2.out.r.fz 0
                      have f1 := H2.out.r.fz 1
                      have f2 := H2.out.r.fz 2
                      have f3 := H2.out.r.fz 3
                      have t0 := H2.out.t.c0
                      have t1 := H2.out.t.c1
                      have t2 := H2.out.t.c2
                      have t3 := H2.out.t.c3
                      have u0 := H2.out.t.fz 0
                      go_wp2
                      clear r0 r1 r2 r3 f0 f1 f2 f3 t0 t1 t2 t3 u0
                      refine bodyPost_ret (sign_ret H2.out.r.put rfl rfl) rfl ⟨put_kept H2.out.kept H2.out.n0, ?_⟩
                      rw [HS.out, HE.out, hq, hf, if_neg (by simp)]
                      exact ⟨⟨0, [], 0⟩, rfl⟩
                    · have HF : Hid (∀ W, Calls Tryz.prog 143 #[.string s, .int .i64 (m : Int)] W (KeptPost (.bool true) W)) := Lib.hid (fun W => by rw [← hf]; exact fine_any s m W hs (by omega))
                      go_wp2_with (first | (go_at_call 115; refine (digit_any _ _).mono ?_; rintro e w' ⟨rfl, rfl⟩; rw [HD.out]) | (go_at_call 80; refine (HNum.out _).mono ?_; rintro e w' ⟨rfl, rfl⟩))
                      refine (HF.out _).mono ?_
                      rintro e w2 ⟨rfl, hk2⟩
                      have H2 := Lib.hid (H1.out.later hk2)
                      clear r0 r1 r2 r3 f0 f1 f2 f3 t0 t1 t2 t3 u0
                      clear hk2
                      have r0 := H2.out.r.c0
                      have r1 := H2.out.r.c1
                      have r2 := H2.out.r.c2
                      have r3 := H2.out.r.c3
                      have f0 := H2.out.r.fz 0
                      have f1 := H2.out.r.fz 1
                      have f2 := H2.out.r.fz 2
                      have f3 := H2.out.r.fz 3
                      have t0 := H2.out.t.c0
                      have t1 := H2.out.t.c1
                      have t2 := H2.out.t.c2
                      have t3 := H2.out.t.c3
                      have u0 := H2.out.t.fz 0
                      go_wp2
                      clear r0 r1 r2 r3 f0 f1 f2 f3 t0 t1 t2 t3 u0
                      refine bodyPost_ret (sign_ret H2.out.r.put rfl rfl) rfl ⟨put_kept H2.out.kept H2.out.n0, ?_⟩
                      rw [HS.out, HE.out, hq, hf, if_pos ⟨rfl, rfl⟩]
                      show _ = Ending.returned (.tuple #[tokV ⟨8, ((bs s).drop a).take (m - a), 0⟩ a, .int .i64 ((a + (m - a) : Nat) : Int)])
                      unfold tokV
                      rw [strOf_extract hms, show a + (m - a) = m by omega]
                      rfl
                · have HSC := Lib.hid (HC.out hd)
                  rw [hd] at HD
                  clear hd HC HE0
                  go_wp2_with (go_at_call 115; refine (digit_any _ _).mono ?_; rintro e w' ⟨rfl, rfl⟩; rw [HD.out])
                  go_round
                  case rel => exact ⟨m + 1, by go_num, HSC⟩
                  case measure => simp [intOf]; omega
              · have hlti9 : ¬ (m : Int) < s.size := by omega
                have HE := Lib.hid (bare_digits HR.out HDg.out hsc.out (fun hh => absurd hh hlt9))
                have hnx2 := (rfl : (0 : Nat) = 0)
                have ham : a ≤ m := hsc.out.1
                have hms : m ≤ s.size := hsc.out.2.1
                have hami : (a : Int) ≤ m := by omega
                have hmsi : (m : Int) ≤ s.size := by omega
                cases hq : tNum (((bs s).drop a).take (m - a))
                · have HNum : Hid (∀ W, Calls Tryz.prog 80 #[.string (s.extract a m)] W fun e w' => e = .returned (.bool false) ∧ W = w') := Lib.hid (fun W => by rw [← hq, ← bs_extract]; exact number_any _ W (by have h := bs_len (s.extract a m); rw [bs_extract, List.length_take, List.length_drop, bs_len] at h; omega))
                  go_wp2_with (first | fail | (go_at_call 80; refine (HNum.out _).mono ?_; rintro e w' ⟨rfl, rfl⟩))
                  clear r0 r1 r2 r3 f0 f1 f2 f3 t0 t1 t2 t3 u0
                  refine bodyPost_ret (sign_ret H1.out.r.put rfl rfl) rfl ⟨put_kept H1.out.kept H1.out.n0, ?_⟩
                  rw [HS.out, HE.out, hq, if_neg (by simp)]
                  exact ⟨⟨0, [], 0⟩, rfl⟩
                · have HNum : Hid (∀ W, Calls Tryz.prog 80 #[.string (s.extract a m)] W fun e w' => e = .returned (.bool true) ∧ W = w') := Lib.hid (fun W => by rw [← hq, ← bs_extract]; exact number_any _ W (by have h := bs_len (s.extract a m); rw [bs_extract, List.length_take, List.length_drop, bs_len] at h; omega))
                  cases hf : tFine ((bs s).drop m)
                  · have HF : Hid (∀ W, Calls Tryz.prog 143 #[.string s, .int .i64 (m : Int)] W (KeptPost (.bool false) W)) := Lib.hid (fun W => by rw [← hf]; exact fine_any s m W hs (by omega))
                    go_wp2_with (first | fail | (go_at_call 80; refine (HNum.out _).mono ?_; rintro e w' ⟨rfl, rfl⟩))
                    refine (HF.out _).mono ?_
                    rintro e w2 ⟨rfl, hk2⟩
                    have H2 := Lib.hid (H1.out.later hk2)
                    clear r0 r1 r2 r3 f0 f1 f2 f3 t0 t1 t2 t3 u0
                    clear hk2
                    have r0 := H2.out.r.c0
                    have r1 := H2.out.r.c1
                    have r2 := H2.out.r.c2
                    have r3 := H2.out.r.c3
                    have f0 := H2.out.r.fz 0
                    have f1 := H2.out.r.fz 1
                    have f2 := H2.out.r.fz 2
                    have f3 := H2.out.r.fz 3
                    have t0 := H2.out.t.c0
                    have t1 := H2.out.t.c1
                    have t2 := H2.out.t.c2
                    have t3 := H2.out.t.c3
                    have u0 := H2.out.t.fz 0
                    go_wp2
                    clear r0 r1 r2 r3 f0 f1 f2 f3 t0 t1 t2 t3 u0
                    refine bodyPost_ret (sign_ret H2.out.r.put rfl rfl) rfl ⟨put_kept H2.out.kept H2.out.n0, ?_⟩
                    rw [HS.out, HE.out, hq, hf, if_neg (by simp)]
                    exact ⟨⟨0, [], 0⟩, rfl⟩
                  · have HF : Hid (∀ W, Calls Tryz.prog 143 #[.string s, .int .i64 (m : Int)] W (KeptPost (.bool true) W)) := Lib.hid (fun W => by rw [← hf]; exact fine_any s m W hs (by omega))
                    go_wp2_with (first | fail | (go_at_call 80; refine (HNum.out _).mono ?_; rintro e w' ⟨rfl, rfl⟩))
                    refine (HF.out _).mono ?_
                    rintro e w2 ⟨rfl, hk2⟩
                    have H2 := Lib.hid (H1.out.later hk2)
                    clear r0 r1 r2 r3 f0 f1 f2 f3 t0 t1 t2 t3 u0
                    clear hk2
                    have r0 := H2.out.r.c0
                    have r1 := H2.out.r.c1
                    have r2 := H2.out.r.c2
                    have r3 := H2.out.r.c3
                    have f0 := H2.out.r.fz 0
                    have f1 := H2.out.r.fz 1
                    have f2 := H2.out.r.fz 2
                    have f3 := H2.out.r.fz 3
                    have t0 := H2.out.t.c0
                    have t1 := H2.out.t.c1
                    have t2 := H2.out.t.c2
                    have t3 := H2.out.t.c3
                    have u0 := H2.out.t.fz 0
                    go_wp2
                    clear r0 r1 r2 r3 f0 f1 f2 f3 t0 t1 t2 t3 u0
                    refine bodyPost_ret (sign_ret H2.out.r.put rfl rfl) rfl ⟨put_kept H2.out.kept H2.out.n0, ?_⟩
                    rw [HS.out, HE.out, hq, hf, if_pos ⟨rfl, rfl⟩]
                    show _ = Ending.returned (.tuple #[tokV ⟨8, ((bs s).drop a).take (m - a), 0⟩ a, .int .i64 ((a + (m - a) : Nat) : Int)])
                    unfold tokV
                    rw [strOf_extract hms, show a + (m - a) = m by omega]
                    rfl
      · have HT := Lib.hid (bare_let (by rw [← let_rune HR.out]; exact hl))
        have HN : Hid (∀ W, Calls Tryz.prog 140 #[.string s, .int .i64 (a : Int)] W (KeptPost (nameV a (nameS ((bs s).drop a))) W)) := Lib.hid (fun W => name_any s a W hs ha)
        go_wp2_with (go_at_call 142; refine (letter_any _ _).mono ?_; rintro e w' ⟨rfl, rfl⟩; rw [hl])
        generalize nameS ((bs s).drop a) = o at HN HT
        cases o with
        | none =>
          have HN2 : Hid (∀ W, Calls Tryz.prog 140 #[.string s, .int .i64 (a : Int)] W (KeptPost (.tuple #[.string ⟨#[]⟩, .int .i64 (-1)]) W)) := HN
          refine (HN2.out _).mono ?_
          rintro e w2 ⟨rfl, hk2⟩
          have H2 := Lib.hid (H1.out.later hk2)
          clear hk2
          have r0 := H2.out.r.c0
          have r1 := H2.out.r.c1
          have r2 := H2.out.r.c2
          have r3 := H2.out.r.c3
          have f0 := H2.out.r.fz 0
          have f1 := H2.out.r.fz 1
          have f2 := H2.out.r.fz 2
          have f3 := H2.out.r.fz 3
          have t0 := H2.out.t.c0
          have t1 := H2.out.t.c1
          have t2 := H2.out.t.c2
          have t3 := H2.out.t.c3
          go_wp2
          clear r0 r1 r2 r3 f0 f1 f2 f3 t0 t1 t2 t3
          refine bodyPost_ret (sign_ret H2.out.r.put rfl rfl) rfl ⟨put_kept H2.out.kept H2.out.n0, ?_⟩
          rw [HS.out, HT.out]
          exact ⟨⟨0, [], 0⟩, rfl⟩
        | some y =>
          have HN2 : Hid (∀ W, Calls Tryz.prog 140 #[.string s, .int .i64 (a : Int)] W (KeptPost (.tuple #[.string (strOf y), .int .i64 ((a + y.length : Nat) : Int)]) W)) := HN
          refine (HN2.out _).mono ?_
          rintro e w2 ⟨rfl, hk2⟩
          have H2 := Lib.hid (H1.out.later hk2)
          have HK : Hid (∀ W, Calls Tryz.prog 78 #[.string (strOf y)] W fun e w' => e = .returned (.int .i64 (tKey y)) ∧ W = w') := Lib.hid (fun W => by have := keyword_any (strOf y) W; rwa [bs_strOf] at this)
          have g0n : ¬ ((a + y.length : Nat) : Int) < 0 := by omega
          clear hk2
          have r0 := H2.out.r.c0
          have r1 := H2.out.r.c1
          have r2 := H2.out.r.c2
          have r3 := H2.out.r.c3
          have f0 := H2.out.r.fz 0
          have f1 := H2.out.r.fz 1
          have f2 := H2.out.r.fz 2
          have f3 := H2.out.r.fz 3
          have t0 := H2.out.t.c0
          have t1 := H2.out.t.c1
          have t2 := H2.out.t.c2
          have t3 := H2.out.t.c3
          have u0 := H2.out.t.fz 0
          have u1 := H2.out.t.fz 1
          have u2 := H2.out.t.fz 2
          have hne := H2.out.ne
          have hne2 := H2.out.ne.symm
          by_cases hkey : tKey y = 0
          · have HY : Hid ((if tKey y = 0 then (⟨1, y, 3⟩ : Tok) else ⟨tKey y, [], 0⟩) = ⟨1, y, 3⟩) := Lib.hid (by rw [if_pos hkey])
            have hkb : ((0 : Int) == 0) = true := rfl
            have HK3 : Hid (∀ W, Calls Tryz.prog 78 #[.string (strOf y)] W fun e w' => e = .returned (.int .i64 0) ∧ W = w') := Lib.hid (by rw [← hkey]; exact HK.out)
            clear hkey HK
            go_wp2_with (go_at_call 78; refine (HK3.out _).mono ?_; rintro e w' ⟨rfl, rfl⟩)
            clear r0 r1 r2 r3 f0 f1 f2 f3 t0 t1 t2 t3 u0 u1 u2
            refine bodyPost_ret (sign_ret ((((H2.out.r.other hne).other hne).other hne).other hne).put rfl rfl) rfl ⟨put_kept (one_kept (one_kept (one_kept (one_kept H2.out.kept H2.out.n1) H2.out.n1) H2.out.n1) H2.out.n1) H2.out.n0, ?_⟩
            rw [HS.out, HT.out]
            show _ = Ending.returned (.tuple #[tokV (if tKey y = 0 then (⟨1, y, 3⟩ : Tok) else ⟨tKey y, [], 0⟩) a, .int .i64 ((a + y.length : Nat) : Int)])
            rw [HY.out]
            rfl
          · have HY : Hid ((if tKey y = 0 then (⟨1, y, 3⟩ : Tok) else ⟨tKey y, [], 0⟩) = ⟨tKey y, [], 0⟩) := Lib.hid (by rw [if_neg hkey])
            have hkb : (tKey y == 0) = false := by simp [hkey]
            go_wp2_with (go_at_call 78; refine (HK.out _).mono ?_; rintro e w' ⟨rfl, rfl⟩)
            clear r0 r1 r2 r3 f0 f1 f2 f3 t0 t1 t2 t3 u0 u1 u2
            refine bodyPost_ret (sign_ret (H2.out.r.other hne).put rfl rfl) rfl ⟨put_kept (one_kept H2.out.kept H2.out.n1) H2.out.n0, ?_⟩
            rw [HS.out, HT.out]
            show _ = Ending.returned (.tuple #[tokV (if tKey y = 0 then (⟨1, y, 3⟩ : Tok) else ⟨tKey y, [], 0⟩) a, .int .i64 ((a + y.length : Nat) : Int)])
            rw [HY.out]
            rfl

open Go.RowKit Go.ChangeShapes Go.WideShapes
theorem byte_eq (c : UInt8) (n : Nat) (m : Int) (hm : m = n) (hn : n < 256) : ((c.toNat : Int) == m) = decide (c = UInt8.ofNat n) := by
  have := byte_is c n m hm hn
  rw [Bool.eq_iff_iff]
  simp only [beq_iff_eq, decide_eq_true_eq]
  have h2 : ((c.toNat : Int) = m) ↔ (c == UInt8.ofNat n) = true := by rw [← this]; simp
  rw [h2, beq_iff_eq]
theorem heap2 (w : World) (o o1 : Obj) : ((w.alloc o).alloc o1).heap[w.heap.size + 1]? = some o1 := by
  have h := heap_alloc_new (w.alloc o) o1
  rwa [World.size_alloc] at h
theorem eq_yes {c : UInt8} (n : Nat) (m : Int) (hm : m = n) (hn : n < 256) (h : c = UInt8.ofNat n) : ((c.toNat : Int) == m) = true := by rw [byte_eq c n m hm hn]; simp [h]
theorem eq_no {c : UInt8} (n : Nat) (m : Int) (hm : m = n) (hn : n < 256) (h : c ≠ UInt8.ofNat n) : ((c.toNat : Int) == m) = false := by rw [byte_eq c n m hm hn]; simpa using h
theorem Tryz.info85 : (Tryz.prog.info? 85).map (fun i => (i.zero, i.size, i.bytes)) = some (some (.agg #[.int .i64 0, .string ⟨#[]⟩, .int .i64 0, .int .i64 0]), 4, 40) := by kernel_rfl
theorem Tryz.slice104 : SliceOf Tryz.prog 104 85 (.agg #[.int .i64 0, .string ⟨#[]⟩, .int .i64 0, .int .i64 0]) 4 40 := slice_of Tryz.underlying104 Tryz.info85 rfl (by decide)
/-- the cells of tokens, with their places -/
def tokCells : List (Tok × Nat) → List Value
  | [] => []
  | x :: m => [.int .i64 x.1.kind, .string (strOf x.1.name), .int .i64 x.1.of, .int .i64 x.2] ++ tokCells m
theorem tokCells_append : ∀ l m : List (Tok × Nat), tokCells (l ++ m) = tokCells l ++ tokCells m
  | [], m => rfl
  | x :: l, m => by simp [tokCells, tokCells_append l m]
theorem src_four {P : Program} {w : World} {g : Nat} {a b c d : Value} {e tx e' : TypeId} (hk : P.underlying tx = some (.slice e')) (h : w.heap[g]? = some (.cells #[a, b, c, d] e (0, 0))) (h0 : a.oneCell' = true) (h1 : b.oneCell' = true) (h2 : c.oneCell' = true) (h3 : d.oneCell' = true) :
    Src P 4 tx (.slice (some ⟨g, 0, none⟩) 1 1) 1 [a, b, c, d] w :=
  Src.ofSlice w hk _ _ _ _ rfl (fun j x hx => by
    match j, hx with
    | 0, hx => simp at hx; subst hx; simp [Addr.add, World.cell?, h]
    | 1, hx => simp at hx; subst hx; simp [Addr.add, World.cell?, h]
    | 2, hx => simp at hx; subst hx; simp [Addr.add, World.cell?, h]
    | 3, hx => simp at hx; subst hx; simp [Addr.add, World.cell?, h]) (fun x hx => by simp at hx; rcases hx with rfl | rfl | rfl | rfl <;> assumption)
theorem go_pass {nt : Bool} {c : UInt8} {r : List UInt8} {p n : Nat} (h : passB nt c = true) : goS nt p n (c :: r) = goS (noteS nt c) (p + 1) n r := by rw [goS, if_pos h]
theorem go_none {nt : Bool} {c : UInt8} {r : List UInt8} {p n : Nat} (h : passB nt c = false) (hs : signS (c :: r) = none) : goS nt p n (c :: r) = .error (p, 2) := by
  rw [goS, if_neg (by simp [h])]
  split
  · rfl
  · rename_i h1; rw [hs] at h1; cases h1
theorem go_full {nt : Bool} {c : UInt8} {r : List UInt8} {p n k : Nat} {t : Tok} (h : passB nt c = false) (hs : signS (c :: r) = some (t, k)) (hn : n = 1000) : goS nt p n (c :: r) = .error (p, 3) := by
  rw [goS, if_neg (by simp [h])]
  split
  · rename_i h1; rw [hs] at h1; cases h1
  · rw [if_pos hn]
theorem go_one {nt : Bool} {c : UInt8} {r : List UInt8} {p n k : Nat} {t : Tok} (h : passB nt c = false) (hs : signS (c :: r) = some (t, k)) (hn : n ≠ 1000) : goS nt p n (c :: r) = (goS false (p + k) (n + 1) (r.drop (k - 1))).map (fun m => (t, p) :: m) := by
  rw [goS, if_neg (by simp [h])]
  split
  · rename_i h1; rw [hs] at h1; cases h1
  · rename_i h1
    rw [hs] at h1; cases h1
    rw [if_neg hn]
/-- the scan, on the way -/
def AllTo (s : ByteArray) (k : Nat) (nt : Bool) (toks : List (Tok × Nat)) : Prop := goS false 0 0 (bs s) = (goS nt k toks.length ((bs s).drop k)).map (fun m => toks ++ m)
theorem AllTo.first (s : ByteArray) : AllTo s 0 false [] := by
  unfold AllTo
  simp only [List.drop_zero, List.length_nil, List.nil_append]
  cases goS false 0 0 (bs s) <;> rfl
theorem AllTo.pass {s : ByteArray} {k : Nat} {nt nt' : Bool} {toks : List (Tok × Nat)} (h : AllTo s k nt toks) (hk : k < s.size) (hp : passB nt (s.get! k) = true) (hn : noteS nt (s.get! k) = nt') : AllTo s (k + 1) nt' toks := by
  unfold AllTo at h ⊢
  rw [h, drop_at hk, go_pass hp, hn]
theorem AllTo.done {s : ByteArray} {nt : Bool} {toks : List (Tok × Nat)} {k : Nat} (h : AllTo s k nt toks) (hk : ¬ k < s.size) (h4 : s.size ≤ 4000) : allS (bs s) = .ok toks := by
  unfold AllTo at h
  unfold allS
  rw [if_neg (by rw [bs_len]; omega), h, List.drop_eq_nil_of_le (by rw [bs_len]; omega), goS]
  simp [Except.map]
theorem AllTo.none {s : ByteArray} {k : Nat} {nt : Bool} {toks : List (Tok × Nat)} (h : AllTo s k nt toks) (hk : k < s.size) (h4 : s.size ≤ 4000) (hp : passB nt (s.get! k) = false) (hs : signS ((bs s).drop k) = none) : allS (bs s) = .error (k, 2) := by
  unfold AllTo at h
  unfold allS
  rw [drop_at hk] at hs
  rw [if_neg (by rw [bs_len]; omega), h, drop_at hk, go_none hp hs]
  rfl
theorem AllTo.full {s : ByteArray} {k j : Nat} {nt : Bool} {t : Tok} {toks : List (Tok × Nat)} (h : AllTo s k nt toks) (hk : k < s.size) (h4 : s.size ≤ 4000) (hp : passB nt (s.get! k) = false) (hs : signS ((bs s).drop k) = some (t, j)) (hn : toks.length = 1000) : allS (bs s) = .error (k, 3) := by
  unfold AllTo at h
  unfold allS
  rw [drop_at hk] at hs
  rw [if_neg (by rw [bs_len]; omega), h, drop_at hk, go_full hp hs hn]
  rfl
theorem AllTo.one {s : ByteArray} {k j : Nat} {nt : Bool} {t : Tok} {toks : List (Tok × Nat)} (h : AllTo s k nt toks) (hk : k < s.size) (hp : passB nt (s.get! k) = false) (hs : signS ((bs s).drop k) = some (t, j)) (hn : toks.length ≠ 1000) :
    AllTo s (k + j) false (toks ++ [(t, k)]) ∧ 1 ≤ j ∧ k + j ≤ s.size := by
  have ho := sign_ok hs
  have hj : 1 ≤ j := by
    have := List.length_pos_iff.2 ho.ne
    rw [ho.len]; omega
  have hsz : k + j ≤ s.size := by
    have := congrArg List.length ho.split
    rw [List.length_append, List.length_drop, List.length_drop, bs_len, ← ho.len] at this
    have h0 : (wordS t).length ≤ ((bs s).drop k).length := by
      have e := ho.split
      rw [e, List.length_append]; omega
    rw [← ho.len, List.length_drop, bs_len] at h0
    omega
  refine ⟨?_, hj, hsz⟩
  unfold AllTo at h ⊢
  rw [drop_at hk] at hs
  rw [h, drop_at hk, go_one hp hs hn]
  have e : ((bs s).drop (k + 1)).drop (j - 1) = (bs s).drop (k + j) := by rw [List.drop_drop]; congr 1; omega
  rw [e, List.length_append, List.length_singleton]
  cases goS false (k + j) (toks.length + 1) ((bs s).drop (k + j)) with
  | error x => rfl
  | ok x => simp [Except.map]
/-- the tokens, on the way -/
def AllPart (w wr : World) (toks : List (Tok × Nat)) (v : Value) : Prop := wr.ownsRow w.heap.size 85 4 v toks.length (tokCells toks) ∧ Kept w wr
theorem AllPart.kept {w wr w1 : World} {toks : List (Tok × Nat)} {v : Value} (h : AllPart w wr toks v) (hk : Kept wr w1) : AllPart w w1 toks v := ⟨own_kept h.1 hk, h.2.trans hk⟩
theorem AllPart.step {w wr w1 : World} {toks : List (Tok × Nat)} {t : Tok} {k : Nat} {v v1 : Value} (h : AllPart w wr toks v)
    (hp : AppPost wr w.heap.size 85 4 v (toks.length + 1) (tokCells toks ++ [.int .i64 t.kind, .string (strOf t.name), .int .i64 t.of, .int .i64 k]) v1 w1) : AllPart w w1 (toks ++ [(t, k)]) v1 := by
  have hv : ∀ g, v.ownBlock = some g → w.heap.size ≤ g := by
    intro g hg
    rcases h.1.2 with ⟨rfl, _⟩ | ⟨g', cap, cur, rfl, hb, _⟩
    · simp [Value.ownBlock] at hg
    · simp [Value.ownBlock] at hg; omega
  have hk := hp.kept h.2 hv
  refine ⟨?_, hk.1⟩
  rw [tokCells_append, List.length_append]
  exact hp.1
def AllPost (l : List UInt8) (w : World) (e : Ending) (w' : World) : Prop :=
  match allS l with
  | .error x => e = .returned (.tuple #[.slice none 0 0, .int .i64 x.1, .int .i64 x.2]) ∧ Kept w w'
  | .ok m => ∃ v, e = .returned (.tuple #[v, .int .i64 0, .int .i64 0]) ∧ AllPart w w' m v
theorem all_error {l : List UInt8} {w w' : World} {e : Ending} {p : Nat} {q : Int} (h : allS l = .error (p, q)) (he : e = .returned (.tuple #[.slice none 0 0, .int .i64 p, .int .i64 q])) (hk : Kept w w') : AllPost l w e w' := by
  unfold AllPost; rw [h]; exact ⟨he, hk⟩
theorem all_ok {l : List UInt8} {w w' : World} {e : Ending} {m : List (Tok × Nat)} {v : Value} (h : allS l = .ok m) (he : e = .returned (.tuple #[v, .int .i64 0, .int .i64 0])) (hk : AllPart w w' m v) : AllPost l w e w' := by
  unfold AllPost; rw [h]; exact ⟨v, he, hk⟩
set_option maxHeartbeats 2000000 in
theorem rall_any (s : ByteArray) (w : World) (hs : s.size ≤ 1000000) : Calls Tryz.prog 63 #[.string s] w (AllPost (bs s) w) := by
  by_cases h4 : s.size ≤ 4000
  · have h4i : ¬ (4000 : Int) < s.size := by omega
    have H0 : Hid (AllPart w (w.alloc (Obj.cells #[] 85)) [] (.slice (some ⟨w.heap.size, 0, none⟩) 0 0)) := Lib.hid ⟨own_new (heap_alloc_new w _) (Nat.le_refl _), Fr.of_alloc _ _ _⟩
    go_enter Tryz.func63, Tryz.ntmps63
    go_wp2
    go_loopw [5, 6, 7] (fun v i nt wr => ∃ (k : Nat) (q : Bool) (toks : List (Tok × Nat)) (n : Nat), i = .int .i64 k ∧ nt = .bool q ∧ toks.length = n ∧ n ≤ 1000 ∧ k ≤ s.size ∧ Hid (AllTo s k q toks) ∧ Hid (AllPart w wr toks v)) (fun _ i _ _ => s.size - (intOf i).toNat)
    case atStart => exact ⟨0, false, [], 0, rfl, rfl, rfl, by omega, by omega, Lib.hid (.first s), H0⟩
    case round =>
      obtain ⟨k, q, toks, n, rfl, rfl, hn, hn1, hk, hto, hp⟩ := hrel
      clear H0
      obtain ⟨bo, d, hv, hd⟩ := own_slice hp.out.1
      rw [hn] at hv hd
      subst hv
      have HNL := Lib.hid hn
      clear hn
      by_cases hlt : k < s.size
      · have hlti : (k : Int) < s.size := by omega
        have x1 := run_at s k hlt
        have HC : Hid (∀ nt', passB q (s.get! k) = true → noteS q (s.get! k) = nt' → AllTo s (k + 1) nt' toks) := Lib.hid (fun nt' a b => hto.out.pass hlt a b)
        have HCN : Hid (passB q (s.get! k) = false → signS ((bs s).drop k) = none → _) := Lib.hid (fun a b => hto.out.none hlt h4 a b)
        have HCF : Hid (∀ t j, passB q (s.get! k) = false → signS ((bs s).drop k) = some (t, j) → toks.length = 1000 → _) := Lib.hid (fun t j a b d => hto.out.full hlt h4 a b d)
        have HCO : Hid (∀ t j, passB q (s.get! k) = false → signS ((bs s).drop k) = some (t, j) → toks.length ≠ 1000 → _) := Lib.hid (fun t j a b d => hto.out.one hlt a b d)
        generalize s.get! k = c at *
        have hcl := c.toNat_lt
        by_cases e10 : c = 10
        · have g10 := eq_yes 10 10 rfl (by omega) e10
          have g35 : ((c.toNat : Int) == 35) = false := by subst e10; rfl
          have g32 : ((c.toNat : Int) == 32) = false := by subst e10; rfl
          have g9 : ((c.toNat : Int) == 9) = false := by subst e10; rfl
          have HPB : Hid (passB q c = true) := Lib.hid (by subst e10; cases q <;> rfl)
          have HNT : Hid (noteS q c = false) := Lib.hid (by subst e10; cases q <;> rfl)
          clear e10 HCN HCF HCO
          have HP1 : Hid (AllTo s (k + 1) false toks) := Lib.hid (HC.out _ HPB.out HNT.out)
          clear HC HPB HNT
          go_wp2
          go_roundw
          case rel => exact ⟨k + 1, false, toks, n, by go_num, rfl, HNL.out, hn1, by omega, HP1, hp⟩
          case measure => simp [intOf]; omega
        · have g10 := eq_no 10 10 rfl (by omega) e10
          by_cases e35 : c = 35
          · have g35 := eq_yes 35 35 rfl (by omega) e35
            have HPB : Hid (passB q c = true) := Lib.hid (by subst e35; cases q <;> rfl)
            have HNT : Hid (noteS q c = true) := Lib.hid (by subst e35; cases q <;> rfl)
            clear e10 e35 HCN HCF HCO
            have HP1 : Hid (AllTo s (k + 1) true toks) := Lib.hid (HC.out _ HPB.out HNT.out)
            clear HC HPB HNT
            go_wp2
            go_roundw
            case rel => exact ⟨k + 1, true, toks, n, by go_num, rfl, HNL.out, hn1, by omega, HP1, hp⟩
            case measure => simp [intOf]; omega
          · have g35 := eq_no 35 35 rfl (by omega) e35
            have HNQ : Hid (noteS q c = q) := Lib.hid (by unfold noteS; rw [if_neg e35, if_neg e10])
            cases q
            · by_cases e32 : c = 32
              · have g32 := eq_yes 32 32 rfl (by omega) e32
                have HPB : Hid (passB false c = true) := Lib.hid (by subst e32; rfl)
                have HNT := HNQ
                clear e10 e35 e32 HCN HCF HCO
                have HP1 : Hid (AllTo s (k + 1) false toks) := Lib.hid (HC.out _ HPB.out HNT.out)
                clear HC HPB HNT
                go_wp2
                go_roundw
                case rel => exact ⟨k + 1, false, toks, n, by go_num, rfl, HNL.out, hn1, by omega, HP1, hp⟩
                case measure => simp [intOf]; omega
              · have g32 := eq_no 32 32 rfl (by omega) e32
                by_cases e9 : c = 9
                · have g9 := eq_yes 9 9 rfl (by omega) e9
                  have HPB : Hid (passB false c = true) := Lib.hid (by subst e9; rfl)
                  have HNT := HNQ
                  clear e10 e35 e32 e9 HCN HCF HCO
                  have HP1 : Hid (AllTo s (k + 1) false toks) := Lib.hid (HC.out _ HPB.out HNT.out)
                  clear HC HPB HNT
                  go_wp2
                  go_roundw
                  case rel => exact ⟨k + 1, false, toks, n, by go_num, rfl, HNL.out, hn1, by omega, HP1, hp⟩
                  case measure => simp [intOf]; omega
                · have g9 := eq_no 9 9 rfl (by omega) e9
                  have HPB : Hid (passB false c = false) := Lib.hid (by unfold passB; rw [HNQ.out]; unfold tBlank; simp [e10, e32, e9])
                  clear e10 e35 e32 e9 HC
                  have HSA : Hid (∀ W, Calls Tryz.prog 107 #[.string s, .int .i64 (k : Int)] W (SignPost ((bs s).drop k) k W)) := Lib.hid (fun W => sign_any s k W hs hk)
                  cases hsg : signS ((bs s).drop k) with
                  | none =>
                    have HA := Lib.hid (HCN.out HPB.out hsg)
                    have HSB : Hid (∀ W, Calls Tryz.prog 107 #[.string s, .int .i64 (k : Int)] W (fun e w' => Kept W w' ∧ ∃ t : Tok, e = .returned (.tuple #[tokV t k, .int .i64 (-1)]))) := Lib.hid (fun W => (HSA.out W).mono (fun e w' h => by unfold SignPost at h; rw [hsg] at h; exact h))
                    clear HCN HCF HCO HSA hsg
                    go_wp2_with fail
                    refine (HSB.out _).mono ?_
                    rintro e w1 ⟨hk1, t, rfl⟩
                    have HK := Lib.hid (hp.out.2.trans hk1)
                    clear hk1
                    unfold tokV
                    go_wp2
                    go_ret3
                    exact all_error HA.out rfl (HK.out.trans (Fr.of_alloc _ _ _))
                  | some tj =>
                    obtain ⟨t, j⟩ := tj
                    have HSB : Hid (∀ W, Calls Tryz.prog 107 #[.string s, .int .i64 (k : Int)] W (fun e w' => Kept W w' ∧ e = .returned (.tuple #[tokV t k, .int .i64 ((k + j : Nat) : Int)]))) := Lib.hid (fun W => (HSA.out W).mono (fun e w' h => by unfold SignPost at h; rw [hsg] at h; exact h))
                    have hjn : ¬ ((k : Int) + (j : Int)) < 0 := by omega
                    have hjn2 : ¬ ((k + j : Nat) : Int) < 0 := by omega
                    by_cases h1000 : n = 1000
                    · have HA := Lib.hid (HCF.out t j HPB.out hsg (by rw [HNL.out]; exact h1000))
                      have gn : ((n : Int) == 1000) = true := by subst h1000; rfl
                      clear HCN HCF HCO HSA hsg h1000
                      go_wp2_with fail
                      refine (HSB.out _).mono ?_
                      rintro e w1 ⟨hk1, rfl⟩
                      have HK := Lib.hid (hp.out.2.trans hk1)
                      clear hk1
                      unfold tokV
                      go_wp2
                      go_ret3
                      exact all_error HA.out rfl (HK.out.trans (Fr.of_alloc _ _ _))
                    · have hO := HCO.out t j HPB.out hsg (by rw [HNL.out]; exact h1000)
                      have hj1 := hO.2.1
                      have hj2 := hO.2.2
                      have HTO := Lib.hid hO.1
                      have gn : ((n : Int) == 1000) = false := by simp; omega
                      have hn999 : n + 1 ≤ 1000 := by omega
                      clear hO HCN HCF HCO HSA hsg h1000
                      go_wp2_with fail
                      refine (HSB.out _).mono ?_
                      rintro e w1 ⟨hk1, rfl⟩
                      have HK := Lib.hid (hp.out.kept hk1)
                      clear hk1
                      unfold tokV
                      go_wp2_with (at_builtin; refine list_app rfl (.tmp 54) (.tmp 56) 104 104 rfl Tryz.slice104 rfl (by exact own_kept HK.out.1 ((Fr.of_alloc _ _ _).trans (Fr.of_alloc _ _ _))) rfl (by exact src_four Tryz.underlying104 (heap2 _ _ _) rfl rfl rfl rfl) (by rw [HNL.out]; unfold maxLen; omega) (by rw [HNL.out]; omega) (by have := HK.out.2.size; simp; omega) ?_; intro v2 w2 hq; have Hq := Lib.hid (AllPart.step ⟨own_kept HK.out.1 ((Fr.of_alloc _ _ _).trans (Fr.of_alloc _ _ _)), HK.out.2.trans ((Fr.of_alloc _ _ _).trans (Fr.of_alloc _ _ _))⟩ hq); clear hq)
                      go_roundw
                      case rel => exact ⟨k + j, false, toks ++ [(t, k)], n + 1, by go_num, rfl, by simp [HNL.out], hn999, hj2, HTO, Hq⟩
                      case measure => simp [intOf]; omega
            · have HPB : Hid (passB true c = true) := Lib.hid (by unfold passB; rw [HNQ.out]; rfl)
              have HNT := HNQ
              clear e10 e35 HCN HCF HCO
              have HP1 : Hid (AllTo s (k + 1) true toks) := Lib.hid (HC.out _ HPB.out HNT.out)
              clear HC HPB HNT
              go_wp2
              go_roundw
              case rel => exact ⟨k + 1, true, toks, n, by go_num, rfl, HNL.out, hn1, by omega, HP1, hp⟩
              case measure => simp [intOf]; omega
      · have hlti : ¬ (k : Int) < s.size := by omega
        have HA := Lib.hid (hto.out.done hlt h4)
        go_wp2
        go_ret3
        exact all_ok HA.out rfl hp.out
  · have h4i : (4000 : Int) < s.size := by omega
    have HA : Hid (allS (bs s) = .error (0, 3)) := Lib.hid (by unfold allS; rw [if_pos (by rw [bs_len]; omega)])
    clear h4
    go_enter Tryz.func63, Tryz.ntmps63
    go_wp2
    go_ret3
    exact all_error HA.out rfl (Fr.refl _ _)

open Go.RowKit Go.ChangeShapes Go.WideShapes
/-- the byte at the place k is right -/
def atT (k : Nat) (c : UInt8) : Bool := tLet c || (decide (k ≠ 0) && (tDig c || (c == 45 || c == 46)))
theorem atT_is (k : Nat) (c : UInt8) : atT k c = (decide (97 ≤ (c.toNat : Int) ∧ (c.toNat : Int) ≤ 122) || (decide (k ≠ 0) && decide ((48 ≤ (c.toNat : Int) ∧ (c.toNat : Int) ≤ 57) ∨ (c.toNat : Int) = 45 ∨ (c.toNat : Int) = 46))) := by
  have h1 := let_byte c
  have h2 := dig_byte c
  have h3 := byte_is c 45 45 rfl (by omega)
  have h4 := byte_is c 46 46 rfl (by omega)
  unfold atT
  rw [← h1, ← h2, show (c == 45) = (c == UInt8.ofNat 45) from rfl, show (c == 46) = (c == UInt8.ofNat 46) from rfl, ← h3, ← h4]
  unfold rLet rDig
  simp only [Bool.decide_or]
theorem tMay_of {l : List UInt8} (h1 : 1 ≤ l.length) (h2 : l.length ≤ 24) (h : ∀ k c, l[k]? = some c → atT k c = true) : tMay l = true := by
  cases l with
  | nil => simp at h1
  | cons x r =>
    have hx := h 0 x rfl
    simp [atT] at hx
    have hall : (x :: r).all tIn = true := by
      rw [List.all_eq_true]
      intro c hc
      obtain ⟨k, hk⟩ := List.mem_iff_getElem?.1 hc
      have := h k c hk
      unfold atT at this
      unfold tIn
      cases hl : tLet c
      · rw [hl] at this
        simp only [Bool.false_or, Bool.and_eq_true] at this
        rw [this.2]; rfl
      · rfl
    unfold tMay
    rw [hall]
    simp [hx]
    simpa using h2
theorem tMay_not {l : List UInt8} {k : Nat} {c : UInt8} (hk : l[k]? = some c) (h : atT k c = false) : tMay l = false := by
  unfold atT at h
  cases l with
  | nil => simp at hk
  | cons x r =>
    by_cases h0 : k = 0
    · subst h0
      simp at hk
      subst hk
      simp at h
      simp [tMay, h]
    · have : (x :: r).all tIn = false := by
        rw [List.all_eq_false]
        refine ⟨c, List.mem_of_getElem? hk, ?_⟩
        simp only [Bool.or_eq_false_iff, Bool.and_eq_false_iff] at h
        rcases h with ⟨h1, h2 | h2⟩
        · simp at h2; exact absurd h2 h0
        · unfold tIn; simp only [h1, Bool.or_eq_false_iff, h2]; simp [h2]
      unfold tMay
      rw [this]
      simp
set_option maxHeartbeats 2000000 in
theorem rmay1_any (s : ByteArray) (w : World) (hs : s.size ≤ maxLen) :
    Calls Tryz.prog 77 #[.string s] w fun e w' => e = .returned (.bool (tMay (bs s))) ∧ w = w' := by
  unfold maxLen at hs
  have hlen : (bs s).length = s.size := bs_len s
  by_cases h0 : s.size < 1
  · have hv : Hid (tMay (bs s) = false) := by simp [Hid, tMay, hlen]; omega
    have h0' : (s.size : Int) < 1 := by omega
    go_enter Tryz.func77, Tryz.ntmps77
    go_wp2
    go_ret
    exact ⟨ret_bool hv.out.symm, rfl⟩
  by_cases h1 : 24 < s.size
  · have hv : Hid (tMay (bs s) = false) := by simp [Hid, tMay, hlen]; omega
    have h0' : ¬ (s.size : Int) < 1 := by omega
    have h1' : 24 < (s.size : Int) := by omega
    go_enter Tryz.func77, Tryz.ntmps77
    go_wp2
    go_ret
    exact ⟨ret_bool hv.out.symm, rfl⟩
  have h0' : decide ((s.size : Int) < 1) = false := by simp; omega
  have h1' : decide (24 < (s.size : Int)) = false := by simp; omega
  have HL := Lib.hid hlen
  clear hlen
  go_enter Tryz.func77, Tryz.ntmps77
  go_wp2
  go_loop [3] (fun i => ∃ k : Nat, k ≤ s.size ∧ i = .int .i64 k ∧ Hid (∀ j c, j < k → (bs s)[j]? = some c → atT j c = true)) (fun i => s.size - (intOf i).toNat)
  case atStart => exact ⟨0, by omega, rfl, fun j c h => by omega⟩
  case round =>
    obtain ⟨k, hk, rfl, hall⟩ := hrel
    by_cases hlt : k < s.size
    · have hget : Hid ((bs s)[k]? = some s[k]) := by
        show (bs s)[k]? = some s[k]
        rw [List.getElem?_eq_getElem (by rw [HL.out]; exact hlt)]; rfl
      have hu := s[k].toNat_lt
      have HA : Hid (atT k s[k] = (decide (97 ≤ (s[k].toNat : Int) ∧ (s[k].toNat : Int) ≤ 122) || (decide (k ≠ 0) && decide ((48 ≤ (s[k].toNat : Int) ∧ (s[k].toNat : Int) ≤ 57) ∨ (s[k].toNat : Int) = 45 ∨ (s[k].toNat : Int) = 46)))) := atT_is k s[k]
      have HR : Hid (atT k s[k] = true → ∀ j c, j < k + 1 → (bs s)[j]? = some c → atT j c = true) := by
        intro ht j c hj hjc
        rcases Nat.lt_or_ge j k with hlt' | hge
        · exact hall.out j c hlt' hjc
        · obtain rfl : j = k := by omega
          rw [hget.out] at hjc; cases hjc; exact ht
      have HN : Hid (atT k s[k] = false → tMay (bs s) = false) := fun h => tMay_not hget.out h
      clear hget hall
      by_cases hk0 : k = 0
      · subst hk0
        have hcase : (97 ≤ (s[0].toNat : Int) ∧ (s[0].toNat : Int) ≤ 122) ∨ ((s[0].toNat : Int) < 97) ∨ (122 < (s[0].toNat : Int)) := by omega
        rcases hcase with ⟨_, _⟩ | _ | _
        all_goals
          go_wp2
          all_goals first
            | (exfalso; clear HA HR HN HL; simp at *; omega)
            | (go_round
               case rel => exact ⟨1, by omega, rfl, HR.out (by rw [HA.out]; simp; omega)⟩
               case measure => simp [intOf]; omega)
            | (go_ret; exact ⟨ret_bool (HN.out (by rw [HA.out]; simp; omega)).symm, rfl⟩)
      · have hkb : ((k : Int) == 0) = false := by rw [beq_eq_false_iff_ne]; omega
        have hcase : (97 ≤ (s[k].toNat : Int) ∧ (s[k].toNat : Int) ≤ 122) ∨ (48 ≤ (s[k].toNat : Int) ∧ (s[k].toNat : Int) ≤ 57) ∨ ((s[k].toNat : Int) = 45) ∨ ((s[k].toNat : Int) = 46) ∨
          ((s[k].toNat : Int) < 48 ∧ (s[k].toNat : Int) ≠ 45 ∧ (s[k].toNat : Int) ≠ 46) ∨ (57 < (s[k].toNat : Int) ∧ (s[k].toNat : Int) < 97) ∨ (122 < (s[k].toNat : Int)) := by omega
        rcases hcase with ⟨_, _⟩ | ⟨_, _⟩ | _ | _ | ⟨_, _, _⟩ | ⟨_, _⟩ | _
        all_goals
          go_wp2
          all_goals first
            | (exfalso; clear HA HR HN HL; simp at *; omega)
            | (go_round
               case rel => exact ⟨k + 1, by omega, by go_num, HR.out (by rw [HA.out]; simp; omega)⟩
               case measure => simp [intOf]; omega)
            | (go_ret; exact ⟨ret_bool (HN.out (by rw [HA.out]; simp; omega)).symm, rfl⟩)
    · go_wp2
      go_ret
      refine ⟨ret_bool ?_, rfl⟩
      symm
      refine tMay_of (by rw [HL.out]; omega) (by rw [HL.out]; omega) (fun j c hj => hall.out j c ?_ hj)
      have := (List.getElem?_eq_some_iff.1 hj).1
      rw [HL.out] at this; omega

open Go.RowKit Go.ChangeShapes Go.WideShapes
/-- a token as it is handed over -/
def tokA (k : Int) (x : ByteArray) (o p : Int) : Value := .agg #[.int .i64 k, .string x, .int .i64 o, .int .i64 p]
theorem word_1 (l : List UInt8) (o : Int) (h : o ≠ 0) : wordS ⟨1, l, o⟩ = if tMay l = true ∧ (1 ≤ o ∧ o ≤ 5) ∧ (o = 3 → tKey l = 0) then tPre o ++ l else [] := by
  unfold wordS
  rw [if_pos rfl, if_neg (by simp [h])]
theorem word_10 (l : List UInt8) : wordS ⟨1, l, 0⟩ = if l = [68] then [68] else [] := by
  unfold wordS
  rw [if_pos rfl]
  by_cases h : l = [68]
  · rw [if_pos ⟨rfl, h⟩, if_pos h]
  · rw [if_neg (by simp [h]), if_neg (by simp), if_neg h]
theorem word_8 (l : List UInt8) (o : Int) : wordS ⟨8, l, o⟩ = if tNum l = true ∧ o = 0 then l else [] := by
  unfold wordS
  rw [if_neg (by simp), if_pos rfl]
theorem word_9 (l : List UInt8) (o : Int) : wordS ⟨9, l, o⟩ = if tSign l = true ∧ o = 0 then l else [] := by
  unfold wordS
  rw [if_neg (by simp), if_neg (by simp), if_pos rfl]
theorem word_plain (k : Int) (l : List UInt8) (o : Int) (h1 : k ≠ 1) (h8 : k ≠ 8) (h9 : k ≠ 9) : wordS ⟨k, l, o⟩ = if l = [] ∧ o = 0 then (if k = 2 then [97, 110, 100] else if k = 3 then [102, 111, 114] else if k = 4 then [124] else if k = 5 then [97, 115] else if k = 6 then [40] else if k = 7 then [41] else []) else [] := by
  unfold wordS
  rw [if_neg h1, if_neg h8, if_neg h9]
theorem strOf_append (a : List UInt8) (x : ByteArray) : strOf (a ++ bs x) = strOf a ++ x := bs_inj (by rw [bs_strOf, bs_append, bs_strOf])
set_option maxHeartbeats 2000000 in
theorem rword_any (k : Int) (x : ByteArray) (o p : Int) (w : World) (hs : x.size ≤ 1000000) :
    Calls Tryz.prog 41 #[tokA k x o p] w (KeptPost (.string (strOf (wordS ⟨k, bs x, o⟩))) w) := by
  have H0 : Hid (Four (w.alloc (.cells #[.int .i64 k, .string x, .int .i64 o, .int .i64 p] 85)) w.heap.size (.int .i64 k) (.string x) (.int .i64 o) (.int .i64 p) ∧ Kept w (w.alloc (.cells #[.int .i64 k, .string x, .int .i64 o, .int .i64 p] 85))) := Lib.hid ⟨four_new _ _ _ _ _ _, Fr.of_alloc _ _ _⟩
  unfold tokA
  by_cases h1 : k = 1
  · subst h1
    by_cases h0 : o = 0
    · subst h0
      by_cases hd : bs x = [68]
      · have hD : (x.toList == [68]) = true := str_yes hd
        have hE : ¬ x.toList = [] := by rw [bs_toList, hd]; simp
        have HW : Hid (strOf (wordS ⟨1, bs x, 0⟩) = ⟨#[68]⟩) := Lib.hid (by rw [word_10, if_pos hd]; rfl)
        clear hd
        go_enter Tryz.func41, Tryz.ntmps41
        go_wp2_with fail
        all_goals
          go_ret
          exact ⟨ret_str HW.out.symm, H0.out.2⟩
      · have hD : (x.toList == [68]) = false := str_no hd
        have HW : Hid (strOf (wordS ⟨1, bs x, 0⟩) = ⟨#[]⟩) := Lib.hid (by rw [word_10, if_neg hd]; rfl)
        clear hd
        cases hm : tMay (bs x)
        · go_enter Tryz.func41, Tryz.ntmps41
          go_wp2_with (go_at_call 77; refine (rmay1_any _ _ (by unfold maxLen; omega)).mono ?_; rintro e w' ⟨rfl, rfl⟩; rw [hm])
          all_goals
            go_ret
            exact ⟨ret_str HW.out.symm, H0.out.2⟩
        · go_enter Tryz.func41, Tryz.ntmps41
          go_wp2_with (go_at_call 77; refine (rmay1_any _ _ (by unfold maxLen; omega)).mono ?_; rintro e w' ⟨rfl, rfl⟩; rw [hm])
          all_goals
            go_ret
            exact ⟨ret_str HW.out.symm, H0.out.2⟩
    · have g0 : (o == 0) = false := by simp [h0]
      have HW1 := Lib.hid (word_1 (bs x) o h0)
      cases hm : tMay (bs x)
      · have HW : Hid (strOf (wordS ⟨1, bs x, o⟩) = ⟨#[]⟩) := Lib.hid (by rw [HW1.out, if_neg (by simp [hm])]; rfl)
        clear h0
        go_enter Tryz.func41, Tryz.ntmps41
        go_wp2_with (go_at_call 77; refine (rmay1_any _ _ (by unfold maxLen; omega)).mono ?_; rintro e w' ⟨rfl, rfl⟩; rw [hm])
        all_goals
          go_ret
          exact ⟨ret_str HW.out.symm, H0.out.2⟩
      · by_cases hl : o < 1
        · have HW : Hid (strOf (wordS ⟨1, bs x, o⟩) = ⟨#[]⟩) := Lib.hid (by rw [HW1.out, if_neg (by omega)]; rfl)
          clear h0
          go_enter Tryz.func41, Tryz.ntmps41
          go_wp2_with (go_at_call 77; refine (rmay1_any _ _ (by unfold maxLen; omega)).mono ?_; rintro e w' ⟨rfl, rfl⟩; rw [hm])
          all_goals
            go_ret
            exact ⟨ret_str HW.out.symm, H0.out.2⟩
        · by_cases h5 : 5 < o
          · have HW : Hid (strOf (wordS ⟨1, bs x, o⟩) = ⟨#[]⟩) := Lib.hid (by rw [HW1.out, if_neg (by omega)]; rfl)
            clear h0
            go_enter Tryz.func41, Tryz.ntmps41
            go_wp2_with (go_at_call 77; refine (rmay1_any _ _ (by unfold maxLen; omega)).mono ?_; rintro e w' ⟨rfl, rfl⟩; rw [hm])
            all_goals
              go_ret
              exact ⟨ret_str HW.out.symm, H0.out.2⟩
          · have l1 : 1 ≤ o := by omega
            have l5 : o ≤ 5 := by omega
            by_cases h3 : o = 3
            · subst h3
              by_cases hk : tKey (bs x) = 0
              · have hkb : (tKey (bs x) != 0) = false := by simp [hk]
                have HW : Hid (strOf (wordS ⟨1, bs x, 3⟩) = strOf (tPre 3) ++ x) := Lib.hid (by rw [HW1.out, if_pos ⟨hm, ⟨l1, l5⟩, fun _ => hk⟩, strOf_append])
                clear h0
                go_enter Tryz.func41, Tryz.ntmps41
                go_wp2_with (first | (go_at_call 77; refine (rmay1_any _ _ (by unfold maxLen; omega)).mono ?_; rintro e w' ⟨rfl, rfl⟩; rw [hm]) | (go_at_call 78; refine (keyword_any _ _).mono ?_; rintro e w' ⟨rfl, rfl⟩))
                all_goals
                  generalize w.alloc (.cells #[.int .i64 1, .string x, .int .i64 3, .int .i64 p] 85) = W0 at *
                  generalize w.heap.size = G at *
                  have c1 := H0.out.1.c1
                  have c2 := H0.out.1.c2
                  have hcat : ∀ W, (Op.stringOp .add (strOf (tPre 3)) x).run Tryz.prog W = .ok (.string (strOf (tPre 3) ++ x)) W := fun W => run_string_add_sum _ _ _ (by rw [strOf_size]; have := pre_len 3; omega)
                  go_quiet ((go_at_call 79; exact quiet_same (fun w => prefix_any 3 w)))
                  go_wp2
                  go_ret
                  exact ⟨ret_str HW.out.symm, H0.out.2.trans (Fr.of_drewN _ _ _)⟩
              · have hkb : (tKey (bs x) != 0) = true := by simp [hk]
                have HW : Hid (strOf (wordS ⟨1, bs x, 3⟩) = ⟨#[]⟩) := Lib.hid (by rw [HW1.out, if_neg (by simp [hk])]; rfl)
                clear h0
                go_enter Tryz.func41, Tryz.ntmps41
                go_wp2_with (first | (go_at_call 77; refine (rmay1_any _ _ (by unfold maxLen; omega)).mono ?_; rintro e w' ⟨rfl, rfl⟩; rw [hm]) | (go_at_call 78; refine (keyword_any _ _).mono ?_; rintro e w' ⟨rfl, rfl⟩))
                all_goals
                  go_ret
                  exact ⟨ret_str HW.out.symm, H0.out.2⟩
            · have g3 : (o == 3) = false := by simp [h3]
              have HW : Hid (strOf (wordS ⟨1, bs x, o⟩) = strOf (tPre o) ++ x) := Lib.hid (by rw [HW1.out, if_pos ⟨hm, ⟨l1, l5⟩, fun e => absurd e h3⟩, strOf_append])
              clear h0
              go_enter Tryz.func41, Tryz.ntmps41
              go_wp2_with (first | (go_at_call 77; refine (rmay1_any _ _ (by unfold maxLen; omega)).mono ?_; rintro e w' ⟨rfl, rfl⟩; rw [hm]) | (go_at_call 78; refine (keyword_any _ _).mono ?_; rintro e w' ⟨rfl, rfl⟩))
              all_goals
                generalize w.alloc (.cells #[.int .i64 1, .string x, .int .i64 o, .int .i64 p] 85) = W0 at *
                generalize w.heap.size = G at *
                have c1 := H0.out.1.c1
                have c2 := H0.out.1.c2
                have hcat : ∀ W, (Op.stringOp .add (strOf (tPre o)) x).run Tryz.prog W = .ok (.string (strOf (tPre o) ++ x)) W := fun W => run_string_add_sum _ _ _ (by rw [strOf_size]; have := pre_len o; omega)
                go_quiet ((go_at_call 79; exact quiet_same (fun w => prefix_any o w)))
                go_wp2
                go_ret
                exact ⟨ret_str HW.out.symm, H0.out.2.trans (Fr.of_drewN _ _ _)⟩
  · have k1 : (k == 1) = false := by simp [h1]
    by_cases h8 : k = 8
    · subst h8
      have HW1 := Lib.hid (word_8 (bs x) o)
      cases hm : tNum (bs x)
      · have HW : Hid (strOf (wordS ⟨8, bs x, o⟩) = ⟨#[]⟩) := Lib.hid (by rw [HW1.out, if_neg (by simp [hm])]; rfl)
        go_enter Tryz.func41, Tryz.ntmps41
        go_wp2_with (go_at_call 80; refine (number_any _ _ (by omega)).mono ?_; rintro e w' ⟨rfl, rfl⟩; rw [hm])
        all_goals
          go_ret
          exact ⟨ret_str HW.out.symm, H0.out.2⟩
      · by_cases h0 : o = 0
        · subst h0
          have HW : Hid (strOf (wordS ⟨8, bs x, 0⟩) = x) := Lib.hid (by rw [HW1.out, if_pos ⟨hm, rfl⟩, strOf_bs])
          go_enter Tryz.func41, Tryz.ntmps41
          go_wp2_with (go_at_call 80; refine (number_any _ _ (by omega)).mono ?_; rintro e w' ⟨rfl, rfl⟩; rw [hm])
          all_goals
            go_ret
            exact ⟨ret_str HW.out.symm, H0.out.2⟩
        · have g0 : (o == 0) = false := by simp [h0]
          have HW : Hid (strOf (wordS ⟨8, bs x, o⟩) = ⟨#[]⟩) := Lib.hid (by rw [HW1.out, if_neg (by simp [h0])]; rfl)
          go_enter Tryz.func41, Tryz.ntmps41
          go_wp2_with (go_at_call 80; refine (number_any _ _ (by omega)).mono ?_; rintro e w' ⟨rfl, rfl⟩; rw [hm])
          all_goals
            go_ret
            exact ⟨ret_str HW.out.symm, H0.out.2⟩
    · have k8 : (k == 8) = false := by simp [h8]
      by_cases h9 : k = 9
      · subst h9
        have HW1 := Lib.hid (word_9 (bs x) o)
        cases hm : tSign (bs x)
        · have HW : Hid (strOf (wordS ⟨9, bs x, o⟩) = ⟨#[]⟩) := Lib.hid (by rw [HW1.out, if_neg (by simp [hm])]; rfl)
          go_enter Tryz.func41, Tryz.ntmps41
          go_wp2_with (go_at_call 81; refine (isSign_any _ _).mono ?_; rintro e w' ⟨rfl, rfl⟩; rw [hm])
          all_goals
            go_ret
            exact ⟨ret_str HW.out.symm, H0.out.2⟩
        · by_cases h0 : o = 0
          · subst h0
            have HW : Hid (strOf (wordS ⟨9, bs x, 0⟩) = x) := Lib.hid (by rw [HW1.out, if_pos ⟨hm, rfl⟩, strOf_bs])
            go_enter Tryz.func41, Tryz.ntmps41
            go_wp2_with (go_at_call 81; refine (isSign_any _ _).mono ?_; rintro e w' ⟨rfl, rfl⟩; rw [hm])
            all_goals
              go_ret
              exact ⟨ret_str HW.out.symm, H0.out.2⟩
          · have g0 : (o == 0) = false := by simp [h0]
            have HW : Hid (strOf (wordS ⟨9, bs x, o⟩) = ⟨#[]⟩) := Lib.hid (by rw [HW1.out, if_neg (by simp [h0])]; rfl)
            go_enter Tryz.func41, Tryz.ntmps41
            go_wp2_with (go_at_call 81; refine (isSign_any _ _).mono ?_; rintro e w' ⟨rfl, rfl⟩; rw [hm])
            all_goals
              go_ret
              exact ⟨ret_str HW.out.symm, H0.out.2⟩
      · have k9 : (k == 9) = false := by simp [h9]
        have HW1 := Lib.hid (word_plain k (bs x) o h1 h8 h9)
        by_cases hx : bs x = []
        · have hE : x.toList = [] := by rw [bs_toList]; exact hx
          by_cases h0 : o = 0
          · subst h0
            by_cases kl : k < 2
            · have HW : Hid (strOf (wordS ⟨k, bs x, 0⟩) = ⟨#[]⟩) := Lib.hid (by rw [HW1.out, if_pos ⟨hx, rfl⟩, if_neg (by omega), if_neg (by omega), if_neg (by omega), if_neg (by omega), if_neg (by omega), if_neg (by omega)]; rfl)
              clear hx h1 h8 h9
              go_enter Tryz.func41, Tryz.ntmps41
              go_wp2_with fail
              all_goals
                go_ret
                exact ⟨ret_str HW.out.symm, H0.out.2⟩
            · by_cases kg : 7 < k
              · have HW : Hid (strOf (wordS ⟨k, bs x, 0⟩) = ⟨#[]⟩) := Lib.hid (by rw [HW1.out, if_pos ⟨hx, rfl⟩, if_neg (by omega), if_neg (by omega), if_neg (by omega), if_neg (by omega), if_neg (by omega), if_neg (by omega)]; rfl)
                clear hx h1 h8 h9
                go_enter Tryz.func41, Tryz.ntmps41
                go_wp2_with fail
                all_goals
                  go_ret
                  exact ⟨ret_str HW.out.symm, H0.out.2⟩
              · have hk : k = 2 ∨ k = 3 ∨ k = 4 ∨ k = 5 ∨ k = 6 ∨ k = 7 := by omega
                have HX := Lib.hid hx
                clear hx h1 h8 h9
                rcases hk with rfl | rfl | rfl | rfl | rfl | rfl
                all_goals
                  go_enter Tryz.func41, Tryz.ntmps41
                  go_wp2
                  go_ret
                  exact ⟨ret_str (by rw [HW1.out, if_pos ⟨HX.out, trivial⟩]; rfl), H0.out.2.trans (Fr.of_alloc _ _ _)⟩
          · have g0 : (o == 0) = false := by simp [h0]
            have HW : Hid (strOf (wordS ⟨k, bs x, o⟩) = ⟨#[]⟩) := Lib.hid (by rw [HW1.out, if_neg (by simp [h0])]; rfl)
            clear hx h1 h8 h9
            go_enter Tryz.func41, Tryz.ntmps41
            go_wp2_with fail
            all_goals
              go_ret
              exact ⟨ret_str HW.out.symm, H0.out.2⟩
        · have hE : ¬ x.toList = [] := by rw [bs_toList]; exact hx
          have HW : Hid (strOf (wordS ⟨k, bs x, o⟩) = ⟨#[]⟩) := Lib.hid (by rw [HW1.out, if_neg (by simp [hx])]; rfl)
          clear hx h1 h8 h9
          go_enter Tryz.func41, Tryz.ntmps41
          go_wp2_with fail
          all_goals
            go_ret
            exact ⟨ret_str HW.out.symm, H0.out.2⟩

open Go.RowKit Go.ChangeShapes Go.WideShapes
/-- a token as it lies in memory -/
structure TokB where
  kind : Int
  name : ByteArray
  of : Int
  pos : Int
def TokB.tok (t : TokB) : Tok := ⟨t.kind, bs t.name, t.of⟩
/-- a slice of tokens -/
def ReadsT (w : World) (v : Value) (l : List TokB) : Prop :=
  ∃ ao c, v = .slice ao l.length c ∧ l.length ≤ c ∧ ∀ i t, l[i]? = some t → ∃ g off, ao = some ⟨g, off, none⟩ ∧ w.cell? ⟨g, off + i * 4, none⟩ = some (.int .i64 t.kind) ∧ w.cell? ⟨g, off + i * 4 + 1, none⟩ = some (.string t.name) ∧
    w.cell? ⟨g, off + i * 4 + 2, none⟩ = some (.int .i64 t.of) ∧ w.cell? ⟨g, off + i * 4 + 3, none⟩ = some (.int .i64 t.pos)
theorem word_len (t : Tok) : (wordS t).length ≤ 40 := by
  unfold wordS
  split
  · split
    · decide
    · split
      · rename_i h
        have := h.1
        unfold tMay at this
        simp only [Bool.and_eq_true, decide_eq_true_eq] at this
        have h2 := pre_len t.of
        rw [List.length_append]; omega
      · simp
  · split
    · split
      · rename_i h
        have := h.1
        unfold tNum at this
        simp only [Bool.and_eq_true, decide_eq_true_eq] at this
        omega
      · simp
    · split
      · split
        · rename_i h
          have := h.1
          match hn : t.name, this with
          | [c], _ => simp
        · simp
      · split
        · repeat' (first | (split; · decide) | simp)
        · simp
theorem join_snoc : ∀ (l : List (List UInt8)) (x : List UInt8), l ≠ [] → joinS (l ++ [x]) = joinS l ++ 32 :: x
  | [], x, h => absurd rfl h
  | [w], x, _ => rfl
  | w :: v :: r, x, _ => by
    show w ++ 32 :: joinS (v :: r ++ [x]) = (w ++ 32 :: joinS (v :: r)) ++ 32 :: x
    rw [join_snoc (v :: r) x (by simp)]
    simp
theorem join_le : ∀ (l : List Tok), (joinS (l.map wordS)).length ≤ l.length * 41
  | [] => by simp [joinS]
  | [t] => by have := word_len t; simp [joinS]; omega
  | t :: u :: r => by
    have := word_len t
    have h := join_le (u :: r)
    show (wordS t ++ 32 :: joinS ((u :: r).map wordS)).length ≤ _
    rw [List.length_append, List.length_cons]
    simp only [List.length_cons] at h ⊢
    omega
/-- the text, on the way -/
def TextTo (l : List Tok) (k : Nat) (out : List UInt8) : Prop := out = joinS ((l.take k).map wordS) ∧ ∀ t ∈ l.take k, wordS t ≠ []
theorem TextTo.step {l : List Tok} {k : Nat} {out : List UInt8} {t : Tok} (h : TextTo l k out) (ht : l[k]? = some t) (hw : wordS t ≠ []) : TextTo l (k + 1) (if k = 0 then wordS t else out ++ 32 :: wordS t) := by
  obtain ⟨rfl, h2⟩ := h
  have e : l.take (k + 1) = l.take k ++ [t] := by rw [List.take_add_one, ht]; rfl
  refine ⟨?_, ?_⟩
  · rw [e, List.map_append]
    by_cases h0 : k = 0
    · subst h0; simp [joinS]
    · rw [if_neg h0]
      have hl := (List.getElem?_eq_some_iff.1 ht).1
      rw [List.map_singleton, join_snoc _ _ (by
        intro hh
        have := congrArg List.length hh
        rw [List.length_map, List.length_take, List.length_nil] at this
        omega)]
  · intro u hu
    rw [e, List.mem_append] at hu
    rcases hu with hu | hu
    · exact h2 u hu
    · rw [List.mem_singleton] at hu; rw [hu]; exact hw
theorem text_bad {l : List Tok} {k : Nat} {t : Tok} (hn : l.length ≤ 1000) (ht : l[k]? = some t) (hw : wordS t = []) : textS l = ([], 2) := by
  unfold textS
  rw [if_neg (by omega), if_pos]
  rw [List.any_eq_true]
  exact ⟨t, List.mem_of_getElem? ht, by simp [hw]⟩
theorem TextTo.done {l : List Tok} {k : Nat} {out : List UInt8} (h : TextTo l k out) (hk : l.length ≤ k) (hn : l.length ≤ 1000) : textS l = if 4000 < out.length then ([], 2) else (out, 0) := by
  obtain ⟨rfl, h2⟩ := h
  rw [List.take_of_length_le hk] at h2 ⊢
  unfold textS
  rw [if_neg (by omega), if_neg]
  simp only [List.any_eq_true, decide_eq_true_eq, not_exists, not_and]
  exact fun t ht => h2 t ht
theorem TextTo.len {l : List Tok} {k : Nat} {out : List UInt8} (h : TextTo l k out) (hn : l.length ≤ 1000) : out.length ≤ 50000 := by
  obtain ⟨rfl, _⟩ := h
  have := join_le (l.take k)
  have h2 : (l.take k).length ≤ 1000 := by rw [List.length_take]; omega
  omega
def textV (r : List UInt8 × Int) : Value := .tuple #[.string (strOf r.1), .int .i64 r.2]

end Go.Proofs.YtbfealhbdemhmaaGreatDoor
