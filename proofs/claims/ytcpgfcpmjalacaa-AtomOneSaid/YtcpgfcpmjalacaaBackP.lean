/- What a table holds can be loaded, and comes back as it was. -/
import Derived.Test.YtcpgfcpmjalacaaSame
namespace Go.Proofs.Ytcpgfcpmjalacaa

/-- what holds of the names of every table -/
def GoodL (L : Nat → List ByteArray) : Prop := (∀ k, (L k).Nodup) ∧ (∀ k, (L k).length ≤ 4000) ∧ (∀ k s, s ∈ L k → mayB s.data.toList = true) ∧ L 0 = []

theorem Tab.goodL {w : World} {F : Nat → Prop} {B : Nat} {L : Nat → List ByteArray} (h : Tab w F B L) : GoodL L := ⟨h.nodup, h.few, h.good, h.none0⟩

/-- the names with the row k turned -/
def setL (L : Nat → List ByteArray) (k : Nat) (l : List ByteArray) (j : Nat) : List ByteArray := if j = k then l else L j

theorem loadRow_good {k : Nat} (hk1 : 1 ≤ k) (hk5 : k ≤ 5) : ∀ (r p : List ByteArray) (L : Nat → List ByteArray), L k = p → (p ++ r).Nodup → (p ++ r).length ≤ 4000 → (∀ s ∈ r, mayB s.data.toList = true) →
    loadRow k r L = (0, setL L k (p ++ r))
  | [], p, L, hp, _, _, _ => by
    simp only [loadRow, List.append_nil]
    congr 1
    funext j; unfold setL; split
    · rename_i h; rw [h, hp]
    · rfl
  | s :: r, p, L, hp, hn, hl, hg => by
    have hkk : (1 : Int) ≤ k ∧ (k : Int) ≤ 5 := by omega
    have hnew : s ∉ p := by
      intro hm
      rw [List.nodup_append] at hn
      exact hn.2.2 s hm s (by simp) rfl
    have hlp : p.length + 1 ≤ 4000 := by simp at hl; omega
    have hnum : numS L k s = 0 := by
      unfold numS; rw [if_pos hkk]; simp only [Int.toNat_natCast]; rw [hp]; exact posOf_none.2 hnew
    have hmay := hg s (by simp)
    have hpe : putE L k s = 0 := by
      unfold putE
      rw [if_neg (fun h => h hkk), if_neg (by simp [hmay]), if_neg (by simp [hnum]), if_neg (by simp only [Int.toNat_natCast]; rw [hp]; omega)]
    have hpl : putL L k s = setL L k (p ++ [s]) := by
      unfold putL; rw [if_pos ⟨hpe, hnum⟩]
      funext j; unfold addL setL; simp only [Int.toNat_natCast]
      split
      · rename_i h; rw [h, hp]
      · rfl
    rw [loadRow, if_neg (by simp [hnum]), if_neg (by simp [hpe]), hpl, loadRow_good hk1 hk5 r (p ++ [s]) _ (by simp [setL]) (by simpa using hn) (by simpa using hl) (fun t ht => hg t (by simp [ht]))]
    congr 1
    funext j; unfold setL; split <;> simp_all

theorem load_back {L : Nat → List ByteArray} (h : GoodL L) : ∃ L', loadS (fun k => allS L k) = (0, L') ∧ GoodL L' ∧ ∀ k, k < 6 → L' k = allS L k := by
  have e : ∀ k : Nat, 1 ≤ k → k ≤ 5 → allS L (k : Int) = L k := fun k h1 h5 => by unfold allS; rw [if_pos (by omega)]; simp
  have step : ∀ (k : Nat) (M : Nat → List ByteArray), 1 ≤ k → k ≤ 5 → M k = [] → loadRow k (allS L k) M = (0, setL M k (L k)) := by
    intro k M h1 h5 hM
    rw [e k h1 h5]
    have := loadRow_good h1 h5 (L k) [] M hM (by simpa using h.1 k) (by simpa using h.2.1 k) (fun s hs => h.2.2.1 k s hs)
    simpa using this
  have s1 := step 1 noL (by omega) (by omega) rfl
  have s2 := step 2 (setL noL 1 (L 1)) (by omega) (by omega) rfl
  have s3 := step 3 (setL (setL noL 1 (L 1)) 2 (L 2)) (by omega) (by omega) rfl
  have s4 := step 4 (setL (setL (setL noL 1 (L 1)) 2 (L 2)) 3 (L 3)) (by omega) (by omega) rfl
  have s5 := step 5 (setL (setL (setL (setL noL 1 (L 1)) 2 (L 2)) 3 (L 3)) 4 (L 4)) (by omega) (by omega) rfl
  refine ⟨setL (setL (setL (setL (setL noL 1 (L 1)) 2 (L 2)) 3 (L 3)) 4 (L 4)) 5 (L 5), ?_, ?_, ?_⟩
  · simp only [loadS, loadK, Nat.reduceAdd, s1, s2, s3, s4, s5]
    simp
  · have hh : ∀ k, setL (setL (setL (setL (setL noL 1 (L 1)) 2 (L 2)) 3 (L 3)) 4 (L 4)) 5 (L 5) k = if 1 ≤ k ∧ k ≤ 5 then L k else [] := by
      intro k; unfold setL noL
      by_cases h1 : k = 1; · subst h1; rfl
      by_cases h2 : k = 2; · subst h2; rfl
      by_cases h3 : k = 3; · subst h3; rfl
      by_cases h4 : k = 4; · subst h4; rfl
      by_cases h5 : k = 5; · subst h5; rfl
      simp [h1, h2, h3, h4, h5]; omega
    refine ⟨fun k => ?_, fun k => ?_, fun k s hs => ?_, ?_⟩
    · rw [hh]; split
      · exact h.1 k
      · simp
    · rw [hh]; split
      · exact h.2.1 k
      · simp
    · rw [hh] at hs; split at hs
      · exact h.2.2.1 k s hs
      · simp at hs
    · rw [hh]; rfl
  · intro k hk
    match k, hk with
    | 0, _ => simp [setL, noL, allS]
    | 1, _ => rfl
    | 2, _ => rfl
    | 3, _ => rfl
    | 4, _ => rfl
    | 5, _ => rfl
end Go.Proofs.Ytcpgfcpmjalacaa
