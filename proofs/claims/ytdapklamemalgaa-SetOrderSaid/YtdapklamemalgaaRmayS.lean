/- What the document's look at a set, its making of one, and its Equal do. -/
import Derived.Test.YtdapklamemalgaaRright
namespace Go.Proofs.Ytdapklamemalgaa
set_option linter.unusedVariables false
set_option linter.unusedSimpArgs false
open Go.RowKit Go.ChangeShapes Go.WideShapes

/-- a world in which nothing that was there has turned -/
structure KeptW (w : World) where
  wd : World
  kept : Kept w wd
instance (w : World) : Nonempty (KeptW w) := ⟨⟨w, Fr.refl _ _⟩⟩
/-- a walk of a region whose order is drawn, shut -/
structure QuietAt (P : Program) (ops : Array Oper) (C : World → Prop) (Q : Act → Prop) (l : List Oper) (a : Act) : Prop where
  out : wpQuiet P ops C Q l a
theorem qa_step {P : Program} {ops : Array Oper} {C : World → Prop} {Q : Act → Prop} {a : Act} {o : Oper} {rest : List Oper}
    (h : ∀ K : Act → Prop, (∀ a, QuietAt P ops C Q rest a → K a) → if Region.wanted o (yielded ops a.tmps) then o.quiet P a C K else K (a.put o.dst undef)) : QuietAt P ops C Q (o :: rest) a :=
  ⟨wpQuiet_step fun K hK => h K fun a ha => hK a ha.out⟩
theorem qa_nil {P : Program} {ops : Array Oper} {C : World → Prop} {Q : Act → Prop} {a : Act} (h : Q a) : QuietAt P ops C Q [] a := ⟨wpQuiet_nil h⟩
theorem wp_region_kept {P : Program} {id : Nat} {Q : Exit → Act → World → Prop} {a : Act} {w : World} {l : List Oper} (hm : P.follows .mixedOrders = true) (hB : Region.lexB .any l.toArray = true)
    (h : QuietAt P l.toArray (fun w' => ∃ p : KeptW w, w' = p.wd) (fun a' => ∀ w', (∃ p : KeptW w, w' = p.wd) → Q .normal a' w') l a) : (Code.region id l.toArray true).wp P Q a w :=
  wp_region_quiet (C := fun w' => ∃ p : KeptW w, w' = p.wd) hm hB ⟨⟨w.drew, Fr.of_drew _ _⟩, rfl⟩ (by have := h.out; simpa using this)
theorem kept_call {P : Program} {f : FuncId} {args : Array Value} {w : World} {v : Value} {p : KeptW w} (h : ∀ W, Calls P f args W (KeptPost v W)) : Calls P f args p.wd fun e w'' => e = .returned v ∧ ∃ p' : KeptW w, w'' = p'.wd :=
  (h p.wd).mono fun _ w'' ⟨he, hk⟩ => ⟨he, ⟨w'', p.kept.trans hk⟩, rfl⟩
theorem kept_drew {P : Program} {f : FuncId} {args : Array Value} {w : World} {v : Value} {p : KeptW w} (h : ∀ W, Calls P f args W (DrewPost v W)) : Calls P f args p.wd fun e w'' => e = .returned v ∧ ∃ p' : KeptW w, w'' = p'.wd :=
  kept_call fun W => (h W).mono fun _ _ h => h.kept
set_option maxHeartbeats 1000000 in
theorem rmay_set {w : World} {G : Nat → Prop} {v : Value} {l : List ByteArray} (h : Reads w G v (wcells l)) (hl : l.length ≤ 100000) (hs : Small 100000 l) :
    Calls Try.prog 16 #[v] w (KeptPost (.bool (mayL l)) w) := by
  obtain ⟨ao, c, rfl, _, hc⟩ := h
  rw [wcells_len]
  have HC := Lib.hid hc
  have HS := Lib.hid hs
  clear hc hs
  generalize hn : l.length = n at hl ⊢
  have HN := Lib.hid hn
  by_cases h0 : n < 1
  · have g0 : (n : Int) < 1 := by omega
    have HA := Lib.hid (mayL_count (l := l) (.inl (by omega)))
    clear hn
    go_enter Try.func16, Try.ntmps16
    go_wp2
    go_ret
    exact ⟨ret_bool HA.out.symm, Fr.refl _ _⟩
  have g0 : ¬ (n : Int) < 1 := by omega
  by_cases h16 : 16 < n
  · have g1 : 16 < (n : Int) := by omega
    have HA := Lib.hid (mayL_count (l := l) (.inr (by omega)))
    clear hn
    go_enter Try.func16, Try.ntmps16
    go_wp2
    go_ret
    exact ⟨ret_bool HA.out.symm, Fr.refl _ _⟩
  have g1 : ¬ 16 < (n : Int) := by omega
  have H16 : Hid (1 ≤ n ∧ n ≤ 16) := Lib.hid (by omega)
  clear hn
  have H0 : Hid (Kept w w) := Lib.hid (Fr.refl _ _)
  go_enter Try.func16, Try.ntmps16
  go_wp2
  clear g0 g1 h0
  go_loopw [3] (fun i wr => ∃ k : Nat, k ≤ n ∧ i = .int .i64 k ∧ Hid (Kept w wr) ∧ Hid (Upto l k)) (fun i _ => n - (intOf i).toNat)
  case atStart => exact ⟨0, by omega, rfl, H0, Lib.hid (fun j y hj => by omega)⟩
  case round =>
    obtain ⟨k, hk, rfl, HK, hall⟩ := hrel
    clear H0
    by_cases hlt : k < n
    · have h1 : (k : Int) < n := by omega
      obtain ⟨x, hx⟩ : ∃ x, l[k]? = some x := ⟨_, List.getElem?_eq_getElem (by have := HN.out; omega)⟩
      obtain ⟨g, off, rfl, _, hcell0⟩ := HC.out k _ (wcells_get hx)
      have hcell1 := HK.out.cell hcell0 (fun x => x)
      have hcell : ∀ p : KeptW wr, p.wd.cell? ⟨g, off + k, none⟩ = some (.string x) := fun p => p.kept.cell hcell1 (fun x => x)
      have hsx := Lib.hid (HS.out x (List.mem_of_getElem? hx))
      have HX := Lib.hid hx
      clear hx hcell0 hcell1
      cases hm : mayS x
      · have HA := Lib.hid (mayL_bad HX.out hm)
        have HM : Hid (∀ W, Calls Try.prog 37 #[.string x] W (KeptPost (.bool false) W)) := Lib.hid (fun W => by rw [← hm]; exact rmay_any x W hsx.out)
        clear hm
        go_wp2
        refine wp_region_kept (by kernel_rfl) (by kernel_rfl) ?_
        repeat (refine qa_step (fun K hK => ?_); go_simp; first | (refine hK _ ?_; clear hK K) | (apply Exists.intro; refine ⟨fun _ => ?_, hK _ ?_⟩; (go_at_call 37; exact kept_call HM.out); clear hK K))
        refine qa_nil ?_
        intro _ hw
        obtain ⟨p9, hw⟩ := hw
        subst hw
        replace HK := Lib.hid (HK.out.trans p9.kept)
        all_goals
          go_wp2
          go_ret
          exact ⟨ret_bool HA.out.symm, HK.out⟩
      · have HM : Hid (∀ W, Calls Try.prog 37 #[.string x] W (KeptPost (.bool true) W)) := Lib.hid (fun W => by rw [← hm]; exact rmay_any x W hsx.out)
        by_cases hk0 : k = 0
        · have e0 : decide (0 < k) = false := by simp [hk0]
          have HA := Lib.hid (hall.out.step HX.out hm (fun i y hi => by omega))
          clear hk0 hm
          go_wp2
          refine wp_region_kept (by kernel_rfl) (by kernel_rfl) ?_
          repeat (refine qa_step (fun K hK => ?_); go_simp; first | (refine hK _ ?_; clear hK K) | (apply Exists.intro; refine ⟨fun _ => ?_, hK _ ?_⟩; (go_at_call 37; exact kept_call HM.out); clear hK K))
          refine qa_nil ?_
          intro _ hw
          obtain ⟨p9, hw⟩ := hw
          subst hw
          replace HK := Lib.hid (HK.out.trans p9.kept)
          all_goals
            go_wp2
            go_roundw
            case rel => exact ⟨k + 1, by omega, by go_num, HK, HA⟩
            case measure => simp [intOf]; omega
        · obtain ⟨k, rfl⟩ : ∃ k', k = k' + 1 := ⟨k - 1, by omega⟩
          obtain ⟨y, hy⟩ : ∃ y, l[k]? = some y := ⟨_, List.getElem?_eq_getElem (by have := HN.out; omega)⟩
          obtain ⟨g', off', he, _, hcellp⟩ := HC.out k _ (wcells_get hy)
          cases he
          have hcell3 := HK.out.cell hcellp (fun x => x)
          have hcell2 : ∀ p : KeptW wr, p.wd.cell? ⟨g, off + k, none⟩ = some (.string y) := fun p => p.kept.cell hcell3 (fun x => x)
          have hsy := Lib.hid (HS.out y (List.mem_of_getElem? hy))
          have HY := Lib.hid hy
          have hF := HN.out
          clear hcellp hcell3 hk0 hF
          have e1 : (k : Int) + 1 - 1 = k := by omega
          have h2 : (k : Int) + 1 < n := by omega
          have h3 : (k : Int) < n := by omega
          have e2 : ((k : Int) + 1).toNat = k + 1 := by omega
          have e3 : 0 ≤ (k : Int) + 1 := by omega
          have e0 : 0 < (k : Int) + 1 := by omega
          have w1 : IntKind.i64.wrap (k : Int) = k := IntWalk.i64_in _ (by omega)
          have w2 : IntKind.i64.wrap ((k : Int) + 1 - 1) = k := by rw [e1]; exact w1
          have HL : Hid (∀ W, Calls Try.prog 34 #[.string y, .string x] W (DrewPost (.bool (lessS y x)) W)) := Lib.hid (fun W => rless_any y x W (by have := hsy.out; unfold maxLen; omega) (by have := hsx.out; unfold maxLen; omega))
          clear hy
          cases hls : lessS y x
          · have HA := Lib.hid (mayL_fall HY.out HX.out hls)
            rw [hls] at HL
            clear hls hm
            go_wp2
            refine wp_region_kept (by kernel_rfl) (by kernel_rfl) ?_
            repeat (refine qa_step (fun K hK => ?_); go_simp; first | (refine hK _ ?_; clear hK K) | (apply Exists.intro; refine ⟨fun _ => ?_, hK _ ?_⟩; (first | (go_at_call 37; exact kept_call HM.out) | (go_at_call 34; exact kept_drew HL.out)); clear hK K))
            refine qa_nil ?_
            intro _ hw
            obtain ⟨p9, hw⟩ := hw
            subst hw
            replace HK := Lib.hid (HK.out.trans p9.kept)
            all_goals
              go_wp2
              go_ret
              exact ⟨ret_bool HA.out.symm, HK.out⟩
          · have HA := Lib.hid (hall.out.step HX.out hm (fun i z hi hz => by
              obtain rfl : i = k := by omega
              rw [HY.out] at hz; cases hz; exact hls))
            rw [hls] at HL
            clear hls hm
            go_wp2
            refine wp_region_kept (by kernel_rfl) (by kernel_rfl) ?_
            repeat (refine qa_step (fun K hK => ?_); go_simp; first | (refine hK _ ?_; clear hK K) | (apply Exists.intro; refine ⟨fun _ => ?_, hK _ ?_⟩; (first | (go_at_call 37; exact kept_call HM.out) | (go_at_call 34; exact kept_drew HL.out)); clear hK K))
            refine qa_nil ?_
            intro _ hw
            obtain ⟨p9, hw⟩ := hw
            subst hw
            replace HK := Lib.hid (HK.out.trans p9.kept)
            all_goals
              go_wp2
              go_roundw
              case rel => exact ⟨k + 2, by omega, by go_num, HK, HA⟩
              case measure => simp [intOf]; omega
    · have HA := Lib.hid (mayL_all (l := l) (by have := HN.out; have := H16.out; omega) (by have := HN.out; have := H16.out; omega) (fun j y hj hy => hall.out j y (by have := HN.out; omega) hy))
      go_wp2
      go_ret
      exact ⟨ret_bool HA.out.symm, HK.out⟩
end Go.Proofs.Ytdapklamemalgaa
