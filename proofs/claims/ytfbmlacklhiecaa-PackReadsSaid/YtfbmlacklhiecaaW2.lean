/- Contracts and lemmas: W2 -/
import Derived.Test.YtfbmlacklhiecaaL3
namespace Go.Proofs.Ytfbmlacklhiecaa
set_option linter.unusedVariables false
set_option linter.unusedSimpArgs false
open Go.RowKit Go.ChangeShapes Go.WideShapes
set_option maxRecDepth 20000

open Go.RowKit Go.ChangeShapes Go.WideShapes
set_option maxRecDepth 20000
theorem RInAt.other {b c : Nat} {x : ByteArray} {s : Option (List UInt8)} {w w' : World} (h : RInAt b x s w) (hf : Fr (fun k => k = c) w w') (hb : b ≠ c) : RInAt b x s w' := h.fr hf hb
/-- an In and the document's, alike -/
structure St3 (w0 : World) (bi br : Nat) (x : ByteArray) (s : Option (List UInt8)) (w : World) : Prop where
  i : InAt bi s w
  r : RInAt br x s w
  k : Kept w0 w
  hi : w0.heap.size ≤ bi
  hr : w0.heap.size ≤ br
  ne : br ≠ bi
theorem St3.kept {w0 : World} {bi br : Nat} {x : ByteArray} {s : Option (List UInt8)} {w w' : World} (h : St3 w0 bi br x s w) (k : Kept w w') : St3 w0 bi br x s w' := ⟨h.i.kept k, h.r.kept k, h.k.trans k, h.hi, h.hr, h.ne⟩
theorem St3.half {w0 : World} {bi br : Nat} {x : ByteArray} {s : Option (List UInt8)} {w w' : World} (h : St3 w0 bi br x s w) (f : Fr (fun k => k = bi) w w') : RInAt br x s w' ∧ Kept w0 w' := ⟨h.r.other f h.ne, fr_over f h.k h.hi⟩
theorem St3.step {w0 : World} {bi br : Nat} {x : ByteArray} {s s' : Option (List UInt8)} {w w1 w2 : World} (h : St3 w0 bi br x s w) (h1 : InAt bi s' w1) (f1 : Fr (fun k => k = bi) w w1) (h2 : RInAt br x s' w2) (f2 : Fr (fun k => k = br) w1 w2) : St3 w0 bi br x s' w2 :=
  ⟨h1.fr f2 (fun e => h.ne e.symm), h2, fr_over f2 (h.half f1).2 h.hr, h.hi, h.hr, h.ne⟩
theorem st3_new {w0 w : World} {b : Nat} {x : ByteArray} (h : InAt b (some (bs x)) w) (hb : w0.heap.size ≤ b) (k : Kept w0 w) : St3 w0 b w.heap.size x (some (bs x)) (w.alloc (Obj.cells #[.string x, .int .i64 0, .bool false] 50)) :=
  ⟨h.kept (Fr.of_alloc _ _ _), ⟨0, heap_alloc_new w _, Nat.zero_le _, fun l hl => by cases hl; rfl⟩, k.trans (Fr.of_alloc _ _ _), hb, k.size, by have := h.lt; omega⟩
theorem iSet_len (s : Option (List UInt8)) : (iSet s).1.length ≤ 255 := by
  unfold iSet keepL
  split
  · rw [iWords_len]; have := (iOne s).1.toNat_lt; omega
  · simp

open Go.RowKit Go.ChangeShapes Go.WideShapes
set_option maxRecDepth 20000
set_option maxHeartbeats 8000000 in
theorem packReads_walk {w : World} (x0 : ByteArray) (hx0 : x0.size ≤ maxLen) (v : Value) (hv : ItemsIn w v) :
    Calls Try.prog 4 #[.string x0, v] w fun e w' => e = .returned (.bool true) ∧ Fr (fun _ => False) w w' := by
  obtain ⟨l, hl⟩ := hv
  obtain ⟨ao, cap, rfl, hcap, hmax, hc, hok⟩ := hl
  unfold maxLen at hmax hx0
  have HC := Lib.hid hc
  have HOK := Lib.hid hok
  clear hc hok
  generalize hn : l.length = n at *
  have HN := Lib.hid hn
  clear hn
  go_enter Try.func4, Try.ntmps4
  go_wp2_with fail
  refine (awake_any _).mono ?_
  rintro e w1 ⟨rfl, hk1⟩
  have K1 := Lib.hid hk1
  clear hk1
  by_cases hsz : 4096 < x0.size
  · have g0 : decide (4096 < x0.size) = true := by simpa using hsz
    go_wp2
    go_ret
    exact ⟨rfl, K1.out⟩
  · have g0 : decide (4096 < x0.size) = false := by simpa using hsz
    have HX0 : Hid (x0.size ≤ 100000) := Lib.hid (by omega)
    go_wp2_with fail
    refine (from_any x0 _ (by have := HX0.out; omega)).mono ?_
    rintro e w2 ⟨rfl, h2, k2, _⟩
    have HS0 := Lib.hid (st3_new h2 K1.out.size (K1.out.trans k2))
    clear h2 k2
    go_wp2_with fail
    generalize w2.alloc (Obj.cells #[.string x0, .int .i64 0, .bool false] 50) = wl at *
    generalize w2.heap.size = br at *
    generalize w1.heap.size = bi at *
    clear g0 hsz
    go_loopw [7] (fun i wr => ∃ (k : Nat) (s : Option (List UInt8)), k ≤ n ∧ k ≤ 100 ∧ i = .int .i64 k ∧ Hid (St3 w bi br x0 s wr)) (fun i _ => n - (intOf i).toNat)
    case atStart => exact ⟨0, some (bs x0), by omega, by omega, rfl, HS0⟩
    case round =>
      obtain ⟨k, s, hk, hk1, rfl, hs⟩ := hrel
      clear HS0
      by_cases hlt : k < n ∧ k < 100
      · obtain ⟨h1, h2⟩ := hlt
        have g1 : (k : Int) < n := by omega
        have g2 : (k : Int) < 100 := by omega
        obtain ⟨x, hx⟩ : ∃ x, l[k]? = some x := ⟨_, List.getElem?_eq_getElem (by have := HN.out; omega)⟩
        obtain ⟨g, off, ha, hat⟩ := HC.out k x hx
        subst ha
        have HX := Lib.hid (HOK.out x (List.mem_of_getElem? hx))
        have HA := Lib.hid (hat.kept hs.out.k)
        have c0 := HA.out.c0
        have c1 := HA.out.c1
        have c2 := HA.out.c2
        have c3 := HA.out.c3
        have c4 := HA.out.c4
        obtain ⟨so, sc, hsv, hscc, _⟩ := hat.rd
        rw [wcells_len] at hsv hscc
        rw [hsv] at c4
        have HCP : Hid (Cop wr.heap.size x (wr.alloc (Obj.cells #[.int .i64 x.kind, .int .i64 x.n, .string x.t, .string x.wd, .slice so x.l.length sc] 39))) := Lib.hid (by unfold Cop; rw [hsv]; exact heap_alloc_new _ _)
        have HST := Lib.hid (hs.out.kept (Fr.of_alloc _ wr (Obj.cells #[.int .i64 x.kind, .int .i64 x.n, .string x.t, .string x.wd, .slice so x.l.length sc] 39)))
        have HNE : Hid (wr.heap.size ≠ bi ∧ wr.heap.size ≠ br) := Lib.hid (by have := hs.out.i.lt; have := hs.out.r.lt; omega)
        have HLX : Hid (x.l.length ≤ maxLen) := Lib.hid HX.out.ll
        clear hx hat hsv
        obtain ⟨kd, hkd⟩ : ∃ kd, kd = x.kind := ⟨_, rfl⟩
        have HKD := Lib.hid hkd
        rw [← hkd] at c0 HCP HST
        have hkind : kd = 0 ∨ kd = 1 ∨ kd = 2 ∨ kd = 3 ∨ ((kd == 0) = false ∧ (kd == 1) = false ∧ (kd == 2) = false ∧ (kd == 3) = false) := by
          by_cases q0 : kd = 0
          · exact .inl q0
          by_cases q1 : kd = 1
          · exact .inr (.inl q1)
          by_cases q2 : kd = 2
          · exact .inr (.inr (.inl q2))
          by_cases q3 : kd = 3
          · exact .inr (.inr (.inr (.inl q3)))
          exact .inr (.inr (.inr (.inr ⟨by simpa using q0, by simpa using q1, by simpa using q2, by simpa using q3⟩)))
        clear hkd
        obtain ⟨N, hN⟩ : ∃ N, N = x.n := ⟨_, rfl⟩
        have HNn := Lib.hid hN
        rw [← hN] at c1
        have hN0 : -9223372036854775808 ≤ N := by rw [hN]; exact HX.out.n0
        have hN1 : N ≤ 9223372036854775807 := by rw [hN]; exact HX.out.n1
        rw [← hN] at HCP HST
        clear hN
        rcases hkind with rfl | rfl | rfl | rfl | ⟨q0, q1, q2, q3⟩
        · go_wp2_with fail
          generalize hWA : wr.alloc _ = WA at *
          clear hWA c0 c1 c2 c3 c4
          have d1 : WA.cell? ⟨wr.heap.size, 1, none⟩ = some (.int .i64 N) := by rw [Lib.cell_of_heap HCP.out, HNn.out]; rfl
          have dd : WA.drew.cell? ⟨wr.heap.size, 1, none⟩ = some (.int .i64 N) := d1
          have HSD := Lib.hid (HST.out.kept (Fr.of_drew _ WA))
          have HCD : Hid (Cop wr.heap.size x WA.drew) := Lib.hid HCP.out
          have HR2d : Hid (∀ W, RInAt br x0 s W → Calls Try.prog 22 #[.pointer (some ⟨br, 0, none⟩), .int .i64 N] W (RInPost br x0 (.int .i64 (iNum s N).1) (iNum s N).2 W)) := Lib.hid (fun W hW => rinum_any N hN0 hN1 HX0.out hW)
          have HI2d := Lib.hid (inum_any N hN0 hN1 HSD.out.i)
          generalize (iNum s N).1 = r0 at *
          generalize (iNum s N).2 = s2 at *
          go_region_held3 (fun W' => W'.cell? ⟨wr.heap.size, 1, none⟩ = some (.int .i64 N)) (first | exact d1 | exact dd | exact d3 | exact d4) (first
            | (go_at_call 21; refine HI2d.out.mono ?_; rintro e w3 ⟨rfl, h3, f3⟩; have H3 := Lib.hid h3; have F3 := Lib.hid f3; have HR3 := Lib.hid (HSD.out.half f3); have d3 : w3.cell? ⟨wr.heap.size, 1, none⟩ = some (.int .i64 N) := (by have h9 := (HCD.out.fr f3 HNE.out.1).c1; rw [← HNn.out] at h9; exact h9); clear h3 f3)
            | (go_at_call 22; refine (HR2d.out _ HR3.out.1).mono ?_; rintro e w4 ⟨rfl, h4, f4⟩; have HSN := Lib.hid (HSD.out.step H3.out F3.out h4 f4); have d4 : w4.cell? ⟨wr.heap.size, 1, none⟩ = some (.int .i64 N) := (by have h9 := ((HCD.out.fr F3.out HNE.out.1).fr f4 HNE.out.2).c1; rw [← HNn.out] at h9; exact h9); clear h4 f4))
          all_goals
            clear H3 F3 HR3
            go_wp2_with fail
            refine (ileft_any HSN.out.i).mono ?_
            rintro e w7 ⟨rfl, rfl⟩
            go_wp2_with fail
            refine (rileft_any HX0.out HSN.out.r).mono ?_
            rintro e w8 ⟨rfl, hk8⟩
            have HSP := Lib.hid (HSN.out.kept hk8)
            clear hk8
            generalize iLeft s2 = r1 at *
            go_wp2_with fail
            go_roundw
            case rel => exact ⟨k + 1, s2, by omega, by omega, by go_num, HSP⟩
            case measure => simp [intOf]; omega
        · go_wp2_with fail
          generalize hWA : wr.alloc _ = WA at *
          clear hWA c0 c1 c2 c3 c4
          refine (itext_any (min (max N (-9)) 1099511627776) (by omega) (by omega) HST.out.i).mono ?_
          rintro e w3 ⟨rfl, h3, f3⟩
          have H3 := Lib.hid h3
          have F3 := Lib.hid f3
          have HR3 := Lib.hid (HST.out.half f3)
          clear h3 f3
          go_wp2_with fail
          refine (ritext_any (min (max N (-9)) 1099511627776) (by omega) (by omega) HX0.out HR3.out.1).mono ?_
          rintro e w4 ⟨rfl, h4, f4⟩
          have HSN := Lib.hid (HST.out.step H3.out F3.out h4 f4)
          clear h4 f4
          generalize (iText s (min (max N (-9)) 1099511627776)).1 = r0 at *
          generalize (iText s (min (max N (-9)) 1099511627776)).2 = s2 at *
          clear H3 F3 HR3
          go_wp2_with fail
          refine (ileft_any HSN.out.i).mono ?_
          rintro e w7 ⟨rfl, rfl⟩
          go_wp2_with fail
          refine (rileft_any HX0.out HSN.out.r).mono ?_
          rintro e w8 ⟨rfl, hk8⟩
          have HSP := Lib.hid (HSN.out.kept hk8)
          clear hk8
          generalize iLeft s2 = r1 at *
          go_wp2_with fail
          go_roundw
          case rel => exact ⟨k + 1, s2, by omega, by omega, by go_num, HSP⟩
          case measure => simp [intOf]; omega
        · go_wp2_with fail
          generalize hWA : wr.alloc _ = WA at *
          clear hWA c0 c1 c2 c3 c4
          refine (iword_any HST.out.i).mono ?_
          rintro e w3 ⟨rfl, h3, f3⟩
          have H3 := Lib.hid h3
          have F3 := Lib.hid f3
          have HR3 := Lib.hid (HST.out.half f3)
          clear h3 f3
          go_wp2_with fail
          refine (riword_any HX0.out HR3.out.1).mono ?_
          rintro e w4 ⟨rfl, h4, f4⟩
          have HSN := Lib.hid (HST.out.step H3.out F3.out h4 f4)
          clear h4 f4
          generalize (iWord s).1 = r0 at *
          generalize (iWord s).2 = s2 at *
          clear H3 F3 HR3
          go_wp2_with fail
          refine (ileft_any HSN.out.i).mono ?_
          rintro e w7 ⟨rfl, rfl⟩
          go_wp2_with fail
          refine (rileft_any HX0.out HSN.out.r).mono ?_
          rintro e w8 ⟨rfl, hk8⟩
          have HSP := Lib.hid (HSN.out.kept hk8)
          clear hk8
          generalize iLeft s2 = r1 at *
          go_wp2_with fail
          go_roundw
          case rel => exact ⟨k + 1, s2, by omega, by omega, by go_num, HSP⟩
          case measure => simp [intOf]; omega
        · go_wp2_with fail
          generalize hWA : wr.alloc _ = WA at *
          clear hWA c0 c1 c2 c3 c4
          refine (iset_any HST.out.i).mono ?_
          rintro e w3 ⟨u1, rfl, ho3, h3, f3⟩
          have H3 := Lib.hid h3
          have F3 := Lib.hid f3
          have HR3 := Lib.hid (HST.out.half f3)
          have HO3 := Lib.hid ho3
          clear h3 f3 ho3
          go_wp2_with fail
          refine (riset_any HX0.out HR3.out.1).mono ?_
          rintro e w4 ⟨u2, rfl, ho4, h4, f4⟩
          have HSN := Lib.hid (HST.out.step H3.out F3.out h4 f4)
          have HO4 := Lib.hid ho4
          have HO5 := Lib.hid (own_one HO3.out f4 HST.out.r.lt)
          have HLen := Lib.hid (iSet_len s)
          clear h4 f4 ho4 HO3
          generalize (iSet s).1 = r0 at *
          generalize (iSet s).2 = s2 at *
          clear H3 F3 HR3
          have hr1 := Reads.of_row HO5.out
          have hr2 := Reads.of_row HO4.out
          go_wp2_with fail
          refine (equal_any hr1 hr2 (by have := HLen.out; omega) (by have := HLen.out; omega)).mono ?_
          rintro e w5 ⟨rfl, m5, rfl⟩
          have e1 : decide (r0 = r0) = true := by simp
          rw [e1]
          replace HSN := Lib.hid (HSN.out.kept (Fr.of_drewN _ _ m5))
          clear hr1 hr2 HO4 HO5
          generalize w4.drewN m5 = w5 at *
          go_wp2_with fail
          refine (ileft_any HSN.out.i).mono ?_
          rintro e w7 ⟨rfl, rfl⟩
          go_wp2_with fail
          refine (rileft_any HX0.out HSN.out.r).mono ?_
          rintro e w8 ⟨rfl, hk8⟩
          have HSP := Lib.hid (HSN.out.kept hk8)
          clear hk8
          generalize iLeft s2 = r1 at *
          go_wp2_with fail
          go_roundw
          case rel => exact ⟨k + 1, s2, by omega, by omega, by go_num, HSP⟩
          case measure => simp [intOf]; omega
        · go_wp2_with fail
          generalize hWA : wr.alloc _ = WA at *
          clear hWA c0 c1 c2 c3 c4
          have HSN := HST
          generalize s = s2 at *
          refine (ileft_any HSN.out.i).mono ?_
          rintro e w7 ⟨rfl, rfl⟩
          go_wp2_with fail
          refine (rileft_any HX0.out HSN.out.r).mono ?_
          rintro e w8 ⟨rfl, hk8⟩
          have HSP := Lib.hid (HSN.out.kept hk8)
          clear hk8
          generalize iLeft s2 = r1 at *
          go_wp2_with fail
          go_roundw
          case rel => exact ⟨k + 1, s2, by omega, by omega, by go_num, HSP⟩
          case measure => simp [intOf]; omega
      · have HDn := Lib.hid (idone_any hs.out.i)
        obtain ⟨r1, hr1⟩ : ∃ r, r = (iDone s).1 := ⟨_, rfl⟩
        obtain ⟨s2, hs2⟩ : ∃ r, r = (iDone s).2 := ⟨_, rfl⟩
        have HRD : Hid (∀ W, RInAt br x0 s W → Calls Try.prog 33 #[.pointer (some ⟨br, 0, none⟩)] W (RInPost br x0 (.int .i64 r1) s2 W)) := Lib.hid (fun W hW => by rw [hr1, hs2]; exact ridone_any HX0.out hW)
        rw [← hr1, ← hs2] at HDn
        clear hr1 hs2
        have hend : ((k : Int) < n ∧ ¬ (k : Int) < 100) ∨ ¬ (k : Int) < n := by omega
        rcases hend with ⟨g1, g2⟩ | g1
        all_goals
          go_wp2_with fail
          refine HDn.out.mono ?_
          rintro e w3 ⟨rfl, h3, f3⟩
          have H3 := Lib.hid h3
          have F3 := Lib.hid f3
          have HR3 := Lib.hid (hs.out.half f3)
          clear h3 f3
          go_wp2_with fail
          refine (HRD.out _ HR3.out.1).mono ?_
          rintro e w4 ⟨rfl, h4, f4⟩
          have HSN := Lib.hid (hs.out.step H3.out F3.out h4 f4)
          clear h4 f4 H3 F3 HR3
          go_wp2_with fail
          refine (ileft_any HSN.out.i).mono ?_
          rintro e w7 ⟨rfl, rfl⟩
          go_wp2_with fail
          refine (rileft_any HX0.out HSN.out.r).mono ?_
          rintro e w8 ⟨rfl, hk8⟩
          have HSP := Lib.hid (HSN.out.kept hk8)
          clear hk8
          generalize iLeft s2 = r5 at *
          go_wp2
          go_ret
          exact ⟨by simp, HSP.out.k⟩

end Go.Proofs.Ytfbmlacklhiecaa
