/- Contracts and lemmas: Lb -/
import Derived.Test.YtbfealhbdemhmaaGreatDoorCt
namespace Go.Proofs.YtbfealhbdemhmaaGreatDoor
set_option linter.unusedVariables false
set_option linter.unusedSimpArgs false
open Go.RowKit Go.ChangeShapes Go.WideShapes
def Three (w : World) (g : Nat) (a b c : Value) : Prop := ∃ t, w.heap[g]? = some (.cells #[a, b, c] t (0, 0))
theorem Three.c0 {w : World} {g : Nat} {a b c : Value} (h : Three w g a b c) : w.cell? ⟨g, 0, none⟩ = some a := by obtain ⟨t, h⟩ := h; rw [cell_whole h]; rfl
theorem Three.c1 {w : World} {g : Nat} {a b c : Value} (h : Three w g a b c) : w.cell? ⟨g, 1, none⟩ = some b := by obtain ⟨t, h⟩ := h; rw [cell_whole h]; rfl
theorem Three.c2 {w : World} {g : Nat} {a b c : Value} (h : Three w g a b c) : w.cell? ⟨g, 2, none⟩ = some c := by obtain ⟨t, h⟩ := h; rw [cell_whole h]; rfl
theorem Three.kept {w w' : World} {g : Nat} {a b c : Value} (h : Three w g a b c) (hk : Kept w w') : Three w' g a b c := by
  obtain ⟨t, h⟩ := h
  exact ⟨t, by rw [hk.block g (Array.getElem?_eq_some_iff.1 h).1 (fun x => x), h]⟩
theorem three_new (w : World) (a b c : Value) (t : TypeId) : Three (w.alloc (.cells #[a, b, c] t)) w.heap.size a b c := ⟨t, heap_alloc_new w _⟩
theorem Ex.deep_le : ∀ e : Ex, e.deep ≤ e.post.length
  | .atom t => Nat.le_refl _
  | .bin op a b => by
    have ia := Ex.deep_le a
    have ib := Ex.deep_le b
    simp only [Ex.deep, Ex.post, List.length_append, List.length_cons, List.length_nil]
    omega
theorem cat_run (P : Program) (a b : List UInt8) (h : a.length + b.length ≤ 1000000) (W : World) : (Op.stringOp .add (strOf a) (strOf b)).run P W = .ok (.string (strOf (a ++ b))) W := by
  have := run_string_add_sum (P := P) W (strOf a) (strOf b) (by rw [strOf_size, strOf_size]; omega)
  rw [this]
  congr 2
set_option maxRecDepth 20000 in
set_option maxHeartbeats 8000000 in
theorem rlast_nil (w : World) (v : Value) (h : ReadsX w v []) : Calls Tryz.prog 82 #[v] w (LastPost [] w) := by
  obtain ⟨ao, c, rfl, _, _⟩ := h
  have H0 := Lib.hid (ls_new w 91)
  have HX : Hid (∀ p t, ¬ EndIs ([] : List Tok) p t) := Lib.hid (fun p t h => h.nil)
  have hl : ([] : List TrmB).length = 0 := rfl
  rw [hl]
  have r0 := H0.out.r.c0
  have r1 := H0.out.r.c1
  have r2 := H0.out.r.c2
  have r3 := H0.out.r.c3
  have z0 := H0.out.z.c0
  have z1 := H0.out.z.c1
  have z2 := H0.out.z.c2
  have z3 := H0.out.z.c3
  have fr0 := H0.out.r.fz 0
  have fr1 := H0.out.r.fz 1
  have fr2 := H0.out.r.fz 2
  have fr3 := H0.out.r.fz 3
  go_enter Tryz.func82, Tryz.ntmps82
  go_wp2
  exact bodyPost_ret (last_ret H0.out.r rfl rfl) rfl ⟨H0.out.kept, .inr ⟨HX.out, rfl⟩⟩
/-- the term ahead of the last -/
theorem last_ahead {w : World} {g off n c : Nat} {y : List TrmB} {t : TrmB} (h : ReadsX w (.slice (some ⟨g, off, none⟩) n c) (y ++ [t])) {p : List Tok} {b : Ex} (hb : EndIs (y.map TrmB.tok) p b) :
    ∃ j u, y.length = j + 1 ∧ w.cell? ⟨g, off + j * 3, none⟩ = some (.int .i64 (TrmB.op u)) ∧ w.cell? ⟨g, off + j * 3 + 1, none⟩ = some (.int .i64 u.of) ∧ ((∃ r, b = .atom r ∧ r.of = 5) ↔ (u.op = 1 ∧ u.of = 5)) := by
  rcases List.eq_nil_or_concat y with h0 | ⟨z, u, h0⟩
  · subst h0; exact hb.nil.elim
  · rw [List.concat_eq_append] at h0
    subst h0
    obtain ⟨ao, c', he, _, hx⟩ := h
    cases he
    obtain ⟨g', off', he, c0, c1, _⟩ := hx z.length u (by simp)
    cases he
    refine ⟨z.length, u, by simp, c0, c1, ?_⟩
    rw [List.map_append] at hb
    exact hb.role
theorem part_atom (q : Nat) (t : Tok) : partV q (.atom t) = .agg #[.int .i64 (q : Int), .string (strOf (wordS t)), .int .i64 5, .int .i64 1] := rfl
theorem part_bin {q : Nat} {op : Int} {a b : Ex} (h : (Ex.bin op a b).Ok) {LA LB : List UInt8} (hA : partE (bindS op) a = LA) (hB : partE (bindS op + 1) b = LB) :
    partV q (.bin op a b) = .agg #[.int .i64 (q : Int), .string (strOf (LA ++ [32] ++ wordS (opT op) ++ [32] ++ LB)), .int .i64 (bindS op : Nat), .int .i64 ((max a.deep b.deep : Nat) + 1 : Int)] := by
  unfold partV
  rw [text_bin h, hA, hB]
  have e : LA ++ 32 :: (wordS (opT op) ++ 32 :: LB) = LA ++ [32] ++ wordS (opT op) ++ [32] ++ LB := by simp
  rw [e]
  rfl
set_option maxRecDepth 20000 in
set_option maxHeartbeats 8000000 in
theorem rlast_any : ∀ (m : Nat) (w : World) (v : Value) (l : List TrmB), l.length ≤ m → l.length ≤ 200 → ReadsX w v l → (∀ t ∈ l, t.name.size ≤ 1000000) → Calls Tryz.prog 82 #[v] w (LastPost (l.map TrmB.tok) w) := by
  intro m
  induction m with
  | zero =>
    intro w v l hm _ h _
    have hl0 : l = [] := List.eq_nil_of_length_eq_zero (by omega)
    subst hl0
    exact rlast_nil w v h
  | succ m ih =>
    intro w v l hm h200 h hs
    rcases List.eq_nil_or_concat l with h0 | ⟨y, t, h0⟩
    · subst h0
      exact rlast_nil w v h
    rw [List.concat_eq_append] at h0
    subst h0
    have HRD := Lib.hid h
    obtain ⟨ao, c, rfl, hc, hx⟩ := h
    obtain ⟨g, off, rfl, d0, d1, d2⟩ := hx y.length t (by simp)
    have hlen : (y ++ [t]).length = y.length + 1 := by simp
    have hsz := hs t (by simp)
    have HI : Hid (∀ (j : Nat) (W : World), j ≤ y.length → Kept w W → Calls Tryz.prog 82 #[.slice (some ⟨g, off, none⟩) j c] W (LastPost ((y.map TrmB.tok).take j) W)) := Lib.hid (fun j W hj hW => by
      have hr := (HRD.out.upto j (by rw [hlen]; omega)).kept hW
      have := ih W _ _ (by rw [List.length_take, hlen]; omega) (by rw [List.length_take, hlen]; omega) hr (fun t ht => hs t (List.mem_of_mem_take ht))
      rw [List.take_append_of_le_length hj, List.map_take] at this
      exact this)
    have HU : Hid (∀ (p : List Tok) (b : Ex), EndIs (y.map TrmB.tok) p b → ∃ j u, y.length = j + 1 ∧ w.cell? ⟨g, off + j * 3, none⟩ = some (.int .i64 (TrmB.op u)) ∧ w.cell? ⟨g, off + j * 3 + 1, none⟩ = some (.int .i64 u.of) ∧ ((∃ r, b = .atom r ∧ r.of = 5) ↔ (u.op = 1 ∧ u.of = 5))) := Lib.hid (fun p b hb => last_ahead HRD.out hb)
    have HL : Hid ((y.map TrmB.tok).length = y.length) := Lib.hid (by simp)
    have hmp : (y ++ [t]).map TrmB.tok = y.map TrmB.tok ++ [t.tok] := by simp
    rw [hmp]
    rw [hlen] at hc h200
    clear HRD hx hs ih hm hmp
    rw [hlen]
    clear hlen
    generalize y.map TrmB.tok = Y at *
    generalize y.length = q at *
    clear y
    have HWD : Hid (∀ W, Calls Tryz.prog 41 #[.agg #[.int .i64 t.op, .string t.name, .int .i64 t.of, .int .i64 0]] W (KeptPost (.string (strOf (wordS t.tok))) W)) := Lib.hid (fun W => rword_any t.op t.name t.of 0 W hsz)
    have HBN : Hid (∀ W, Calls Tryz.prog 116 #[.int .i64 t.op] W fun e w' => e = .returned (.int .i64 (bindS t.op : Nat)) ∧ W = w') := Lib.hid (fun W => rbinds_any t.op W)
    have htk : t.tok.kind = t.op := rfl
    have H0 := Lib.hid ((ls_new w 91).later (Fr.of_alloc _ _ (Obj.cells #[.int .i64 t.op, .int .i64 t.of, .string t.name] 52)))
    have H0T : Hid (Three (((w.alloc (Obj.cells #[.int .i64 0, .string ⟨#[]⟩, .int .i64 0, .int .i64 0] 91)).alloc (Obj.cells #[.int .i64 0, .string ⟨#[]⟩, .int .i64 0, .int .i64 0] 91)).alloc (Obj.cells #[.int .i64 t.op, .int .i64 t.of, .string t.name] 52)) (w.heap.size + 1 + 1) (.int .i64 t.op) (.int .i64 t.of) (.string t.name)) := Lib.hid (by
      have := three_new ((w.alloc (Obj.cells #[.int .i64 0, .string ⟨#[]⟩, .int .i64 0, .int .i64 0] 91)).alloc (Obj.cells #[.int .i64 0, .string ⟨#[]⟩, .int .i64 0, .int .i64 0] 91)) (.int .i64 t.op) (.int .i64 t.of) (.string t.name) 52
      rwa [World.size_alloc, World.size_alloc] at this)
    have HD : Hid (∀ W, Kept w W → W.cell? ⟨g, off + q * 3, none⟩ = some (.int .i64 t.op) ∧ W.cell? ⟨g, off + q * 3 + 1, none⟩ = some (.int .i64 t.of) ∧ W.cell? ⟨g, off + q * 3 + 2, none⟩ = some (.string t.name)) := Lib.hid (fun W hW => ⟨hW.cell d0 (fun x => x), hW.cell d1 (fun x => x), hW.cell d2 (fun x => x)⟩)
    have e0 := (HD.out _ ((Fr.of_alloc (fun _ => False) w (Obj.cells #[.int .i64 0, .string ⟨#[]⟩, .int .i64 0, .int .i64 0] 91)).trans (Fr.of_alloc _ _ (Obj.cells #[.int .i64 0, .string ⟨#[]⟩, .int .i64 0, .int .i64 0] 91)))).1
    have e1 := (HD.out _ ((Fr.of_alloc (fun _ => False) w (Obj.cells #[.int .i64 0, .string ⟨#[]⟩, .int .i64 0, .int .i64 0] 91)).trans (Fr.of_alloc _ _ (Obj.cells #[.int .i64 0, .string ⟨#[]⟩, .int .i64 0, .int .i64 0] 91)))).2.1
    have e2 := (HD.out _ ((Fr.of_alloc (fun _ => False) w (Obj.cells #[.int .i64 0, .string ⟨#[]⟩, .int .i64 0, .int .i64 0] 91)).trans (Fr.of_alloc _ _ (Obj.cells #[.int .i64 0, .string ⟨#[]⟩, .int .i64 0, .int .i64 0] 91)))).2.2
    clear d0 d1 d2
    have r0 := H0.out.r.c0
    have r1 := H0.out.r.c1
    have r2 := H0.out.r.c2
    have r3 := H0.out.r.c3
    have z0 := H0.out.z.c0
    have z1 := H0.out.z.c1
    have z2 := H0.out.z.c2
    have z3 := H0.out.z.c3
    have fr0 := H0.out.r.fz 0
    have fr1 := H0.out.r.fz 1
    have fr2 := H0.out.r.fz 2
    have fr3 := H0.out.r.fz 3
    have t0 := H0T.out.c0
    have t1 := H0T.out.c1
    have t2 := H0T.out.c2
    have i0 : ((q : Int) + 1 == 0) = false := by rw [beq_eq_false_iff_ne]; omega
    have i1 : (q : Int) + 1 - 1 = (q : Int) := by omega
    go_enter Tryz.func82, Tryz.ntmps82
    go_wp2_with fail
    clear r0 r1 r2 r3 z0 z1 z2 z3 fr0 fr1 fr2 fr3 t0 t1 t2
    clear e0 e1 e2
    generalize ((w.alloc _).alloc _).alloc _ = W0 at H0 H0T ⊢
    generalize w.heap.size + 1 + 1 = g2 at H0 H0T ⊢
    generalize hg1 : w.heap.size + 1 = g1 at H0 H0T ⊢
    generalize hg0 : w.heap.size = g0 at H0 H0T ⊢
    clear hg1 hg0
    refine (HWD.out _).mono ?_
    rintro e w1 ⟨rfl, hk1⟩
    have H1 := Lib.hid (H0.out.later hk1)
    have H1T := Lib.hid (H0T.out.kept hk1)
    clear hk1 H0 H0T HWD
    have r0 := H1.out.r.c0
    have r1 := H1.out.r.c1
    have r2 := H1.out.r.c2
    have r3 := H1.out.r.c3
    have z0 := H1.out.z.c0
    have z1 := H1.out.z.c1
    have z2 := H1.out.z.c2
    have z3 := H1.out.z.c3
    have fr0 := H1.out.r.fz 0
    have fr1 := H1.out.r.fz 1
    have fr2 := H1.out.r.fz 2
    have fr3 := H1.out.r.fz 3
    have t0 := H1T.out.c0
    have t1 := H1T.out.c1
    have t2 := H1T.out.c2
    by_cases hw : wordS t.tok = []
    · have q1 : (strOf (wordS t.tok)).toList = [] := by rw [bs_toList, bs_strOf]; exact hw
      have q2 : (strOf (wordS t.tok)).toList.isEmpty = true := by rw [q1]; rfl
      have q3 : ((strOf (wordS t.tok)).toList == []) = true := by rw [q1]; rfl
      have HX : Hid (∀ p e, ¬ EndIs (Y ++ [t.tok]) p e) := Lib.hid (fun p e h => h.word hw)
      clear hw
      go_wp2
      exact bodyPost_ret (last_ret H1.out.r.put rfl rfl) rfl ⟨put_kept H1.out.kept H1.out.n0, .inr ⟨HX.out, rfl⟩⟩
    · have q1 : ¬ (strOf (wordS t.tok)).toList = [] := by rw [bs_toList, bs_strOf]; exact hw
      have q2 : (strOf (wordS t.tok)).toList.isEmpty = false := by simpa using q1
      have q3 : ((strOf (wordS t.tok)).toList == []) = false := by simpa using q1
      by_cases k1 : t.op = 1
      · have g1x : (t.op == 1) = true := by simp [k1]
        have HX : Hid (EndIs (Y ++ [t.tok]) Y (.atom t.tok)) := Lib.hid (EndIs.atom ⟨k1, hw⟩)
        have EV : Hid (partV Y.length (.atom t.tok) = .agg #[.int .i64 (q : Int), .string (strOf (wordS t.tok)), .int .i64 5, .int .i64 1]) := Lib.hid (by rw [part_atom, HL.out])
        clear hw k1
        go_wp2
        exact bodyPost_ret (last_ret H1.out.r.put rfl rfl) rfl ⟨put_kept H1.out.kept H1.out.n0, .inl ⟨_, _, HX.out, by rw [EV.out]; rfl⟩⟩
      · have g1x : (t.op == 1) = false := by simp [k1]
        by_cases hb0 : bindS t.op = 0
        · have HX : Hid (∀ p e, ¬ EndIs (Y ++ [t.tok]) p e) := Lib.hid (fun p e h => by
            rcases h.inv with ⟨h1, _⟩ | ⟨k, a, b, q', ht, _, _, _, hk, _⟩
            · exact k1 h1.1
            · have : t.tok.kind = k := by rw [ht]; rfl
              rw [htk] at this
              rw [← this] at hk
              exact hk hb0)
          rw [hb0] at HBN
          clear hw k1 hb0
          go_wp2_with (go_at_call 116; refine (HBN.out _).mono ?_; rintro e w' ⟨rfl, rfl⟩)
          exact bodyPost_ret (last_ret H1.out.r.put rfl rfl) rfl ⟨put_kept H1.out.kept H1.out.n0, .inr ⟨HX.out, rfl⟩⟩
        · have hop : t.tok = opT t.op := tok_op hw hb0
          have HOP := Lib.hid hop
          have HOK := Lib.hid hb0
          have glv : (((bindS t.op : Nat) : Int) == 0) = false := by rw [beq_eq_false_iff_ne]; omega
          have hlv4 := bind_le t.op
          have HINV : Hid (∀ p e, EndIs (Y ++ [t.tok]) p e → ∃ a b q, e = .bin t.op a b ∧ EndIs Y q b ∧ EndIs q p a ∧ (t.op = 5 → ∃ t, b = .atom t ∧ t.of = 5)) := Lib.hid (fun p e h => by
            rcases h.inv with ⟨h1, _⟩ | ⟨k, a, b, q', ht, he, h2, h3, hk, h5⟩
            · exact absurd h1.1 k1
            · have : t.tok.kind = k := by rw [ht]; rfl
              rw [htk] at this
              subst this
              exact ⟨a, b, q', he, h2, h3, h5⟩)
          have HBIN : Hid (∀ p1 p2 a b, EndIs Y p1 b → EndIs p1 p2 a → (t.op = 5 → ∃ t, b = .atom t ∧ t.of = 5) → EndIs (Y ++ [t.tok]) p2 (.bin t.op a b)) := Lib.hid (fun p1 p2 a b h1 h2 h5 => by rw [HOP.out]; exact EndIs.bin h1 h2 HOK.out h5)
          have HWT : Hid (wordS t.tok = wordS (opT t.op)) := Lib.hid (by rw [← HOP.out])
          clear hw hop k1 hb0
          have HN := Lib.hid (HI.out q)
          go_wp2_with (go_at_call 116; refine (HBN.out _).mono ?_; rintro e w' ⟨rfl, rfl⟩)
          clear r0 r1 r2 r3 z0 z1 z2 z3 fr0 fr1 fr2 fr3 t0 t1 t2
          refine (HI.out q w1 (Nat.le_refl _) H1.out.kept).mono ?_
          rw [List.take_of_length_le (by rw [HL.out]; omega)]
          rintro e w2 ⟨hk2, hpost⟩
          have H2 := Lib.hid (H1.out.later hk2)
          have H2T := Lib.hid (H1T.out.kept hk2)
          clear hk2 H1 H1T HBN HN
          rcases hpost with ⟨p1, b, hb1, rfl⟩ | ⟨hno, rfl⟩
          · have hpb : p1.length + b.post.length = q := by have := congrArg List.length hb1.is; rw [List.length_append, HL.out] at this; omega
            have hdb := Ex.deep_le b
            have htb := text_bound b
            have hwl : (wordS t.tok).length ≤ 10 := by
              rw [HWT.out]
              rcases bind_cases HOK.out with h | h | h | h <;> rw [h] <;> decide
            have HB1 := Lib.hid hb1
            have HTK1 : Hid (Y.take p1.length = p1) := Lib.hid (by rw [hb1.is]; exact List.take_left)
            have H3 := Lib.hid (H2.out.later (Fr.of_alloc _ _ (Obj.cells #[.int .i64 (p1.length : Int), .string (strOf (textE b)), .int .i64 (b.lvl : Int), .int .i64 (b.deep : Int)] 91)))
            have H3T := Lib.hid (H2T.out.kept (Fr.of_alloc _ w2 (Obj.cells #[.int .i64 (p1.length : Int), .string (strOf (textE b)), .int .i64 (b.lvl : Int), .int .i64 (b.deep : Int)] 91)))
            have H3B := Lib.hid (four_new w2 (.int .i64 (p1.length : Int)) (.string (strOf (textE b))) (.int .i64 (b.lvl : Int)) (.int .i64 (b.deep : Int)) 91)
            unfold partV
            clear hb1
            have r0 := H3.out.r.c0
            have r1 := H3.out.r.c1
            have r2 := H3.out.r.c2
            have r3 := H3.out.r.c3
            have z0 := H3.out.z.c0
            have z1 := H3.out.z.c1
            have z2 := H3.out.z.c2
            have z3 := H3.out.z.c3
            have fr0 := H3.out.r.fz 0
            have fr1 := H3.out.r.fz 1
            have fr2 := H3.out.r.fz 2
            have fr3 := H3.out.r.fz 3
            have t0 := H3T.out.c0
            have t1 := H3T.out.c1
            have t2 := H3T.out.c2
            have b0 := H3B.out.c0
            have b1 := H3B.out.c1
            have b2 := H3B.out.c2
            have b3 := H3B.out.c3
            have j0 : (0 : Int) ≤ (p1.length : Int) := by omega
            have j1 : (p1.length : Int) ≤ (c : Int) := by omega
            by_cases h5 : t.op = 5
            · have g5 : (t.op == 5) = true := by simp [h5]
              obtain ⟨j, u, hj, u0, u1, hru⟩ := HU.out p1 b HB1.out
              have v0 := H3.out.kept.cell u0 (fun x => x)
              have v1 := H3.out.kept.cell u1 (fun x => x)
              have i2 : (q : Int) + 1 - 2 = (j : Int) := by omega
              have i3 : (j : Int) < (q : Int) + 1 := by omega
              have i4 : (0 : Int) ≤ (j : Int) := by omega
              clear u0 u1
              by_cases hu : u.op = 1
              · rw [hu] at v0
                by_cases hu5 : u.of = 5
                · rw [hu5] at v1
                  have HRO0 := Lib.hid (hru.2 ⟨hu, hu5⟩)
                  clear hru hu hu5 h5
                  have HRO : Hid (t.op = 5 → ∃ r, b = .atom r ∧ r.of = 5) := Lib.hid (fun _ => HRO0.out)
                  go_wp2_with fail
                  clear r0 r1 r2 r3 z0 z1 z2 z3 fr0 fr1 fr2 fr3 t0 t1 t2 b0 b1 b2 b3
                  refine (HI.out p1.length _ (by omega) H3.out.kept).mono ?_
                  rw [HTK1.out]
                  rintro e w4 ⟨hk4, hpost⟩
                  have H4 := Lib.hid (H3.out.later hk4)
                  have H4B := Lib.hid (H3B.out.kept hk4)
                  clear hk4 H3 H3B H3T
                  rcases hpost with ⟨p2, a, ha1, rfl⟩ | ⟨hno, rfl⟩
                  · have HX : Hid (EndIs (Y ++ [t.tok]) p2 (.bin t.op a b)) := Lib.hid (HBIN.out p1 p2 a b HB1.out ha1 HRO.out)
                    have hpa : p2.length + a.post.length = p1.length := by have := congrArg List.length ha1.is; rw [List.length_append] at this; omega
                    have hda := Ex.deep_le a
                    have hta := text_bound a
                    have H5 := Lib.hid (H4.out.later (Fr.of_alloc _ _ (Obj.cells #[.int .i64 (p2.length : Int), .string (strOf (textE a)), .int .i64 (a.lvl : Int), .int .i64 (a.deep : Int)] 91)))
                    have H5B := Lib.hid (H4B.out.kept (Fr.of_alloc _ w4 (Obj.cells #[.int .i64 (p2.length : Int), .string (strOf (textE a)), .int .i64 (a.lvl : Int), .int .i64 (a.deep : Int)] 91)))
                    have H5A := Lib.hid (four_new w4 (.int .i64 (p2.length : Int)) (.string (strOf (textE a))) (.int .i64 (a.lvl : Int)) (.int .i64 (a.deep : Int)) 91)
                    unfold partV
                    have r0 := H5.out.r.c0
                    have r1 := H5.out.r.c1
                    have r2 := H5.out.r.c2
                    have r3 := H5.out.r.c3
                    have z0 := H5.out.z.c0
                    have z1 := H5.out.z.c1
                    have z2 := H5.out.z.c2
                    have z3 := H5.out.z.c3
                    have fr0 := H5.out.r.fz 0
                    have fr1 := H5.out.r.fz 1
                    have fr2 := H5.out.r.fz 2
                    have fr3 := H5.out.r.fz 3
                    have a0 := H5A.out.c0
                    have a1 := H5A.out.c1
                    have a2 := H5A.out.c2
                    have a3 := H5A.out.c3
                    have b0 := H5B.out.c0
                    have b1 := H5B.out.c1
                    have b2 := H5B.out.c2
                    have b3 := H5B.out.c3
                    by_cases c1 : a.lvl < bindS t.op
                    · by_cases c2 : b.lvl ≤ bindS t.op
                      · by_cases c3 : a.deep < b.deep
                        · have hA : partE (bindS t.op) a = ([40, 32] ++ textE a ++ [32, 41]) := by unfold partE; rw [if_pos c1]; simp
                          have hB : partE (bindS t.op + 1) b = ([40, 32] ++ textE b ++ [32, 41]) := by unfold partE; rw [if_pos (by omega)]; simp
                          have hmx : max a.deep b.deep = b.deep := by omega
                          have EV0 : Hid (partV p2.length (.bin t.op a b) = .agg #[.int .i64 (p2.length : Int), .string (strOf (([40, 32] ++ textE a ++ [32, 41]) ++ [32] ++ wordS t.tok ++ [32] ++ ([40, 32] ++ textE b ++ [32, 41]))), .int .i64 (bindS t.op : Nat), .int .i64 ((b.deep : Nat) + 1 : Int)]) := Lib.hid (by rw [HWT.out, ← hmx]; exact part_bin HX.out.ok hA hB)
                          have c1i : (a.lvl : Int) < ((bindS t.op : Nat) : Int) := by omega
                          have c2i : (b.lvl : Int) ≤ ((bindS t.op : Nat) : Int) := by omega
                          have c3i : (a.deep : Int) < (b.deep : Int) := by omega
                          obtain ⟨X1, hX1⟩ : ∃ x, x = [40, 32] ++ (textE a) := ⟨_, rfl⟩
                          have hl1 : X1.length = ([40, 32] : List UInt8).length + ((textE a) : List UInt8).length := by rw [hX1, List.length_append]
                          have s1 : ∀ W, (Op.stringOp .add ⟨#[40, 32]⟩ (strOf (textE a))).run Tryz.prog W = .ok (.string (strOf X1)) W := fun W => by rw [hX1]; exact cat_run Tryz.prog [40, 32] (textE a) (by simp only [List.length_cons, List.length_nil] at *; omega) W
                          obtain ⟨X2, hX2⟩ : ∃ x, x = X1 ++ [32, 41] := ⟨_, rfl⟩
                          have hl2 : X2.length = (X1 : List UInt8).length + ([32, 41] : List UInt8).length := by rw [hX2, List.length_append]
                          have s2 : ∀ W, (Op.stringOp .add (strOf X1) ⟨#[32, 41]⟩).run Tryz.prog W = .ok (.string (strOf X2)) W := fun W => by rw [hX2]; exact cat_run Tryz.prog X1 [32, 41] (by simp only [List.length_cons, List.length_nil] at *; omega) W
                          obtain ⟨X3, hX3⟩ : ∃ x, x = [40, 32] ++ (textE b) := ⟨_, rfl⟩
                          have hl3 : X3.length = ([40, 32] : List UInt8).length + ((textE b) : List UInt8).length := by rw [hX3, List.length_append]
                          have s3 : ∀ W, (Op.stringOp .add ⟨#[40, 32]⟩ (strOf (textE b))).run Tryz.prog W = .ok (.string (strOf X3)) W := fun W => by rw [hX3]; exact cat_run Tryz.prog [40, 32] (textE b) (by simp only [List.length_cons, List.length_nil] at *; omega) W
                          obtain ⟨X4, hX4⟩ : ∃ x, x = X3 ++ [32, 41] := ⟨_, rfl⟩
                          have hl4 : X4.length = (X3 : List UInt8).length + ([32, 41] : List UInt8).length := by rw [hX4, List.length_append]
                          have s4 : ∀ W, (Op.stringOp .add (strOf X3) ⟨#[32, 41]⟩).run Tryz.prog W = .ok (.string (strOf X4)) W := fun W => by rw [hX4]; exact cat_run Tryz.prog X3 [32, 41] (by simp only [List.length_cons, List.length_nil] at *; omega) W
                          obtain ⟨X5, hX5⟩ : ∃ x, x = X2 ++ [32] := ⟨_, rfl⟩
                          have hl5 : X5.length = (X2 : List UInt8).length + ([32] : List UInt8).length := by rw [hX5, List.length_append]
                          have s5 : ∀ W, (Op.stringOp .add (strOf X2) ⟨#[32]⟩).run Tryz.prog W = .ok (.string (strOf X5)) W := fun W => by rw [hX5]; exact cat_run Tryz.prog X2 [32] (by simp only [List.length_cons, List.length_nil] at *; omega) W
                          obtain ⟨X6, hX6⟩ : ∃ x, x = X5 ++ (wordS t.tok) := ⟨_, rfl⟩
                          have hl6 : X6.length = (X5 : List UInt8).length + ((wordS t.tok) : List UInt8).length := by rw [hX6, List.length_append]
                          have s6 : ∀ W, (Op.stringOp .add (strOf X5) (strOf (wordS t.tok))).run Tryz.prog W = .ok (.string (strOf X6)) W := fun W => by rw [hX6]; exact cat_run Tryz.prog X5 (wordS t.tok) (by simp only [List.length_cons, List.length_nil] at *; omega) W
                          obtain ⟨X7, hX7⟩ : ∃ x, x = X6 ++ [32] := ⟨_, rfl⟩
                          have hl7 : X7.length = (X6 : List UInt8).length + ([32] : List UInt8).length := by rw [hX7, List.length_append]
                          have s7 : ∀ W, (Op.stringOp .add (strOf X6) ⟨#[32]⟩).run Tryz.prog W = .ok (.string (strOf X7)) W := fun W => by rw [hX7]; exact cat_run Tryz.prog X6 [32] (by simp only [List.length_cons, List.length_nil] at *; omega) W
                          obtain ⟨X8, hX8⟩ : ∃ x, x = X7 ++ X4 := ⟨_, rfl⟩
                          have hl8 : X8.length = (X7 : List UInt8).length + (X4 : List UInt8).length := by rw [hX8, List.length_append]
                          have s8 : ∀ W, (Op.stringOp .add (strOf X7) (strOf X4)).run Tryz.prog W = .ok (.string (strOf X8)) W := fun W => by rw [hX8]; exact cat_run Tryz.prog X7 X4 (by simp only [List.length_cons, List.length_nil] at *; omega) W
                          have EV : Hid (partV p2.length (.bin t.op a b) = .agg #[.int .i64 (p2.length : Int), .string (strOf X8), .int .i64 (bindS t.op : Nat), .int .i64 ((b.deep : Nat) + 1 : Int)]) := Lib.hid (by rw [EV0.out, hX8, hX7, hX6, hX5, hX4, hX3, hX2, hX1])
                          clear hA hB hmx c1 c2 c3 EV0 hX1 hl1 hX2 hl2 hX3 hl3 hX4 hl4 hX5 hl5 hX6 hl6 hX7 hl7 hX8 hl8
                          go_wp2
                          exact bodyPost_ret (last_ret H5.out.r.put rfl rfl) rfl ⟨put_kept H5.out.kept H5.out.n0, .inl ⟨_, _, HX.out, by rw [EV.out]; rfl⟩⟩
                        · have hA : partE (bindS t.op) a = ([40, 32] ++ textE a ++ [32, 41]) := by unfold partE; rw [if_pos c1]; simp
                          have hB : partE (bindS t.op + 1) b = ([40, 32] ++ textE b ++ [32, 41]) := by unfold partE; rw [if_pos (by omega)]; simp
                          have hmx : max a.deep b.deep = a.deep := by omega
                          have EV0 : Hid (partV p2.length (.bin t.op a b) = .agg #[.int .i64 (p2.length : Int), .string (strOf (([40, 32] ++ textE a ++ [32, 41]) ++ [32] ++ wordS t.tok ++ [32] ++ ([40, 32] ++ textE b ++ [32, 41]))), .int .i64 (bindS t.op : Nat), .int .i64 ((a.deep : Nat) + 1 : Int)]) := Lib.hid (by rw [HWT.out, ← hmx]; exact part_bin HX.out.ok hA hB)
                          have c1i : (a.lvl : Int) < ((bindS t.op : Nat) : Int) := by omega
                          have c2i : (b.lvl : Int) ≤ ((bindS t.op : Nat) : Int) := by omega
                          have c3i : ¬ (a.deep : Int) < (b.deep : Int) := by omega
                          obtain ⟨X1, hX1⟩ : ∃ x, x = [40, 32] ++ (textE a) := ⟨_, rfl⟩
                          have hl1 : X1.length = ([40, 32] : List UInt8).length + ((textE a) : List UInt8).length := by rw [hX1, List.length_append]
                          have s1 : ∀ W, (Op.stringOp .add ⟨#[40, 32]⟩ (strOf (textE a))).run Tryz.prog W = .ok (.string (strOf X1)) W := fun W => by rw [hX1]; exact cat_run Tryz.prog [40, 32] (textE a) (by simp only [List.length_cons, List.length_nil] at *; omega) W
                          obtain ⟨X2, hX2⟩ : ∃ x, x = X1 ++ [32, 41] := ⟨_, rfl⟩
                          have hl2 : X2.length = (X1 : List UInt8).length + ([32, 41] : List UInt8).length := by rw [hX2, List.length_append]
                          have s2 : ∀ W, (Op.stringOp .add (strOf X1) ⟨#[32, 41]⟩).run Tryz.prog W = .ok (.string (strOf X2)) W := fun W => by rw [hX2]; exact cat_run Tryz.prog X1 [32, 41] (by simp only [List.length_cons, List.length_nil] at *; omega) W
                          obtain ⟨X3, hX3⟩ : ∃ x, x = [40, 32] ++ (textE b) := ⟨_, rfl⟩
                          have hl3 : X3.length = ([40, 32] : List UInt8).length + ((textE b) : List UInt8).length := by rw [hX3, List.length_append]
                          have s3 : ∀ W, (Op.stringOp .add ⟨#[40, 32]⟩ (strOf (textE b))).run Tryz.prog W = .ok (.string (strOf X3)) W := fun W => by rw [hX3]; exact cat_run Tryz.prog [40, 32] (textE b) (by simp only [List.length_cons, List.length_nil] at *; omega) W
                          obtain ⟨X4, hX4⟩ : ∃ x, x = X3 ++ [32, 41] := ⟨_, rfl⟩
                          have hl4 : X4.length = (X3 : List UInt8).length + ([32, 41] : List UInt8).length := by rw [hX4, List.length_append]
                          have s4 : ∀ W, (Op.stringOp .add (strOf X3) ⟨#[32, 41]⟩).run Tryz.prog W = .ok (.string (strOf X4)) W := fun W => by rw [hX4]; exact cat_run Tryz.prog X3 [32, 41] (by simp only [List.length_cons, List.length_nil] at *; omega) W
                          obtain ⟨X5, hX5⟩ : ∃ x, x = X2 ++ [32] := ⟨_, rfl⟩
                          have hl5 : X5.length = (X2 : List UInt8).length + ([32] : List UInt8).length := by rw [hX5, List.length_append]
                          have s5 : ∀ W, (Op.stringOp .add (strOf X2) ⟨#[32]⟩).run Tryz.prog W = .ok (.string (strOf X5)) W := fun W => by rw [hX5]; exact cat_run Tryz.prog X2 [32] (by simp only [List.length_cons, List.length_nil] at *; omega) W
                          obtain ⟨X6, hX6⟩ : ∃ x, x = X5 ++ (wordS t.tok) := ⟨_, rfl⟩
                          have hl6 : X6.length = (X5 : List UInt8).length + ((wordS t.tok) : List UInt8).length := by rw [hX6, List.length_append]
                          have s6 : ∀ W, (Op.stringOp .add (strOf X5) (strOf (wordS t.tok))).run Tryz.prog W = .ok (.string (strOf X6)) W := fun W => by rw [hX6]; exact cat_run Tryz.prog X5 (wordS t.tok) (by simp only [List.length_cons, List.length_nil] at *; omega) W
                          obtain ⟨X7, hX7⟩ : ∃ x, x = X6 ++ [32] := ⟨_, rfl⟩
                          have hl7 : X7.length = (X6 : List UInt8).length + ([32] : List UInt8).length := by rw [hX7, List.length_append]
                          have s7 : ∀ W, (Op.stringOp .add (strOf X6) ⟨#[32]⟩).run Tryz.prog W = .ok (.string (strOf X7)) W := fun W => by rw [hX7]; exact cat_run Tryz.prog X6 [32] (by simp only [List.length_cons, List.length_nil] at *; omega) W
                          obtain ⟨X8, hX8⟩ : ∃ x, x = X7 ++ X4 := ⟨_, rfl⟩
                          have hl8 : X8.length = (X7 : List UInt8).length + (X4 : List UInt8).length := by rw [hX8, List.length_append]
                          have s8 : ∀ W, (Op.stringOp .add (strOf X7) (strOf X4)).run Tryz.prog W = .ok (.string (strOf X8)) W := fun W => by rw [hX8]; exact cat_run Tryz.prog X7 X4 (by simp only [List.length_cons, List.length_nil] at *; omega) W
                          have EV : Hid (partV p2.length (.bin t.op a b) = .agg #[.int .i64 (p2.length : Int), .string (strOf X8), .int .i64 (bindS t.op : Nat), .int .i64 ((a.deep : Nat) + 1 : Int)]) := Lib.hid (by rw [EV0.out, hX8, hX7, hX6, hX5, hX4, hX3, hX2, hX1])
                          clear hA hB hmx c1 c2 c3 EV0 hX1 hl1 hX2 hl2 hX3 hl3 hX4 hl4 hX5 hl5 hX6 hl6 hX7 hl7 hX8 hl8
                          go_wp2
                          exact bodyPost_ret (last_ret H5.out.r.put rfl rfl) rfl ⟨put_kept H5.out.kept H5.out.n0, .inl ⟨_, _, HX.out, by rw [EV.out]; rfl⟩⟩
                      · by_cases c3 : a.deep < b.deep
                        · have hA : partE (bindS t.op) a = ([40, 32] ++ textE a ++ [32, 41]) := by unfold partE; rw [if_pos c1]; simp
                          have hB : partE (bindS t.op + 1) b = textE b := by unfold partE; rw [if_neg (by omega)]
                          have hmx : max a.deep b.deep = b.deep := by omega
                          have EV0 : Hid (partV p2.length (.bin t.op a b) = .agg #[.int .i64 (p2.length : Int), .string (strOf (([40, 32] ++ textE a ++ [32, 41]) ++ [32] ++ wordS t.tok ++ [32] ++ textE b)), .int .i64 (bindS t.op : Nat), .int .i64 ((b.deep : Nat) + 1 : Int)]) := Lib.hid (by rw [HWT.out, ← hmx]; exact part_bin HX.out.ok hA hB)
                          have c1i : (a.lvl : Int) < ((bindS t.op : Nat) : Int) := by omega
                          have c2i : ¬ (b.lvl : Int) ≤ ((bindS t.op : Nat) : Int) := by omega
                          have c3i : (a.deep : Int) < (b.deep : Int) := by omega
                          obtain ⟨X1, hX1⟩ : ∃ x, x = [40, 32] ++ (textE a) := ⟨_, rfl⟩
                          have hl1 : X1.length = ([40, 32] : List UInt8).length + ((textE a) : List UInt8).length := by rw [hX1, List.length_append]
                          have s1 : ∀ W, (Op.stringOp .add ⟨#[40, 32]⟩ (strOf (textE a))).run Tryz.prog W = .ok (.string (strOf X1)) W := fun W => by rw [hX1]; exact cat_run Tryz.prog [40, 32] (textE a) (by simp only [List.length_cons, List.length_nil] at *; omega) W
                          obtain ⟨X2, hX2⟩ : ∃ x, x = X1 ++ [32, 41] := ⟨_, rfl⟩
                          have hl2 : X2.length = (X1 : List UInt8).length + ([32, 41] : List UInt8).length := by rw [hX2, List.length_append]
                          have s2 : ∀ W, (Op.stringOp .add (strOf X1) ⟨#[32, 41]⟩).run Tryz.prog W = .ok (.string (strOf X2)) W := fun W => by rw [hX2]; exact cat_run Tryz.prog X1 [32, 41] (by simp only [List.length_cons, List.length_nil] at *; omega) W
                          obtain ⟨X3, hX3⟩ : ∃ x, x = X2 ++ [32] := ⟨_, rfl⟩
                          have hl3 : X3.length = (X2 : List UInt8).length + ([32] : List UInt8).length := by rw [hX3, List.length_append]
                          have s3 : ∀ W, (Op.stringOp .add (strOf X2) ⟨#[32]⟩).run Tryz.prog W = .ok (.string (strOf X3)) W := fun W => by rw [hX3]; exact cat_run Tryz.prog X2 [32] (by simp only [List.length_cons, List.length_nil] at *; omega) W
                          obtain ⟨X4, hX4⟩ : ∃ x, x = X3 ++ (wordS t.tok) := ⟨_, rfl⟩
                          have hl4 : X4.length = (X3 : List UInt8).length + ((wordS t.tok) : List UInt8).length := by rw [hX4, List.length_append]
                          have s4 : ∀ W, (Op.stringOp .add (strOf X3) (strOf (wordS t.tok))).run Tryz.prog W = .ok (.string (strOf X4)) W := fun W => by rw [hX4]; exact cat_run Tryz.prog X3 (wordS t.tok) (by simp only [List.length_cons, List.length_nil] at *; omega) W
                          obtain ⟨X5, hX5⟩ : ∃ x, x = X4 ++ [32] := ⟨_, rfl⟩
                          have hl5 : X5.length = (X4 : List UInt8).length + ([32] : List UInt8).length := by rw [hX5, List.length_append]
                          have s5 : ∀ W, (Op.stringOp .add (strOf X4) ⟨#[32]⟩).run Tryz.prog W = .ok (.string (strOf X5)) W := fun W => by rw [hX5]; exact cat_run Tryz.prog X4 [32] (by simp only [List.length_cons, List.length_nil] at *; omega) W
                          obtain ⟨X6, hX6⟩ : ∃ x, x = X5 ++ (textE b) := ⟨_, rfl⟩
                          have hl6 : X6.length = (X5 : List UInt8).length + ((textE b) : List UInt8).length := by rw [hX6, List.length_append]
                          have s6 : ∀ W, (Op.stringOp .add (strOf X5) (strOf (textE b))).run Tryz.prog W = .ok (.string (strOf X6)) W := fun W => by rw [hX6]; exact cat_run Tryz.prog X5 (textE b) (by simp only [List.length_cons, List.length_nil] at *; omega) W
                          have EV : Hid (partV p2.length (.bin t.op a b) = .agg #[.int .i64 (p2.length : Int), .string (strOf X6), .int .i64 (bindS t.op : Nat), .int .i64 ((b.deep : Nat) + 1 : Int)]) := Lib.hid (by rw [EV0.out, hX6, hX5, hX4, hX3, hX2, hX1])
                          clear hA hB hmx c1 c2 c3 EV0 hX1 hl1 hX2 hl2 hX3 hl3 hX4 hl4 hX5 hl5 hX6 hl6
                          go_wp2
                          exact bodyPost_ret (last_ret H5.out.r.put rfl rfl) rfl ⟨put_kept H5.out.kept H5.out.n0, .inl ⟨_, _, HX.out, by rw [EV.out]; rfl⟩⟩
                        · have hA : partE (bindS t.op) a = ([40, 32] ++ textE a ++ [32, 41]) := by unfold partE; rw [if_pos c1]; simp
                          have hB : partE (bindS t.op + 1) b = textE b := by unfold partE; rw [if_neg (by omega)]
                          have hmx : max a.deep b.deep = a.deep := by omega
                          have EV0 : Hid (partV p2.length (.bin t.op a b) = .agg #[.int .i64 (p2.length : Int), .string (strOf (([40, 32] ++ textE a ++ [32, 41]) ++ [32] ++ wordS t.tok ++ [32] ++ textE b)), .int .i64 (bindS t.op : Nat), .int .i64 ((a.deep : Nat) + 1 : Int)]) := Lib.hid (by rw [HWT.out, ← hmx]; exact part_bin HX.out.ok hA hB)
                          have c1i : (a.lvl : Int) < ((bindS t.op : Nat) : Int) := by omega
                          have c2i : ¬ (b.lvl : Int) ≤ ((bindS t.op : Nat) : Int) := by omega
                          have c3i : ¬ (a.deep : Int) < (b.deep : Int) := by omega
                          obtain ⟨X1, hX1⟩ : ∃ x, x = [40, 32] ++ (textE a) := ⟨_, rfl⟩
                          have hl1 : X1.length = ([40, 32] : List UInt8).length + ((textE a) : List UInt8).length := by rw [hX1, List.length_append]
                          have s1 : ∀ W, (Op.stringOp .add ⟨#[40, 32]⟩ (strOf (textE a))).run Tryz.prog W = .ok (.string (strOf X1)) W := fun W => by rw [hX1]; exact cat_run Tryz.prog [40, 32] (textE a) (by simp only [List.length_cons, List.length_nil] at *; omega) W
                          obtain ⟨X2, hX2⟩ : ∃ x, x = X1 ++ [32, 41] := ⟨_, rfl⟩
                          have hl2 : X2.length = (X1 : List UInt8).length + ([32, 41] : List UInt8).length := by rw [hX2, List.length_append]
                          have s2 : ∀ W, (Op.stringOp .add (strOf X1) ⟨#[32, 41]⟩).run Tryz.prog W = .ok (.string (strOf X2)) W := fun W => by rw [hX2]; exact cat_run Tryz.prog X1 [32, 41] (by simp only [List.length_cons, List.length_nil] at *; omega) W
                          obtain ⟨X3, hX3⟩ : ∃ x, x = X2 ++ [32] := ⟨_, rfl⟩
                          have hl3 : X3.length = (X2 : List UInt8).length + ([32] : List UInt8).length := by rw [hX3, List.length_append]
                          have s3 : ∀ W, (Op.stringOp .add (strOf X2) ⟨#[32]⟩).run Tryz.prog W = .ok (.string (strOf X3)) W := fun W => by rw [hX3]; exact cat_run Tryz.prog X2 [32] (by simp only [List.length_cons, List.length_nil] at *; omega) W
                          obtain ⟨X4, hX4⟩ : ∃ x, x = X3 ++ (wordS t.tok) := ⟨_, rfl⟩
                          have hl4 : X4.length = (X3 : List UInt8).length + ((wordS t.tok) : List UInt8).length := by rw [hX4, List.length_append]
                          have s4 : ∀ W, (Op.stringOp .add (strOf X3) (strOf (wordS t.tok))).run Tryz.prog W = .ok (.string (strOf X4)) W := fun W => by rw [hX4]; exact cat_run Tryz.prog X3 (wordS t.tok) (by simp only [List.length_cons, List.length_nil] at *; omega) W
                          obtain ⟨X5, hX5⟩ : ∃ x, x = X4 ++ [32] := ⟨_, rfl⟩
                          have hl5 : X5.length = (X4 : List UInt8).length + ([32] : List UInt8).length := by rw [hX5, List.length_append]
                          have s5 : ∀ W, (Op.stringOp .add (strOf X4) ⟨#[32]⟩).run Tryz.prog W = .ok (.string (strOf X5)) W := fun W => by rw [hX5]; exact cat_run Tryz.prog X4 [32] (by simp only [List.length_cons, List.length_nil] at *; omega) W
                          obtain ⟨X6, hX6⟩ : ∃ x, x = X5 ++ (textE b) := ⟨_, rfl⟩
                          have hl6 : X6.length = (X5 : List UInt8).length + ((textE b) : List UInt8).length := by rw [hX6, List.length_append]
                          have s6 : ∀ W, (Op.stringOp .add (strOf X5) (strOf (textE b))).run Tryz.prog W = .ok (.string (strOf X6)) W := fun W => by rw [hX6]; exact cat_run Tryz.prog X5 (textE b) (by simp only [List.length_cons, List.length_nil] at *; omega) W
                          have EV : Hid (partV p2.length (.bin t.op a b) = .agg #[.int .i64 (p2.length : Int), .string (strOf X6), .int .i64 (bindS t.op : Nat), .int .i64 ((a.deep : Nat) + 1 : Int)]) := Lib.hid (by rw [EV0.out, hX6, hX5, hX4, hX3, hX2, hX1])
                          clear hA hB hmx c1 c2 c3 EV0 hX1 hl1 hX2 hl2 hX3 hl3 hX4 hl4 hX5 hl5 hX6 hl6
                          go_wp2
                          exact bodyPost_ret (last_ret H5.out.r.put rfl rfl) rfl ⟨put_kept H5.out.kept H5.out.n0, .inl ⟨_, _, HX.out, by rw [EV.out]; rfl⟩⟩
                    · by_cases c2 : b.lvl ≤ bindS t.op
                      · by_cases c3 : a.deep < b.deep
                        · have hA : partE (bindS t.op) a = textE a := by unfold partE; rw [if_neg c1]
                          have hB : partE (bindS t.op + 1) b = ([40, 32] ++ textE b ++ [32, 41]) := by unfold partE; rw [if_pos (by omega)]; simp
                          have hmx : max a.deep b.deep = b.deep := by omega
                          have EV0 : Hid (partV p2.length (.bin t.op a b) = .agg #[.int .i64 (p2.length : Int), .string (strOf (textE a ++ [32] ++ wordS t.tok ++ [32] ++ ([40, 32] ++ textE b ++ [32, 41]))), .int .i64 (bindS t.op : Nat), .int .i64 ((b.deep : Nat) + 1 : Int)]) := Lib.hid (by rw [HWT.out, ← hmx]; exact part_bin HX.out.ok hA hB)
                          have c1i : ¬ (a.lvl : Int) < ((bindS t.op : Nat) : Int) := by omega
                          have c2i : (b.lvl : Int) ≤ ((bindS t.op : Nat) : Int) := by omega
                          have c3i : (a.deep : Int) < (b.deep : Int) := by omega
                          obtain ⟨X1, hX1⟩ : ∃ x, x = [40, 32] ++ (textE b) := ⟨_, rfl⟩
                          have hl1 : X1.length = ([40, 32] : List UInt8).length + ((textE b) : List UInt8).length := by rw [hX1, List.length_append]
                          have s1 : ∀ W, (Op.stringOp .add ⟨#[40, 32]⟩ (strOf (textE b))).run Tryz.prog W = .ok (.string (strOf X1)) W := fun W => by rw [hX1]; exact cat_run Tryz.prog [40, 32] (textE b) (by simp only [List.length_cons, List.length_nil] at *; omega) W
                          obtain ⟨X2, hX2⟩ : ∃ x, x = X1 ++ [32, 41] := ⟨_, rfl⟩
                          have hl2 : X2.length = (X1 : List UInt8).length + ([32, 41] : List UInt8).length := by rw [hX2, List.length_append]
                          have s2 : ∀ W, (Op.stringOp .add (strOf X1) ⟨#[32, 41]⟩).run Tryz.prog W = .ok (.string (strOf X2)) W := fun W => by rw [hX2]; exact cat_run Tryz.prog X1 [32, 41] (by simp only [List.length_cons, List.length_nil] at *; omega) W
                          obtain ⟨X3, hX3⟩ : ∃ x, x = (textE a) ++ [32] := ⟨_, rfl⟩
                          have hl3 : X3.length = ((textE a) : List UInt8).length + ([32] : List UInt8).length := by rw [hX3, List.length_append]
                          have s3 : ∀ W, (Op.stringOp .add (strOf (textE a)) ⟨#[32]⟩).run Tryz.prog W = .ok (.string (strOf X3)) W := fun W => by rw [hX3]; exact cat_run Tryz.prog (textE a) [32] (by simp only [List.length_cons, List.length_nil] at *; omega) W
                          obtain ⟨X4, hX4⟩ : ∃ x, x = X3 ++ (wordS t.tok) := ⟨_, rfl⟩
                          have hl4 : X4.length = (X3 : List UInt8).length + ((wordS t.tok) : List UInt8).length := by rw [hX4, List.length_append]
                          have s4 : ∀ W, (Op.stringOp .add (strOf X3) (strOf (wordS t.tok))).run Tryz.prog W = .ok (.string (strOf X4)) W := fun W => by rw [hX4]; exact cat_run Tryz.prog X3 (wordS t.tok) (by simp only [List.length_cons, List.length_nil] at *; omega) W
                          obtain ⟨X5, hX5⟩ : ∃ x, x = X4 ++ [32] := ⟨_, rfl⟩
                          have hl5 : X5.length = (X4 : List UInt8).length + ([32] : List UInt8).length := by rw [hX5, List.length_append]
                          have s5 : ∀ W, (Op.stringOp .add (strOf X4) ⟨#[32]⟩).run Tryz.prog W = .ok (.string (strOf X5)) W := fun W => by rw [hX5]; exact cat_run Tryz.prog X4 [32] (by simp only [List.length_cons, List.length_nil] at *; omega) W
                          obtain ⟨X6, hX6⟩ : ∃ x, x = X5 ++ X2 := ⟨_, rfl⟩
                          have hl6 : X6.length = (X5 : List UInt8).length + (X2 : List UInt8).length := by rw [hX6, List.length_append]
                          have s6 : ∀ W, (Op.stringOp .add (strOf X5) (strOf X2)).run Tryz.prog W = .ok (.string (strOf X6)) W := fun W => by rw [hX6]; exact cat_run Tryz.prog X5 X2 (by simp only [List.length_cons, List.length_nil] at *; omega) W
                          have EV : Hid (partV p2.length (.bin t.op a b) = .agg #[.int .i64 (p2.length : Int), .string (strOf X6), .int .i64 (bindS t.op : Nat), .int .i64 ((b.deep : Nat) + 1 : Int)]) := Lib.hid (by rw [EV0.out, hX6, hX5, hX4, hX3, hX2, hX1])
                          clear hA hB hmx c1 c2 c3 EV0 hX1 hl1 hX2 hl2 hX3 hl3 hX4 hl4 hX5 hl5 hX6 hl6
                          go_wp2
                          exact bodyPost_ret (last_ret H5.out.r.put rfl rfl) rfl ⟨put_kept H5.out.kept H5.out.n0, .inl ⟨_, _, HX.out, by rw [EV.out]; rfl⟩⟩
                        · have hA : partE (bindS t.op) a = textE a := by unfold partE; rw [if_neg c1]
                          have hB : partE (bindS t.op + 1) b = ([40, 32] ++ textE b ++ [32, 41]) := by unfold partE; rw [if_pos (by omega)]; simp
                          have hmx : max a.deep b.deep = a.deep := by omega
                          have EV0 : Hid (partV p2.length (.bin t.op a b) = .agg #[.int .i64 (p2.length : Int), .string (strOf (textE a ++ [32] ++ wordS t.tok ++ [32] ++ ([40, 32] ++ textE b ++ [32, 41]))), .int .i64 (bindS t.op : Nat), .int .i64 ((a.deep : Nat) + 1 : Int)]) := Lib.hid (by rw [HWT.out, ← hmx]; exact part_bin HX.out.ok hA hB)
                          have c1i : ¬ (a.lvl : Int) < ((bindS t.op : Nat) : Int) := by omega
                          have c2i : (b.lvl : Int) ≤ ((bindS t.op : Nat) : Int) := by omega
                          have c3i : ¬ (a.deep : Int) < (b.deep : Int) := by omega
                          obtain ⟨X1, hX1⟩ : ∃ x, x = [40, 32] ++ (textE b) := ⟨_, rfl⟩
                          have hl1 : X1.length = ([40, 32] : List UInt8).length + ((textE b) : List UInt8).length := by rw [hX1, List.length_append]
                          have s1 : ∀ W, (Op.stringOp .add ⟨#[40, 32]⟩ (strOf (textE b))).run Tryz.prog W = .ok (.string (strOf X1)) W := fun W => by rw [hX1]; exact cat_run Tryz.prog [40, 32] (textE b) (by simp only [List.length_cons, List.length_nil] at *; omega) W
                          obtain ⟨X2, hX2⟩ : ∃ x, x = X1 ++ [32, 41] := ⟨_, rfl⟩
                          have hl2 : X2.length = (X1 : List UInt8).length + ([32, 41] : List UInt8).length := by rw [hX2, List.length_append]
                          have s2 : ∀ W, (Op.stringOp .add (strOf X1) ⟨#[32, 41]⟩).run Tryz.prog W = .ok (.string (strOf X2)) W := fun W => by rw [hX2]; exact cat_run Tryz.prog X1 [32, 41] (by simp only [List.length_cons, List.length_nil] at *; omega) W
                          obtain ⟨X3, hX3⟩ : ∃ x, x = (textE a) ++ [32] := ⟨_, rfl⟩
                          have hl3 : X3.length = ((textE a) : List UInt8).length + ([32] : List UInt8).length := by rw [hX3, List.length_append]
                          have s3 : ∀ W, (Op.stringOp .add (strOf (textE a)) ⟨#[32]⟩).run Tryz.prog W = .ok (.string (strOf X3)) W := fun W => by rw [hX3]; exact cat_run Tryz.prog (textE a) [32] (by simp only [List.length_cons, List.length_nil] at *; omega) W
                          obtain ⟨X4, hX4⟩ : ∃ x, x = X3 ++ (wordS t.tok) := ⟨_, rfl⟩
                          have hl4 : X4.length = (X3 : List UInt8).length + ((wordS t.tok) : List UInt8).length := by rw [hX4, List.length_append]
                          have s4 : ∀ W, (Op.stringOp .add (strOf X3) (strOf (wordS t.tok))).run Tryz.prog W = .ok (.string (strOf X4)) W := fun W => by rw [hX4]; exact cat_run Tryz.prog X3 (wordS t.tok) (by simp only [List.length_cons, List.length_nil] at *; omega) W
                          obtain ⟨X5, hX5⟩ : ∃ x, x = X4 ++ [32] := ⟨_, rfl⟩
                          have hl5 : X5.length = (X4 : List UInt8).length + ([32] : List UInt8).length := by rw [hX5, List.length_append]
                          have s5 : ∀ W, (Op.stringOp .add (strOf X4) ⟨#[32]⟩).run Tryz.prog W = .ok (.string (strOf X5)) W := fun W => by rw [hX5]; exact cat_run Tryz.prog X4 [32] (by simp only [List.length_cons, List.length_nil] at *; omega) W
                          obtain ⟨X6, hX6⟩ : ∃ x, x = X5 ++ X2 := ⟨_, rfl⟩
                          have hl6 : X6.length = (X5 : List UInt8).length + (X2 : List UInt8).length := by rw [hX6, List.length_append]
                          have s6 : ∀ W, (Op.stringOp .add (strOf X5) (strOf X2)).run Tryz.prog W = .ok (.string (strOf X6)) W := fun W => by rw [hX6]; exact cat_run Tryz.prog X5 X2 (by simp only [List.length_cons, List.length_nil] at *; omega) W
                          have EV : Hid (partV p2.length (.bin t.op a b) = .agg #[.int .i64 (p2.length : Int), .string (strOf X6), .int .i64 (bindS t.op : Nat), .int .i64 ((a.deep : Nat) + 1 : Int)]) := Lib.hid (by rw [EV0.out, hX6, hX5, hX4, hX3, hX2, hX1])
                          clear hA hB hmx c1 c2 c3 EV0 hX1 hl1 hX2 hl2 hX3 hl3 hX4 hl4 hX5 hl5 hX6 hl6
                          go_wp2
                          exact bodyPost_ret (last_ret H5.out.r.put rfl rfl) rfl ⟨put_kept H5.out.kept H5.out.n0, .inl ⟨_, _, HX.out, by rw [EV.out]; rfl⟩⟩
                      · by_cases c3 : a.deep < b.deep
                        · have hA : partE (bindS t.op) a = textE a := by unfold partE; rw [if_neg c1]
                          have hB : partE (bindS t.op + 1) b = textE b := by unfold partE; rw [if_neg (by omega)]
                          have hmx : max a.deep b.deep = b.deep := by omega
                          have EV0 : Hid (partV p2.length (.bin t.op a b) = .agg #[.int .i64 (p2.length : Int), .string (strOf (textE a ++ [32] ++ wordS t.tok ++ [32] ++ textE b)), .int .i64 (bindS t.op : Nat), .int .i64 ((b.deep : Nat) + 1 : Int)]) := Lib.hid (by rw [HWT.out, ← hmx]; exact part_bin HX.out.ok hA hB)
                          have c1i : ¬ (a.lvl : Int) < ((bindS t.op : Nat) : Int) := by omega
                          have c2i : ¬ (b.lvl : Int) ≤ ((bindS t.op : Nat) : Int) := by omega
                          have c3i : (a.deep : Int) < (b.deep : Int) := by omega
                          obtain ⟨X1, hX1⟩ : ∃ x, x = (textE a) ++ [32] := ⟨_, rfl⟩
                          have hl1 : X1.length = ((textE a) : List UInt8).length + ([32] : List UInt8).length := by rw [hX1, List.length_append]
                          have s1 : ∀ W, (Op.stringOp .add (strOf (textE a)) ⟨#[32]⟩).run Tryz.prog W = .ok (.string (strOf X1)) W := fun W => by rw [hX1]; exact cat_run Tryz.prog (textE a) [32] (by simp only [List.length_cons, List.length_nil] at *; omega) W
                          obtain ⟨X2, hX2⟩ : ∃ x, x = X1 ++ (wordS t.tok) := ⟨_, rfl⟩
                          have hl2 : X2.length = (X1 : List UInt8).length + ((wordS t.tok) : List UInt8).length := by rw [hX2, List.length_append]
                          have s2 : ∀ W, (Op.stringOp .add (strOf X1) (strOf (wordS t.tok))).run Tryz.prog W = .ok (.string (strOf X2)) W := fun W => by rw [hX2]; exact cat_run Tryz.prog X1 (wordS t.tok) (by simp only [List.length_cons, List.length_nil] at *; omega) W
                          obtain ⟨X3, hX3⟩ : ∃ x, x = X2 ++ [32] := ⟨_, rfl⟩
                          have hl3 : X3.length = (X2 : List UInt8).length + ([32] : List UInt8).length := by rw [hX3, List.length_append]
                          have s3 : ∀ W, (Op.stringOp .add (strOf X2) ⟨#[32]⟩).run Tryz.prog W = .ok (.string (strOf X3)) W := fun W => by rw [hX3]; exact cat_run Tryz.prog X2 [32] (by simp only [List.length_cons, List.length_nil] at *; omega) W
                          obtain ⟨X4, hX4⟩ : ∃ x, x = X3 ++ (textE b) := ⟨_, rfl⟩
                          have hl4 : X4.length = (X3 : List UInt8).length + ((textE b) : List UInt8).length := by rw [hX4, List.length_append]
                          have s4 : ∀ W, (Op.stringOp .add (strOf X3) (strOf (textE b))).run Tryz.prog W = .ok (.string (strOf X4)) W := fun W => by rw [hX4]; exact cat_run Tryz.prog X3 (textE b) (by simp only [List.length_cons, List.length_nil] at *; omega) W
                          have EV : Hid (partV p2.length (.bin t.op a b) = .agg #[.int .i64 (p2.length : Int), .string (strOf X4), .int .i64 (bindS t.op : Nat), .int .i64 ((b.deep : Nat) + 1 : Int)]) := Lib.hid (by rw [EV0.out, hX4, hX3, hX2, hX1])
                          clear hA hB hmx c1 c2 c3 EV0 hX1 hl1 hX2 hl2 hX3 hl3 hX4 hl4
                          go_wp2
                          exact bodyPost_ret (last_ret H5.out.r.put rfl rfl) rfl ⟨put_kept H5.out.kept H5.out.n0, .inl ⟨_, _, HX.out, by rw [EV.out]; rfl⟩⟩
                        · have hA : partE (bindS t.op) a = textE a := by unfold partE; rw [if_neg c1]
                          have hB : partE (bindS t.op + 1) b = textE b := by unfold partE; rw [if_neg (by omega)]
                          have hmx : max a.deep b.deep = a.deep := by omega
                          have EV0 : Hid (partV p2.length (.bin t.op a b) = .agg #[.int .i64 (p2.length : Int), .string (strOf (textE a ++ [32] ++ wordS t.tok ++ [32] ++ textE b)), .int .i64 (bindS t.op : Nat), .int .i64 ((a.deep : Nat) + 1 : Int)]) := Lib.hid (by rw [HWT.out, ← hmx]; exact part_bin HX.out.ok hA hB)
                          have c1i : ¬ (a.lvl : Int) < ((bindS t.op : Nat) : Int) := by omega
                          have c2i : ¬ (b.lvl : Int) ≤ ((bindS t.op : Nat) : Int) := by omega
                          have c3i : ¬ (a.deep : Int) < (b.deep : Int) := by omega
                          obtain ⟨X1, hX1⟩ : ∃ x, x = (textE a) ++ [32] := ⟨_, rfl⟩
                          have hl1 : X1.length = ((textE a) : List UInt8).length + ([32] : List UInt8).length := by rw [hX1, List.length_append]
                          have s1 : ∀ W, (Op.stringOp .add (strOf (textE a)) ⟨#[32]⟩).run Tryz.prog W = .ok (.string (strOf X1)) W := fun W => by rw [hX1]; exact cat_run Tryz.prog (textE a) [32] (by simp only [List.length_cons, List.length_nil] at *; omega) W
                          obtain ⟨X2, hX2⟩ : ∃ x, x = X1 ++ (wordS t.tok) := ⟨_, rfl⟩
                          have hl2 : X2.length = (X1 : List UInt8).length + ((wordS t.tok) : List UInt8).length := by rw [hX2, List.length_append]
                          have s2 : ∀ W, (Op.stringOp .add (strOf X1) (strOf (wordS t.tok))).run Tryz.prog W = .ok (.string (strOf X2)) W := fun W => by rw [hX2]; exact cat_run Tryz.prog X1 (wordS t.tok) (by simp only [List.length_cons, List.length_nil] at *; omega) W
                          obtain ⟨X3, hX3⟩ : ∃ x, x = X2 ++ [32] := ⟨_, rfl⟩
                          have hl3 : X3.length = (X2 : List UInt8).length + ([32] : List UInt8).length := by rw [hX3, List.length_append]
                          have s3 : ∀ W, (Op.stringOp .add (strOf X2) ⟨#[32]⟩).run Tryz.prog W = .ok (.string (strOf X3)) W := fun W => by rw [hX3]; exact cat_run Tryz.prog X2 [32] (by simp only [List.length_cons, List.length_nil] at *; omega) W
                          obtain ⟨X4, hX4⟩ : ∃ x, x = X3 ++ (textE b) := ⟨_, rfl⟩
                          have hl4 : X4.length = (X3 : List UInt8).length + ((textE b) : List UInt8).length := by rw [hX4, List.length_append]
                          have s4 : ∀ W, (Op.stringOp .add (strOf X3) (strOf (textE b))).run Tryz.prog W = .ok (.string (strOf X4)) W := fun W => by rw [hX4]; exact cat_run Tryz.prog X3 (textE b) (by simp only [List.length_cons, List.length_nil] at *; omega) W
                          have EV : Hid (partV p2.length (.bin t.op a b) = .agg #[.int .i64 (p2.length : Int), .string (strOf X4), .int .i64 (bindS t.op : Nat), .int .i64 ((a.deep : Nat) + 1 : Int)]) := Lib.hid (by rw [EV0.out, hX4, hX3, hX2, hX1])
                          clear hA hB hmx c1 c2 c3 EV0 hX1 hl1 hX2 hl2 hX3 hl3 hX4 hl4
                          go_wp2
                          exact bodyPost_ret (last_ret H5.out.r.put rfl rfl) rfl ⟨put_kept H5.out.kept H5.out.n0, .inl ⟨_, _, HX.out, by rw [EV.out]; rfl⟩⟩
                  · have HX : Hid (∀ p e, ¬ EndIs (Y ++ [t.tok]) p e) := Lib.hid (fun p e h => by
                      obtain ⟨a, b', q', _, h1, h2, _⟩ := HINV.out p e h
                      obtain ⟨rfl, rfl⟩ := HB1.out.unique h1
                      exact hno _ _ h2)
                    have H5 := Lib.hid (H4.out.later (Fr.of_alloc _ _ (Obj.cells #[.int .i64 0, .string ⟨#[]⟩, .int .i64 0, .int .i64 0] 91)))
                    rw [noneV_agg]
                    clear hno
                    have r0 := H5.out.r.c0
                    have r1 := H5.out.r.c1
                    have r2 := H5.out.r.c2
                    have r3 := H5.out.r.c3
                    have z0 := H5.out.z.c0
                    have z1 := H5.out.z.c1
                    have z2 := H5.out.z.c2
                    have z3 := H5.out.z.c3
                    have fr0 := H5.out.r.fz 0
                    have fr1 := H5.out.r.fz 1
                    have fr2 := H5.out.r.fz 2
                    have fr3 := H5.out.r.fz 3
                    go_wp2
                    exact bodyPost_ret (last_ret H5.out.r.put rfl rfl) rfl ⟨put_kept H5.out.kept H5.out.n0, .inr ⟨HX.out, rfl⟩⟩
                · have gu5 : (u.of == 5) = false := by simp [hu5]
                  have hnr : ¬ (u.op = 1 ∧ u.of = 5) := fun h => hu5 h.2
                  clear hu hu5
                  have HX : Hid (∀ p e, ¬ EndIs (Y ++ [t.tok]) p e) := Lib.hid (fun p e h => by
                    obtain ⟨a, b', q', _, h1, _, hr⟩ := HINV.out p e h
                    obtain ⟨rfl, rfl⟩ := HB1.out.unique h1
                    exact hnr (hru.1 (hr h5)))
                  clear hnr hru h5
                  go_wp2
                  exact bodyPost_ret (last_ret H3.out.r.put rfl rfl) rfl ⟨put_kept H3.out.kept H3.out.n0, .inr ⟨HX.out, rfl⟩⟩
              · have gu : (u.op == 1) = false := by simp [hu]
                have hnr : ¬ (u.op = 1 ∧ u.of = 5) := fun h => hu h.1
                clear hu
                have HX : Hid (∀ p e, ¬ EndIs (Y ++ [t.tok]) p e) := Lib.hid (fun p e h => by
                  obtain ⟨a, b', q', _, h1, _, hr⟩ := HINV.out p e h
                  obtain ⟨rfl, rfl⟩ := HB1.out.unique h1
                  exact hnr (hru.1 (hr h5)))
                clear hnr hru h5
                go_wp2
                exact bodyPost_ret (last_ret H3.out.r.put rfl rfl) rfl ⟨put_kept H3.out.kept H3.out.n0, .inr ⟨HX.out, rfl⟩⟩
            · have g5 : (t.op == 5) = false := by simp [h5]
              have HRO : Hid (t.op = 5 → ∃ r, b = .atom r ∧ r.of = 5) := Lib.hid (fun h => absurd h h5)
              go_wp2_with fail
              clear r0 r1 r2 r3 z0 z1 z2 z3 fr0 fr1 fr2 fr3 t0 t1 t2 b0 b1 b2 b3
              refine (HI.out p1.length _ (by omega) H3.out.kept).mono ?_
              rw [HTK1.out]
              rintro e w4 ⟨hk4, hpost⟩
              have H4 := Lib.hid (H3.out.later hk4)
              have H4B := Lib.hid (H3B.out.kept hk4)
              clear hk4 H3 H3B H3T
              rcases hpost with ⟨p2, a, ha1, rfl⟩ | ⟨hno, rfl⟩
              · have HX : Hid (EndIs (Y ++ [t.tok]) p2 (.bin t.op a b)) := Lib.hid (HBIN.out p1 p2 a b HB1.out ha1 HRO.out)
                have hpa : p2.length + a.post.length = p1.length := by have := congrArg List.length ha1.is; rw [List.length_append] at this; omega
                have hda := Ex.deep_le a
                have hta := text_bound a
                have H5 := Lib.hid (H4.out.later (Fr.of_alloc _ _ (Obj.cells #[.int .i64 (p2.length : Int), .string (strOf (textE a)), .int .i64 (a.lvl : Int), .int .i64 (a.deep : Int)] 91)))
                have H5B := Lib.hid (H4B.out.kept (Fr.of_alloc _ w4 (Obj.cells #[.int .i64 (p2.length : Int), .string (strOf (textE a)), .int .i64 (a.lvl : Int), .int .i64 (a.deep : Int)] 91)))
                have H5A := Lib.hid (four_new w4 (.int .i64 (p2.length : Int)) (.string (strOf (textE a))) (.int .i64 (a.lvl : Int)) (.int .i64 (a.deep : Int)) 91)
                unfold partV
                have r0 := H5.out.r.c0
                have r1 := H5.out.r.c1
                have r2 := H5.out.r.c2
                have r3 := H5.out.r.c3
                have z0 := H5.out.z.c0
                have z1 := H5.out.z.c1
                have z2 := H5.out.z.c2
                have z3 := H5.out.z.c3
                have fr0 := H5.out.r.fz 0
                have fr1 := H5.out.r.fz 1
                have fr2 := H5.out.r.fz 2
                have fr3 := H5.out.r.fz 3
                have a0 := H5A.out.c0
                have a1 := H5A.out.c1
                have a2 := H5A.out.c2
                have a3 := H5A.out.c3
                have b0 := H5B.out.c0
                have b1 := H5B.out.c1
                have b2 := H5B.out.c2
                have b3 := H5B.out.c3
                by_cases c1 : a.lvl < bindS t.op
                · by_cases c2 : b.lvl ≤ bindS t.op
                  · by_cases c3 : a.deep < b.deep
                    · have hA : partE (bindS t.op) a = ([40, 32] ++ textE a ++ [32, 41]) := by unfold partE; rw [if_pos c1]; simp
                      have hB : partE (bindS t.op + 1) b = ([40, 32] ++ textE b ++ [32, 41]) := by unfold partE; rw [if_pos (by omega)]; simp
                      have hmx : max a.deep b.deep = b.deep := by omega
                      have EV0 : Hid (partV p2.length (.bin t.op a b) = .agg #[.int .i64 (p2.length : Int), .string (strOf (([40, 32] ++ textE a ++ [32, 41]) ++ [32] ++ wordS t.tok ++ [32] ++ ([40, 32] ++ textE b ++ [32, 41]))), .int .i64 (bindS t.op : Nat), .int .i64 ((b.deep : Nat) + 1 : Int)]) := Lib.hid (by rw [HWT.out, ← hmx]; exact part_bin HX.out.ok hA hB)
                      have c1i : (a.lvl : Int) < ((bindS t.op : Nat) : Int) := by omega
                      have c2i : (b.lvl : Int) ≤ ((bindS t.op : Nat) : Int) := by omega
                      have c3i : (a.deep : Int) < (b.deep : Int) := by omega
                      obtain ⟨X1, hX1⟩ : ∃ x, x = [40, 32] ++ (textE a) := ⟨_, rfl⟩
                      have hl1 : X1.length = ([40, 32] : List UInt8).length + ((textE a) : List UInt8).length := by rw [hX1, List.length_append]
                      have s1 : ∀ W, (Op.stringOp .add ⟨#[40, 32]⟩ (strOf (textE a))).run Tryz.prog W = .ok (.string (strOf X1)) W := fun W => by rw [hX1]; exact cat_run Tryz.prog [40, 32] (textE a) (by simp only [List.length_cons, List.length_nil] at *; omega) W
                      obtain ⟨X2, hX2⟩ : ∃ x, x = X1 ++ [32, 41] := ⟨_, rfl⟩
                      have hl2 : X2.length = (X1 : List UInt8).length + ([32, 41] : List UInt8).length := by rw [hX2, List.length_append]
                      have s2 : ∀ W, (Op.stringOp .add (strOf X1) ⟨#[32, 41]⟩).run Tryz.prog W = .ok (.string (strOf X2)) W := fun W => by rw [hX2]; exact cat_run Tryz.prog X1 [32, 41] (by simp only [List.length_cons, List.length_nil] at *; omega) W
                      obtain ⟨X3, hX3⟩ : ∃ x, x = [40, 32] ++ (textE b) := ⟨_, rfl⟩
                      have hl3 : X3.length = ([40, 32] : List UInt8).length + ((textE b) : List UInt8).length := by rw [hX3, List.length_append]
                      have s3 : ∀ W, (Op.stringOp .add ⟨#[40, 32]⟩ (strOf (textE b))).run Tryz.prog W = .ok (.string (strOf X3)) W := fun W => by rw [hX3]; exact cat_run Tryz.prog [40, 32] (textE b) (by simp only [List.length_cons, List.length_nil] at *; omega) W
                      obtain ⟨X4, hX4⟩ : ∃ x, x = X3 ++ [32, 41] := ⟨_, rfl⟩
                      have hl4 : X4.length = (X3 : List UInt8).length + ([32, 41] : List UInt8).length := by rw [hX4, List.length_append]
                      have s4 : ∀ W, (Op.stringOp .add (strOf X3) ⟨#[32, 41]⟩).run Tryz.prog W = .ok (.string (strOf X4)) W := fun W => by rw [hX4]; exact cat_run Tryz.prog X3 [32, 41] (by simp only [List.length_cons, List.length_nil] at *; omega) W
                      obtain ⟨X5, hX5⟩ : ∃ x, x = X2 ++ [32] := ⟨_, rfl⟩
                      have hl5 : X5.length = (X2 : List UInt8).length + ([32] : List UInt8).length := by rw [hX5, List.length_append]
                      have s5 : ∀ W, (Op.stringOp .add (strOf X2) ⟨#[32]⟩).run Tryz.prog W = .ok (.string (strOf X5)) W := fun W => by rw [hX5]; exact cat_run Tryz.prog X2 [32] (by simp only [List.length_cons, List.length_nil] at *; omega) W
                      obtain ⟨X6, hX6⟩ : ∃ x, x = X5 ++ (wordS t.tok) := ⟨_, rfl⟩
                      have hl6 : X6.length = (X5 : List UInt8).length + ((wordS t.tok) : List UInt8).length := by rw [hX6, List.length_append]
                      have s6 : ∀ W, (Op.stringOp .add (strOf X5) (strOf (wordS t.tok))).run Tryz.prog W = .ok (.string (strOf X6)) W := fun W => by rw [hX6]; exact cat_run Tryz.prog X5 (wordS t.tok) (by simp only [List.length_cons, List.length_nil] at *; omega) W
                      obtain ⟨X7, hX7⟩ : ∃ x, x = X6 ++ [32] := ⟨_, rfl⟩
                      have hl7 : X7.length = (X6 : List UInt8).length + ([32] : List UInt8).length := by rw [hX7, List.length_append]
                      have s7 : ∀ W, (Op.stringOp .add (strOf X6) ⟨#[32]⟩).run Tryz.prog W = .ok (.string (strOf X7)) W := fun W => by rw [hX7]; exact cat_run Tryz.prog X6 [32] (by simp only [List.length_cons, List.length_nil] at *; omega) W
                      obtain ⟨X8, hX8⟩ : ∃ x, x = X7 ++ X4 := ⟨_, rfl⟩
                      have hl8 : X8.length = (X7 : List UInt8).length + (X4 : List UInt8).length := by rw [hX8, List.length_append]
                      have s8 : ∀ W, (Op.stringOp .add (strOf X7) (strOf X4)).run Tryz.prog W = .ok (.string (strOf X8)) W := fun W => by rw [hX8]; exact cat_run Tryz.prog X7 X4 (by simp only [List.length_cons, List.length_nil] at *; omega) W
                      have EV : Hid (partV p2.length (.bin t.op a b) = .agg #[.int .i64 (p2.length : Int), .string (strOf X8), .int .i64 (bindS t.op : Nat), .int .i64 ((b.deep : Nat) + 1 : Int)]) := Lib.hid (by rw [EV0.out, hX8, hX7, hX6, hX5, hX4, hX3, hX2, hX1])
                      clear hA hB hmx c1 c2 c3 EV0 hX1 hl1 hX2 hl2 hX3 hl3 hX4 hl4 hX5 hl5 hX6 hl6 hX7 hl7 hX8 hl8
                      go_wp2
                      exact bodyPost_ret (last_ret H5.out.r.put rfl rfl) rfl ⟨put_kept H5.out.kept H5.out.n0, .inl ⟨_, _, HX.out, by rw [EV.out]; rfl⟩⟩
                    · have hA : partE (bindS t.op) a = ([40, 32] ++ textE a ++ [32, 41]) := by unfold partE; rw [if_pos c1]; simp
                      have hB : partE (bindS t.op + 1) b = ([40, 32] ++ textE b ++ [32, 41]) := by unfold partE; rw [if_pos (by omega)]; simp
                      have hmx : max a.deep b.deep = a.deep := by omega
                      have EV0 : Hid (partV p2.length (.bin t.op a b) = .agg #[.int .i64 (p2.length : Int), .string (strOf (([40, 32] ++ textE a ++ [32, 41]) ++ [32] ++ wordS t.tok ++ [32] ++ ([40, 32] ++ textE b ++ [32, 41]))), .int .i64 (bindS t.op : Nat), .int .i64 ((a.deep : Nat) + 1 : Int)]) := Lib.hid (by rw [HWT.out, ← hmx]; exact part_bin HX.out.ok hA hB)
                      have c1i : (a.lvl : Int) < ((bindS t.op : Nat) : Int) := by omega
                      have c2i : (b.lvl : Int) ≤ ((bindS t.op : Nat) : Int) := by omega
                      have c3i : ¬ (a.deep : Int) < (b.deep : Int) := by omega
                      obtain ⟨X1, hX1⟩ : ∃ x, x = [40, 32] ++ (textE a) := ⟨_, rfl⟩
                      have hl1 : X1.length = ([40, 32] : List UInt8).length + ((textE a) : List UInt8).length := by rw [hX1, List.length_append]
                      have s1 : ∀ W, (Op.stringOp .add ⟨#[40, 32]⟩ (strOf (textE a))).run Tryz.prog W = .ok (.string (strOf X1)) W := fun W => by rw [hX1]; exact cat_run Tryz.prog [40, 32] (textE a) (by simp only [List.length_cons, List.length_nil] at *; omega) W
                      obtain ⟨X2, hX2⟩ : ∃ x, x = X1 ++ [32, 41] := ⟨_, rfl⟩
                      have hl2 : X2.length = (X1 : List UInt8).length + ([32, 41] : List UInt8).length := by rw [hX2, List.length_append]
                      have s2 : ∀ W, (Op.stringOp .add (strOf X1) ⟨#[32, 41]⟩).run Tryz.prog W = .ok (.string (strOf X2)) W := fun W => by rw [hX2]; exact cat_run Tryz.prog X1 [32, 41] (by simp only [List.length_cons, List.length_nil] at *; omega) W
                      obtain ⟨X3, hX3⟩ : ∃ x, x = [40, 32] ++ (textE b) := ⟨_, rfl⟩
                      have hl3 : X3.length = ([40, 32] : List UInt8).length + ((textE b) : List UInt8).length := by rw [hX3, List.length_append]
                      have s3 : ∀ W, (Op.stringOp .add ⟨#[40, 32]⟩ (strOf (textE b))).run Tryz.prog W = .ok (.string (strOf X3)) W := fun W => by rw [hX3]; exact cat_run Tryz.prog [40, 32] (textE b) (by simp only [List.length_cons, List.length_nil] at *; omega) W
                      obtain ⟨X4, hX4⟩ : ∃ x, x = X3 ++ [32, 41] := ⟨_, rfl⟩
                      have hl4 : X4.length = (X3 : List UInt8).length + ([32, 41] : List UInt8).length := by rw [hX4, List.length_append]
                      have s4 : ∀ W, (Op.stringOp .add (strOf X3) ⟨#[32, 41]⟩).run Tryz.prog W = .ok (.string (strOf X4)) W := fun W => by rw [hX4]; exact cat_run Tryz.prog X3 [32, 41] (by simp only [List.length_cons, List.length_nil] at *; omega) W
                      obtain ⟨X5, hX5⟩ : ∃ x, x = X2 ++ [32] := ⟨_, rfl⟩
                      have hl5 : X5.length = (X2 : List UInt8).length + ([32] : List UInt8).length := by rw [hX5, List.length_append]
                      have s5 : ∀ W, (Op.stringOp .add (strOf X2) ⟨#[32]⟩).run Tryz.prog W = .ok (.string (strOf X5)) W := fun W => by rw [hX5]; exact cat_run Tryz.prog X2 [32] (by simp only [List.length_cons, List.length_nil] at *; omega) W
                      obtain ⟨X6, hX6⟩ : ∃ x, x = X5 ++ (wordS t.tok) := ⟨_, rfl⟩
                      have hl6 : X6.length = (X5 : List UInt8).length + ((wordS t.tok) : List UInt8).length := by rw [hX6, List.length_append]
                      have s6 : ∀ W, (Op.stringOp .add (strOf X5) (strOf (wordS t.tok))).run Tryz.prog W = .ok (.string (strOf X6)) W := fun W => by rw [hX6]; exact cat_run Tryz.prog X5 (wordS t.tok) (by simp only [List.length_cons, List.length_nil] at *; omega) W
                      obtain ⟨X7, hX7⟩ : ∃ x, x = X6 ++ [32] := ⟨_, rfl⟩
                      have hl7 : X7.length = (X6 : List UInt8).length + ([32] : List UInt8).length := by rw [hX7, List.length_append]
                      have s7 : ∀ W, (Op.stringOp .add (strOf X6) ⟨#[32]⟩).run Tryz.prog W = .ok (.string (strOf X7)) W := fun W => by rw [hX7]; exact cat_run Tryz.prog X6 [32] (by simp only [List.length_cons, List.length_nil] at *; omega) W
                      obtain ⟨X8, hX8⟩ : ∃ x, x = X7 ++ X4 := ⟨_, rfl⟩
                      have hl8 : X8.length = (X7 : List UInt8).length + (X4 : List UInt8).length := by rw [hX8, List.length_append]
                      have s8 : ∀ W, (Op.stringOp .add (strOf X7) (strOf X4)).run Tryz.prog W = .ok (.string (strOf X8)) W := fun W => by rw [hX8]; exact cat_run Tryz.prog X7 X4 (by simp only [List.length_cons, List.length_nil] at *; omega) W
                      have EV : Hid (partV p2.length (.bin t.op a b) = .agg #[.int .i64 (p2.length : Int), .string (strOf X8), .int .i64 (bindS t.op : Nat), .int .i64 ((a.deep : Nat) + 1 : Int)]) := Lib.hid (by rw [EV0.out, hX8, hX7, hX6, hX5, hX4, hX3, hX2, hX1])
                      clear hA hB hmx c1 c2 c3 EV0 hX1 hl1 hX2 hl2 hX3 hl3 hX4 hl4 hX5 hl5 hX6 hl6 hX7 hl7 hX8 hl8
                      go_wp2
                      exact bodyPost_ret (last_ret H5.out.r.put rfl rfl) rfl ⟨put_kept H5.out.kept H5.out.n0, .inl ⟨_, _, HX.out, by rw [EV.out]; rfl⟩⟩
                  · by_cases c3 : a.deep < b.deep
                    · have hA : partE (bindS t.op) a = ([40, 32] ++ textE a ++ [32, 41]) := by unfold partE; rw [if_pos c1]; simp
                      have hB : partE (bindS t.op + 1) b = textE b := by unfold partE; rw [if_neg (by omega)]
                      have hmx : max a.deep b.deep = b.deep := by omega
                      have EV0 : Hid (partV p2.length (.bin t.op a b) = .agg #[.int .i64 (p2.length : Int), .string (strOf (([40, 32] ++ textE a ++ [32, 41]) ++ [32] ++ wordS t.tok ++ [32] ++ textE b)), .int .i64 (bindS t.op : Nat), .int .i64 ((b.deep : Nat) + 1 : Int)]) := Lib.hid (by rw [HWT.out, ← hmx]; exact part_bin HX.out.ok hA hB)
                      have c1i : (a.lvl : Int) < ((bindS t.op : Nat) : Int) := by omega
                      have c2i : ¬ (b.lvl : Int) ≤ ((bindS t.op : Nat) : Int) := by omega
                      have c3i : (a.deep : Int) < (b.deep : Int) := by omega
                      obtain ⟨X1, hX1⟩ : ∃ x, x = [40, 32] ++ (textE a) := ⟨_, rfl⟩
                      have hl1 : X1.length = ([40, 32] : List UInt8).length + ((textE a) : List UInt8).length := by rw [hX1, List.length_append]
                      have s1 : ∀ W, (Op.stringOp .add ⟨#[40, 32]⟩ (strOf (textE a))).run Tryz.prog W = .ok (.string (strOf X1)) W := fun W => by rw [hX1]; exact cat_run Tryz.prog [40, 32] (textE a) (by simp only [List.length_cons, List.length_nil] at *; omega) W
                      obtain ⟨X2, hX2⟩ : ∃ x, x = X1 ++ [32, 41] := ⟨_, rfl⟩
                      have hl2 : X2.length = (X1 : List UInt8).length + ([32, 41] : List UInt8).length := by rw [hX2, List.length_append]
                      have s2 : ∀ W, (Op.stringOp .add (strOf X1) ⟨#[32, 41]⟩).run Tryz.prog W = .ok (.string (strOf X2)) W := fun W => by rw [hX2]; exact cat_run Tryz.prog X1 [32, 41] (by simp only [List.length_cons, List.length_nil] at *; omega) W
                      obtain ⟨X3, hX3⟩ : ∃ x, x = X2 ++ [32] := ⟨_, rfl⟩
                      have hl3 : X3.length = (X2 : List UInt8).length + ([32] : List UInt8).length := by rw [hX3, List.length_append]
                      have s3 : ∀ W, (Op.stringOp .add (strOf X2) ⟨#[32]⟩).run Tryz.prog W = .ok (.string (strOf X3)) W := fun W => by rw [hX3]; exact cat_run Tryz.prog X2 [32] (by simp only [List.length_cons, List.length_nil] at *; omega) W
                      obtain ⟨X4, hX4⟩ : ∃ x, x = X3 ++ (wordS t.tok) := ⟨_, rfl⟩
                      have hl4 : X4.length = (X3 : List UInt8).length + ((wordS t.tok) : List UInt8).length := by rw [hX4, List.length_append]
                      have s4 : ∀ W, (Op.stringOp .add (strOf X3) (strOf (wordS t.tok))).run Tryz.prog W = .ok (.string (strOf X4)) W := fun W => by rw [hX4]; exact cat_run Tryz.prog X3 (wordS t.tok) (by simp only [List.length_cons, List.length_nil] at *; omega) W
                      obtain ⟨X5, hX5⟩ : ∃ x, x = X4 ++ [32] := ⟨_, rfl⟩
                      have hl5 : X5.length = (X4 : List UInt8).length + ([32] : List UInt8).length := by rw [hX5, List.length_append]
                      have s5 : ∀ W, (Op.stringOp .add (strOf X4) ⟨#[32]⟩).run Tryz.prog W = .ok (.string (strOf X5)) W := fun W => by rw [hX5]; exact cat_run Tryz.prog X4 [32] (by simp only [List.length_cons, List.length_nil] at *; omega) W
                      obtain ⟨X6, hX6⟩ : ∃ x, x = X5 ++ (textE b) := ⟨_, rfl⟩
                      have hl6 : X6.length = (X5 : List UInt8).length + ((textE b) : List UInt8).length := by rw [hX6, List.length_append]
                      have s6 : ∀ W, (Op.stringOp .add (strOf X5) (strOf (textE b))).run Tryz.prog W = .ok (.string (strOf X6)) W := fun W => by rw [hX6]; exact cat_run Tryz.prog X5 (textE b) (by simp only [List.length_cons, List.length_nil] at *; omega) W
                      have EV : Hid (partV p2.length (.bin t.op a b) = .agg #[.int .i64 (p2.length : Int), .string (strOf X6), .int .i64 (bindS t.op : Nat), .int .i64 ((b.deep : Nat) + 1 : Int)]) := Lib.hid (by rw [EV0.out, hX6, hX5, hX4, hX3, hX2, hX1])
                      clear hA hB hmx c1 c2 c3 EV0 hX1 hl1 hX2 hl2 hX3 hl3 hX4 hl4 hX5 hl5 hX6 hl6
                      go_wp2
                      exact bodyPost_ret (last_ret H5.out.r.put rfl rfl) rfl ⟨put_kept H5.out.kept H5.out.n0, .inl ⟨_, _, HX.out, by rw [EV.out]; rfl⟩⟩
                    · have hA : partE (bindS t.op) a = ([40, 32] ++ textE a ++ [32, 41]) := by unfold partE; rw [if_pos c1]; simp
                      have hB : partE (bindS t.op + 1) b = textE b := by unfold partE; rw [if_neg (by omega)]
                      have hmx : max a.deep b.deep = a.deep := by omega
                      have EV0 : Hid (partV p2.length (.bin t.op a b) = .agg #[.int .i64 (p2.length : Int), .string (strOf (([40, 32] ++ textE a ++ [32, 41]) ++ [32] ++ wordS t.tok ++ [32] ++ textE b)), .int .i64 (bindS t.op : Nat), .int .i64 ((a.deep : Nat) + 1 : Int)]) := Lib.hid (by rw [HWT.out, ← hmx]; exact part_bin HX.out.ok hA hB)
                      have c1i : (a.lvl : Int) < ((bindS t.op : Nat) : Int) := by omega
                      have c2i : ¬ (b.lvl : Int) ≤ ((bindS t.op : Nat) : Int) := by omega
                      have c3i : ¬ (a.deep : Int) < (b.deep : Int) := by omega
                      obtain ⟨X1, hX1⟩ : ∃ x, x = [40, 32] ++ (textE a) := ⟨_, rfl⟩
                      have hl1 : X1.length = ([40, 32] : List UInt8).length + ((textE a) : List UInt8).length := by rw [hX1, List.length_append]
                      have s1 : ∀ W, (Op.stringOp .add ⟨#[40, 32]⟩ (strOf (textE a))).run Tryz.prog W = .ok (.string (strOf X1)) W := fun W => by rw [hX1]; exact cat_run Tryz.prog [40, 32] (textE a) (by simp only [List.length_cons, List.length_nil] at *; omega) W
                      obtain ⟨X2, hX2⟩ : ∃ x, x = X1 ++ [32, 41] := ⟨_, rfl⟩
                      have hl2 : X2.length = (X1 : List UInt8).length + ([32, 41] : List UInt8).length := by rw [hX2, List.length_append]
                      have s2 : ∀ W, (Op.stringOp .add (strOf X1) ⟨#[32, 41]⟩).run Tryz.prog W = .ok (.string (strOf X2)) W := fun W => by rw [hX2]; exact cat_run Tryz.prog X1 [32, 41] (by simp only [List.length_cons, List.length_nil] at *; omega) W
                      obtain ⟨X3, hX3⟩ : ∃ x, x = X2 ++ [32] := ⟨_, rfl⟩
                      have hl3 : X3.length = (X2 : List UInt8).length + ([32] : List UInt8).length := by rw [hX3, List.length_append]
                      have s3 : ∀ W, (Op.stringOp .add (strOf X2) ⟨#[32]⟩).run Tryz.prog W = .ok (.string (strOf X3)) W := fun W => by rw [hX3]; exact cat_run Tryz.prog X2 [32] (by simp only [List.length_cons, List.length_nil] at *; omega) W
                      obtain ⟨X4, hX4⟩ : ∃ x, x = X3 ++ (wordS t.tok) := ⟨_, rfl⟩
                      have hl4 : X4.length = (X3 : List UInt8).length + ((wordS t.tok) : List UInt8).length := by rw [hX4, List.length_append]
                      have s4 : ∀ W, (Op.stringOp .add (strOf X3) (strOf (wordS t.tok))).run Tryz.prog W = .ok (.string (strOf X4)) W := fun W => by rw [hX4]; exact cat_run Tryz.prog X3 (wordS t.tok) (by simp only [List.length_cons, List.length_nil] at *; omega) W
                      obtain ⟨X5, hX5⟩ : ∃ x, x = X4 ++ [32] := ⟨_, rfl⟩
                      have hl5 : X5.length = (X4 : List UInt8).length + ([32] : List UInt8).length := by rw [hX5, List.length_append]
                      have s5 : ∀ W, (Op.stringOp .add (strOf X4) ⟨#[32]⟩).run Tryz.prog W = .ok (.string (strOf X5)) W := fun W => by rw [hX5]; exact cat_run Tryz.prog X4 [32] (by simp only [List.length_cons, List.length_nil] at *; omega) W
                      obtain ⟨X6, hX6⟩ : ∃ x, x = X5 ++ (textE b) := ⟨_, rfl⟩
                      have hl6 : X6.length = (X5 : List UInt8).length + ((textE b) : List UInt8).length := by rw [hX6, List.length_append]
                      have s6 : ∀ W, (Op.stringOp .add (strOf X5) (strOf (textE b))).run Tryz.prog W = .ok (.string (strOf X6)) W := fun W => by rw [hX6]; exact cat_run Tryz.prog X5 (textE b) (by simp only [List.length_cons, List.length_nil] at *; omega) W
                      have EV : Hid (partV p2.length (.bin t.op a b) = .agg #[.int .i64 (p2.length : Int), .string (strOf X6), .int .i64 (bindS t.op : Nat), .int .i64 ((a.deep : Nat) + 1 : Int)]) := Lib.hid (by rw [EV0.out, hX6, hX5, hX4, hX3, hX2, hX1])
                      clear hA hB hmx c1 c2 c3 EV0 hX1 hl1 hX2 hl2 hX3 hl3 hX4 hl4 hX5 hl5 hX6 hl6
                      go_wp2
                      exact bodyPost_ret (last_ret H5.out.r.put rfl rfl) rfl ⟨put_kept H5.out.kept H5.out.n0, .inl ⟨_, _, HX.out, by rw [EV.out]; rfl⟩⟩
                · by_cases c2 : b.lvl ≤ bindS t.op
                  · by_cases c3 : a.deep < b.deep
                    · have hA : partE (bindS t.op) a = textE a := by unfold partE; rw [if_neg c1]
                      have hB : partE (bindS t.op + 1) b = ([40, 32] ++ textE b ++ [32, 41]) := by unfold partE; rw [if_pos (by omega)]; simp
                      have hmx : max a.deep b.deep = b.deep := by omega
                      have EV0 : Hid (partV p2.length (.bin t.op a b) = .agg #[.int .i64 (p2.length : Int), .string (strOf (textE a ++ [32] ++ wordS t.tok ++ [32] ++ ([40, 32] ++ textE b ++ [32, 41]))), .int .i64 (bindS t.op : Nat), .int .i64 ((b.deep : Nat) + 1 : Int)]) := Lib.hid (by rw [HWT.out, ← hmx]; exact part_bin HX.out.ok hA hB)
                      have c1i : ¬ (a.lvl : Int) < ((bindS t.op : Nat) : Int) := by omega
                      have c2i : (b.lvl : Int) ≤ ((bindS t.op : Nat) : Int) := by omega
                      have c3i : (a.deep : Int) < (b.deep : Int) := by omega
                      obtain ⟨X1, hX1⟩ : ∃ x, x = [40, 32] ++ (textE b) := ⟨_, rfl⟩
                      have hl1 : X1.length = ([40, 32] : List UInt8).length + ((textE b) : List UInt8).length := by rw [hX1, List.length_append]
                      have s1 : ∀ W, (Op.stringOp .add ⟨#[40, 32]⟩ (strOf (textE b))).run Tryz.prog W = .ok (.string (strOf X1)) W := fun W => by rw [hX1]; exact cat_run Tryz.prog [40, 32] (textE b) (by simp only [List.length_cons, List.length_nil] at *; omega) W
                      obtain ⟨X2, hX2⟩ : ∃ x, x = X1 ++ [32, 41] := ⟨_, rfl⟩
                      have hl2 : X2.length = (X1 : List UInt8).length + ([32, 41] : List UInt8).length := by rw [hX2, List.length_append]
                      have s2 : ∀ W, (Op.stringOp .add (strOf X1) ⟨#[32, 41]⟩).run Tryz.prog W = .ok (.string (strOf X2)) W := fun W => by rw [hX2]; exact cat_run Tryz.prog X1 [32, 41] (by simp only [List.length_cons, List.length_nil] at *; omega) W
                      obtain ⟨X3, hX3⟩ : ∃ x, x = (textE a) ++ [32] := ⟨_, rfl⟩
                      have hl3 : X3.length = ((textE a) : List UInt8).length + ([32] : List UInt8).length := by rw [hX3, List.length_append]
                      have s3 : ∀ W, (Op.stringOp .add (strOf (textE a)) ⟨#[32]⟩).run Tryz.prog W = .ok (.string (strOf X3)) W := fun W => by rw [hX3]; exact cat_run Tryz.prog (textE a) [32] (by simp only [List.length_cons, List.length_nil] at *; omega) W
                      obtain ⟨X4, hX4⟩ : ∃ x, x = X3 ++ (wordS t.tok) := ⟨_, rfl⟩
                      have hl4 : X4.length = (X3 : List UInt8).length + ((wordS t.tok) : List UInt8).length := by rw [hX4, List.length_append]
                      have s4 : ∀ W, (Op.stringOp .add (strOf X3) (strOf (wordS t.tok))).run Tryz.prog W = .ok (.string (strOf X4)) W := fun W => by rw [hX4]; exact cat_run Tryz.prog X3 (wordS t.tok) (by simp only [List.length_cons, List.length_nil] at *; omega) W
                      obtain ⟨X5, hX5⟩ : ∃ x, x = X4 ++ [32] := ⟨_, rfl⟩
                      have hl5 : X5.length = (X4 : List UInt8).length + ([32] : List UInt8).length := by rw [hX5, List.length_append]
                      have s5 : ∀ W, (Op.stringOp .add (strOf X4) ⟨#[32]⟩).run Tryz.prog W = .ok (.string (strOf X5)) W := fun W => by rw [hX5]; exact cat_run Tryz.prog X4 [32] (by simp only [List.length_cons, List.length_nil] at *; omega) W
                      obtain ⟨X6, hX6⟩ : ∃ x, x = X5 ++ X2 := ⟨_, rfl⟩
                      have hl6 : X6.length = (X5 : List UInt8).length + (X2 : List UInt8).length := by rw [hX6, List.length_append]
                      have s6 : ∀ W, (Op.stringOp .add (strOf X5) (strOf X2)).run Tryz.prog W = .ok (.string (strOf X6)) W := fun W => by rw [hX6]; exact cat_run Tryz.prog X5 X2 (by simp only [List.length_cons, List.length_nil] at *; omega) W
                      have EV : Hid (partV p2.length (.bin t.op a b) = .agg #[.int .i64 (p2.length : Int), .string (strOf X6), .int .i64 (bindS t.op : Nat), .int .i64 ((b.deep : Nat) + 1 : Int)]) := Lib.hid (by rw [EV0.out, hX6, hX5, hX4, hX3, hX2, hX1])
                      clear hA hB hmx c1 c2 c3 EV0 hX1 hl1 hX2 hl2 hX3 hl3 hX4 hl4 hX5 hl5 hX6 hl6
                      go_wp2
                      exact bodyPost_ret (last_ret H5.out.r.put rfl rfl) rfl ⟨put_kept H5.out.kept H5.out.n0, .inl ⟨_, _, HX.out, by rw [EV.out]; rfl⟩⟩
                    · have hA : partE (bindS t.op) a = textE a := by unfold partE; rw [if_neg c1]
                      have hB : partE (bindS t.op + 1) b = ([40, 32] ++ textE b ++ [32, 41]) := by unfold partE; rw [if_pos (by omega)]; simp
                      have hmx : max a.deep b.deep = a.deep := by omega
                      have EV0 : Hid (partV p2.length (.bin t.op a b) = .agg #[.int .i64 (p2.length : Int), .string (strOf (textE a ++ [32] ++ wordS t.tok ++ [32] ++ ([40, 32] ++ textE b ++ [32, 41]))), .int .i64 (bindS t.op : Nat), .int .i64 ((a.deep : Nat) + 1 : Int)]) := Lib.hid (by rw [HWT.out, ← hmx]; exact part_bin HX.out.ok hA hB)
                      have c1i : ¬ (a.lvl : Int) < ((bindS t.op : Nat) : Int) := by omega
                      have c2i : (b.lvl : Int) ≤ ((bindS t.op : Nat) : Int) := by omega
                      have c3i : ¬ (a.deep : Int) < (b.deep : Int) := by omega
                      obtain ⟨X1, hX1⟩ : ∃ x, x = [40, 32] ++ (textE b) := ⟨_, rfl⟩
                      have hl1 : X1.length = ([40, 32] : List UInt8).length + ((textE b) : List UInt8).length := by rw [hX1, List.length_append]
                      have s1 : ∀ W, (Op.stringOp .add ⟨#[40, 32]⟩ (strOf (textE b))).run Tryz.prog W = .ok (.string (strOf X1)) W := fun W => by rw [hX1]; exact cat_run Tryz.prog [40, 32] (textE b) (by simp only [List.length_cons, List.length_nil] at *; omega) W
                      obtain ⟨X2, hX2⟩ : ∃ x, x = X1 ++ [32, 41] := ⟨_, rfl⟩
                      have hl2 : X2.length = (X1 : List UInt8).length + ([32, 41] : List UInt8).length := by rw [hX2, List.length_append]
                      have s2 : ∀ W, (Op.stringOp .add (strOf X1) ⟨#[32, 41]⟩).run Tryz.prog W = .ok (.string (strOf X2)) W := fun W => by rw [hX2]; exact cat_run Tryz.prog X1 [32, 41] (by simp only [List.length_cons, List.length_nil] at *; omega) W
                      obtain ⟨X3, hX3⟩ : ∃ x, x = (textE a) ++ [32] := ⟨_, rfl⟩
                      have hl3 : X3.length = ((textE a) : List UInt8).length + ([32] : List UInt8).length := by rw [hX3, List.length_append]
                      have s3 : ∀ W, (Op.stringOp .add (strOf (textE a)) ⟨#[32]⟩).run Tryz.prog W = .ok (.string (strOf X3)) W := fun W => by rw [hX3]; exact cat_run Tryz.prog (textE a) [32] (by simp only [List.length_cons, List.length_nil] at *; omega) W
                      obtain ⟨X4, hX4⟩ : ∃ x, x = X3 ++ (wordS t.tok) := ⟨_, rfl⟩
                      have hl4 : X4.length = (X3 : List UInt8).length + ((wordS t.tok) : List UInt8).length := by rw [hX4, List.length_append]
                      have s4 : ∀ W, (Op.stringOp .add (strOf X3) (strOf (wordS t.tok))).run Tryz.prog W = .ok (.string (strOf X4)) W := fun W => by rw [hX4]; exact cat_run Tryz.prog X3 (wordS t.tok) (by simp only [List.length_cons, List.length_nil] at *; omega) W
                      obtain ⟨X5, hX5⟩ : ∃ x, x = X4 ++ [32] := ⟨_, rfl⟩
                      have hl5 : X5.length = (X4 : List UInt8).length + ([32] : List UInt8).length := by rw [hX5, List.length_append]
                      have s5 : ∀ W, (Op.stringOp .add (strOf X4) ⟨#[32]⟩).run Tryz.prog W = .ok (.string (strOf X5)) W := fun W => by rw [hX5]; exact cat_run Tryz.prog X4 [32] (by simp only [List.length_cons, List.length_nil] at *; omega) W
                      obtain ⟨X6, hX6⟩ : ∃ x, x = X5 ++ X2 := ⟨_, rfl⟩
                      have hl6 : X6.length = (X5 : List UInt8).length + (X2 : List UInt8).length := by rw [hX6, List.length_append]
                      have s6 : ∀ W, (Op.stringOp .add (strOf X5) (strOf X2)).run Tryz.prog W = .ok (.string (strOf X6)) W := fun W => by rw [hX6]; exact cat_run Tryz.prog X5 X2 (by simp only [List.length_cons, List.length_nil] at *; omega) W
                      have EV : Hid (partV p2.length (.bin t.op a b) = .agg #[.int .i64 (p2.length : Int), .string (strOf X6), .int .i64 (bindS t.op : Nat), .int .i64 ((a.deep : Nat) + 1 : Int)]) := Lib.hid (by rw [EV0.out, hX6, hX5, hX4, hX3, hX2, hX1])
                      clear hA hB hmx c1 c2 c3 EV0 hX1 hl1 hX2 hl2 hX3 hl3 hX4 hl4 hX5 hl5 hX6 hl6
                      go_wp2
                      exact bodyPost_ret (last_ret H5.out.r.put rfl rfl) rfl ⟨put_kept H5.out.kept H5.out.n0, .inl ⟨_, _, HX.out, by rw [EV.out]; rfl⟩⟩
                  · by_cases c3 : a.deep < b.deep
                    · have hA : partE (bindS t.op) a = textE a := by unfold partE; rw [if_neg c1]
                      have hB : partE (bindS t.op + 1) b = textE b := by unfold partE; rw [if_neg (by omega)]
                      have hmx : max a.deep b.deep = b.deep := by omega
                      have EV0 : Hid (partV p2.length (.bin t.op a b) = .agg #[.int .i64 (p2.length : Int), .string (strOf (textE a ++ [32] ++ wordS t.tok ++ [32] ++ textE b)), .int .i64 (bindS t.op : Nat), .int .i64 ((b.deep : Nat) + 1 : Int)]) := Lib.hid (by rw [HWT.out, ← hmx]; exact part_bin HX.out.ok hA hB)
                      have c1i : ¬ (a.lvl : Int) < ((bindS t.op : Nat) : Int) := by omega
                      have c2i : ¬ (b.lvl : Int) ≤ ((bindS t.op : Nat) : Int) := by omega
                      have c3i : (a.deep : Int) < (b.deep : Int) := by omega
                      obtain ⟨X1, hX1⟩ : ∃ x, x = (textE a) ++ [32] := ⟨_, rfl⟩
                      have hl1 : X1.length = ((textE a) : List UInt8).length + ([32] : List UInt8).length := by rw [hX1, List.length_append]
                      have s1 : ∀ W, (Op.stringOp .add (strOf (textE a)) ⟨#[32]⟩).run Tryz.prog W = .ok (.string (strOf X1)) W := fun W => by rw [hX1]; exact cat_run Tryz.prog (textE a) [32] (by simp only [List.length_cons, List.length_nil] at *; omega) W
                      obtain ⟨X2, hX2⟩ : ∃ x, x = X1 ++ (wordS t.tok) := ⟨_, rfl⟩
                      have hl2 : X2.length = (X1 : List UInt8).length + ((wordS t.tok) : List UInt8).length := by rw [hX2, List.length_append]
                      have s2 : ∀ W, (Op.stringOp .add (strOf X1) (strOf (wordS t.tok))).run Tryz.prog W = .ok (.string (strOf X2)) W := fun W => by rw [hX2]; exact cat_run Tryz.prog X1 (wordS t.tok) (by simp only [List.length_cons, List.length_nil] at *; omega) W
                      obtain ⟨X3, hX3⟩ : ∃ x, x = X2 ++ [32] := ⟨_, rfl⟩
                      have hl3 : X3.length = (X2 : List UInt8).length + ([32] : List UInt8).length := by rw [hX3, List.length_append]
                      have s3 : ∀ W, (Op.stringOp .add (strOf X2) ⟨#[32]⟩).run Tryz.prog W = .ok (.string (strOf X3)) W := fun W => by rw [hX3]; exact cat_run Tryz.prog X2 [32] (by simp only [List.length_cons, List.length_nil] at *; omega) W
                      obtain ⟨X4, hX4⟩ : ∃ x, x = X3 ++ (textE b) := ⟨_, rfl⟩
                      have hl4 : X4.length = (X3 : List UInt8).length + ((textE b) : List UInt8).length := by rw [hX4, List.length_append]
                      have s4 : ∀ W, (Op.stringOp .add (strOf X3) (strOf (textE b))).run Tryz.prog W = .ok (.string (strOf X4)) W := fun W => by rw [hX4]; exact cat_run Tryz.prog X3 (textE b) (by simp only [List.length_cons, List.length_nil] at *; omega) W
                      have EV : Hid (partV p2.length (.bin t.op a b) = .agg #[.int .i64 (p2.length : Int), .string (strOf X4), .int .i64 (bindS t.op : Nat), .int .i64 ((b.deep : Nat) + 1 : Int)]) := Lib.hid (by rw [EV0.out, hX4, hX3, hX2, hX1])
                      clear hA hB hmx c1 c2 c3 EV0 hX1 hl1 hX2 hl2 hX3 hl3 hX4 hl4
                      go_wp2
                      exact bodyPost_ret (last_ret H5.out.r.put rfl rfl) rfl ⟨put_kept H5.out.kept H5.out.n0, .inl ⟨_, _, HX.out, by rw [EV.out]; rfl⟩⟩
                    · have hA : partE (bindS t.op) a = textE a := by unfold partE; rw [if_neg c1]
                      have hB : partE (bindS t.op + 1) b = textE b := by unfold partE; rw [if_neg (by omega)]
                      have hmx : max a.deep b.deep = a.deep := by omega
                      have EV0 : Hid (partV p2.length (.bin t.op a b) = .agg #[.int .i64 (p2.length : Int), .string (strOf (textE a ++ [32] ++ wordS t.tok ++ [32] ++ textE b)), .int .i64 (bindS t.op : Nat), .int .i64 ((a.deep : Nat) + 1 : Int)]) := Lib.hid (by rw [HWT.out, ← hmx]; exact part_bin HX.out.ok hA hB)
                      have c1i : ¬ (a.lvl : Int) < ((bindS t.op : Nat) : Int) := by omega
                      have c2i : ¬ (b.lvl : Int) ≤ ((bindS t.op : Nat) : Int) := by omega
                      have c3i : ¬ (a.deep : Int) < (b.deep : Int) := by omega
                      obtain ⟨X1, hX1⟩ : ∃ x, x = (textE a) ++ [32] := ⟨_, rfl⟩
                      have hl1 : X1.length = ((textE a) : List UInt8).length + ([32] : List UInt8).length := by rw [hX1, List.length_append]
                      have s1 : ∀ W, (Op.stringOp .add (strOf (textE a)) ⟨#[32]⟩).run Tryz.prog W = .ok (.string (strOf X1)) W := fun W => by rw [hX1]; exact cat_run Tryz.prog (textE a) [32] (by simp only [List.length_cons, List.length_nil] at *; omega) W
                      obtain ⟨X2, hX2⟩ : ∃ x, x = X1 ++ (wordS t.tok) := ⟨_, rfl⟩
                      have hl2 : X2.length = (X1 : List UInt8).length + ((wordS t.tok) : List UInt8).length := by rw [hX2, List.length_append]
                      have s2 : ∀ W, (Op.stringOp .add (strOf X1) (strOf (wordS t.tok))).run Tryz.prog W = .ok (.string (strOf X2)) W := fun W => by rw [hX2]; exact cat_run Tryz.prog X1 (wordS t.tok) (by simp only [List.length_cons, List.length_nil] at *; omega) W
                      obtain ⟨X3, hX3⟩ : ∃ x, x = X2 ++ [32] := ⟨_, rfl⟩
                      have hl3 : X3.length = (X2 : List UInt8).length + ([32] : List UInt8).length := by rw [hX3, List.length_append]
                      have s3 : ∀ W, (Op.stringOp .add (strOf X2) ⟨#[32]⟩).run Tryz.prog W = .ok (.string (strOf X3)) W := fun W => by rw [hX3]; exact cat_run Tryz.prog X2 [32] (by simp only [List.length_cons, List.length_nil] at *; omega) W
                      obtain ⟨X4, hX4⟩ : ∃ x, x = X3 ++ (textE b) := ⟨_, rfl⟩
                      have hl4 : X4.length = (X3 : List UInt8).length + ((textE b) : List UInt8).length := by rw [hX4, List.length_append]
                      have s4 : ∀ W, (Op.stringOp .add (strOf X3) (strOf (textE b))).run Tryz.prog W = .ok (.string (strOf X4)) W := fun W => by rw [hX4]; exact cat_run Tryz.prog X3 (textE b) (by simp only [List.length_cons, List.length_nil] at *; omega) W
                      have EV : Hid (partV p2.length (.bin t.op a b) = .agg #[.int .i64 (p2.length : Int), .string (strOf X4), .int .i64 (bindS t.op : Nat), .int .i64 ((a.deep : Nat) + 1 : Int)]) := Lib.hid (by rw [EV0.out, hX4, hX3, hX2, hX1])
                      clear hA hB hmx c1 c2 c3 EV0 hX1 hl1 hX2 hl2 hX3 hl3 hX4 hl4
                      go_wp2
                      exact bodyPost_ret (last_ret H5.out.r.put rfl rfl) rfl ⟨put_kept H5.out.kept H5.out.n0, .inl ⟨_, _, HX.out, by rw [EV.out]; rfl⟩⟩
              · have HX : Hid (∀ p e, ¬ EndIs (Y ++ [t.tok]) p e) := Lib.hid (fun p e h => by
                  obtain ⟨a, b', q', _, h1, h2, _⟩ := HINV.out p e h
                  obtain ⟨rfl, rfl⟩ := HB1.out.unique h1
                  exact hno _ _ h2)
                have H5 := Lib.hid (H4.out.later (Fr.of_alloc _ _ (Obj.cells #[.int .i64 0, .string ⟨#[]⟩, .int .i64 0, .int .i64 0] 91)))
                rw [noneV_agg]
                clear hno
                have r0 := H5.out.r.c0
                have r1 := H5.out.r.c1
                have r2 := H5.out.r.c2
                have r3 := H5.out.r.c3
                have z0 := H5.out.z.c0
                have z1 := H5.out.z.c1
                have z2 := H5.out.z.c2
                have z3 := H5.out.z.c3
                have fr0 := H5.out.r.fz 0
                have fr1 := H5.out.r.fz 1
                have fr2 := H5.out.r.fz 2
                have fr3 := H5.out.r.fz 3
                go_wp2
                exact bodyPost_ret (last_ret H5.out.r.put rfl rfl) rfl ⟨put_kept H5.out.kept H5.out.n0, .inr ⟨HX.out, rfl⟩⟩
          · have HX : Hid (∀ p e, ¬ EndIs (Y ++ [t.tok]) p e) := Lib.hid (fun p e h => by
              obtain ⟨a, b, q', _, h1, _⟩ := HINV.out p e h
              exact hno _ _ h1)
            have H3 := Lib.hid (H2.out.later (Fr.of_alloc _ _ (Obj.cells #[.int .i64 0, .string ⟨#[]⟩, .int .i64 0, .int .i64 0] 91)))
            rw [noneV_agg]
            clear hno
            have r0 := H3.out.r.c0
            have r1 := H3.out.r.c1
            have r2 := H3.out.r.c2
            have r3 := H3.out.r.c3
            have z0 := H3.out.z.c0
            have z1 := H3.out.z.c1
            have z2 := H3.out.z.c2
            have z3 := H3.out.z.c3
            have fr0 := H3.out.r.fz 0
            have fr1 := H3.out.r.fz 1
            have fr2 := H3.out.r.fz 2
            have fr3 := H3.out.r.fz 3
            go_wp2
            exact bodyPost_ret (last_ret H3.out.r.put rfl rfl) rfl ⟨put_kept H3.out.kept H3.out.n0, .inr ⟨HX.out, rfl⟩⟩

end Go.Proofs.YtbfealhbdemhmaaGreatDoor
