/- Contracts and lemmas: Atm2 -/
import Derived.Test.YtbfealhbdemhmaaGreatDoorAtm1
namespace Go.Proofs.YtbfealhbdemhmaaGreatDoor
set_option linter.unusedVariables false
set_option linter.unusedSimpArgs false
namespace Atm
/-! Same -/
open Go.RowKit
theorem toList_inj {a b : ByteArray} (h : a.toList = b.toList) : a = b := by
  have h1 : (a == b) = true := by rw [beq_toListBytes, h]; simp
  cases a with | mk x => cases b with | mk y =>
    have : (x == y) = true := h1
    simp at this; rw [this]
/-! Rmay -/
open Go.RowKit
/-- the byte at the place k is right -/
def atB (k : Nat) (c : UInt8) : Bool := letB c || (decide (k ≠ 0) && furB c)
theorem mayB_of {l : List UInt8} (h1 : 1 ≤ l.length) (h2 : l.length ≤ 24) (h : ∀ k c, l[k]? = some c → atB k c = true) : mayB l = true := by
  cases l with
  | nil => simp at h1
  | cons x r =>
    have hx := h 0 x rfl
    simp [atB] at hx
    have hall : (x :: r).all okB = true := by
      rw [List.all_eq_true]
      intro c hc
      obtain ⟨k, hk⟩ := List.mem_iff_getElem?.1 hc
      have := h k c hk
      simp [atB] at this
      rcases this with h | h
      · simp [okB, h]
      · simp [okB, h.2]
    simp [mayB] at hall ⊢
    simp at h2
    exact ⟨⟨h2, hx⟩, hall⟩
theorem mayB_not {l : List UInt8} {k : Nat} {c : UInt8} (hk : l[k]? = some c) (h : atB k c = false) : mayB l = false := by
  simp [atB] at h
  cases l with
  | nil => simp at hk
  | cons x r =>
    by_cases h0 : k = 0
    · subst h0
      simp at hk
      subst hk
      simp [mayB, h.1]
    · have hf := h.2 h0
      have : (x :: r).all okB = false := by
        rw [List.all_eq_false]
        exact ⟨c, List.mem_of_getElem? hk, by simp [okB, h.1, hf]⟩
      simp only [mayB, this, Bool.and_false]
set_option maxHeartbeats 2000000 in
theorem rmay_any (s : ByteArray) (w : World) (hs : s.size ≤ maxLen) :
    Calls Tryz.prog 77 #[.string s] w fun e w' => e = .returned (.bool (mayB s.data.toList)) ∧ w = w' := by
  unfold maxLen at hs
  have hlen : s.data.toList.length = s.size := by simp
  by_cases h0 : s.size < 1
  · have hv : Hid (mayB s.data.toList = false) := by simp [Hid, mayB, hlen]; omega
    have h0' : (s.size : Int) < 1 := by omega
    go_enter Tryz.func77, Tryz.ntmps77
    go_wp2
    go_ret
    exact ⟨ret_bool hv.out.symm, rfl⟩
  by_cases h1 : 24 < s.size
  · have hv : Hid (mayB s.data.toList = false) := by simp [Hid, mayB, hlen]; omega
    have h0' : ¬ (s.size : Int) < 1 := by omega
    have h1' : 24 < (s.size : Int) := by omega
    go_enter Tryz.func77, Tryz.ntmps77
    go_wp2
    go_ret
    exact ⟨ret_bool hv.out.symm, rfl⟩
  have h0' : decide ((s.size : Int) < 1) = false := by simp; omega
  have h1' : decide (24 < (s.size : Int)) = false := by simp; omega
  have HL := Lib.hid hlen
  clear hlen
  go_enter Tryz.func77, Tryz.ntmps77
  go_wp2
  go_loop [3] (fun i => ∃ k : Nat, k ≤ s.size ∧ i = .int .i64 k ∧ Hid (∀ j c, j < k → s.data.toList[j]? = some c → atB j c = true)) (fun i => s.size - (intOf i).toNat)
  case atStart => exact ⟨0, by omega, rfl, fun j c h => by omega⟩
  case round =>
    obtain ⟨k, hk, rfl, hall⟩ := hrel
    by_cases hlt : k < s.size
    · have hget : Hid (s.data.toList[k]? = some s[k]) := by
        show s.data.toList[k]? = some s[k]
        rw [List.getElem?_eq_getElem (by simpa using hlt)]; rfl
      have hu := s[k].toNat_lt
      have HA : Hid (atB k s[k] = (decide (97 ≤ (s[k].toNat : Int) ∧ (s[k].toNat : Int) ≤ 122) || (decide (k ≠ 0) && decide ((48 ≤ (s[k].toNat : Int) ∧ (s[k].toNat : Int) ≤ 57) ∨ (s[k].toNat : Int) = 45 ∨ (s[k].toNat : Int) = 46)))) := rfl
      have HR : Hid (atB k s[k] = true → ∀ j c, j < k + 1 → s.data.toList[j]? = some c → atB j c = true) := by
        intro ht j c hj hjc
        rcases Nat.lt_or_ge j k with hlt' | hge
        · exact hall.out j c hlt' hjc
        · obtain rfl : j = k := by omega
          rw [hget.out] at hjc; cases hjc; exact ht
      have HN : Hid (atB k s[k] = false → mayB s.data.toList = false) := fun h => mayB_not hget.out h
      clear hget hall
      by_cases hk0 : k = 0
      · subst hk0
        have hcase : (97 ≤ (s[0].toNat : Int) ∧ (s[0].toNat : Int) ≤ 122) ∨ ((s[0].toNat : Int) < 97) ∨ (122 < (s[0].toNat : Int)) := by omega
        rcases hcase with ⟨_, _⟩ | _ | _
        all_goals
          go_wp2
          all_goals first
            | (exfalso; clear HA HR HN HL; simp at *; omega)
            | (go_round
               case rel => exact ⟨1, by omega, rfl, HR.out (by rw [HA.out]; simp; omega)⟩
               case measure => simp [intOf]; omega)
            | (go_ret; exact ⟨ret_bool (HN.out (by rw [HA.out]; simp; omega)).symm, rfl⟩)
      · have hkb : ((k : Int) == 0) = false := by rw [beq_eq_false_iff_ne]; omega
        have hcase : (97 ≤ (s[k].toNat : Int) ∧ (s[k].toNat : Int) ≤ 122) ∨ (48 ≤ (s[k].toNat : Int) ∧ (s[k].toNat : Int) ≤ 57) ∨ ((s[k].toNat : Int) = 45) ∨ ((s[k].toNat : Int) = 46) ∨
          ((s[k].toNat : Int) < 48 ∧ (s[k].toNat : Int) ≠ 45 ∧ (s[k].toNat : Int) ≠ 46) ∨ (57 < (s[k].toNat : Int) ∧ (s[k].toNat : Int) < 97) ∨ (122 < (s[k].toNat : Int)) := by omega
        rcases hcase with ⟨_, _⟩ | ⟨_, _⟩ | _ | _ | ⟨_, _, _⟩ | ⟨_, _⟩ | _
        all_goals
          go_wp2
          all_goals first
            | (exfalso; clear HA HR HN HL; simp at *; omega)
            | (go_round
               case rel => exact ⟨k + 1, by omega, by go_num, HR.out (by rw [HA.out]; simp; omega)⟩
               case measure => simp [intOf]; omega)
            | (go_ret; exact ⟨ret_bool (HN.out (by rw [HA.out]; simp; omega)).symm, rfl⟩)
    · go_wp2
      go_ret
      refine ⟨ret_bool ?_, rfl⟩
      symm
      refine mayB_of (by rw [HL.out]; omega) (by rw [HL.out]; omega) (fun j c hj => hall.out j c ?_ hj)
      have := (List.getElem?_eq_some_iff.1 hj).1
      rw [HL.out] at this; omega
/-! Ref -/
open Go.RowKit
/-- the reference's table at block B has the names L, and lies in the blocks F -/
structure RTab (w : World) (F : Nat → Prop) (B : Nat) (L : Nat → List ByteArray) : Prop where
  old : ∀ b, F b → b < w.heap.size
  inB : F B
  lies : ∃ (arr : Array Value) (vs : Nat → Value), w.heap[B]? = some (.cells arr 98 (0, 0)) ∧ arr.size = 6 ∧ ∀ k, k < 6 → arr[k]? = some (vs k) ∧ Reads w (fun g => F g ∧ g ≠ B) (vs k) (L k)
theorem RTab.same {w w' : World} {F G : Nat → Prop} {B : Nat} {L : Nat → List ByteArray} (h : RTab w F B L) (hf : Fr G w w') (hd : ∀ k, F k → G k → False) : RTab w' F B L := by
  obtain ⟨arr, vs, hb, hs, hk⟩ := h.lies
  exact ⟨fun b hb => Nat.lt_of_lt_of_le (h.old b hb) hf.size, h.inB, arr, vs, (hf.block B (h.old B h.inB) (fun hg => hd B h.inB hg)).trans hb, hs,
    fun k hk6 => ⟨(hk k hk6).1, (hk k hk6).2.same hf (fun g hg hG => hd g hg.1 hG)⟩⟩
theorem RTab.row {w : World} {F : Nat → Prop} {B : Nat} {L : Nat → List ByteArray} (h : RTab w F B L) {k : Nat} (hk : k < 6) :
    ∃ ao c, w.cell? ⟨B, k, none⟩ = some (.slice ao (L k).length c) ∧ Reads w (fun g => F g ∧ g ≠ B) (.slice ao (L k).length c) (L k) := by
  obtain ⟨arr, vs, hb, hs, hk'⟩ := h.lies
  obtain ⟨h1, h2⟩ := hk' k hk
  have h3 := h2
  obtain ⟨ao, c, hv, _⟩ := h2
  rw [hv] at h1 h3
  exact ⟨ao, c, (cell_arr hb k).trans h1, h3⟩
set_option maxHeartbeats 400000 in
theorem rof_any (k n : Int) (w : World) (h0 : 0 ≤ k) (h1 : k ≤ 5) (h2 : 0 ≤ n) (h3 : n ≤ 8191) :
    Calls Tryz.prog 60 #[.int .i64 k, .int .i64 n] w fun e w' => e = .returned (.int .u16 (k * 8192 + n)) ∧ w = w' := by
  go_enter Tryz.func60, Tryz.ntmps60
  go_wp2
  go_ret
  exact ⟨rfl, rfl⟩
set_option maxHeartbeats 400000 in
theorem rkind_any (a : Int) (w : World) (h0 : 0 ≤ a) (h1 : a ≤ 65535) :
    Calls Tryz.prog 42 #[.int .u16 a] w fun e w' => e = .returned (.int .i64 (a / 8192)) ∧ w = w' := by
  have e : Hid ((a - a % 8192) / 8192 = a / 8192) := by show _ = _; omega
  go_enter Tryz.func42, Tryz.ntmps42
  go_wp2
  go_ret
  exact ⟨ret_int e.out, rfl⟩
set_option maxHeartbeats 400000 in
theorem rnumber_any (a : Int) (w : World) (h0 : 0 ≤ a) (h1 : a ≤ 65535) :
    Calls Tryz.prog 76 #[.int .u16 a] w fun e w' => e = .returned (.int .i64 (a % 8192)) ∧ w = w' := by
  go_enter Tryz.func76, Tryz.ntmps76
  go_wp2
  go_ret
  exact ⟨rfl, rfl⟩
theorem posOf_at {l : List ByteArray} {s : ByteArray} {k : Nat} (hk : l[k]? = some s) (hno : ∀ i, i < k → l[i]? ≠ some s) : posOf l s = k + 1 := by
  rcases hp : posOf l s with _ | n
  · exact absurd (List.mem_of_getElem? hk) (posOf_none.1 hp)
  · have hn := posOf_get hp
    rcases Nat.lt_trichotomy n k with h | h | h
    · exact absurd hn (hno n h)
    · rw [h]
    · exfalso
      clear hno
      have : ∀ (l : List ByteArray) (k n : Nat), l[k]? = some s → k < n → posOf l s = n + 1 → False := by
        intro l
        induction l with
        | nil => intro k n hk; simp at hk
        | cons x r ih =>
          intro k n hk hlt hp
          unfold posOf at hp
          split at hp
          · omega
          · rename_i hx
            split at hp
            · omega
            · rename_i m hm
              cases k with
              | zero => simp at hk; exact hx hk
              | succ k => exact ih k m (by simpa using hk) (by omega) hm
      exact this l k n hk h hp
/-- what Find tells -/
def foundV (kind : Int) (n : Nat) : Value := .tuple #[.int .u16 (if n = 0 then 0 else kind * 8192 + n), .bool (decide (n ≠ 0))]
set_option maxHeartbeats 2000000 in
theorem rfind_any {w : World} {F : Nat → Prop} {B : Nat} {L : Nat → List ByteArray} (h : RTab w F B L) (hfew : ∀ k, (L k).length ≤ 4000) (kind : Int) (s : ByteArray) :
    Calls Tryz.prog 31 #[.pointer (some ⟨B, 0, none⟩), .int .i64 kind, .string s] w fun e w' =>
      e = .returned (foundV kind (numS L kind s)) ∧ w = w' := by
  by_cases hk : 1 ≤ kind ∧ kind ≤ 5
  rotate_left
  · have e0 : numS L kind s = 0 := by unfold numS; rw [if_neg hk]
    rw [e0]
    clear e0 h hfew
    by_cases h1 : kind < 1
    · clear hk
      go_enter Tryz.func31, Tryz.ntmps31
      go_wp2
      go_ret2
      exact ⟨rfl, rfl⟩
    · have h2 : 5 < kind := by omega
      clear hk
      go_enter Tryz.func31, Tryz.ntmps31
      go_wp2
      go_ret2
      exact ⟨rfl, rfl⟩
  obtain ⟨k, rfl⟩ := Int.eq_ofNat_of_zero_le (show 0 ≤ kind by omega)
  have hk1 : 1 ≤ k := by omega
  have hk5 : k ≤ 5 := by omega
  have hki : (k : Int) < 6 := by omega
  have hkn : ¬ (k : Int) < 1 := by omega
  have hkm : ¬ 5 < (k : Int) := by omega
  obtain ⟨ao, c, hc, hrd⟩ := h.row (show k < 6 by omega)
  have e0 : numS L (k : Int) s = posOf (L k) s := by unfold numS; rw [if_pos hk]; simp
  rw [e0]
  have hf := hfew k
  generalize hl : L k = l at *
  obtain ⟨ao', c', he, hcell⟩ := hrd
  cases he
  have HC := Lib.hid hcell
  clear hcell e0 hk h hfew hl
  go_enter Tryz.func31, Tryz.ntmps31
  go_wp2
  go_loop [8] (fun i => ∃ j : Nat, j ≤ l.length ∧ i = .int .i64 j ∧ Hid (∀ i, i < j → l[i]? ≠ some s)) (fun i => l.length - (intOf i).toNat)
  case atStart => exact ⟨0, by omega, rfl, fun i hi => by omega⟩
  case round =>
    obtain ⟨j, hj, rfl, hno⟩ := hrel
    by_cases hlt : j < l.length
    · obtain ⟨t, ht⟩ : ∃ t, l[j]? = some t := ⟨_, List.getElem?_eq_getElem hlt⟩
      obtain ⟨g, off, rfl, _, hcj⟩ := HC.out j t ht
      have HT := Lib.hid ht
      have hji : (j : Int) < l.length := by omega
      clear ht
      by_cases he : t = s
      · have hst : (t.toList == s.toList) = true := by simp [he]
        have HP : Hid (posOf l s = j + 1) := posOf_at (by rw [HT.out, he]) hno.out
        clear he
        go_wp2_with (go_at_call 60; refine (rof_any _ _ _ (by omega) (by omega) (by omega) (by omega)).mono ?_; rintro e w' ⟨rfl, rfl⟩)
        go_ret2
        exact ⟨by rw [HP.out]; simp [foundV], rfl⟩
      · have hst : (t.toList == s.toList) = false := by rw [beq_eq_false_iff_ne]; exact fun h => he (toList_inj h)
        have HNO : Hid (∀ i, i < j + 1 → l[i]? ≠ some s) := by
          intro i hi
          rcases Nat.lt_or_ge i j with hi' | hi'
          · exact hno.out i hi'
          · obtain rfl : i = j := by omega
            rw [HT.out]; simpa using he
        clear he
        go_wp2
        go_round
        case rel => exact ⟨j + 1, by omega, by go_num, HNO⟩
        case measure => simp [intOf]; omega
    · have hji : ¬ (j : Int) < l.length := by omega
      have HP : Hid (posOf l s = 0) := by
        show posOf l s = 0
        rw [posOf_none]
        intro hm
        obtain ⟨i, hi⟩ := List.mem_iff_getElem?.1 hm
        exact hno.out i (by have := (List.getElem?_eq_some_iff.1 hi).1; omega) hi
      go_wp2
      go_ret2
      exact ⟨by rw [HP.out]; simp [foundV], rfl⟩
/-! App -/
open Go.RowKit
/-- t is a slice of elements e: an element's zero, its cells, its bytes -/
structure SliceOf (P : Program) (t e : TypeId) (z : Value) (size bytes : Nat) : Prop where
  under : P.underlying t = some (.slice e)
  info : ∃ i, P.info? e = some i ∧ i.zero = some z ∧ i.size = size ∧ i.bytes = bytes
  zero : z.cells.size = size
  pos : 0 < size
/-- m elements of size cells from A on are the cells news -/
def SrcAt (w : World) (size : Nat) (A : Option Addr) (m : Nat) (news : List Value) : Prop :=
  news.length = m * size ∧ (∀ u ∈ news, u.oneCell' = true) ∧ ∀ j u, news[j]? = some u → ∃ a, A = some a ∧ w.cell? (a.add j) = some u
/-- what append leaves -/
def AppPost (w : World) (base : Nat) (e : TypeId) (size : Nat) (v : Value) (n : Nat) (xs : List Value) (v' : Value) (w' : World) : Prop :=
  w'.ownsRow base e size v' n xs ∧ w.grownBy w' v.ownBlock ∧ ∀ g, v'.ownBlock = some g → v.ownBlock = some g ∨ w.heap.size ≤ g
theorem run_app {P : Program} {w : World} {t ty e : TypeId} {z : Value} {size bytes base : Nat} (T : SliceOf P t e z size bytes) {v : Value} {n : Nat} {xs : List Value} (hown : w.ownsRow base e size v n xs)
    {A : Option Addr} {m c : Nat} {news : List Value} (hs : SrcAt w size A m news) (h63 : n + m ≤ maxLen) (hb : (n + m) * bytes ≤ 140737488355328) (hbase : base ≤ w.heap.size) :
    ∃ v' w', (Builtin.append_ #[t, t] ty #[v, .slice A m c]).run P w = .ok v' w' ∧ AppPost w base e size v (n + m) (xs ++ news) v' w' := by
  obtain ⟨i, hi, hz, hsz, hby⟩ := T.info
  obtain ⟨hl, h1, hcell⟩ := hs
  rcases Nat.eq_zero_or_pos m with h0 | hpos
  · -- nothing is appended
    subst h0
    have hn : news = [] := List.eq_nil_of_length_eq_zero (by simpa using hl)
    subst hn
    have hrun : (Builtin.append_ #[t, t] ty #[v, .slice A 0 c]).run P w = .ok v w := by
      have hsrc : ∀ a : Addr, loadCells a 0 = (pure #[] : Sem (Array Value)) := fun a => by rw [loadCells]; rfl
      rcases hown.2 with ⟨rfl, rfl⟩ | ⟨g, cap, cur, rfl, _, _, hnc, _⟩
      · cases A <;> simp [Builtin.append_, run_underlying T.under, sizeOf, typeInfo, hi, Builtin.lenOf, Builtin.firstCells, hsrc]
      · cases A <;> simp [Builtin.append_, run_underlying T.under, sizeOf, typeInfo, hi, Builtin.lenOf, Builtin.firstCells, hnc, storeCells, hsrc]
    refine ⟨v, w, hrun, by simpa using hown, ⟨rfl, rfl, rfl, Nat.le_refl _, fun _ _ _ => rfl⟩, fun g hg => .inl hg⟩
  · -- something is
    have hne : ∃ u, news[0]? = some u := ⟨_, List.getElem?_eq_getElem (by rw [hl]; exact Nat.mul_pos hpos T.pos)⟩
    obtain ⟨u, hu⟩ := hne
    obtain ⟨a, rfl, _⟩ := hcell 0 u hu
    have hcells : ∀ j u, news[j]? = some u → w.cell? (a.add j) = some u := fun j u hj => by
      obtain ⟨a', ha', hc⟩ := hcell j u hj
      cases ha'; exact hc
    obtain ⟨g, cap, w', hr, h2, h3, h4, _⟩ := run_append_lies (P := P) w t ty base e i z size bytes T.under hi hz hsz hby T.zero T.pos v n xs hown a m c news hl hcells h1 hpos h63 hb hbase _ rfl
    refine ⟨_, w', hr, h2, h3, fun g' hg' => ?_⟩
    have : g = g' := by simpa [Value.ownBlock] using hg'
    subst this
    rcases h4 with h4 | h4
    · exact .inl h4
    · exact .inr (by omega)
theorem wp_app {P : Program} {w : World} {o : Oper} {a : Act} {K : Act → World → Prop} {Q : Exit → Act → World → Prop} (s x : Operand) (t : TypeId) {e : TypeId} {z : Value} {size bytes base : Nat}
    (ho : o.op = .call { callee := .builtin .append, args := #[s, x], argTypes := #[t, t] }) (T : SliceOf P t e z size bytes) {v : Value} {n : Nat} {xs : List Value} (hv : a.eval s = v) (hown : w.ownsRow base e size v n xs)
    {A : Option Addr} {m c : Nat} {news : List Value} (hx : a.eval x = .slice A m c) (hs : SrcAt w size A m news) (h63 : n + m ≤ maxLen) (hb : (n + m) * bytes ≤ 140737488355328) (hbase : base ≤ w.heap.size)
    (h : ∀ v' w', AppPost w base e size v (n + m) (xs ++ news) v' w' → K (a.put o.dst v') w') : o.wp P a w K Q := by
  obtain ⟨v', w', hr, hp⟩ := run_app (ty := o.type) (c := c) T hown hs h63 hb hbase
  unfold Oper.wp execOp
  simp only [ho, resolve, invoke, builtin, Sem.run_bind, Sem.run_pure, Result.andThen_ok, List.map_toArray, List.map_cons, List.map_nil, hv, hx, hr]
  exact h v' w' hp
/-- append in a plain region -/
theorem list_app {P : Program} {w : World} {ops : Array Oper} {rest : List Oper} {o : Oper} {a : Act} {Q : Exit → Act → World → Prop} (hgd : o.guard = none) (s x : Operand) (t : TypeId) {e : TypeId} {z : Value} {size bytes base : Nat}
    (ho : o.op = .call { callee := .builtin .append, args := #[s, x], argTypes := #[t, t] }) (T : SliceOf P t e z size bytes) {v : Value} {n : Nat} {xs : List Value} (hv : a.eval s = v) (hown : w.ownsRow base e size v n xs)
    {A : Option Addr} {m c : Nat} {news : List Value} (hx : a.eval x = .slice A m c) (hs : SrcAt w size A m news) (h63 : n + m ≤ maxLen) (hb : (n + m) * bytes ≤ 140737488355328) (hbase : base ≤ w.heap.size)
    (h : ∀ v' w', AppPost w base e size v (n + m) (xs ++ news) v' w' → wpList P ops Q rest (a.put o.dst v') w') : wpList P ops Q (o :: rest) a w :=
  wpList_plain hgd fun _ hK => wp_app s x t ho T hv hown hx hs h63 hb hbase fun v' w' hp => hK _ _ (h v' w' hp)
/-- append in a region that draws its order -/
theorem step_app {P : Program} {w : World} {ops : Array Oper} {o : Oper} {a : Act} {K : Act → World → Prop} {Q : Exit → Act → World → Prop} {E : Prop} (hgd : o.guard = none) (s x : Operand) (t : TypeId) {e : TypeId} {z : Value} {size bytes base : Nat}
    (ho : o.op = .call { callee := .builtin .append, args := #[s, x], argTypes := #[t, t] }) (T : SliceOf P t e z size bytes) {v : Value} {n : Nat} {xs : List Value} (hv : a.eval s = v) (hown : w.ownsRow base e size v n xs)
    {A : Option Addr} {m c : Nat} {news : List Value} (hx : a.eval x = .slice A m c) (hs : SrcAt w size A m news) (h63 : n + m ≤ maxLen) (hb : (n + m) * bytes ≤ 140737488355328) (hbase : base ≤ w.heap.size)
    (h : ∀ v' w', AppPost w base e size v (n + m) (xs ++ news) v' w' → K (a.put o.dst v') w') : if Region.wanted o (yielded ops a.tmps) = true then Oper.wp P o a w K Q else E := by
  have hw : Region.wanted o (yielded ops a.tmps) = true := by simp [Region.wanted, hgd]
  rw [if_pos hw]
  exact wp_app s x t ho T hv hown hx hs h63 hb hbase h
theorem Tryz.slice22 : SliceOf Tryz.prog 22 9 (.string ⟨#[]⟩) 1 16 := by
  obtain ⟨i0, hi, hz0, hz1, hz2⟩ := info_parts Tryz.info9
  exact ⟨Tryz.underlying22, ⟨i0, hi, hz0, hz1, hz2⟩, rfl, by decide⟩
theorem Reads.src {w : World} {G : Nat → Prop} {ao : Option Addr} {n c : Nat} {l : List ByteArray} (h : Reads w G (.slice ao n c) l) : n = l.length ∧ SrcAt w 1 ao n (l.map Value.string) := by
  obtain ⟨ao', c', hv, hc⟩ := h
  cases hv
  refine ⟨rfl, by simp, fun u hu => by obtain ⟨s, _, rfl⟩ := List.mem_map.1 hu; rfl, fun j u hu => ?_⟩
  rw [List.getElem?_map] at hu
  obtain ⟨s, hs, rfl⟩ := Option.map_eq_some_iff.1 hu
  obtain ⟨g, off, rfl, _, hcell⟩ := hc j s hs
  refine ⟨_, rfl, ?_⟩
  have : (⟨g, off, none⟩ : Addr).add j = ⟨g, off + j, none⟩ := by unfold Addr.add; split <;> simp_all
  rw [this]; exact hcell
theorem own_fresh {w : World} {base g : Nat} {e : TypeId} {size : Nat} (h : w.heap[g]? = some (.cells #[] e (0, 0))) (hb : base ≤ g) : w.ownsRow base e size (.slice (some ⟨g, 0, none⟩) 0 0) 0 [] :=
  ⟨by simp, .inr ⟨g, 0, #[], rfl, hb, h, Nat.le_refl _, by decide, by simp, by simp⟩⟩
theorem src_one {w : World} {g : Nat} {u : Value} {e : TypeId} (h : w.heap[g]? = some (.cells #[u] e (0, 0))) (h1 : u.oneCell' = true) : SrcAt w 1 (some ⟨g, 0, none⟩) 1 [u] := by
  refine ⟨rfl, fun x hx => by simp at hx; subst hx; exact h1, fun j x hx => ⟨_, rfl, ?_⟩⟩
  match j, hx with
  | 0, hx => simp at hx; subst hx; simp [Addr.add, World.cell?, h]
/-! Rput -/
open Go.RowKit
/-- what holds while a name is put: nothing that was there has turned; what the rows are -/
structure RPut (w W : World) (F : Nat → Prop) (B : Nat) (L : Nat → List ByteArray) : Prop where
  fr : Fr (fun _ => False) w W
  tab : RTab W F B L
  old : ∀ b, F b → b < w.heap.size
theorem RPut.new {w W W' : World} {F : Nat → Prop} {B : Nat} {L : Nat → List ByteArray} (hf : Hid (Fr (fun g => w.heap.size ≤ g) W W')) (h : RPut w W F B L) : RPut w W' F B L :=
  ⟨⟨hf.out.os.trans h.fr.os, hf.out.tape.trans h.fr.tape, hf.out.output.trans h.fr.output, Nat.le_trans h.fr.size hf.out.size,
      fun k hk _ => (hf.out.block k (Nat.lt_of_lt_of_le hk h.fr.size) (fun e => by omega)).trans (h.fr.block k hk (fun x => x))⟩,
    h.tab.same hf.out (fun k hk e => by have := h.old k hk; omega), h.old⟩
theorem rput_keep {w W W' : World} {F : Nat → Prop} {B k : Nat} {L : Nat → List ByteArray} {v : Value} (hf : Hid (Fr (fun g => w.heap.size ≤ g) W W'))
    (h : Hid (RPut w W F B L) ∧ W.cell? ⟨B, k, none⟩ = some v ∧ W.frozen? ⟨B, k, none⟩ = false) : Hid (RPut w W' F B L) ∧ W'.cell? ⟨B, k, none⟩ = some v ∧ W'.frozen? ⟨B, k, none⟩ = false := by
  have hB := h.1.out.old B h.1.out.tab.inB
  have hb := hf.out.block B (lt_of_cell h.2.1) (fun e => by omega)
  exact ⟨h.1.out.new hf, (cell_of_same hb).trans h.2.1, (frozen_of_same (a := ⟨B, k, none⟩) hb).trans h.2.2⟩
theorem hp1 (W : World) (o : Obj) : (W.alloc o).heap[W.heap.size]? = some o := heap_alloc_new W o
theorem hp2 (W : World) (o o' : Obj) : ((W.alloc o).alloc o').heap[W.heap.size]? = some o := (heap_alloc_old _ _ (by simp)).trans (heap_alloc_new W o)
theorem hp3 (W : World) (o o' : Obj) : ((W.alloc o').alloc o).heap[W.heap.size + 1]? = some o := by
  have := heap_alloc_new (W.alloc o') o
  simpa using this
theorem app_keeps {W w1 : World} {base : Nat} {e : TypeId} {size n : Nat} {v v' : Value} {xs : List Value} {g : Nat} (h : AppPost W base e size v n xs v' w1) (hg : v.ownBlock = some g) :
    ∀ (j : Nat) (o : Obj), W.heap[j]? = some o → j ≠ g → w1.heap[j]? = some o := fun j o hj hne =>
  (h.2.1.block j (Array.getElem?_eq_some_iff.1 hj).1 (fun e => hne (by rw [hg] at e; exact Option.some.inj e))).trans hj
theorem own_slice {w : World} {base n : Nat} {e : TypeId} {size : Nat} {v : Value} {xs : List Value} (h : w.ownsRow base e size v n xs) : ∃ ao c, v = .slice ao n c := by
  rcases h.2 with ⟨rfl, rfl⟩ | ⟨g, cap, cur, rfl, _⟩
  · exact ⟨_, _, rfl⟩
  · exact ⟨_, _, rfl⟩
/-- what holds while a name is put, with the row's own cell -/
def SP (w W : World) (F : Nat → Prop) (B k : Nat) (L : Nat → List ByteArray) (v : Value) : Prop := RPut w W F B L ∧ W.cell? ⟨B, k, none⟩ = some v ∧ W.frozen? ⟨B, k, none⟩ = false
theorem SP.new {w W W' : World} {F : Nat → Prop} {B k : Nat} {L : Nat → List ByteArray} {v : Value} (h : SP w W F B k L v) (hf : Fr (fun g => w.heap.size ≤ g) W W') : SP w W' F B k L v := by
  have hB := h.1.old B h.1.tab.inB
  have hb := hf.block B (lt_of_cell h.2.1) (fun e => by omega)
  exact ⟨h.1.new hf, (cell_of_same hb).trans h.2.1, (frozen_of_same (a := ⟨B, k, none⟩) hb).trans h.2.2⟩
theorem sp1 {w W : World} {F : Nat → Prop} {B k : Nat} {L : Nat → List ByteArray} {v : Value} (h : SP w W F B k L v) (o : Obj) : SP w (W.alloc o).drew F B k L v := h.new ((Fr.of_alloc _ _ _).trans (Fr.of_drew _ _))
theorem sp2 {w W : World} {F : Nat → Prop} {B k : Nat} {L : Nat → List ByteArray} {v : Value} (h : SP w W F B k L v) (o o' : Obj) : SP w ((W.alloc o).alloc o').drew F B k L v :=
  h.new (((Fr.of_alloc _ _ _).trans (Fr.of_alloc _ _ _)).trans (Fr.of_drew _ _))
theorem sp3 {w W : World} {F : Nat → Prop} {B k : Nat} {L : Nat → List ByteArray} {v : Value} (h : SP w W F B k L v) (o : Obj) : SP w (W.alloc o) F B k L v := h.new (Fr.of_alloc _ _ _)
theorem Fr.of_app {W w1 : World} {base n : Nat} {e : TypeId} {size : Nat} {v v' : Value} {xs : List Value} (h : AppPost W base e size v n xs v' w1) (hv : ∀ g, v.ownBlock = some g → base ≤ g) : Fr (fun g => base ≤ g) W w1 :=
  (Fr.of_grown h.2.1).mono (fun g _ hg => hv g hg)
theorem own45 {w1 : World} {base n : Nat} {v : Value} {xs : List Value} (h : Hid (w1.ownsRow base 9 1 v n xs)) : w1.ownsRow base 9 1 v n xs := h.out
theorem keep45 {W w1 : World} {g : Nat} (h : Hid (∀ (j : Nat) (o : Obj), W.heap[j]? = some o → j ≠ g → w1.heap[j]? = some o)) {j : Nat} {o : Obj} (hj : W.heap[j]? = some o) (hne : j ≠ g) : w1.heap[j]? = some o := h.out j o hj hne
theorem of_app48 {W w1 w2 : World} {base n m : Nat} {v v' : Value} {xs ys : List Value} (hq : AppPost W base 9 1 v m ys v' w2) (h : Hid (w1.ownsRow base 9 1 v n xs)) : Fr (fun g => base ≤ g) W w2 :=
  Fr.of_app hq (fun g hg => ((own45 h).lt g hg).1)
theorem sp48 {w W w2 : World} {F : Nat → Prop} {B k : Nat} {L : Nat → List ByteArray} {v : Value} (h : Hid (SP w W F B k L v)) (hf : Fr (fun g => w.heap.size ≤ g) W w2) : SP w w2 F B k L v := h.out.new hf
theorem sp48a {w W w2 : World} {F : Nat → Prop} {B k : Nat} {L : Nat → List ByteArray} {v : Value} {o : Obj} (h : Hid (SP w W F B k L v)) (hf : Fr (fun g => w.heap.size ≤ g) (W.alloc o) w2) : SP w w2 F B k L v := (sp3 h.out o).new hf
theorem app45 {W w1 : World} {base n g : Nat} {v1 : Value} {xs : List Value} (h : AppPost W base 9 1 (.slice (some ⟨g, 0, none⟩) 0 0) (0 + n) ([] ++ xs) v1 w1) (hb : base ≤ g) :
    ∃ ao c, v1 = .slice ao n c ∧ Hid (w1.ownsRow base 9 1 (.slice ao n c) n xs) ∧ Hid (∀ (j : Nat) (o : Obj), W.heap[j]? = some o → j ≠ g → w1.heap[j]? = some o) ∧ Fr (fun g => base ≤ g) W w1 := by
  rw [Nat.zero_add, List.nil_append] at h
  obtain ⟨ao, c, rfl⟩ := own_slice h.1
  exact ⟨ao, c, rfl, h.1, app_keeps h rfl, Fr.of_app h (fun g' hg => by simp [Value.ownBlock] at hg; omega)⟩
theorem app48 {w W w1 w2 : World} {n : Nat} {a : Option Addr} {c : Nat} {v2 : Value} {xs ys : List Value} {F : Nat → Prop} {B k : Nat} {L : Nat → List ByteArray} {v : Value}
    (hq : AppPost W w.heap.size 9 1 (.slice a n c) (n + 1) ys v2 w2) (ho : Hid (w1.ownsRow w.heap.size 9 1 (.slice a n c) n xs)) (hp : Hid (SP w w1 F B k L v)) (hW : W = w1 ∨ ∃ o, W = w1.alloc o) :
    ∃ ao c, v2 = .slice ao (n + 1) c ∧ Hid (w2.ownsRow w.heap.size 9 1 (.slice ao (n + 1) c) (n + 1) ys) ∧ w2.cell? ⟨B, k, none⟩ = some v ∧ w2.frozen? ⟨B, k, none⟩ = false ∧ Hid (SP w w2 F B k L v) := by
  have hfr := of_app48 hq ho
  obtain ⟨ao, c, rfl⟩ := own_slice hq.1
  have hs : SP w w2 F B k L v := by
    rcases hW with rfl | ⟨o, rfl⟩
    · exact sp48 hp hfr
    · exact sp48a hp hfr
  exact ⟨ao, c, rfl, hq.1, hs.2.1, hs.2.2, hs⟩
theorem radd_fin {w w2 : World} {F : Nat → Prop} {B k n : Nat} {L : Nat → List ByteArray} {v : Value} {s : ByteArray} {ao : Option Addr} {c : Nat} (h : RTab w F B L) (hp : Hid (SP w w2 F B k L v))
    (ho : Hid (w2.ownsRow w.heap.size 9 1 (.slice ao (n + 1) c) (n + 1) ((L k).map Value.string ++ [.string s]))) (hn : (L k).length = n) (hk : k < 6) :
    Fr F w (w2.setCell ⟨B, k, none⟩ (.slice ao (n + 1) c)) ∧ RTab (w2.setCell ⟨B, k, none⟩ (.slice ao (n + 1) c)) (grown F w (w2.setCell ⟨B, k, none⟩ (.slice ao (n + 1) c))) B (addL L k s) := by
  have hB := h.old B h.inB
  have hfr := hp.out.1.fr
  have hset : Fr (fun b => b = B) w2 (w2.setCell ⟨B, k, none⟩ (.slice ao (n + 1) c)) := (Fr.of_setCell _ _ _).mono (fun _ _ e => e)
  have hsz : (w2.setCell ⟨B, k, none⟩ (.slice ao (n + 1) c)).heap.size = w2.heap.size := by simp [World.setCell]
  have hF : Fr F w (w2.setCell ⟨B, k, none⟩ (.slice ao (n + 1) c)) := (hfr.mono (fun _ _ x => x.elim)).trans (hset.mono (fun b _ e => by rw [e]; exact h.inB))
  refine ⟨hF, ?_⟩
  obtain ⟨arr, vs, hb, hs, hk'⟩ := hp.out.1.tab.lies
  refine ⟨?_, Or.inl h.inB, arr.setIfInBounds k (.slice ao (n + 1) c), fun j => if j = k then .slice ao (n + 1) c else vs j, ?_, by simpa using hs, ?_⟩
  · intro b hb'
    rcases hb' with hb' | hb'
    · exact Nat.lt_of_lt_of_le (h.old b hb') hF.size
    · exact hb'.2
  · simp only [World.setCell, Array.getElem?_modify]
    simp [hb]
  · intro j hj
    by_cases e : j = k
    · subst e
      simp only [if_true]
      refine ⟨by rw [Array.getElem?_setIfInBounds, if_pos rfl, if_pos (by omega)], ?_⟩
      rw [addL_same]
      have hr : Reads w2 (fun g => w.heap.size ≤ g) (.slice ao (n + 1) c) (L j ++ [s]) := Reads.of_row (n := n + 1) (by simpa using ho.out)
      have hr2 := hr.same hset (fun g hg e => by omega)
      refine hr2.mono (fun g hg h1 => ⟨Or.inr ⟨h1, hg⟩, by omega⟩)
    · simp only [e, if_false]
      refine ⟨by rw [Array.getElem?_setIfInBounds, if_neg (fun x => e x.symm)]; exact (hk' j hj).1, ?_⟩
      rw [addL_other L s e]
      exact ((hk' j hj).2.same hset (fun g hg e => hg.2 e)).mono (fun g _ hg => ⟨Or.inl hg.1, hg.2⟩)
set_option maxHeartbeats 2000000 in
set_option maxRecDepth 100000 in
theorem radd_any (k B : Nat) (s : ByteArray) {w : World} {F : Nat → Prop} {L : Nat → List ByteArray} (h : RTab w F B L) (hfew : ∀ k, (L k).length ≤ 4000) (hk1 : 1 ≤ k) (hk5 : k ≤ 5) (hf : (L k).length < 4000) (hs : s.size ≤ 24) (hm : mayB s.data.toList = true) (hn : numS L k s = 0) :
    Calls Tryz.prog 50 #[.pointer (some ⟨B, 0, none⟩), .int .i64 k, .string s] w fun e w' => e = .returned (.tuple #[.int .u16 ((k : Int) * 8192 + ((L k).length + 1)), .int .i64 0]) ∧ Fr F w w' ∧ RTab w' (grown F w w') B (addL L k s) := by
  have hki : (k : Int) < 6 := by omega
  have hki0 : 0 ≤ (k : Int) := by omega
  have hkn : ¬ (k : Int) < 1 := by omega
  have hkm : ¬ 5 < (k : Int) := by omega
  have hl4 : ¬ (4000 : Int) ≤ (L k).length := by omega
  obtain ⟨ao, c, hc, hrd⟩ := h.row (show k < 6 by omega)
  have HM := Lib.hid hm
  have hss : s.size ≤ maxLen := by unfold maxLen; omega
  have HF : Hid (∀ W, RTab W F B L → Calls Tryz.prog 31 #[.pointer (some ⟨B, 0, none⟩), .int .i64 k, .string s] W fun e w' => e = .returned (.tuple #[.int .u16 0, .bool false]) ∧ W = w') := fun W hW => by
    have := rfind_any hW hfew (k : Int) s
    rw [hn] at this
    simpa [foundV] using this
  have H := Lib.hid h
  have HRD := Lib.hid hrd
  have hB := h.old B h.inB
  have hfz : w.frozen? ⟨B, k, none⟩ = false := by obtain ⟨arr, vs, hb, _⟩ := h.lies; exact frozen_arr hb k
  generalize hl : (L k).length = n at *
  have HL := Lib.hid hl
  have HS0 : Hid (SP w w F B k L (.slice ao n c)) := ⟨⟨Fr.refl _ _, h, h.old⟩, hc, hfz⟩
  have hsl := Tryz.slice22
  have HSL := Lib.hid hsl
  clear h hrd hm hn hl hsl hfew
  go_enter Tryz.func50, Tryz.ntmps50
  go_wp2_with (first | (go_at_call 77; refine (rmay_any s _ hss).mono ?_; rintro e w' ⟨rfl, rfl⟩; rw [HM.out]) | (go_at_call 31; refine (HF.out _ H.out).mono ?_; rintro e w' ⟨rfl, rfl⟩))
  go_region_law (first
      | (refine step_app rfl (.tmp 38) (.tmp 44) 22 rfl HSL.out (v := .slice (some ⟨_, 0, none⟩) 0 0) (n := 0) (xs := []) (base := w.heap.size) (news := (L k).map Value.string) rfl ?_ rfl ?_ ?_ ?_ ?_ ?_
         (first | (refine own_fresh (hp1 w _) ?_; omega) | (refine own_fresh (hp2 w _ _) ?_; omega) | (refine own_fresh (hp3 w _ _) ?_; omega))
         (first | exact (HRD.out.same (sp1 HS0.out _).1.fr (fun _ _ x => x)).src.2 | exact (HRD.out.same (sp2 HS0.out _ _).1.fr (fun _ _ x => x)).src.2)
         (unfold maxLen; omega)
         (omega)
         (simp <;> omega)
         intro v1 w1 hp
         obtain ⟨ao1, c1, rfl, HO1, HK1, hfr1⟩ := app45 hp (by omega)
         have hsp1 : SP w w1 F B k L (.slice ao n c) := by first | exact (sp1 HS0.out _).new hfr1 | exact (sp2 HS0.out _ _).new hfr1
         have hc1 := hsp1.2.1
         have hf1 := hsp1.2.2
         have HP1 := Lib.hid hsp1
         have hsz1 := hsp1.1.fr.size
         have HFR1 := Lib.hid hfr1
         clear hp hsp1 hfr1)
      | (refine step_app rfl (.tmp 45) (.tmp 47) 22 rfl HSL.out (v := .slice _ n _) (n := n) (xs := (L k).map Value.string) (base := w.heap.size) (news := [.string s]) rfl ?_ rfl ?_ ?_ ?_ ?_ ?_
         (first | (refine own45 ?_; assumption) | (refine World.ownsRow.alloc (own45 ?_) _; assumption))
         (refine src_one (e := 9) ?_ rfl
          first
            | exact hp1 _ _
            | exact keep45 (by assumption) (by first | exact hp2 w _ _ | exact hp3 w _ _) (by simp))
         (unfold maxLen; omega)
         (omega)
         go_must (first | assumption | (simp <;> omega))
         intro v2 w2 hq
         obtain ⟨ao2, c2, rfl, HO2, hc2, hf2, HP2⟩ := app48 hq (by assumption) (by assumption) (by first | exact Or.inl rfl | exact Or.inr ⟨_, rfl⟩)
         clear hq))
  all_goals
    go_wp2_with (go_at_call 60; refine (rof_any _ _ _ (by omega) (by omega) (by omega) (by omega)).mono ?_; rintro e w' ⟨rfl, rfl⟩)
    go_ret2
    exact ⟨rfl, radd_fin H.out (by assumption) (by assumption) HL.out (by omega)⟩
/-- what Put of the reference leaves -/
def RPutPost (w : World) (F : Nat → Prop) (B : Nat) (L : Nat → List ByteArray) (kind : Int) (s : ByteArray) (e : Ending) (w' : World) : Prop :=
  e = .returned (.tuple #[.int .u16 (putA L kind s), .int .i64 (putE L kind s)]) ∧ Fr F w w' ∧ RTab w' (grown F w w') B (putL L kind s)
theorem RPutPost.still {w : World} {F : Nat → Prop} {B : Nat} {L : Nat → List ByteArray} {kind : Int} {s : ByteArray} (h : RTab w F B L) (hp : putL L kind s = L)
    {a e : Int} (ha : putA L kind s = a) (he : putE L kind s = e) : RPutPost w F B L kind s (.returned (.tuple #[.int .u16 a, .int .i64 e])) w :=
  ⟨by rw [ha, he], Fr.refl _ _, by rw [hp, grown_same]; exact h⟩
set_option maxHeartbeats 2000000 in
set_option maxRecDepth 100000 in
theorem rput_any {w : World} {F : Nat → Prop} {B : Nat} {L : Nat → List ByteArray} (h : RTab w F B L) (hfew : ∀ k, (L k).length ≤ 4000) (kind : Int) (s : ByteArray) (hs : s.size ≤ maxLen) :
    Calls Tryz.prog 50 #[.pointer (some ⟨B, 0, none⟩), .int .i64 kind, .string s] w (RPutPost w F B L kind s) := by
  by_cases hkk : 1 ≤ kind ∧ kind ≤ 5
  rotate_left
  · have he : putE L kind s = 1 := by simp [putE, hkk]
    have HQ := Lib.hid (RPutPost.still (kind := kind) (s := s) (a := 0) h (by simp [putL, he]) (by simp [putA, he]) he)
    by_cases h1 : kind < 1
    · clear hkk he h hfew
      go_enter Tryz.func50, Tryz.ntmps50
      go_wp2
      go_ret2
      exact HQ.out
    · have h2 : 5 < kind := by omega
      clear hkk he h hfew
      go_enter Tryz.func50, Tryz.ntmps50
      go_wp2
      go_ret2
      exact HQ.out
  have hk1 : ¬ kind < 1 := by omega
  have hk5 : ¬ 5 < kind := by omega
  cases hm : mayB s.data.toList
  · have he : putE L kind s = 2 := by simp [putE, hkk, hm]
    have HQ := Lib.hid (RPutPost.still (kind := kind) (s := s) (a := 0) h (by simp [putL, he]) (by simp [putA, he]) he)
    clear hkk he h hfew
    go_enter Tryz.func50, Tryz.ntmps50
    go_wp2_with (go_at_call 77; refine (rmay_any _ _ hs).mono ?_; rintro e w' ⟨rfl, rfl⟩)
    go_ret2
    exact HQ.out
  have HF := Lib.hid (rfind_any h hfew kind s)
  by_cases hn : numS L kind s = 0
  rotate_left
  · have he : putE L kind s = 0 := by simp [putE, hkk, hm, hn]
    have HQ := Lib.hid (RPutPost.still (kind := kind) (s := s) (a := kind * 8192 + numS L kind s) h (by simp [putL, he, hn]) (by simp [putA, he, hn]) he)
    have e1 : foundV kind (numS L kind s) = .tuple #[.int .u16 (kind * 8192 + numS L kind s), .bool true] := by simp [foundV, hn]
    rw [e1] at HF
    generalize numS L kind s = n at *
    clear he h e1 hfew hkk
    go_enter Tryz.func50, Tryz.ntmps50
    go_wp2_with (first | (go_at_call 77; refine (rmay_any _ _ hs).mono ?_; rintro e w' ⟨rfl, rfl⟩) | (go_at_call 31; refine HF.out.mono ?_; rintro e w' ⟨rfl, rfl⟩))
    go_ret2
    exact HQ.out
  obtain ⟨k, rfl⟩ := Int.eq_ofNat_of_zero_le (show 0 ≤ kind by omega)
  have hf := hfew k
  by_cases hlen : (L k).length = 4000
  · have he : putE L (k : Int) s = 3 := by simp only [putE, hkk, hm, hn]; simp [hlen]
    have HQ := Lib.hid (RPutPost.still (kind := k) (s := s) (a := 0) h (by simp [putL, he]) (by simp [putA, he]) he)
    have e1 : foundV (k : Int) (numS L (k : Int) s) = .tuple #[.int .u16 0, .bool false] := by simp [foundV, hn]
    rw [e1] at HF
    obtain ⟨ao, c, hc, _⟩ := h.row (show k < 6 by omega)
    rw [hlen] at hc
    have hki : (k : Int) < 6 := by omega
    have hki0 : 0 ≤ (k : Int) := by omega
    clear he h e1 hlen hf hn hfew hkk
    go_enter Tryz.func50, Tryz.ntmps50
    go_wp2_with (first | (go_at_call 77; refine (rmay_any _ _ hs).mono ?_; rintro e w' ⟨rfl, rfl⟩) | (go_at_call 31; refine HF.out.mono ?_; rintro e w' ⟨rfl, rfl⟩))
    go_ret2
    exact HQ.out
  · have he : putE L (k : Int) s = 0 := by simp only [putE, hkk, hm, hn]; simp [hlen]
    have ha : putA L (k : Int) s = k * 8192 + ((L k).length + 1) := by simp [putA, he, hn]
    have hl : putL L (k : Int) s = addL L k s := by simp [putL, he, hn]
    refine (radd_any k B s h hfew (by omega) (by omega) (by omega) (may_size hm) hm hn).mono fun e w' ⟨h1, h2, h3⟩ => ⟨by rw [ha, he]; exact h1, h2, by rw [hl]; exact h3⟩
/-! Rmore -/
open Go.RowKit
set_option maxHeartbeats 2000000 in
set_option maxRecDepth 100000 in
theorem rname_any {w : World} {F : Nat → Prop} {B : Nat} {L : Nat → List ByteArray} (h : RTab w F B L) (hfew : ∀ k, (L k).length ≤ 4000) (a : Int) (h0 : 0 ≤ a) (h1 : a ≤ 65535) :
    Calls Tryz.prog 40 #[.pointer (some ⟨B, 0, none⟩), .int .u16 a] w fun e w' => e = .returned (nameV (nameOf L a)) ∧ w = w' := by
  by_cases ha : a = 1
  · subst ha
    clear h hfew
    go_enter Tryz.func40, Tryz.ntmps40
    go_wp2
    go_ret2
    exact ⟨rfl, rfl⟩
  have ha' : (a == 1) = false := by simpa using ha
  have HK : Hid (∀ w, Calls Tryz.prog 42 #[.int .u16 a] w fun e w' => e = .returned (.int .i64 (a / 8192)) ∧ w = w') := fun w => rkind_any a w h0 h1
  have HN : Hid (∀ w, Calls Tryz.prog 76 #[.int .u16 a] w fun e w' => e = .returned (.int .i64 (a % 8192)) ∧ w = w') := fun w => rnumber_any a w h0 h1
  have hk0 : 0 ≤ a / 8192 := by omega
  have hn0 : 0 ≤ a % 8192 := by omega
  have hn9 : a % 8192 ≤ 8191 := by omega
  have hk7 : a / 8192 ≤ 7 := by omega
  have en : nameOf L a = if 1 ≤ a / 8192 ∧ a / 8192 ≤ 5 ∧ 1 ≤ a % 8192 then (L (a / 8192).toNat)[(a % 8192).toNat - 1]? else none := by
    unfold nameOf; rw [if_neg ha]
  rw [en]
  generalize a / 8192 = kd at *
  generalize a % 8192 = nm at *
  clear en ha
  by_cases hk : 1 ≤ kd ∧ kd ≤ 5
  rotate_left
  · rw [if_neg (fun hh => hk ⟨hh.1, hh.2.1⟩)]
    clear h hfew
    by_cases hk1 : kd < 1
    · clear hk
      go_enter Tryz.func40, Tryz.ntmps40
      go_wp2_with (first | (go_at_call 42; refine (HK.out _).mono ?_; rintro e w' ⟨rfl, rfl⟩) | (go_at_call 76; refine (HN.out _).mono ?_; rintro e w' ⟨rfl, rfl⟩))
      go_ret2
      exact ⟨rfl, rfl⟩
    · have hk5 : 5 < kd := by omega
      clear hk
      go_enter Tryz.func40, Tryz.ntmps40
      go_wp2_with (first | (go_at_call 42; refine (HK.out _).mono ?_; rintro e w' ⟨rfl, rfl⟩) | (go_at_call 76; refine (HN.out _).mono ?_; rintro e w' ⟨rfl, rfl⟩))
      go_ret2
      exact ⟨rfl, rfl⟩
  obtain ⟨k, rfl⟩ := Int.eq_ofNat_of_zero_le hk0
  obtain ⟨n, rfl⟩ := Int.eq_ofNat_of_zero_le hn0
  have hk1 : ¬ (k : Int) < 1 := by omega
  have hk5 : ¬ 5 < (k : Int) := by omega
  have hki : (k : Int) < 6 := by omega
  by_cases hn1 : (n : Int) < 1
  · rw [if_neg (fun hh => by omega)]
    clear h hfew hk
    go_enter Tryz.func40, Tryz.ntmps40
    go_wp2_with (first | (go_at_call 42; refine (HK.out _).mono ?_; rintro e w' ⟨rfl, rfl⟩) | (go_at_call 76; refine (HN.out _).mono ?_; rintro e w' ⟨rfl, rfl⟩))
    go_ret2
    exact ⟨rfl, rfl⟩
  obtain ⟨j, rfl⟩ : ∃ j, n = j + 1 := ⟨n - 1, by omega⟩
  rw [if_pos ⟨hk.1, hk.2, by omega⟩]
  simp only [Int.toNat_natCast, Nat.add_sub_cancel]
  obtain ⟨ao, c, hc, hrd⟩ := h.row (show k < 6 by omega)
  obtain ⟨ao', c', he, hcell⟩ := hrd
  cases he
  have hf := hfew k
  by_cases hlt : j < (L k).length
  · obtain ⟨s, hs⟩ : ∃ s, (L k)[j]? = some s := ⟨_, List.getElem?_eq_getElem hlt⟩
    obtain ⟨g, off, rfl, _, hcj⟩ := hcell j s hs
    rw [hs]
    generalize (L k).length = len at *
    have hjl : ¬ (len : Int) < ((j + 1 : Nat) : Int) := by omega
    clear hcell hs h hfew hk
    go_enter Tryz.func40, Tryz.ntmps40
    go_wp2_with (first | (go_at_call 42; refine (HK.out _).mono ?_; rintro e w' ⟨rfl, rfl⟩) | (go_at_call 76; refine (HN.out _).mono ?_; rintro e w' ⟨rfl, rfl⟩))
    go_ret2
    exact ⟨rfl, rfl⟩
  · rw [List.getElem?_eq_none (by omega)]
    generalize (L k).length = len at *
    have hjl : (len : Int) < ((j + 1 : Nat) : Int) := by omega
    clear hcell h hfew hk
    go_enter Tryz.func40, Tryz.ntmps40
    go_wp2_with (first | (go_at_call 42; refine (HK.out _).mono ?_; rintro e w' ⟨rfl, rfl⟩) | (go_at_call 76; refine (HN.out _).mono ?_; rintro e w' ⟨rfl, rfl⟩))
    go_ret2
    exact ⟨rfl, rfl⟩
/-! BackP -/
/-- what holds of the names of every table -/
def GoodL (L : Nat → List ByteArray) : Prop := (∀ k, (L k).Nodup) ∧ (∀ k, (L k).length ≤ 4000) ∧ (∀ k s, s ∈ L k → mayB s.data.toList = true) ∧ L 0 = []
theorem Tab.goodL {w : World} {F : Nat → Prop} {B : Nat} {L : Nat → List ByteArray} (h : Tab w F B L) : GoodL L := ⟨h.nodup, h.few, h.good, h.none0⟩
/-! Rload -/
open Go.RowKit
theorem GoodL.add {L : Nat → List ByteArray} (h : GoodL L) {k : Nat} {s : ByteArray} (hk1 : 1 ≤ k) (hn : s ∉ L k) (hm : mayB s.data.toList = true) (hl : (L k).length < 4000) : GoodL (addL L k s) := by
  refine ⟨fun j => ?_, fun j => ?_, fun j t ht => ?_, ?_⟩
  · by_cases hj : j = k
    · subst hj; rw [addL_same, List.nodup_append]
      exact ⟨h.1 j, by simp, fun a ha b hb' => by simp at hb'; subst hb'; exact fun e => hn (e ▸ ha)⟩
    · rw [addL_other L s hj]; exact h.1 j
  · by_cases hj : j = k
    · subst hj; rw [addL_same]; simp; omega
    · rw [addL_other L s hj]; exact h.2.1 j
  · by_cases hj : j = k
    · subst hj; rw [addL_same, List.mem_append] at ht
      rcases ht with ht | ht
      · exact h.2.2.1 j t ht
      · simp at ht; subst ht; exact hm
    · rw [addL_other L s hj] at ht; exact h.2.2.1 j t ht
  · rw [addL_other L s (by omega)]; exact h.2.2.2
theorem put_new {L : Nat → List ByteArray} (h : GoodL L) {k : Nat} {s : ByteArray} (hk1 : 1 ≤ k) (hk5 : k ≤ 5) (he : putE L (k : Int) s = 0) (hn : numS L (k : Int) s = 0) :
    putL L (k : Int) s = addL L k s ∧ GoodL (addL L k s) := by
  have hkk : (1 : Int) ≤ k ∧ (k : Int) ≤ 5 := by omega
  have hnew : s ∉ L k := by
    have := hn; unfold numS at this; rw [if_pos hkk, posOf_none] at this; simpa using this
  have hf := h.2.1 k
  unfold putE at he
  rw [if_neg (fun x => x hkk)] at he
  split at he
  · omega
  · rename_i hm
    rw [if_neg (by simp [hn])] at he
    split at he
    · omega
    · rename_i hl
      simp at hl
      exact ⟨by unfold putL; rw [if_pos ⟨by unfold putE; rw [if_neg (fun x => x hkk), if_neg hm, if_neg (by simp [hn]), if_neg (by simpa using hl)], hn⟩]; simp, h.add hk1 hnew (by simpa using hm) (by omega)⟩
theorem put_known {L : Nat → List ByteArray} (h : GoodL L) {k : Nat} {s : ByteArray} (hk1 : 1 ≤ k) (hk5 : k ≤ 5) (hn : numS L (k : Int) s ≠ 0) : putE L (k : Int) s = 0 ∧ putL L (k : Int) s = L := by
  have hkk : (1 : Int) ≤ k ∧ (k : Int) ≤ 5 := by omega
  have hmem : s ∈ L k := by
    unfold numS at hn; rw [if_pos hkk] at hn
    simp only [Int.toNat_natCast] at hn
    rcases hp : posOf (L k) s with _ | m
    · exact absurd hp hn
    · exact List.mem_of_getElem? (posOf_get hp)
  have hm := h.2.2.1 k s hmem
  constructor
  · unfold putE; rw [if_neg (fun x => x hkk), if_neg (by simp [hm]), if_pos hn]
  · unfold putL; rw [if_neg (fun x => hn x.2)]
/-- what holds while Load runs -/
structure RInv (w wr : World) (v : Nat → Value) (B : Nat) (L : Nat → List ByteArray) (F : Nat → Prop) : Prop where
  tab : RTab wr F B L
  low : ∀ j, F j → w.heap.size < j
  fr : Fr (fun _ => False) w wr
  box : wr.heap[w.heap.size]? = some (.cells #[v 0, v 1, v 2, v 3, v 4, v 5] 23 (0, 0))
  good : GoodL L
theorem RInv.put {w wr w' : World} {v : Nat → Value} {B : Nat} {L L' : Nat → List ByteArray} {F : Nat → Prop} (h : RInv w wr v B L F) (hf : Fr F wr w') (ht : RTab w' (grown F wr w') B L') (hg : GoodL L') :
    RInv w w' v B L' (grown F wr w') := by
  have hs : w.heap.size < wr.heap.size := (Array.getElem?_eq_some_iff.1 h.box).1
  refine ⟨ht, ?_, ?_, ?_, hg⟩
  · intro j hj
    rcases hj with hj | hj
    · exact h.low j hj
    · omega
  · refine ⟨hf.os.trans h.fr.os, hf.tape.trans h.fr.tape, hf.output.trans h.fr.output, Nat.le_trans h.fr.size hf.size, fun k hk _ => ?_⟩
    exact (hf.block k (by omega) (fun hF => by have := h.low k hF; omega)).trans (h.fr.block k hk (fun x => x))
  · exact (hf.block _ hs (fun hF => by have := h.low _ hF; omega)).trans h.box
theorem RInv.after {w wr w' : World} {v : Nat → Value} {B : Nat} {L : Nat → List ByteArray} {F : Nat → Prop} (h : RInv w wr v B L F) (hf : Fr F wr w') : Fr (fun _ => False) w w' := by
  have hs : w.heap.size < wr.heap.size := (Array.getElem?_eq_some_iff.1 h.box).1
  refine ⟨hf.os.trans h.fr.os, hf.tape.trans h.fr.tape, hf.output.trans h.fr.output, Nat.le_trans h.fr.size hf.size, fun k hk _ => ?_⟩
  exact (hf.block k (by omega) (fun hF => by have := h.low k hF; omega)).trans (h.fr.block k hk (fun x => x))
theorem RInv.cell {w wr : World} {v : Nat → Value} {B : Nat} {L : Nat → List ByteArray} {F : Nat → Prop} (h : RInv w wr v B L F) {k : Nat} (hk : k < 6) : wr.cell? ⟨w.heap.size, k, none⟩ = some (v k) := by
  rw [cell_arr h.box]
  match k, hk with
  | 0, _ => rfl
  | 1, _ => rfl
  | 2, _ => rfl
  | 3, _ => rfl
  | 4, _ => rfl
  | 5, _ => rfl
theorem goodL_no : GoodL noL := ⟨fun k => by simp [noL], fun k => by simp [noL], fun k s h => by simp [noL] at h, rfl⟩
theorem rinv_start (w : World) (v : Nat → Value) :
    RInv w ((w.alloc (.cells #[v 0, v 1, v 2, v 3, v 4, v 5] 23)).alloc (.cells #[.slice none 0 0, .slice none 0 0, .slice none 0 0, .slice none 0 0, .slice none 0 0, .slice none 0 0] 98)) v (w.heap.size + 1) noL (fun b => b = w.heap.size + 1) := by
  refine ⟨⟨?_, rfl, #[.slice none 0 0, .slice none 0 0, .slice none 0 0, .slice none 0 0, .slice none 0 0, .slice none 0 0], fun _ => .slice none 0 0, hp3 w _ _, rfl, ?_⟩, ?_, (Fr.of_alloc _ _ _).trans (Fr.of_alloc _ _ _), hp2 w _ _, goodL_no⟩
  · intro b hb; subst hb; simp
  · intro k hk
    refine ⟨?_, none, 0, rfl, fun i s hi => by simp [noL] at hi⟩
    match k, hk with
    | 0, _ => rfl
    | 1, _ => rfl
    | 2, _ => rfl
    | 3, _ => rfl
    | 4, _ => rfl
    | 5, _ => rfl
  · intro j hj; subst hj; omega
/-- what Load leaves -/
def RLoadPost (w : World) (src : Nat → List ByteArray) (e : Ending) (w' : World) : Prop :=
  Fr (fun _ => False) w w' ∧
  (((loadS src).1 = 0 ∧ ∃ B F, e = .returned (.tuple #[.pointer (some ⟨B, 0, none⟩), .int .i64 0]) ∧ RTab w' F B (loadS src).2 ∧ GoodL (loadS src).2 ∧ ∀ k, F k → w.heap.size ≤ k) ∨
   ((loadS src).1 ≠ 0 ∧ e = .returned (.tuple #[.pointer none, .int .i64 (loadS src).1])))
theorem addL_len {L : Nat → List ByteArray} {k : Nat} {s : ByteArray} : (addL L k s k).length = (L k).length + 1 := by rw [addL_same]; simp
set_option maxHeartbeats 4000000 in
set_option maxRecDepth 100000 in
theorem rload_any {w : World} (v : Nat → Value) (src : Nat → List ByteArray) (hv : ∀ k, k < 6 → Reads w (fun _ => True) (v k) (src k)) (hsz : ∀ k, k < 6 → ∀ s ∈ src k, s.size ≤ maxLen)
    (hfew : ∀ k, k < 6 → (src k).length ≤ maxLen) :
    Calls Tryz.prog 27 #[.agg #[v 0, v 1, v 2, v 3, v 4, v 5]] w (RLoadPost w src) := by
  have HV := Lib.hid hv
  have HSZ := Lib.hid hsz
  have HFEW := Lib.hid hfew
  have HS := Lib.hid (rinv_start w v)
  clear hv hsz hfew
  go_enter Tryz.func27, Tryz.ntmps27
  go_wp2
  generalize hBB : w.heap.size + 1 = B at *
  clear hBB
  go_loopw [5] (fun i wr => ∃ k : Nat, 1 ≤ k ∧ k ≤ 6 ∧ i = .int .i64 k ∧ ∃ L F, RInv w wr v B L F ∧ Hid (loadS src = loadK src (6 - k) k L ∧ ∀ j, k ≤ j → L j = [])) (fun i _ => 6 - (intOf i).toNat)
  case atStart => exact ⟨1, by omega, by omega, rfl, _, _, HS.out, rfl, fun _ _ => rfl⟩
  case round =>
    obtain ⟨k, hk1, hk6, rfl, L, F, hinv, hspec⟩ := hrel
    have HI := Lib.hid hinv
    by_cases hk5 : k ≤ 5
    · have hki : (k : Int) < 6 := by omega
      have hki0 : 0 ≤ (k : Int) := by omega
      have hkle : (k : Int) ≤ 5 := by omega
      have HSP := Lib.hid hspec
      clear hinv hspec
      go_wp2
      obtain ⟨wo, rfl⟩ : ∃ wo : World, wo = wr := ⟨_, rfl⟩
      go_loopw [6] (fun i wi => ∃ j : Nat, j ≤ (src k).length ∧ i = .int .i64 j ∧ ∃ L' F', RInv w wi v B L' F' ∧ Hid (loadRow k (src k) L = loadRow k ((src k).drop j) L' ∧ (L' k).length = j ∧ ∀ m, k < m → L' m = [])) (fun i _ => (src k).length - (intOf i).toNat)
      case atStart => exact ⟨0, by omega, rfl, L, F, HI.out, by simp, by rw [HSP.out.out.2 k (Nat.le_refl k)]; rfl, fun m hm => HSP.out.out.2 m (by omega)⟩
      case round =>
        obtain ⟨j, hj, rfl, L', F', hinv', hspec'⟩ := hrel
        have HI' := Lib.hid hinv'
        have hc := hinv'.cell (show k < 6 by omega)
        obtain ⟨ao, c, hvk, hel⟩ := (HV.out k (by omega)).same hinv'.fr (fun _ _ h => h)
        rw [hvk] at hc
        have hlen := HFEW.out k (by omega)
        unfold maxLen at hlen
        by_cases hlt : j < (src k).length
        · obtain ⟨s, hs⟩ : ∃ s, (src k)[j]? = some s := ⟨_, List.getElem?_eq_getElem hlt⟩
          obtain ⟨g, off, rfl, _, hcell⟩ := hel j s hs
          have hsz := HSZ.out k (by omega) s (List.mem_of_getElem? hs)
          have hdrop : (src k).drop j = s :: (src k).drop (j + 1) := by
            obtain ⟨h1, h2⟩ := List.getElem?_eq_some_iff.1 hs
            rw [List.drop_eq_getElem_cons h1, h2]
          rw [hdrop] at hspec'
          have hji : (j : Int) < (src k).length := by omega
          have HPT := Lib.hid (rput_any hinv'.tab hinv'.good.2.1 (k : Int) s hsz)
          by_cases hnum : numS L' (k : Int) s = 0
          · by_cases hpe : putE L' (k : Int) s = 0
            · obtain ⟨hpl, hgood⟩ := put_new hinv'.good hk1 hk5 hpe hnum
              have HN : Hid (loadRow k (src k) L = loadRow k ((src k).drop (j + 1)) (addL L' k s) ∧ (addL L' k s k).length = j + 1 ∧ ∀ m, k < m → addL L' k s m = []) := by
                refine ⟨?_, ?_, ?_⟩
                · have := hspec'.out.1; simp only [loadRow, hnum, hpe] at this; rw [← hpl]; simpa using this
                · rw [addL_len, hspec'.out.2.1]
                · intro m hm; rw [addL_other L' s (by omega)]; exact hspec'.out.2.2 m hm
              have HPL := Lib.hid hpl
              have HG := Lib.hid hgood
              have HPE := Lib.hid hpe
              generalize (src k).length = n at *
              clear hnum hpe hspec' hinv' hsz hdrop hs hel hvk hpl hgood
              go_wp2_with fail
              refine HPT.out.mono ?_
              rintro e w' ⟨rfl, hfr, htab⟩
              rw [HPE.out]
              rw [HPL.out] at htab
              have hnew := HI'.out.put hfr htab HG.out
              obtain ⟨ao2, c2, hc2, _⟩ := hnew.tab.row (show k < 6 by omega)
              rw [HN.out.2.1] at hc2
              have hjj : (((j + 1 : Nat) : Int) != ((j : Int) + 1)) = false := by simp
              have HT := Lib.hid hnew
              clear hfr htab hnew hc
              go_wp2
              go_roundw
              case rel => exact ⟨j + 1, by omega, by go_num, _, _, HT.out, HN⟩
              case measure => simp [intOf]; omega
            · have HN : Hid (loadS src = (putE L' (k : Int) s, L')) := by
                refine HSP.out.out.1.trans (loadK_stop hk5 ?_ hpe)
                rw [hspec'.out.1, loadRow, if_neg (by simp [hnum]), if_pos hpe]
              have HPE := Lib.hid hpe
              have hpb : (putE L' (k : Int) s == 0) = false := by simpa using hpe
              have hpb2 : (putE L' (k : Int) s != 0) = true := by simpa using hpe
              generalize (src k).length = n at *
              clear hnum hpe hspec' hinv' hsz hdrop hs hel hvk
              go_wp2_with fail
              refine HPT.out.mono ?_
              rintro e w' ⟨rfl, hfr, htab⟩
              have HFR := Lib.hid (HI'.out.after hfr)
              clear hfr htab hc
              go_wp2
              go_ret2
              exact ⟨HFR.out, Or.inr ⟨by rw [HN.out]; exact HPE.out, by rw [HN.out]; rfl⟩⟩
          · obtain ⟨hpe, hpl⟩ := put_known hinv'.good hk1 hk5 hnum
            have HN : Hid (loadS src = (11, L')) := by
              refine HSP.out.out.1.trans (loadK_stop hk5 ?_ (by decide))
              rw [hspec'.out.1, loadRow, if_pos hnum]
            have HPL := Lib.hid hpl
            have HPE := Lib.hid hpe
            have HLN := Lib.hid hspec'.out.2.1
            generalize (src k).length = n at *
            clear hnum hpe hspec' hinv' hsz hdrop hs hel hvk hpl
            go_wp2_with fail
            refine HPT.out.mono ?_
            rintro e w' ⟨rfl, hfr, htab⟩
            rw [HPE.out]
            rw [HPL.out] at htab
            obtain ⟨ao2, c2, hc2, _⟩ := htab.row (show k < 6 by omega)
            rw [HLN.out] at hc2
            have hjj : (((j : Nat) : Int) != ((j : Int) + 1)) = true := by rw [bne_iff_ne]; omega
            have HFR := Lib.hid (HI'.out.after hfr)
            clear hfr htab hc
            go_wp2
            go_ret2
            exact ⟨HFR.out, Or.inr ⟨by rw [HN.out]; show (11 : Int) ≠ 0; decide, by rw [HN.out]; rfl⟩⟩
        · obtain rfl : j = (src k).length := by omega
          have hend : loadRow k (src k) L = (0, L') := by
            have := hspec'.out.1
            rw [List.drop_eq_nil_of_le (by omega)] at this
            exact this
          have HEND : Hid (loadS src = loadK src (6 - (k + 1)) (k + 1) L' ∧ ∀ j, k + 1 ≤ j → L' j = []) := ⟨HSP.out.out.1.trans (loadK_step hk5 hend), fun j hj => hspec'.out.2.2 j (by omega)⟩
          clear hinv' hspec' hend hel hvk
          go_wp2
          go_roundw
          case rel => exact ⟨k + 1, by omega, by omega, by go_num, L', F', HI'.out, HEND⟩
          case measure => simp [intOf]; omega
    · obtain rfl : k = 6 := by omega
      go_wp2
      go_ret2
      have hs0 : loadS src = (0, L) := hspec.out.1
      refine ⟨HI.out.fr, Or.inl ⟨by rw [hs0], B, F, rfl, by rw [hs0]; exact HI.out.tab, by rw [hs0]; exact HI.out.good, fun j hj => Nat.le_of_lt (HI.out.low j hj)⟩⟩
end Atm

end Go.Proofs.YtbfealhbdemhmaaGreatDoor
