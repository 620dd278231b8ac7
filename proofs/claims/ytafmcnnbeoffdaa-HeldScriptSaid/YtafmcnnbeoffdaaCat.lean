/-
  The contracts of slices.Grow and slices.Concat at rows of holders. Conditions: of up to 1000 holders in all, which lie in memory.
-/
import Derived.Test.YtafmcnnbeoffdaaPlace
set_option linter.unusedSimpArgs false
set_option linter.unusedVariables false
namespace Go.Proofs.Ytafmcnnbeoffdaa
open Go.RowKit

theorem info33 : (Try.prog.info? 33).map (fun i => (i.zero, i.size, i.bytes)) = some (some (hv zh), 8, 32) := by kernel_rfl
/-- Room for some holders, where there was none. -/
theorem run_zeros (w : World) (n : Nat) (ty : TypeId) (h0 : 0 < n) (hn : n ≤ 1000) : (Builtin.append_ #[24, 3] ty #[.slice none 0 0, .int .i64 (n : Int)]).run Try.prog w =
    .ok (.slice (some ⟨w.heap.size, 0, none⟩) n (grownCap w n 0 33)) (w.drew.alloc (.cells (Builtin.zeroCells (hv zh).cells n ++ Builtin.zeroCells (hv zh).cells (grownCap w n 0 33 - n)) 33)) := by
  obtain ⟨i, hi, hz0, hz1, hz2⟩ := info_parts info33
  have hne : n ≠ 0 := by omega
  have hw : IntKind.i64.wrap (n : Int) = n := by rw [IntKind.wrap_i64]; omega
  have h1 : ¬ ((n : Int) < 0) := by omega
  have h2 : ¬ (281474976710656 < (n : Int) * 32) := by omega
  have h63' : ¬ (9223372036854775807 < (n : Int)) := by omega
  have h48' : ¬ (281474976710656 < Builtin.nextslicecap n 0 * 32) := by rw [nextslicecap_zero h0]; omega
  have h48 : ¬ (281474976710656 < ((Builtin.nextslicecap n 0 * 32 : Nat) : Int)) := by rw [nextslicecap_zero h0]; omega
  simp [Builtin.append_, run_underlying Try.underlying24, run_underlying Try.underlying3, sizeOf, typeInfo, zeroValue, hi, hz0, hz1, hz2, hne, hw, h1, h2, h63', h48, h48', Question.forced, run_firstCells_none, newRow, grownCap, asInt, asIntOf]
  intro h; omega
theorem wpList_zeros (w : World) {ops : Array Oper} {rest : List Oper} {o : Oper} {a : Act} {Q : Exit → Act → World → Prop} (hgd : o.guard = none) (s x : Operand) (ho : o.op = .call { callee := .builtin .append, args := #[s, x], argTypes := #[24, 3] })
    (n : Nat) (hs : a.eval s = .slice none 0 0) (hx : a.eval x = .int .i64 (n : Int)) (h0 : 0 < n) (hn : n ≤ 1000)
    (h : ∀ C cap, n ≤ cap → cap ≤ maxLen → C.size = cap * 8 → wpList Try.prog ops Q rest (a.put o.dst (.slice (some ⟨w.heap.size, 0, none⟩) n cap)) (w.drew.alloc (.cells C 33))) : wpList Try.prog ops Q (o :: rest) a w :=
  wpList_plain hgd fun _ hK => by
    unfold Oper.wp execOp
    simp only [ho, resolve, invoke, builtin, Sem.run_bind, Sem.run_pure, Result.andThen_ok, List.map_toArray, List.map_cons, List.map_nil, hs, hx, run_zeros w n o.type h0 hn]
    have hge := grownCap_ge w n 0 33
    have hle := grownCap_le_maxLen w n 0 33 (by unfold maxLen; omega)
    refine hK _ _ (h _ _ hge hle ?_)
    rw [Array.size_append, size_zeroCells, size_zeroCells]
    show n * 8 + (grownCap w n 0 33 - n) * 8 = _
    omega
/-- A row of the call's own, of whatever capacity. -/
def OwnPost (w : World) (n : Nat) (xs : List Hr) (e : Ending) (w' : World) : Prop := ∃ v, e = .returned v ∧ w'.ownsRow w.heap.size 33 8 v n (hcs xs) ∧ Below w.heap.size w w'

set_option maxRecDepth 100000 in
set_option maxHeartbeats 2000000 in
theorem grow_any (n : Nat) (w : World) (hn : n ≤ 1000) : Calls Try.prog 31 #[.slice none 0 0, .int .i64 (n : Int)] w (OwnPost w 0 []) := by
  by_cases h0 : n = 0
  · subst h0
    go_enter Try.func31, Try.ntmps31
    go_wp2_with fail
    go_ret
    exact ⟨_, rfl, World.ownsRow_nil _ _ _ _, Below.refl _ _⟩
  · have h1 : 0 < n := by omega
    have h1' : (0 : Int) < n := by omega
    clear h0
    go_enter Try.func31, Try.ntmps31
    go_wp2_with (at_builtin; refine wpList_zeros _ rfl (.tmp 20) (.tmp 21) rfl n (by simp [Act.eval, Act.put]) (by simp [Act.eval, Act.put]) h1 hn ?_)
    intro C cap hge hle hsz
    have HZ := Lib.hid hsz
    have HM := Lib.hid hle
    unfold maxLen at hle
    clear hsz
    go_wp2_with fail
    go_ret
    exact ⟨_, rfl, World.ownsRow_made (w.drew) C cap (Nat.le_refl _) HM.out HZ.out, (Below.refl _ w).drew.alloc (Nat.le_refl _) _⟩

/-- Nothing appended: nothing done. -/
theorem run_append_no (w : World) (base : Nat) (ty : TypeId) (v : Value) (n c : Nat) (xs : List Value) (hown : w.ownsRow base 33 8 v n xs) : (Builtin.append_ #[24, 24] ty #[v, .slice none 0 c]).run Try.prog w = .ok v w := by
  obtain ⟨i, hi, _⟩ := info_parts info33
  rcases hown.2 with ⟨rfl, rfl⟩ | ⟨g, cap, cur, rfl, _, _, hle, _⟩
  · simp [Builtin.append_, run_underlying Try.underlying24, sizeOf, typeInfo, hi, Builtin.lenOf, Builtin.firstCells]
  · simp [Builtin.append_, run_underlying Try.underlying24, sizeOf, typeInfo, hi, Builtin.lenOf, Builtin.firstCells, hle, storeCells]
/-- A row appended to one of the call's own. -/
theorem run_append_hs (w : World) (base : Nat) (ty : TypeId) (v : Value) (n : Nat) (xs : List Hr) (hown : w.ownsRow base 33 8 v n (hcs xs)) (A : Option Addr) (m c : Nat) (ys : List Hr) (hm : m = ys.length) (hr : Hs w A ys)
    (hlen : n + m ≤ 1000000) (hbase : base ≤ w.heap.size) :
    ∃ v' w', (Builtin.append_ #[24, 24] ty #[v, .slice A m c]).run Try.prog w = .ok v' w' ∧ w'.ownsRow base 33 8 v' (n + m) (hcs (xs ++ ys)) ∧ w.grownBy w' v.ownBlock := by
  subst hm
  rw [hcs_append]
  rcases A with _ | x
  · have hz : ys = [] := by
      rcases Nat.eq_zero_or_pos ys.length with h0 | h0
      · exact List.eq_nil_of_length_eq_zero h0
      · obtain ⟨x, hx⟩ := hs_some hr h0
        cases hx
    subst hz
    refine ⟨v, w, run_append_no w base ty v n c _ hown, ?_, ⟨rfl, rfl, rfl, Nat.le_refl _, fun _ _ _ => rfl⟩⟩
    simpa [hcs] using hown
  · obtain ⟨i, hi, hz0, hz1, hz2⟩ := info_parts info33
    obtain ⟨v', w', hrun, h2, h3, _, h5⟩ := run_append_own_at (P := Try.prog) w base 24 ty 33 i (hv zh) 8 32 Try.underlying24 hi hz0 hz1 hz2 rfl (by omega) v n (hcs xs) hown x ys.length c (hcs ys) (by rw [hcs_length]) hr.cells (hcs_one ys) (by unfold maxLen; omega) (by omega) hbase
    exact ⟨v', w', hrun, h2, h3⟩
theorem wpList_append_hs (w : World) {ops : Array Oper} {rest : List Oper} {o : Oper} {a : Act} {Q : Exit → Act → World → Prop} (hgd : o.guard = none) (s x : Operand) (ho : o.op = .call { callee := .builtin .append, args := #[s, x], argTypes := #[24, 24] })
    (base : Nat) (v : Value) (n : Nat) (xs : List Hr) (hs : a.eval s = v) (hown : w.ownsRow base 33 8 v n (hcs xs)) (A : Option Addr) (m c : Nat) (ys : List Hr) (hx : a.eval x = .slice A m c) (hm : m = ys.length) (hr : Hs w A ys)
    (hlen : n + m ≤ 1000000) (hbase : base ≤ w.heap.size)
    (h : ∀ v' w', w'.ownsRow base 33 8 v' (n + m) (hcs (xs ++ ys)) → w.grownBy w' v.ownBlock → wpList Try.prog ops Q rest (a.put o.dst v') w') : wpList Try.prog ops Q (o :: rest) a w :=
  wpList_plain hgd fun _ hK => by
    obtain ⟨v', w', hrun, h2, h3⟩ := run_append_hs w base o.type v n xs hown A m c ys hm hr hlen hbase
    unfold Oper.wp execOp
    simp only [ho, resolve, invoke, builtin, Sem.run_bind, Sem.run_pure, Result.andThen_ok, List.map_toArray, List.map_cons, List.map_nil, hs, hx, hrun]
    exact hK _ _ (h v' w' h2 h3)

/-- A part of what is put together. -/
structure Pt where
  A : Option Addr
  xs : List Hr
  c : Nat
/-- The parts as they lie in memory. -/
def Pm (w : World) (b : Nat) (ps : List Pt) : Prop := b < w.heap.size ∧ ∀ (k : Nat) (p : Pt), ps[k]? = some p → w.cell? ⟨b, k, none⟩ = some (.slice p.A p.xs.length p.c) ∧ Hs w p.A p.xs
def cat (ps : List Pt) (k : Nat) : List Hr := (ps.take k).flatMap (·.xs)
theorem cat_zero (ps : List Pt) : cat ps 0 = [] := by simp [cat]
theorem cat_snoc {ps : List Pt} {k : Nat} {p : Pt} (h : ps[k]? = some p) : cat ps (k + 1) = cat ps k ++ p.xs := by
  unfold cat
  rw [List.take_add_one, h]
  simp
theorem cat_le (ps : List Pt) (k : Nat) : (cat ps k).length ≤ (cat ps ps.length).length := by
  unfold cat
  rw [List.take_length]
  have : ps = ps.take k ++ ps.drop k := (List.take_append_drop k ps).symm
  conv => rhs; rw [this]
  rw [List.flatMap_append, List.length_append]
  omega

set_option maxRecDepth 100000 in
set_option maxHeartbeats 4000000 in
theorem concat_any (ps : List Pt) (b c : Nat) (w : World) (h : Pm w b ps) (hn : (cat ps ps.length).length ≤ 1000) (hps : ps.length ≤ 10) :
    Calls Try.prog 26 #[.slice (some ⟨b, 0, none⟩) ps.length c] w (OwnPost w (cat ps ps.length).length (cat ps ps.length)) := by
  have HP := Lib.hid h
  have hb := h.1
  have HC := Lib.hid (cat_le ps)
  have HS := Lib.hid (fun (k : Nat) (p : Pt) (h : ps[k]? = some p) => cat_snoc h)
  obtain ⟨L, hL⟩ : ∃ L, ps.length = L := ⟨_, rfl⟩
  have HL := Lib.hid hL
  rw [hL] at hn hps HC ⊢
  clear hL h
  go_enter Try.func26, Try.ntmps26
  go_wp2_with fail
  go_loop [3, 11] (fun s i => ∃ k : Nat, i = .int .i64 k ∧ k ≤ L ∧ s = .int .i64 ((cat ps k).length : Nat)) (fun _ i => L - (intOf i).toNat)
  case atStart => exact ⟨0, rfl, by omega, by rw [cat_zero]; rfl⟩
  case round =>
    obtain ⟨k, rfl, hk, rfl⟩ := hrel
    have hkc := HC.out k
    by_cases hlt : k < L
    · obtain ⟨p, hp⟩ : ∃ p, ps[k]? = some p := ⟨_, List.getElem?_eq_getElem (by rw [HL.out]; exact hlt)⟩
      have k0 := (HP.out.2 k p hp).1
      have hkc1 := HC.out (k + 1)
      have HK := Lib.hid (HS.out _ _ hp)
      rw [HK.out, List.length_append] at hkc1
      obtain ⟨A, xs, pc⟩ := p
      dsimp only at k0 hkc1 HK
      have HX := Lib.hid (show (cat ps (k + 1)).length = (cat ps k).length + xs.length by rw [HK.out, List.length_append])
      generalize (cat ps k).length = N at *
      clear hp
      go_wp2_with fail
      go_round
      case rel => exact ⟨k + 1, by go_num, by omega, by rw [HX.out]; go_num⟩
      case measure => simp [intOf]; omega
    · obtain rfl : k = L := by omega
      have HG := Lib.hid (grow_any (cat ps k).length w hn)
      obtain ⟨N, hN⟩ : ∃ N, (cat ps k).length = N := ⟨_, rfl⟩
      have HN := Lib.hid hN
      rw [hN] at HG hn HC ⊢
      clear hN hkc
      go_wp2_with fail
      refine HG.out.mono ?_
      rintro e w1 ⟨v1, rfl, ho, hb1⟩
      have O1 := Lib.hid ho
      have B1 := Lib.hid hb1
      clear ho hb1
      go_wp2_with fail
      go_loopw [6, 27] (fun v i wr => ∃ q : Nat, i = .int .i64 q ∧ q ≤ k ∧ Hid (wr.ownsRow w.heap.size 33 8 v (cat ps q).length (hcs (cat ps q)) ∧ Below w.heap.size w wr)) (fun _ i _ => k - (intOf i).toNat)
      case atStart => exact ⟨0, rfl, by omega, Lib.hid ⟨by rw [cat_zero]; exact O1.out, B1.out⟩⟩
      case round =>
        obtain ⟨q, rfl, hq, HR⟩ := hrel
        by_cases hlt : q < k
        · obtain ⟨p, hp⟩ : ∃ p, ps[q]? = some p := ⟨_, List.getElem?_eq_getElem (by rw [HL.out]; exact hlt)⟩
          obtain ⟨k0, kH⟩ := HP.out.2 q p hp
          have k1 : wr.cell? ⟨b, q, none⟩ = some (.slice p.A p.xs.length p.c) := by rw [HR.out.2.cell (p := ⟨b, q, none⟩) hb]; exact k0
          have kH1 := kH.below HR.out.2
          have hkc1 := HC.out (q + 1)
          have HK := Lib.hid (HS.out _ _ hp)
          rw [HK.out, List.length_append] at hkc1
          have hlen : (cat ps q).length + p.xs.length ≤ 1000000 := by omega
          obtain ⟨A, xs, pc⟩ := p
          dsimp only at k1 kH1 hkc1 HK hlen
          have hbase : w.heap.size ≤ wr.heap.size := HR.out.2.size
          have ho := HR.out.1
          have HH := Lib.hid kH1
          clear hp k0 kH kH1
          go_wp2_with (at_builtin; refine wpList_append_hs _ rfl (.tmp 31) (.tmp 32) rfl w.heap.size _ _ _ (by simp [Act.eval, Act.put]) ho A xs.length pc xs (by simp [Act.eval, Act.put]) rfl HH.out hlen hbase ?_)
          intro v2 w2 ho2 hg2
          have O2 := Lib.hid ho2
          have B2 := Lib.hid (HR.out.2.grown hg2 hbase (fun j hj => (ho.lt j hj).1))
          clear ho2 hg2 ho
          go_wp2_with fail
          go_roundw
          case rel => exact ⟨q + 1, by go_num, by omega, Lib.hid ⟨by rw [HK.out, List.length_append]; exact O2.out, B2.out⟩⟩
          case measure => simp [intOf]; omega
        · obtain rfl : q = k := by omega
          go_wp2_with fail
          go_ret
          refine ⟨_, rfl, ?_, HR.out.2⟩
          rw [← HN.out]
          exact HR.out.1
end Go.Proofs.Ytafmcnnbeoffdaa
