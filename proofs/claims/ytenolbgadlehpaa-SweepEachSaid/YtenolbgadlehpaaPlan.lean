/-
  The contract of sweep.Plan: whom a tick asks. Conditions: the row lies in memory, has up to 16 sweeps, and each is right.
-/
import Derived.Test.YtenolbgadlehpaaAsk
import Derived.Test.YtenolbgadlehpaaTrn
import Derived.Test.YtenolbgadlehpaaSto
set_option linter.unusedSimpArgs false
set_option linter.unusedVariables false
namespace Go.Proofs.Ytenolbgadlehpaa
open Go.RowKit

/-- A sweep that is right, but for when it is due. -/
structure Sv (x : Sw) : Prop where
  a0 : 0 ≤ x.a
  a1 : x.a < 4294967296
  ok : okB x.a x.b = true
  p : p2 x.b ≤ 256
  n0 : 0 ≤ x.n
  n1 : x.n < p2 x.b
/-- One sweep asks; all that are due ask. -/
def plan1 (xs : List Sw) (every room : Int) (s : List Sw × List Int) (i : Nat) : List Sw × List Int :=
  (s.1.set i (stp (xs[i]?.getD zw) every (room - s.2.length)), s.2 ++ asl (xs[i]?.getD zw) (tk (xs[i]?.getD zw) (room - s.2.length)))
def planL (xs : List Sw) (every room : Int) (l : List Nat) : List Sw × List Int := l.foldl (plan1 xs every room) (xs, [])
def planO (xs : List Sw) (every now room : Int) : List Sw × List Int := planL xs every room (ord xs now)
theorem planL_snoc (xs : List Sw) (every room : Int) (l : List Nat) (i : Nat) : planL xs every room (l ++ [i]) = plan1 xs every room (planL xs every room l) i := by simp [planL, List.foldl_append]
theorem planL_len (xs : List Sw) (every room : Int) (l : List Nat) : (planL xs every room l).1.length = xs.length := by
  unfold planL
  have h : ∀ (l : List Nat) (s : List Sw × List Int), (l.foldl (plan1 xs every room) s).1.length = s.1.length := by
    intro l
    induction l with
    | nil => intro s; rfl
    | cons i r ih => intro s; rw [List.foldl_cons, ih]; simp [plan1]
  rw [h]
theorem tk_le {x : Sw} (h : Sv x) (room : Int) : tk x room ≤ 256 := by have := h.p; have := h.n0; unfold tk; omega
theorem planL_few {xs : List Sw} (hv : ∀ x ∈ xs, Sv x) (every room : Int) (l : List Nat) (hl : ∀ i ∈ l, i < xs.length) : (planL xs every room l).2.length ≤ 256 * l.length := by
  unfold planL
  have h : ∀ (l : List Nat) (s : List Sw × List Int), (∀ i ∈ l, i < xs.length) → (l.foldl (plan1 xs every room) s).2.length ≤ s.2.length + 256 * l.length := by
    intro l
    induction l with
    | nil => intro s _; simp
    | cons i r ih =>
      intro s hl
      rw [List.foldl_cons]
      have h1 := ih (plan1 xs every room s i) fun j hj => hl j (List.mem_cons_of_mem _ hj)
      have hi := hl i (by simp)
      have h2 := tk_le (hv xs[i] (List.getElem_mem hi)) (room - s.2.length)
      have h3 : (plan1 xs every room s i).2.length = s.2.length + tk xs[i] (room - s.2.length) := by
        simp only [plan1, List.length_append, asl_len, List.getElem?_eq_getElem hi, Option.getD_some]
      rw [List.length_cons]
      omega
  have := h l (xs, []) hl
  simpa using this
theorem grown_trans {w w1 w2 : World} {r r' : Option Nat} (h : w.grownBy w1 r) (g : w1.grownBy w2 r') (hr : ∀ k, r' = some k → some k = r ∨ w.heap.size ≤ k) : w.grownBy w2 r :=
  ⟨g.os.trans h.os, g.tape.trans h.tape, g.output.trans h.output, Nat.le_trans h.size g.size, fun k hk hne => (g.block k (Nat.lt_of_lt_of_le hk h.size) (fun e => by
    rcases hr k e.symm with e' | e'
    · exact hne e'
    · omega)).trans (h.block k hk hne)⟩
theorem grown_below {w w' : World} (h : Below w.heap.size w w') (r : Option Nat) : w.grownBy w' r := ⟨h.os, h.tape, h.output, h.size, fun k hk _ => h.block k hk⟩
theorem cs_set : ∀ (ys : List Sw) (i : Nat) (q : Sw), i < ys.length → ((((eW.cs ys).set (i * 4) (.int .u32 q.a)).set (i * 4 + 1) (.int .i64 q.b)).set (i * 4 + 2) (.int .i64 q.d)).set (i * 4 + 3) (.int .i64 q.n) = eW.cs (ys.set i q)
  | [], i, q, h => by simp at h
  | y :: r, 0, q, _ => by simp [El.cs, eW, swl]
  | y :: r, i + 1, q, h => by
    have ih := cs_set r i q (by simpa using h)
    have e : eW.cs (y :: r) = swl y ++ eW.cs r := rfl
    have e2 : eW.cs ((y :: r).set (i + 1) q) = swl y ++ eW.cs (r.set i q) := rfl
    rw [e, e2, ← ih]
    have hl : (swl y).length = 4 := rfl
    have g : ∀ (l : List Value) (j : Nat) (v : Value), (swl y ++ l).set ((i + 1) * 4 + j) v = swl y ++ l.set (i * 4 + j) v := fun l j v => by
      rw [List.set_append_right _ _ (by rw [hl]; omega), hl, show (i + 1) * 4 + j - 4 = i * 4 + j by omega]
    have g0 := g (eW.cs r) 0 (.int .u32 q.a)
    simp only [Nat.add_zero] at g0
    rw [g0, g, g, g]
theorem own_setrow {w : World} {base g L c : Nat} {ys : List Sw} (h : w.ownsRow base 39 4 (.slice (some ⟨g, 0, none⟩) L c) L (eW.cs ys)) (hl : ys.length = L) {i : Nat} (hi : i < L) (q : Sw) :
    (w.setCells g (i * 4) (swl q)).ownsRow base 39 4 (.slice (some ⟨g, 0, none⟩) L c) L (eW.cs (ys.set i q)) ∧ w.grownBy (w.setCells g (i * 4) (swl q)) (some g) := by
  obtain ⟨o0, g0⟩ := h.stored (i * 4) (.int .u32 q.a)
  obtain ⟨o1, g1⟩ := o0.stored (i * 4 + 1) (.int .i64 q.b)
  obtain ⟨o2, g2⟩ := o1.stored (i * 4 + 2) (.int .i64 q.d)
  obtain ⟨o3, g3⟩ := o2.stored (i * 4 + 3) (.int .i64 q.n)
  rw [cs_set ys i q (by omega)] at o3
  have ht : ∀ k, some g = some k → some k = some g ∨ w.heap.size ≤ k := fun k e => .inl e.symm
  exact ⟨o3, grown_trans (grown_trans (grown_trans g0 g1 ht) g2 ht) g3 ht⟩
theorem own_there {w : World} {base g L c : Nat} {ys : List Sw} (h : w.ownsRow base 39 4 (.slice (some ⟨g, 0, none⟩) L c) L (eW.cs ys)) (hl : ys.length = L) {i : Nat} (hi : i < L) : w.there g (i * 4) 4 := by
  intro j hj
  have hlt : i * 4 + j < L * 4 := by omega
  refine ⟨?_, h.frozenAt _⟩
  rw [h.cellAt _ hlt, List.getElem?_eq_getElem (by rw [cs_length, hl]; exact hlt)]
  rfl
theorem at_storeRow {ops : Array Oper} {rest : List Oper} {o : Oper} {a : Act} {w : World} {Q : Exit → Act → World → Prop} (x y : Operand) (base g L c i : Nat) (ys : List Sw) (q : Sw) (H : w.ownsRow base 39 4 (.slice (some ⟨g, 0, none⟩) L c) L (eW.cs ys)) (hl : ys.length = L) (hi : i < L) (hgd : o.guard = none) (ho : o.op = .store 39 x y) (hx : a.eval x = .pointer (some ⟨g, i * 4, none⟩)) (hy : a.eval y = swv q)
    (h : ∀ w', Hid (w'.ownsRow base 39 4 (.slice (some ⟨g, 0, none⟩) L c) L (eW.cs (ys.set i q))) → Hid (w.grownBy w' (some g)) → wpList Try.prog ops Q rest (a.put o.dst undef) w') : wpList Try.prog ops Q (o :: rest) a w :=
  wpList_store_mid hgd 39 x y ho g (i * 4) (swl q).toArray hx hy (own_there H hl hi) size39 (swl_one q) (h _ (own_setrow H hl hi q).1 (own_setrow H hl hi q).2)

theorem own_slice {α : Type} {E : El α} {w : World} {base : Nat} {e : TypeId} {A : Option Addr} {n m c : Nat} {xs : List α} (h : w.ownsRow base e E.N (.slice A m c) n (E.cs xs)) (hn : xs.length ≤ 140737488355328) : Rw E w A xs := by
  obtain ⟨A', c', e1, -, -, -, hR, -⟩ := own_rw h hn
  injection e1 with e1
  subst e1
  exact hR
/-- What ask gives, and its addresses. -/
def bF (B : Nat) (zs : List Int) : Value → World → Prop := fun v W => W.ownsRow B 34 1 v zs.length (eA.cs zs)
theorem stable_bF (B : Nat) (zs : List Int) : Stable (bF B zs) := fun _ _ _ h hb => own_keep h hb
def aF (B : Nat) (x : Sw) (zs : List Int) : Value → World → Prop := fun v W => ∃ v', v = .tuple #[.agg #[.int .u32 x.a, .int .i64 x.b, .int .i64 x.d, .int .i64 x.n], v'] ∧ bF B zs v' W
theorem stable_aF (B : Nat) (x : Sw) (zs : List Int) : Stable (aF B x zs) := fun _ _ _ ⟨v', hv, hR⟩ hb => ⟨v', hv, stable_bF _ _ _ _ _ hR hb⟩
theorem cells_other (b : Nat) : ∀ (us : List Value) (o : Nat) (w : World) (k : Nat), k ≠ b → (w.setCells b o us).heap[k]? = w.heap[k]?
  | [], _, _, _, _ => rfl
  | u :: r, o, w, k, h => (cells_other b r (o + 1) _ k h).trans (heap_setCell_other w ⟨b, o, none⟩ k u h)
theorem own_other {w w' : World} {b base : Nat} {e : TypeId} {size : Nat} {v : Value} {n : Nat} {xs : List Value} (h : w.ownsRow base e size v n xs) (hk : ∀ k, k ≠ b → w'.heap[k]? = w.heap[k]?) (ho : w.heap[b]? = some (Swx zw)) (he : e ≠ 39) : w'.ownsRow base e size v n xs := by
  refine ⟨h.1, h.2.imp id ?_⟩
  rintro ⟨g, cap, cur, e1, e2, e3, r⟩
  refine ⟨g, cap, cur, e1, e2, ?_, r⟩
  rw [hk g fun hg => ?_]
  · exact e3
  · subst hg
    rw [e3] at ho
    injection ho with ho
    injection ho with _ ht
    exact he ht

theorem turned_bF (B : Nat) (zs : List Int) : Turned (Swx zw) (bF B zs) := fun _ _ _ _ h ho hk => own_other h hk ho (by decide)
theorem turned_aF (B : Nat) (x : Sw) (zs : List Int) : Turned (Swx zw) (aF B x zs) := fun _ _ _ _ ⟨v', hv, h⟩ ho hk => ⟨v', hv, turned_bF _ _ _ _ _ _ h ho hk⟩
theorem wb_heap {w : World} {b : Nat} {x : Sw} (h : w.heap[b]? = some (Swx x)) : Wb w b x := by
  have e : ∀ j, w.cell? ⟨b, j, none⟩ = _ := fun j => cell_of_row _ _ _ _ _ _ h
  refine ⟨fun j v hv => ?_, fun j hj => ⟨?_, ?_⟩⟩
  · rw [e, Nat.zero_add, ← hv]
    simp [swl]
  · rw [e, Nat.zero_add]
    rcases four hj with rfl | rfl | rfl | rfl <;> rfl
  · unfold World.frozen?
    rw [h]
    simp [Swx]
theorem st_put {o : Oper} {a : Act} {w : World} {Q : Exit → Act → World → Prop} (x y : Operand) (g : Nat) (q : Sw) (ho : o.op = .store 39 x y) (hx : a.eval x = .pointer (some ⟨g, 0, none⟩)) (hy : a.eval y = swv q) (hz : w.heap[g]? = some (Swx zw)) :
    o.wp Try.prog a w (fun a' w' => (∃ v, a' = a.put o.dst v) ∧ (∀ B, B ≤ g → Below B w w') ∧ (∀ k, k ≠ g → w'.heap[k]? = w.heap[k]?) ∧ Wb w' g q) Q :=
  wp_store_mid 39 x y ho g 0 (swl q).toArray hx hy (wb_heap hz).2 size39 (swl_one q) ⟨⟨_, rfl⟩, fun _ hB => below_put hB _ _ _ (Below.refl _ _), fun k hk => cells_other g _ _ _ k hk, (wb_heap hz).put q⟩
theorem wp_value {o : Oper} {a : Act} {w w' : World} {v : Value} {K : Act → World → Prop} {Q : Exit → Act → World → Prop} (hr : (execOp a.eval o).run Try.prog w = .ok (.value v) w') (h : K (a.put o.dst v) w') : o.wp Try.prog a w K Q := by
  unfold Oper.wp
  rw [hr]
  exact h

/-- What Plan hands back. -/
def PlanPost (w : World) (s : List Sw × List Int) (e : Ending) (w' : World) : Prop :=
  ∃ A c A2 c2, e = .returned (.tuple #[.slice A s.1.length c, .slice A2 s.2.length c2]) ∧ s.1.length ≤ c ∧ Rw eW w' A s.1 ∧ Rw eA w' A2 s.2 ∧ Below w.heap.size w w'

set_option maxRecDepth 100000 in
set_option maxHeartbeats 8000000 in
theorem plan_any (cf : Cf) (now room : Int) (A : Option Addr) (xs : List Sw) (cap : Nat) (w : World) (h : Rw eW w A xs) (hc : xs.length ≤ cap) (h16 : xs.length ≤ 16) (hv : ∀ x ∈ xs, Sv x) (hr0 : -1000000000 ≤ room) (hr1 : room ≤ 1000000000) :
    Calls Try.prog 13 #[cfv cf, .slice A xs.length cap, .int .i64 now, .int .i64 room] w (PlanPost w (planO xs cf.d now room)) := by
  have hln := h.1
  have HA := Lib.hid (show ∀ y, A = some y → 0 < xs.length → y.block < w.heap.size from fun y hy hp => by
    obtain ⟨y', hy', hc⟩ := h.2 0 xs[0] (List.getElem?_eq_getElem hp)
    rw [hy] at hy'
    obtain rfl := Option.some.inj hy'
    have := World.block_lt_of_cell? _ _ (hc 0 _ rfl)
    rwa [add_block] at this)
  have HB0 := Lib.hid (show Below w.heap.size w (w.alloc (Cfx cf)) from (Below.refl _ w).alloc (Nat.le_refl _) _)
  have R0 := Lib.hid (h.below HB0.out)
  have C0 := Lib.hid (cm_box w cf)
  have hs0 : (w.alloc (Cfx cf)).heap.size = w.heap.size + 1 := by simp
  have HCL := Lib.hid (clone_any A xs cap (w.alloc (Cfx cf)) R0.out (by omega) hc)
  have HTU := Lib.hid fun W (hR : Rw eW W A xs) => turns_any now A xs cap W hR h16
  have HV := Lib.hid hv
  have HO := Lib.hid (ord_is xs now)
  have HFEW := Lib.hid fun l hl => planL_few hv cf.d room l hl
  have HPL := Lib.hid fun l i => planL_snoc xs cf.d room l i
  have HLEN := Lib.hid fun l => planL_len xs cf.d room l
  have HPO := Lib.hid (show planO xs cf.d now room = planL xs cf.d room (ord xs now) from rfl)
  have hol : (ord xs now).length ≤ xs.length := by rw [ord_len]; exact pl_len _ _ _
  clear h hv
  obtain ⟨l, hl⟩ : ∃ l, ord xs now = l := ⟨_, rfl⟩
  rw [hl] at HO HPO HTU hol
  clear hl
  obtain ⟨L, hL⟩ : ∃ L, xs.length = L := ⟨_, rfl⟩
  have HL := Lib.hid hL
  rw [hL] at hln hc h16 HA HCL HTU HLEN hol HFEW ⊢
  clear hL
  obtain ⟨m, hm⟩ : ∃ m, l.length = m := ⟨_, rfl⟩
  have HM := Lib.hid hm
  rw [hm] at hol
  clear hm
  unfold Cfx cfv at *
  go_enter Try.func13, Try.ntmps13
  go_wp2_with fail
  generalize w.alloc (.cells #[.int .i64 cf.a, .int .i64 cf.b, .int .i64 cf.c, .int .i64 cf.d, .int .i64 cf.e, .int .i64 cf.f, .int .i64 cf.g, .int .i64 cf.h, .int .i64 cf.i] 27) = W0 at *
  refine HCL.out.mono ?_
  rintro e W1 ⟨v10, rfl, ho10, hb⟩
  have B1 := Lib.hid hb
  have O1 := Lib.hid ho10
  have R1 := Lib.hid (R0.out.below hb)
  clear hb ho10
  go_wp2_with fail
  refine (HTU.out W1 R1.out).mono ?_
  rintro e W2 ⟨At, ct, rfl, hRt, hb, hAt⟩
  have B2 := Lib.hid (B1.out.trans (hb.mono B1.out.size))
  have O2 := Lib.hid (own_keep O1.out hb)
  have RT := Lib.hid hRt
  have HAT := Lib.hid hAt
  have K10 := Lib.hid (show ∀ k, v10.ownBlock = some k → W0.heap.size ≤ k ∧ k < W1.heap.size from fun k hk => O1.out.lt k hk)
  have H12 := Lib.hid hb.size
  have h01 := B1.out.size
  have R2 := Lib.hid (R1.out.below hb)
  clear hb hRt hAt
  rw [HM.out]
  go_wp2_with fail
  go_loopw [11, 22] (fun v i wr => ∃ k : Nat, i = .int .i64 k ∧ k ≤ m ∧ Hid (wr.ownsRow W0.heap.size 39 4 v10 L (eW.cs (planL xs cf.d room (l.take k)).1)) ∧ Hid (wr.ownsRow W2.heap.size 34 1 v (planL xs cf.d room (l.take k)).2.length (eA.cs (planL xs cf.d room (l.take k)).2)) ∧ Hid (W2.grownBy wr v10.ownBlock) ∧ ∃ A3 c3, v = .slice A3 (planL xs cf.d room (l.take k)).2.length c3) (fun _ i _ => m - (intOf i).toNat)
  case atStart =>
    refine ⟨0, rfl, by omega, Lib.hid (by have := O2.out; rw [HL.out] at this; exact this), Lib.hid (World.ownsRow_nil _ _ _ _), Lib.hid (World.grownBy.refl _ _), none, 0, rfl⟩
  case round =>
    obtain ⟨k, rfl, hk, HR, HQ, HG, A3, c3, rfl⟩ := hrel
    by_cases hkm : k < m
    · obtain ⟨i, hi⟩ : ∃ i, l[k]? = some i := ⟨_, List.getElem?_eq_getElem (by rw [HM.out]; exact hkm)⟩
      have hiL : i < L := by
        have := ((HO.out.mem i).1 (List.mem_of_getElem? hi)).1
        rwa [HL.out] at this
      obtain ⟨x, hx⟩ : ∃ x, xs[i]? = some x := ⟨_, List.getElem?_eq_getElem (by rw [HL.out]; exact hiL)⟩
      have HS := Lib.hid (HV.out x (List.mem_of_getElem? hx))
      have hq0 := HFEW.out (l.take k) (fun i hi => by
        have := ((HO.out.mem i).1 (List.mem_of_mem_take hi)).1
        rwa [HL.out] at this)
      rw [List.length_take, HM.out] at hq0
      have hq1 : (planL xs cf.d room (l.take k)).2.length ≤ 4096 := by omega
      clear hq0
      have htk : l.take (k + 1) = l.take k ++ [i] := by rw [List.take_add_one, hi]; rfl
      have HN := Lib.hid (show planL xs cf.d room (l.take (k + 1)) = ((planL xs cf.d room (l.take k)).1.set i (stp x cf.d (room - (planL xs cf.d room (l.take k)).2.length)), (planL xs cf.d room (l.take k)).2 ++ asl x (tk x (room - (planL xs cf.d room (l.take k)).2.length))) by
        rw [htk, HPL.out]
        unfold plan1
        rw [hx, Option.getD_some])
      have hl1 := HLEN.out (l.take k)
      obtain ⟨g10, c10, rfl, hLc⟩ : ∃ g10 c10, v10 = .slice (some ⟨g10, 0, none⟩) L c10 ∧ L ≤ c10 := by
        rcases HR.out.2 with ⟨-, h0⟩ | ⟨g, c, cur, e1, -, -, hle, -⟩
        · omega
        · exact ⟨g, c, e1, hle⟩
      obtain ⟨y, rfl⟩ := rw_some R1.out (by rw [HL.out]; omega)
      obtain ⟨K1, K2⟩ := K10.out g10 rfl
      have hyl := HA.out y rfl (by omega)
      have RW := Lib.hid (show Rw eW wr (some y) xs from R2.out.grown HG.out (fun y' hy' => by
        obtain rfl := Option.some.inj hy'
        show some y.block ≠ some g10
        intro e
        injection e with e
        omega))
      have CF := Lib.hid (show wr.cell? ⟨w.heap.size, 3, none⟩ = some (.int .i64 cf.d) from HG.out.cell (a := ⟨w.heap.size, 3, none⟩) (by rw [B2.out.cell (p := ⟨w.heap.size, 3, none⟩) (by show w.heap.size < W0.heap.size; omega)]; exact C0.out.c3) (by
        show some w.heap.size ≠ some g10
        intro e
        injection e with e
        omega))
      obtain ⟨z, rfl⟩ := rw_some RT.out (by rw [HM.out]; omega)
      have cN : wr.cell? (z.add k) = some (.int .i64 (i : Int)) := by
        have h1 := (RT.out.grown HG.out (fun y' hy' => by
          obtain rfl := Option.some.inj hy'
          have := HAT.out z rfl
          show some z.block ≠ some g10
          intro e
          injection e with e
          omega)).at hi 0 _ rfl
        rwa [Addr.add_add, show k * eN.N + 0 = k by show k * 1 + 0 = k; omega] at h1
      have HX := Lib.hid hx
      clear hx htk hi
      generalize planL xs cf.d room (l.take k) = s at *
      obtain ⟨s1, s2⟩ := s
      dsimp only at *
      have hQe : IntKind.i64.wrap (room - (s2.length : Int)) = room - (s2.length : Int) := by rw [IntKind.wrap_i64]; omega
      have HQW := Lib.hid hQe
      have HAK := Lib.hid fun W => ask_any x cf.d (room - (s2.length : Int)) W HS.out.a0 HS.out.a1 HS.out.ok HS.out.p HS.out.n0 HS.out.n1 (by omega) (by omega)
      obtain ⟨y2, hy2⟩ : ∃ y2, stp x cf.d (room - (s2.length : Int)) = y2 := ⟨_, rfl⟩
      obtain ⟨zs, hzs⟩ : ∃ zs, asl x (tk x (room - (s2.length : Int))) = zs := ⟨_, rfl⟩
      have hzl : zs.length ≤ 256 := by rw [← hzs, asl_len]; exact tk_le HS.out _
      rw [hy2, hzs] at HN HAK
      clear hy2 hzs hQe
      have HNW := Lib.hid (show wr.heap.size ≤ wr.heap.size from Nat.le_refl _)
      have hK2 : g10 < W2.heap.size := by have := H12.out; omega
      have hg10 : g10 < wr.heap.size := by have := HG.out.size; omega
      go_upto_region 6 with fail
      refine wp_region_store [fx (.slice (some y) L cap), fx (.int .i64 (i : Int)), fx (.pointer (some (y.add (i * 4)))), fx (.agg #[.int .u32 x.a, .int .i64 x.b, .int .i64 x.d, .int .i64 x.n]), fx (.pointer (some ⟨w.heap.size, 3, none⟩)), fx (.int .i64 cf.d), fx (.int .i64 room), fx (.slice A3 s2.length c3), fx (.int .i64 (s2.length : Int)), fx (.int .i64 (room - (s2.length : Int))), aF wr.heap.size y2 zs, aF wr.heap.size y2 zs, fx (.agg #[.int .u32 y2.a, .int .i64 y2.b, .int .i64 y2.d, .int .i64 y2.n]), bF wr.heap.size zs, tT, tT, bF wr.heap.size zs] 14 15 (Swx zw) (fun W g => Wb W g y2)
        (by kernel_rfl) (by kernel_rfl) (by kernel_rfl) (by kernel_rfl) (by simp) (by simp) (by decide) ?_ rfl rfl ?_ ?_ ?_ ?_ ?_
      · simp only [List.mem_cons, List.not_mem_nil, or_false]
        rintro φ (rfl | rfl | rfl | rfl | rfl | rfl | rfl | rfl | rfl | rfl | rfl | rfl | rfl | rfl | rfl | rfl | rfl)
        all_goals first | exact ⟨stable_fx _, turned_fx _ _⟩ | exact ⟨stable_tT, turned_tT _⟩ | exact ⟨stable_aF _ _ _, turned_aF _ _ _⟩ | exact ⟨stable_bF _ _, turned_bF _ _⟩
      · exact fun _ _ _ h hb => h.below hb
      · refine StSteps.cons ?_ (StSteps.cons ?_ (StSteps.cons ?_ (StSteps.cons ?_ (StSteps.cons ?_ (StSteps.cons ?_ (StSteps.cons ?_ (StSteps.cons ?_ (StSteps.cons ?_ (StSteps.cons ?_ (StSteps.cons ?_ (StSteps.cons ?_ (StSteps.cons ?_ (StSteps.cons ?_ (StSteps.cons ?_ (StSteps.cons ?_ (StSteps.cons ?_ (StSteps.nil)))))))))))))))))
        · intro _ _
          refine OgStep.pure ?_ ?_
          · rfl
          intro u W hS hp
          refine ⟨.slice (some y) L cap, ?_, rfl⟩
          simp only [ogMk, Act.put, List.setIfInBounds_toArray, List.set_cons_zero, List.set_cons_succ, Nat.zero_add, Nat.reduceAdd, List.take_succ_cons, List.take_zero, List.drop_succ_cons, List.drop_zero]
          simp [execOp, Act.eval, go_sem]
        · intro _ _
          refine OgStep.pure ?_ ?_
          · rfl
          intro u W hS hp
          refine ⟨.int .i64 (i : Int), ?_, rfl⟩
          simp only [ogMk, Act.put, List.setIfInBounds_toArray, List.set_cons_zero, List.set_cons_succ, Nat.zero_add, Nat.reduceAdd, List.take_succ_cons, List.take_zero, List.drop_succ_cons, List.drop_zero]
          simp [execOp, Act.eval, go_sem]
        · intro _ _
          refine OgStep.pure ?_ ?_
          · rfl
          intro u W hS hp
          have h0 : u 0 = .slice (some y) L cap := hp ⟨0, .data⟩ (by simp) rfl
          have h1 : u 1 = .int .i64 (i : Int) := hp ⟨1, .data⟩ (by simp) rfl
          refine ⟨.pointer (some (y.add (i * 4))), ?_, rfl⟩
          simp only [ogMk, Act.put, List.setIfInBounds_toArray, List.set_cons_zero, List.set_cons_succ, Nat.zero_add, Nat.reduceAdd, List.take_succ_cons, List.take_zero, List.drop_succ_cons, List.drop_zero]
          simp [execOp, Act.eval, go_sem, h0, h1, hiL]
        · intro _ _
          refine OgStep.pure ?_ ?_
          · rfl
          intro u W hS hp
          have h2 : u 2 = .pointer (some (y.add (i * 4))) := hp ⟨2, .data⟩ (by simp) rfl
          obtain ⟨c0, -, -, -⟩ := rw_c0 (RW.out.below hS) HX.out
          obtain ⟨f1, f2, f3⟩ := rw_f (RW.out.below hS) HX.out
          refine ⟨.agg #[.int .u32 x.a, .int .i64 x.b, .int .i64 x.d, .int .i64 x.n], ?_, rfl⟩
          simp only [ogMk, Act.put, List.setIfInBounds_toArray, List.set_cons_zero, List.set_cons_succ, Nat.zero_add, Nat.reduceAdd, List.take_succ_cons, List.take_zero, List.drop_succ_cons, List.drop_zero]
          simp [execOp, Act.eval, go_sem, h2, c0, f1, f2, f3]
        · intro _ _
          refine OgStep.pure ?_ ?_
          · rfl
          intro u W hS hp
          refine ⟨.pointer (some ⟨w.heap.size, 3, none⟩), ?_, rfl⟩
          simp only [ogMk, Act.put, List.setIfInBounds_toArray, List.set_cons_zero, List.set_cons_succ, Nat.zero_add, Nat.reduceAdd, List.take_succ_cons, List.take_zero, List.drop_succ_cons, List.drop_zero]
          simp [execOp, Act.eval, go_sem]
        · intro _ _
          refine OgStep.pure ?_ ?_
          · rfl
          intro u W hS hp
          have h4 : u 4 = .pointer (some ⟨w.heap.size, 3, none⟩) := hp ⟨4, .data⟩ (by simp) rfl
          have R : W.cell? ⟨w.heap.size, 3, none⟩ = some (.int .i64 cf.d) := by rw [hS.cell (p := ⟨w.heap.size, 3, none⟩) (World.block_lt_of_cell? _ _ CF.out)]; exact CF.out
          refine ⟨.int .i64 cf.d, ?_, rfl⟩
          simp only [ogMk, Act.put, List.setIfInBounds_toArray, List.set_cons_zero, List.set_cons_succ, Nat.zero_add, Nat.reduceAdd, List.take_succ_cons, List.take_zero, List.drop_succ_cons, List.drop_zero]
          simp [execOp, Act.eval, go_sem, h4, R]
        · intro _ _
          refine OgStep.pure ?_ ?_
          · rfl
          intro u W hS hp
          refine ⟨.int .i64 room, ?_, rfl⟩
          simp only [ogMk, Act.put, List.setIfInBounds_toArray, List.set_cons_zero, List.set_cons_succ, Nat.zero_add, Nat.reduceAdd, List.take_succ_cons, List.take_zero, List.drop_succ_cons, List.drop_zero]
          simp [execOp, Act.eval, go_sem]
        · intro _ _
          refine OgStep.pure ?_ ?_
          · rfl
          intro u W hS hp
          refine ⟨.slice A3 s2.length c3, ?_, rfl⟩
          simp only [ogMk, Act.put, List.setIfInBounds_toArray, List.set_cons_zero, List.set_cons_succ, Nat.zero_add, Nat.reduceAdd, List.take_succ_cons, List.take_zero, List.drop_succ_cons, List.drop_zero]
          simp [execOp, Act.eval, go_sem]
        · intro _ _
          refine OgStep.pure ?_ ?_
          · rfl
          intro u W hS hp
          have h7 : u 7 = .slice A3 s2.length c3 := hp ⟨7, .data⟩ (by simp) rfl
          refine ⟨.int .i64 (s2.length : Int), ?_, rfl⟩
          simp only [ogMk, Act.put, List.setIfInBounds_toArray, List.set_cons_zero, List.set_cons_succ, Nat.zero_add, Nat.reduceAdd, List.take_succ_cons, List.take_zero, List.drop_succ_cons, List.drop_zero]
          simp [execOp, Act.eval, go_sem, h7]
        · intro _ _
          refine OgStep.pure ?_ ?_
          · rfl
          intro u W hS hp
          have h6 : u 6 = .int .i64 room := hp ⟨6, .data⟩ (by simp) rfl
          have h8 : u 8 = .int .i64 (s2.length : Int) := hp ⟨8, .data⟩ (by simp) rfl
          have R := HQW.out
          refine ⟨.int .i64 (room - (s2.length : Int)), ?_, rfl⟩
          simp only [ogMk, Act.put, List.setIfInBounds_toArray, List.set_cons_zero, List.set_cons_succ, Nat.zero_add, Nat.reduceAdd, List.take_succ_cons, List.take_zero, List.drop_succ_cons, List.drop_zero]
          simp [execOp, Act.eval, go_sem, h6, h8, R]
        · intro _ _
          refine OgStep.calls ?_ ?_
          · rfl
          intro u W hS hp
          have h3 : u 3 = .agg #[.int .u32 x.a, .int .i64 x.b, .int .i64 x.d, .int .i64 x.n] := hp ⟨3, .data⟩ (by simp) rfl
          have h5 : u 5 = .int .i64 cf.d := hp ⟨5, .data⟩ (by simp) rfl
          have h9 : u 9 = .int .i64 (room - (s2.length : Int)) := hp ⟨9, .data⟩ (by simp) rfl
          refine ⟨28, #[.agg #[.int .u32 x.a, .int .i64 x.b, .int .i64 x.d, .int .i64 x.n], .int .i64 cf.d, .int .i64 (room - (s2.length : Int))], ?_, (HAK.out W).mono fun e w' ⟨v, he, ho, hb⟩ => ⟨_, he, hb, v, rfl, own_base ho hS.size⟩⟩
          simp only [ogMk, Act.put, List.setIfInBounds_toArray, List.set_cons_zero, List.set_cons_succ, Nat.zero_add, Nat.reduceAdd, List.take_succ_cons, List.take_zero, List.drop_succ_cons, List.drop_zero]
          simp [execOp, Act.eval, go_sem, h3, h5, h9]
        · intro _ _
          refine OgStep.pure ?_ ?_
          · rfl
          intro u W hS hp
          have h10 : aF wr.heap.size y2 zs (u 10) W := hp ⟨10, .data⟩ (by simp) rfl
          refine ⟨u 10, ?_, h10⟩
          simp only [ogMk, Act.put, List.setIfInBounds_toArray, List.set_cons_zero, List.set_cons_succ, Nat.zero_add, Nat.reduceAdd, List.take_succ_cons, List.take_zero, List.drop_succ_cons, List.drop_zero]
          simp [execOp, Act.eval, go_sem]
        · intro _ _
          refine OgStep.pure ?_ ?_
          · rfl
          intro u W hS hp
          obtain ⟨v', h11, hv'⟩ : aF wr.heap.size y2 zs (u 11) W := hp ⟨11, .data⟩ (by simp) rfl
          refine ⟨.agg #[.int .u32 y2.a, .int .i64 y2.b, .int .i64 y2.d, .int .i64 y2.n], ?_, rfl⟩
          simp only [ogMk, Act.put, List.setIfInBounds_toArray, List.set_cons_zero, List.set_cons_succ, Nat.zero_add, Nat.reduceAdd, List.take_succ_cons, List.take_zero, List.drop_succ_cons, List.drop_zero]
          rw [h11]
          simp [execOp, Act.eval, go_sem]
        · intro _ _
          refine OgStep.pure ?_ ?_
          · rfl
          intro u W hS hp
          obtain ⟨v', h11, hv'⟩ : aF wr.heap.size y2 zs (u 11) W := hp ⟨11, .data⟩ (by simp) rfl
          refine ⟨v', ?_, hv'⟩
          simp only [ogMk, Act.put, List.setIfInBounds_toArray, List.set_cons_zero, List.set_cons_succ, Nat.zero_add, Nat.reduceAdd, List.take_succ_cons, List.take_zero, List.drop_succ_cons, List.drop_zero]
          rw [h11]
          simp [execOp, Act.eval, go_sem]
        · intro h h'
          exact (h rfl).elim
        · intro h h'
          exact (h' rfl).elim
        · intro _ _
          refine OgStep.pure ?_ ?_
          · rfl
          intro u W hS hp
          have h13 : bF wr.heap.size zs (u 13) W := hp ⟨13, .data⟩ (by simp) rfl
          refine ⟨u 13, ?_, h13⟩
          simp only [ogMk, Act.put, List.setIfInBounds_toArray, List.set_cons_zero, List.set_cons_succ, Nat.zero_add, Nat.reduceAdd, List.take_succ_cons, List.take_zero, List.drop_succ_cons, List.drop_zero]
          simp [execOp, Act.eval, go_sem]
      · intro o ho
        simp only [List.getElem?_cons_succ, List.getElem?_cons_zero, Option.some.injEq] at ho
        subst ho
        refine ⟨rfl, fun u W => wp_value (v := .pointer (some ⟨W.heap.size, 0, none⟩)) (w' := W.alloc (Swx zw)) ?_ ⟨rfl, (Below.refl _ W).alloc (Nat.le_refl _) _, heap_alloc_new _ _⟩⟩
        simp only [ogMk, Act.put, List.setIfInBounds_toArray, List.set_cons_zero, List.set_cons_succ, Nat.zero_add, Nat.reduceAdd, List.take_succ_cons, List.take_zero, List.drop_succ_cons, List.drop_zero]
        simp [execOp, Act.eval, go_sem, Swx, zw]
      · intro o ho
        simp only [List.getElem?_cons_succ, List.getElem?_cons_zero, Option.some.injEq] at ho
        subst ho
        refine ⟨rfl, by kernel_rfl, fun u W g h14 hz hp => ?_⟩
        have h12 : u 12 = .agg #[.int .u32 y2.a, .int .i64 y2.b, .int .i64 y2.d, .int .i64 y2.n] := hp ⟨12, .data⟩ (by simp) rfl
        with_reducible refine st_put (.tmp 14) (.tmp 38) g y2 ?_ ?_ ?_ hz
        · rfl
        · simp only [ogMk, Act.put, List.setIfInBounds_toArray, List.set_cons_zero, List.set_cons_succ, Nat.zero_add, Nat.reduceAdd, List.take_succ_cons, List.take_zero, List.drop_succ_cons, List.drop_zero]
          simp [Act.eval, h14]
        · simp only [ogMk, Act.put, List.setIfInBounds_toArray, List.set_cons_zero, List.set_cons_succ, Nat.zero_add, Nat.reduceAdd, List.take_succ_cons, List.take_zero, List.drop_succ_cons, List.drop_zero]
          simp [Act.eval, h12, swv]
      · intro u W g hS hF e14 hg1 hgV
        have hz16 : bF wr.heap.size zs (u 16) W := hF 16 (by decide)
        have e0 : u 0 = .slice (some y) L cap := hF 0 (by decide)
        have e1 : u 1 = .int .i64 (i : Int) := hF 1 (by decide)
        have e2 : u 2 = .pointer (some (y.add (i * 4))) := hF 2 (by decide)
        have e3 : u 3 = .agg #[.int .u32 x.a, .int .i64 x.b, .int .i64 x.d, .int .i64 x.n] := hF 3 (by decide)
        have e4 : u 4 = .pointer (some ⟨w.heap.size, 3, none⟩) := hF 4 (by decide)
        have e5 : u 5 = .int .i64 cf.d := hF 5 (by decide)
        have e6 : u 6 = .int .i64 room := hF 6 (by decide)
        have e7 : u 7 = .slice A3 s2.length c3 := hF 7 (by decide)
        have e8 : u 8 = .int .i64 (s2.length : Int) := hF 8 (by decide)
        have e9 : u 9 = .int .i64 (room - (s2.length : Int)) := hF 9 (by decide)
        have e12 : u 12 = .agg #[.int .u32 y2.a, .int .i64 y2.b, .int .i64 y2.d, .int .i64 y2.n] := hF 12 (by decide)
        simp only [ogMk, Act.put, List.setIfInBounds_toArray, List.set_cons_zero, List.set_cons_succ, Nat.zero_add, Nat.reduceAdd, List.take_succ_cons, List.take_zero, List.drop_succ_cons, List.drop_zero]
        rw [e14, e0, e1, e2, e3, e4, e5, e6, e7, e8, e9, e12]
        clear e14 e0 e1 e2 e3 e4 e5 e6 e7 e8 e9 e12 hF
        generalize u 16 = vz at *
        have B6 := Lib.hid hS
        have HG3 := Lib.hid hgV
        have HZ5 := Lib.hid hz16
        clear hS hg1 hgV hz16
        obtain ⟨Az, cz, rfl, -⟩ := own_rw (E := eA) HZ5.out (by omega)
        have hlen : s2.length + zs.length ≤ 1000000000000 := by omega
        have hw2 : W2.heap.size ≤ wr.heap.size := HG.out.size
        obtain ⟨p0, p1, p2', p3⟩ := HG3.out.c
        have HR5 := Lib.hid (own_keep HR.out B6.out)
        have HQ5 := Lib.hid (own_keep HQ.out B6.out)
        go_wp2_with (first
          | (refine at_storeRow _ _ W0.heap.size g10 L c10 i s1 y2 HR5.out hl1 hiL rfl rfl rfl rfl ?_; intro w6 HR6 G6; have HQ6 := Lib.hid (HQ5.out.kept G6.out (.inr fun e => by have := (HQ5.out.lt g10 e).1; omega)); have HZ6 := Lib.hid (HZ5.out.kept G6.out (.inr fun e => by have := (HZ5.out.lt g10 e).1; omega)); have RZ6 := Lib.hid (own_slice (E := eA) HZ6.out (by omega)); have hb6 := Lib.hid (show W2.heap.size ≤ w6.heap.size from Nat.le_trans hw2 (Nat.le_trans B6.out.size G6.out.size)))
          | (at_builtin; refine wpList_append_rw tA _ rfl (.tmp 44) (.tmp 45) rfl W2.heap.size _ _ _ (by simp [Act.eval, Act.put]) HQ6.out Az zs.length cz zs (by simp [Act.eval, Act.put]) rfl RZ6.out hlen hb6.out ?_))
        intro v7 w7 ho7 hg7
        have hgr : ∀ k', (Value.slice A3 s2.length c3).ownBlock = some k' → W2.heap.size ≤ k' := fun k' hk' => (HQ6.out.lt k' hk').1
        have HR7 := Lib.hid (HR6.out.kept hg7 (.inr fun e => by have h1 := hgr g10 e.symm; omega))
        have HQ7 := Lib.hid ho7
        have HG7 := Lib.hid (grown_trans (grown_trans (grown_trans HG.out (grown_below B6.out none) (fun k' e => by cases e)) G6.out (fun k' e => .inl e.symm)) hg7 (fun k' e => .inr (hgr k' e)))
        obtain ⟨A7, c7, rfl, -⟩ := own_rw (E := eA) (xs := s2 ++ zs) ho7 (by rw [List.length_append]; omega)
        clear ho7 hg7 hgr
        go_wp2_with fail
        go_roundw
        case rel => exact ⟨k + 1, by go_num, by omega, by rw [HN.out]; exact HR7, by rw [HN.out]; exact Lib.hid (by have h7 := HQ7.out; rw [← List.length_append] at h7; exact h7), HG7, A7, c7, by rw [HN.out]⟩
        case measure => simp [intOf]; omega
    · obtain rfl : k = m := by omega
      have hkl : l.take k = l := List.take_of_length_le (by rw [HM.out]; exact Nat.le_refl _)
      rw [hkl] at HR HQ ⊢
      have hl1 := HLEN.out l
      have hq0 := HFEW.out l (fun i hi => by
        have := ((HO.out.mem i).1 hi).1
        rwa [HL.out] at this)
      rw [HM.out] at hq0
      obtain ⟨A1', c1, rfl, hcc⟩ : ∃ A' c', v10 = .slice A' L c' ∧ L ≤ c' := by
        rcases HR.out.2 with ⟨e1, h0⟩ | ⟨g, c, cur, e1, -, -, hle, -⟩
        · exact ⟨none, 0, by rw [e1, h0], by omega⟩
        · exact ⟨some ⟨g, 0, none⟩, c, e1, hle⟩
      have RR := Lib.hid (own_slice (E := eW) HR.out (by rw [hl1]; omega))
      have RQ := Lib.hid (own_slice (E := eA) HQ.out (by omega))
      have BB := Lib.hid (HB0.out.trans ((B2.out.grown HG.out (by have := B2.out.size; omega) (fun k' hk' => (K10.out k' hk').1)).mono HB0.out.size))
      go_wp2_with fail
      go_ret2
      refine ⟨A1', c1, A3, c3, ?_, ?_, ?_, ?_, BB.out⟩
      · rw [HPO.out, hl1]; rfl
      · rw [HPO.out, hl1]; exact hcc
      · rw [HPO.out]; exact RR.out
      · rw [HPO.out]; exact RQ.out
end Go.Proofs.Ytenolbgadlehpaa
