/-
  The contracts of cases.moved, cases.moveAt, cases.step, and of Approve, Reject, Done and Cancel. Conditions: the row lies in memory, and has up tg 900 cases.
-/
import Derived.BigGuard
import Derived.Test.YtmaaniokfpkbjaaAny
import Derived.Test.YtmaaniokfpkbjaaOt
set_option linter.unusedSimpArgs false
set_option linter.unusedVariables false
namespace Go.Proofs.Ytmaaniokfpkbjaa
open Go.RowKit

/-- A case at another stage. -/
def mv (tg now : Int) (x : Ca) : Ca := if opB ⟨x.a, x.r, x.d, tg⟩ = true then ⟨x.a, x.r, x.d, tg⟩ else ⟨x.a, x.r, cl now, tg⟩
theorem Qb.fr {w : World} {b : Nat} {x : Ca} (h : Qb w b x) (j : Nat) (hj : j < 4) : w.frozen? ⟨b, j, none⟩ = false := by
  have := (h.2 j hj).2
  rwa [Nat.zero_add] at this
theorem Qb.set2 {w : World} {b : Nat} {x : Ca} (h : Qb w b x) (m : Int) : Qb (w.setCell ⟨b, 2, none⟩ (.int .i64 m)) b ⟨x.a, x.r, m, x.g⟩ := by
  refine ⟨fun j v hv => ?_, World.there_setCells h.2 b 2 [.int .i64 m]⟩
  match j, hv with
  | 0, hv => rw [World.cell?_setCell_other _ _ _ _ (by simp)]; exact h.1 0 v hv
  | 1, hv => rw [World.cell?_setCell_other _ _ _ _ (by simp)]; exact h.1 1 v hv
  | 2, hv =>
    simp [cal] at hv
    subst hv
    exact World.cell?_setCell_same _ _ _ (h.1 2 _ rfl)
  | 3, hv => rw [World.cell?_setCell_other _ _ _ _ (by simp)]; exact h.1 3 v hv
  | j + 4, hv => simp [cal] at hv
theorem Qb.set3 {w : World} {b : Nat} {x : Ca} (h : Qb w b x) (m : Int) : Qb (w.setCell ⟨b, 3, none⟩ (.int .i64 m)) b ⟨x.a, x.r, x.d, m⟩ := by
  refine ⟨fun j v hv => ?_, World.there_setCells h.2 b 3 [.int .i64 m]⟩
  match j, hv with
  | 0, hv => rw [World.cell?_setCell_other _ _ _ _ (by simp)]; exact h.1 0 v hv
  | 1, hv => rw [World.cell?_setCell_other _ _ _ _ (by simp)]; exact h.1 1 v hv
  | 2, hv => rw [World.cell?_setCell_other _ _ _ _ (by simp)]; exact h.1 2 v hv
  | 3, hv =>
    simp [cal] at hv
    subst hv
    exact World.cell?_setCell_same _ _ _ (h.1 3 _ rfl)
  | j + 4, hv => simp [cal] at hv
theorem Qb.other {w : World} {b b' : Nat} {x : Ca} (h : Qb w b' x) (hne : b < b') (j : Nat) (v : Value) : Qb (w.setCell ⟨b, j, none⟩ v) b' x :=
  ⟨fun i u hu => by rw [World.cell?_setCell_other _ _ _ _ (by intro e; injection e with e; omega)]; exact h.1 i u hu, World.there_setCells h.2 b j [v]⟩
theorem Qb.grown {w w' : World} {b : Nat} {x : Ca} {row : Option Nat} (h : Qb w b x) (hg : w.grownBy w' row) (hne : some b ≠ row) : Qb w' b x := by
  have hb := hg.block b h.lt hne
  exact ⟨fun j v hv => by rw [World.cell?_of_block (a := ⟨b, 0 + j, none⟩) hb]; exact h.1 j v hv, fun j hj => ⟨by rw [World.cell?_of_block (a := ⟨b, 0 + j, none⟩) hb]; exact (h.2 j hj).1, by rw [World.frozen?_of_block (a := ⟨b, 0 + j, none⟩) hb]; exact (h.2 j hj).2⟩⟩

set_option maxRecDepth 100000 in
set_option maxHeartbeats 4000000 in
theorem moved_any (x : Ca) (tg now : Int) (w : World) : Calls Try.prog 30 #[cav x, .int .i64 tg, .int .i64 now] w fun e w' => e = .returned (cav (mv tg now x)) ∧ Below w.heap.size w w' := by
  have B0 := Lib.hid (show Below w.heap.size w ((w.alloc (Cax x)).alloc (.cells #[.int .u32 0, .int .i64 0, .int .i64 0, .int .i64 0] 37)) from ((Below.refl _ w).alloc (Nat.le_refl _) _).alloc (by simp) _)
  have Q0 := Lib.hid (show Qb ((w.alloc (Cax x)).alloc (.cells #[.int .u32 0, .int .i64 0, .int .i64 0, .int .i64 0] 37)) w.heap.size x from (qb_box w x).below ((Below.refl _ _).alloc (Nat.le_refl _) _))
  have P0 := Lib.hid (show Qb ((w.alloc (Cax x)).alloc (.cells #[.int .u32 0, .int .i64 0, .int .i64 0, .int .i64 0] 37)) (w.heap.size + 1) zc by have := qb_box (w.alloc (Cax x)) zc; rw [World.size_alloc] at this; exact this)
  have hs0 : w.heap.size + 1 < ((w.alloc (Cax x)).alloc (.cells #[.int .u32 0, .int .i64 0, .int .i64 0, .int .i64 0] 37)).heap.size := by simp
  have HO := Lib.hid (open_any ⟨x.a, x.r, x.d, tg⟩)
  have HC := Lib.hid fun W => clamp_any now W
  have HMV := Lib.hid (show mv tg now x = if opB ⟨x.a, x.r, x.d, tg⟩ = true then ⟨x.a, x.r, x.d, tg⟩ else ⟨x.a, x.r, cl now, tg⟩ from rfl)
  obtain ⟨ob, hob⟩ : ∃ b, opB ⟨x.a, x.r, x.d, tg⟩ = b := ⟨_, rfl⟩
  rw [hob] at HO HMV
  clear hob
  generalize mv tg now x = m at *
  unfold cav Cax at *
  go_enter Try.func30, Try.ntmps30
  go_upto_region 1 with fail
  generalize (w.alloc (.cells #[.int .u32 x.a, .int .i64 x.r, .int .i64 x.d, .int .i64 x.g] 37)).alloc (.cells #[.int .u32 0, .int .i64 0, .int .i64 0, .int .i64 0] 37) = W0 at *
  have f3 := Q0.out.fr 3 (by omega)
  obtain ⟨-, -, -, q3⟩ := Q0.out.c
  have B1 := Lib.hid (B0.out.setCell (p := ⟨w.heap.size, 3, none⟩) (Nat.le_refl _) (.int .i64 tg))
  have Q1 := Lib.hid (Q0.out.set3 tg)
  have P1 := Lib.hid (P0.out.other (b := w.heap.size) (by omega) 3 (.int .i64 tg))
  go_upto_region 2 with fail
  have hs1 : (W0.setCell ⟨w.heap.size, 3, none⟩ (.int .i64 tg)).heap.size = W0.heap.size := by simp
  rw [← hs1] at hs0
  clear hs1 Q0 P0 B0 f3 q3
  generalize W0.setCell ⟨w.heap.size, 3, none⟩ (.int .i64 tg) = W1 at *
  go_wp2_with (refine at_load37 (.tmp 3) rfl rfl _ ⟨x.a, x.r, x.d, tg⟩ rfl Q1.out.at ?_)
  refine (HO.out _).mono ?_
  rintro e W2 ⟨rfl, hb⟩
  have B2 := Lib.hid (B1.out.trans (hb.mono B1.out.size))
  have Q2 := Lib.hid (Q1.out.below hb)
  have P2 := Lib.hid (P1.out.below hb)
  have hs2 : w.heap.size + 1 < W2.heap.size := Nat.lt_of_lt_of_le hs0 hb.size
  clear hb Q1 P1 B1 hs0
  cases ob
  · have f2 := Q2.out.fr 2 (by omega)
    obtain ⟨-, -, q2, -⟩ := Q2.out.c
    have B3 := Lib.hid (B2.out.setCell (p := ⟨w.heap.size, 2, none⟩) (Nat.le_refl _) (.int .i64 (cl now)))
    have Q3 := Lib.hid (Q2.out.set2 (cl now))
    have P3 := Lib.hid (P2.out.other (b := w.heap.size) (by omega) 2 (.int .i64 (cl now)))
    have HM := Lib.hid (show m = ⟨x.a, x.r, cl now, tg⟩ by rw [HMV.out]; rfl)
    dsimp only at Q3
    go_wp2_with fail
    refine (HC.out _).mono ?_
    rintro e w1 ⟨rfl, rfl⟩
    go_upto_region 4 with fail
    clear Q2 P2 B2 f2 q2
    generalize W2.setCell ⟨w.heap.size, 2, none⟩ (.int .i64 (cl now)) = W3 at *
    go_wp2_with (first | (refine at_load37 (.tmp 3) rfl rfl _ ⟨x.a, x.r, cl now, tg⟩ rfl Q3.out.at ?_) | (refine at_store37 _ _ _ zc ⟨x.a, x.r, cl now, tg⟩ P3.out rfl rfl rfl rfl ?_; intro w4 P4 B4 G4))
    refine bodyPost_ret (results_cell rfl _ _ _ _ rfl (loadv37 P4.out)) rfl ?_
    exact ⟨by rw [HM.out]; rfl, B3.out.trans (B4.out _ (by omega))⟩
  · have HM := Lib.hid (show m = ⟨x.a, x.r, x.d, tg⟩ by rw [HMV.out]; rfl)
    go_wp2_with (first | (refine at_load37 (.tmp 3) rfl rfl _ ⟨x.a, x.r, x.d, tg⟩ rfl Q2.out.at ?_) | (refine at_store37 _ _ _ zc ⟨x.a, x.r, x.d, tg⟩ P2.out rfl rfl rfl rfl ?_; intro w4 P4 B4 G4))
    refine bodyPost_ret (results_cell rfl _ _ _ _ rfl (loadv37 P4.out)) rfl ?_
    exact ⟨by rw [HM.out]; rfl, B2.out.trans (B4.out _ (by omega))⟩
theorem grown_trans {w w1 w2 : World} {r r' : Option Nat} (h : w.grownBy w1 r) (g : w1.grownBy w2 r') (hr : ∀ k, r' = some k → some k = r ∨ w.heap.size ≤ k) : w.grownBy w2 r :=
  ⟨g.os.trans h.os, g.tape.trans h.tape, g.output.trans h.output, Nat.le_trans h.size g.size, fun k hk hne => (g.block k (Nat.lt_of_lt_of_le hk h.size) (fun e => by
    rcases hr k e.symm with e' | e'
    · exact hne e'
    · omega)).trans (h.block k hk hne)⟩
theorem grown_below {w w' : World} (h : Below w.heap.size w w') (r : Option Nat) : w.grownBy w' r := ⟨h.os, h.tape, h.output, h.size, fun k hk _ => h.block k hk⟩
theorem cs_set : ∀ (ys : List Ca) (i : Nat) (q : Ca), i < ys.length → ((((eA.cs ys).set (i * 4) (.int .u32 q.a)).set (i * 4 + 1) (.int .i64 q.r)).set (i * 4 + 2) (.int .i64 q.d)).set (i * 4 + 3) (.int .i64 q.g) = eA.cs (ys.set i q)
  | [], i, q, h => by simp at h
  | y :: r, 0, q, _ => by simp [El.cs, eA, cal]
  | y :: r, i + 1, q, h => by
    have ih := cs_set r i q (by simpa using h)
    have e : eA.cs (y :: r) = cal y ++ eA.cs r := rfl
    have e2 : eA.cs ((y :: r).set (i + 1) q) = cal y ++ eA.cs (r.set i q) := rfl
    rw [e, e2, ← ih]
    have hl : (cal y).length = 4 := rfl
    have g : ∀ (l : List Value) (j : Nat) (v : Value), (cal y ++ l).set ((i + 1) * 4 + j) v = cal y ++ l.set (i * 4 + j) v := fun l j v => by
      rw [List.set_append_right _ _ (by rw [hl]; omega), hl, show (i + 1) * 4 + j - 4 = i * 4 + j by omega]
    have g0 := g (eA.cs r) 0 (.int .u32 q.a)
    simp only [Nat.add_zero] at g0
    rw [g0, g, g, g]
theorem own_setrow {w : World} {base g L c : Nat} {ys : List Ca} (h : w.ownsRow base 37 4 (.slice (some ⟨g, 0, none⟩) L c) L (eA.cs ys)) (hl : ys.length = L) {i : Nat} (hi : i < L) (q : Ca) :
    (w.setCells g (i * 4) (cal q)).ownsRow base 37 4 (.slice (some ⟨g, 0, none⟩) L c) L (eA.cs (ys.set i q)) ∧ w.grownBy (w.setCells g (i * 4) (cal q)) (some g) := by
  obtain ⟨o0, g0⟩ := h.stored (i * 4) (.int .u32 q.a)
  obtain ⟨o1, g1⟩ := o0.stored (i * 4 + 1) (.int .i64 q.r)
  obtain ⟨o2, g2⟩ := o1.stored (i * 4 + 2) (.int .i64 q.d)
  obtain ⟨o3, g3⟩ := o2.stored (i * 4 + 3) (.int .i64 q.g)
  rw [cs_set ys i q (by omega)] at o3
  have ht : ∀ k, some g = some k → some k = some g ∨ w.heap.size ≤ k := fun k e => .inl e.symm
  exact ⟨o3, grown_trans (grown_trans (grown_trans g0 g1 ht) g2 ht) g3 ht⟩
theorem own_there {w : World} {base g L c : Nat} {ys : List Ca} (h : w.ownsRow base 37 4 (.slice (some ⟨g, 0, none⟩) L c) L (eA.cs ys)) (hl : ys.length = L) {i : Nat} (hi : i < L) : w.there g (i * 4) 4 := by
  intro j hj
  have hlt : i * 4 + j < L * 4 := by omega
  refine ⟨?_, h.frozenAt _⟩
  rw [h.cellAt _ hlt, List.getElem?_eq_getElem (by rw [cs_length, hl]; exact hlt)]
  rfl
theorem at_storeRow {ops : Array Oper} {rest : List Oper} {o : Oper} {a : Act} {w : World} {Q : Exit → Act → World → Prop} (x y : Operand) (base g L c i : Nat) (ys : List Ca) (q : Ca) (H : w.ownsRow base 37 4 (.slice (some ⟨g, 0, none⟩) L c) L (eA.cs ys)) (hl : ys.length = L) (hi : i < L) (hgd : o.guard = none) (ho : o.op = .store 37 x y) (hx : a.eval x = .pointer (some ⟨g, i * 4, none⟩)) (hy : a.eval y = cav q)
    (h : ∀ w', Hid (w'.ownsRow base 37 4 (.slice (some ⟨g, 0, none⟩) L c) L (eA.cs (ys.set i q))) → Hid (w.grownBy w' (some g)) → wpList Try.prog ops Q rest (a.put o.dst undef) w') : wpList Try.prog ops Q (o :: rest) a w :=
  wpList_store_mid hgd 37 x y ho g (i * 4) (cal q).toArray hx hy (own_there H hl hi) size37 (cal_one q) (h _ (own_setrow H hl hi q).1 (own_setrow H hl hi q).2)

theorem own_slice {α : Type} {E : El α} {w : World} {base : Nat} {e : TypeId} {A : Option Addr} {n m c : Nat} {xs : List α} (h : w.ownsRow base e E.N (.slice A m c) n (E.cs xs)) (hn : xs.length ≤ 140737488355328) : Rw E w A xs := by
  obtain ⟨A', c', e1, -, -, -, hR, -⟩ := own_rw h hn
  injection e1 with e1
  subst e1
  exact hR
theorem own_at {w : World} {base g L c : Nat} {ys : List Ca} (h : w.ownsRow base 37 4 (.slice (some ⟨g, 0, none⟩) L c) L (eA.cs ys)) (hn : ys.length ≤ 140737488355328) {i : Nat} {x : Ca} (hx : ys[i]? = some x) : ∀ j v, (cal x)[j]? = some v → w.cell? ((⟨g, i * 4, none⟩ : Addr).add j) = some v := by
  intro j v hv
  have := (own_slice (E := eA) h hn).at hx j v hv
  rw [Addr.add_mid, Nat.zero_add] at this
  exact this
/-- The block of a row that is not empty. -/
theorem own_g {w : World} {base L : Nat} {v : Value} {xs : List Value} (h : w.ownsRow base 37 4 v L xs) (hL : 0 < L) : ∃ g c, v = .slice (some ⟨g, 0, none⟩) L c ∧ L ≤ c := by
  rcases h.2 with ⟨-, h0⟩ | ⟨g, c, cur, e1, -, -, hle, -⟩
  · omega
  · exact ⟨g, c, e1, hle⟩
theorem calls_fx {f : FuncId} {args : Array Value} {W : World} {v : Value} {Φ : List (Value → World → Prop)} {i : Nat} (h : Calls Try.prog f args W fun e w' => e = .returned v ∧ Below W.heap.size W w') (hi : fAt Φ i = fx v) :
    Calls Try.prog f args W fun e w' => ∃ v, e = .returned v ∧ Below W.heap.size W w' ∧ fAt Φ i v w' := h.mono fun _ _ ⟨he, hb⟩ => ⟨v, he, hb, by rw [hi]; exact rfl⟩
/-- What a change hands back: a row, and a number. -/
def OutPost (w : World) (ys : List Ca) (q : Int) (e : Ending) (w' : World) : Prop :=
  ∃ A cap, e = .returned (.tuple #[.slice A ys.length cap, .int .i64 q]) ∧ ys.length ≤ cap ∧ Rw eA w' A ys ∧ Below w.heap.size w w'
theorem out_no (w w' : World) (q : Int) (hb : Below w.heap.size w w') : OutPost w [] q (.returned (.tuple #[.slice none 0 0, .int .i64 q])) w' :=
  ⟨none, 0, rfl, by simp, Rw.nil _ _, hb⟩
theorem out_yes {w w' : World} {B : Nat} {v : Value} {ys : List Ca} (h : w'.ownsRow B 37 4 v ys.length (eA.cs ys)) (hn : ys.length ≤ 1000) (hb : Below w.heap.size w w') : OutPost w ys 0 (.returned (.tuple #[v, .int .i64 0])) w' := by
  obtain ⟨A, cap, rfl, hc, hm, _, hH, _⟩ := own_rw (E := eA) h (by omega)
  exact ⟨A, cap, rfl, hc, hH, hb⟩
/-- A row in which one case is at another stage. -/
def mvA (xs : List Ca) (i : Nat) (tg now : Int) : List Ca := xs.set i (mv tg now (xs.getD i zc))

set_option maxRecDepth 100000 in
set_option maxHeartbeats 8000000 in
theorem moveAt_any (tg now : Int) (A : Option Addr) (xs : List Ca) (cap i : Nat) (w : World) (h : Rw eA w A xs) (hc : xs.length ≤ cap) (hx9 : xs.length ≤ 900) (hi : i < xs.length) :
    Calls Try.prog 38 #[.slice A xs.length cap, .int .i64 (i : Int), .int .i64 tg, .int .i64 now] w (OwnPost eA 37 w (mvA xs i tg now)) := by
  have hln := h.1
  have HCL := Lib.hid (clone_any A xs cap w h (by omega) hc)
  have HM := Lib.hid fun x W => moved_any x tg now W
  obtain ⟨x, hx⟩ := at_of_lt hi
  have HX := Lib.hid hx
  have HMA := Lib.hid (show mvA xs i tg now = xs.set i (mv tg now x) by unfold mvA; rw [List.getD_eq_getElem?_getD, hx]; rfl)
  have HS := Lib.hid (show (xs.set i (mv tg now x)).length = xs.length from List.length_set)
  clear h hx
  obtain ⟨L, hL⟩ : ∃ L, xs.length = L := ⟨_, rfl⟩
  have HL := Lib.hid hL
  rw [hL] at hln hc hx9 hi HCL HS ⊢
  clear hL
  unfold cav at HM
  go_enter Try.func38, Try.ntmps38
  go_wp2_with fail
  refine HCL.out.mono ?_
  rintro e w1 ⟨v1, rfl, ho, hb⟩
  rw [HL.out] at ho
  obtain ⟨g, c, rfl, hLc⟩ := own_g ho (by omega)
  have hgB := ho.lt g rfl
  have O1 := Lib.hid ho
  have B1 := Lib.hid hb
  have hat := own_at ho (by rw [HL.out]; omega) HX.out
  clear ho hb
  go_wp2_with (refine at_load37 (.tmp 15) rfl rfl ⟨g, i * 4, none⟩ x rfl hat ?_)
  refine (HM.out _ _).mono ?_
  rintro e w2 ⟨rfl, hb⟩
  have O2 := Lib.hid (own_keep O1.out hb)
  have B2 := Lib.hid (B1.out.trans (hb.mono B1.out.size))
  clear hb hat
  go_wp2_with (refine at_storeRow _ _ w.heap.size g L c i xs (mv tg now x) O2.out HL.out hi rfl rfl rfl rfl ?_; intro w3 O3 G3)
  have B3 := Lib.hid (B2.out.grown G3.out B2.out.size (fun k' e => by injection e with e; omega))
  go_ret
  exact ⟨_, rfl, by rw [HMA.out, HS.out]; exact O3.out, B3.out⟩

/-- What becomes of a list where a case changes its stage. -/
def stO (ck : Int → Bool) (tg now a : Int) (xs : List Ca) : List Ca × Int := match fnd a xs with
  | none => ([], 7)
  | some i => if ck (xs.getD i zc).g = true then (mvA xs i tg now, 0) else ([], 8)
theorem mvA_len (xs : List Ca) (i : Nat) (tg now : Int) : (mvA xs i tg now).length = xs.length := by unfold mvA; exact List.length_set
end Go.Proofs.Ytmaaniokfpkbjaa
