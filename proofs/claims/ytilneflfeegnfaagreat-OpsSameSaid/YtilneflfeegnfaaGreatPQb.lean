/-
  Part of the proof: several texts in one file. No condition of its own.
-/
import Derived.Test.YtilneflfeegnfaaGreatPQa
import Derived.BigGuard
import Derived.Laws.BitsAllLaws
import Derived.Test.YtilneflfeegnfaaGreatProg
import Derived.WalkKit
import Derived.WalkLawsBesides
import Derived.BigQuiet
import Derived.Deep.QuietTactic
import Derived.Lib.QuietBelow
import Derived.Lib.Hide
import Derived.Lib.Strings
import Derived.Deep.MidRow
import Derived.Deep.CutRange
import Derived.Deep.LoopGhost
import Derived.Deep.Slices
import Derived.Deep.OwnRows
import Derived.Deep.AppendLies
import Derived.Laws.OwnMore
import Derived.Laws.AppendOwn
import Derived.Laws.ResultCell
import Derived.Maps.AppendAt
import Derived.RegionTactic
import Derived.OwnWalk
import Derived.Lib.MinMax
import Derived.StillTailTactics
import Derived.Lib.SliceRun
import Derived.Sort.LotA
import Derived.Sort.WalkA
set_option linter.unusedSimpArgs false
set_option linter.unusedVariables false
namespace Go.Proofs.YtilneflfeegnfaaGreat.Pb
open Go.RowKit
def Qb (w : World) (b : Nat) (x : Pr) : Prop := w.rangeAt b 0 (prl x) ∧ w.there b 0 5
theorem Qb.key {w : World} {b : Nat} {x : Pr} (h : Qb w b x) : ∀ j v, (prl x)[j]? = some v → w.cell? ⟨b, j, none⟩ = some v := fun j v hv => by
  have := h.1 j v hv
  rwa [Nat.zero_add] at this
theorem Qb.at {w : World} {b : Nat} {x : Pr} (h : Qb w b x) : ∀ j v, (prl x)[j]? = some v → w.cell? ((⟨b, 0, none⟩ : Addr).add j) = some v := fun j v hv => by
  rw [Addr.add_mid, Nat.zero_add]
  exact h.key j v hv
theorem Qb.lt {w : World} {b : Nat} {x : Pr} (h : Qb w b x) : b < w.heap.size := World.block_lt_of_cell? _ _ (h.key 0 _ rfl)
theorem prl_one (x : Pr) : (prl x).toArray.all (·.oneCell') = true := by simp [prl, Value.oneCell']
theorem five {k : Nat} (h : k < 5) : k = 0 ∨ k = 1 ∨ k = 2 ∨ k = 3 ∨ k = 4 := by omega
theorem qb_box (w : World) (x : Pr) : Qb (w.alloc (Prx x)) w.heap.size x := by
  have h : (w.alloc (Prx x)).heap[w.heap.size]? = some (Prx x) := heap_alloc_new w _
  have e : ∀ j, (w.alloc (Prx x)).cell? ⟨w.heap.size, j, none⟩ = _ := fun j => cell_of_row _ _ _ _ _ _ h
  refine ⟨fun j v hv => ?_, fun j hj => ⟨?_, ?_⟩⟩
  · rw [e, Nat.zero_add, ← hv]
    simp [prl]
  · rw [e, Nat.zero_add]
    rcases five hj with rfl | rfl | rfl | rfl | rfl <;> rfl
  · unfold World.frozen?
    rw [h]
    simp [Prx]
theorem Qb.keep {w w' : World} {b B : Nat} {x : Pr} (h : Qb w b x) (hb : Below B w w') (hB : b < B) : Qb w' b x :=
  ⟨fun j v hv => by rw [hb.cell (p := ⟨b, 0 + j, none⟩) hB]; exact h.1 j v hv, fun j hj => ⟨by rw [hb.cell (p := ⟨b, 0 + j, none⟩) hB]; exact (h.2 j hj).1, by rw [hb.frozen (p := ⟨b, 0 + j, none⟩) hB]; exact (h.2 j hj).2⟩⟩
theorem Qb.below {w w' : World} {b : Nat} {x : Pr} (h : Qb w b x) (hb : Below w.heap.size w w') : Qb w' b x := h.keep hb h.lt
theorem Qb.drewN {w : World} {b : Nat} {x : Pr} (h : Qb w b x) (n : Nat) : Qb (w.drewN n) b x := h.below (bdrewN (Below.refl _ _) n)
theorem Qb.put {w : World} {b : Nat} {x : Pr} (h : Qb w b x) (y : Pr) : Qb (w.setCells b 0 (prl y)) b y :=
  ⟨World.rangeAt_setCells_same w b 0 (prl y) h.2, World.there_setCells h.2 b 0 (prl y)⟩
theorem loadv37 {w : World} {b : Nat} {x : Pr} (h : Qb w b x) : (loadVar 97 ⟨b, 0, none⟩).run Tryz.prog w = .ok (prv x) w := run_loadVar_mid w b 0 97 (prl x) _ h.1 Tryz.underlying97 rfl size37
theorem at_store37 {ops : Array Oper} {rest : List Oper} {o : Oper} {a : Act} {w : World} {Q : Exit → Act → World → Prop} (x y : Operand) (b : Nat) (p q : Pr) (H : Qb w b p) (hgd : o.guard = none) (ho : o.op = .store 97 x y) (hx : a.eval x = .pointer (some ⟨b, 0, none⟩)) (hy : a.eval y = prv q)
    (h : ∀ w', Hid (Qb w' b q) → Hid (∀ B, B ≤ b → Below B w w') → Hid (∀ k, k ≠ b → w'.heap[k]? = w.heap[k]?) → wpList Tryz.prog ops Q rest (a.put o.dst undef) w') : wpList Tryz.prog ops Q (o :: rest) a w :=
  wpList_store_mid hgd 97 x y ho b 0 (prl q).toArray hx hy H.2 size37 (prl_one q) (h _ (H.put q) (fun _ hB => below_put hB _ _ _ (Below.refl _ _)) (cells_of37 b _ _ _))
def Kb (w : World) (b : Nat) (x : Pk) : Prop := w.rangeAt b 0 (pkl x) ∧ w.there b 0 11
theorem Kb.key {w : World} {b : Nat} {x : Pk} (h : Kb w b x) : ∀ j v, (pkl x)[j]? = some v → w.cell? ⟨b, j, none⟩ = some v := fun j v hv => by
  have := h.1 j v hv
  rwa [Nat.zero_add] at this
theorem Kb.at {w : World} {b : Nat} {x : Pk} (h : Kb w b x) : ∀ j v, (pkl x)[j]? = some v → w.cell? ((⟨b, 0, none⟩ : Addr).add j) = some v := fun j v hv => by
  rw [Addr.add_mid, Nat.zero_add]
  exact h.key j v hv
theorem Kb.lt {w : World} {b : Nat} {x : Pk} (h : Kb w b x) : b < w.heap.size := World.block_lt_of_cell? _ _ (h.key 0 _ rfl)
theorem pkl_one (x : Pk) : (pkl x).toArray.all (·.oneCell') = true := by simp [pkl, Value.oneCell']
theorem eleven {k : Nat} (h : k < 11) : k = 0 ∨ k = 1 ∨ k = 2 ∨ k = 3 ∨ k = 4 ∨ k = 5 ∨ k = 6 ∨ k = 7 ∨ k = 8 ∨ k = 9 ∨ k = 10 := by omega
theorem kb_box (w : World) (x : Pk) : Kb (w.alloc (Pkx x)) w.heap.size x := by
  have h : (w.alloc (Pkx x)).heap[w.heap.size]? = some (Pkx x) := heap_alloc_new w _
  have e : ∀ j, (w.alloc (Pkx x)).cell? ⟨w.heap.size, j, none⟩ = _ := fun j => cell_of_row _ _ _ _ _ _ h
  refine ⟨fun j v hv => ?_, fun j hj => ⟨?_, ?_⟩⟩
  · rw [e, Nat.zero_add, ← hv]
    simp [pkl]
  · rw [e, Nat.zero_add]
    rcases eleven hj with rfl | rfl | rfl | rfl | rfl | rfl | rfl | rfl | rfl | rfl | rfl <;> rfl
  · unfold World.frozen?
    rw [h]
    simp [Pkx]
theorem Kb.keep {w w' : World} {b B : Nat} {x : Pk} (h : Kb w b x) (hb : Below B w w') (hB : b < B) : Kb w' b x :=
  ⟨fun j v hv => by rw [hb.cell (p := ⟨b, 0 + j, none⟩) hB]; exact h.1 j v hv, fun j hj => ⟨by rw [hb.cell (p := ⟨b, 0 + j, none⟩) hB]; exact (h.2 j hj).1, by rw [hb.frozen (p := ⟨b, 0 + j, none⟩) hB]; exact (h.2 j hj).2⟩⟩
theorem Kb.below {w w' : World} {b : Nat} {x : Pk} (h : Kb w b x) (hb : Below w.heap.size w w') : Kb w' b x := h.keep hb h.lt
theorem Kb.drewN {w : World} {b : Nat} {x : Pk} (h : Kb w b x) (n : Nat) : Kb (w.drewN n) b x := h.below (bdrewN (Below.refl _ _) n)
theorem Kb.put {w : World} {b : Nat} {x : Pk} (h : Kb w b x) (y : Pk) : Kb (w.setCells b 0 (pkl y)) b y :=
  ⟨World.rangeAt_setCells_same w b 0 (pkl y) h.2, World.there_setCells h.2 b 0 (pkl y)⟩
theorem loadv44 {w : World} {b : Nat} {x : Pk} (h : Kb w b x) : (loadVar 103 ⟨b, 0, none⟩).run Tryz.prog w = .ok (pkv x) w := run_loadVar_mid w b 0 103 (pkl x) _ h.1 Tryz.underlying103 rfl size44
theorem cells_of44 (b : Nat) : ∀ (us : List Value) (o : Nat) (w : World) (k : Nat), k ≠ b → (w.setCells b o us).heap[k]? = w.heap[k]?
  | [], _, _, _, _ => rfl
  | u :: r, o, w, k, h => (cells_of44 b r (o + 1) _ k h).trans (heap_setCell_other w ⟨b, o, none⟩ k u h)
theorem at_store44 {ops : Array Oper} {rest : List Oper} {o : Oper} {a : Act} {w : World} {Q : Exit → Act → World → Prop} (x y : Operand) (b : Nat) (p q : Pk) (H : Kb w b p) (hgd : o.guard = none) (ho : o.op = .store 103 x y) (hx : a.eval x = .pointer (some ⟨b, 0, none⟩)) (hy : a.eval y = pkv q)
    (h : ∀ w', Hid (Kb w' b q) → Hid (∀ B, B ≤ b → Below B w w') → Hid (∀ k, k ≠ b → w'.heap[k]? = w.heap[k]?) → wpList Tryz.prog ops Q rest (a.put o.dst undef) w') : wpList Tryz.prog ops Q (o :: rest) a w :=
  wpList_store_mid hgd 103 x y ho b 0 (pkl q).toArray hx hy H.2 size44 (pkl_one q) (h _ (H.put q) (fun _ hB => below_put hB _ _ _ (Below.refl _ _)) (cells_of44 b _ _ _))
theorem Qb.c {w : World} {b : Nat} {x : Pr} (h : Qb w b x) : w.cell? ⟨b, 0, none⟩ = some (.int .u32 x.a) ∧ w.cell? ⟨b, 1, none⟩ = some (.int .i64 x.i) ∧ w.cell? ⟨b, 2, none⟩ = some (.int .i64 x.s) ∧ w.cell? ⟨b, 3, none⟩ = some (.int .i64 x.t) ∧ w.cell? ⟨b, 4, none⟩ = some (.int .i64 x.n) := ⟨h.key 0 _ rfl, h.key 1 _ rfl, h.key 2 _ rfl, h.key 3 _ rfl, h.key 4 _ rfl⟩
theorem Kb.c {w : World} {b : Nat} {x : Pk} (h : Kb w b x) : w.cell? ⟨b, 0, none⟩ = some (.bool x.a) ∧ w.cell? ⟨b, 1, none⟩ = some (.int .u32 x.f) ∧ w.cell? ⟨b, 9, none⟩ = some (.int .i64 x.i) ∧ w.cell? ⟨b, 10, none⟩ = some (.int .i64 x.s) := ⟨h.key 0 _ rfl, h.key 1 _ rfl, h.key 9 _ rfl, h.key 10 _ rfl⟩
theorem pr_box (w : World) (x : Pr) : (w.alloc (Prx x)).cell? ⟨w.heap.size, 0, none⟩ = some (.int .u32 x.a) ∧ (w.alloc (Prx x)).cell? ⟨w.heap.size, 1, none⟩ = some (.int .i64 x.i) ∧ (w.alloc (Prx x)).cell? ⟨w.heap.size, 2, none⟩ = some (.int .i64 x.s) ∧ (w.alloc (Prx x)).cell? ⟨w.heap.size, 3, none⟩ = some (.int .i64 x.t) ∧ (w.alloc (Prx x)).cell? ⟨w.heap.size, 4, none⟩ = some (.int .i64 x.n) := (qb_box w x).c
def ofP (a seq now : Int) : Pr := ⟨a, a % 65536, seq % 65536, cl now, 0⟩
set_option maxRecDepth 100000 in
set_option maxHeartbeats 2000000 in
theorem of_any (a s n : Int) (w : World) : Calls Tryz.prog 102 #[.int .u32 a, .int .i64 s, .int .i64 n] w fun e w' => e = .returned (prv (ofP a s n)) ∧ Below w.heap.size w w' := by
  have P0 := Lib.hid (qb_box w zr)
  have B0 := Lib.hid ((Below.refl w.heap.size w).alloc (Nat.le_refl _) (Prx zr))
  have C1 := Lib.hid fun W => idOf_any a W
  have C2 := Lib.hid fun W => clamp_any n W
  have h16 : wrap64 (IntKind.u16.wrap s) = s % 65536 := by rw [IntKind.wrap_u16]; unfold wrap64; omega
  go_enter Tryz.func102, Tryz.ntmps102
  go_wp2_with fail
  refine (C1.out _).mono ?_
  rintro e w1 ⟨rfl, rfl⟩
  go_wp2_with fail
  refine (C2.out _).mono ?_
  rintro e w1 ⟨rfl, rfl⟩
  go_wp2_with (refine at_store37 _ _ _ zr (ofP a s n) P0.out rfl rfl rfl rfl ?_; intro w2 P2 B2 G2)
  refine bodyPost_ret (results_cell rfl _ _ _ _ rfl (loadv37 P2.out)) rfl ?_
  exact ⟨rfl, B0.out.trans (B2.out _ (Nat.le_refl _))⟩
def pkO (x : Pr) : Pk := ⟨false, 0, x.a, 0, 0, 0, 0, 0, 0, x.i, x.s⟩
set_option maxRecDepth 100000 in
set_option maxHeartbeats 2000000 in
theorem packet_any (x : Pr) (w : World) : Calls Tryz.prog 101 #[prv x] w fun e w' => e = .returned (pkv (pkO x)) ∧ Below w.heap.size w w' := by
  have P0 := Lib.hid (kb_box (w.alloc (Prx x)) zk)
  have B0 := Lib.hid (((Below.refl w.heap.size w).alloc (Nat.le_refl _) (Prx x)).alloc (by simp) (Pkx zk))
  rw [World.size_alloc] at P0
  unfold prv
  go_enter Tryz.func101, Tryz.ntmps101
  go_wp2_with (refine at_store44 _ _ _ zk (pkO x) P0.out rfl rfl rfl rfl ?_; intro w2 P2 B2 G2)
  refine bodyPost_ret (results_cell rfl _ _ _ _ rfl (loadv44 P2.out)) rfl ?_
  exact ⟨rfl, B0.out.trans (B2.out _ (by omega))⟩
theorem rw_lt {α : Type} {E : El α} {w : World} {A : Option Addr} {xs : List α} (h : Rw E w A xs) : ∀ y, A = some y → 0 < xs.length → y.block < w.heap.size := fun y hy hp => by
  obtain ⟨y', hy', hc⟩ := h.2 0 xs[0] (List.getElem?_eq_getElem hp)
  rw [hy] at hy'
  obtain rfl := Option.some.inj hy'
  have hN := E.pos
  have hl := E.len xs[0]
  have hv : (E.cl xs[0])[0]? = some (E.cl xs[0])[0] := List.getElem?_eq_getElem (by omega)
  have := World.block_lt_of_cell? _ _ (hc 0 _ hv)
  rwa [add_block] at this
def Hm (W : World) (b : Nat) (x : Hc) : Prop := ∀ j v, (hl x)[j]? = some v → W.cell? ((⟨b, 0, none⟩ : Addr).add j) = some v
theorem Hm.lt {W : World} {b : Nat} {x : Hc} (h : Hm W b x) : b < W.heap.size := by
  have := World.block_lt_of_cell? _ _ (h 0 _ rfl)
  rwa [add_block] at this
theorem Hm.below {W W' : World} {b : Nat} {x : Hc} (h : Hm W b x) (hb : Below W.heap.size W W') : Hm W' b x := fun j v hv => by
  rw [hb.cell (by rw [add_block]; exact h.lt)]
  exact h j v hv
theorem rw_c0 {w : World} {y : Addr} {xs : List Pr} (R : Rw eP w (some y) xs) {k : Nat} {x : Pr} (hx : xs[k]? = some x) : w.cell? (y.add (k * 5)) = some (.int .u32 x.a) ∧ w.cell? (y.add (k * 5 + 1)) = some (.int .i64 x.i) ∧ w.cell? (y.add (k * 5 + 2)) = some (.int .i64 x.s) ∧ w.cell? (y.add (k * 5 + 3)) = some (.int .i64 x.t) ∧ w.cell? (y.add (k * 5 + 4)) = some (.int .i64 x.n) := by
  obtain ⟨y', hy, hc⟩ := R.2 k x hx
  injection hy with hy
  subst hy
  exact ⟨hc 0 _ rfl, hc 1 _ rfl, hc 2 _ rfl, hc 3 _ rfl, hc 4 _ rfl⟩
theorem rw_f {w : World} {y : Addr} {xs : List Pr} (R : Rw eP w (some y) xs) {k : Nat} {x : Pr} (hx : xs[k]? = some x) : w.cell? ⟨(y.add (k * 5)).block, (y.add (k * 5)).off + 2, none⟩ = some (.int .i64 x.s) := by
  obtain ⟨-, -, h2, -, -⟩ := rw_c0 R hx
  have e : ∀ j, 0 < j → (⟨(y.add (k * 5)).block, (y.add (k * 5)).off + j, none⟩ : Addr) = y.add (k * 5 + j) := fun j hj => by
    rw [← Addr.add_add]
    generalize y.add (k * 5) = z
    unfold Addr.add
    rw [if_neg (by omega)]
  rw [e 2 (by omega)]; exact h2
theorem at_of_lt {xs : List Pr} {k : Nat} (h : k < xs.length) : ∃ x, xs[k]? = some x := ⟨_, List.getElem?_eq_getElem h⟩
theorem run_sl29 (A : Option Addr) (n c i : Nat) (hi : i ≤ c) (W : World) : (Instr.slice 32 (.slice A n c) none (some (.int .i64 (i : Int))) none).run Tryz.prog W = .ok (.slice A i c) W := by
  have h1 : (i : Int) ≤ c := by omega
  have h2 : A.map (·.add (0 * 5)) = A := by cases A <;> simp [Addr.add]
  unfold Instr.slice Instr.sliceBounds Instr.sliceBound
  simp only [Sem.run_bind, run_underlying Tryz.underlying32, Result.andThen_ok, Sem.run_pure, run_size37, asIntOf]
  try simp only [Option.isSome_none, Bool.false_eq_true, if_false, Sem.run_bind, Sem.run_pure, Result.andThen_ok]
  rw [if_pos ⟨by omega, h1⟩]
  simp only [Sem.run_bind, Sem.run_pure, Result.andThen_ok, h2, ite_self, Nat.sub_zero, Int.toNat_natCast]
theorem run_sl29l (A : Option Addr) (n c k : Nat) (hk : k ≤ n) (hc : n ≤ c) (W : World) : (Instr.slice 32 (.slice A n c) (some (.int .i64 (k : Int))) none none).run Tryz.prog W = .ok (.slice (dA 5 A c k) (n - k) (c - k)) W := by
  have h1 : (k : Int) ≤ n := by omega
  unfold Instr.slice Instr.sliceBounds Instr.sliceBound
  simp only [Sem.run_bind, run_underlying Tryz.underlying32, Result.andThen_ok, Sem.run_pure, run_size37, asIntOf]
  try simp only [Option.isSome_none, Bool.false_eq_true, if_false, Sem.run_bind, Sem.run_pure, Result.andThen_ok]
  rw [if_pos ⟨by omega, h1⟩]
  simp only [Sem.run_bind, Sem.run_pure, Result.andThen_ok, Int.toNat_natCast]
  rfl
end Go.Proofs.YtilneflfeegnfaaGreat.Pb
namespace Go.Proofs.YtilneflfeegnfaaGreat.Pb
open Go.RowKit
def toB (xs : List Pr) (a : Int) : Bool := xs.any fun x => x.a == a
theorem to_take {xs : List Pr} {a : Int} {k : Nat} {x : Pr} (hx : xs[k]? = some x) : toB (xs.take (k + 1)) a = (toB (xs.take k) a || (x.a == a)) := by
  unfold toB
  rw [List.take_add_one, hx]
  simp
theorem to_yes {xs : List Pr} {a : Int} {k : Nat} {x : Pr} (hx : xs[k]? = some x) (h : (x.a == a) = true) : toB xs a = true := List.any_eq_true.2 ⟨x, List.mem_of_getElem? hx, h⟩
set_option maxRecDepth 100000 in
set_option maxHeartbeats 2000000 in
theorem anyTo_any (a : Int) (A : Option Addr) (xs : List Pr) (cap : Nat) (w : World) (h : Rw eP w A xs) :
    Calls Tryz.prog 89 #[.slice A xs.length cap, .int .u32 a] w fun e w' => e = .returned (.bool (toB xs a)) ∧ Below w.heap.size w w' := by
  have hln := h.1
  have R := Lib.hid h
  clear h
  obtain ⟨L, hL⟩ : ∃ L, xs.length = L := ⟨_, rfl⟩
  have HL := Lib.hid hL
  rw [hL] at hln ⊢
  clear hL
  go_enter Tryz.func89, Tryz.ntmps89
  go_wp2_with fail
  go_loopw [9] (fun i wr => ∃ k : Nat, i = .int .i64 k ∧ k ≤ L ∧ Hid (Below w.heap.size w wr) ∧ Hid (toB (xs.take k) a = false)) (fun i _ => L - (intOf i).toNat)
  case atStart => exact ⟨0, rfl, by omega, Lib.hid (Below.refl _ _), Lib.hid (by simp [toB])⟩
  case round =>
    obtain ⟨k, rfl, hk, HW, HF⟩ := hrel
    by_cases hkL : k < L
    · obtain ⟨x, hx⟩ := at_of_lt (xs := xs) (k := k) (by rw [HL.out]; exact hkL)
      obtain ⟨y, rfl⟩ := rw_some R.out (by rw [HL.out]; omega)
      have hat := (R.out.below HW.out).at hx
      have HX := Lib.hid hx
      have B1 := Lib.hid (show Below w.heap.size w (wr.alloc (Prx x)) from HW.out.alloc HW.out.size _)
      unfold Prx at *
      clear hx
      cases he : (x.a == a)
      · have HE := Lib.hid he
        go_wp2_with (refine at_load37 (.tmp 11) rfl rfl (y.add (k * 5)) x rfl hat ?_)
        go_roundw
        case rel => exact ⟨k + 1, by go_num, by omega, B1, Lib.hid (by rw [to_take HX.out, HF.out, HE.out]; rfl)⟩
        case measure => simp [intOf]; omega
      · have HE := Lib.hid he
        go_wp2_with (refine at_load37 (.tmp 11) rfl rfl (y.add (k * 5)) x rfl hat ?_)
        go_ret
        exact ⟨by rw [to_yes HX.out HE.out]; rfl, B1.out⟩
    · obtain rfl : k = L := by omega
      go_wp2_with fail
      go_ret
      exact ⟨by rw [show toB xs a = false by rw [← HF.out, List.take_of_length_le (by rw [HL.out]; exact Nat.le_refl _)]]; rfl, HW.out⟩
end Go.Proofs.YtilneflfeegnfaaGreat.Pb
namespace Go.Proofs.YtilneflfeegnfaaGreat.Pb
open Go.RowKit
def rqB (x : Pr) : Bool := decide (x.i = x.a % 65536) && decide (0 ≤ x.s) && decide (x.s ≤ 65535) && decide (x.t = cl x.t) && decide (0 ≤ x.n) && decide (x.n ≤ 8)
set_option maxRecDepth 100000 in
set_option maxHeartbeats 8000000 in
theorem rightProbe_any (x : Pr) (w : World) :
    Calls Tryz.prog 88 #[prv x] w fun e w' => e = .returned (.bool (rqB x)) ∧ Below w.heap.size w w' := by
  obtain ⟨a, i, s, t, n⟩ := x
  obtain ⟨k0, k1, k2, k3, k4⟩ := pr_box w ⟨a, i, s, t, n⟩
  have HB := Lib.hid (show Below w.heap.size w (w.alloc (Prx ⟨a, i, s, t, n⟩)) from (Below.refl _ w).alloc (Nat.le_refl _) _)
  have hs : w.heap.size < (w.alloc (Prx ⟨a, i, s, t, n⟩)).heap.size := by simp
  have HRQ := Lib.hid (show rqB ⟨a, i, s, t, n⟩ = (decide (i = a % 65536) && decide (0 ≤ s) && decide (s ≤ 65535) && decide (t = cl t) && decide (0 ≤ n) && decide (n ≤ 8)) from rfl)
  unfold prv Prx at *
  dsimp only at *
  go_enter Tryz.func88, Tryz.ntmps88
  go_wp2_with fail
  generalize w.alloc (.cells #[.int .u32 a, .int .i64 i, .int .i64 s, .int .i64 t, .int .i64 n] 97) = W at *
  have r0 := cell_regrown k0
  have r1 := cell_regrown k1
  have r2 := cell_regrown k2
  have r3 := cell_regrown k3
  have r4 := cell_regrown k4
  clear k0 k1 k2 k3 k4
  have HC := Lib.hid fun d' os => Calls.regrown_of (d := d') (os := os) ((clamp_any t (Sort.grow (redrawn W d') os)).mono fun _ _ ⟨he, hw⟩ => ⟨he, by rw [hw]; exact Below.refl _ _⟩)
  have HI := Lib.hid fun d' os => Calls.regrown_of (d := d') (os := os) ((idOf_any a (Sort.grow (redrawn W d') os)).mono fun _ _ ⟨he, hw⟩ => ⟨he, by rw [hw]; exact Below.refl _ _⟩)
  generalize a % 65536 = C at *
  generalize cl t = D at *
  by_cases h1 : i = C
  · have e0 : (i == C) = true := by simpa using h1
    have H0 := Lib.hid h1
    clear h1
    by_cases h2 : 0 ≤ s
    · by_cases h3 : s ≤ 65535
      · by_cases h4 : t = D
        · have e3 : (t == D) = true := by simpa using h4
          have H3 := Lib.hid h4
          clear h4
          by_cases h5 : 0 ≤ n
          · by_cases h6 : n ≤ 8
            · have HF := Lib.hid (show rqB ⟨a, i, s, t, n⟩ = true by rw [HRQ.out]; simp [H0.out, h2, h3, H3.out, h5, h6])
              refine wp_region_quiet_below (by kernel_rfl) (by kernel_rfl) ?_
              repeat (go_big_quiet_step (first | (go_at_call 123; exact HI.out _ _) | (go_at_call 79; exact HC.out _ _)))
              refine wpQuiet_nil ?_
              intro _ hw'
              obtain ⟨⟨dq, osq⟩, hw''⟩ := hw'
              subst hw''
              go_wp2
              go_ret
              exact ⟨by rw [HF.out]; rfl, HB.out.trans ((below_regrown _ dq osq).mono HB.out.size)⟩
            · have h6' : decide (n ≤ 8) = false := decide_eq_false h6
              have HF := Lib.hid (show rqB ⟨a, i, s, t, n⟩ = false by rw [HRQ.out]; simp [h6])
              refine wp_region_quiet_below (by kernel_rfl) (by kernel_rfl) ?_
              repeat (go_big_quiet_step (first | (go_at_call 123; exact HI.out _ _) | (go_at_call 79; exact HC.out _ _)))
              refine wpQuiet_nil ?_
              intro _ hw'
              obtain ⟨⟨dq, osq⟩, hw''⟩ := hw'
              subst hw''
              go_wp2
              go_ret
              exact ⟨by rw [HF.out]; rfl, HB.out.trans ((below_regrown _ dq osq).mono HB.out.size)⟩
          · have h5' : decide (0 ≤ n) = false := decide_eq_false h5
            have HF := Lib.hid (show rqB ⟨a, i, s, t, n⟩ = false by rw [HRQ.out]; simp [h5])
            refine wp_region_quiet_below (by kernel_rfl) (by kernel_rfl) ?_
            repeat (go_big_quiet_step (first | (go_at_call 123; exact HI.out _ _) | (go_at_call 79; exact HC.out _ _)))
            refine wpQuiet_nil ?_
            intro _ hw'
            obtain ⟨⟨dq, osq⟩, hw''⟩ := hw'
            subst hw''
            go_wp2
            go_ret
            exact ⟨by rw [HF.out]; rfl, HB.out.trans ((below_regrown _ dq osq).mono HB.out.size)⟩
        · have e3 : (t == D) = false := by simpa using h4
          have HF := Lib.hid (show rqB ⟨a, i, s, t, n⟩ = false by rw [HRQ.out]; simp [h4])
          refine wp_region_quiet_below (by kernel_rfl) (by kernel_rfl) ?_
          repeat (go_big_quiet_step (first | (go_at_call 123; exact HI.out _ _) | (go_at_call 79; exact HC.out _ _)))
          refine wpQuiet_nil ?_
          intro _ hw'
          obtain ⟨⟨dq, osq⟩, hw''⟩ := hw'
          subst hw''
          go_wp2
          go_ret
          exact ⟨by rw [HF.out]; rfl, HB.out.trans ((below_regrown _ dq osq).mono HB.out.size)⟩
      · have h3' : decide (s ≤ 65535) = false := decide_eq_false h3
        have HF := Lib.hid (show rqB ⟨a, i, s, t, n⟩ = false by rw [HRQ.out]; simp [h3])
        refine wp_region_quiet_below (by kernel_rfl) (by kernel_rfl) ?_
        repeat (go_big_quiet_step (first | (go_at_call 123; exact HI.out _ _) | (go_at_call 79; exact HC.out _ _)))
        refine wpQuiet_nil ?_
        intro _ hw'
        obtain ⟨⟨dq, osq⟩, hw''⟩ := hw'
        subst hw''
        go_wp2
        go_ret
        exact ⟨by rw [HF.out]; rfl, HB.out.trans ((below_regrown _ dq osq).mono HB.out.size)⟩
    · have h2' : decide (0 ≤ s) = false := decide_eq_false h2
      have HF := Lib.hid (show rqB ⟨a, i, s, t, n⟩ = false by rw [HRQ.out]; simp [h2])
      refine wp_region_quiet_below (by kernel_rfl) (by kernel_rfl) ?_
      repeat (go_big_quiet_step (first | (go_at_call 123; exact HI.out _ _) | (go_at_call 79; exact HC.out _ _)))
      refine wpQuiet_nil ?_
      intro _ hw'
      obtain ⟨⟨dq, osq⟩, hw''⟩ := hw'
      subst hw''
      go_wp2
      go_ret
      exact ⟨by rw [HF.out]; rfl, HB.out.trans ((below_regrown _ dq osq).mono HB.out.size)⟩
  · have e0 : (i == C) = false := by simpa using h1
    have HF := Lib.hid (show rqB ⟨a, i, s, t, n⟩ = false by rw [HRQ.out]; simp [h1])
    refine wp_region_quiet_below (by kernel_rfl) (by kernel_rfl) ?_
    repeat (go_big_quiet_step (first | (go_at_call 123; exact HI.out _ _) | (go_at_call 79; exact HC.out _ _)))
    refine wpQuiet_nil ?_
    intro _ hw'
    obtain ⟨⟨dq, osq⟩, hw''⟩ := hw'
    subst hw''
    go_wp2
    go_ret
    exact ⟨by rw [HF.out]; rfl, HB.out.trans ((below_regrown _ dq osq).mono HB.out.size)⟩
end Go.Proofs.YtilneflfeegnfaaGreat.Pb
namespace Go.Proofs.YtilneflfeegnfaaGreat.Pb
open Go.RowKit
def pF (ps : List (Pt Pr)) : Value → World → Prop := fun v W => ∃ b, v = .slice (some ⟨b, 0, none⟩) ps.length ps.length ∧ Pm eP W b ps
theorem Pm.below {w w' : World} {b : Nat} {ps : List (Pt Pr)} (h : Pm eP w b ps) (hb : Below w.heap.size w w') : Pm eP w' b ps :=
  ⟨Nat.lt_of_lt_of_le h.1 hb.size, fun k p hp => ⟨by rw [hb.cell (p := ⟨b, k, none⟩) h.1]; exact (h.2 k p hp).1, (h.2 k p hp).2.below hb⟩⟩
theorem stable_pF (ps : List (Pt Pr)) : Stable (pF ps) := fun _ _ _ ⟨b, hv, hP⟩ hb => ⟨b, hv, Pm.below hP hb⟩
def oF (B : Nat) (ys : List Pr) : Value → World → Prop := fun v W => W.ownsRow B 97 5 v ys.length (eP.cs ys)
theorem stable_oF (B : Nat) (ys : List Pr) : Stable (oF B ys) := fun _ _ _ h hb => own_keep h hb
def hF (h : Pr) : Value → World → Prop := fun v W => ∃ b, v = .slice (some ⟨b, 0, none⟩) 1 1 ∧ Rw eP W (some ⟨b, 0, none⟩) [h]
theorem stable_hF (h : Pr) : Stable (hF h) := fun _ _ _ ⟨b, hv, hP⟩ hb => ⟨b, hv, hP.below hb⟩
theorem pm_two (W : World) (p q : Pt Pr) (t : TypeId) (hp : Rw eP W p.A p.xs) (hq : Rw eP W q.A q.xs) : Pm eP (W.alloc (.cells #[.slice p.A p.xs.length p.c, .slice q.A q.xs.length q.c] t)) W.heap.size [p, q] := by
  refine ⟨by simp, fun k r hr => ?_⟩
  match k, hr with
  | 0, hr => simp at hr; subst hr; exact ⟨by simp, hp.below ((Below.refl _ _).alloc (Nat.le_refl _) _)⟩
  | 1, hr => simp at hr; subst hr; exact ⟨by simp, hq.below ((Below.refl _ _).alloc (Nat.le_refl _) _)⟩
  | k + 2, hr => simp at hr
theorem pm_three (W : World) (p q s : Pt Pr) (t : TypeId) (hp : Rw eP W p.A p.xs) (hq : Rw eP W q.A q.xs) (hs : Rw eP W s.A s.xs) : Pm eP (W.alloc (.cells #[.slice p.A p.xs.length p.c, .slice q.A q.xs.length q.c, .slice s.A s.xs.length s.c] t)) W.heap.size [p, q, s] := by
  refine ⟨by simp, fun k r hr => ?_⟩
  match k, hr with
  | 0, hr => simp at hr; subst hr; exact ⟨by simp, hp.below ((Below.refl _ _).alloc (Nat.le_refl _) _)⟩
  | 1, hr => simp at hr; subst hr; exact ⟨by simp, hq.below ((Below.refl _ _).alloc (Nat.le_refl _) _)⟩
  | 2, hr => simp at hr; subst hr; exact ⟨by simp, hs.below ((Below.refl _ _).alloc (Nat.le_refl _) _)⟩
  | k + 3, hr => simp at hr
theorem hs_box (W : World) (x : Pr) : Rw eP (W.alloc (Prx x)) (some ⟨W.heap.size, 0, none⟩) [x] := by
  refine ⟨by simp, fun q z hq => ?_⟩
  match q, hq with
  | 0, hq =>
    simp at hq
    subst hq
    refine ⟨_, rfl, fun j v hv => ?_⟩
    rw [Addr.add_mid]
    have hv' : (prl x)[j]? = some v := hv
    have := (qb_box W x).1 j v hv'
    simpa [eP] using this
  | q + 1, hq => simp at hq
def OutPost (w : World) (ys : List Pr) (q : Int) (e : Ending) (w' : World) : Prop :=
  ∃ A cap, e = .returned (.tuple #[.slice A ys.length cap, .int .i64 q]) ∧ ys.length ≤ cap ∧ cap ≤ maxLen ∧ Rw eP w' A ys ∧ Below w.heap.size w w' ∧ ∀ y, A = some y → w.heap.size ≤ y.block
theorem out_no (w w' : World) (q : Int) (hb : Below w.heap.size w w') : OutPost w [] q (.returned (.tuple #[.slice none 0 0, .int .i64 q])) w' :=
  ⟨none, 0, rfl, by simp, by unfold maxLen; omega, Rw.nil _ _, hb, fun y hy => by cases hy⟩
theorem out_yes {w w' : World} {B : Nat} {v : Value} {ys : List Pr} (h : w'.ownsRow B 97 5 v ys.length (eP.cs ys)) (hn : ys.length ≤ 1000) (hb : Below w.heap.size w w') (hB : w.heap.size ≤ B) : OutPost w ys 0 (.returned (.tuple #[v, .int .i64 0])) w' := by
  obtain ⟨A, cap, rfl, hc, hm, _, hH, hF⟩ := own_rw (E := eP) h (by omega)
  exact ⟨A, cap, rfl, hc, hm, hH, hb, fun y hy => Nat.le_trans hB (hF y hy).1⟩
def putC (xs : List Pr) (p : Pr) : Int := if toB xs p.a = true then 6 else if 16 ≤ xs.length then 4 else 0
def putR (xs : List Pr) (p : Pr) : List Pr := if putC xs p = 0 then xs ++ [p] else []
def del (xs : List Pr) (k : Nat) : List Pr := xs.take k ++ xs.drop (k + 1)
set_option maxRecDepth 100000 in
set_option maxHeartbeats 4000000 in
theorem put_any (x : Pr) (A : Option Addr) (xs : List Pr) (cap : Nat) (w : World) (h : Rw eP w A xs) (hc : xs.length ≤ cap) (hx9 : xs.length ≤ 900) :
    Calls Tryz.prog 71 #[.slice A xs.length cap, prv x] w (OutPost w (putR xs x) (putC xs x)) := by
  have hln := h.1
  have HB0 := Lib.hid (show Below w.heap.size w (w.alloc (Prx x)) from (Below.refl _ w).alloc (Nat.le_refl _) _)
  have R0 := Lib.hid (h.below HB0.out)
  have Q0 := Lib.hid (qb_box w x)
  obtain ⟨b0, -, -, -, -⟩ := pr_box w x
  have HTO := Lib.hid (anyTo_any x.a A xs cap (w.alloc (Prx x)) R0.out)
  have HPC := Lib.hid (show putC xs x = if toB xs x.a = true then 6 else if 16 ≤ xs.length then 4 else 0 from rfl)
  have HPR := Lib.hid (show putR xs x = if putC xs x = 0 then xs ++ [x] else [] from rfl)
  unfold prv Prx at *
  cases hB : toB xs x.a
  · rw [hB] at HTO
    have hBf : ¬ (toB xs x.a = true) := by rw [hB]; simp
    by_cases h16 : 16 ≤ xs.length
    · have h16' : (16 : Int) ≤ xs.length := by omega
      have HT := Lib.hid (show putR xs x = [] ∧ putC xs x = 4 by
        have e : putC xs x = 4 := by rw [HPC.out, if_neg hBf, if_pos h16]
        exact ⟨by rw [HPR.out, e]; rfl, e⟩)
      rw [HT.out.1, HT.out.2]
      clear h HT hB hBf HPC HPR
      generalize xs.length = L at *
      go_enter Tryz.func71, Tryz.ntmps71
      go_wp2_with fail
      generalize w.alloc (.cells #[.int .u32 x.a, .int .i64 x.i, .int .i64 x.s, .int .i64 x.t, .int .i64 x.n] 97) = W at *
      refine HTO.out.mono ?_
      rintro e w1 ⟨rfl, hb⟩
      have B1 := Lib.hid (HB0.out.trans (hb.mono HB0.out.size))
      clear hb
      go_wp2_with fail
      go_ret2
      exact out_no w w1 4 B1.out
    · have h16' : decide ((16 : Int) ≤ xs.length) = false := decide_eq_false (by omega)
      obtain ⟨ys, hys⟩ : ∃ ys, xs ++ [x] = ys := ⟨_, rfl⟩
      have HT := Lib.hid (show putR xs x = ys ∧ putC xs x = 0 by
        have e : putC xs x = 0 := by rw [HPC.out, if_neg hBf, if_neg h16]
        exact ⟨by rw [HPR.out, e, ← hys]; rfl, e⟩)
      rw [HT.out.1, HT.out.2]
      have hyl : ys.length ≤ 1000 := by rw [← hys, List.length_append]; simp; omega
      have HYL := Lib.hid hyl
      have HCC := Lib.hid (show ∀ W g, Rw eP W A xs → Rw eP W (some ⟨g, 0, none⟩) [x] → Calls Tryz.prog 113 #[.slice (some ⟨W.heap.size, 0, none⟩) 2 2] (W.alloc (.cells #[.slice A xs.length cap, .slice (some ⟨g, 0, none⟩) 1 1] 32)) (OwnPost eP 97 (W.alloc (.cells #[.slice A xs.length cap, .slice (some ⟨g, 0, none⟩) 1 1] 32)) ys) from fun W g hA hX => by
        have hp := pm_two W ⟨A, xs, cap⟩ ⟨some ⟨g, 0, none⟩, [x], 1⟩ 32 hA hX
        have := concat_any [⟨A, xs, cap⟩, ⟨some ⟨g, 0, none⟩, [x], 1⟩] W.heap.size 2 _ hp (by simp [cat]; omega) (by simp)
        rw [show cat [(⟨A, xs, cap⟩ : Pt Pr), ⟨some ⟨g, 0, none⟩, [x], 1⟩] [(⟨A, xs, cap⟩ : Pt Pr), ⟨some ⟨g, 0, none⟩, [x], 1⟩].length = ys by rw [← hys]; simp [cat]] at this
        exact this)
      clear h HT hB hBf HPC HPR hyl hys
      generalize xs.length = L at *
      go_enter Tryz.func71, Tryz.ntmps71
      go_wp2_with fail
      generalize w.alloc (.cells #[.int .u32 x.a, .int .i64 x.i, .int .i64 x.s, .int .i64 x.t, .int .i64 x.n] 97) = W at *
      refine HTO.out.mono ?_
      rintro e w1 ⟨rfl, hb⟩
      have B1 := Lib.hid (HB0.out.trans (hb.mono HB0.out.size))
      have R1 := Lib.hid (R0.out.below hb)
      have Q1 := Lib.hid (Q0.out.below hb)
      clear hb b0 Q0 R0
      have RX := Lib.hid (hs_box w1 x)
      have R2 := Lib.hid (R1.out.below ((Below.refl _ w1).alloc (Nat.le_refl _) (Prx x)))
      have HC2 := Lib.hid (HCC.out _ _ R2.out RX.out)
      have B2 := Lib.hid ((B1.out.alloc B1.out.size (Prx x)).alloc (Nat.le_trans B1.out.size (by simp)) (.cells #[.slice A L cap, .slice (some ⟨w1.heap.size, 0, none⟩) 1 1] 32))
      unfold Prx at *
      go_wp2_with (refine at_load37 (.tmp 3) rfl rfl _ x rfl Q1.out.at ?_)
      rw [World.size_alloc] at HC2
      refine HC2.out.mono ?_
      rintro e w3 ⟨v, rfl, ho, hb⟩
      have B3 := Lib.hid (B2.out.trans (hb.mono B2.out.size))
      have O3 := Lib.hid ho
      clear hb ho
      go_wp2_with fail
      go_ret2
      exact out_yes O3.out HYL.out B3.out (by have := B2.out.size; simpa using this)
  · rw [hB] at HTO
    have HT := Lib.hid (show putR xs x = [] ∧ putC xs x = 6 by
      have e : putC xs x = 6 := by rw [HPC.out, if_pos hB]
      exact ⟨by rw [HPR.out, e]; rfl, e⟩)
    rw [HT.out.1, HT.out.2]
    clear h HT hB HPC HPR
    generalize xs.length = L at *
    go_enter Tryz.func71, Tryz.ntmps71
    go_wp2_with fail
    generalize w.alloc (.cells #[.int .u32 x.a, .int .i64 x.i, .int .i64 x.s, .int .i64 x.t, .int .i64 x.n] 97) = W at *
    refine HTO.out.mono ?_
    rintro e w1 ⟨rfl, hb⟩
    have B1 := Lib.hid (HB0.out.trans (hb.mono HB0.out.size))
    clear hb
    go_wp2_with fail
    go_ret2
    exact out_no w w1 6 B1.out
end Go.Proofs.YtilneflfeegnfaaGreat.Pb
namespace Go.Proofs.YtilneflfeegnfaaGreat.Pb
open Go.RowKit
def nx (now : Int) (x : Pr) : Pr := ⟨x.a, x.i, x.s, cl now, x.n + 1⟩
def st1 (wt ag now room : Int) (S : List Pr × List Pr) (x : Pr) : List Pr × List Pr :=
  if wt ≤ si now x.t then
    if ag ≤ x.n then S
    else if (S.2.length : Int) < room then (S.1 ++ [nx now x], S.2 ++ [nx now x])
    else (S.1 ++ [x], S.2)
  else (S.1 ++ [x], S.2)
def ltO (wt ag now room : Int) (xs : List Pr) : List Pr × List Pr := xs.foldl (st1 wt ag now room) ([], [])
theorem lt_snoc (wt ag now room : Int) {xs : List Pr} {k : Nat} {x : Pr} (hx : xs[k]? = some x) : ltO wt ag now room (xs.take (k + 1)) = st1 wt ag now room (ltO wt ag now room (xs.take k)) x := by
  unfold ltO
  rw [List.take_add_one, hx, List.foldl_append]
  rfl
theorem st1_len (wt ag now room : Int) (S : List Pr × List Pr) (x : Pr) (h : S.2.length ≤ S.1.length) : (st1 wt ag now room S x).1.length ≤ S.1.length + 1 ∧ (st1 wt ag now room S x).2.length ≤ (st1 wt ag now room S x).1.length := by
  unfold st1
  split
  · split
    · exact ⟨by omega, h⟩
    · split
      · simp; omega
      · simp; omega
  · simp; omega
theorem lt_len (wt ag now room : Int) (xs : List Pr) : (ltO wt ag now room xs).1.length ≤ xs.length ∧ (ltO wt ag now room xs).2.length ≤ (ltO wt ag now room xs).1.length := by
  have key : ∀ (xs : List Pr) (S : List Pr × List Pr), S.2.length ≤ S.1.length → (xs.foldl (st1 wt ag now room) S).1.length ≤ S.1.length + xs.length ∧ (xs.foldl (st1 wt ag now room) S).2.length ≤ (xs.foldl (st1 wt ag now room) S).1.length := by
    intro xs
    induction xs with
    | nil => intro S h; exact ⟨by simp, h⟩
    | cons x r ih =>
      intro S h
      obtain ⟨h1, h2⟩ := st1_len wt ag now room S x h
      obtain ⟨h3, h4⟩ := ih _ h2
      rw [List.foldl_cons]
      exact ⟨by rw [List.length_cons]; omega, h4⟩
  have := key xs ([], []) (by simp)
  simpa [ltO] using this
theorem Qb.fr {w : World} {b : Nat} {x : Pr} (h : Qb w b x) (j : Nat) (hj : j < 5) : w.frozen? ⟨b, j, none⟩ = false := by
  have := (h.2 j hj).2
  rwa [Nat.zero_add] at this
theorem Qb.set4 {w : World} {b : Nat} {x : Pr} (h : Qb w b x) (m : Int) : Qb (w.setCell ⟨b, 4, none⟩ (.int .i64 m)) b ⟨x.a, x.i, x.s, x.t, m⟩ := by
  refine ⟨fun j v hv => ?_, World.there_setCells h.2 b 4 [.int .i64 m]⟩
  match j, hv with
  | 0, hv => rw [World.cell?_setCell_other _ _ _ _ (by simp)]; exact h.1 0 v hv
  | 1, hv => rw [World.cell?_setCell_other _ _ _ _ (by simp)]; exact h.1 1 v hv
  | 2, hv => rw [World.cell?_setCell_other _ _ _ _ (by simp)]; exact h.1 2 v hv
  | 3, hv => rw [World.cell?_setCell_other _ _ _ _ (by simp)]; exact h.1 3 v hv
  | 4, hv =>
    simp [prl] at hv
    subst hv
    exact World.cell?_setCell_same _ _ _ (h.1 4 _ rfl)
  | j + 5, hv => simp [prl] at hv
theorem Qb.set3 {w : World} {b : Nat} {x : Pr} (h : Qb w b x) (m : Int) : Qb (w.setCell ⟨b, 3, none⟩ (.int .i64 m)) b ⟨x.a, x.i, x.s, m, x.n⟩ := by
  refine ⟨fun j v hv => ?_, World.there_setCells h.2 b 3 [.int .i64 m]⟩
  match j, hv with
  | 0, hv => rw [World.cell?_setCell_other _ _ _ _ (by simp)]; exact h.1 0 v hv
  | 1, hv => rw [World.cell?_setCell_other _ _ _ _ (by simp)]; exact h.1 1 v hv
  | 2, hv => rw [World.cell?_setCell_other _ _ _ _ (by simp)]; exact h.1 2 v hv
  | 3, hv =>
    simp [prl] at hv
    subst hv
    exact World.cell?_setCell_same _ _ _ (h.1 3 _ rfl)
  | 4, hv => rw [World.cell?_setCell_other _ _ _ _ (by simp)]; exact h.1 4 v hv
  | j + 5, hv => simp [prl] at hv
theorem Qb.grown {w w' : World} {b : Nat} {x : Pr} {row : Option Nat} (h : Qb w b x) (hg : w.grownBy w' row) (hne : some b ≠ row) : Qb w' b x := by
  have hb := hg.block b h.lt hne
  exact ⟨fun j v hv => by rw [World.cell?_of_block (a := ⟨b, 0 + j, none⟩) hb]; exact h.1 j v hv, fun j hj => ⟨by rw [World.cell?_of_block (a := ⟨b, 0 + j, none⟩) hb]; exact (h.2 j hj).1, by rw [World.frozen?_of_block (a := ⟨b, 0 + j, none⟩) hb]; exact (h.2 j hj).2⟩⟩
structure Tw (B : Nat) (S : List Pr × List Pr) (v1 v2 : Value) (w0 wr : World) : Prop where
  o1 : wr.ownsRow B 97 5 v1 S.1.length (eP.cs S.1)
  o2 : wr.ownsRow B 97 5 v2 S.2.length (eP.cs S.2)
  ap : ∀ g, v1.ownBlock = some g → v2.ownBlock ≠ some g
  bel : Below B w0 wr
theorem Tw.keep {B : Nat} {S : List Pr × List Pr} {v1 v2 : Value} {w0 wr w' : World} (h : Tw B S v1 v2 w0 wr) (hb : Below wr.heap.size wr w') (hB : B ≤ wr.heap.size) : Tw B S v1 v2 w0 w' :=
  ⟨own_keep h.o1 hb, own_keep h.o2 hb, h.ap, h.bel.trans (hb.mono hB)⟩
theorem Tw.app1 {B : Nat} {S : List Pr × List Pr} {v1 v2 v' : Value} {w0 W w' : World} {x : Pr} (h : Tw B S v1 v2 w0 W) (hB : B ≤ W.heap.size) (ho : w'.ownsRow B 97 5 v' (S.1.length + 1) (eP.cs (S.1 ++ [x]))) (hg : W.grownBy w' v1.ownBlock) (hn : v'.ownBlock = v1.ownBlock ∨ v'.ownBlock = some W.heap.size) : Tw B (S.1 ++ [x], S.2) v' v2 w0 w' := by
  refine ⟨by simpa using ho, h.o2.kept hg ?_, fun g hg1 => ?_, h.bel.grown hg hB (fun k hk => (h.o1.lt k hk).1)⟩
  · rcases hv : v1.ownBlock with _ | g
    · cases hv2 : v2.ownBlock
      · exact .inl rfl
      · exact .inr (by simp)
    · exact .inr (h.ap g hv)
  · rcases hn with e | e
    · exact h.ap g (by rw [← e]; exact hg1)
    · intro hc
      have := (h.o2.lt g hc).2
      rw [e] at hg1
      injection hg1 with hg1
      omega
theorem Tw.app2 {B : Nat} {S : List Pr × List Pr} {v1 v2 v' : Value} {w0 W w' : World} {x : Pr} (h : Tw B S v1 v2 w0 W) (hB : B ≤ W.heap.size) (ho : w'.ownsRow B 97 5 v' (S.2.length + 1) (eP.cs (S.2 ++ [x]))) (hg : W.grownBy w' v2.ownBlock) (hn : v'.ownBlock = v2.ownBlock ∨ v'.ownBlock = some W.heap.size) : Tw B (S.1, S.2 ++ [x]) v1 v' w0 w' := by
  refine ⟨h.o1.kept hg ?_, by simpa using ho, fun g hg1 hc => ?_, h.bel.grown hg hB (fun k hk => (h.o2.lt k hk).1)⟩
  · rcases hv : v1.ownBlock with _ | g
    · exact .inl rfl
    · exact .inr (fun e => h.ap g hv e.symm)
  · rcases hn with e | e
    · exact h.ap g hg1 (by rw [← e]; exact hc)
    · have := (h.o1.lt g hg1).2
      rw [e] at hc
      injection hc with hc
      omega
def TwoPost (w : World) (S : List Pr × List Pr) (e : Ending) (w' : World) : Prop :=
  ∃ A1 c1 A2 c2, e = .returned (.tuple #[.slice A1 S.1.length c1, .slice A2 S.2.length c2]) ∧ S.1.length ≤ c1 ∧ S.2.length ≤ c2 ∧ Rw eP w' A1 S.1 ∧ Rw eP w' A2 S.2 ∧ Below w.heap.size w w'
theorem Tw.two {B : Nat} {S : List Pr × List Pr} {v1 v2 : Value} {w0 wr w : World} (h : Tw B S v1 v2 w0 wr) (h1 : S.1.length ≤ 1000) (h2 : S.2.length ≤ 1000) (hb : Below w.heap.size w wr) : TwoPost w S (.returned (.tuple #[v1, v2])) wr := by
  obtain ⟨A1, c1, rfl, k1, -, -, r1, -⟩ := own_rw (E := eP) h.o1 (by omega)
  obtain ⟨A2, c2, rfl, k2, -, -, r2, -⟩ := own_rw (E := eP) h.o2 (by omega)
  exact ⟨A1, c1, A2, c2, rfl, k1, k2, r1, r2, hb⟩
set_option maxRecDepth 100000 in
set_option maxHeartbeats 16000000 in
theorem late_any (c : Cf) (now room : Int) (A : Option Addr) (xs : List Pr) (cap : Nat) (w : World) (h : Rw eP w A xs) (hx9 : xs.length ≤ 900) (hn : ∀ x ∈ xs, 0 ≤ x.n ∧ x.n ≤ 1099511627776) :
    Calls Tryz.prog 69 #[cfv c, .slice A xs.length cap, .int .i64 now, .int .i64 room] w (TwoPost w (ltO c.f c.g now room xs)) := by
  have hln := h.1
  have HB0 := Lib.hid (show Below w.heap.size w (w.alloc (Cfx c)) from (Below.refl _ w).alloc (Nat.le_refl _) _)
  have R := Lib.hid (h.below HB0.out)
  have C0 := Lib.hid (cm_box w c)
  have HN := Lib.hid hn
  have HLN := Lib.hid (lt_len c.f c.g now room)
  have HS1 := Lib.hid (show ∀ S x, st1 c.f c.g now room S x = (if c.f ≤ si now x.t then (if c.g ≤ x.n then S else if (S.2.length : Int) < room then (S.1 ++ [nx now x], S.2 ++ [nx now x]) else (S.1 ++ [x], S.2)) else (S.1 ++ [x], S.2)) from fun S x => rfl)
  have HSI := Lib.hid fun t W => since_any now t W
  have HCL := Lib.hid fun W => clamp_any now W
  have HSN := Lib.hid (fun k x (hx : xs[k]? = some x) => lt_snoc c.f c.g now room hx)
  clear h hn
  obtain ⟨L, hL⟩ : ∃ L, xs.length = L := ⟨_, rfl⟩
  have HL := Lib.hid hL
  rw [hL] at hln hx9 ⊢
  clear hL
  unfold cfv Cfx at *
  go_enter Tryz.func69, Tryz.ntmps69
  go_wp2_with fail
  generalize w.alloc (.cells #[.int .i64 c.a, .int .i64 c.b, .int .i64 c.c, .int .i64 c.d, .int .i64 c.e, .int .i64 c.f, .int .i64 c.g, .int .i64 c.h, .int .i64 c.i] 27) = W0 at *
  go_loopw [10, 11, 17] (fun v u i wr => ∃ (k : Nat), i = .int .i64 k ∧ k ≤ L ∧ Hid (Tw W0.heap.size (ltO c.f c.g now room (xs.take k)) v u W0 wr)) (fun _ _ i _ => L - (intOf i).toNat)
  case atStart => exact ⟨0, rfl, by omega, Lib.hid ⟨World.ownsRow_nil _ _ _ _, World.ownsRow_nil _ _ _ _, (fun g e => by cases e), Below.refl _ _⟩⟩
  case round =>
    obtain ⟨k, rfl, hk, HT0⟩ := hrel
    have hl1 := (HLN.out (xs.take k)).1
    have hl2 := (HLN.out (xs.take k)).2
    have hl3 : (xs.take k).length ≤ L := by rw [List.length_take, HL.out]; omega
    by_cases hkL : k < L
    · obtain ⟨x, hx⟩ := at_of_lt (xs := xs) (k := k) (by rw [HL.out]; exact hkL)
      obtain ⟨y, rfl⟩ := rw_some R.out (by rw [HL.out]; omega)
      have hat := (R.out.below HT0.out.bel).at hx
      have HX := Lib.hid hx
      obtain ⟨hn0, hn1⟩ := HN.out x (List.mem_of_getElem? hx)
      have HSX := Lib.hid (HSN.out k x hx)
      clear hx
      generalize ltO c.f c.g now room (xs.take k) = S at *
      have hBr := HT0.out.bel.size
      have C1 := Lib.hid (C0.out.below HT0.out.bel)
      have T1 := Lib.hid (HT0.out.keep ((Below.refl _ wr).alloc (Nat.le_refl _) (Prx x)) hBr)
      have C2 := Lib.hid (C1.out.below ((Below.refl _ wr).alloc (Nat.le_refl _) (Prx x)))
      have Q2 := Lib.hid (qb_box wr x)
      have hqn : ∀ g, u11.ownBlock = some g → g < wr.heap.size := fun g hg => (HT0.out.o2.lt g hg).2
      have HQN := Lib.hid hqn
      have hB1 : W0.heap.size ≤ (wr.alloc (Prx x)).heap.size := Nat.le_trans hBr (by simp)
      have hbs : wr.heap.size < (wr.alloc (Prx x)).heap.size := by simp
      clear hqn C1
      unfold Prx at *
      obtain ⟨v1, rfl⟩ : ∃ v, v = u10 := ⟨_, rfl⟩
      obtain ⟨A2, c2, rfl, -, -, -, -, -⟩ := own_rw (E := eP) HT0.out.o2 (by omega)
      have hlen1 : S.1.length + 1 ≤ 1000000000000 := by omega
      have hlen2 : S.2.length + 1 ≤ 1000000000000 := by omega
      have hm9 : S.2.length ≤ 1000 := by omega
      have BW1 := Lib.hid (show Below wr.heap.size wr (wr.alloc (.cells #[.int .u32 x.a, .int .i64 x.i, .int .i64 x.s, .int .i64 x.t, .int .i64 x.n] 97)) from (Below.refl _ wr).alloc (Nat.le_refl _) _)
      clear hl1 hl2 hl3 T1
      obtain ⟨m2, hm2⟩ : ∃ m, S.2.length = m := ⟨_, rfl⟩
      have HM2 := Lib.hid hm2
      rw [hm2] at HT0 HQN hm9 ⊢
      clear hm2
      go_upto_region 5 with (refine at_load37 (.tmp 19) rfl rfl (y.add (k * 5)) x rfl hat ?_)
      generalize wr.alloc (.cells #[.int .u32 x.a, .int .i64 x.i, .int .i64 x.s, .int .i64 x.t, .int .i64 x.n] 97) = W at *
      obtain ⟨q0, q1, q2, q3, q4⟩ := Q2.out.c
      have rc5 := C2.out.c5
      have rc6 := C2.out.c6
      have f3 := Q2.out.fr 3 (by omega)
      have f4 := Q2.out.fr 4 (by omega)
      have r3 := cell_regrown q3
      have r5 := cell_regrown rc5
      have HSR := Lib.hid fun d' os => Calls.regrown_of (d := d') (os := os) ((HSI.out x.t (Sort.grow (redrawn W d') os)).mono fun _ _ ⟨he, hw⟩ => ⟨he, by rw [hw]; exact Below.refl _ _⟩)
      obtain ⟨Z, hZ⟩ : ∃ Z, si now x.t = Z := ⟨_, rfl⟩
      have HZ := Lib.hid hZ
      rw [hZ] at HSR
      clear hZ
      by_cases hl : c.f ≤ Z
      · refine wp_region_quiet_below (by kernel_rfl) (by kernel_rfl) ?_
        repeat (go_big_quiet_step ((go_at_call 96; exact HSR.out _ _)))
        refine wpQuiet_nil ?_
        intro _ hw'
        obtain ⟨⟨dq, osq⟩, hw''⟩ := hw'
        subst hw''
        have BQ := below_regrown W dq osq
        have BW3 := Lib.hid (BW1.out.trans (BQ.mono BW1.out.size))
        have C3 := Lib.hid (C2.out.below BQ)
        have Q3 := Lib.hid (Q2.out.below BQ)
        have hs3 := BQ.size
        clear q0 q1 q2 q3 q4 rc5 rc6 f3 f4 BQ BW1 C2 Q2 r3 r5 HSR
        generalize Sort.grow (redrawn W dq) osq = W3 at *
        obtain ⟨q0, q1, q2, q3, q4⟩ := Q3.out.c
        have rc5 := C3.out.c5
        have rc6 := C3.out.c6
        have f3 := Q3.out.fr 3 (by omega)
        have f4 := Q3.out.fr 4 (by omega)
        by_cases hg : c.g ≤ x.n
        · have HV := Lib.hid (show st1 c.f c.g now room S x = S by rw [HS1.out, HZ.out, if_pos hl, if_pos hg])
          have T9 := Lib.hid (HT0.out.keep BW3.out hBr)
          go_wp2_with fail
          go_roundw
          case rel => exact ⟨k + 1, by go_num, by omega, Lib.hid (by rw [HSX.out, HV.out]; exact T9.out)⟩
          case measure => simp [intOf]; omega
        · have hg' : decide (c.g ≤ x.n) = false := decide_eq_false hg
          by_cases hr : (m2 : Int) < room
          · have HV := Lib.hid (show st1 c.f c.g now room S x = (S.1 ++ [nx now x], S.2 ++ [nx now x]) by rw [HS1.out, HZ.out, if_pos hl, if_neg hg, if_pos (by rw [HM2.out]; exact hr)])
            obtain ⟨x5, hx5⟩ : ∃ x5, nx now x = x5 := ⟨_, rfl⟩
            have BW5 := Lib.hid ((BW3.out.setCell (p := ⟨wr.heap.size, 4, none⟩) (Nat.le_refl _) (.int .i64 (x.n + 1))).setCell (p := ⟨wr.heap.size, 3, none⟩) (Nat.le_refl _) (.int .i64 (cl now)))
            have Q5 := Lib.hid (show Qb ((W3.setCell ⟨wr.heap.size, 4, none⟩ (.int .i64 (x.n + 1))).setCell ⟨wr.heap.size, 3, none⟩ (.int .i64 (cl now))) wr.heap.size x5 from by rw [← hx5]; exact (Q3.out.set4 (x.n + 1)).set3 (cl now))
            go_wp2_with fail
            refine (HCL.out _).mono ?_
            rintro e w1 ⟨rfl, rfl⟩
            go_upto_region 10 with fail
            generalize (W3.setCell ⟨wr.heap.size, 4, none⟩ (.int .i64 (x.n + 1))).setCell ⟨wr.heap.size, 3, none⟩ (.int .i64 (cl now)) = W5 at *
            rw [hx5] at HV
            clear hx5 q0 q1 q2 q3 q4 rc5 rc6 f3 f4 Q3 C3 BW3
            have RX6 := Lib.hid (hs_box W5 x5)
            have BW6 := Lib.hid (show Below wr.heap.size wr (W5.alloc (Prx x5)) from BW5.out.alloc BW5.out.size _)
            have T6 := Lib.hid (HT0.out.keep BW6.out hBr)
            have Q6 := Lib.hid (Q5.out.below ((Below.refl _ W5).alloc (Nat.le_refl _) (Prx x5)))
            have hB6 := Lib.hid (T6.out.bel.size)
            unfold Prx at *
            go_wp2_with (first | (refine at_load37 (.tmp 13) rfl rfl _ x5 rfl Q5.out.at ?_) | (at_builtin; refine wpList_append_rw2 tP _ rfl (.tmp 50) (.tmp 52) rfl W0.heap.size _ _ _ (by simp [Act.eval, Act.put]) T6.out.o2 _ 1 1 [x5] (by simp [Act.eval, Act.put]) rfl RX6.out hlen2 hB6.out ?_))
            intro v7 w7 ho7 hg7 hn7
            have T7 := Lib.hid (T6.out.app2 hB6.out ho7 hg7 (by simpa using hn7))
            have Q7 := Lib.hid (Q6.out.grown hg7 (fun e => by have := HQN.out _ e.symm; omega))
            clear ho7 hg7 hn7 T6 Q6 RX6 BW6 BW5 Q5
            have RX8 := Lib.hid (hs_box w7 x5)
            have T8 := Lib.hid (T7.out.keep ((Below.refl _ w7).alloc (Nat.le_refl _) (Prx x5)) T7.out.bel.size)
            have hB8 := Lib.hid (T8.out.bel.size)
            unfold Prx at *
            go_wp2_with (first | (refine at_load37 (.tmp 13) rfl rfl _ x5 rfl Q7.out.at ?_) | (at_builtin; refine wpList_append_rw2 tP _ rfl (.tmp 54) (.tmp 56) rfl W0.heap.size _ _ _ (by simp [Act.eval, Act.put]) T8.out.o1 _ 1 1 [x5] (by simp [Act.eval, Act.put]) rfl RX8.out hlen1 hB8.out ?_))
            intro v9 w9 ho9 hg9 hn9
            have T9 := Lib.hid (T8.out.app1 hB8.out ho9 hg9 (by simpa using hn9))
            clear ho9 hg9 hn9 T8 RX8
            go_wp2_with fail
            go_roundw
            case rel => exact ⟨k + 1, by go_num, by omega, Lib.hid (by rw [HSX.out, HV.out]; exact T9.out)⟩
            case measure => simp [intOf]; omega
          · have hr' : decide ((m2 : Int) < room) = false := decide_eq_false hr
            have HV := Lib.hid (show st1 c.f c.g now room S x = (S.1 ++ [x], S.2) by rw [HS1.out, HZ.out, if_pos hl, if_neg hg, if_neg (by rw [HM2.out]; exact hr)])
            have T7 := Lib.hid (HT0.out.keep BW3.out hBr)
            have RX8 := Lib.hid (hs_box W3 x)
            have T8 := Lib.hid (T7.out.keep ((Below.refl _ W3).alloc (Nat.le_refl _) (Prx x)) T7.out.bel.size)
            have hB8 := Lib.hid (T8.out.bel.size)
            unfold Prx at *
            go_wp2_with (first | (refine at_load37 (.tmp 13) rfl rfl _ x rfl Q3.out.at ?_) | (at_builtin; refine wpList_append_rw2 tP _ rfl (.tmp 54) (.tmp 56) rfl W0.heap.size _ _ _ (by simp [Act.eval, Act.put]) T8.out.o1 _ 1 1 [x] (by simp [Act.eval, Act.put]) rfl RX8.out hlen1 hB8.out ?_))
            intro v9 w9 ho9 hg9 hn9
            have T9 := Lib.hid (T8.out.app1 hB8.out ho9 hg9 (by simpa using hn9))
            clear ho9 hg9 hn9 T8 RX8
            go_wp2_with fail
            go_roundw
            case rel => exact ⟨k + 1, by go_num, by omega, Lib.hid (by rw [HSX.out, HV.out]; exact T9.out)⟩
            case measure => simp [intOf]; omega
      · have hl' : decide (c.f ≤ Z) = false := decide_eq_false hl
        refine wp_region_quiet_below (by kernel_rfl) (by kernel_rfl) ?_
        repeat (go_big_quiet_step ((go_at_call 96; exact HSR.out _ _)))
        refine wpQuiet_nil ?_
        intro _ hw'
        obtain ⟨⟨dq, osq⟩, hw''⟩ := hw'
        subst hw''
        have BQ := below_regrown W dq osq
        have BW3 := Lib.hid (BW1.out.trans (BQ.mono BW1.out.size))
        have C3 := Lib.hid (C2.out.below BQ)
        have Q3 := Lib.hid (Q2.out.below BQ)
        have hs3 := BQ.size
        clear q0 q1 q2 q3 q4 rc5 rc6 f3 f4 BQ BW1 C2 Q2 r3 r5 HSR
        generalize Sort.grow (redrawn W dq) osq = W3 at *
        obtain ⟨q0, q1, q2, q3, q4⟩ := Q3.out.c
        have rc5 := C3.out.c5
        have rc6 := C3.out.c6
        have f3 := Q3.out.fr 3 (by omega)
        have f4 := Q3.out.fr 4 (by omega)
        have HV := Lib.hid (show st1 c.f c.g now room S x = (S.1 ++ [x], S.2) by rw [HS1.out, HZ.out, if_neg hl])
        have T7 := Lib.hid (HT0.out.keep BW3.out hBr)
        have RX8 := Lib.hid (hs_box W3 x)
        have T8 := Lib.hid (T7.out.keep ((Below.refl _ W3).alloc (Nat.le_refl _) (Prx x)) T7.out.bel.size)
        have hB8 := Lib.hid (T8.out.bel.size)
        unfold Prx at *
        go_wp2_with (first | (refine at_load37 (.tmp 13) rfl rfl _ x rfl Q3.out.at ?_) | (at_builtin; refine wpList_append_rw2 tP _ rfl (.tmp 54) (.tmp 56) rfl W0.heap.size _ _ _ (by simp [Act.eval, Act.put]) T8.out.o1 _ 1 1 [x] (by simp [Act.eval, Act.put]) rfl RX8.out hlen1 hB8.out ?_))
        intro v9 w9 ho9 hg9 hn9
        have T9 := Lib.hid (T8.out.app1 hB8.out ho9 hg9 (by simpa using hn9))
        clear ho9 hg9 hn9 T8 RX8
        go_wp2_with fail
        go_roundw
        case rel => exact ⟨k + 1, by go_num, by omega, Lib.hid (by rw [HSX.out, HV.out]; exact T9.out)⟩
        case measure => simp [intOf]; omega
    · obtain rfl : k = L := by omega
      have hfull : xs.take k = xs := List.take_of_length_le (by rw [HL.out]; exact Nat.le_refl _)
      rw [hfull] at HT0 hl1 hl2
      have h1 : (ltO c.f c.g now room xs).1.length ≤ 1000 := by rw [HL.out] at hl1; omega
      have h2 : (ltO c.f c.g now room xs).2.length ≤ 1000 := by omega
      have HD := Lib.hid (HT0.out.two h1 h2 (HB0.out.trans (HT0.out.bel.mono HB0.out.size)))
      go_wp2_with fail
      go_ret2
      exact HD.out
end Go.Proofs.YtilneflfeegnfaaGreat.Pb
namespace Go.Proofs.YtilneflfeegnfaaGreat.Pb
open Go.RowKit
def rk (xs : List Pr) (k : Nat) : Bool := match xs[k]? with
  | some x => rqB x && !toB (xs.take k) x.a
  | none => true
def rgB (xs : List Pr) : Bool := decide (xs.length ≤ 16) && (List.range xs.length).all (rk xs)
theorem rk_all (xs : List Pr) (k : Nat) : (List.range (k + 1)).all (rk xs) = ((List.range k).all (rk xs) && rk xs k) := by
  rw [List.range_succ, List.all_append]; simp
theorem all_no {xs : List Pr} {k : Nat} (hk : k < xs.length) (h : rk xs k = false) : (List.range xs.length).all (rk xs) = false := by
  rw [Bool.eq_false_iff]
  intro hc
  rw [List.all_eq_true] at hc
  have := hc k (List.mem_range.2 hk)
  rw [h] at this; cases this
theorem rgB_no {xs : List Pr} {k : Nat} (hk : k < xs.length) (h : rk xs k = false) : rgB xs = false := by
  unfold rgB
  rw [all_no hk h, Bool.and_false]
set_option maxRecDepth 100000 in
set_option maxHeartbeats 8000000 in
theorem right_row (A : Option Addr) (xs : List Pr) (cap : Nat) (w : World) (h : Rw eP w A xs) (hcap : xs.length ≤ cap) :
    Calls Tryz.prog 41 #[.slice A xs.length cap] w fun e w' => e = .returned (.bool (rgB xs)) ∧ Below w.heap.size w w' := by
  have hln := h.1
  have R := Lib.hid h
  have HNO := Lib.hid (fun k => @rgB_no xs k)
  have HRG := Lib.hid (show rgB xs = _ by unfold rgB; rfl)
  have HSL := Lib.hid (fun n c i hi W => run_sl29 A n c i hi W)
  clear h
  by_cases h16 : 16 < xs.length
  · have HF := Lib.hid (show rgB xs = false by rw [HRG.out, decide_eq_false (by omega)]; rfl)
    generalize xs.length = L at *
    go_enter Tryz.func41, Tryz.ntmps41
    go_wp2_with fail
    go_ret
    exact ⟨by rw [HF.out]; rfl, Below.refl _ _⟩
  · have h16' : xs.length ≤ 16 := by omega
    rw [decide_eq_true h16', Bool.true_and] at HRG
    obtain ⟨L, hL⟩ : ∃ L, xs.length = L := ⟨_, rfl⟩
    have HL := Lib.hid hL
    rw [hL] at hln hcap HRG HNO h16 h16' ⊢
    clear hL
    go_enter Tryz.func41, Tryz.ntmps41
    go_wp2_with fail
    go_loopw [10] (fun i wr => ∃ k : Nat, i = .int .i64 k ∧ k ≤ L ∧ Hid (Below w.heap.size w wr) ∧ Hid ((List.range k).all (rk xs) = true)) (fun i _ => L - (intOf i).toNat)
    case atStart => exact ⟨0, rfl, by omega, Lib.hid (Below.refl _ _), Lib.hid rfl⟩
    case round =>
      obtain ⟨k, rfl, hk, HW, HF⟩ := hrel
      by_cases hkL : k < L
      · obtain ⟨x, hx⟩ := at_of_lt (xs := xs) (k := k) (by rw [HL.out]; exact hkL)
        obtain ⟨y, rfl⟩ := rw_some R.out (by rw [HL.out]; omega)
        have RW := Lib.hid (R.out.below HW.out)
        have hat := RW.out.at hx
        have HX := Lib.hid hx
        have Q1 := Lib.hid (qb_box wr x)
        have hsz : wr.heap.size < (wr.alloc (Prx x)).heap.size := by simp
        have B1 := Lib.hid (show Below w.heap.size w (wr.alloc (Prx x)) from HW.out.alloc HW.out.size _)
        have R1 := Lib.hid (RW.out.below ((Below.refl _ wr).alloc (Nat.le_refl _) (Prx x)))
        have HKK := Lib.hid (show rk xs k = (rqB x && !toB (xs.take k) x.a) by unfold rk; rw [hx])
        have e1 : (xs.take k).length = k := by rw [List.length_take, HL.out]; omega
        have RSL := HSL.out L cap k (by omega)
        clear hx
        unfold Prx at *
        go_upto_region 6 with (refine at_load37 (.tmp 13) rfl rfl (y.add (k * 5)) x rfl hat ?_)
        generalize wr.alloc (.cells #[.int .u32 x.a, .int .i64 x.i, .int .i64 x.s, .int .i64 x.t, .int .i64 x.n] 97) = W at *
        obtain ⟨s0, s1, s2, s3, s4⟩ := Q1.out.c
        have r0 := cell_regrown s0
        have r1 := cell_regrown s1
        have r2 := cell_regrown s2
        have r3 := cell_regrown s3
        have r4 := cell_regrown s4
        clear hat s0 s1 s2 s3 s4
        have RQW := fun W' => rightProbe_any x W'
        have TOW := fun W' (hR : Rw eP W' (some y) xs) => anyTo_any x.a (some y) (xs.take k) cap W' (hR.take k)
        rw [e1] at TOW
        unfold prv at RQW
        cases hrs : rqB x
        · have HKF := Lib.hid (show rk xs k = false by rw [HKK.out, hrs]; rfl)
          rw [hrs] at RQW
          have HRS := Lib.hid fun d os => Calls.regrown_of (d := d) (os := os) (RQW (Sort.grow (redrawn W d) os))
          refine wp_region_quiet_below (by kernel_rfl) (by kernel_rfl) ?_
          repeat (go_big_quiet_step (first | (go_at_call 88; exact HRS.out _ _) | (go_at_call 89; exact HAO.out _ _)))
          refine wpQuiet_nil ?_
          intro _ hw'
          obtain ⟨⟨dq, osq⟩, hw''⟩ := hw'
          subst hw''
          have B3 := Lib.hid (show Below w.heap.size w (Sort.grow (redrawn W dq) osq) from B1.out.trans ((below_regrown _ dq osq).mono B1.out.size))
          go_wp2_with fail
          go_ret
          exact ⟨by rw [HNO.out k hkL HKF.out]; rfl, B3.out⟩
        · rw [hrs] at RQW
          cases han : toB (xs.take k) x.a
          · have HKT := Lib.hid (show rk xs k = true by rw [HKK.out, hrs, han]; rfl)
            rw [han] at TOW
            have HRS := Lib.hid fun d os => Calls.regrown_of (d := d) (os := os) (RQW (Sort.grow (redrawn W d) os))
            have HAO := Lib.hid fun d os => Calls.regrown_of (d := d) (os := os) (TOW (Sort.grow (redrawn W d) os) (R1.out.below (below_regrown W d os)))
            refine wp_region_quiet_below (by kernel_rfl) (by kernel_rfl) ?_
            repeat (go_big_quiet_step (first | (go_at_call 88; exact HRS.out _ _) | (go_at_call 89; exact HAO.out _ _)))
            refine wpQuiet_nil ?_
            intro _ hw'
            obtain ⟨⟨dq, osq⟩, hw''⟩ := hw'
            subst hw''
            have B3 := Lib.hid (show Below w.heap.size w (Sort.grow (redrawn W dq) osq) from B1.out.trans ((below_regrown _ dq osq).mono B1.out.size))
            go_wp2_with fail
            go_roundw
            case rel => exact ⟨k + 1, by go_num, by omega, B3, Lib.hid (by rw [rk_all, HF.out, HKT.out]; rfl)⟩
            case measure => simp [intOf]; omega
          · have HKF := Lib.hid (show rk xs k = false by rw [HKK.out, hrs, han]; rfl)
            rw [han] at TOW
            have HRS := Lib.hid fun d os => Calls.regrown_of (d := d) (os := os) (RQW (Sort.grow (redrawn W d) os))
            have HAO := Lib.hid fun d os => Calls.regrown_of (d := d) (os := os) (TOW (Sort.grow (redrawn W d) os) (R1.out.below (below_regrown W d os)))
            refine wp_region_quiet_below (by kernel_rfl) (by kernel_rfl) ?_
            repeat (go_big_quiet_step (first | (go_at_call 88; exact HRS.out _ _) | (go_at_call 89; exact HAO.out _ _)))
            refine wpQuiet_nil ?_
            intro _ hw'
            obtain ⟨⟨dq, osq⟩, hw''⟩ := hw'
            subst hw''
            have B3 := Lib.hid (show Below w.heap.size w (Sort.grow (redrawn W dq) osq) from B1.out.trans ((below_regrown _ dq osq).mono B1.out.size))
            go_wp2_with fail
            go_ret
            exact ⟨by rw [HNO.out k hkL HKF.out]; rfl, B3.out⟩
      · obtain rfl : k = L := by omega
        go_wp2_with fail
        go_ret
        exact ⟨by rw [HRG.out, HF.out]; rfl, HW.out⟩
end Go.Proofs.YtilneflfeegnfaaGreat.Pb
namespace Go.Proofs.YtilneflfeegnfaaGreat.Pb
def Au (xs : List Pr) : Prop := ∀ x ∈ xs, 0 ≤ x.a ∧ x.a < 4294967296
theorem rqB_eq (x : Pr) : rqB x = (decide (x.i = x.a % 65536) && decide (0 ≤ x.s) && decide (x.s ≤ 65535) && decide (0 ≤ x.t) && decide (x.t ≤ 1099511627776) && decide (0 ≤ x.n) && decide (x.n ≤ 8)) := by
  unfold rqB
  rw [show decide (x.t = cl x.t) = (decide (0 ≤ x.t) && decide (x.t ≤ 1099511627776)) by rw [← Bool.decide_and]; exact decide_eq_decide.2 (cl_iff _)]
  simp only [Bool.and_assoc]
open Go.RowKit
theorem to_false {xs : List Pr} {a : Int} : toB xs a = false ↔ ∀ x ∈ xs, x.a ≠ a := by
  unfold toB
  rw [List.any_eq_false]
  simp
theorem to_true {xs : List Pr} {a : Int} : toB xs a = true ↔ ∃ x ∈ xs, x.a = a := by
  unfold toB
  rw [List.any_eq_true]
  simp
structure Vr (xs : List Pr) : Prop where
  few : xs.length ≤ 16
  all : ∀ x ∈ xs, rqB x = true
  dis : (xs.map (·.a)).Nodup
theorem rg_iff (xs : List Pr) : rgB xs = true ↔ Vr xs := by
  unfold rgB
  rw [Bool.and_eq_true, decide_eq_true_eq, List.all_eq_true]
  constructor
  · rintro ⟨h1, h2⟩
    have h3 : ∀ k (hk : k < xs.length), rqB xs[k] = true ∧ toB (xs.take k) xs[k].a = false := fun k hk => by
      have := h2 k (List.mem_range.2 hk)
      unfold rk at this
      rw [List.getElem?_eq_getElem hk] at this
      simpa using this
    refine ⟨h1, fun x hx => ?_, ?_⟩
    · obtain ⟨k, hk, rfl⟩ := List.mem_iff_getElem.1 hx
      exact (h3 k hk).1
    · rw [List.nodup_iff_pairwise_ne, List.pairwise_map, List.pairwise_iff_getElem]
      intro i j hi hj hij
      refine to_false.1 (h3 j hj).2 xs[i] ?_
      rw [List.mem_iff_getElem]
      exact ⟨i, by rw [List.length_take]; omega, by simp⟩
  · rintro ⟨h1, h2, h3⟩
    refine ⟨h1, fun k hk => ?_⟩
    have hk := List.mem_range.1 hk
    unfold rk
    rw [List.getElem?_eq_getElem hk]
    simp only [Bool.and_eq_true, Bool.not_eq_true']
    refine ⟨h2 _ (List.getElem_mem hk), to_false.2 fun x hx => ?_⟩
    obtain ⟨i, hi, rfl⟩ := List.mem_iff_getElem.1 hx
    rw [List.length_take] at hi
    rw [List.nodup_iff_pairwise_ne, List.pairwise_map, List.pairwise_iff_getElem] at h3
    have := h3 i k (by omega) hk (by omega)
    simpa using this
structure V (xs : List Pr) : Prop where
  r : Vr xs
  u : Au xs
theorem V.nil : V [] := ⟨⟨by simp, fun x hx => by simp at hx, by simp⟩, fun x hx => by simp at hx⟩
theorem rq_out {x : Pr} (h : rqB x = true) : x.i = x.a % 65536 ∧ 0 ≤ x.s ∧ x.s ≤ 65535 ∧ 0 ≤ x.t ∧ x.t ≤ 1099511627776 ∧ 0 ≤ x.n ∧ x.n ≤ 8 := by
  rw [rqB_eq] at h
  simp only [Bool.and_eq_true, decide_eq_true_eq] at h
  obtain ⟨⟨⟨⟨⟨⟨h1, h2⟩, h3⟩, h4⟩, h5⟩, h6⟩, h7⟩ := h
  exact ⟨h1, h2, h3, h4, h5, h6, h7⟩
theorem rq_in {x : Pr} (h1 : x.i = x.a % 65536) (h2 : 0 ≤ x.s) (h3 : x.s ≤ 65535) (h4 : 0 ≤ x.t) (h5 : x.t ≤ 1099511627776) (h6 : 0 ≤ x.n) (h7 : x.n ≤ 8) : rqB x = true := by
  rw [rqB_eq]
  simp only [Bool.and_eq_true, decide_eq_true_eq]
  exact ⟨⟨⟨⟨⟨⟨h1, h2⟩, h3⟩, h4⟩, h5⟩, h6⟩, h7⟩
theorem V.one {x : Pr} (h : rqB x = true) (h0 : 0 ≤ x.a) (h1 : x.a < 4294967296) : V [x] := ⟨⟨by simp, fun y hy => by simp at hy; subst hy; exact h, by simp⟩, fun y hy => by simp at hy; subst hy; exact ⟨h0, h1⟩⟩
theorem V.n {xs : List Pr} (h : V xs) : ∀ x ∈ xs, 0 ≤ x.n ∧ x.n ≤ 1099511627776 := fun x hx => by
  obtain ⟨-, -, -, -, -, h6, h7⟩ := rq_out (h.r.all x hx)
  omega
theorem V.t {xs : List Pr} (h : V xs) : ∀ x ∈ xs, 0 ≤ x.t ∧ x.t ≤ 1099511627776 := fun x hx => by
  obtain ⟨-, -, -, h4, h5, -, -⟩ := rq_out (h.r.all x hx)
  omega
theorem put_ok {xs : List Pr} {x : Pr} (h : V xs) (hq : rqB x = true) (h0 : 0 ≤ x.a) (h1 : x.a < 4294967296) (hp : putC xs x = 0) : V (xs ++ [x]) := by
  unfold putC at hp
  cases ht : toB xs x.a
  · rw [ht] at hp
    have h16 : ¬ 16 ≤ xs.length := fun h16 => by rw [if_neg (by simp), if_pos h16] at hp; cases hp
    refine ⟨⟨by rw [List.length_append]; simp; omega, fun y hy => ?_, ?_⟩, fun y hy => ?_⟩
    · rcases List.mem_append.1 hy with hy | hy
      · exact h.r.all y hy
      · simp at hy; subst hy; exact hq
    · rw [List.map_append, List.nodup_append]
      refine ⟨h.r.dis, by simp, ?_⟩
      intro a ha b hb
      obtain ⟨y, hy, rfl⟩ := List.mem_map.1 ha
      simp at hb
      subst hb
      exact to_false.1 ht y hy
    · rcases List.mem_append.1 hy with hy | hy
      · exact h.u y hy
      · simp at hy; subst hy; exact ⟨h0, h1⟩
  · rw [ht, if_pos rfl] at hp
    cases hp
theorem del_sub (xs : List Pr) (k : Nat) : (del xs k).Sublist xs := by
  unfold del
  conv => rhs; rw [← List.take_append_drop k xs]
  exact (List.Sublist.refl _).append (by rw [← List.drop_drop]; exact List.drop_sublist 1 _)
theorem del_ok {xs : List Pr} (h : V xs) (k : Nat) : V (del xs k) := by
  have hs := del_sub xs k
  exact ⟨⟨Nat.le_trans hs.length_le h.r.few, fun x hx => h.r.all x (hs.subset hx), List.Nodup.sublist (hs.map _) h.r.dis⟩, fun x hx => h.u x (hs.subset hx)⟩
theorem del_len {xs : List Pr} {k : Nat} (hk : k < xs.length) : (del xs k).length + 1 = xs.length := by
  unfold del
  rw [List.length_append, List.length_take, List.length_drop]
  omega
variable {wt ag now room : Int}
theorem st1_mem {S : List Pr × List Pr} {x p : Pr} (h : p ∈ (st1 wt ag now room S x).1) : p ∈ S.1 ∨ (p = x ∧ (si now x.t < wt ∨ (x.n < ag ∧ room ≤ S.2.length))) ∨ (p = nx now x ∧ wt ≤ si now x.t ∧ x.n < ag) := by
  unfold st1 at h
  split at h
  · rename_i h1
    split at h
    · exact .inl h
    · rename_i h2
      split at h
      · rcases List.mem_append.1 h with h | h
        · exact .inl h
        · simp at h; exact .inr (.inr ⟨h, h1, by omega⟩)
      · rename_i h3
        rcases List.mem_append.1 h with h | h
        · exact .inl h
        · simp at h; exact .inr (.inl ⟨h, .inr ⟨by omega, by omega⟩⟩)
  · rename_i h1
    rcases List.mem_append.1 h with h | h
    · exact .inl h
    · simp at h; exact .inr (.inl ⟨h, .inl (by omega)⟩)
theorem st1_len2 (S : List Pr × List Pr) (x : Pr) : (st1 wt ag now room S x).2.length ≤ S.2.length + 1 := by
  unfold st1
  split
  · split
    · omega
    · split
      · simp
      · simp
  · simp
theorem fold_mem : ∀ (ys : List Pr) (S : List Pr × List Pr) (M : Nat), S.2.length + ys.length ≤ M → ∀ p ∈ (ys.foldl (st1 wt ag now room) S).1, p ∈ S.1 ∨ ∃ x ∈ ys, (p = x ∧ (si now x.t < wt ∨ (x.n < ag ∧ room ≤ M))) ∨ (p = nx now x ∧ wt ≤ si now x.t ∧ x.n < ag) := by
  intro ys
  induction ys with
  | nil => intro S M _ p hp; exact .inl hp
  | cons x r ih =>
    intro S M hM p hp
    rw [List.foldl_cons] at hp
    have hl := st1_len2 (wt := wt) (ag := ag) (now := now) (room := room) S x
    rw [List.length_cons] at hM
    rcases ih _ M (by omega) p hp with h | ⟨y, hy, h⟩
    · rcases st1_mem h with h | ⟨h1, h2⟩ | h
      · exact .inl h
      · refine .inr ⟨x, by simp, .inl ⟨h1, ?_⟩⟩
        rcases h2 with h2 | ⟨h2, h3⟩
        · exact .inl h2
        · exact .inr ⟨h2, by omega⟩
      · exact .inr ⟨x, by simp, .inr h⟩
    · exact .inr ⟨y, List.mem_cons_of_mem _ hy, h⟩
theorem lt_mem {xs : List Pr} {p : Pr} (h : p ∈ (ltO wt ag now room xs).1) : ∃ x ∈ xs, (p = x ∧ (si now x.t < wt ∨ (x.n < ag ∧ room ≤ xs.length))) ∨ (p = nx now x ∧ wt ≤ si now x.t ∧ x.n < ag) := by
  rcases fold_mem xs ([], []) xs.length (by simp) p h with h | h
  · simp at h
  · exact h
theorem lt_room (xs : List Pr) : ((ltO wt ag now room xs).2.length : Int) ≤ max room 0 := by
  have key : ∀ (ys : List Pr) (S : List Pr × List Pr), (S.2.length : Int) ≤ max room 0 → ((ys.foldl (st1 wt ag now room) S).2.length : Int) ≤ max room 0 := by
    intro ys
    induction ys with
    | nil => intro S h; exact h
    | cons x r ih =>
      intro S h
      rw [List.foldl_cons]
      refine ih _ ?_
      unfold st1
      split
      · split
        · exact h
        · split
          · rw [List.length_append]; simp; omega
          · exact h
      · exact h
  exact key xs ([], []) (by simp; omega)
theorem lt_sub (xs : List Pr) : ((ltO wt ag now room xs).1.map (·.a)).Sublist (xs.map (·.a)) := by
  have key : ∀ (ys : List Pr) (S : List Pr × List Pr) (zs : List Pr), (S.1.map (·.a)).Sublist (zs.map (·.a)) → ((ys.foldl (st1 wt ag now room) S).1.map (·.a)).Sublist ((zs ++ ys).map (·.a)) := by
    intro ys
    induction ys with
    | nil => intro S zs h; simpa using h
    | cons x r ih =>
      intro S zs h
      rw [List.foldl_cons, show zs ++ x :: r = (zs ++ [x]) ++ r by simp]
      refine ih _ _ ?_
      rw [List.map_append]
      have h2 : ∀ p : Pr, p.a = x.a → ((S.1 ++ [p]).map (·.a)).Sublist (zs.map (·.a) ++ [x].map (·.a)) := fun p hp => by
        rw [List.map_append]
        simp only [List.map_cons, List.map_nil, hp]
        exact h.append (List.Sublist.refl _)
      unfold st1
      split
      · split
        · exact h.trans (List.sublist_append_left _ _)
        · split
          · exact h2 _ rfl
          · exact h2 _ rfl
      · exact h2 _ rfl
  have := key xs ([], []) [] (by simp)
  simpa [ltO] using this
theorem lt_ok {xs : List Pr} (h : V xs) (hag : ag ≤ 8) : V (ltO wt ag now room xs).1 := by
  refine ⟨⟨Nat.le_trans (lt_len _ _ _ _ _).1 h.r.few, fun p hp => ?_, List.Nodup.sublist (lt_sub xs) h.r.dis⟩, fun p hp => ?_⟩
  · obtain ⟨x, hx, ⟨rfl, _⟩ | ⟨rfl, _, h2⟩⟩ := lt_mem hp
    · exact h.r.all _ hx
    · obtain ⟨g1, g2, g3, g4, g5, g6, g7⟩ := rq_out (h.r.all x hx)
      exact rq_in g1 g2 g3 (cl_ge _) (cl_le _) (by show 0 ≤ x.n + 1; omega) (by show x.n + 1 ≤ 8; omega)
  · obtain ⟨x, hx, ⟨rfl, _⟩ | ⟨rfl, _⟩⟩ := lt_mem hp
    · exact h.u _ hx
    · exact h.u x hx
end Go.Proofs.YtilneflfeegnfaaGreat.Pb
namespace Go.Proofs.YtilneflfeegnfaaGreat.Sw
def p2 (b : Int) : Int := 2 ^ (32 - b).toNat
theorem p2_pos (b : Int) : 0 < p2 b := Int.pow_pos (by decide)
theorem p2_nat (b : Int) : p2 b = ((2 ^ (32 - b).toNat : Nat) : Int) := by unfold p2; rw [Int.natCast_pow]; rfl
theorem p2_le (b : Int) (h : 0 ≤ b) : p2 b ≤ 4294967296 := by
  rw [p2_nat]
  have : 2 ^ (32 - b).toNat ≤ 2 ^ 32 := Nat.pow_le_pow_right (by decide) (by omega)
  omega
theorem p2_dvd {a b : Int} (h : a ≤ b) : p2 b ∣ p2 a := by
  rw [p2_nat, p2_nat]
  exact Int.natCast_dvd_natCast.2 (Nat.pow_dvd_pow 2 (by omega))
theorem p2_0 : p2 0 = 4294967296 := by decide
theorem mask_val (b : Int) (h : 0 ≤ b) : 4294967295 * 2 ^ (32 - b).toNat % 4294967296 = 4294967296 - p2 b := by
  have h1 := p2_pos b
  have h2 := p2_le b h
  show 4294967295 * p2 b % 4294967296 = 4294967296 - p2 b
  omega
theorem and_hi (n a : Nat) (hn : n ≤ 32) (ha : a < 2 ^ 32) : a &&& (2 ^ 32 - 2 ^ n) = a - a % 2 ^ n := by
  have e1 : 2 ^ 32 - 2 ^ n = (2 ^ (32 - n) - 1) <<< n := by
    rw [Nat.shiftLeft_eq, Nat.sub_mul, Nat.one_mul, ← Nat.pow_add]
    congr 2; omega
  have e2 : a - a % 2 ^ n = (a >>> n) <<< n := by
    rw [Nat.shiftLeft_eq, Nat.shiftRight_eq_div_pow]
    have := Nat.div_add_mod a (2 ^ n)
    rw [Nat.mul_comm] at this
    omega
  rw [e1, e2]
  apply Nat.eq_of_testBit_eq
  intro i
  rw [Nat.testBit_and, Nat.testBit_shiftLeft, Nat.testBit_shiftLeft, Nat.testBit_two_pow_sub_one, Nat.testBit_shiftRight]
  by_cases hi : n ≤ i
  · have e : n + (i - n) = i := by omega
    rw [e]
    by_cases h32 : i < 32
    · have : i - n < 32 - n := by omega
      simp [hi, this]
    · have : a.testBit i = false := Nat.testBit_lt_two_pow (Nat.lt_of_lt_of_le ha (Nat.pow_le_pow_right (by decide) (by omega)))
      simp [this]
  · simp [hi]
theorem and_mask (a b : Int) (h0 : 0 ≤ a) (h1 : a < 4294967296) (hb0 : 0 ≤ b) (hb1 : b ≤ 32) : bits .and .u32 a (4294967296 - p2 b) = a - a % p2 b := by
  have q1 := p2_pos b
  have q2 := p2_le b hb0
  rw [u32_and a _ h0 h1 (by omega) (by omega)]
  obtain ⟨n, rfl⟩ := Int.eq_ofNat_of_zero_le h0
  rw [p2_nat] at q2 ⊢
  generalize hk : (32 - b).toNat = k at *
  have e : (4294967296 - ((2 ^ k : Nat) : Int)).toNat = 2 ^ 32 - 2 ^ k := by omega
  rw [e, Int.toNat_natCast, and_hi k n (by omega) (by omega)]
  have := Nat.mod_le n (2 ^ k)
  omega
theorem andNot_mask (a b : Int) (h0 : 0 ≤ a) (h1 : a < 4294967296) (hb0 : 0 ≤ b) : bits .andNot .u32 a (4294967296 - p2 b) = a % p2 b := by
  have q1 := p2_pos b
  have q2 := p2_le b hb0
  rw [u32_andNot a _ h0 h1 (by omega) (by omega)]
  obtain ⟨n, rfl⟩ := Int.eq_ofNat_of_zero_le h0
  rw [p2_nat] at q1 q2 ⊢
  generalize hk : (32 - b).toNat = k at *
  have e : 4294967295 - (4294967296 - ((2 ^ k : Nat) : Int)).toNat = 2 ^ k - 1 := by omega
  rw [e, Int.toNat_natCast, Nat.and_two_pow_sub_one_eq_mod]
  omega
def okB (base b : Int) : Bool := decide (0 ≤ b ∧ b ≤ 32 ∧ base % p2 b = 0)
theorem ok_iff {base b : Int} : okB base b = true ↔ 0 ≤ b ∧ b ≤ 32 ∧ base % p2 b = 0 := by simp [okB]
theorem ok_out {base b : Int} (h : okB base b = true) : 0 ≤ b ∧ b ≤ 32 ∧ base % p2 b = 0 := ok_iff.1 h
end Go.Proofs.YtilneflfeegnfaaGreat.Sw
namespace Go.Proofs.YtilneflfeegnfaaGreat.Sw
open Go.RowKit
theorem mask_any (b : Int) (w : World) (h0 : 0 ≤ b) (_h1 : b ≤ 32) :
    Calls Tryz.prog 118 #[.int .i64 b] w fun e w' => e = .returned (.int .u32 (4294967296 - p2 b)) ∧ w' = w := by
  have H := Lib.hid (mask_val b h0)
  go_enter Tryz.func118, Tryz.ntmps118
  go_wp2
  go_ret
  exact ⟨by rw [← H.out]; rfl, rfl⟩
theorem rightBits_yes (b : Int) (w : World) (h0 : 0 ≤ b) (h1 : b ≤ 32) : Calls Tryz.prog 117 #[.int .i64 b] w fun e w' => e = .returned (.bool true) ∧ w' = w := by
  go_enter Tryz.func117, Tryz.ntmps117
  go_wp2
  go_ret
  exact ⟨by simp, rfl⟩
theorem rightBits_no (b : Int) (w : World) (h : ¬ (0 ≤ b ∧ b ≤ 32)) : Calls Tryz.prog 117 #[.int .i64 b] w fun e w' => e = .returned (.bool false) ∧ w' = w := by
  by_cases h0 : 0 ≤ b
  · have h1 : 32 < b := by omega
    clear h
    go_enter Tryz.func117, Tryz.ntmps117
    go_wp2
    go_ret
    exact ⟨by simp; omega, rfl⟩
  · clear h
    go_enter Tryz.func117, Tryz.ntmps117
    go_wp2
    go_ret
    exact ⟨rfl, rfl⟩
theorem right_any (a b : Int) (w : World) (ha0 : 0 ≤ a) (ha1 : a < 4294967296) :
    Calls Tryz.prog 75 #[.agg #[.int .u32 a, .int .i64 b]] w fun e w' => e = .returned (.bool (okB a b)) ∧ Below w.heap.size w w' := by
  by_cases h : 0 ≤ b ∧ b ≤ 32
  · obtain ⟨h0, h1⟩ := h
    have H := Lib.hid (andNot_mask a b ha0 ha1 h0)
    go_enter Tryz.func75, Tryz.ntmps75
    go_wp2
    go_quiet (first | (go_at_call 117; exact Calls.quiet_of_same (rightBits_yes _ _ h0 h1)) | (go_at_call 118; exact Calls.quiet_of_same (mask_any _ _ h0 h1)))
    go_wp2
    go_ret
    refine ⟨ret_bool ?_, bdrewN ((Below.refl _ w).alloc (Nat.le_refl _) _) nq⟩
    rw [H.out, Bool.eq_iff_iff, ok_iff]
    simp [h0, h1]
  · have e : okB a b = false := by
      cases e : okB a b
      · rfl
      · exact absurd ⟨(ok_out e).1, (ok_out e).2.1⟩ h
    rw [e]
    clear e
    go_enter Tryz.func75, Tryz.ntmps75
    go_wp2
    go_quiet ((go_at_call 117; exact Calls.quiet_of_same (rightBits_no _ _ h)))
    go_wp2
    go_ret
    exact ⟨rfl, bdrewN ((Below.refl _ w).alloc (Nat.le_refl _) _) nq⟩
theorem right_yes (a b : Int) (w : World) (ha0 : 0 ≤ a) (ha1 : a < 4294967296) (h : okB a b = true) :
    Calls Tryz.prog 75 #[.agg #[.int .u32 a, .int .i64 b]] w fun e w' => e = .returned (.bool true) ∧ Below w.heap.size w w' := by
  have := right_any a b w ha0 ha1; rwa [h] at this
theorem right_no (a b : Int) (w : World) (ha0 : 0 ≤ a) (ha1 : a < 4294967296) (h : okB a b = false) :
    Calls Tryz.prog 75 #[.agg #[.int .u32 a, .int .i64 b]] w fun e w' => e = .returned (.bool false) ∧ Below w.heap.size w w' := by
  have := right_any a b w ha0 ha1; rwa [h] at this
def hasB (base b x : Int) : Bool := okB base b && decide (x - x % p2 b = base)
theorem boxed (a b : Int) (w : World) : (w.alloc (.cells #[.int .u32 a, .int .i64 b] 46)).cell? ⟨w.heap.size, 0, none⟩ = some (.int .u32 a) ∧ (w.alloc (.cells #[.int .u32 a, .int .i64 b] 46)).cell? ⟨w.heap.size, 1, none⟩ = some (.int .i64 b) := ⟨by go_simp, by go_simp⟩
theorem below_box (a b : Int) (w : World) (dq : Nat) (osq : Array Obj) : Below w.heap.size w (Sort.grow (redrawn (w.alloc (.cells #[.int .u32 a, .int .i64 b] 46)) dq) osq) :=
  (((Below.refl _ w).alloc (Nat.le_refl _) _)).trans ((below_regrown _ dq osq).mono (by simp))
theorem has_any (a b x : Int) (w : World) (ha0 : 0 ≤ a) (ha1 : a < 4294967296) (hx0 : 0 ≤ x) (hx1 : x < 4294967296) :
    Calls Tryz.prog 138 #[.agg #[.int .u32 a, .int .i64 b], .int .u32 x] w fun e w' => e = .returned (.bool (hasB a b x)) ∧ Below w.heap.size w w' := by
  have k0 := cell_regrown (boxed a b w).1
  have k1 := cell_regrown (boxed a b w).2
  cases hok : okB a b
  · have HF := Lib.hid (show hasB a b x = false by simp [hasB, hok])
    have HR := Lib.hid fun d os => Calls.regrown_of (d := d) (os := os) (right_no a b (Sort.grow (redrawn (w.alloc (.cells #[.int .u32 a, .int .i64 b] 46)) d) os) ha0 ha1 hok)
    clear hok
    go_enter Tryz.func138, Tryz.ntmps138
    go_wp2
    refine wp_region_quiet_below (by kernel_rfl) (by kernel_rfl) ?_
    repeat (go_big_quiet_step (exact HR.out _ _))
    refine wpQuiet_nil ?_
    intro _ hw'
    obtain ⟨⟨dq, osq⟩, hw''⟩ := hw'
    subst hw''
    go_wp2
    go_ret
    exact ⟨by rw [HF.out]; rfl, below_box a b w dq osq⟩
  · have HB := Lib.hid (ok_out hok)
    have HF := Lib.hid (show hasB a b x = (bits .and .u32 x (4294967296 - p2 b) == a) by rw [and_mask x b hx0 hx1 HB.out.1 HB.out.2.1]; simp only [hasB, hok, Bool.true_and]; rw [Bool.eq_iff_iff]; simp)
    have HR := Lib.hid fun d os => Calls.regrown_of (d := d) (os := os) (right_yes a b (Sort.grow (redrawn (w.alloc (.cells #[.int .u32 a, .int .i64 b] 46)) d) os) ha0 ha1 hok)
    have HM := Lib.hid fun d os => Calls.regrown_of (d := d) (os := os) ((mask_any b (Sort.grow (redrawn (w.alloc (.cells #[.int .u32 a, .int .i64 b] 46)) d) os) HB.out.1 HB.out.2.1).mono fun _ _ ⟨he, hw⟩ => ⟨he, by rw [hw]; exact Below.refl _ _⟩)
    clear hok
    go_enter Tryz.func138, Tryz.ntmps138
    go_wp2
    refine wp_region_quiet_below (by kernel_rfl) (by kernel_rfl) ?_
    repeat (go_big_quiet_step (first | (go_at_call 75; exact HR.out _ _) | (go_at_call 118; exact HM.out _ _)))
    refine wpQuiet_nil ?_
    intro _ hw'
    obtain ⟨⟨dq, osq⟩, hw''⟩ := hw'
    subst hw''
    go_wp2
    go_ret
    exact ⟨by rw [HF.out]; rfl, below_box a b w dq osq⟩
theorem has_eq (a b x : Int) (t : Bool) (w : World) (ha0 : 0 ≤ a) (ha1 : a < 4294967296) (hx0 : 0 ≤ x) (hx1 : x < 4294967296) (h : hasB a b x = t) :
    Calls Tryz.prog 138 #[.agg #[.int .u32 a, .int .i64 b], .int .u32 x] w fun e w' => e = .returned (.bool t) ∧ Below w.heap.size w w' := by
  have := has_any a b x w ha0 ha1 hx0 hx1; rwa [h] at this
def withinB (a b a2 b2 : Int) : Bool := okB a b && hasB a2 b2 a && decide (b2 ≤ b)
theorem below_box2 (a b a2 b2 : Int) (w w1 : World) (h : Below ((w.alloc (.cells #[.int .u32 a, .int .i64 b] 46)).alloc (.cells #[.int .u32 a2, .int .i64 b2] 46)).heap.size ((w.alloc (.cells #[.int .u32 a, .int .i64 b] 46)).alloc (.cells #[.int .u32 a2, .int .i64 b2] 46)) w1) : Below w.heap.size w w1 :=
  (((Below.refl _ w).alloc (Nat.le_refl _) _).alloc (by simp) _).trans (h.mono (by simp; omega))
set_option maxHeartbeats 400000 in
theorem within_any (a b a2 b2 : Int) (w : World) (ha0 : 0 ≤ a) (ha1 : a < 4294967296) (hc0 : 0 ≤ a2) (hc1 : a2 < 4294967296) :
    Calls Tryz.prog 134 #[.agg #[.int .u32 a, .int .i64 b], .agg #[.int .u32 a2, .int .i64 b2]] w fun e w' => e = .returned (.bool (withinB a b a2 b2)) ∧ Below w.heap.size w w' := by
  cases hok : okB a b
  · have HF := Lib.hid (show withinB a b a2 b2 = false by simp [withinB, hok])
    have HR := Lib.hid fun W => right_no a b W ha0 ha1 hok
    clear hok
    go_enter Tryz.func134, Tryz.ntmps134
    go_wp2_with fail
    refine (HR.out _).mono ?_
    rintro e w1 ⟨rfl, hb⟩
    have HB := Lib.hid hb
    clear hb
    go_wp2_with fail
    go_ret
    exact ⟨by rw [HF.out]; rfl, below_box2 a b a2 b2 w w1 HB.out⟩
  · cases hh : hasB a2 b2 a
    · have HF := Lib.hid (show withinB a b a2 b2 = false by simp [withinB, hh])
      have HR := Lib.hid fun W => right_yes a b W ha0 ha1 hok
      have HH := Lib.hid fun W => has_eq a2 b2 a false W hc0 hc1 ha0 ha1 hh
      clear hok hh
      go_enter Tryz.func134, Tryz.ntmps134
      go_wp2_with fail
      refine (HR.out _).mono ?_
      rintro e w1 ⟨rfl, hb⟩
      obtain ⟨hc, hf⟩ := bcell hb
      have HB := Lib.hid hb
      clear hb
      go_wp2_with fail
      refine (HH.out _).mono ?_
      rintro e w2 ⟨rfl, hb2⟩
      have HB2 := Lib.hid hb2
      clear hb2
      go_wp2_with fail
      go_ret
      exact ⟨by rw [HF.out]; rfl, below_box2 a b a2 b2 w w2 (HB.out.trans (HB2.out.mono HB.out.size))⟩
    · have HF := Lib.hid (show withinB a b a2 b2 = decide (b2 ≤ b) by simp [withinB, hh, hok])
      have HR := Lib.hid fun W => right_yes a b W ha0 ha1 hok
      have HH := Lib.hid fun W => has_eq a2 b2 a true W hc0 hc1 ha0 ha1 hh
      clear hok hh
      go_enter Tryz.func134, Tryz.ntmps134
      go_wp2_with fail
      refine (HR.out _).mono ?_
      rintro e w1 ⟨rfl, hb⟩
      obtain ⟨hc, hf⟩ := bcell hb
      have HB := Lib.hid hb
      have hz : w.heap.size + 1 < w1.heap.size := by have := hb.size; simp at this; omega
      have hz0 : w.heap.size < w1.heap.size := by omega
      clear hb
      go_wp2_with fail
      refine (HH.out _).mono ?_
      rintro e w2 ⟨rfl, hb2⟩
      obtain ⟨hc2, hf2⟩ := bcell hb2
      have HB2 := Lib.hid hb2
      clear hb2
      go_wp2_with fail
      go_ret
      exact ⟨by rw [HF.out]; rfl, below_box2 a b a2 b2 w w2 (HB.out.trans (HB2.out.mono HB.out.size))⟩
theorem within_eq (a b a2 b2 : Int) (t : Bool) (w : World) (ha0 : 0 ≤ a) (ha1 : a < 4294967296) (hc0 : 0 ≤ a2) (hc1 : a2 < 4294967296) (h : withinB a b a2 b2 = t) :
    Calls Tryz.prog 134 #[.agg #[.int .u32 a, .int .i64 b], .agg #[.int .u32 a2, .int .i64 b2]] w fun e w' => e = .returned (.bool t) ∧ Below w.heap.size w w' := by
  have := within_any a b a2 b2 w ha0 ha1 hc0 hc1; rwa [h] at this
def overB (a b a2 b2 : Int) : Bool := withinB a b a2 b2 || withinB a2 b2 a b
theorem overlap_any (a b a2 b2 : Int) (w : World) (ha0 : 0 ≤ a) (ha1 : a < 4294967296) (hc0 : 0 ≤ a2) (hc1 : a2 < 4294967296) :
    Calls Tryz.prog 119 #[.agg #[.int .u32 a, .int .i64 b], .agg #[.int .u32 a2, .int .i64 b2]] w fun e w' => e = .returned (.bool (overB a b a2 b2)) ∧ Below w.heap.size w w' := by
  cases h1 : withinB a b a2 b2
  · have HF := Lib.hid (show overB a b a2 b2 = withinB a2 b2 a b by simp [overB, h1])
    have HR := Lib.hid fun W => within_eq a b a2 b2 false W ha0 ha1 hc0 hc1 h1
    have HH := Lib.hid fun W => within_any a2 b2 a b W hc0 hc1 ha0 ha1
    clear h1
    go_enter Tryz.func119, Tryz.ntmps119
    go_wp2_with fail
    refine (HR.out _).mono ?_
    rintro e w1 ⟨rfl, hb⟩
    obtain ⟨hc, hf⟩ := bcell hb
    have HB := Lib.hid hb
    clear hb
    go_wp2_with fail
    refine (HH.out _).mono ?_
    rintro e w2 ⟨rfl, hb2⟩
    have HB2 := Lib.hid hb2
    clear hb2
    go_wp2_with fail
    go_ret
    exact ⟨by rw [HF.out]; rfl, below_box2 a b a2 b2 w w2 (HB.out.trans (HB2.out.mono HB.out.size))⟩
  · have HF := Lib.hid (show overB a b a2 b2 = true by simp [overB, h1])
    have HR := Lib.hid fun W => within_eq a b a2 b2 true W ha0 ha1 hc0 hc1 h1
    clear h1
    go_enter Tryz.func119, Tryz.ntmps119
    go_wp2_with fail
    refine (HR.out _).mono ?_
    rintro e w1 ⟨rfl, hb⟩
    have HB := Lib.hid hb
    clear hb
    go_wp2_with fail
    go_ret
    exact ⟨by rw [HF.out]; rfl, below_box2 a b a2 b2 w w1 HB.out⟩
theorem overlap_eq (a b a2 b2 : Int) (t : Bool) (w : World) (ha0 : 0 ≤ a) (ha1 : a < 4294967296) (hc0 : 0 ≤ a2) (hc1 : a2 < 4294967296) (h : overB a b a2 b2 = t) :
    Calls Tryz.prog 119 #[.agg #[.int .u32 a, .int .i64 b], .agg #[.int .u32 a2, .int .i64 b2]] w fun e w' => e = .returned (.bool t) ∧ Below w.heap.size w w' := by
  have := overlap_any a b a2 b2 w ha0 ha1 hc0 hc1; rwa [h] at this
theorem wrap_p2 (b : Int) (h : 0 ≤ b) : wrap64 (2 ^ (32 - b).toNat) = p2 b := by
  have h1 := p2_pos b
  have h2 := p2_le b h
  show wrap64 (p2 b) = p2 b
  unfold wrap64
  omega
def sizeOf (a b : Int) : Int := if okB a b = true then p2 b else 0
theorem below_box1 (a b : Int) (w w1 : World) (h : Below (w.alloc (.cells #[.int .u32 a, .int .i64 b] 46)).heap.size (w.alloc (.cells #[.int .u32 a, .int .i64 b] 46)) w1) : Below w.heap.size w w1 :=
  ((Below.refl _ w).alloc (Nat.le_refl _) _).trans (h.mono (by simp))
theorem size_any (a b : Int) (w : World) (ha0 : 0 ≤ a) (ha1 : a < 4294967296) :
    Calls Tryz.prog 76 #[.agg #[.int .u32 a, .int .i64 b]] w fun e w' => e = .returned (.int .i64 (sizeOf a b)) ∧ Below w.heap.size w w' := by
  cases hok : okB a b
  · have HF := Lib.hid (show sizeOf a b = 0 by simp [sizeOf, hok])
    have HR := Lib.hid fun W => right_no a b W ha0 ha1 hok
    clear hok
    go_enter Tryz.func76, Tryz.ntmps76
    go_wp2_with fail
    refine (HR.out _).mono ?_
    rintro e w1 ⟨rfl, hb⟩
    have HB := Lib.hid hb
    clear hb
    go_wp2_with fail
    go_ret
    exact ⟨by rw [HF.out]; rfl, below_box1 a b w w1 HB.out⟩
  · obtain ⟨h0, h1, _⟩ := ok_out hok
    have HF := Lib.hid (show sizeOf a b = p2 b by simp [sizeOf, hok])
    have HR := Lib.hid fun W => right_yes a b W ha0 ha1 hok
    clear hok
    go_enter Tryz.func76, Tryz.ntmps76
    go_wp2_with fail
    refine (HR.out _).mono ?_
    rintro e w1 ⟨rfl, hb⟩
    obtain ⟨hc, hf⟩ := bcell hb
    have HB := Lib.hid hb
    clear hb
    go_wp2_with fail
    go_ret
    exact ⟨by rw [HF.out, ← wrap_p2 b h0]; rfl, below_box1 a b w w1 HB.out⟩
theorem size_eq (a b n : Int) (w : World) (ha0 : 0 ≤ a) (ha1 : a < 4294967296) (h : sizeOf a b = n) :
    Calls Tryz.prog 76 #[.agg #[.int .u32 a, .int .i64 b]] w fun e w' => e = .returned (.int .i64 n) ∧ Below w.heap.size w w' := by
  have := size_any a b w ha0 ha1; rwa [h] at this
theorem room {a b : Int} (h : okB a b = true) (h1 : a < 4294967296) : a + p2 b ≤ 4294967296 := by
  obtain ⟨h0, h32, hm⟩ := ok_out h
  obtain ⟨k, hk⟩ := p2_dvd h0
  rw [p2_0] at hk
  obtain ⟨m, hm⟩ := Int.dvd_of_emod_eq_zero hm
  have hp := p2_pos b
  rw [hm, hk] at h1
  have : m < k := Int.lt_of_mul_lt_mul_left h1 (Int.le_of_lt hp)
  have : p2 b * (m + 1) ≤ p2 b * k := Int.mul_le_mul_of_nonneg_left (by omega) (Int.le_of_lt hp)
  rw [hm, hk]
  rw [Int.mul_add, Int.mul_one] at this
  exact this
theorem at_no (a b k : Int) (w : World) (ha0 : 0 ≤ a) (ha1 : a < 4294967296) (h : k < 0 ∨ sizeOf a b ≤ k) :
    Calls Tryz.prog 132 #[.agg #[.int .u32 a, .int .i64 b], .int .i64 k] w fun e w' => e = .returned (.tuple #[.int .u32 0, .bool false]) ∧ Below w.heap.size w w' := by
  by_cases hk : k < 0
  · clear h
    go_enter Tryz.func132, Tryz.ntmps132
    go_wp2_with fail
    go_ret2
    exact ⟨rfl, (Below.refl _ w).alloc (Nat.le_refl _) _⟩
  · have h2 : sizeOf a b ≤ k := by omega
    have HS := Lib.hid fun W => size_any a b W ha0 ha1
    clear h
    go_enter Tryz.func132, Tryz.ntmps132
    go_wp2_with fail
    refine (HS.out _).mono ?_
    rintro e w1 ⟨rfl, hb⟩
    have HB := Lib.hid hb
    clear hb
    go_wp2_with fail
    go_ret2
    exact ⟨rfl, below_box1 a b w w1 HB.out⟩
theorem at_yes (a b k : Int) (w : World) (ha0 : 0 ≤ a) (ha1 : a < 4294967296) (h0 : 0 ≤ k) (h1 : k < sizeOf a b) :
    Calls Tryz.prog 132 #[.agg #[.int .u32 a, .int .i64 b], .int .i64 k] w fun e w' => e = .returned (.tuple #[.int .u32 (a + k), .bool true]) ∧ Below w.heap.size w w' := by
  have hok : okB a b = true := by
    cases e : okB a b
    · simp [sizeOf, e] at h1; omega
    · rfl
  have hr := room hok ha1
  have hs : sizeOf a b = p2 b := by simp [sizeOf, hok]
  have hp := p2_pos b
  have hk1 : k < 4294967296 := by omega
  have hk2 : a + k < 4294967296 := by omega
  have HS := Lib.hid fun W => size_any a b W ha0 ha1
  clear hs hok hr hp
  have h1' : ¬ sizeOf a b ≤ k := by omega
  go_enter Tryz.func132, Tryz.ntmps132
  go_wp2_with fail
  refine (HS.out _).mono ?_
  rintro e w1 ⟨rfl, hb⟩
  obtain ⟨hc, hf⟩ := bcell hb
  have HB := Lib.hid hb
  clear hb
  go_wp2_with fail
  go_ret2
  exact ⟨rfl, below_box1 a b w w1 HB.out⟩
theorem block_val (a n : Int) (ha0 : 0 ≤ a) (ha1 : a < 4294967296) : a / 2 ^ (32 - (20 + n % 13)).toNat * 2 ^ (32 - (20 + n % 13)).toNat % 4294967296 = a - a % p2 (20 + n % 13) := by
  show a / p2 (20 + n % 13) * p2 (20 + n % 13) % 4294967296 = a - a % p2 (20 + n % 13)
  have h1 := Int.mul_ediv_add_emod a (p2 (20 + n % 13))
  have h2 := Int.emod_nonneg a (Int.ne_of_gt (p2_pos (20 + n % 13)))
  have h3 : 0 ≤ p2 (20 + n % 13) * (a / p2 (20 + n % 13)) := Int.mul_nonneg (Int.le_of_lt (p2_pos _)) (Int.ediv_nonneg ha0 (Int.le_of_lt (p2_pos _)))
  rw [Int.mul_comm]
  omega
theorem block_any (a n : Int) (w : World) (ha0 : 0 ≤ a) (ha1 : a < 4294967296) (h0 : 0 ≤ n) (h1 : n < 256) :
    Calls Tryz.prog 49 #[.int .u32 a, .int .u8 n] w fun e w' => e = .returned (.agg #[.int .u32 (a - a % p2 (20 + n % 13)), .int .i64 (20 + n % 13)]) ∧ Below w.heap.size w w' := by
  have HV := Lib.hid (block_val a n ha0 ha1)
  go_enter Tryz.func49, Tryz.ntmps49
  go_wp2_with fail
  rw [HV.out]
  exact bodyPost_ret (v := .agg #[.int .u32 (a - a % p2 (20 + n % 13)), .int .i64 (20 + n % 13)]) (by simp [results, Tryz.results49, go_sem]) rfl ⟨rfl, (Below.refl _ _).alloc (Nat.le_refl _) _⟩
end Go.Proofs.YtilneflfeegnfaaGreat.Sw
namespace Go.Proofs.YtilneflfeegnfaaGreat.Sw
open Go.RowKit
structure Sw where
  a : Int
  b : Int
  d : Int
  n : Int
deriving DecidableEq
def zw : Sw := ⟨0, 0, 0, 0⟩
instance : Inhabited Sw := ⟨zw⟩
def swl (x : Sw) : List Value := [.int .u32 x.a, .int .i64 x.b, .int .i64 x.d, .int .i64 x.n]
def swv (x : Sw) : Value := .agg #[.int .u32 x.a, .int .i64 x.b, .int .i64 x.d, .int .i64 x.n]
def Swx (x : Sw) : Obj := .cells #[.int .u32 x.a, .int .i64 x.b, .int .i64 x.d, .int .i64 x.n] 101
def eW : El Sw := ⟨swl, 4, by decide, fun _ => rfl, by
  intro x u hu
  simp [swl] at hu
  rcases hu with rfl | rfl | rfl | rfl <;> rfl⟩
def Bkx (a b : Int) : Obj := .cells #[.int .u32 a, .int .i64 b] 46
def eA : El Int := ⟨fun x => [.int .u32 x], 1, by decide, fun _ => rfl, by
  intro x u hu
  simp at hu
  subst hu; rfl⟩
def eN : El Nat := ⟨fun x => [.int .i64 (x : Int)], 1, by decide, fun _ => rfl, by
  intro x u hu
  simp at hu
  subst hu; rfl⟩
structure Ac where
  o : Int
  p : Int
  q : Int
def acl (x : Ac) : List Value := [.int .u8 x.o, .int .u16 x.p, .int .u8 x.q]
structure Ac.Ok (x : Ac) : Prop where
  o : 0 ≤ x.o ∧ x.o < 256
  p : 0 ≤ x.p ∧ x.p < 65536
  q : 0 ≤ x.q ∧ x.q < 256
theorem size39 : (Tryz.prog.info? 101).map (·.size) = some 4 := by kernel_rfl
theorem run_size39 (W : World) : (Go.sizeOf 101).run Tryz.prog W = .ok 4 W := by
  obtain ⟨i, hi, hs⟩ := Option.map_eq_some_iff.1 size39
  rw [← hs]
  simp [Go.sizeOf, typeInfo, hi]
theorem load39 {w : World} {y : Addr} {x : Sw} (h : ∀ j v, (swl x)[j]? = some v → w.cell? (y.add j) = some v) : (Instr.loadAt 101 (.pointer (some y))).run Tryz.prog w = .ok (.agg (swl x).toArray) w := by
  have hl' : (loadCells y 4).run Tryz.prog w = .ok (swl x).toArray w := run_loadCells_list (P := Tryz.prog) w y (swl x) h
  have hg : (isAgg 101).run Tryz.prog w = .ok true w := by
    unfold isAgg
    simp only [Sem.run_bind, run_underlying Tryz.underlying101, Result.andThen_ok, Sem.run_pure]
  simp only [Instr.loadAt, Instr.sureAddr, loadVar, Sem.run_bind, Sem.run_pure, Result.andThen_ok, hg, run_size39, hl', if_true]
theorem at_load39 {ops : Array Oper} {rest : List Oper} {op : Oper} {a : Act} {w : World} {Q : Exit → Act → World → Prop} (x : Operand) (hgd : op.guard = none) (ho : op.op = .load 101 x) (y : Addr) (z : Sw) (hx : a.eval x = .pointer (some y)) (hr : ∀ j v, (swl z)[j]? = some v → w.cell? (y.add j) = some v)
    (h : wpList Tryz.prog ops Q rest (a.put op.dst (.agg #[.int .u32 z.a, .int .i64 z.b, .int .i64 z.d, .int .i64 z.n])) w) : wpList Tryz.prog ops Q (op :: rest) a w :=
  wpList_plain hgd fun _ hK => by
    unfold Oper.wp execOp
    simp only [ho, hx, Sem.run_bind, Sem.run_pure, Result.andThen_ok, load39 hr]
    exact hK _ _ h
section
variable {ops : Array Oper} {rest : List Oper} {o : Oper} {a : Act} {C : World → Prop} {Q : Act → Prop}
theorem quiet_load39 (x : Operand) (y : Addr) (p : Sw) (hr : ∀ W, C W → ∀ j v, (swl p)[j]? = some v → W.cell? (y.add j) = some v) (hw : Region.wanted o (yielded ops a.tmps) = true) (ho : o.op = .load 101 x) (hx : a.eval x = .pointer (some y)) (h : wpQuiet Tryz.prog ops C Q rest (a.put o.dst (.agg #[.int .u32 p.a, .int .i64 p.b, .int .i64 p.d, .int .i64 p.n]))) : wpQuiet Tryz.prog ops C Q (o :: rest) a :=
  BigFrame.wpQuiet_want hw fun K hK => ⟨.agg #[.int .u32 p.a, .int .i64 p.b, .int .i64 p.d, .int .i64 p.n], fun W hC => by
    unfold Oper.quietAt execOp
    simp only [ho, hx, Sem.run_bind, Sem.run_pure, Result.andThen_ok, load39 (hr W hC)]
    exact ⟨rfl, rfl⟩, hK _ h⟩
end
structure Bk where
  a : Int
  b : Int
def bl (x : Bk) : List Value := [.int .u32 x.a, .int .i64 x.b]
theorem size36 : (Tryz.prog.info? 46).map (·.size) = some 2 := by kernel_rfl
theorem run_size36 (W : World) : (Go.sizeOf 46).run Tryz.prog W = .ok 2 W := by
  obtain ⟨i, hi, hs⟩ := Option.map_eq_some_iff.1 size36
  rw [← hs]
  simp [Go.sizeOf, typeInfo, hi]
theorem load36 {w : World} {y : Addr} {x : Bk} (h : ∀ j v, (bl x)[j]? = some v → w.cell? (y.add j) = some v) : (Instr.loadAt 46 (.pointer (some y))).run Tryz.prog w = .ok (.agg (bl x).toArray) w := by
  have hl' : (loadCells y 2).run Tryz.prog w = .ok (bl x).toArray w := run_loadCells_list (P := Tryz.prog) w y (bl x) h
  have hg : (isAgg 46).run Tryz.prog w = .ok true w := by
    unfold isAgg
    simp only [Sem.run_bind, run_underlying Tryz.underlying46, Result.andThen_ok, Sem.run_pure]
  simp only [Instr.loadAt, Instr.sureAddr, loadVar, Sem.run_bind, Sem.run_pure, Result.andThen_ok, hg, run_size36, hl', if_true]
section
variable {ops : Array Oper} {rest : List Oper} {o : Oper} {a : Act} {C : World → Prop} {Q : Act → Prop}
theorem quiet_load36 (x : Operand) (y : Addr) (p : Bk) (hr : ∀ W, C W → ∀ j v, (bl p)[j]? = some v → W.cell? (y.add j) = some v) (hw : Region.wanted o (yielded ops a.tmps) = true) (ho : o.op = .load 46 x) (hx : a.eval x = .pointer (some y)) (h : wpQuiet Tryz.prog ops C Q rest (a.put o.dst (.agg #[.int .u32 p.a, .int .i64 p.b]))) : wpQuiet Tryz.prog ops C Q (o :: rest) a :=
  BigFrame.wpQuiet_want hw fun K hK => ⟨.agg #[.int .u32 p.a, .int .i64 p.b], fun W hC => by
    unfold Oper.quietAt execOp
    simp only [ho, hx, Sem.run_bind, Sem.run_pure, Result.andThen_ok, load36 (hr W hC)]
    exact ⟨rfl, rfl⟩, hK _ h⟩
end
def eqb (a b c d : Int) : Bool := decide (a = c ∧ b = d)
def eqw (x y : Sw) : Bool := decide (x = y)
theorem run_eqIn36 (a b c d : Int) (k : Nat) (W : World) : (Op.equalIn (k + 2) 46 (.agg #[.int .u32 a, .int .i64 b]) (.agg #[.int .u32 c, .int .i64 d])).run Tryz.prog W = .ok (eqb a b c d) W := by
  unfold eqb
  by_cases h1 : a = c
  · by_cases h2 : b = d
    · simp [go_sem, h1, h2]
    · simp [go_sem, h1, h2]
  · simp [go_sem, h1]
theorem run_eql36 (a b c d : Int) (W : World) : (binOp .eql 46 (.agg #[.int .u32 a, .int .i64 b]) (.agg #[.int .u32 c, .int .i64 d])).run Tryz.prog W = .ok (.bool (eqb a b c d)) W := by
  rw [run_eql_struct, run_eqIn36]; rfl
theorem run_eq39 (x y : Sw) (W : World) : (Op.equalIn 10000 101 (swv x) (swv y)).run Tryz.prog W = .ok (eqw x y) W := by
  have h6 := run_eqIn36 x.a x.b y.a y.b 9997 W
  obtain ⟨a, b, d, n⟩ := x
  obtain ⟨a2, b2, d2, n2⟩ := y
  dsimp only at h6
  unfold swv eqw
  dsimp only
  rw [show (10000 : Nat) = 9999 + 1 from rfl, run_equalIn_struct W 9999 101 _ _ (by kernel_rfl) (by kernel_rfl)]
  by_cases h1 : a = a2
  · by_cases h2 : b = b2
    · by_cases h3 : d = d2
      · by_cases h4 : n = n2
        · simp [go_sem, part, h1, h2, h3, h4]
        · simp [go_sem, part, h1, h2, h3, h4]
      · simp [go_sem, part, h1, h2, h3]
    · simp [go_sem, part, h1, h2]
  · simp [go_sem, part, h1]
theorem run_eql39 (x y : Sw) (W : World) : (binOp .eql 101 (swv x) (swv y)).run Tryz.prog W = .ok (.bool (eqw x y)) W := by
  have := run_eql_struct (P := Tryz.prog) W 101 (swl x).toArray (swl y).toArray
  rw [show Value.agg (swl x).toArray = swv x from rfl, show Value.agg (swl y).toArray = swv y from rfl, run_eq39] at this
  exact this
theorem guard39 (op : BinOp) (p q : Operand) (x y : Sw) (W : World) : (eqGuard op 101 p q (swv x) (swv y)).run Tryz.prog W = .ok () W := run_eqGuard_agg W op 101 p q _ _ (by kernel_rfl)
theorem guard36 (op : BinOp) (p q : Operand) (a b c d : Int) (W : World) : (eqGuard op 46 p q (.agg #[.int .u32 a, .int .i64 b]) (.agg #[.int .u32 c, .int .i64 d])).run Tryz.prog W = .ok () W := run_eqGuard_agg W op 46 p q _ _ (by kernel_rfl)
section
variable {ops : Array Oper} {rest : List Oper} {o : Oper} {a : Act} {C : World → Prop} {Q : Act → Prop}
theorem quiet_eql36 (x y : Operand) (p q r s : Int) (hw : Region.wanted o (yielded ops a.tmps) = true) (ho : o.op = .binOp .eql 46 x y 46) (hx : a.eval x = .agg #[.int .u32 p, .int .i64 q]) (hy : a.eval y = .agg #[.int .u32 r, .int .i64 s]) (h : wpQuiet Tryz.prog ops C Q rest (a.put o.dst (.bool (eqb p q r s)))) : wpQuiet Tryz.prog ops C Q (o :: rest) a :=
  BigFrame.wpQuiet_want hw fun K hK => ⟨.bool (eqb p q r s), fun W hC => by
    unfold Oper.quietAt execOp
    simp only [ho, hx, hy, Sem.run_bind, Sem.run_pure, Result.andThen_ok, guard36, run_eql36]
    exact ⟨rfl, rfl⟩, hK _ h⟩
end
end Go.Proofs.YtilneflfeegnfaaGreat.Sw
namespace Go.Proofs.YtilneflfeegnfaaGreat.Sw
open Go.RowKit
def zwv : Value := .agg #[.int .u32 0, .int .i64 0, .int .i64 0, .int .i64 0]
theorem info39 : (Tryz.prog.info? 101).map (fun i => (i.zero, i.size, i.bytes)) = some (some zwv, 4, 32) := by kernel_rfl
theorem info34 : (Tryz.prog.info? 40).map (fun i => (i.zero, i.size, i.bytes)) = some (some (.int .u32 0), 1, 4) := by kernel_rfl
theorem info3 : (Tryz.prog.info? 3).map (fun i => (i.zero, i.size, i.bytes)) = some (some (.int .i64 0), 1, 8) := by kernel_rfl
theorem tW : Ty eW 30 101 := ⟨Tryz.underlying30, by
  obtain ⟨i, hi, hz0, hz1, hz2⟩ := info_parts info39
  exact ⟨i, _, _, hi, hz0, hz1, hz2, rfl, by omega⟩⟩
theorem tA : Ty eA 137 40 := ⟨Tryz.underlying137, by
  obtain ⟨i, hi, hz0, hz1, hz2⟩ := info_parts info34
  exact ⟨i, _, _, hi, hz0, hz1, hz2, rfl, by omega⟩⟩
theorem tN : Ty eN 179 3 := ⟨Tryz.underlying179, by
  obtain ⟨i, hi, hz0, hz1, hz2⟩ := info_parts info3
  exact ⟨i, _, _, hi, hz0, hz1, hz2, rfl, by omega⟩⟩
section
variable {α : Type} {E : El α} {S T : TypeId} (D : Ty E S T)
include D
theorem wpList_append_rw (w : World) {ops : Array Oper} {rest : List Oper} {o : Oper} {a : Act} {Q : Exit → Act → World → Prop} (hgd : o.guard = none) (s x : Operand) (ho : o.op = .call { callee := .builtin .append, args := #[s, x], argTypes := #[S, S] })
    (base : Nat) (v : Value) (n : Nat) (xs : List α) (hs : a.eval s = v) (hown : w.ownsRow base T E.N v n (E.cs xs)) (A : Option Addr) (m c : Nat) (ys : List α) (hx : a.eval x = .slice A m c) (hm : m = ys.length) (hr : Rw E w A ys)
    (hlen : n + m ≤ 1000000000000) (hbase : base ≤ w.heap.size)
    (h : ∀ v' w', w'.ownsRow base T E.N v' (n + m) (E.cs (xs ++ ys)) → w.grownBy w' v.ownBlock → wpList Tryz.prog ops Q rest (a.put o.dst v') w') : wpList Tryz.prog ops Q (o :: rest) a w :=
  wpList_plain hgd fun _ hK => by
    obtain ⟨v', w', hrun, h2, h3⟩ := run_append_rw D w base o.type v n xs hown A m c ys hm hr hlen hbase
    unfold Oper.wp execOp
    simp only [ho, resolve, invoke, builtin, Sem.run_bind, Sem.run_pure, Result.andThen_ok, List.map_toArray, List.map_cons, List.map_nil, hs, hx, hrun]
    exact hK _ _ (h v' w' h2 h3)
end
set_option maxRecDepth 100000 in
set_option maxHeartbeats 2000000 in
theorem clone_any (A : Option Addr) (xs : List Sw) (c : Nat) (w : World) (h : Rw eW w A xs) (hn : xs.length ≤ 1000000) (hc : xs.length ≤ c) : Calls Tryz.prog 51 #[.slice A xs.length c] w (OwnPost eW 101 w xs) := by
  have HN := fun W => Lib.run_eql_slice_nil (P := Tryz.prog) W 30 101 A xs.length c 0 0 Tryz.underlying30
  rcases A with _ | y
  · obtain rfl := rw_none h
    clear h hn
    simp only [List.length_nil, Option.isNone_none] at HN ⊢
    go_enter Tryz.func51, Tryz.ntmps51
    go_wp2_with fail
    go_ret
    exact ⟨_, rfl, World.ownsRow_nil _ _ _ _, Below.refl _ _⟩
  · have R := Lib.hid (h.below ((Below.refl _ w).alloc (Nat.le_refl _) (.cells #[] 101)))
    have HO := Lib.hid (World.ownsRow_made (e := 101) (size := 4) (base := w.heap.size) w #[] 0 (Nat.le_refl _) (by unfold maxLen; omega) rfl)
    have HB := Lib.hid (show Below w.heap.size w (w.alloc (.cells #[] 101)) from (Below.refl _ w).alloc (Nat.le_refl _) _)
    obtain ⟨L, hL⟩ : ∃ L, xs.length = L := ⟨_, rfl⟩
    have HL := Lib.hid hL
    rw [hL] at hn hc HN ⊢
    clear hL h
    go_enter Tryz.func51, Tryz.ntmps51
    go_wp2_with (at_builtin; refine wpList_append_rw tW _ rfl (.tmp 5) (.tmp 6) rfl w.heap.size _ 0 [] (by simp [Act.eval, Act.put]) HO.out (some y) L c xs (by simp [Act.eval, Act.put]) HL.out.symm R.out (by omega) (by simp) ?_)
    intro v2 w2 ho2 hg2
    have O2 := Lib.hid ho2
    have B2 := Lib.hid (HB.out.grown hg2 (by simp) (fun j hj => (HO.out.lt j hj).1))
    clear ho2 hg2
    go_wp2_with fail
    go_ret
    exact ⟨_, rfl, by rw [HL.out]; simpa using O2.out, B2.out⟩
set_option maxRecDepth 100000 in
set_option maxHeartbeats 2000000 in
theorem grow_any (n : Nat) (w : World) (hn : n ≤ 1000000) : Calls Tryz.prog 120 #[.slice none 0 0, .int .i64 (n : Int)] w (OwnPost eW 101 w []) := by
  by_cases h0 : n = 0
  · subst h0
    go_enter Tryz.func120, Tryz.ntmps120
    go_wp2_with fail
    go_ret
    exact ⟨_, rfl, World.ownsRow_nil _ _ _ _, Below.refl _ _⟩
  · have h1 : 0 < n := by omega
    have h1' : (0 : Int) < n := by omega
    clear h0
    go_enter Tryz.func120, Tryz.ntmps120
    go_wp2_with (at_builtin; refine wpList_zeros tW Tryz.underlying3 _ rfl (.tmp 20) (.tmp 21) rfl n (by simp [Act.eval, Act.put]) (by simp [Act.eval, Act.put]) h1 hn ?_)
    intro C cap hge hle hsz
    have HZ := Lib.hid hsz
    have HM := Lib.hid hle
    unfold maxLen at hle
    clear hsz
    go_wp2_with fail
    go_ret
    exact ⟨_, rfl, World.ownsRow_made (w.drew) C cap (Nat.le_refl _) HM.out HZ.out, (Below.refl _ w).drew.alloc (Nat.le_refl _) _⟩
set_option maxRecDepth 100000 in
set_option maxHeartbeats 4000000 in
theorem concat_any (ps : List (Pt Sw)) (b c : Nat) (w : World) (h : Pm eW w b ps) (hn : (cat ps ps.length).length ≤ 1000000) (hps : ps.length ≤ 10) :
    Calls Tryz.prog 80 #[.slice (some ⟨b, 0, none⟩) ps.length c] w (OwnPost eW 101 w (cat ps ps.length)) := by
  have HP := Lib.hid h
  have hb := h.1
  have HC := Lib.hid (cat_le ps)
  have HS := Lib.hid (fun (k : Nat) (p : Pt Sw) (h : ps[k]? = some p) => cat_snoc h)
  obtain ⟨L, hL⟩ : ∃ L, ps.length = L := ⟨_, rfl⟩
  have HL := Lib.hid hL
  rw [hL] at hn hps HC ⊢
  clear hL h
  go_enter Tryz.func80, Tryz.ntmps80
  go_wp2_with fail
  go_loop [3, 11] (fun s i => ∃ k : Nat, i = .int .i64 k ∧ k ≤ L ∧ s = .int .i64 ((cat ps k).length : Nat)) (fun _ i => L - (intOf i).toNat)
  case atStart => exact ⟨0, rfl, by omega, by rw [cat_zero]; rfl⟩
  case round =>
    obtain ⟨k, rfl, hk, rfl⟩ := hrel
    have hkc := HC.out k
    by_cases hlt : k < L
    · obtain ⟨p, hp⟩ : ∃ p, ps[k]? = some p := ⟨_, List.getElem?_eq_getElem (by rw [HL.out]; exact hlt)⟩
      have k0 := (HP.out.2 k p hp).1
      have hkc1 := HC.out (k + 1)
      have HK := Lib.hid (HS.out _ _ hp)
      rw [HK.out, List.length_append] at hkc1
      obtain ⟨A, xs, pc⟩ := p
      dsimp only at k0 hkc1 HK
      have HX := Lib.hid (show (cat ps (k + 1)).length = (cat ps k).length + xs.length by rw [HK.out, List.length_append])
      generalize (cat ps k).length = N at *
      clear hp
      go_wp2_with fail
      go_round
      case rel => exact ⟨k + 1, by go_num, by omega, by rw [HX.out]; go_num⟩
      case measure => simp [intOf]; omega
    · obtain rfl : k = L := by omega
      have HG := Lib.hid (grow_any (cat ps k).length w hn)
      obtain ⟨N, hN⟩ : ∃ N, (cat ps k).length = N := ⟨_, rfl⟩
      have HN := Lib.hid hN
      rw [hN] at HG hn HC ⊢
      clear hN hkc
      go_wp2_with fail
      refine HG.out.mono ?_
      rintro e w1 ⟨v1, rfl, ho, hb1⟩
      have O1 := Lib.hid ho
      have B1 := Lib.hid hb1
      clear ho hb1
      go_wp2_with fail
      go_loopw [6, 27] (fun v i wr => ∃ q : Nat, i = .int .i64 q ∧ q ≤ k ∧ Hid (wr.ownsRow w.heap.size 101 4 v (cat ps q).length (eW.cs (cat ps q)) ∧ Below w.heap.size w wr)) (fun _ i _ => k - (intOf i).toNat)
      case atStart => exact ⟨0, rfl, by omega, Lib.hid ⟨by rw [cat_zero]; exact O1.out, B1.out⟩⟩
      case round =>
        obtain ⟨q, rfl, hq, HR⟩ := hrel
        by_cases hlt : q < k
        · obtain ⟨p, hp⟩ : ∃ p, ps[q]? = some p := ⟨_, List.getElem?_eq_getElem (by rw [HL.out]; exact hlt)⟩
          obtain ⟨k0, kH⟩ := HP.out.2 q p hp
          have k1 : wr.cell? ⟨b, q, none⟩ = some (.slice p.A p.xs.length p.c) := by rw [HR.out.2.cell (p := ⟨b, q, none⟩) hb]; exact k0
          have kH1 := kH.below HR.out.2
          have hkc1 := HC.out (q + 1)
          have HK := Lib.hid (HS.out _ _ hp)
          rw [HK.out, List.length_append] at hkc1
          have hlen : (cat ps q).length + p.xs.length ≤ 1000000000000 := by omega
          obtain ⟨A, xs, pc⟩ := p
          dsimp only at k1 kH1 hkc1 HK hlen
          have hbase : w.heap.size ≤ wr.heap.size := HR.out.2.size
          have ho := HR.out.1
          have HH := Lib.hid kH1
          clear hp k0 kH kH1
          go_wp2_with (at_builtin; refine wpList_append_rw tW _ rfl (.tmp 31) (.tmp 32) rfl w.heap.size _ _ _ (by simp [Act.eval, Act.put]) ho A xs.length pc xs (by simp [Act.eval, Act.put]) rfl HH.out hlen hbase ?_)
          intro v2 w2 ho2 hg2
          have O2 := Lib.hid ho2
          have B2 := Lib.hid (HR.out.2.grown hg2 hbase (fun j hj => (ho.lt j hj).1))
          clear ho2 hg2 ho
          go_wp2_with fail
          go_roundw
          case rel => exact ⟨q + 1, by go_num, by omega, Lib.hid ⟨by rw [HK.out, List.length_append]; exact O2.out, B2.out⟩⟩
          case measure => simp [intOf]; omega
        · obtain rfl : q = k := by omega
          go_wp2_with fail
          go_ret
          exact ⟨_, rfl, HR.out.1, HR.out.2⟩
end Go.Proofs.YtilneflfeegnfaaGreat.Sw
namespace Go.Proofs.YtilneflfeegnfaaGreat.Sw
open Go.RowKit
def li (n : Int) : Int := if n < -1099511627776 then -1099511627776 else if 1099511627776 < n then 1099511627776 else n
theorem li_ge (n : Int) : -1099511627776 ≤ li n := by unfold li; split; omega; split <;> omega
theorem li_le (n : Int) : li n ≤ 1099511627776 := by unfold li; split; omega; split <;> omega
theorem li_eq (n : Int) : min (max n (-1099511627776)) 1099511627776 = li n := by unfold li; split; omega; split <;> omega
def ad (t n : Int) : Int := cl (cl t + li n)
theorem ad_eq {d : Int} (n : Int) (h0 : 0 ≤ d) (h1 : d ≤ 1099511627776) : max 0 (min (d + max (-1099511627776) (min n 1099511627776)) 1099511627776) = ad d n := by
  unfold ad
  rw [cl_in h0 h1, cl_eq']
  congr 2
  unfold li
  split
  · omega
  · split <;> omega
theorem ad_ge (t n : Int) : 0 ≤ ad t n := cl_ge _
theorem ad_le (t n : Int) : ad t n ≤ 1099511627776 := cl_le _
theorem add_any (t n : Int) (w : World) : Calls Tryz.prog 56 #[.int .i64 t, .int .i64 n] w fun e w' => e = .returned (.int .i64 (ad t n)) ∧ w = w' := by
  have E := li_eq n
  have C := Lib.hid fun m W => clamp_any m W
  have a := cl_ge t
  have b := cl_le t
  have c := li_ge n
  have d := li_le n
  go_enter Tryz.func56, Tryz.ntmps56
  go_wp2_with fail
  refine (C.out _ _).mono ?_
  rintro e w1 ⟨rfl, rfl⟩
  go_wp2_with fail
  refine (C.out _ _).mono ?_
  rintro e w1 ⟨rfl, rfl⟩
  go_wp2_with fail
  go_ret
  exact ⟨rfl, rfl⟩
def cmpI (x y : Int) : Int := if x < y then -1 else if y < x then 1 else 0
theorem isNaN_any (x : Int) (w : World) : Calls Tryz.prog 137 #[.int .i64 x] w fun e w' => e = .returned (.bool false) ∧ w = w' := by
  have h : (x != x) = false := by simp
  go_enter Tryz.func137, Tryz.ntmps137
  go_wp2
  go_ret
  exact ⟨ret_bool (by simp), rfl⟩
theorem cmp_any (x y : Int) (w : World) : Calls Tryz.prog 131 #[.int .i64 x, .int .i64 y] w fun e w' => e = .returned (.int .i64 (cmpI x y)) ∧ w = w' := by
  have C := Lib.hid fun m W => isNaN_any m W
  have go : ∀ c : Int, c = cmpI x y → Calls Tryz.prog 131 #[.int .i64 x, .int .i64 y] w (fun e w' => e = .returned (.int .i64 c) ∧ w = w') → Calls Tryz.prog 131 #[.int .i64 x, .int .i64 y] w (fun e w' => e = .returned (.int .i64 (cmpI x y)) ∧ w = w') := fun c hc h => by rw [← hc]; exact h
  rcases (show x < y ∨ (¬ x < y ∧ y < x) ∨ (¬ x < y ∧ ¬ y < x) by omega) with h | ⟨h, h2⟩ | ⟨h, h2⟩
  · refine go (-1) (by unfold cmpI; rw [if_pos h]) ?_
    go_enter Tryz.func131, Tryz.ntmps131
    go_wp2_with fail
    refine (C.out _ _).mono ?_
    rintro e w1 ⟨rfl, rfl⟩
    go_wp2_with fail
    refine (C.out _ _).mono ?_
    rintro e w1 ⟨rfl, rfl⟩
    go_wp2_with fail
    go_ret
    exact ⟨rfl, rfl⟩
  · refine go 1 (by unfold cmpI; rw [if_neg h, if_pos h2]) ?_
    go_enter Tryz.func131, Tryz.ntmps131
    go_wp2_with fail
    refine (C.out _ _).mono ?_
    rintro e w1 ⟨rfl, rfl⟩
    go_wp2_with fail
    refine (C.out _ _).mono ?_
    rintro e w1 ⟨rfl, rfl⟩
    go_wp2_with fail
    go_ret
    exact ⟨rfl, rfl⟩
  · refine go 0 (by unfold cmpI; rw [if_neg h, if_neg h2]) ?_
    go_enter Tryz.func131, Tryz.ntmps131
    go_wp2_with fail
    refine (C.out _ _).mono ?_
    rintro e w1 ⟨rfl, rfl⟩
    go_wp2_with fail
    refine (C.out _ _).mono ?_
    rintro e w1 ⟨rfl, rfl⟩
    go_wp2_with fail
    go_ret
    exact ⟨rfl, rfl⟩
end Go.Proofs.YtilneflfeegnfaaGreat.Sw
namespace Go.Proofs.YtilneflfeegnfaaGreat.Sw
open Go.RowKit
def lo : List Sw → Int → Nat
  | [], _ => 0
  | x :: r, a => if x.a < a then lo r a + 1 else 0
theorem lo_le (a : Int) : ∀ xs, lo xs a ≤ xs.length
  | [] => Nat.le_refl _
  | x :: r => by
    unfold lo
    have := lo_le a r
    split <;> simp
    omega
theorem lo_lt (a : Int) : ∀ (xs : List Sw) (k : Nat) (x : Sw), k < lo xs a → xs[k]? = some x → x.a < a
  | [], k, x, h, _ => by simp [lo] at h
  | y :: r, k, x, h, hx => by
    unfold lo at h
    split at h
    · rename_i hy
      cases k with
      | zero => simp at hx; subst hx; exact hy
      | succ k => exact lo_lt a r k x (by omega) (by simpa using hx)
    · omega
theorem lo_ge (a : Int) : ∀ (xs : List Sw) (x : Sw), xs[lo xs a]? = some x → ¬ x.a < a
  | [], x, hx => by simp at hx
  | y :: r, x, hx => by
    unfold lo at hx
    split at hx
    · exact lo_ge a r x (by simpa using hx)
    · rename_i hy
      simp at hx
      subst hx
      exact hy
theorem bl_at {w : World} {y : Addr} {a b : Int} (h0 : w.cell? y = some (.int .u32 a)) (h1 : w.cell? (y.add 1) = some (.int .i64 b)) : ∀ j v, (bl ⟨a, b⟩)[j]? = some v → w.cell? (y.add j) = some v := by
  intro j v hv
  match j, hv with
  | 0, hv => simp [bl] at hv; subst hv; rw [Addr.add_zero']; exact h0
  | 1, hv => simp [bl] at hv; subst hv; exact h1
  | j + 2, hv => simp [bl] at hv
def isAt (xs : List Sw) (a b : Int) : Bool := match xs[lo xs a]? with
  | some x => eqb x.a x.b a b
  | none => false
theorem rw_c0 {w : World} {y : Addr} {xs : List Sw} (R : Rw eW w (some y) xs) {k : Nat} {x : Sw} (hx : xs[k]? = some x) : w.cell? (y.add (k * 4)) = some (.int .u32 x.a) ∧ w.cell? (y.add (k * 4 + 1)) = some (.int .i64 x.b) ∧ w.cell? (y.add (k * 4 + 2)) = some (.int .i64 x.d) ∧ w.cell? (y.add (k * 4 + 3)) = some (.int .i64 x.n) := by
  have h := fun j v hv => R.at hx j v hv
  have e : ∀ j, (y.add (k * eW.N)).add j = y.add (k * 4 + j) := fun j => by rw [Addr.add_add]; rfl
  refine ⟨?_, ?_, ?_, ?_⟩
  · have := h 0 _ rfl; rwa [e] at this
  · have := h 1 _ rfl; rwa [e] at this
  · have := h 2 _ rfl; rwa [e] at this
  · have := h 3 _ rfl; rwa [e] at this
set_option maxRecDepth 100000 in
set_option maxHeartbeats 2000000 in
theorem place_any (a b : Int) (A : Option Addr) (xs : List Sw) (cap : Nat) (w : World) (h : Rw eW w A xs) :
    Calls Tryz.prog 78 #[.slice A xs.length cap, .agg #[.int .u32 a, .int .i64 b]] w fun e w' => e = .returned (.tuple #[.int .i64 (lo xs a), .bool (isAt xs a b)]) ∧ Below w.heap.size w w' := by
  have hle := lo_le a xs
  have hln := h.1
  have R := Lib.hid (h.below ((Below.refl _ w).alloc (Nat.le_refl _) (Bkx a b)))
  have HB := Lib.hid (show Below w.heap.size w (w.alloc (Bkx a b)) from (Below.refl _ w).alloc (Nat.le_refl _) _)
  clear h
  have HI := Lib.hid (show isAt xs a b = _ by unfold isAt; rfl)
  obtain ⟨L, hL⟩ : ∃ L, xs.length = L := ⟨_, rfl⟩
  have HL := Lib.hid hL
  rw [hL] at hle hln ⊢
  clear hL
  obtain ⟨P, hP⟩ : ∃ P, lo xs a = P := ⟨_, rfl⟩
  have HP := Lib.hid hP
  rw [hP] at hle ⊢
  clear hP
  have b0 : (w.alloc (Bkx a b)).cell? ⟨w.heap.size, 0, none⟩ = some (.int .u32 a) := by simp [Bkx]
  have b1 : (w.alloc (Bkx a b)).cell? ⟨w.heap.size, 1, none⟩ = some (.int .i64 b) := by simp [Bkx]
  unfold Bkx at *
  go_enter Tryz.func78, Tryz.ntmps78
  go_wp2_with fail
  generalize w.alloc (.cells #[.int .u32 a, .int .i64 b] 46) = W at *
  go_loopw [6] (fun i wr => ∃ (k n : Nat), i = .int .i64 k ∧ k ≤ P ∧ Hid (wr = W.drewN n)) (fun i _ => P - (intOf i).toNat)
  case atStart => exact ⟨0, 0, rfl, by omega, Lib.hid rfl⟩
  case round =>
    obtain ⟨k, n, rfl, hk, HW⟩ := hrel
    have d0 : wr.cell? ⟨w.heap.size, 0, none⟩ = some (.int .u32 a) := by rw [HW.out]; exact b0
    have d1 : wr.cell? ⟨w.heap.size, 1, none⟩ = some (.int .i64 b) := by rw [HW.out]; exact b1
    have RW : Hid (Rw eW wr A xs) := Lib.hid (by rw [HW.out]; exact R.out.drewN n)
    have HBW : Hid (Below w.heap.size w wr) := Lib.hid (by rw [HW.out]; exact bdrewN HB.out n)
    by_cases hkL : k < L
    · obtain ⟨x, hx⟩ : ∃ x, xs[k]? = some x := ⟨_, List.getElem?_eq_getElem (by rw [HL.out]; exact hkL)⟩
      obtain ⟨y, rfl⟩ := rw_some R.out (by rw [HL.out]; omega)
      obtain ⟨c0, c1, -, -⟩ := rw_c0 RW.out hx
      by_cases hlt : k < P
      · have hxa : x.a < a := lo_lt a xs k x (by rw [HP.out]; exact hlt) hx
        clear hx
        go_wp2_with fail
        go_quiet (fail)
        go_wp2_with fail
        go_roundw
        case rel => exact ⟨k + 1, n + nq, by go_num, by omega, Lib.hid (by rw [HW.out, World.drewN_drewN])⟩
        case measure => simp [intOf]; omega
      · obtain rfl : k = P := by omega
        have hxa : decide (x.a < a) = false := decide_eq_false (lo_ge a xs x (by rw [HP.out]; exact hx))
        have HA := Lib.hid (show isAt xs a b = eqb x.a x.b a b by rw [HI.out, HP.out, hx])
        clear hx
        go_wp2_with fail
        go_quiet (fail)
        go_wp2_with fail
        refine wp_region_quiet_lit (by kernel_rfl) (by kernel_rfl) ?_
        have HLd : ∀ W', (∃ n, W' = (wr.drewN nq).drewN n) → ∀ j v, (bl ⟨x.a, x.b⟩)[j]? = some v → W'.cell? ((y.add (k * 4)).add j) = some v := by
          rintro W' ⟨n, rfl⟩
          exact bl_at c0 (by rw [Addr.add_add]; exact c1)
        repeat (first | (refine quiet_load36 (.tmp 33) (y.add (k * 4)) ⟨x.a, x.b⟩ HLd ?_ ?_ ?_ ?_; rotate_left; (with_reducible rfl); rfl; rotate_left; kernel_rfl; simp only [Act.put, List.setIfInBounds_toArray, List.set_cons_zero, List.set_cons_succ]) | (refine quiet_eql36 (.tmp 34) (.tmp 35) x.a x.b a b ?_ ?_ ?_ ?_ ?_; rotate_left; (with_reducible rfl); rfl; rfl; rotate_left; kernel_rfl; simp only [Act.put, List.setIfInBounds_toArray, List.set_cons_zero, List.set_cons_succ]) | go_big_quiet_step (fail))
        refine wpQuiet_nil ?_
        intro _ hw'
        obtain ⟨nq2, hw''⟩ := hw'
        subst hw''
        go_wp2_with fail
        go_ret2
        refine ⟨?_, bdrewN (bdrewN HBW.out _) _⟩
        rw [HA.out]; rfl
    · obtain rfl : k = L := by omega
      obtain rfl : k = P := by omega
      have HA := Lib.hid (show isAt xs a b = false by rw [HI.out, HP.out, List.getElem?_eq_none (by rw [HL.out]; exact Nat.le_refl _)])
      go_wp2_with fail
      go_quiet (fail)
      go_wp2_with fail
      go_quiet (fail)
      go_wp2_with fail
      go_ret2
      refine ⟨?_, bdrewN (bdrewN HBW.out _) _⟩
      rw [HA.out]; rfl
end Go.Proofs.YtilneflfeegnfaaGreat.Sw
namespace Go.Proofs.YtilneflfeegnfaaGreat.Sw
open Go.RowKit
def Au (xs : List Sw) : Prop := ∀ x ∈ xs, 0 ≤ x.a ∧ x.a < 4294967296
theorem Au.get {xs : List Sw} (h : Au xs) {k : Nat} {x : Sw} (hx : xs[k]? = some x) : 0 ≤ x.a ∧ x.a < 4294967296 := h x (List.mem_of_getElem? hx)
def anyB (xs : List Sw) (a b : Int) : Bool := xs.any fun x => overB x.a x.b a b
theorem any_take {xs : List Sw} {a b : Int} {k : Nat} {x : Sw} (hx : xs[k]? = some x) : anyB (xs.take (k + 1)) a b = (anyB (xs.take k) a b || overB x.a x.b a b) := by
  unfold anyB
  rw [List.take_add_one, hx]
  simp
theorem any_yes {xs : List Sw} {a b : Int} {k : Nat} {x : Sw} (hx : xs[k]? = some x) (h : overB x.a x.b a b = true) : anyB xs a b = true := List.any_eq_true.2 ⟨x, List.mem_of_getElem? hx, h⟩
set_option maxRecDepth 100000 in
set_option maxHeartbeats 2000000 in
theorem anyOverlap_any (a b : Int) (A : Option Addr) (xs : List Sw) (cap : Nat) (w : World) (h : Rw eW w A xs) (hu : Au xs) (ha0 : 0 ≤ a) (ha1 : a < 4294967296) :
    Calls Tryz.prog 77 #[.slice A xs.length cap, .agg #[.int .u32 a, .int .i64 b]] w fun e w' => e = .returned (.bool (anyB xs a b)) ∧ Below w.heap.size w w' := by
  have hln := h.1
  have R := Lib.hid (h.below ((Below.refl _ w).alloc (Nat.le_refl _) (Bkx a b)))
  have HB := Lib.hid (show Below w.heap.size w (w.alloc (Bkx a b)) from (Below.refl _ w).alloc (Nat.le_refl _) _)
  have HU := Lib.hid hu
  clear h hu
  obtain ⟨L, hL⟩ : ∃ L, xs.length = L := ⟨_, rfl⟩
  have HL := Lib.hid hL
  rw [hL] at hln ⊢
  clear hL
  have b0 : (w.alloc (Bkx a b)).cell? ⟨w.heap.size, 0, none⟩ = some (.int .u32 a) := by simp [Bkx]
  have b1 : (w.alloc (Bkx a b)).cell? ⟨w.heap.size, 1, none⟩ = some (.int .i64 b) := by simp [Bkx]
  have hs : w.heap.size < (w.alloc (Bkx a b)).heap.size := by simp
  unfold Bkx at *
  go_enter Tryz.func77, Tryz.ntmps77
  go_wp2_with fail
  generalize w.alloc (.cells #[.int .u32 a, .int .i64 b] 46) = W at *
  go_loopw [9] (fun i wr => ∃ k : Nat, i = .int .i64 k ∧ k ≤ L ∧ Hid (Below W.heap.size W wr) ∧ Hid (anyB (xs.take k) a b = false)) (fun i _ => L - (intOf i).toNat)
  case atStart => exact ⟨0, rfl, by omega, Lib.hid (Below.refl _ _), Lib.hid (by simp [anyB])⟩
  case round =>
    obtain ⟨k, rfl, hk, HW, HF⟩ := hrel
    have d0 : wr.cell? ⟨w.heap.size, 0, none⟩ = some (.int .u32 a) := by rw [HW.out.cell (p := ⟨w.heap.size, 0, none⟩) hs]; exact b0
    have d1 : wr.cell? ⟨w.heap.size, 1, none⟩ = some (.int .i64 b) := by rw [HW.out.cell (p := ⟨w.heap.size, 1, none⟩) hs]; exact b1
    have hsw : w.heap.size < wr.heap.size := Nat.lt_of_lt_of_le hs HW.out.size
    by_cases hkL : k < L
    · obtain ⟨x, hx⟩ : ∃ x, xs[k]? = some x := ⟨_, List.getElem?_eq_getElem (by rw [HL.out]; exact hkL)⟩
      obtain ⟨y, rfl⟩ := rw_some R.out (by rw [HL.out]; omega)
      have hat := (R.out.below HW.out).at hx
      obtain ⟨u0, u1⟩ := HU.out.get hx
      have HX := Lib.hid hx
      clear hx
      cases hov : overB x.a x.b a b
      · have HO := Lib.hid fun W' => overlap_eq x.a x.b a b false W' u0 u1 ha0 ha1 hov
        have HV := Lib.hid hov
        clear hov
        go_wp2_with (refine at_load39 (.tmp 11) rfl rfl (y.add (k * 4)) x rfl hat ?_)
        refine (HO.out _).mono ?_
        rintro e w1 ⟨rfl, hb⟩
        have B1 := Lib.hid (HW.out.trans ((hx_below _ hb).mono HW.out.size))
        clear hb
        go_wp2_with fail
        go_roundw
        case rel => exact ⟨k + 1, by go_num, by omega, B1, Lib.hid (by rw [any_take HX.out, HF.out, HV.out]; rfl)⟩
        case measure => simp [intOf]; omega
      · have HO := Lib.hid fun W' => overlap_eq x.a x.b a b true W' u0 u1 ha0 ha1 hov
        have HV := Lib.hid hov
        clear hov
        go_wp2_with (refine at_load39 (.tmp 11) rfl rfl (y.add (k * 4)) x rfl hat ?_)
        refine (HO.out _).mono ?_
        rintro e w1 ⟨rfl, hb⟩
        have B1 := Lib.hid (HW.out.trans ((hx_below _ hb).mono HW.out.size))
        clear hb
        go_wp2_with fail
        go_ret
        exact ⟨by rw [any_yes HX.out HV.out]; rfl, HB.out.trans (B1.out.mono HB.out.size)⟩
    · obtain rfl : k = L := by omega
      go_wp2_with fail
      go_ret
      exact ⟨by rw [show anyB xs a b = false by rw [← HF.out, List.take_of_length_le (by rw [HL.out]; exact Nat.le_refl _)]]; rfl, HB.out.trans (HW.out.mono HB.out.size)⟩
def rsB (x : Sw) : Bool := okB x.a x.b && decide (p2 x.b ≤ 256) && decide (x.d = cl x.d) && decide (0 ≤ x.n) && decide (x.n < p2 x.b)
theorem sw_box (w : World) (x : Sw) : (w.alloc (Swx x)).cell? ⟨w.heap.size, 0, none⟩ = some (.int .u32 x.a) ∧ (w.alloc (Swx x)).cell? ⟨w.heap.size, 1, none⟩ = some (.int .i64 x.b) ∧ (w.alloc (Swx x)).cell? ⟨w.heap.size, 2, none⟩ = some (.int .i64 x.d) ∧ (w.alloc (Swx x)).cell? ⟨w.heap.size, 3, none⟩ = some (.int .i64 x.n) := by
  simp [Swx]
set_option maxRecDepth 100000 in
set_option maxHeartbeats 4000000 in
theorem rightSweep_any (x : Sw) (w : World) (ha0 : 0 ≤ x.a) (ha1 : x.a < 4294967296) :
    Calls Tryz.prog 87 #[.agg #[.int .u32 x.a, .int .i64 x.b, .int .i64 x.d, .int .i64 x.n]] w fun e w' => e = .returned (.bool (rsB x)) ∧ Below w.heap.size w w' := by
  obtain ⟨a, b, d, n⟩ := x
  dsimp only at ha0 ha1 ⊢
  obtain ⟨k0, k1, k2, k3⟩ := sw_box w ⟨a, b, d, n⟩
  have HB := Lib.hid (show Below w.heap.size w (w.alloc (Swx ⟨a, b, d, n⟩)) from (Below.refl _ w).alloc (Nat.le_refl _) _)
  have hs : w.heap.size < (w.alloc (Swx ⟨a, b, d, n⟩)).heap.size := by simp
  have HS := Lib.hid fun W' => size_any a b W' ha0 ha1
  unfold Swx at *
  go_enter Tryz.func87, Tryz.ntmps87
  go_wp2_with fail
  generalize w.alloc (.cells #[.int .u32 a, .int .i64 b, .int .i64 d, .int .i64 n] 101) = W at *
  refine (HS.out _).mono ?_
  rintro e W1 ⟨rfl, hb⟩
  have B1 := Lib.hid (HB.out.trans (hb.mono HB.out.size))
  have q0 : W1.cell? ⟨w.heap.size, 0, none⟩ = some (.int .u32 a) := by rw [hb.cell (p := ⟨w.heap.size, 0, none⟩) hs]; exact k0
  have q1 : W1.cell? ⟨w.heap.size, 1, none⟩ = some (.int .i64 b) := by rw [hb.cell (p := ⟨w.heap.size, 1, none⟩) hs]; exact k1
  have q2 : W1.cell? ⟨w.heap.size, 2, none⟩ = some (.int .i64 d) := by rw [hb.cell (p := ⟨w.heap.size, 2, none⟩) hs]; exact k2
  have q3 : W1.cell? ⟨w.heap.size, 3, none⟩ = some (.int .i64 n) := by rw [hb.cell (p := ⟨w.heap.size, 3, none⟩) hs]; exact k3
  have r0 := cell_regrown q0
  have r1 := cell_regrown q1
  have r2 := cell_regrown q2
  have r3 := cell_regrown q3
  clear hb k0 k1 k2 k3 q0 q1 q2 q3
  have HC := Lib.hid fun d' os => Calls.regrown_of (d := d') (os := os) ((clamp_any d (Sort.grow (redrawn W1 d') os)).mono fun _ _ ⟨he, hw⟩ => ⟨he, by rw [hw]; exact Below.refl _ _⟩)
  cases hok : okB a b
  · obtain ⟨S, hS⟩ : ∃ S, sizeOf a b = S := ⟨_, rfl⟩
    rw [hS]
    clear hS
    have HF := Lib.hid (show rsB ⟨a, b, d, n⟩ = false by simp [rsB, hok]; try omega)
    have HR := Lib.hid fun d' os => Calls.regrown_of (d := d') (os := os) (right_no a b (Sort.grow (redrawn W1 d') os) ha0 ha1 hok)
    clear hok
    go_wp2_with fail
    refine wp_region_quiet_below (by kernel_rfl) (by kernel_rfl) ?_
    repeat (go_big_quiet_step (first | (go_at_call 75; exact HR.out _ _) | (go_at_call 79; exact HC.out _ _)))
    refine wpQuiet_nil ?_
    intro _ hw'
    obtain ⟨⟨dq, osq⟩, hw''⟩ := hw'
    subst hw''
    go_wp2
    go_ret
    exact ⟨by rw [HF.out]; rfl, B1.out.trans ((below_regrown _ dq osq).mono B1.out.size)⟩
  · have hsz : sizeOf a b = p2 b := by simp [sizeOf, hok]
    rw [hsz]
    clear hsz
    obtain ⟨P, hP⟩ : ∃ P, p2 b = P := ⟨_, rfl⟩
    have HP := Lib.hid hP
    rw [hP]
    obtain ⟨C, hCC⟩ : ∃ C, cl d = C := ⟨_, rfl⟩
    have HCL := Lib.hid hCC
    rw [hCC] at HC
    by_cases h1 : P ≤ 256
    · by_cases h2 : d = C
      · have e2 : (d == C) = true := by simpa using h2
        have H2 := Lib.hid h2
        clear h2
        by_cases h3 : 0 ≤ n
        · by_cases h4 : n < P
          · have HF0 : rsB ⟨a, b, d, n⟩ = true := by simp only [rsB, hok, hP, decide_eq_true h1, decide_eq_true h3, decide_eq_true h4, decide_eq_true (show d = cl d by rw [hCC]; exact H2.out), Bool.and_self]
            have HF := Lib.hid HF0
            clear HF0 hP hCC
            have HR := Lib.hid fun d' os => Calls.regrown_of (d := d') (os := os) (right_yes a b (Sort.grow (redrawn W1 d') os) ha0 ha1 hok)
            clear hok
            go_wp2_with fail
            refine wp_region_quiet_below (by kernel_rfl) (by kernel_rfl) ?_
            repeat (go_big_quiet_step (first | (go_at_call 75; exact HR.out _ _) | (go_at_call 79; exact HC.out _ _)))
            refine wpQuiet_nil ?_
            intro _ hw'
            obtain ⟨⟨dq, osq⟩, hw''⟩ := hw'
            subst hw''
            go_wp2
            go_ret
            exact ⟨by rw [HF.out]; rfl, B1.out.trans ((below_regrown _ dq osq).mono B1.out.size)⟩
          · have HF := Lib.hid (show rsB ⟨a, b, d, n⟩ = false by simp [rsB, hok, hP, hCC, h4])
            have h4' : decide (n < P) = false := decide_eq_false h4
            clear hP hCC h4
            have HR := Lib.hid fun d' os => Calls.regrown_of (d := d') (os := os) (right_yes a b (Sort.grow (redrawn W1 d') os) ha0 ha1 hok)
            clear hok
            go_wp2_with fail
            refine wp_region_quiet_below (by kernel_rfl) (by kernel_rfl) ?_
            repeat (go_big_quiet_step (first | (go_at_call 75; exact HR.out _ _) | (go_at_call 79; exact HC.out _ _)))
            refine wpQuiet_nil ?_
            intro _ hw'
            obtain ⟨⟨dq, osq⟩, hw''⟩ := hw'
            subst hw''
            go_wp2
            go_ret
            exact ⟨by rw [HF.out]; rfl, B1.out.trans ((below_regrown _ dq osq).mono B1.out.size)⟩
        · have HF := Lib.hid (show rsB ⟨a, b, d, n⟩ = false by simp [rsB, hok, hP, hCC, h3])
          have h3' : decide (0 ≤ n) = false := decide_eq_false h3
          clear hP hCC h3
          have HR := Lib.hid fun d' os => Calls.regrown_of (d := d') (os := os) (right_yes a b (Sort.grow (redrawn W1 d') os) ha0 ha1 hok)
          clear hok
          go_wp2_with fail
          refine wp_region_quiet_below (by kernel_rfl) (by kernel_rfl) ?_
          repeat (go_big_quiet_step (first | (go_at_call 75; exact HR.out _ _) | (go_at_call 79; exact HC.out _ _)))
          refine wpQuiet_nil ?_
          intro _ hw'
          obtain ⟨⟨dq, osq⟩, hw''⟩ := hw'
          subst hw''
          go_wp2
          go_ret
          exact ⟨by rw [HF.out]; rfl, B1.out.trans ((below_regrown _ dq osq).mono B1.out.size)⟩
      · have e2 : (d == C) = false := by simpa using h2
        have HF := Lib.hid (show rsB ⟨a, b, d, n⟩ = false by simp [rsB, hok, hP, hCC, h2])
        clear hP hCC h2
        have HR := Lib.hid fun d' os => Calls.regrown_of (d := d') (os := os) (right_yes a b (Sort.grow (redrawn W1 d') os) ha0 ha1 hok)
        clear hok
        go_wp2_with fail
        refine wp_region_quiet_below (by kernel_rfl) (by kernel_rfl) ?_
        repeat (go_big_quiet_step (first | (go_at_call 75; exact HR.out _ _) | (go_at_call 79; exact HC.out _ _)))
        refine wpQuiet_nil ?_
        intro _ hw'
        obtain ⟨⟨dq, osq⟩, hw''⟩ := hw'
        subst hw''
        go_wp2
        go_ret
        exact ⟨by rw [HF.out]; rfl, B1.out.trans ((below_regrown _ dq osq).mono B1.out.size)⟩
    · have HF := Lib.hid (show rsB ⟨a, b, d, n⟩ = false by simp [rsB, hok, hP, hCC, h1])
      have h1' : decide (P ≤ 256) = false := decide_eq_false h1
      clear hP hCC h1
      have HR := Lib.hid fun d' os => Calls.regrown_of (d := d') (os := os) (right_yes a b (Sort.grow (redrawn W1 d') os) ha0 ha1 hok)
      clear hok
      go_wp2_with fail
      refine wp_region_quiet_below (by kernel_rfl) (by kernel_rfl) ?_
      repeat (go_big_quiet_step (first | (go_at_call 75; exact HR.out _ _) | (go_at_call 79; exact HC.out _ _)))
      refine wpQuiet_nil ?_
      intro _ hw'
      obtain ⟨⟨dq, osq⟩, hw''⟩ := hw'
      subst hw''
      go_wp2
      go_ret
      exact ⟨by rw [HF.out]; rfl, B1.out.trans ((below_regrown _ dq osq).mono B1.out.size)⟩
end Go.Proofs.YtilneflfeegnfaaGreat.Sw
namespace Go.Proofs.YtilneflfeegnfaaGreat.Sw
open Go.RowKit
def ris (xs : List Sw) (i : Nat) : Bool := decide (i = 0) || match xs[i - 1]?, xs[i]? with
  | some p, some x => decide (p.a < x.a)
  | _, _ => false
def rk (xs : List Sw) (i : Nat) : Bool := match xs[i]? with
  | some x => ris xs i && rsB x && !anyB (xs.take i) x.a x.b
  | none => true
def rgB (xs : List Sw) : Bool := decide (xs.length ≤ 16) && (List.range xs.length).all (rk xs)
theorem rk_all (xs : List Sw) (k : Nat) : (List.range (k + 1)).all (rk xs) = ((List.range k).all (rk xs) && rk xs k) := by
  rw [List.range_succ, List.all_append]; simp
theorem rgB_no {xs : List Sw} {k : Nat} (hk : k < xs.length) (h : rk xs k = false) : rgB xs = false := by
  unfold rgB
  have : (List.range xs.length).all (rk xs) = false := by
    rw [Bool.eq_false_iff]
    intro hc
    rw [List.all_eq_true] at hc
    have := hc k (List.mem_range.2 hk)
    rw [h] at this; cases this
  rw [this, Bool.and_false]
theorem run_sl29 (A : Option Addr) (n c i : Nat) (hi : i ≤ c) (W : World) : (Instr.slice 30 (.slice A n c) none (some (.int .i64 (i : Int))) none).run Tryz.prog W = .ok (.slice A i c) W := by
  have h1 : (i : Int) ≤ c := by omega
  have h2 : A.map (·.add (0 * 4)) = A := by cases A <;> simp [Addr.add]
  unfold Instr.slice Instr.sliceBounds Instr.sliceBound
  simp only [Sem.run_bind, run_underlying Tryz.underlying30, Result.andThen_ok, Sem.run_pure, run_size39, asIntOf]
  try simp only [Option.isSome_none, Bool.false_eq_true, if_false, Sem.run_bind, Sem.run_pure, Result.andThen_ok]
  rw [if_pos ⟨by omega, h1⟩]
  simp only [Sem.run_bind, Sem.run_pure, Result.andThen_ok, h2, ite_self, Nat.sub_zero, Int.toNat_natCast]
theorem run_sl29l (A : Option Addr) (n c k : Nat) (hk : k ≤ n) (hc : n ≤ c) (W : World) : (Instr.slice 30 (.slice A n c) (some (.int .i64 (k : Int))) none none).run Tryz.prog W = .ok (.slice (dA 4 A c k) (n - k) (c - k)) W := by
  have h1 : (k : Int) ≤ n := by omega
  unfold Instr.slice Instr.sliceBounds Instr.sliceBound
  simp only [Sem.run_bind, run_underlying Tryz.underlying30, Result.andThen_ok, Sem.run_pure, run_size39, asIntOf]
  try simp only [Option.isSome_none, Bool.false_eq_true, if_false, Sem.run_bind, Sem.run_pure, Result.andThen_ok]
  rw [if_pos ⟨by omega, h1⟩]
  simp only [Sem.run_bind, Sem.run_pure, Result.andThen_ok, Int.toNat_natCast]
  rfl
set_option maxRecDepth 100000 in
set_option maxHeartbeats 8000000 in
theorem right_row (A : Option Addr) (xs : List Sw) (cap : Nat) (w : World) (h : Rw eW w A xs) (hu : Au xs) (hcap : xs.length ≤ cap) :
    Calls Tryz.prog 40 #[.slice A xs.length cap] w fun e w' => e = .returned (.bool (rgB xs)) ∧ Below w.heap.size w w' := by
  have hln := h.1
  have R := Lib.hid h
  have HU := Lib.hid hu
  have HNO := Lib.hid (fun k => @rgB_no xs k)
  have HRG := Lib.hid (show rgB xs = _ by unfold rgB; rfl)
  have HSL := Lib.hid (fun n c i hi W => run_sl29 A n c i hi W)
  clear h hu
  by_cases h16 : 16 < xs.length
  · have HF := Lib.hid (show rgB xs = false by rw [HRG.out, decide_eq_false (by omega)]; rfl)
    generalize xs.length = L at *
    go_enter Tryz.func40, Tryz.ntmps40
    go_wp2_with fail
    go_ret
    exact ⟨by rw [HF.out]; rfl, Below.refl _ _⟩
  · have h16' : xs.length ≤ 16 := by omega
    rw [decide_eq_true h16', Bool.true_and] at HRG
    obtain ⟨L, hL⟩ : ∃ L, xs.length = L := ⟨_, rfl⟩
    have HL := Lib.hid hL
    rw [hL] at hln hcap HRG HNO h16 h16' ⊢
    clear hL
    go_enter Tryz.func40, Tryz.ntmps40
    go_wp2_with fail
    go_loopw [11] (fun i wr => ∃ k : Nat, i = .int .i64 k ∧ k ≤ L ∧ Hid (Below w.heap.size w wr) ∧ Hid ((List.range k).all (rk xs) = true)) (fun i _ => L - (intOf i).toNat)
    case atStart => exact ⟨0, rfl, by omega, Lib.hid (Below.refl _ _), Lib.hid rfl⟩
    case round =>
      obtain ⟨k, rfl, hk, HW, HF⟩ := hrel
      by_cases hkL : k < L
      · obtain ⟨x, hx⟩ : ∃ x, xs[k]? = some x := ⟨_, List.getElem?_eq_getElem (by rw [HL.out]; exact hkL)⟩
        obtain ⟨y, rfl⟩ := rw_some R.out (by rw [HL.out]; omega)
        have RW := Lib.hid (R.out.below HW.out)
        have hat := RW.out.at hx
        obtain ⟨u0, u1⟩ := HU.out.get hx
        have HX := Lib.hid hx
        obtain ⟨s0, s1, s2, s3⟩ := sw_box wr x
        have hsz : wr.heap.size < (wr.alloc (Swx x)).heap.size := by simp
        have B1 := Lib.hid (show Below w.heap.size w (wr.alloc (Swx x)) from HW.out.alloc HW.out.size _)
        have R1 := Lib.hid (RW.out.below ((Below.refl _ wr).alloc (Nat.le_refl _) (Swx x)))
        unfold Swx at *
        go_wp2_with (refine at_load39 (.tmp 14) rfl rfl (y.add (k * 4)) x rfl hat ?_)
        generalize wr.alloc (.cells #[.int .u32 x.a, .int .i64 x.b, .int .i64 x.d, .int .i64 x.n] 101) = W at *
        have r0 := cell_regrown s0
        have r1 := cell_regrown s1
        have r2 := cell_regrown s2
        have r3 := cell_regrown s3
        have HKK := Lib.hid (show rk xs k = (ris xs k && rsB x && !anyB (xs.take k) x.a x.b) by unfold rk; rw [hx])
        have e1 : (xs.take k).length = k := by rw [List.length_take, HL.out]; omega
        clear hat
        by_cases h0 : k = 0
        · have e0 : ((k : Int) == 0) = true := by simp [h0]
          have HRI := Lib.hid (show ris xs k = true by unfold ris; rw [decide_eq_true h0]; rfl)
          clear h0 hx
          go_wp2_with fail
          go_quiet (fail)
          have B2 := Lib.hid (bdrewN B1.out nq)
          have R2 := Lib.hid (R1.out.drewN nq)
          have t0 : (W.drewN nq).cell? ⟨wr.heap.size, 0, none⟩ = some (.int .u32 x.a) := s0
          have t1 : (W.drewN nq).cell? ⟨wr.heap.size, 1, none⟩ = some (.int .i64 x.b) := s1
          have t2 : (W.drewN nq).cell? ⟨wr.heap.size, 2, none⟩ = some (.int .i64 x.d) := s2
          have t3 : (W.drewN nq).cell? ⟨wr.heap.size, 3, none⟩ = some (.int .i64 x.n) := s3
          generalize W.drewN nq = W2 at *
          clear r0 r1 r2 r3
          have r0 := cell_regrown t0
          have r1 := cell_regrown t1
          have r2 := cell_regrown t2
          have r3 := cell_regrown t3
          clear t0 t1 t2 t3 s0 s1 s2 s3
          go_wp2_with fail
          cases hrs : rsB x
          · have HKF := Lib.hid (show rk xs k = false by rw [HKK.out, HRI.out, hrs]; rfl)
            have RSW := fun W' => (rightSweep_any x W' u0 u1)
            rw [hrs] at RSW
            have HRS := Lib.hid fun d os => Calls.regrown_of (d := d) (os := os) (RSW (Sort.grow (redrawn W2 d) os))
            refine wp_region_quiet_below (by kernel_rfl) (by kernel_rfl) ?_
            repeat (go_big_quiet_step (first | (go_at_call 87; exact HRS.out _ _) | (go_at_call 77; exact HAO.out _ _)))
            refine wpQuiet_nil ?_
            intro _ hw'
            obtain ⟨⟨dq, osq⟩, hw''⟩ := hw'
            subst hw''
            have B3 := Lib.hid (show Below w.heap.size w (Sort.grow (redrawn W2 dq) osq) from B2.out.trans ((below_regrown _ dq osq).mono B2.out.size))
            go_wp2_with fail
            go_ret
            exact ⟨by rw [HNO.out k hkL HKF.out]; rfl, B3.out⟩
          · have RSW := fun W' => (rightSweep_any x W' u0 u1)
            rw [hrs] at RSW
            have AOW := fun W' (hR : Rw eW W' (some y) xs) => anyOverlap_any x.a x.b (some y) (xs.take k) cap W' (hR.take k) (fun z hz => HU.out z (List.mem_of_mem_take hz)) u0 u1
            rw [e1] at AOW
            have RSL := HSL.out L cap k (by omega)
            cases han : anyB (xs.take k) x.a x.b
            · have HKT := Lib.hid (show rk xs k = true by rw [HKK.out, HRI.out, hrs, han]; rfl)
              rw [han] at AOW
              have HRS := Lib.hid fun d os => Calls.regrown_of (d := d) (os := os) (RSW (Sort.grow (redrawn W2 d) os))
              have HAO := Lib.hid fun d os => Calls.regrown_of (d := d) (os := os) (AOW (Sort.grow (redrawn W2 d) os) (R2.out.below (below_regrown W2 d os)))
              refine wp_region_quiet_below (by kernel_rfl) (by kernel_rfl) ?_
              repeat (go_big_quiet_step (first | (go_at_call 87; exact HRS.out _ _) | (go_at_call 77; exact HAO.out _ _)))
              refine wpQuiet_nil ?_
              intro _ hw'
              obtain ⟨⟨dq, osq⟩, hw''⟩ := hw'
              subst hw''
              have B3 := Lib.hid (show Below w.heap.size w (Sort.grow (redrawn W2 dq) osq) from B2.out.trans ((below_regrown _ dq osq).mono B2.out.size))
              go_wp2_with fail
              go_roundw
              case rel => exact ⟨k + 1, by go_num, by omega, B3, Lib.hid (by rw [rk_all, HF.out, HKT.out]; rfl)⟩
              case measure => simp [intOf]; omega
            · have HKF := Lib.hid (show rk xs k = false by rw [HKK.out, HRI.out, hrs, han]; rfl)
              rw [han] at AOW
              have HRS := Lib.hid fun d os => Calls.regrown_of (d := d) (os := os) (RSW (Sort.grow (redrawn W2 d) os))
              have HAO := Lib.hid fun d os => Calls.regrown_of (d := d) (os := os) (AOW (Sort.grow (redrawn W2 d) os) (R2.out.below (below_regrown W2 d os)))
              refine wp_region_quiet_below (by kernel_rfl) (by kernel_rfl) ?_
              repeat (go_big_quiet_step (first | (go_at_call 87; exact HRS.out _ _) | (go_at_call 77; exact HAO.out _ _)))
              refine wpQuiet_nil ?_
              intro _ hw'
              obtain ⟨⟨dq, osq⟩, hw''⟩ := hw'
              subst hw''
              have B3 := Lib.hid (show Below w.heap.size w (Sort.grow (redrawn W2 dq) osq) from B2.out.trans ((below_regrown _ dq osq).mono B2.out.size))
              go_wp2_with fail
              go_ret
              exact ⟨by rw [HNO.out k hkL HKF.out]; rfl, B3.out⟩
        · obtain ⟨j, hj⟩ : ∃ j, j + 1 = k := ⟨k - 1, by omega⟩
          have e0 : ((k : Int) == 0) = false := by simp; exact h0
          obtain ⟨p, hp⟩ : ∃ p, xs[j]? = some p := ⟨_, List.getElem?_eq_getElem (by rw [HL.out]; omega)⟩
          obtain ⟨c0, -, -, -⟩ := rw_c0 R1.out hp
          have hw1 : IntKind.i64.wrap ((k : Int) - 1) = (j : Int) := by rw [IntKind.wrap_i64]; omega
          have hjL : j < L := by omega
          have HRI0 := Lib.hid (show ris xs k = decide (p.a < x.a) by unfold ris; rw [decide_eq_false h0, show k - 1 = j by omega, hp, hx]; rfl)
          clear h0 hx hp hj
          by_cases hlt : p.a < x.a
          · have HRI := Lib.hid (show ris xs k = true by rw [HRI0.out, decide_eq_true hlt])
            go_wp2_with fail
            go_quiet (fail)
            have B2 := Lib.hid (bdrewN B1.out nq)
            have R2 := Lib.hid (R1.out.drewN nq)
            have t0 : (W.drewN nq).cell? ⟨wr.heap.size, 0, none⟩ = some (.int .u32 x.a) := s0
            have t1 : (W.drewN nq).cell? ⟨wr.heap.size, 1, none⟩ = some (.int .i64 x.b) := s1
            have t2 : (W.drewN nq).cell? ⟨wr.heap.size, 2, none⟩ = some (.int .i64 x.d) := s2
            have t3 : (W.drewN nq).cell? ⟨wr.heap.size, 3, none⟩ = some (.int .i64 x.n) := s3
            generalize W.drewN nq = W2 at *
            clear r0 r1 r2 r3
            have r0 := cell_regrown t0
            have r1 := cell_regrown t1
            have r2 := cell_regrown t2
            have r3 := cell_regrown t3
            clear t0 t1 t2 t3 s0 s1 s2 s3
            go_wp2_with fail
            cases hrs : rsB x
            · have HKF := Lib.hid (show rk xs k = false by rw [HKK.out, HRI.out, hrs]; rfl)
              have RSW := fun W' => (rightSweep_any x W' u0 u1)
              rw [hrs] at RSW
              have HRS := Lib.hid fun d os => Calls.regrown_of (d := d) (os := os) (RSW (Sort.grow (redrawn W2 d) os))
              refine wp_region_quiet_below (by kernel_rfl) (by kernel_rfl) ?_
              repeat (go_big_quiet_step (first | (go_at_call 87; exact HRS.out _ _) | (go_at_call 77; exact HAO.out _ _)))
              refine wpQuiet_nil ?_
              intro _ hw'
              obtain ⟨⟨dq, osq⟩, hw''⟩ := hw'
              subst hw''
              have B3 := Lib.hid (show Below w.heap.size w (Sort.grow (redrawn W2 dq) osq) from B2.out.trans ((below_regrown _ dq osq).mono B2.out.size))
              go_wp2_with fail
              go_ret
              exact ⟨by rw [HNO.out k hkL HKF.out]; rfl, B3.out⟩
            · have RSW := fun W' => (rightSweep_any x W' u0 u1)
              rw [hrs] at RSW
              have AOW := fun W' (hR : Rw eW W' (some y) xs) => anyOverlap_any x.a x.b (some y) (xs.take k) cap W' (hR.take k) (fun z hz => HU.out z (List.mem_of_mem_take hz)) u0 u1
              rw [e1] at AOW
              have RSL := HSL.out L cap k (by omega)
              cases han : anyB (xs.take k) x.a x.b
              · have HKT := Lib.hid (show rk xs k = true by rw [HKK.out, HRI.out, hrs, han]; rfl)
                rw [han] at AOW
                have HRS := Lib.hid fun d os => Calls.regrown_of (d := d) (os := os) (RSW (Sort.grow (redrawn W2 d) os))
                have HAO := Lib.hid fun d os => Calls.regrown_of (d := d) (os := os) (AOW (Sort.grow (redrawn W2 d) os) (R2.out.below (below_regrown W2 d os)))
                refine wp_region_quiet_below (by kernel_rfl) (by kernel_rfl) ?_
                repeat (go_big_quiet_step (first | (go_at_call 87; exact HRS.out _ _) | (go_at_call 77; exact HAO.out _ _)))
                refine wpQuiet_nil ?_
                intro _ hw'
                obtain ⟨⟨dq, osq⟩, hw''⟩ := hw'
                subst hw''
                have B3 := Lib.hid (show Below w.heap.size w (Sort.grow (redrawn W2 dq) osq) from B2.out.trans ((below_regrown _ dq osq).mono B2.out.size))
                go_wp2_with fail
                go_roundw
                case rel => exact ⟨k + 1, by go_num, by omega, B3, Lib.hid (by rw [rk_all, HF.out, HKT.out]; rfl)⟩
                case measure => simp [intOf]; omega
              · have HKF := Lib.hid (show rk xs k = false by rw [HKK.out, HRI.out, hrs, han]; rfl)
                rw [han] at AOW
                have HRS := Lib.hid fun d os => Calls.regrown_of (d := d) (os := os) (RSW (Sort.grow (redrawn W2 d) os))
                have HAO := Lib.hid fun d os => Calls.regrown_of (d := d) (os := os) (AOW (Sort.grow (redrawn W2 d) os) (R2.out.below (below_regrown W2 d os)))
                refine wp_region_quiet_below (by kernel_rfl) (by kernel_rfl) ?_
                repeat (go_big_quiet_step (first | (go_at_call 87; exact HRS.out _ _) | (go_at_call 77; exact HAO.out _ _)))
                refine wpQuiet_nil ?_
                intro _ hw'
                obtain ⟨⟨dq, osq⟩, hw''⟩ := hw'
                subst hw''
                have B3 := Lib.hid (show Below w.heap.size w (Sort.grow (redrawn W2 dq) osq) from B2.out.trans ((below_regrown _ dq osq).mono B2.out.size))
                go_wp2_with fail
                go_ret
                exact ⟨by rw [HNO.out k hkL HKF.out]; rfl, B3.out⟩
          · have HRI := Lib.hid (show ris xs k = false by rw [HRI0.out, decide_eq_false hlt])
            have hlt' : decide (p.a < x.a) = false := decide_eq_false hlt
            clear hlt
            go_wp2_with fail
            go_quiet (fail)
            have B2 := Lib.hid (bdrewN B1.out nq)
            have R2 := Lib.hid (R1.out.drewN nq)
            have t0 : (W.drewN nq).cell? ⟨wr.heap.size, 0, none⟩ = some (.int .u32 x.a) := s0
            have t1 : (W.drewN nq).cell? ⟨wr.heap.size, 1, none⟩ = some (.int .i64 x.b) := s1
            have t2 : (W.drewN nq).cell? ⟨wr.heap.size, 2, none⟩ = some (.int .i64 x.d) := s2
            have t3 : (W.drewN nq).cell? ⟨wr.heap.size, 3, none⟩ = some (.int .i64 x.n) := s3
            generalize W.drewN nq = W2 at *
            clear r0 r1 r2 r3
            have r0 := cell_regrown t0
            have r1 := cell_regrown t1
            have r2 := cell_regrown t2
            have r3 := cell_regrown t3
            clear t0 t1 t2 t3 s0 s1 s2 s3
            go_wp2_with fail
            have HKF := Lib.hid (show rk xs k = false by rw [HKK.out, HRI.out]; rfl)
            refine wp_region_quiet_below (by kernel_rfl) (by kernel_rfl) ?_
            repeat (go_big_quiet_step (first | (go_at_call 87; exact HRS.out _ _) | (go_at_call 77; exact HAO.out _ _)))
            refine wpQuiet_nil ?_
            intro _ hw'
            obtain ⟨⟨dq, osq⟩, hw''⟩ := hw'
            subst hw''
            have B3 := Lib.hid (show Below w.heap.size w (Sort.grow (redrawn W2 dq) osq) from B2.out.trans ((below_regrown _ dq osq).mono B2.out.size))
            go_wp2_with fail
            go_ret
            exact ⟨by rw [HNO.out k hkL HKF.out]; rfl, B3.out⟩
      · obtain rfl : k = L := by omega
        go_wp2_with fail
        go_ret
        exact ⟨by rw [HRG.out, HF.out]; rfl, HW.out⟩
end Go.Proofs.YtilneflfeegnfaaGreat.Sw
namespace Go.Proofs.YtilneflfeegnfaaGreat.Sw
open Go.RowKit
def Wb (w : World) (b : Nat) (x : Sw) : Prop := w.rangeAt b 0 (swl x) ∧ w.there b 0 4
theorem Wb.key {w : World} {b : Nat} {x : Sw} (h : Wb w b x) : ∀ j v, (swl x)[j]? = some v → w.cell? ⟨b, j, none⟩ = some v := fun j v hv => by
  have := h.1 j v hv
  rwa [Nat.zero_add] at this
theorem Wb.lt {w : World} {b : Nat} {x : Sw} (h : Wb w b x) : b < w.heap.size := World.block_lt_of_cell? _ _ (h.key 0 _ rfl)
theorem swl_one (x : Sw) : (swl x).toArray.all (·.oneCell') = true := by simp [swl, Value.oneCell']
theorem four {k : Nat} (h : k < 4) : k = 0 ∨ k = 1 ∨ k = 2 ∨ k = 3 := by omega
theorem wb_box (w : World) (x : Sw) : Wb (w.alloc (Swx x)) w.heap.size x := by
  have h : (w.alloc (Swx x)).heap[w.heap.size]? = some (Swx x) := heap_alloc_new w _
  have e : ∀ j, (w.alloc (Swx x)).cell? ⟨w.heap.size, j, none⟩ = _ := fun j => cell_of_row _ _ _ _ _ _ h
  refine ⟨fun j v hv => ?_, fun j hj => ⟨?_, ?_⟩⟩
  · rw [e, Nat.zero_add, ← hv]
    simp [swl]
  · rw [e, Nat.zero_add]
    rcases four hj with rfl | rfl | rfl | rfl <;> rfl
  · unfold World.frozen?
    rw [h]
    simp [Swx]
theorem Wb.keep {w w' : World} {b B : Nat} {x : Sw} (h : Wb w b x) (hb : Below B w w') (hB : b < B) : Wb w' b x :=
  ⟨fun j v hv => by rw [hb.cell (p := ⟨b, 0 + j, none⟩) hB]; exact h.1 j v hv, fun j hj => ⟨by rw [hb.cell (p := ⟨b, 0 + j, none⟩) hB]; exact (h.2 j hj).1, by rw [hb.frozen (p := ⟨b, 0 + j, none⟩) hB]; exact (h.2 j hj).2⟩⟩
theorem Wb.below {w w' : World} {b : Nat} {x : Sw} (h : Wb w b x) (hb : Below w.heap.size w w') : Wb w' b x := h.keep hb h.lt
theorem Wb.put {w : World} {b : Nat} {x : Sw} (h : Wb w b x) (y : Sw) : Wb (w.setCells b 0 (swl y)) b y :=
  ⟨World.rangeAt_setCells_same w b 0 (swl y) h.2, World.there_setCells h.2 b 0 (swl y)⟩
theorem at_store39 {ops : Array Oper} {rest : List Oper} {o : Oper} {a : Act} {w : World} {Q : Exit → Act → World → Prop} (x y : Operand) (b : Nat) (p q : Sw) (H : Wb w b p) (hgd : o.guard = none) (ho : o.op = .store 101 x y) (hx : a.eval x = .pointer (some ⟨b, 0, none⟩)) (hy : a.eval y = swv q)
    (h : ∀ w', Hid (Wb w' b q) → Hid (∀ B, B ≤ b → Below B w w') → wpList Tryz.prog ops Q rest (a.put o.dst undef) w') : wpList Tryz.prog ops Q (o :: rest) a w :=
  wpList_store_mid hgd 101 x y ho b 0 (swl q).toArray hx hy H.2 size39 (swl_one q) (h _ (H.put q) (fun _ hB => below_put hB _ _ _ (Below.refl _ _)))
def Nb (B : Nat) : Value → World → Prop := fun v W => ∃ b, v = .pointer (some ⟨b, 0, none⟩) ∧ B ≤ b ∧ b < W.heap.size ∧ Wb W b zw
theorem stable_nb (B : Nat) : Stable (Nb B) := by
  rintro v w w' ⟨b, rfl, h1, h2, h3⟩ hb
  exact ⟨b, rfl, h1, by have := hb.size; omega, h3.keep hb h2⟩
def pF (ps : List (Pt Sw)) : Value → World → Prop := fun v W => ∃ b, v = .slice (some ⟨b, 0, none⟩) ps.length ps.length ∧ Pm eW W b ps
theorem Pm.below {w w' : World} {b : Nat} {ps : List (Pt Sw)} (h : Pm eW w b ps) (hb : Below w.heap.size w w') : Pm eW w' b ps :=
  ⟨Nat.lt_of_lt_of_le h.1 hb.size, fun k p hp => ⟨by rw [hb.cell (p := ⟨b, k, none⟩) h.1]; exact (h.2 k p hp).1, (h.2 k p hp).2.below hb⟩⟩
theorem stable_pF (ps : List (Pt Sw)) : Stable (pF ps) := fun _ _ _ ⟨b, hv, hP⟩ hb => ⟨b, hv, Pm.below hP hb⟩
def oF (B : Nat) (ys : List Sw) : Value → World → Prop := fun v W => W.ownsRow B 101 4 v ys.length (eW.cs ys)
theorem stable_oF (B : Nat) (ys : List Sw) : Stable (oF B ys) := fun _ _ _ h hb => own_keep h hb
def hF (h : Sw) : Value → World → Prop := fun v W => ∃ b, v = .slice (some ⟨b, 0, none⟩) 1 1 ∧ Rw eW W (some ⟨b, 0, none⟩) [h]
theorem stable_hF (h : Sw) : Stable (hF h) := fun _ _ _ ⟨b, hv, hP⟩ hb => ⟨b, hv, hP.below hb⟩
theorem pm_two (W : World) (p q : Pt Sw) (t : TypeId) (hp : Rw eW W p.A p.xs) (hq : Rw eW W q.A q.xs) : Pm eW (W.alloc (.cells #[.slice p.A p.xs.length p.c, .slice q.A q.xs.length q.c] t)) W.heap.size [p, q] := by
  refine ⟨by simp, fun k r hr => ?_⟩
  match k, hr with
  | 0, hr => simp at hr; subst hr; exact ⟨by simp, hp.below ((Below.refl _ _).alloc (Nat.le_refl _) _)⟩
  | 1, hr => simp at hr; subst hr; exact ⟨by simp, hq.below ((Below.refl _ _).alloc (Nat.le_refl _) _)⟩
  | k + 2, hr => simp at hr
theorem pm_three (W : World) (p q s : Pt Sw) (t : TypeId) (hp : Rw eW W p.A p.xs) (hq : Rw eW W q.A q.xs) (hs : Rw eW W s.A s.xs) : Pm eW (W.alloc (.cells #[.slice p.A p.xs.length p.c, .slice q.A q.xs.length q.c, .slice s.A s.xs.length s.c] t)) W.heap.size [p, q, s] := by
  refine ⟨by simp, fun k r hr => ?_⟩
  match k, hr with
  | 0, hr => simp at hr; subst hr; exact ⟨by simp, hp.below ((Below.refl _ _).alloc (Nat.le_refl _) _)⟩
  | 1, hr => simp at hr; subst hr; exact ⟨by simp, hq.below ((Below.refl _ _).alloc (Nat.le_refl _) _)⟩
  | 2, hr => simp at hr; subst hr; exact ⟨by simp, hs.below ((Below.refl _ _).alloc (Nat.le_refl _) _)⟩
  | k + 3, hr => simp at hr
theorem hs_box (W : World) (x : Sw) : Rw eW (W.alloc (Swx x)) (some ⟨W.heap.size, 0, none⟩) [x] := by
  refine ⟨by simp, fun q z hq => ?_⟩
  match q, hq with
  | 0, hq =>
    simp at hq
    subst hq
    refine ⟨_, rfl, fun j v hv => ?_⟩
    rw [Addr.add_mid]
    have hv' : (swl x)[j]? = some v := hv
    have := (wb_box W x).1 j v hv'
    simpa [eW] using this
  | q + 1, hq => simp at hq
def OutPost (w : World) (ys : List Sw) (q : Int) (e : Ending) (w' : World) : Prop :=
  ∃ A cap, e = .returned (.tuple #[.slice A ys.length cap, .int .i64 q]) ∧ ys.length ≤ cap ∧ cap ≤ maxLen ∧ Rw eW w' A ys ∧ Below w.heap.size w w'
theorem out_no (w w' : World) (q : Int) (hb : Below w.heap.size w w') : OutPost w [] q (.returned (.tuple #[.slice none 0 0, .int .i64 q])) w' :=
  ⟨none, 0, rfl, by simp, by unfold maxLen; omega, Rw.nil _ _, hb⟩
theorem out_yes {w w' : World} {B : Nat} {v : Value} {ys : List Sw} (h : w'.ownsRow B 101 4 v ys.length (eW.cs ys)) (hn : ys.length ≤ 1000) (hb : Below w.heap.size w w') : OutPost w ys 0 (.returned (.tuple #[v, .int .i64 0])) w' := by
  obtain ⟨A, cap, rfl, hc, hm, _, hH, _⟩ := own_rw (E := eW) h (by omega)
  exact ⟨A, cap, rfl, hc, hm, hH, hb⟩
def del (xs : List Sw) (a : Int) : List Sw := xs.take (lo xs a) ++ xs.drop (lo xs a + 1)
def takeC (xs : List Sw) (a b : Int) : Int := if isAt xs a b = true then 0 else 7
def takeR (xs : List Sw) (a b : Int) : List Sw := if isAt xs a b = true then del xs a else []
def ins (xs : List Sw) (h : Sw) : List Sw := xs.take (lo xs h.a) ++ [h] ++ xs.drop (lo xs h.a)
def putC (xs : List Sw) (a b : Int) : Int := if okB a b = false then 12 else if 256 < p2 b then 3 else if anyB xs a b = true then 5 else if 16 ≤ xs.length then 4 else 0
def putR (xs : List Sw) (a b now : Int) : List Sw := if putC xs a b = 0 then ins xs ⟨a, b, cl now, 0⟩ else []
theorem isAt_lt {xs : List Sw} {a b : Int} (h : isAt xs a b = true) : lo xs a < xs.length := by
  unfold isAt at h
  split at h
  · rename_i x hx
    exact (List.getElem?_eq_some_iff.1 hx).1
  · cases h
set_option maxRecDepth 100000 in
set_option maxHeartbeats 4000000 in
theorem take_any (a b : Int) (A : Option Addr) (xs : List Sw) (cap : Nat) (w : World) (h : Rw eW w A xs) (hc : xs.length ≤ cap) (hx9 : xs.length ≤ 900) :
    Calls Tryz.prog 34 #[.slice A xs.length cap, .agg #[.int .u32 a, .int .i64 b]] w (OutPost w (takeR xs a b) (takeC xs a b)) := by
  have hle := lo_le a xs
  have hln := h.1
  have b0 : (w.alloc (Bkx a b)).cell? ⟨w.heap.size, 0, none⟩ = some (.int .u32 a) := by simp [Bkx]
  have b1 : (w.alloc (Bkx a b)).cell? ⟨w.heap.size, 1, none⟩ = some (.int .i64 b) := by simp [Bkx]
  have HB0 := Lib.hid (show Below w.heap.size w (w.alloc (Bkx a b)) from (Below.refl _ w).alloc (Nat.le_refl _) _)
  have HP := Lib.hid (place_any a b A xs cap (w.alloc (Bkx a b)) (h.below HB0.out))
  unfold Bkx at *
  cases hB : isAt xs a b
  · have HT := Lib.hid (show takeR xs a b = [] ∧ takeC xs a b = 7 by simp [takeR, takeC, hB])
    rw [hB] at HP
    rw [HT.out.1, HT.out.2]
    clear hB h HT
    generalize xs.length = L at *
    generalize lo xs a = P at *
    go_enter Tryz.func34, Tryz.ntmps34
    go_wp2_with fail
    generalize w.alloc (.cells #[.int .u32 a, .int .i64 b] 46) = W at *
    refine HP.out.mono ?_
    rintro e w1 ⟨rfl, hb⟩
    have B1 := Lib.hid (HB0.out.trans (hb.mono HB0.out.size))
    clear hb
    go_wp2_with fail
    go_ret2
    exact out_no w w1 7 B1.out
  · have hlt := isAt_lt hB
    have HT := Lib.hid (show takeR xs a b = del xs a ∧ takeC xs a b = 0 by simp [takeR, takeC, hB])
    rw [hB] at HP
    rw [HT.out.1, HT.out.2]
    obtain ⟨y, rfl⟩ := rw_some h (by omega)
    obtain ⟨ys, hys⟩ : ∃ ys, del xs a = ys := ⟨_, rfl⟩
    obtain ⟨ps, hps⟩ : ∃ ps : List (Pt Sw), ps = [⟨some y, xs.take (lo xs a), cap⟩, ⟨dA 4 (some y) cap (lo xs a + 1), xs.drop (lo xs a + 1), cap - (lo xs a + 1)⟩] := ⟨_, rfl⟩
    have e1 : (xs.take (lo xs a)).length = lo xs a := by rw [List.length_take]; omega
    have e2 : (xs.drop (lo xs a + 1)).length = xs.length - (lo xs a + 1) := by rw [List.length_drop]
    have hcat : cat ps ps.length = ys := by rw [← hys, hps]; simp [cat, del]
    have hyl : ys.length ≤ 1000 := by rw [← hys]; unfold del; rw [List.length_append, e1, e2]; omega
    have HPM := Lib.hid (show ∀ W, Below w.heap.size w W → pF ps (.slice (some ⟨W.heap.size, 0, none⟩) 2 2) (W.alloc (.cells #[.slice (some y) (lo xs a) cap, .slice (dA 4 (some y) cap (lo xs a + 1)) (xs.length - (lo xs a + 1)) (cap - (lo xs a + 1))] 30)) from fun W hW => by
      subst hps
      have hH := h.below hW
      have := pm_two W ⟨some y, xs.take (lo xs a), cap⟩ ⟨dA 4 (some y) cap (lo xs a + 1), xs.drop (lo xs a + 1), cap - (lo xs a + 1)⟩ 30 (hH.take _) (hH.rest hc _)
      dsimp only at this
      rw [e1, e2] at this
      exact ⟨_, rfl, this⟩)
    have HCC := Lib.hid (show ∀ W, Below w.heap.size w W → ∀ b, Pm eW W b ps → Calls Tryz.prog 80 #[.slice (some ⟨b, 0, none⟩) 2 2] W fun e w' => ∃ v, e = .returned v ∧ Below W.heap.size W w' ∧ oF w.heap.size ys v w' from fun W hW b hb => by
      have := concat_any ps b 2 W hb (by rw [hcat]; omega) (by rw [hps]; simp)
      rw [hcat, show ps.length = 2 by rw [hps]; rfl] at this
      refine this.mono ?_
      rintro e w' ⟨v, he, ho, hbb⟩
      exact ⟨v, he, hbb, own_base ho hW.size⟩)
    have HSH := Lib.hid (fun W => run_sl29 (some y) xs.length cap (lo xs a) (by omega) W)
    have HSL := Lib.hid (fun W => run_sl29l (some y) xs.length cap (lo xs a + 1) (by omega) hc W)
    have HPL := Lib.hid (show ps.length = 2 by rw [hps]; rfl)
    have HYL := Lib.hid hyl
    rw [hys]
    have HW := Lib.hid (show IntKind.i64.wrap ((lo xs a : Int) + 1) = (lo xs a : Int) + 1 by rw [IntKind.wrap_i64]; omega)
    clear hps hcat hys hyl e1 e2 h HT hB
    generalize xs.length = L at *
    generalize lo xs a = P at *
    go_enter Tryz.func34, Tryz.ntmps34
    go_wp2_with fail
    generalize w.alloc (.cells #[.int .u32 a, .int .i64 b] 46) = W0 at *
    refine HP.out.mono ?_
    rintro e w1 ⟨rfl, hb⟩
    have HB1 := Lib.hid (HB0.out.trans (hb.mono HB0.out.size))
    clear hb
    go_wp2_with fail
    refine wp_region_below [fx (.slice (some y) L cap), fx (.int .i64 (P : Int)), fx (.slice (some y) P cap), fx (.slice (some y) L cap), fx (.int .i64 (P : Int)), fx (.int .i64 ((P + 1 : Nat) : Int)), fx (.slice (dA 4 (some y) cap (P + 1)) (L - (P + 1)) (cap - (P + 1))), pF ps, oF w.heap.size ys, oF w.heap.size ys, fx (.int .i64 0)]
      (by kernel_rfl) (by kernel_rfl) (by kernel_rfl) ?_ ?_ ?_
    · simp only [List.mem_cons, List.not_mem_nil, or_false]
      rintro φ (rfl | rfl | rfl | rfl | rfl | rfl | rfl | rfl | rfl | rfl | rfl)
      all_goals first | exact stable_fx _ | exact stable_fr _ _ | exact stable_pF _ | exact stable_oF _ _
    · refine OgSteps.cons ?_ (OgSteps.cons ?_ (OgSteps.cons ?_ (OgSteps.cons ?_ (OgSteps.cons ?_ (OgSteps.cons ?_ (OgSteps.cons ?_ (OgSteps.cons ?_ (OgSteps.cons ?_ (OgSteps.cons ?_ (OgSteps.cons ?_ (OgSteps.nil)))))))))))
      · refine OgStep.pure ?_ ?_
        · rfl
        intro u W hS hp
        refine ⟨.slice (some y) L cap, ?_, rfl⟩
        simp only [ogMk, Act.put, List.setIfInBounds_toArray, List.set_cons_zero, List.set_cons_succ, Nat.zero_add, Nat.reduceAdd, List.take_succ_cons, List.take_zero, List.drop_succ_cons, List.drop_zero]
        simp [execOp, Act.eval, go_sem]
      · refine OgStep.pure ?_ ?_
        · rfl
        intro u W hS hp
        refine ⟨.int .i64 (P : Int), ?_, rfl⟩
        simp only [ogMk, Act.put, List.setIfInBounds_toArray, List.set_cons_zero, List.set_cons_succ, Nat.zero_add, Nat.reduceAdd, List.take_succ_cons, List.take_zero, List.drop_succ_cons, List.drop_zero]
        simp [execOp, Act.eval, go_sem]
      · refine OgStep.pure ?_ ?_
        · rfl
        intro u W hS hp
        have h0 : u 0 = .slice (some y) L cap := hp ⟨0, .data⟩ (by simp) rfl
        have h1 : u 1 = .int .i64 (P : Int) := hp ⟨1, .data⟩ (by simp) rfl
        have R := HSH.out W
        refine ⟨.slice (some y) P cap, ?_, rfl⟩
        simp only [ogMk, Act.put, List.setIfInBounds_toArray, List.set_cons_zero, List.set_cons_succ, Nat.zero_add, Nat.reduceAdd, List.take_succ_cons, List.take_zero, List.drop_succ_cons, List.drop_zero]
        simp [execOp, Act.eval, go_sem, h0, h1, R]
      · refine OgStep.pure ?_ ?_
        · rfl
        intro u W hS hp
        refine ⟨.slice (some y) L cap, ?_, rfl⟩
        simp only [ogMk, Act.put, List.setIfInBounds_toArray, List.set_cons_zero, List.set_cons_succ, Nat.zero_add, Nat.reduceAdd, List.take_succ_cons, List.take_zero, List.drop_succ_cons, List.drop_zero]
        simp [execOp, Act.eval, go_sem]
      · refine OgStep.pure ?_ ?_
        · rfl
        intro u W hS hp
        refine ⟨.int .i64 (P : Int), ?_, rfl⟩
        simp only [ogMk, Act.put, List.setIfInBounds_toArray, List.set_cons_zero, List.set_cons_succ, Nat.zero_add, Nat.reduceAdd, List.take_succ_cons, List.take_zero, List.drop_succ_cons, List.drop_zero]
        simp [execOp, Act.eval, go_sem]
      · refine OgStep.pure ?_ ?_
        · rfl
        intro u W hS hp
        have h4 : u 4 = .int .i64 (P : Int) := hp ⟨4, .data⟩ (by simp) rfl
        have R := HW.out
        refine ⟨.int .i64 ((P + 1 : Nat) : Int), ?_, rfl⟩
        simp only [ogMk, Act.put, List.setIfInBounds_toArray, List.set_cons_zero, List.set_cons_succ, Nat.zero_add, Nat.reduceAdd, List.take_succ_cons, List.take_zero, List.drop_succ_cons, List.drop_zero]
        simp [execOp, Act.eval, go_sem, h4, R]
      · refine OgStep.pure ?_ ?_
        · rfl
        intro u W hS hp
        have h3 : u 3 = .slice (some y) L cap := hp ⟨3, .data⟩ (by simp) rfl
        have h5 : u 5 = .int .i64 ((P + 1 : Nat) : Int) := hp ⟨5, .data⟩ (by simp) rfl
        have R := HSL.out W
        rw [show ((P + 1 : Nat) : Int) = (P : Int) + 1 by omega] at R
        refine ⟨.slice (dA 4 (some y) cap (P + 1)) (L - (P + 1)) (cap - (P + 1)), ?_, rfl⟩
        simp only [ogMk, Act.put, List.setIfInBounds_toArray, List.set_cons_zero, List.set_cons_succ, Nat.zero_add, Nat.reduceAdd, List.take_succ_cons, List.take_zero, List.drop_succ_cons, List.drop_zero]
        simp [execOp, Act.eval, go_sem, h3, h5, R]
      · refine OgStep.made ?_ ?_
        · rfl
        intro u W hS hp
        have h2 : u 2 = .slice (some y) P cap := hp ⟨2, .data⟩ (by simp) rfl
        have h6 : u 6 = .slice (dA 4 (some y) cap (P + 1)) (L - (P + 1)) (cap - (P + 1)) := hp ⟨6, .data⟩ (by simp) rfl
        refine ⟨.slice (some ⟨W.heap.size, 0, none⟩) 2 2, _, ?_, (Below.refl _ W).alloc (Nat.le_refl _) _, HPM.out W (HB1.out.trans (hS.mono HB1.out.size))⟩
        simp only [ogMk, Act.put, List.setIfInBounds_toArray, List.set_cons_zero, List.set_cons_succ, Nat.zero_add, Nat.reduceAdd, List.take_succ_cons, List.take_zero, List.drop_succ_cons, List.drop_zero]
        simp [execOp, Act.eval, go_sem, h2, h6]
      · refine OgStep.calls ?_ ?_
        · rfl
        intro u W hS hp
        obtain ⟨b, h7, hPm⟩ : pF ps (u 7) W := hp ⟨7, .data⟩ (by simp) rfl
        refine ⟨80, #[.slice (some ⟨b, 0, none⟩) 2 2], ?_, HCC.out W (HB1.out.trans (hS.mono HB1.out.size)) b hPm⟩
        simp only [ogMk, Act.put, List.setIfInBounds_toArray, List.set_cons_zero, List.set_cons_succ, Nat.zero_add, Nat.reduceAdd, List.take_succ_cons, List.take_zero, List.drop_succ_cons, List.drop_zero]
        rw [h7, HPL.out]
        simp [execOp, Act.eval, go_sem]
      · refine OgStep.pure ?_ ?_
        · rfl
        intro u W hS hp
        have h8 : oF w.heap.size ys (u 8) W := hp ⟨8, .data⟩ (by simp) rfl
        refine ⟨u 8, ?_, h8⟩
        simp only [ogMk, Act.put, List.setIfInBounds_toArray, List.set_cons_zero, List.set_cons_succ, Nat.zero_add, Nat.reduceAdd, List.take_succ_cons, List.take_zero, List.drop_succ_cons, List.drop_zero]
        simp [execOp, Act.eval, go_sem]
      · refine OgStep.pure ?_ ?_
        · rfl
        intro u W hS hp
        refine ⟨.int .i64 0, ?_, rfl⟩
        simp only [ogMk, Act.put, List.setIfInBounds_toArray, List.set_cons_zero, List.set_cons_succ, Nat.zero_add, Nat.reduceAdd, List.take_succ_cons, List.take_zero, List.drop_succ_cons, List.drop_zero]
        simp [execOp, Act.eval, go_sem]
    · intro u W hS hF'
      have hF9 : oF w.heap.size ys (u 9) W := hF' 9 (by decide)
      have hF := hF'
      have e0 : u 0 = .slice (some y) L cap := hF 0 (by decide)
      have e1 : u 1 = .int .i64 (P : Int) := hF 1 (by decide)
      have e2 : u 2 = .slice (some y) P cap := hF 2 (by decide)
      have e3 : u 3 = .slice (some y) L cap := hF 3 (by decide)
      have e4 : u 4 = .int .i64 (P : Int) := hF 4 (by decide)
      have e5 : u 5 = .int .i64 ((P + 1 : Nat) : Int) := hF 5 (by decide)
      have e6 : u 6 = .slice (dA 4 (some y) cap (P + 1)) (L - (P + 1)) (cap - (P + 1)) := hF 6 (by decide)
      have e10 : u 10 = .int .i64 0 := hF 10 (by decide)
      simp only [ogMk, Act.put, List.setIfInBounds_toArray, List.set_cons_zero, List.set_cons_succ, Nat.zero_add, Nat.reduceAdd, List.take_succ_cons, List.take_zero, List.drop_succ_cons, List.drop_zero]
      rw [e0, e1, e2, e3, e4, e5, e6, e10]
      clear hF' e0 e1 e2 e3 e4 e5 e6 e10 hF
      go_wp2_with fail
      go_ret2
      exact out_yes (hF9 : W.ownsRow w.heap.size 101 4 (u 9) ys.length (eW.cs ys)) HYL.out (HB1.out.trans (hS.mono HB1.out.size))
def pG (ps : Nat → List (Pt Sw)) : Value → World → Prop := fun v W => ∃ g, pF (ps g) v W
theorem stable_pG (ps : Nat → List (Pt Sw)) : Stable (pG ps) := fun _ _ _ ⟨g, h⟩ hb => ⟨g, stable_pF _ _ _ _ h hb⟩
set_option maxRecDepth 100000 in
set_option maxHeartbeats 8000000 in
theorem put_any (a b now : Int) (A : Option Addr) (xs : List Sw) (cap : Nat) (w : World) (h : Rw eW w A xs) (hu : Au xs) (hc : xs.length ≤ cap) (hx9 : xs.length ≤ 900) (ha0 : 0 ≤ a) (ha1 : a < 4294967296) :
    Calls Tryz.prog 33 #[.slice A xs.length cap, .agg #[.int .u32 a, .int .i64 b], .int .i64 now] w (OutPost w (putR xs a b now) (putC xs a b)) := by
  have hle := lo_le a xs
  have hln := h.1
  have b0 : (w.alloc (Bkx a b)).cell? ⟨w.heap.size, 0, none⟩ = some (.int .u32 a) := by simp [Bkx]
  have b1 : (w.alloc (Bkx a b)).cell? ⟨w.heap.size, 1, none⟩ = some (.int .i64 b) := by simp [Bkx]
  have hs : w.heap.size < (w.alloc (Bkx a b)).heap.size := by simp
  have HB0 := Lib.hid (show Below w.heap.size w (w.alloc (Bkx a b)) from (Below.refl _ w).alloc (Nat.le_refl _) _)
  have R0 := Lib.hid (h.below HB0.out)
  have HSZ := Lib.hid fun W => size_any a b W ha0 ha1
  have HPL := Lib.hid fun W (hR : Rw eW W A xs) => place_any a b A xs cap W hR
  have HCL := Lib.hid fun m W => clamp_any m W
  unfold Bkx at *
  cases hok : okB a b
  · have HT := Lib.hid (show putR xs a b now = [] ∧ putC xs a b = 12 by
      have e : putC xs a b = 12 := by unfold putC; rw [if_pos hok]
      exact ⟨by unfold putR; rw [e]; rfl, e⟩)
    have HRT := Lib.hid fun W => right_no a b W ha0 ha1 hok
    rw [HT.out.1, HT.out.2]
    clear h HT hok HPL
    generalize xs.length = L at *
    generalize lo xs a = P at *
    go_enter Tryz.func33, Tryz.ntmps33
    go_wp2_with fail
    generalize w.alloc (.cells #[.int .u32 a, .int .i64 b] 46) = W0 at *
    refine (HRT.out _).mono ?_
    rintro e W1 ⟨rfl, hb⟩
    have HB1 := Lib.hid (HB0.out.trans (hb.mono HB0.out.size))
    have R1 := Lib.hid (R0.out.below hb)
    have c0 : W1.cell? ⟨w.heap.size, 0, none⟩ = some (.int .u32 a) := by rw [hb.cell (p := ⟨w.heap.size, 0, none⟩) hs]; exact b0
    have c1 : W1.cell? ⟨w.heap.size, 1, none⟩ = some (.int .i64 b) := by rw [hb.cell (p := ⟨w.heap.size, 1, none⟩) hs]; exact b1
    have hs' : w.heap.size < W1.heap.size := Nat.lt_of_lt_of_le hs hb.size
    clear hb b0 b1 hs
    have b0 := c0
    have b1 := c1
    have hs := hs'
    clear c0 c1 hs'
    go_wp2_with fail
    go_ret2
    exact out_no w W1 12 HB1.out
  · have HRT := Lib.hid fun W => right_yes a b W ha0 ha1 hok
    have hse : sizeOf a b = p2 b := by simp [sizeOf, hok]
    by_cases h256 : 256 < p2 b
    · have HT := Lib.hid (show putR xs a b now = [] ∧ putC xs a b = 3 by
        have e : putC xs a b = 3 := by unfold putC; rw [if_neg (by rw [hok]; simp), if_pos h256]
        exact ⟨by unfold putR; rw [e]; rfl, e⟩)
      rw [HT.out.1, HT.out.2]
      rw [hse] at HSZ
      clear h HT hok HPL hse
      generalize xs.length = L at *
      generalize lo xs a = P at *
      generalize p2 b = Z at *
      go_enter Tryz.func33, Tryz.ntmps33
      go_wp2_with fail
      generalize w.alloc (.cells #[.int .u32 a, .int .i64 b] 46) = W0 at *
      refine (HRT.out _).mono ?_
      rintro e W1 ⟨rfl, hb⟩
      have HB1 := Lib.hid (HB0.out.trans (hb.mono HB0.out.size))
      have R1 := Lib.hid (R0.out.below hb)
      have c0 : W1.cell? ⟨w.heap.size, 0, none⟩ = some (.int .u32 a) := by rw [hb.cell (p := ⟨w.heap.size, 0, none⟩) hs]; exact b0
      have c1 : W1.cell? ⟨w.heap.size, 1, none⟩ = some (.int .i64 b) := by rw [hb.cell (p := ⟨w.heap.size, 1, none⟩) hs]; exact b1
      have hs' : w.heap.size < W1.heap.size := Nat.lt_of_lt_of_le hs hb.size
      clear hb b0 b1 hs
      have b0 := c0
      have b1 := c1
      have hs := hs'
      clear c0 c1 hs'
      go_wp2_with fail
      refine (HSZ.out _).mono ?_
      rintro e W2 ⟨rfl, hb⟩
      have HB2 := Lib.hid (HB1.out.trans (hb.mono HB1.out.size))
      have R2 := Lib.hid (R1.out.below hb)
      have c0 : W2.cell? ⟨w.heap.size, 0, none⟩ = some (.int .u32 a) := by rw [hb.cell (p := ⟨w.heap.size, 0, none⟩) hs]; exact b0
      have c1 : W2.cell? ⟨w.heap.size, 1, none⟩ = some (.int .i64 b) := by rw [hb.cell (p := ⟨w.heap.size, 1, none⟩) hs]; exact b1
      have hs' : w.heap.size < W2.heap.size := Nat.lt_of_lt_of_le hs hb.size
      clear hb b0 b1 hs
      have b0 := c0
      have b1 := c1
      have hs := hs'
      clear c0 c1 hs'
      go_wp2_with fail
      go_ret2
      exact out_no w W2 3 HB2.out
    · rw [hse] at HSZ
      have h256' : decide (256 < p2 b) = false := decide_eq_false h256
      have HAO := Lib.hid fun W (hR : Rw eW W A xs) => anyOverlap_any a b A xs cap W hR hu ha0 ha1
      cases hov : anyB xs a b
      · by_cases h16 : 16 ≤ xs.length
        · have HT := Lib.hid (show putR xs a b now = [] ∧ putC xs a b = 4 by
            have e : putC xs a b = 4 := by unfold putC; rw [if_neg (by rw [hok]; simp), if_neg h256, if_neg (by rw [hov]; simp), if_pos h16]
            exact ⟨by unfold putR; rw [e]; rfl, e⟩)
          rw [HT.out.1, HT.out.2]
          rw [hov] at HAO
          clear h HT hok HPL hse h256 hov
          generalize xs.length = L at *
          generalize lo xs a = P at *
          generalize p2 b = Z at *
          have h16' : (16 : Int) ≤ L := by omega
          go_enter Tryz.func33, Tryz.ntmps33
          go_wp2_with fail
          generalize w.alloc (.cells #[.int .u32 a, .int .i64 b] 46) = W0 at *
          refine (HRT.out _).mono ?_
          rintro e W1 ⟨rfl, hb⟩
          have HB1 := Lib.hid (HB0.out.trans (hb.mono HB0.out.size))
          have R1 := Lib.hid (R0.out.below hb)
          have c0 : W1.cell? ⟨w.heap.size, 0, none⟩ = some (.int .u32 a) := by rw [hb.cell (p := ⟨w.heap.size, 0, none⟩) hs]; exact b0
          have c1 : W1.cell? ⟨w.heap.size, 1, none⟩ = some (.int .i64 b) := by rw [hb.cell (p := ⟨w.heap.size, 1, none⟩) hs]; exact b1
          have hs' : w.heap.size < W1.heap.size := Nat.lt_of_lt_of_le hs hb.size
          clear hb b0 b1 hs
          have b0 := c0
          have b1 := c1
          have hs := hs'
          clear c0 c1 hs'
          go_wp2_with fail
          refine (HSZ.out _).mono ?_
          rintro e W2 ⟨rfl, hb⟩
          have HB2 := Lib.hid (HB1.out.trans (hb.mono HB1.out.size))
          have R2 := Lib.hid (R1.out.below hb)
          have c0 : W2.cell? ⟨w.heap.size, 0, none⟩ = some (.int .u32 a) := by rw [hb.cell (p := ⟨w.heap.size, 0, none⟩) hs]; exact b0
          have c1 : W2.cell? ⟨w.heap.size, 1, none⟩ = some (.int .i64 b) := by rw [hb.cell (p := ⟨w.heap.size, 1, none⟩) hs]; exact b1
          have hs' : w.heap.size < W2.heap.size := Nat.lt_of_lt_of_le hs hb.size
          clear hb b0 b1 hs
          have b0 := c0
          have b1 := c1
          have hs := hs'
          clear c0 c1 hs'
          go_wp2_with fail
          refine (HAO.out _ R2.out).mono ?_
          rintro e W3 ⟨rfl, hb⟩
          have HB3 := Lib.hid (HB2.out.trans (hb.mono HB2.out.size))
          have R3 := Lib.hid (R2.out.below hb)
          have c0 : W3.cell? ⟨w.heap.size, 0, none⟩ = some (.int .u32 a) := by rw [hb.cell (p := ⟨w.heap.size, 0, none⟩) hs]; exact b0
          have c1 : W3.cell? ⟨w.heap.size, 1, none⟩ = some (.int .i64 b) := by rw [hb.cell (p := ⟨w.heap.size, 1, none⟩) hs]; exact b1
          have hs' : w.heap.size < W3.heap.size := Nat.lt_of_lt_of_le hs hb.size
          clear hb b0 b1 hs
          have b0 := c0
          have b1 := c1
          have hs := hs'
          clear c0 c1 hs'
          go_wp2_with fail
          go_ret2
          exact out_no w W3 4 HB3.out
        · have HT := Lib.hid (show putR xs a b now = ins xs ⟨a, b, cl now, 0⟩ ∧ putC xs a b = 0 by
            have e : putC xs a b = 0 := by unfold putC; rw [if_neg (by rw [hok]; simp), if_neg h256, if_neg (by rw [hov]; simp), if_neg h16]
            exact ⟨by unfold putR; rw [if_pos e], e⟩)
          rw [HT.out.1, HT.out.2]
          rw [hov] at HAO
          obtain ⟨D, hD⟩ : ∃ D, cl now = D := ⟨_, rfl⟩
          have HCN := Lib.hid fun W => clamp_any now W
          rw [hD] at HCN ⊢
          clear hD
          obtain ⟨ys, hys⟩ : ∃ ys, ins xs ⟨a, b, D, 0⟩ = ys := ⟨_, rfl⟩
          obtain ⟨ps, hps⟩ : ∃ ps : Nat → List (Pt Sw), ps = fun g => [⟨A, xs.take (lo xs a), cap⟩, ⟨some ⟨g, 0, none⟩, [⟨a, b, D, 0⟩], 1⟩, ⟨dA 4 A cap (lo xs a), xs.drop (lo xs a), cap - lo xs a⟩] := ⟨_, rfl⟩
          have e1 : (xs.take (lo xs a)).length = lo xs a := by rw [List.length_take]; omega
          have e2 : (xs.drop (lo xs a)).length = xs.length - lo xs a := by rw [List.length_drop]
          have hcat : ∀ g, cat (ps g) (ps g).length = ys := fun g => by rw [← hys, hps]; simp [cat, ins]
          have hyl : ys.length ≤ 1000 := by rw [← hys]; unfold ins; rw [List.length_append, List.length_append, e1, e2, List.length_singleton]; omega
          have HPM := Lib.hid (show ∀ W, Below w.heap.size w W → ∀ g, Rw eW W (some ⟨g, 0, none⟩) [⟨a, b, D, 0⟩] → pG ps (.slice (some ⟨W.heap.size, 0, none⟩) 3 3) (W.alloc (.cells #[.slice A (lo xs a) cap, .slice (some ⟨g, 0, none⟩) 1 1, .slice (dA 4 A cap (lo xs a)) (xs.length - lo xs a) (cap - lo xs a)] 30)) from fun W hW g hg => by
            subst hps
            have hH := h.below hW
            have := pm_three W ⟨A, xs.take (lo xs a), cap⟩ ⟨some ⟨g, 0, none⟩, [⟨a, b, D, 0⟩], 1⟩ ⟨dA 4 A cap (lo xs a), xs.drop (lo xs a), cap - lo xs a⟩ 30 (hH.take _) hg (hH.rest hc _)
            dsimp only at this
            rw [e1, e2] at this
            exact ⟨g, _, rfl, this⟩)
          have HCC := Lib.hid (show ∀ W, Below w.heap.size w W → ∀ g b, Pm eW W b (ps g) → Calls Tryz.prog 80 #[.slice (some ⟨b, 0, none⟩) 3 3] W fun e w' => ∃ v, e = .returned v ∧ Below W.heap.size W w' ∧ oF w.heap.size ys v w' from fun W hW g b hb => by
            have := concat_any (ps g) b 3 W hb (by rw [hcat]; omega) (by rw [hps]; simp)
            rw [hcat, show (ps g).length = 3 by rw [hps]; rfl] at this
            refine this.mono ?_
            rintro e w' ⟨v, he, ho, hbb⟩
            exact ⟨v, he, hbb, own_base ho hW.size⟩)
          have HSH := Lib.hid (fun W => run_sl29 A xs.length cap (lo xs a) (by omega) W)
          have HSL := Lib.hid (fun W => run_sl29l A xs.length cap (lo xs a) hle hc W)
          have HLL := Lib.hid (show ∀ g, (ps g).length = 3 by intro g; rw [hps]; rfl)
          have HYL := Lib.hid hyl
          rw [hys]
          clear hps hcat hys hyl e1 e2 h HT hok hov hse h256
          generalize xs.length = L at *
          generalize lo xs a = P at *
          generalize p2 b = Z at *
          generalize isAt xs a b = TF at *
          have h16' : ¬ (16 : Int) ≤ L := by omega
          go_enter Tryz.func33, Tryz.ntmps33
          go_wp2_with fail
          generalize w.alloc (.cells #[.int .u32 a, .int .i64 b] 46) = W0 at *
          refine (HRT.out _).mono ?_
          rintro e W1 ⟨rfl, hb⟩
          have HB1 := Lib.hid (HB0.out.trans (hb.mono HB0.out.size))
          have R1 := Lib.hid (R0.out.below hb)
          have c0 : W1.cell? ⟨w.heap.size, 0, none⟩ = some (.int .u32 a) := by rw [hb.cell (p := ⟨w.heap.size, 0, none⟩) hs]; exact b0
          have c1 : W1.cell? ⟨w.heap.size, 1, none⟩ = some (.int .i64 b) := by rw [hb.cell (p := ⟨w.heap.size, 1, none⟩) hs]; exact b1
          have hs' : w.heap.size < W1.heap.size := Nat.lt_of_lt_of_le hs hb.size
          clear hb b0 b1 hs
          have b0 := c0
          have b1 := c1
          have hs := hs'
          clear c0 c1 hs'
          go_wp2_with fail
          refine (HSZ.out _).mono ?_
          rintro e W2 ⟨rfl, hb⟩
          have HB2 := Lib.hid (HB1.out.trans (hb.mono HB1.out.size))
          have R2 := Lib.hid (R1.out.below hb)
          have c0 : W2.cell? ⟨w.heap.size, 0, none⟩ = some (.int .u32 a) := by rw [hb.cell (p := ⟨w.heap.size, 0, none⟩) hs]; exact b0
          have c1 : W2.cell? ⟨w.heap.size, 1, none⟩ = some (.int .i64 b) := by rw [hb.cell (p := ⟨w.heap.size, 1, none⟩) hs]; exact b1
          have hs' : w.heap.size < W2.heap.size := Nat.lt_of_lt_of_le hs hb.size
          clear hb b0 b1 hs
          have b0 := c0
          have b1 := c1
          have hs := hs'
          clear c0 c1 hs'
          go_wp2_with fail
          refine (HAO.out _ R2.out).mono ?_
          rintro e W3 ⟨rfl, hb⟩
          have HB3 := Lib.hid (HB2.out.trans (hb.mono HB2.out.size))
          have R3 := Lib.hid (R2.out.below hb)
          have c0 : W3.cell? ⟨w.heap.size, 0, none⟩ = some (.int .u32 a) := by rw [hb.cell (p := ⟨w.heap.size, 0, none⟩) hs]; exact b0
          have c1 : W3.cell? ⟨w.heap.size, 1, none⟩ = some (.int .i64 b) := by rw [hb.cell (p := ⟨w.heap.size, 1, none⟩) hs]; exact b1
          have hs' : w.heap.size < W3.heap.size := Nat.lt_of_lt_of_le hs hb.size
          clear hb b0 b1 hs
          have b0 := c0
          have b1 := c1
          have hs := hs'
          clear c0 c1 hs'
          go_wp2_with fail
          refine (HPL.out _ R3.out).mono ?_
          rintro e W4 ⟨rfl, hb⟩
          have HB4 := Lib.hid (HB3.out.trans (hb.mono HB3.out.size))
          have R4 := Lib.hid (R3.out.below hb)
          have c0 : W4.cell? ⟨w.heap.size, 0, none⟩ = some (.int .u32 a) := by rw [hb.cell (p := ⟨w.heap.size, 0, none⟩) hs]; exact b0
          have c1 : W4.cell? ⟨w.heap.size, 1, none⟩ = some (.int .i64 b) := by rw [hb.cell (p := ⟨w.heap.size, 1, none⟩) hs]; exact b1
          have hs' : w.heap.size < W4.heap.size := Nat.lt_of_lt_of_le hs hb.size
          clear hb b0 b1 hs
          have b0 := c0
          have b1 := c1
          have hs := hs'
          clear c0 c1 hs'
          have k0 := b0
          have k1 := b1
          go_upto_region 10 with fail
          refine wp_region_below_end (by simp) [fx (.agg #[.int .u32 a, .int .i64 b]), fx (.int .i64 now), fx (.int .i64 D), fx (.agg #[.int .u32 a, .int .i64 b, .int .i64 D, .int .i64 0]), Nb W4.heap.size]
            (by kernel_rfl) (by kernel_rfl) (by kernel_rfl) (by kernel_rfl) ?_ ?_ ?_
          · simp only [List.mem_cons, List.not_mem_nil, or_false]
            rintro φ (rfl | rfl | rfl | rfl | rfl)
            all_goals first | exact stable_fx _ | exact stable_nb _
          · refine OgSteps.cons ?_ (OgSteps.cons ?_ (OgSteps.cons ?_ (OgSteps.cons ?_ (OgSteps.cons ?_ (OgSteps.nil)))))
            · refine OgStep.pure ?_ ?_
              · rfl
              intro u W hS hp
              have q0 : W.cell? ⟨w.heap.size, 0, none⟩ = some (.int .u32 a) := by rw [hS.cell (p := ⟨w.heap.size, 0, none⟩) hs]; exact k0
              have q1 : W.cell? ⟨w.heap.size, 1, none⟩ = some (.int .i64 b) := by rw [hS.cell (p := ⟨w.heap.size, 1, none⟩) hs]; exact k1
              refine ⟨.agg #[.int .u32 a, .int .i64 b], ?_, rfl⟩
              simp only [ogMk, Act.put, List.setIfInBounds_toArray, List.set_cons_zero, List.set_cons_succ, Nat.zero_add, Nat.reduceAdd, List.take_succ_cons, List.take_zero, List.drop_succ_cons, List.drop_zero]
              simp [execOp, Act.eval, go_sem, q0, q1]
            · refine OgStep.pure ?_ ?_
              · rfl
              intro u W hS hp
              refine ⟨.int .i64 now, ?_, rfl⟩
              simp only [ogMk, Act.put, List.setIfInBounds_toArray, List.set_cons_zero, List.set_cons_succ, Nat.zero_add, Nat.reduceAdd, List.take_succ_cons, List.take_zero, List.drop_succ_cons, List.drop_zero]
              simp [execOp, Act.eval, go_sem]
            · refine OgStep.calls ?_ ?_
              · rfl
              intro u W hS hp
              have h1 : u 1 = .int .i64 now := hp ⟨1, .data⟩ (by simp) rfl
              refine ⟨79, #[.int .i64 now], ?_, calls_fx ((HCN.out W).mono fun _ _ ⟨he, hw⟩ => ⟨he, by rw [hw]; exact Below.refl _ _⟩) rfl⟩
              simp only [ogMk, Act.put, List.setIfInBounds_toArray, List.set_cons_zero, List.set_cons_succ, Nat.zero_add, Nat.reduceAdd, List.take_succ_cons, List.take_zero, List.drop_succ_cons, List.drop_zero]
              simp [execOp, Act.eval, go_sem, h1]
            · refine OgStep.pure ?_ ?_
              · rfl
              intro u W hS hp
              have h0 : u 0 = .agg #[.int .u32 a, .int .i64 b] := hp ⟨0, .data⟩ (by simp) rfl
              have h2 : u 2 = .int .i64 D := hp ⟨2, .data⟩ (by simp) rfl
              refine ⟨.agg #[.int .u32 a, .int .i64 b, .int .i64 D, .int .i64 0], ?_, rfl⟩
              simp only [ogMk, Act.put, List.setIfInBounds_toArray, List.set_cons_zero, List.set_cons_succ, Nat.zero_add, Nat.reduceAdd, List.take_succ_cons, List.take_zero, List.drop_succ_cons, List.drop_zero]
              simp [execOp, Act.eval, go_sem, h0, h2]
            · refine OgStep.made ?_ ?_
              · rfl
              intro u W hS hp
              refine ⟨.pointer (some ⟨W.heap.size, 0, none⟩), _, ?_, (Below.refl _ W).alloc (Nat.le_refl _) _, show Nb W4.heap.size _ (W.alloc (Swx zw)) from ⟨W.heap.size, rfl, hS.size, by simp, wb_box W zw⟩⟩
              simp only [ogMk, Act.put, List.setIfInBounds_toArray, List.set_cons_zero, List.set_cons_succ, Nat.zero_add, Nat.reduceAdd, List.take_succ_cons, List.take_zero, List.drop_succ_cons, List.drop_zero]
              simp [execOp, Act.eval, go_sem, Swx, zw]
          · intro u W hS hF
            have hF' := hF
            have e0 : u 0 = .agg #[.int .u32 a, .int .i64 b] := hF 0 (by decide)
            have e1 : u 1 = .int .i64 now := hF 1 (by decide)
            have e2 : u 2 = .int .i64 D := hF 2 (by decide)
            have e3 : u 3 = .agg #[.int .u32 a, .int .i64 b, .int .i64 D, .int .i64 0] := hF 3 (by decide)
            simp only [ogMk, Act.put, List.setIfInBounds_toArray, List.set_cons_zero, List.set_cons_succ, Nat.zero_add, Nat.reduceAdd, List.take_succ_cons, List.take_zero, List.drop_succ_cons, List.drop_zero]
            rw [e0, e1, e2, e3]
            clear e0 e1 e2 e3 hF
            obtain ⟨g, e4, hg1, hg2, hg3⟩ : Nb W4.heap.size (u 4) W := hF' 4 (by decide)
            rw [e4]
            clear hF' e4
            have HBW := Lib.hid (HB4.out.trans (hS.mono HB4.out.size))
            have RW4 := Lib.hid (R4.out.below hS)
            have HG := Lib.hid hg3
            have hgw : w.heap.size ≤ g := by have := HB4.out.size; omega
            clear hS hg3 k0 k1
            go_wp2_with (refine at_store39 _ _ _ zw ⟨a, b, D, 0⟩ HG.out rfl rfl rfl rfl ?_; intro w5 P5 B5)
            have HB5 := Lib.hid (HBW.out.trans (B5.out _ hgw))
            clear HBW RW4 HG B5
            refine wp_region_below [fx (.slice A L cap), fx (.int .i64 (P : Int)), fx (.slice A P cap), fx (.agg #[.int .u32 a, .int .i64 b, .int .i64 D, .int .i64 0]), hF ⟨a, b, D, 0⟩, fx (.slice A L cap), fx (.int .i64 (P : Int)), fx (.slice (dA 4 A cap P) (L - P) (cap - P)), pG ps, oF w.heap.size ys, oF w.heap.size ys, fx (.int .i64 0)]
              (by kernel_rfl) (by kernel_rfl) (by kernel_rfl) ?_ ?_ ?_
            · simp only [List.mem_cons, List.not_mem_nil, or_false]
              rintro φ (rfl | rfl | rfl | rfl | rfl | rfl | rfl | rfl | rfl | rfl | rfl | rfl)
              all_goals first | exact stable_fx _ | exact stable_fr _ _ | exact stable_pG _ | exact stable_oF _ _ | exact stable_hF _
            · refine OgSteps.cons ?_ (OgSteps.cons ?_ (OgSteps.cons ?_ (OgSteps.cons ?_ (OgSteps.cons ?_ (OgSteps.cons ?_ (OgSteps.cons ?_ (OgSteps.cons ?_ (OgSteps.cons ?_ (OgSteps.cons ?_ (OgSteps.cons ?_ (OgSteps.cons ?_ (OgSteps.nil))))))))))))
              · refine OgStep.pure ?_ ?_
                · rfl
                intro u W hS hp
                refine ⟨.slice A L cap, ?_, rfl⟩
                simp only [ogMk, Act.put, List.setIfInBounds_toArray, List.set_cons_zero, List.set_cons_succ, Nat.zero_add, Nat.reduceAdd, List.take_succ_cons, List.take_zero, List.drop_succ_cons, List.drop_zero]
                simp [execOp, Act.eval, go_sem]
              · refine OgStep.pure ?_ ?_
                · rfl
                intro u W hS hp
                refine ⟨.int .i64 (P : Int), ?_, rfl⟩
                simp only [ogMk, Act.put, List.setIfInBounds_toArray, List.set_cons_zero, List.set_cons_succ, Nat.zero_add, Nat.reduceAdd, List.take_succ_cons, List.take_zero, List.drop_succ_cons, List.drop_zero]
                simp [execOp, Act.eval, go_sem]
              · refine OgStep.pure ?_ ?_
                · rfl
                intro u W hS hp
                have h0 : u 0 = .slice A L cap := hp ⟨0, .data⟩ (by simp) rfl
                have h1 : u 1 = .int .i64 (P : Int) := hp ⟨1, .data⟩ (by simp) rfl
                have R := HSH.out W
                refine ⟨.slice A P cap, ?_, rfl⟩
                simp only [ogMk, Act.put, List.setIfInBounds_toArray, List.set_cons_zero, List.set_cons_succ, Nat.zero_add, Nat.reduceAdd, List.take_succ_cons, List.take_zero, List.drop_succ_cons, List.drop_zero]
                simp [execOp, Act.eval, go_sem, h0, h1, R]
              · refine OgStep.pure ?_ ?_
                · rfl
                intro u W hS hp
                have K := (P5.out.below hS).key
                have K0 := K 0 _ rfl
                have K1 := K 1 _ rfl
                have K2 := K 2 _ rfl
                have K3 := K 3 _ rfl
                refine ⟨.agg #[.int .u32 a, .int .i64 b, .int .i64 D, .int .i64 0], ?_, rfl⟩
                simp only [ogMk, Act.put, List.setIfInBounds_toArray, List.set_cons_zero, List.set_cons_succ, Nat.zero_add, Nat.reduceAdd, List.take_succ_cons, List.take_zero, List.drop_succ_cons, List.drop_zero]
                simp [execOp, Act.eval, go_sem, K0, K1, K2, K3]
              · refine OgStep.made ?_ ?_
                · rfl
                intro u W hS hp
                have h3 : u 3 = .agg #[.int .u32 a, .int .i64 b, .int .i64 D, .int .i64 0] := hp ⟨3, .data⟩ (by simp) rfl
                refine ⟨.slice (some ⟨W.heap.size, 0, none⟩) 1 1, _, ?_, (Below.refl _ W).alloc (Nat.le_refl _) _, ⟨_, rfl, hs_box W ⟨a, b, D, 0⟩⟩⟩
                simp only [ogMk, Act.put, List.setIfInBounds_toArray, List.set_cons_zero, List.set_cons_succ, Nat.zero_add, Nat.reduceAdd, List.take_succ_cons, List.take_zero, List.drop_succ_cons, List.drop_zero]
                simp [execOp, Act.eval, go_sem, h3, Swx]
              · refine OgStep.pure ?_ ?_
                · rfl
                intro u W hS hp
                refine ⟨.slice A L cap, ?_, rfl⟩
                simp only [ogMk, Act.put, List.setIfInBounds_toArray, List.set_cons_zero, List.set_cons_succ, Nat.zero_add, Nat.reduceAdd, List.take_succ_cons, List.take_zero, List.drop_succ_cons, List.drop_zero]
                simp [execOp, Act.eval, go_sem]
              · refine OgStep.pure ?_ ?_
                · rfl
                intro u W hS hp
                refine ⟨.int .i64 (P : Int), ?_, rfl⟩
                simp only [ogMk, Act.put, List.setIfInBounds_toArray, List.set_cons_zero, List.set_cons_succ, Nat.zero_add, Nat.reduceAdd, List.take_succ_cons, List.take_zero, List.drop_succ_cons, List.drop_zero]
                simp [execOp, Act.eval, go_sem]
              · refine OgStep.pure ?_ ?_
                · rfl
                intro u W hS hp
                have h5 : u 5 = .slice A L cap := hp ⟨5, .data⟩ (by simp) rfl
                have h6 : u 6 = .int .i64 (P : Int) := hp ⟨6, .data⟩ (by simp) rfl
                have R := HSL.out W
                refine ⟨.slice (dA 4 A cap P) (L - P) (cap - P), ?_, rfl⟩
                simp only [ogMk, Act.put, List.setIfInBounds_toArray, List.set_cons_zero, List.set_cons_succ, Nat.zero_add, Nat.reduceAdd, List.take_succ_cons, List.take_zero, List.drop_succ_cons, List.drop_zero]
                simp [execOp, Act.eval, go_sem, h5, h6, R]
              · refine OgStep.made ?_ ?_
                · rfl
                intro u W hS hp
                obtain ⟨b4, h4, hH4⟩ : hF ⟨a, b, D, 0⟩ (u 4) W := hp ⟨4, .data⟩ (by simp) rfl
                have h2 : u 2 = .slice A P cap := hp ⟨2, .data⟩ (by simp) rfl
                have h7 : u 7 = .slice (dA 4 A cap P) (L - P) (cap - P) := hp ⟨7, .data⟩ (by simp) rfl
                refine ⟨.slice (some ⟨W.heap.size, 0, none⟩) 3 3, _, ?_, (Below.refl _ W).alloc (Nat.le_refl _) _, HPM.out W (HB5.out.trans (hS.mono HB5.out.size)) b4 hH4⟩
                simp only [ogMk, Act.put, List.setIfInBounds_toArray, List.set_cons_zero, List.set_cons_succ, Nat.zero_add, Nat.reduceAdd, List.take_succ_cons, List.take_zero, List.drop_succ_cons, List.drop_zero]
                rw [h2, h4, h7]
                simp [execOp, Act.eval, go_sem]
              · refine OgStep.calls ?_ ?_
                · rfl
                intro u W hS hp
                obtain ⟨b4, b8, h8, hPm⟩ : pG ps (u 8) W := hp ⟨8, .data⟩ (by simp) rfl
                refine ⟨80, #[.slice (some ⟨b8, 0, none⟩) 3 3], ?_, HCC.out W (HB5.out.trans (hS.mono HB5.out.size)) b4 b8 hPm⟩
                simp only [ogMk, Act.put, List.setIfInBounds_toArray, List.set_cons_zero, List.set_cons_succ, Nat.zero_add, Nat.reduceAdd, List.take_succ_cons, List.take_zero, List.drop_succ_cons, List.drop_zero]
                rw [h8, HLL.out b4]
                simp [execOp, Act.eval, go_sem]
              · refine OgStep.pure ?_ ?_
                · rfl
                intro u W hS hp
                have h9 : oF w.heap.size ys (u 9) W := hp ⟨9, .data⟩ (by simp) rfl
                refine ⟨u 9, ?_, h9⟩
                simp only [ogMk, Act.put, List.setIfInBounds_toArray, List.set_cons_zero, List.set_cons_succ, Nat.zero_add, Nat.reduceAdd, List.take_succ_cons, List.take_zero, List.drop_succ_cons, List.drop_zero]
                simp [execOp, Act.eval, go_sem]
              · refine OgStep.pure ?_ ?_
                · rfl
                intro u W hS hp
                refine ⟨.int .i64 0, ?_, rfl⟩
                simp only [ogMk, Act.put, List.setIfInBounds_toArray, List.set_cons_zero, List.set_cons_succ, Nat.zero_add, Nat.reduceAdd, List.take_succ_cons, List.take_zero, List.drop_succ_cons, List.drop_zero]
                simp [execOp, Act.eval, go_sem]
            · intro u W hS hF'
              have hF10 : oF w.heap.size ys (u 10) W := hF' 10 (by decide)
              have hF := hF'
              have e0 : u 0 = .slice A L cap := hF 0 (by decide)
              have e1 : u 1 = .int .i64 (P : Int) := hF 1 (by decide)
              have e2 : u 2 = .slice A P cap := hF 2 (by decide)
              have e3 : u 3 = .agg #[.int .u32 a, .int .i64 b, .int .i64 D, .int .i64 0] := hF 3 (by decide)
              have e5 : u 5 = .slice A L cap := hF 5 (by decide)
              have e6 : u 6 = .int .i64 (P : Int) := hF 6 (by decide)
              have e7 : u 7 = .slice (dA 4 A cap P) (L - P) (cap - P) := hF 7 (by decide)
              have e11 : u 11 = .int .i64 0 := hF 11 (by decide)
              simp only [ogMk, Act.put, List.setIfInBounds_toArray, List.set_cons_zero, List.set_cons_succ, Nat.zero_add, Nat.reduceAdd, List.take_succ_cons, List.take_zero, List.drop_succ_cons, List.drop_zero]
              rw [e0, e1, e2, e3, e5, e6, e7, e11]
              clear hF' e0 e1 e2 e3 e5 e6 e7 e11 hF
              go_wp2_with fail
              go_ret2
              exact out_yes (hF10 : W.ownsRow w.heap.size 101 4 (u 10) ys.length (eW.cs ys)) HYL.out (HB5.out.trans (hS.mono HB5.out.size))
      · have HT := Lib.hid (show putR xs a b now = [] ∧ putC xs a b = 5 by
          have e : putC xs a b = 5 := by unfold putC; rw [if_neg (by rw [hok]; simp), if_neg h256, if_pos hov]
          exact ⟨by unfold putR; rw [e]; rfl, e⟩)
        rw [HT.out.1, HT.out.2]
        rw [hov] at HAO
        clear h HT hok HPL hse h256 hov
        generalize xs.length = L at *
        generalize lo xs a = P at *
        generalize p2 b = Z at *
        go_enter Tryz.func33, Tryz.ntmps33
        go_wp2_with fail
        generalize w.alloc (.cells #[.int .u32 a, .int .i64 b] 46) = W0 at *
        refine (HRT.out _).mono ?_
        rintro e W1 ⟨rfl, hb⟩
        have HB1 := Lib.hid (HB0.out.trans (hb.mono HB0.out.size))
        have R1 := Lib.hid (R0.out.below hb)
        have c0 : W1.cell? ⟨w.heap.size, 0, none⟩ = some (.int .u32 a) := by rw [hb.cell (p := ⟨w.heap.size, 0, none⟩) hs]; exact b0
        have c1 : W1.cell? ⟨w.heap.size, 1, none⟩ = some (.int .i64 b) := by rw [hb.cell (p := ⟨w.heap.size, 1, none⟩) hs]; exact b1
        have hs' : w.heap.size < W1.heap.size := Nat.lt_of_lt_of_le hs hb.size
        clear hb b0 b1 hs
        have b0 := c0
        have b1 := c1
        have hs := hs'
        clear c0 c1 hs'
        go_wp2_with fail
        refine (HSZ.out _).mono ?_
        rintro e W2 ⟨rfl, hb⟩
        have HB2 := Lib.hid (HB1.out.trans (hb.mono HB1.out.size))
        have R2 := Lib.hid (R1.out.below hb)
        have c0 : W2.cell? ⟨w.heap.size, 0, none⟩ = some (.int .u32 a) := by rw [hb.cell (p := ⟨w.heap.size, 0, none⟩) hs]; exact b0
        have c1 : W2.cell? ⟨w.heap.size, 1, none⟩ = some (.int .i64 b) := by rw [hb.cell (p := ⟨w.heap.size, 1, none⟩) hs]; exact b1
        have hs' : w.heap.size < W2.heap.size := Nat.lt_of_lt_of_le hs hb.size
        clear hb b0 b1 hs
        have b0 := c0
        have b1 := c1
        have hs := hs'
        clear c0 c1 hs'
        go_wp2_with fail
        refine (HAO.out _ R2.out).mono ?_
        rintro e W3 ⟨rfl, hb⟩
        have HB3 := Lib.hid (HB2.out.trans (hb.mono HB2.out.size))
        have R3 := Lib.hid (R2.out.below hb)
        have c0 : W3.cell? ⟨w.heap.size, 0, none⟩ = some (.int .u32 a) := by rw [hb.cell (p := ⟨w.heap.size, 0, none⟩) hs]; exact b0
        have c1 : W3.cell? ⟨w.heap.size, 1, none⟩ = some (.int .i64 b) := by rw [hb.cell (p := ⟨w.heap.size, 1, none⟩) hs]; exact b1
        have hs' : w.heap.size < W3.heap.size := Nat.lt_of_lt_of_le hs hb.size
        clear hb b0 b1 hs
        have b0 := c0
        have b1 := c1
        have hs := hs'
        clear c0 c1 hs'
        go_wp2_with fail
        go_ret2
        exact out_no w W3 5 HB3.out
end Go.Proofs.YtilneflfeegnfaaGreat.Sw
namespace Go.Proofs.YtilneflfeegnfaaGreat.Sw
open Go.Sort
section
variable {α : Type} [Inhabited α] {lt1 lt2 : α → α → Bool} {r : α → α → Prop}
theorem ins_eq (hlt : ∀ x y, r y x → lt1 x y = lt2 x y) (a : Nat) : ∀ (j : Nat) (d : Array α), j < d.size → (∀ k, k < j → r d[k]! d[j]!) → insInner lt1 a j d = insInner lt2 a j d
  | 0, d, _, _ => rfl
  | j + 1, d, hj, hr => by
    have h1 := hlt _ _ (hr j (by omega))
    simp only [insInner, h1]
    split
    · refine ins_eq hlt a j (swp d (j + 1) j) (by rw [size_swp]; omega) fun k hk => ?_
      rw [swp_right d (j + 1) j (by omega), swp_other d (j + 1) j k (by omega) (by omega)]
      exact hr k (by omega)
    · rfl
theorem ins_from (a : Nat) : ∀ (j : Nat) (d : Array α), j < d.size → (insInner lt1 a j d).size = d.size ∧ (∀ p, j < p → (insInner lt1 a j d)[p]! = d[p]!) ∧ (∀ p, p ≤ j → ∃ q, q ≤ j ∧ (insInner lt1 a j d)[p]! = d[q]!)
  | 0, d, _ => ⟨rfl, fun _ _ => rfl, fun p hp => ⟨p, hp, rfl⟩⟩
  | j + 1, d, hj => by
    simp only [insInner]
    split
    · obtain ⟨i1, i2, i3⟩ := ins_from a j (swp d (j + 1) j) (by rw [size_swp]; omega)
      refine ⟨by rw [i1, size_swp], fun p hp => ?_, fun p hp => ?_⟩
      · rw [i2 p (by omega), swp_other d (j + 1) j p (by omega) (by omega)]
      · by_cases he : p = j + 1
        · subst he
          rw [i2 (j + 1) (by omega), swp_left d (j + 1) j (by omega) (by omega)]
          exact ⟨j, by omega, rfl⟩
        · obtain ⟨q, hq, e⟩ := i3 p (by omega)
          rw [e]
          by_cases hqj : q = j
          · subst hqj
            rw [swp_right d (q + 1) q (by omega)]
            exact ⟨q + 1, by omega, rfl⟩
          · rw [swp_other d (j + 1) j q (by omega) hqj]
            exact ⟨q, by omega, rfl⟩
    · exact ⟨rfl, fun _ _ => rfl, fun p hp => ⟨p, hp, rfl⟩⟩
theorem out_eq (hlt : ∀ x y, r y x → lt1 x y = lt2 x y) (a b : Nat) : ∀ (n i : Nat) (d : Array α), b - i = n → b ≤ d.size → (∀ p q, p < q → q < b → i ≤ q → r d[p]! d[q]!) → insOuter lt1 a b i d = insOuter lt2 a b i d
  | 0, i, d, hn, _, _ => by rw [insOuter_stop _ _ _ _ _ (by omega), insOuter_stop _ _ _ _ _ (by omega)]
  | n + 1, i, d, hn, hb, hr => by
    have hib : i < b := by omega
    obtain ⟨s1, s2, s3⟩ := ins_from (lt1 := lt2) a i d (by omega)
    rw [insOuter_go _ _ _ _ _ hib, insOuter_go _ _ _ _ _ hib, ins_eq hlt a i d (by omega) (fun k hk => hr k i hk hib (Nat.le_refl _))]
    refine out_eq hlt a b n (i + 1) _ (by omega) (by rw [s1]; exact hb) fun p q hpq hq hiq => ?_
    rw [s2 q (by omega)]
    by_cases hp : p ≤ i
    · obtain ⟨p', hp', e⟩ := s3 p hp
      rw [e]
      exact hr p' q (by omega) hq (by omega)
    · rw [s2 p (by omega)]
      exact hr p q hpq hq (by omega)
theorem sort_eq (hlt : ∀ x y, r y x → lt1 x y = lt2 x y) (d : Array α) (hr : ∀ p q, p < q → q < d.size → r d[p]! d[q]!) : insertionSort lt1 d 0 d.size = insertionSort lt2 d 0 d.size :=
  out_eq hlt 0 d.size _ 1 d rfl (Nat.le_refl _) fun p q hpq hq _ => hr p q hpq hq
end
def du (xs : List Sw) (i : Nat) : Int := (xs[i]?.getD zw).d
theorem du_at {xs : List Sw} {i : Nat} {x : Sw} (h : xs[i]? = some x) : du xs i = x.d := by unfold du; rw [h]; rfl
def lx (xs : List Sw) (i j : Nat) : Bool := decide (du xs i < du xs j) || (decide (du xs i = du xs j) && decide (i < j))
theorem lx_iff {xs : List Sw} {i j : Nat} : lx xs i j = true ↔ du xs i < du xs j ∨ (du xs i = du xs j ∧ i < j) := by simp [lx]
theorem lx_trans {xs : List Sw} {i j k : Nat} (h : lx xs i j = true) (g : lx xs j k = true) : lx xs i k = true := by rw [lx_iff] at *; omega
theorem lx_irr (xs : List Sw) (i : Nat) : lx xs i i = false := by simp [lx]
theorem lx_tot {xs : List Sw} {i j : Nat} (h : lx xs i j = false) (hne : i ≠ j) : lx xs j i = true := by
  rw [lx_iff]
  have : ¬ lx xs i j = true := by rw [h]; simp
  rw [lx_iff] at this
  omega
theorem lx_asym {xs : List Sw} {i j : Nat} (h : lx xs i j = true) : lx xs j i = false := by
  rw [Bool.eq_false_iff]
  intro g
  have := lx_trans h g
  rw [lx_irr] at this; cases this
structure IsO (xs : List Sw) (now : Int) (ys : List Nat) : Prop where
  pw : ys.Pairwise fun i j => lx xs i j = true
  mem : ∀ i, i ∈ ys ↔ i < xs.length ∧ du xs i ≤ now
theorem pw_unique {xs : List Sw} : ∀ {ys zs : List Nat}, ys.Pairwise (fun i j => lx xs i j = true) → zs.Pairwise (fun i j => lx xs i j = true) → (∀ i, i ∈ ys ↔ i ∈ zs) → ys = zs
  | [], [], _, _, _ => rfl
  | [], z :: zs, _, _, h => by have := (h z).2 (by simp); simp at this
  | y :: ys, [], _, _, h => by have := (h y).1 (by simp); simp at this
  | y :: ys, z :: zs, hy, hz, h => by
    rw [List.pairwise_cons] at hy hz
    have e : y = z := by
      rcases List.mem_cons.1 ((h y).1 (by simp)) with e | e
      · exact e
      · rcases List.mem_cons.1 ((h z).2 (by simp)) with e' | e'
        · exact e'.symm
        · have a := hz.1 y e
          have b := lx_asym (hy.1 z e')
          rw [a] at b; cases b
    subst e
    refine congrArg (y :: ·) (pw_unique hy.2 hz.2 fun i => ⟨fun hi => ?_, fun hi => ?_⟩)
    · rcases List.mem_cons.1 ((h i).1 (List.mem_cons_of_mem _ hi)) with e | e
      · subst e
        have := hy.1 i hi
        rw [lx_irr] at this; cases this
      · exact e
    · rcases List.mem_cons.1 ((h i).2 (List.mem_cons_of_mem _ hi)) with e | e
      · subst e
        have := hz.1 i hi
        rw [lx_irr] at this; cases this
      · exact e
def insO (xs : List Sw) (i : Nat) : List Nat → List Nat
  | [] => [i]
  | j :: r => if lx xs i j = true then i :: j :: r else j :: insO xs i r
theorem mem_insO (xs : List Sw) (i k : Nat) : ∀ l, k ∈ insO xs i l ↔ k = i ∨ k ∈ l
  | [] => by simp [insO]
  | j :: r => by
    unfold insO
    split
    · simp
    · rw [List.mem_cons, mem_insO xs i k r, List.mem_cons]
      constructor <;> rintro (h | h | h) <;> simp [h]
theorem pw_insO (xs : List Sw) (i : Nat) : ∀ l : List Nat, l.Pairwise (fun a b => lx xs a b = true) → i ∉ l → (insO xs i l).Pairwise (fun a b => lx xs a b = true)
  | [], _, _ => by simp [insO]
  | j :: r, h, hn => by
    unfold insO
    split
    · rename_i hij
      rw [List.pairwise_cons] at h ⊢
      refine ⟨fun k hk => ?_, by rw [List.pairwise_cons]; exact h⟩
      rcases List.mem_cons.1 hk with rfl | hk
      · exact hij
      · exact lx_trans hij (h.1 k hk)
    · rename_i hij
      rw [List.pairwise_cons] at h ⊢
      refine ⟨fun k hk => ?_, pw_insO xs i r h.2 fun hi => hn (List.mem_cons_of_mem _ hi)⟩
      rcases (mem_insO xs i k r).1 hk with rfl | hk
      · exact lx_tot (by simpa using hij) fun e => hn (by rw [e]; simp)
      · exact h.1 k hk
def pl (xs : List Sw) (now : Int) (k : Nat) : List Nat := (List.range k).filter fun i => decide (du xs i ≤ now)
theorem pl_succ (xs : List Sw) (now : Int) (k : Nat) : pl xs now (k + 1) = pl xs now k ++ if du xs k ≤ now then [k] else [] := by
  unfold pl
  rw [List.range_succ, List.filter_append]
  congr 1
  by_cases h : du xs k ≤ now <;> simp [h]
theorem pl_mem {xs : List Sw} {now : Int} {k i : Nat} : i ∈ pl xs now k ↔ i < k ∧ du xs i ≤ now := by simp [pl]
theorem pl_len (xs : List Sw) (now : Int) (k : Nat) : (pl xs now k).length ≤ k := by
  have := List.length_filter_le (fun i => decide (du xs i ≤ now)) (List.range k)
  rw [List.length_range] at this
  exact this
theorem pl_pw (xs : List Sw) (now : Int) (k : Nat) : (pl xs now k).Pairwise (· < ·) := List.Pairwise.filter _ List.pairwise_lt_range
def ord (xs : List Sw) (now : Int) : List Nat := (pl xs now xs.length).foldr (insO xs) []
theorem fold_ord (xs : List Sw) : ∀ l : List Nat, l.Pairwise (· < ·) → (l.foldr (insO xs) []).Pairwise (fun a b => lx xs a b = true) ∧ ∀ i, i ∈ l.foldr (insO xs) [] ↔ i ∈ l
  | [], _ => by simp
  | x :: r, h => by
    rw [List.pairwise_cons] at h
    obtain ⟨p, m⟩ := fold_ord xs r h.2
    refine ⟨pw_insO xs x _ p fun hx => ?_, fun i => ?_⟩
    · have := h.1 x ((m x).1 hx)
      omega
    · rw [List.foldr_cons, mem_insO, m, List.mem_cons]
theorem ord_is (xs : List Sw) (now : Int) : IsO xs now (ord xs now) := by
  obtain ⟨p, m⟩ := fold_ord xs (pl xs now xs.length) (pl_pw _ _ _)
  exact ⟨p, fun i => by rw [ord, m, pl_mem]⟩
def encF (m : Nat) (i : Fin (m + 1)) : Value := .int .i64 (i.val : Int)
theorem sorted_is {m : Nat} (xs : List Sw) (now : Int) (hm : xs.length = m + 1) (d : Array (Fin (m + 1))) (hd : d.toList.map (·.val) = pl xs now xs.length) :
    (insertionSort (fun x y : Fin (m + 1) => decide (cmpI (du xs x.val) (du xs y.val) < 0)) d 0 d.size).toList.map (·.val) = ord xs now := by
  let lt2 : Fin (m + 1) → Fin (m + 1) → Bool := fun x y => lx xs x.val y.val
  have hget : ∀ p, p < d.size → d[p]!.val = (pl xs now xs.length)[p]?.getD 0 := by
    intro p hp
    rw [← hd, getElem!_pos d p hp, List.getElem?_map, Array.getElem?_toList, Array.getElem?_eq_getElem hp]
    rfl
  have hsz : (pl xs now xs.length).length = d.size := by rw [← hd]; simp
  have hrise : ∀ p q, p < q → q < d.size → (d[p]!).val < (d[q]!).val := by
    intro p q hpq hq
    rw [hget p (by omega), hget q hq]
    have := List.pairwise_iff_getElem.1 (pl_pw xs now xs.length) p q (by omega) (by omega) hpq
    rw [List.getElem?_eq_getElem (by omega), List.getElem?_eq_getElem (by omega)]
    exact this
  have heq : insertionSort (fun x y : Fin (m + 1) => decide (cmpI (du xs x.val) (du xs y.val) < 0)) d 0 d.size = insertionSort lt2 d 0 d.size := by
    refine sort_eq (r := fun x y => x.val < y.val) (fun x y hyx => ?_) d hrise
    show decide (cmpI (du xs x.val) (du xs y.val) < 0) = lx xs x.val y.val
    rw [Bool.eq_iff_iff, lx_iff, decide_eq_true_iff]
    unfold cmpI
    constructor
    · intro h
      split at h
      · left; assumption
      · split at h <;> omega
    · rintro (h | ⟨-, h⟩)
      · rw [if_pos h]; decide
      · omega
  rw [heq]
  have hS : SWO lt2 := ⟨fun x => lx_irr _ _, fun x y z h g => lx_trans h g, fun x y z h g => by
    show lx xs x.val z.val = false
    rw [Bool.eq_false_iff]
    intro hc
    have h1 : ¬ lx xs x.val y.val = true := by rw [show lx xs x.val y.val = false from h]; simp
    have h2 : ¬ lx xs y.val z.val = true := by rw [show lx xs y.val z.val = false from g]; simp
    rw [lx_iff] at hc h1 h2
    omega⟩
  obtain ⟨⟨z1, -, z3⟩, z4⟩ := insertionSort_holds hS d 0 d.size (Nat.zero_le _) (Nat.le_refl _)
  generalize insertionSort lt2 d 0 d.size = s at *
  have hperm : s.toList.Perm d.toList := by
    have e1 : s.extract 0 d.size = s := by rw [← z1]; exact Array.extract_size
    have e2 : d.extract 0 d.size = d := Array.extract_size
    rw [e1, e2] at z3
    exact z3
  have hpv : (s.toList.map (·.val)).Perm (pl xs now xs.length) := by rw [← hd]; exact hperm.map _
  have hnd : (s.toList.map (·.val)).Nodup := hpv.nodup_iff.2 ((pl_pw xs now xs.length).imp fun h => Nat.ne_of_lt h)
  refine pw_unique ?_ (ord_is xs now).pw fun i => ?_
  · rw [List.pairwise_iff_getElem]
    intro i j hi hj hij
    simp only [List.length_map, Array.length_toList] at hi hj
    have := z4 i j (Nat.zero_le _) hij (by rw [← z1]; exact hj)
    rw [getElem!_pos s i hi, getElem!_pos s j hj] at this
    simp only [List.getElem_map, Array.getElem_toList]
    refine lx_tot this fun e => ?_
    have hne := List.pairwise_iff_getElem.1 hnd i j (by simpa using hi) (by simpa using hj) hij
    simp only [List.getElem_map, Array.getElem_toList] at hne
    exact hne e.symm
  · rw [hpv.mem_iff, (ord_is xs now).mem, pl_mem]
end Go.Proofs.YtilneflfeegnfaaGreat.Sw
namespace Go.Proofs.YtilneflfeegnfaaGreat.Sw
open Go.RowKit
theorem rw_f {w : World} {y : Addr} {xs : List Sw} (R : Rw eW w (some y) xs) {k : Nat} {x : Sw} (hx : xs[k]? = some x) : w.cell? ⟨(y.add (k * 4)).block, (y.add (k * 4)).off + 1, none⟩ = some (.int .i64 x.b) ∧ w.cell? ⟨(y.add (k * 4)).block, (y.add (k * 4)).off + 2, none⟩ = some (.int .i64 x.d) ∧ w.cell? ⟨(y.add (k * 4)).block, (y.add (k * 4)).off + 3, none⟩ = some (.int .i64 x.n) := by
  obtain ⟨-, h1, h2, h3⟩ := rw_c0 R hx
  have e : ∀ j, 0 < j → (⟨(y.add (k * 4)).block, (y.add (k * 4)).off + j, none⟩ : Addr) = y.add (k * 4 + j) := fun j hj => by
    rw [← Addr.add_add]
    generalize y.add (k * 4) = z
    unfold Addr.add
    rw [if_neg (by omega)]
  exact ⟨by rw [e 1 (by omega)]; exact h1, by rw [e 2 (by omega)]; exact h2, by rw [e 3 (by omega)]; exact h3⟩
set_option maxRecDepth 100000 in
set_option maxHeartbeats 2000000 in
theorem clo_any (i j pb : Nat) (A : Option Addr) (xs : List Sw) (cap : Nat) (w : World) (hp : w.cell? ⟨pb, 0, none⟩ = some (.slice A xs.length cap)) (h : Rw eW w A xs) (hi : i < xs.length) (hj : j < xs.length) :
    Calls Tryz.prog 130 #[.int .i64 (i : Int), .int .i64 (j : Int), .pointer (some ⟨pb, 0, none⟩)] w fun e w' => e = .returned (.int .i64 (cmpI (du xs i) (du xs j))) ∧ ∃ q, w' = w.drewN q := by
  have hln := h.1
  obtain ⟨y, rfl⟩ := rw_some h (by omega)
  obtain ⟨x, hx⟩ : ∃ x, xs[i]? = some x := ⟨_, List.getElem?_eq_getElem hi⟩
  obtain ⟨z, hz⟩ : ∃ z, xs[j]? = some z := ⟨_, List.getElem?_eq_getElem hj⟩
  rw [du_at hx, du_at hz]
  obtain ⟨-, c2, -⟩ := rw_f h hx
  obtain ⟨-, d2, -⟩ := rw_f h hz
  have HC := Lib.hid fun W => (cmp_any x.d z.d W).mono fun _ _ ⟨he, hw⟩ => (show _ ∧ _ from ⟨he, hw.symm⟩)
  clear h hx hz
  generalize xs.length = L at *
  have hi' : (i : Int) < L := by omega
  have hj' : (j : Int) < L := by omega
  go_enter Tryz.func130, Tryz.ntmps130
  go_wp2_with fail
  go_quiet ((go_at_call 131; exact Calls.quiet_of_same (HC.out _)))
  go_wp2_with fail
  go_ret
  exact ⟨rfl, _, rfl⟩
theorem sortWorld_below {α : Type} [Inhabited α] (enc : α → Value) (w : World) (blk off m : Nat) (dk : Array α) (os : Array Obj) (hb : blk < w.heap.size) : Below blk w (sortWorld enc w blk off m dk os) := by
  refine ⟨rfl, rfl, rfl, ?_, fun k hk => ?_⟩
  · simp [sortWorld, Sort.grow, Sort.putRow, Sort.mapBlock, Sort.ahead]
  · unfold sortWorld Sort.grow Sort.putRow Sort.mapBlock Sort.ahead
    show (w.heap.modify blk _ ++ os)[k]? = _
    rw [Array.getElem?_append_left (by simp; omega), Array.getElem?_modify, if_neg (by omega)]
theorem cmpReads {m : Nat} (pb blk : Nat) (A : Option Addr) (xs : List Sw) (cap n : Nat) (w : World) (hm : xs.length = m + 1) (hp : w.cell? ⟨pb, 0, none⟩ = some (.slice A xs.length cap)) (h : Rw eW w A xs) (hpb : pb < blk) (hA : ∀ y, A = some y → y.block < blk) (hblk : blk < w.heap.size) :
    CmpReads Tryz.prog 130 #[.pointer (some ⟨pb, 0, none⟩)] (encF m) (fun x y => cmpI (du xs x.val) (du xs y.val)) blk 0 n w := by
  intro k os dk hdk x y
  have hb := sortWorld_below (encF m) w blk 0 k dk os hblk
  exact clo_any x.val y.val pb A xs cap _ (by rw [hb.cell (p := ⟨pb, 0, none⟩) hpb]; exact hp) (h.belowB hb hA) (by have := x.isLt; omega) (by have := y.isLt; omega)
theorem ord_len (xs : List Sw) (now : Int) : (ord xs now).length = (pl xs now xs.length).length := by
  unfold ord
  have h : ∀ l : List Nat, (l.foldr (insO xs) []).length = l.length := by
    intro l
    induction l with
    | nil => rfl
    | cons x r ih =>
      have g : ∀ t : List Nat, (insO xs x t).length = t.length + 1 := by
        intro t
        induction t with
        | nil => rfl
        | cons y t iht =>
          unfold insO
          split
          · rfl
          · rw [List.length_cons, iht, List.length_cons]
      rw [List.foldr_cons, g, ih, List.length_cons]
  exact h _
theorem sort_one {m : Nat} (pb blk : Nat) (A : Option Addr) (xs : List Sw) (cap c : Nat) (d : Array (Fin (m + 1))) (w : World) (hm : xs.length = m + 1) (hp : w.cell? ⟨pb, 0, none⟩ = some (.slice A xs.length cap)) (h : Rw eW w A xs) (hpb : pb < blk) (hA : ∀ y, A = some y → y.block < blk) (hblk : blk < w.heap.size)
    (hH : Sort.Holds (encF m) w blk 0 d) (hd : d.size ≤ 16) (now : Int) (hdv : d.toList.map (·.val) = pl xs now xs.length) :
    Calls Tryz.prog 139 #[.slice (some ⟨blk, 0, none⟩) d.size c, .int .i64 ((0 : Nat) : Int), .int .i64 (d.size : Int), .func (.func 130) #[] #[.pointer (some ⟨pb, 0, none⟩)]] w fun e w' =>
      e = .returned (.tuple #[]) ∧ Rw eN w' (some ⟨blk, 0, none⟩) (ord xs now) ∧ Below blk w w' := by
  have hcs := cmpReads pb blk A xs cap d.size w hm hp h hpb hA hblk
  refine (Any.insertionSortCmpFunc_one Tryz.srt (encF m) (fun _ => rfl) _ 130 _ blk 0 c 0 d.size d w (fun args w => by kernel_rfl) hcs hH (Nat.zero_le _) (Nat.le_refl _) (by omega)).mono ?_
  rintro e w' ⟨he, q, rfl⟩
  have hso := sorted_is xs now hm d hdv
  have hbw := sortWorld_below (encF m) w blk 0 q (Sort.insertionSort (ltOf fun x y : Fin (m + 1) => cmpI (du xs x.val) (du xs y.val)) d 0 d.size) #[] hblk
  rw [sortWorld_none] at hbw
  have hsd : (Sort.insertionSort (ltOf fun x y : Fin (m + 1) => cmpI (du xs x.val) (du xs y.val)) d 0 d.size).toList.map (·.val) = ord xs now := hso
  have hsz : (Sort.insertionSort (ltOf fun x y : Fin (m + 1) => cmpI (du xs x.val) (du xs y.val)) d 0 d.size).size = d.size := by
    have h1 := congrArg List.length hsd
    have h2 := congrArg List.length hdv
    have h3 := ord_len xs now
    rw [List.length_map, Array.length_toList] at h1 h2
    omega
  generalize Sort.insertionSort (ltOf fun x y : Fin (m + 1) => cmpI (du xs x.val) (du xs y.val)) d 0 d.size = s at *
  refine ⟨he, ⟨?_, fun p x hx => ⟨_, rfl, fun j v hv => ?_⟩⟩, hbw⟩
  · rw [← hsd, List.length_map, Array.length_toList]; omega
  · have hps : p < s.size := by
      have := (List.getElem?_eq_some_iff.1 hx).1
      rw [← hsd, List.length_map, Array.length_toList] at this
      exact this
    have hxv : s[p]!.val = x := by
      rw [← hsd, List.getElem?_map, Array.getElem?_toList, Array.getElem?_eq_getElem hps] at hx
      rw [getElem!_pos s p hps]
      simpa using hx
    match j, hv with
    | 0, hv =>
      simp [eN] at hv
      subst hv
      have hc := (Sort.holds_putRow (encF m) w blk 0 d s hH hsz p (by omega)).1
      rw [Addr.add_mid]
      show ((Sort.putRow (encF m) w blk 0 s).drewN q).cell? _ = _
      rw [show (0 + (p * eN.N + 0)) = 0 + p by show 0 + (p * 1 + 0) = _; omega]
      refine Eq.trans hc ?_
      rw [encF, hxv]
    | j + 1, hv => simp [eN] at hv
end Go.Proofs.YtilneflfeegnfaaGreat.Sw
namespace Go.Proofs.YtilneflfeegnfaaGreat.Sw
open Go.RowKit
set_option maxRecDepth 100000 in
set_option maxHeartbeats 2000000 in
theorem stableSort_at {R : Ending → World → Prop} (A : Option Addr) (n c : Nat) (F : Value) (w : World) (hn : n ≤ 16) (h : Calls Tryz.prog 139 #[.slice A n c, .int .i64 ((0 : Nat) : Int), .int .i64 (n : Int), F] w fun e w' => e = .returned (.tuple #[]) ∧ R e w') :
    Calls Tryz.prog 129 #[.slice A n c, F] w fun e w' => e = .returned (.tuple #[]) ∧ R e w' := by
  have H := Lib.hid h
  clear h
  have h42 : Calls Tryz.prog 136 #[.slice A n c, .int .i64 (n : Int), F] w fun e w' => e = .returned (.tuple #[]) ∧ R e w' := by
    go_enter Tryz.func136, Tryz.ntmps136
    go_wp2_with fail
    go_loopw [7, 8] (fun a b wr => a = .int .i64 0 ∧ b = .int .i64 20 ∧ wr = w) (fun _ _ _ => 0)
    case atStart => exact ⟨rfl, rfl, rfl⟩
    case round =>
      obtain ⟨rfl, rfl, rfl⟩ := hrel
      go_wp2_with fail
      refine H.out.mono ?_
      rintro e w1 ⟨rfl, hR⟩
      have HR := Lib.hid hR
      clear hR
      go_wp2_with fail
      go_loopw [6] (fun b wr => b = .int .i64 20 ∧ wr = w1) (fun _ _ => 0)
      case atStart => exact ⟨rfl, rfl⟩
      case round =>
        obtain ⟨rfl, rfl⟩ := hrel
        go_wp2_with fail
        go_end0
        exact ⟨rfl, HR.out⟩
  have H2 := Lib.hid h42
  clear h42
  go_enter Tryz.func129, Tryz.ntmps129
  go_wp2_with fail
  refine H2.out.mono ?_
  rintro e w1 ⟨rfl, hR⟩
  have HR := Lib.hid hR
  clear hR
  go_wp2_with fail
  go_end0
  exact ⟨rfl, HR.out⟩
set_option maxRecDepth 100000 in
set_option maxHeartbeats 2000000 in
theorem sort_none (A : Option Addr) (c : Nat) (F : Value) (w : World) : Calls Tryz.prog 139 #[.slice A 0 c, .int .i64 ((0 : Nat) : Int), .int .i64 ((0 : Nat) : Int), F] w fun e w' => e = .returned (.tuple #[]) ∧ w = w' := by
  go_enter Tryz.func139, Tryz.ntmps139
  go_wp2_with fail
  go_loopw [8] (fun b wr => b = .int .i64 1 ∧ wr = w) (fun _ _ => 0)
  case atStart => exact ⟨rfl, rfl⟩
  case round =>
    obtain ⟨rfl, rfl⟩ := hrel
    go_wp2_with fail
    go_end0
    exact ⟨rfl, rfl⟩
theorem fin_of {xs : List Sw} {now : Int} {m : Nat} (hm : xs.length = m + 1) : ∃ d : Array (Fin (m + 1)), d.toList.map (·.val) = pl xs now xs.length := by
  refine ⟨((pl xs now xs.length).map fun i => if h : i < m + 1 then (⟨i, h⟩ : Fin (m + 1)) else 0).toArray, ?_⟩
  rw [List.map_map]
  conv => rhs; rw [← List.map_id (pl xs now xs.length)]
  refine List.map_congr_left fun i hi => ?_
  have := (pl_mem.1 hi).1
  show (dite _ _ _ : Fin (m + 1)).val = i
  rw [dif_pos (by omega)]
def TurnPost (w : World) (ys : List Nat) (e : Ending) (w' : World) : Prop := ∃ A cap, e = .returned (.slice A ys.length cap) ∧ Rw eN w' A ys ∧ Below w.heap.size w w' ∧ (∀ y, A = some y → w.heap.size ≤ y.block)
theorem sort_any (pb : Nat) (A : Option Addr) (xs : List Sw) (cap : Nat) (v : Value) (w : World) (now : Int) (B : Nat) (hp : w.cell? ⟨pb, 0, none⟩ = some (.slice A xs.length cap)) (h : Rw eW w A xs) (hpb : pb < B) (hA : ∀ y, A = some y → 0 < xs.length → y.block < B) (h16 : xs.length ≤ 16)
    (ho : w.ownsRow B 3 1 v (pl xs now xs.length).length (eN.cs (pl xs now xs.length))) :
    ∃ A' c, v = .slice A' (ord xs now).length c ∧ (∀ y, A' = some y → B ≤ y.block) ∧ Calls Tryz.prog 129 #[.slice A' (ord xs now).length c, .func (.func 130) #[] #[.pointer (some ⟨pb, 0, none⟩)]] w fun e w' => e = .returned (.tuple #[]) ∧ Rw eN w' A' (ord xs now) ∧ Below B w w' := by
  have hl := ord_len xs now
  have hpl := pl_len xs now xs.length
  rcases hn : ord xs now with _ | ⟨i0, r⟩
  · rw [hn] at hl
    rw [← hl] at ho
    simp only [List.length_nil] at ho ⊢
    have key : ∃ A' c, v = .slice A' 0 c ∧ (∀ y, A' = some y → B ≤ y.block) := by
      rcases ho.2 with ⟨rfl, -⟩ | ⟨g, c, cur, rfl, hB, -⟩
      · exact ⟨none, 0, rfl, fun y e => by cases e⟩
      · exact ⟨_, _, rfl, fun y e => by injection e with e; subst e; exact hB⟩
    obtain ⟨A', c, rfl, hB⟩ := key
    refine ⟨A', c, rfl, hB, stableSort_at A' 0 c _ w (by omega) ((sort_none A' c _ w).mono ?_)⟩
    rintro e w' ⟨he, rfl⟩
    exact ⟨he, Rw.nil _ _, Below.refl _ _⟩
  · have hpos : 0 < (ord xs now).length := by rw [hn]; simp
    rw [← hn]
    obtain ⟨m, hm⟩ : ∃ m, xs.length = m + 1 := ⟨xs.length - 1, by omega⟩
    obtain ⟨d, hd⟩ := fin_of (now := now) hm
    have hdl : d.size = (pl xs now xs.length).length := by rw [← hd]; simp
    rcases ho.2 with ⟨-, h0⟩ | ⟨g, c, cur, rfl, hB, hg, hle, hmx, hs, ht⟩
    · omega
    · refine ⟨some ⟨g, 0, none⟩, c, by rw [hl], fun y e => by injection e with e; subst e; exact hB, ?_⟩
      have hH : Sort.Holds (encF m) w g 0 d := fun j hj => by
        have hjl : j < (pl xs now xs.length).length := by omega
        have e1 := ho.cellAt j (by omega)
        have e2 := ho.frozenAt j
        rw [Nat.zero_add]
        refine ⟨?_, e2⟩
        rw [e1]
        have e3 := cs_at (E := eN) (pl xs now xs.length) j (pl xs now xs.length)[j] 0 (List.getElem?_eq_getElem hjl) (by show 0 < 1; omega)
        rw [show j * eN.N + 0 = j by show j * 1 + 0 = j; omega] at e3
        rw [e3]
        show some (Value.int .i64 (((pl xs now xs.length)[j] : Nat) : Int)) = some (encF m d[j]!)
        have e4 : (pl xs now xs.length)[j] = d[j]!.val := by
          rw [getElem!_pos d j hj]
          have := congrArg (·[j]?) hd
          simp only [List.getElem?_map, Array.getElem?_toList, Array.getElem?_eq_getElem hj, List.getElem?_eq_getElem hjl, Option.map_some] at this
          exact (Option.some.inj this).symm
        rw [e4, encF]
      have hso := sort_one pb g A xs cap c d w hm hp h (by omega) (fun y hy => Nat.lt_of_lt_of_le (hA y hy (by omega)) hB) (Array.getElem?_eq_some_iff.1 hg).1 hH (by omega) now hd
      rw [hdl, ← hl] at hso
      exact stableSort_at _ _ c _ w (by omega) (hso.mono fun e w' ⟨he, h1, h2⟩ => ⟨he, h1, h2.mono hB⟩)
theorem nat_box (W : World) (k : Nat) : Rw eN (W.alloc (.cells #[.int .i64 (k : Int)] 3)) (some ⟨W.heap.size, 0, none⟩) [k] := by
  refine ⟨by simp, fun q z hq => ?_⟩
  match q, hq with
  | 0, hq =>
    simp at hq
    subst hq
    refine ⟨_, rfl, fun j v hv => ?_⟩
    match j, hv with
    | 0, hv => simp [eN] at hv; subst hv; rw [Addr.add_mid]; simp [eN]
    | j + 1, hv => simp [eN] at hv
  | q + 1, hq => simp at hq
set_option maxRecDepth 100000 in
set_option maxHeartbeats 4000000 in
theorem turns_any (now : Int) (A : Option Addr) (xs : List Sw) (cap : Nat) (w : World) (h : Rw eW w A xs) (h16 : xs.length ≤ 16) :
    Calls Tryz.prog 111 #[.slice A xs.length cap, .int .i64 now] w (TurnPost w (ord xs now)) := by
  have hln := h.1
  have R := Lib.hid (h.below ((Below.refl _ w).alloc (Nat.le_refl _) (.cells #[.slice A xs.length cap] 30)))
  have HB := Lib.hid (show Below w.heap.size w (w.alloc (.cells #[.slice A xs.length cap] 30)) from (Below.refl _ w).alloc (Nat.le_refl _) _)
  have HA := Lib.hid (show ∀ y, A = some y → 0 < xs.length → y.block < w.heap.size from fun y hy hp => by
    obtain ⟨y', hy', hc⟩ := h.2 0 xs[0] (List.getElem?_eq_getElem hp)
    rw [hy] at hy'
    obtain rfl := Option.some.inj hy'
    have := World.block_lt_of_cell? _ _ (hc 0 _ rfl)
    rwa [add_block] at this)
  have HS := Lib.hid (fun B v W hp hR hpb hA ho => sort_any w.heap.size A xs cap v W now B hp hR hpb hA h16 ho)
  clear h
  have HPL := Lib.hid (fun k => pl_succ xs now k)
  have HLN := Lib.hid (fun k => pl_len xs now k)
  obtain ⟨L, hL⟩ : ∃ L, xs.length = L := ⟨_, rfl⟩
  have HL := Lib.hid hL
  rw [hL] at hln HS HB h16 R HA ⊢
  clear hL
  have b0 : (w.alloc (.cells #[.slice A L cap] 30)).cell? ⟨w.heap.size, 0, none⟩ = some (.slice A L cap) := by simp
  have hs : w.heap.size < (w.alloc (.cells #[.slice A L cap] 30)).heap.size := by simp
  go_enter Tryz.func111, Tryz.ntmps111
  go_wp2_with fail
  generalize w.alloc (.cells #[.slice A L cap] 30) = W at *
  go_loopw [5, 10] (fun v i wr => ∃ k : Nat, i = .int .i64 k ∧ k ≤ L ∧ Hid (wr.ownsRow W.heap.size 3 1 v (pl xs now k).length (eN.cs (pl xs now k)) ∧ Below W.heap.size W wr)) (fun _ i _ => L - (intOf i).toNat)
  case atStart => exact ⟨0, rfl, by omega, Lib.hid ⟨World.ownsRow_nil _ _ _ _, Below.refl _ _⟩⟩
  case round =>
    obtain ⟨k, rfl, hk, HW⟩ := hrel
    by_cases hkL : k < L
    · obtain ⟨x, hx⟩ : ∃ x, xs[k]? = some x := ⟨_, List.getElem?_eq_getElem (by rw [HL.out]; exact hkL)⟩
      obtain ⟨y, rfl⟩ := rw_some R.out (by rw [HL.out]; omega)
      have hat := (R.out.below HW.out.2).at hx
      have HX := Lib.hid hx
      have HD := Lib.hid (du_at hx)
      have B1 := Lib.hid (show Below W.heap.size W (wr.alloc (Swx x)) from HW.out.2.alloc HW.out.2.size _)
      have O1 := Lib.hid (own_keep HW.out.1 ((Below.refl _ wr).alloc (Nat.le_refl _) (Swx x)))
      clear hx
      by_cases hdue : x.d ≤ now
      · have HE := Lib.hid (show pl xs now (k + 1) = pl xs now k ++ [k] by rw [HPL.out, HD.out, if_pos hdue])
        have B2 := Lib.hid (show Below W.heap.size W ((wr.alloc (Swx x)).alloc (.cells #[.int .i64 (k : Int)] 3)) from B1.out.alloc B1.out.size _)
        have O2 := Lib.hid (own_keep O1.out ((Below.refl _ (wr.alloc (Swx x))).alloc (Nat.le_refl _) (.cells #[.int .i64 (k : Int)] 3)))
        have N2 := Lib.hid (nat_box (wr.alloc (Swx x)) k)
        have hlen : (pl xs now k).length + 1 ≤ 1000000000000 := by have := HLN.out k; omega
        have hbase := Lib.hid B2.out.size
        unfold Swx at *
        go_wp2_with (first | (refine at_load39 (.tmp 13) rfl rfl (y.add (k * 4)) x rfl hat ?_) | (at_builtin; refine wpList_append_rw tN _ rfl (.tmp 19) (.tmp 21) rfl W.heap.size _ _ _ (by simp [Act.eval, Act.put]) O2.out _ 1 1 [k] (by simp [Act.eval, Act.put]) rfl N2.out hlen hbase.out ?_))
        intro v2 w2 ho2 hg2
        have O3 := Lib.hid ho2
        have B3 := Lib.hid (B2.out.grown hg2 hbase.out (fun j hj => (O2.out.lt j hj).1))
        clear ho2 hg2
        go_wp2_with fail
        go_roundw
        case rel => exact ⟨k + 1, by go_num, by omega, Lib.hid ⟨by rw [HE.out, List.length_append]; exact O3.out, B3.out⟩⟩
        case measure => simp [intOf]; omega
      · have HE := Lib.hid (show pl xs now (k + 1) = pl xs now k by rw [HPL.out, HD.out, if_neg hdue, List.append_nil])
        unfold Swx at *
        go_wp2_with (refine at_load39 (.tmp 13) rfl rfl (y.add (k * 4)) x rfl hat ?_)
        go_roundw
        case rel => exact ⟨k + 1, by go_num, by omega, Lib.hid ⟨by rw [HE.out]; exact O1.out, B1.out⟩⟩
        case measure => simp [intOf]; omega
    · obtain rfl : k = L := by omega
      have hp : wr.cell? ⟨w.heap.size, 0, none⟩ = some (.slice A k cap) := by rw [HW.out.2.cell (p := ⟨w.heap.size, 0, none⟩) hs]; exact b0
      obtain ⟨A', c, rfl, hAB, hc⟩ := HS.out W.heap.size _ wr hp (R.out.below HW.out.2) hs (fun y hy hp => Nat.lt_trans (HA.out y hy hp) hs) HW.out.1
      have HC := Lib.hid hc
      have HAB := Lib.hid hAB
      clear hc hp hAB
      go_wp2_with fail
      refine HC.out.mono ?_
      rintro e w1 ⟨rfl, h1, h2⟩
      have H1 := Lib.hid h1
      have H2 := Lib.hid (HB.out.trans ((HW.out.2.trans h2).mono HB.out.size))
      clear h1 h2
      go_wp2_with fail
      go_ret
      exact ⟨A', c, rfl, H1.out, H2.out, fun y hy => by have := HAB.out y hy; have := HB.out.size; omega⟩
end Go.Proofs.YtilneflfeegnfaaGreat.Sw
