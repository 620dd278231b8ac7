/-
  The events of acts, ticks some at a time. Conditions: the acts lie in memory, their numbers are in their bounds.
-/
import Derived.Test.YtilneflfeegnfaaGreatOpEvM
import Derived.BigGuard
set_option linter.unusedSimpArgs false
set_option linter.unusedVariables false
namespace Go.Proofs.YtilneflfeegnfaaGreat
open Go.RowKit
def nmA (y : Ak) : Nat := if (evA y).k = 0 then (y.t % 12).toNat else 0
def evk (y : Ak) : List Evt := List.replicate (nmA y + 1) (evA y)
def evsL (ys : List Ak) : List Evt := ys.flatMap evk
theorem nmA_lt (y : Ak) (h : y.Ok) : nmA y < 12 := by
  unfold nmA
  split <;> omega
theorem evsL_snoc (ys : List Ak) (y : Ak) : evsL (ys ++ [y]) = evsL ys ++ evk y := by simp [evsL]
theorem evsL_ok (ys : List Ak) (h : ∀ y ∈ ys, y.Ok) : ∀ e ∈ evsL ys, e.Ok := by
  intro e he
  simp only [evsL, List.mem_flatMap] at he
  obtain ⟨y, hy, he⟩ := he
  have := List.eq_of_mem_replicate he
  rw [this]
  exact evA_ok y (h y hy)
def eEv : El Evt := ⟨evl, 19, by decide, fun _ => rfl, by
  intro x u hu
  simp [evl] at hu
  rcases hu with rfl | rfl | rfl | rfl | rfl | rfl | rfl | rfl | rfl | rfl | rfl | rfl | rfl | rfl | rfl | rfl | rfl | rfl | rfl <;> rfl⟩
theorem infoEv : (Tryz.prog.info? 51).map (fun i => (i.zero.map (·.cells.size), i.size, decide (i.bytes ≤ 100))) = some (some 19, 19, true) := by kernel_rfl
theorem tEv : Ty eEv 36 51 := ⟨Tryz.underlying36, by
  obtain ⟨i, hi, he⟩ := Option.map_eq_some_iff.1 infoEv
  simp only [Prod.mk.injEq, Option.map_eq_some_iff, decide_eq_true_eq] at he
  obtain ⟨⟨z, hz, hc⟩, hs, hb⟩ := he
  exact ⟨i, z, i.bytes, hi, hz, hs, rfl, hc, hb⟩⟩
theorem size_act (w : World) : (Go.sizeOf 79).run Tryz.prog w = .ok 6 w := by
  have : (Tryz.prog.info? 79).map (·.size) = some 6 := by kernel_rfl
  obtain ⟨i, hi, hs⟩ := Option.map_eq_some_iff.1 this
  rw [← hs]
  simp [Go.sizeOf, typeInfo, hi]
theorem load_act {w : World} {x : Addr} {z : Ak} (h : ∀ j v, (akl z)[j]? = some v → w.cell? (x.add j) = some v) : (Instr.loadAt 79 (.pointer (some x))).run Tryz.prog w = .ok (akv z) w := by
  have hl : (loadCells x 6).run Tryz.prog w = .ok (akl z).toArray w := run_loadCells_list (P := Tryz.prog) w x (akl z) h
  have hg : (isAgg 79).run Tryz.prog w = .ok true w := by
    unfold isAgg
    simp only [Sem.run_bind, run_underlying Tryz.underlying79, Result.andThen_ok, Sem.run_pure]
  simp only [Instr.loadAt, Instr.sureAddr, loadVar, Sem.run_bind, Sem.run_pure, Result.andThen_ok, hg, size_act, hl, if_true]
  rfl
theorem at_ld_act {ops : Array Oper} {rest : List Oper} {o : Oper} {a : Act} {w : World} {Q : Exit → Act → World → Prop} (x : Operand) (y : Addr) (z : Ak) (hr : ∀ j v, (akl z)[j]? = some v → w.cell? (y.add j) = some v) (hgd : o.guard = none) (ho : o.op = .load 79 x) (hx : a.eval x = .pointer (some y))
    (h : wpList Tryz.prog ops Q rest (a.put o.dst (akv z)) w) : wpList Tryz.prog ops Q (o :: rest) a w :=
  wpList_plain hgd fun _ hK => by
    unfold Oper.wp execOp
    simp only [ho, hx, Sem.run_bind, Sem.run_pure, Result.andThen_ok, load_act hr]
    exact hK _ _ h
theorem size_evt (w : World) : (Go.sizeOf 51).run Tryz.prog w = .ok 19 w := by
  have : (Tryz.prog.info? 51).map (·.size) = some 19 := by kernel_rfl
  obtain ⟨i, hi, hs⟩ := Option.map_eq_some_iff.1 this
  rw [← hs]
  simp [Go.sizeOf, typeInfo, hi]
theorem load_evt {w : World} {x : Addr} {z : Evt} (h : ∀ j v, (evl z)[j]? = some v → w.cell? (x.add j) = some v) : (Instr.loadAt 51 (.pointer (some x))).run Tryz.prog w = .ok (evv z) w := by
  have hl : (loadCells x 19).run Tryz.prog w = .ok (evl z).toArray w := run_loadCells_list (P := Tryz.prog) w x (evl z) h
  have hg : (isAgg 51).run Tryz.prog w = .ok true w := by
    unfold isAgg
    simp only [Sem.run_bind, run_underlying Tryz.underlying51, Result.andThen_ok, Sem.run_pure]
  simp only [Instr.loadAt, Instr.sureAddr, loadVar, Sem.run_bind, Sem.run_pure, Result.andThen_ok, hg, size_evt, hl, if_true]
  rfl
theorem at_ld_evt {ops : Array Oper} {rest : List Oper} {o : Oper} {a : Act} {w : World} {Q : Exit → Act → World → Prop} (x : Operand) (y : Addr) (z : Evt) (hr : ∀ j v, (evl z)[j]? = some v → w.cell? (y.add j) = some v) (hgd : o.guard = none) (ho : o.op = .load 51 x) (hx : a.eval x = .pointer (some y))
    (h : wpList Tryz.prog ops Q rest (a.put o.dst (evv z)) w) : wpList Tryz.prog ops Q (o :: rest) a w :=
  wpList_plain hgd fun _ hK => by
    unfold Oper.wp execOp
    simp only [ho, hx, Sem.run_bind, Sem.run_pure, Result.andThen_ok, load_evt hr]
    exact hK _ _ h
theorem run_sla (A : Option Addr) (n c i : Nat) (hi : i ≤ c) (W : World) : (Instr.slice 24 (.slice A n c) none (some (.int .i64 (i : Int))) none).run Tryz.prog W = .ok (.slice A i c) W := by
  have h1 : (i : Int) ≤ c := by omega
  have h2 : A.map (·.add (0 * 6)) = A := by cases A <;> simp [Addr.add]
  unfold Instr.slice Instr.sliceBounds Instr.sliceBound
  simp only [Sem.run_bind, run_underlying Tryz.underlying24, Result.andThen_ok, Sem.run_pure, size_act, asIntOf]
  try simp only [Option.isSome_none, Bool.false_eq_true, if_false, Sem.run_bind, Sem.run_pure, Result.andThen_ok]
  rw [if_pos ⟨by omega, h1⟩]
  simp only [Sem.run_bind, Sem.run_pure, Result.andThen_ok, h2, ite_self, Nat.sub_zero, Int.toNat_natCast]
theorem at_storeAk {ops : Array Oper} {rest : List Oper} {o : Oper} {a : Act} {w : World} {Q : Exit → Act → World → Prop} (x y : Operand) (b : Nat) (e e' : Ak) (H : Cx w b (akl e)) (hgd : o.guard = none) (ho : o.op = .store 79 x y) (hx : a.eval x = .pointer (some ⟨b, 0, none⟩)) (hy : a.eval y = akv e')
    (h : ∀ w', Hid (Cx w' b (akl e')) → Hid (∀ B, B ≤ b → Below B w w') → Hid (∀ k, k ≠ b → w'.heap[k]? = w.heap[k]?) → wpList Tryz.prog ops Q rest (a.put o.dst undef) w') : wpList Tryz.prog ops Q (o :: rest) a w :=
  at_put 79 x y b [] (akl e) (akl e') [] (by simpa using H) rfl (by kernel_rfl) (by simp [akl, Value.oneCell']) hgd ho hx hy (fun w' h1 h2 h3 => h w' (Lib.hid (by simpa using h1.out)) h2 h3)
theorem cx_grown {w w' : World} {b : Nat} {row : Option Nat} {u : Value} {L : List Value} (h : Cx w b (u :: L)) (hg : w.grownBy w' row) (hne : row ≠ some b) : Cx w' b (u :: L) := by
  have hb := hg.block b h.lt (fun e => hne e.symm)
  have e : ∀ j, w'.cell? ⟨b, j, none⟩ = w.cell? ⟨b, j, none⟩ := fun j => by unfold World.cell?; simp only [hb]
  have f : ∀ j, w'.frozen? ⟨b, j, none⟩ = w.frozen? ⟨b, j, none⟩ := fun j => by unfold World.frozen?; simp only [hb]
  exact ⟨fun j v hv => by rw [e]; exact h.1 j v hv, fun j hj => by rw [e, f]; exact h.2 j hj⟩
theorem evr_box (W : World) (p : Evt) : Rw eEv (W.alloc (Evx p)) (some ⟨W.heap.size, 0, none⟩) [p] := by
  refine ⟨by simp, fun q x hq => ⟨_, rfl, fun j v hv => ?_⟩⟩
  match q, hq with
  | 0, hq =>
    obtain rfl : p = x := by simpa using hq
    have := (ev_box W p).key j v hv
    by_cases hj : j = 0
    · subst hj
      simpa [Addr.add, eEv] using this
    · simpa [Addr.add, eEv, hj] using this
  | q + 1, hq => simp at hq
theorem at_loadAk {ops : Array Oper} {rest : List Oper} {o : Oper} {a : Act} {w : World} {Q : Exit → Act → World → Prop} (x : Operand) (b : Nat) (e : Ak) (H : Cx w b (akl e)) (hgd : o.guard = none) (ho : o.op = .load 79 x) (hx : a.eval x = .pointer (some ⟨b, 0, none⟩))
    (h : wpList Tryz.prog ops Q rest (a.put o.dst (akv e)) w) : wpList Tryz.prog ops Q (o :: rest) a w :=
  at_get 79 _ x b [] (akl e) [] (by simpa using H) Tryz.underlying79 rfl (by kernel_rfl) hgd ho hx h
theorem nmA_0 {y : Ak} (h : y.Ok) (h0 : (evA y).k = 0) : (nmA y : Int) = y.t % 12 := by unfold nmA; rw [if_pos h0]; omega
theorem nmA_n {y : Ak} (h0 : (evA y).k ≠ 0) : nmA y = 0 := by unfold nmA; rw [if_neg h0]
theorem at_loadEvL {ops : Array Oper} {rest : List Oper} {o : Oper} {a : Act} {w : World} {Q : Exit → Act → World → Prop} (x : Operand) (b : Nat) {ek ea p0 p1 p2 p3 p4 p5 eb en sf s0 s1 s2 s3 s4 s5 st : Int} {eo : ByteArray} (H : Cx w b (evl (⟨ek, ⟨ea, eo, p0, p1, p2, p3, p4, p5⟩, eb, en, ⟨sf, s0, s1, s2, s3, s4, s5, st⟩⟩ : Evt))) (hgd : o.guard = none) (ho : o.op = .load 51 x) (hx : a.eval x = .pointer (some ⟨b, 0, none⟩))
    (h : wpList Tryz.prog ops Q rest (a.put o.dst (.agg #[.int .i64 ek, .int .u32 ea, .string eo, .int .u8 p0, .int .u8 p1, .int .u8 p2, .int .u8 p3, .int .u8 p4, .int .u8 p5, .int .u32 eb, .int .i64 en, .int .i64 sf, .int .u8 s0, .int .u8 s1, .int .u8 s2, .int .u8 s3, .int .u8 s4, .int .u8 s5, .int .i64 st])) w) : wpList Tryz.prog ops Q (o :: rest) a w :=
  at_loadEv x b (⟨ek, ⟨ea, eo, p0, p1, p2, p3, p4, p5⟩, eb, en, ⟨sf, s0, s1, s2, s3, s4, s5, st⟩⟩ : Evt) H hgd ho hx h
def EvsPost (w : World) (es : List Evt) (e : Ending) (w' : World) : Prop := ∃ A cap, e = .returned (.slice A es.length cap) ∧ Rw eEv w' A es ∧ es.length ≤ cap ∧ Below w.heap.size w w'
set_option maxRecDepth 100000 in
set_option maxHeartbeats 8000000 in
theorem events_any (A : Option Addr) (ys : List Ak) (cap : Nat) (w : World) (hr : Rw eAk w A ys) (hcap : ys.length ≤ cap) (hy : ∀ x ∈ ys, x.Ok) : Calls Tryz.prog 13 #[.slice A ys.length cap] w (EvsPost w (evsL (ys.take 60))) := by
  have hln := hr.1
  obtain ⟨zs, hzs⟩ : ∃ zs, ys.take 60 = zs := ⟨_, rfl⟩
  have HOK := Lib.hid (show ∀ y ∈ zs, y.Ok from fun y h => hy y (List.mem_of_mem_take (hzs ▸ h)))
  have hzn : zs.length = min 60 ys.length := by rw [← hzs, List.length_take]
  have RZ := Lib.hid (show Rw eAk w A zs from hzs ▸ hr.take 60)
  rw [hzs]
  clear hr hy hzs
  obtain ⟨Ly, hLy⟩ : ∃ n, ys.length = n := ⟨_, rfl⟩
  rw [hLy] at hln hcap hzn ⊢
  clear hLy
  obtain ⟨N, hN⟩ : ∃ n, zs.length = n := ⟨_, rfl⟩
  have HN := Lib.hid hN
  rw [hN] at hzn
  clear hN
  have hmin : min (Ly : Int) 60 = (N : Int) := by omega
  have hNc : N ≤ cap := by omega
  have hN60 : N ≤ 60 := by omega
  have HSL := run_sla A Ly cap N hNc
  clear hzn
  go_enter Tryz.func13, Tryz.ntmps13
  go_wp2_with fail
  go_loopw [3, 14] (fun v i wr => ∃ k : Nat, i = .int .i64 k ∧ k ≤ N ∧ Hid (wr.ownsRow w.heap.size 51 19 v (evsL (zs.take k)).length (eEv.cs (evsL (zs.take k))) ∧ (evsL (zs.take k)).length ≤ 12 * k ∧ Below w.heap.size w wr)) (fun _ i _ => N - (intOf i).toNat)
  case atStart => exact ⟨0, rfl, by omega, Lib.hid ⟨World.ownsRow_nil _ _ _ _, by simp [evsL], Below.refl _ _⟩⟩
  case round =>
    obtain ⟨k, rfl, hk, HR⟩ := hrel
    by_cases hkN : k < N
    · obtain ⟨z, hz⟩ : ∃ z, zs[k]? = some z := ⟨_, List.getElem?_eq_getElem (by rw [HN.out]; exact hkN)⟩
      have hzk := HOK.out z (List.mem_of_getElem? hz)
      obtain ⟨y, rfl⟩ := rw_some RZ.out (by rw [HN.out]; omega)
      obtain ⟨hO, hlen, hB⟩ := HR.out
      have hat := (RZ.out.below hB).at hz
      have HT := Lib.hid (show evsL (zs.take (k + 1)) = evsL (zs.take k) ++ List.replicate (nmA z + 1) (evA z) by rw [List.take_add_one, hz]; exact evsL_snoc _ _)
      obtain ⟨L, hL⟩ : ∃ L, evsL (zs.take k) = L := ⟨_, rfl⟩
      rw [hL] at hO hlen HT
      have HEV := fun W => ev_any z W hzk
      have hnm := nmA_lt z hzk
      have hnm0 := nmA_0 hzk
      have hnmn := @nmA_n z
      have ht0 := hzk.t
      obtain ⟨nm, hn⟩ : ∃ n, nmA z = n := ⟨_, rfl⟩
      obtain ⟨E, hE⟩ : ∃ E, evA z = E := ⟨_, rfl⟩
      rw [hE] at HT HEV hnm0 hnmn
      rw [hn] at HT hnm hnm0 hnmn
      clear hE hn hL hzk hz
      obtain ⟨zq, za, zb, zm, zo, zt⟩ := z
      obtain ⟨ek, ⟨ea, eo, p0, p1, p2, p3, p4, p5⟩, eb, en, ⟨sf, s0, s1, s2, s3, s4, s5, st⟩⟩ := E
      dsimp only at hnm0 hnmn ht0
      have OW := Lib.hid hO
      have BW := Lib.hid hB
      simp only [akv, evv, evl] at HEV
      replace HEV := Lib.hid HEV
      have ZB := Lib.hid (show Cx (wr.alloc (.cells #[.int .u8 0, .int .u8 0, .int .u8 0, .int .u8 0, .int .u8 0, .int .u8 0] 79)) wr.heap.size (akl ⟨0, 0, 0, 0, 0, 0⟩) from cx_box _ _ _ _ rfl)
      have BL0 := Lib.hid (show Below wr.heap.size wr (wr.alloc (.cells #[.int .u8 0, .int .u8 0, .int .u8 0, .int .u8 0, .int .u8 0, .int .u8 0] 79)) from (Below.refl _ _).alloc (Nat.le_refl _) _)
      clear hO hB HR
      go_upto_region 5 with (first | (refine at_ld_act (.tmp 16) (y.add (k * 6)) (⟨zq, za, zb, zm, zo, zt⟩ : Ak) hat rfl rfl rfl ?_) | (refine at_storeAk _ _ wr.heap.size ⟨0, 0, 0, 0, 0, 0⟩ (⟨zq, za, zb, zm, zo, zt⟩ : Ak) ZB.out rfl rfl rfl rfl ?_; intro w1 Z1 hb1 hk1; have BL1 := Lib.hid (BL0.out.trans (hb1.out _ (Nat.le_refl _)))))
      clear hb1 hk1 ZB BL0 hat
      go_wp2_with (refine at_loadAk _ wr.heap.size (⟨zq, za, zb, zm, zo, zt⟩ : Ak) Z1.out rfl rfl rfl ?_)
      refine (HEV.out _).mono ?_
      rintro e w2 ⟨rfl, hb⟩
      have BL2 := Lib.hid (BL1.out.trans (hb.mono BL1.out.size))
      have Z2 := Lib.hid (show Cx w2 wr.heap.size (akl (⟨zq, za, zb, zm, zo, zt⟩ : Ak)) from Cx.below Z1.out hb)
      have hlt : wr.heap.size < w2.heap.size := Z2.out.lt
      have E3 := Lib.hid (show Cx (w2.alloc (Evx ze)) w2.heap.size (evl ze) from cx_box _ _ _ _ rfl)
      have BL3 := Lib.hid (show Below wr.heap.size wr (w2.alloc (Evx ze)) from BL2.out.alloc BL2.out.size _)
      have Z3 := Lib.hid (show Cx (w2.alloc (Evx ze)) wr.heap.size (akl (⟨zq, za, zb, zm, zo, zt⟩ : Ak)) from Cx.below Z2.out ((Below.refl _ _).alloc (Nat.le_refl _) _))
      clear hb HEV Z1 BL1 BL2 Z2
      go_upto_region 6 with (refine at_storeEv _ _ w2.heap.size ze (⟨ek, ⟨ea, eo, p0, p1, p2, p3, p4, p5⟩, eb, en, ⟨sf, s0, s1, s2, s3, s4, s5, st⟩⟩ : Evt) E3.out rfl rfl rfl rfl ?_; intro w3 E4 hb3 hk3)
      have BL4 := Lib.hid (BL3.out.trans (hb3.out _ (by omega)))
      have Z4 := Lib.hid (Z3.out.keep (hb3.out _ (Nat.le_refl _)) hlt)
      have BX := Lib.hid (show Below w3.heap.size w3 (w3.alloc (.cells #[.int .i64 ek, .int .u32 ea, .string eo, .int .u8 p0, .int .u8 p1, .int .u8 p2, .int .u8 p3, .int .u8 p4, .int .u8 p5, .int .u32 eb, .int .i64 en, .int .i64 sf, .int .u8 s0, .int .u8 s1, .int .u8 s2, .int .u8 s3, .int .u8 s4, .int .u8 s5, .int .i64 st] 51)) from (Below.refl _ _).alloc (Nat.le_refl _) _)
      have BL5 := Lib.hid (BL4.out.trans (BX.out.mono BL4.out.size))
      have Z5 := Lib.hid (show Cx (w3.alloc (.cells #[.int .i64 ek, .int .u32 ea, .string eo, .int .u8 p0, .int .u8 p1, .int .u8 p2, .int .u8 p3, .int .u8 p4, .int .u8 p5, .int .u32 eb, .int .i64 en, .int .i64 sf, .int .u8 s0, .int .u8 s1, .int .u8 s2, .int .u8 s3, .int .u8 s4, .int .u8 s5, .int .i64 st] 51)) wr.heap.size (akl (⟨zq, za, zb, zm, zo, zt⟩ : Ak)) from Cx.below Z4.out BX.out)
      have E5 := Lib.hid (show Cx (w3.alloc (.cells #[.int .i64 ek, .int .u32 ea, .string eo, .int .u8 p0, .int .u8 p1, .int .u8 p2, .int .u8 p3, .int .u8 p4, .int .u8 p5, .int .u32 eb, .int .i64 en, .int .i64 sf, .int .u8 s0, .int .u8 s1, .int .u8 s2, .int .u8 s3, .int .u8 s4, .int .u8 s5, .int .i64 st] 51)) w2.heap.size (evl (⟨ek, ⟨ea, eo, p0, p1, p2, p3, p4, p5⟩, eb, en, ⟨sf, s0, s1, s2, s3, s4, s5, st⟩⟩ : Evt)) from Cx.below E4.out BX.out)
      have RX := Lib.hid (show Rw eEv (w3.alloc (.cells #[.int .i64 ek, .int .u32 ea, .string eo, .int .u8 p0, .int .u8 p1, .int .u8 p2, .int .u8 p3, .int .u8 p4, .int .u8 p5, .int .u32 eb, .int .i64 en, .int .i64 sf, .int .u8 s0, .int .u8 s1, .int .u8 s2, .int .u8 s3, .int .u8 s4, .int .u8 s5, .int .i64 st] 51)) (some ⟨w3.heap.size, 0, none⟩) [(⟨ek, ⟨ea, eo, p0, p1, p2, p3, p4, p5⟩, eb, en, ⟨sf, s0, s1, s2, s3, s4, s5, st⟩⟩ : Evt)] from evr_box w3 (⟨ek, ⟨ea, eo, p0, p1, p2, p3, p4, p5⟩, eb, en, ⟨sf, s0, s1, s2, s3, s4, s5, st⟩⟩ : Evt))
      have OW5 := Lib.hid (own_keep OW.out BL5.out)
      have hb6 : w.heap.size ≤ (w3.alloc (.cells #[.int .i64 ek, .int .u32 ea, .string eo, .int .u8 p0, .int .u8 p1, .int .u8 p2, .int .u8 p3, .int .u8 p4, .int .u8 p5, .int .u32 eb, .int .i64 en, .int .i64 sf, .int .u8 s0, .int .u8 s1, .int .u8 s2, .int .u8 s3, .int .u8 s4, .int .u8 s5, .int .i64 st] 51)).heap.size := Nat.le_trans BW.out.size BL5.out.size
      have hl3 : w2.heap.size < (w3.alloc (.cells #[.int .i64 ek, .int .u32 ea, .string eo, .int .u8 p0, .int .u8 p1, .int .u8 p2, .int .u8 p3, .int .u8 p4, .int .u8 p5, .int .u32 eb, .int .i64 en, .int .i64 sf, .int .u8 s0, .int .u8 s1, .int .u8 s2, .int .u8 s3, .int .u8 s4, .int .u8 s5, .int .i64 st] 51)).heap.size := E5.out.lt
      have hll : L.length + 1 ≤ 1000000000000 := by omega
      clear hb3 hk3 BL3 E3 Z3 BL4 Z4 BX
      go_wp2_with (first | (refine at_loadEvL _ w2.heap.size E4.out rfl rfl rfl ?_) | (at_builtin; refine wpList_append_rw2 tEv _ rfl (.tmp 20) (.tmp 22) rfl w.heap.size _ L.length L (by simp [Act.eval, Act.put]) OW5.out _ 1 1 [(⟨ek, ⟨ea, eo, p0, p1, p2, p3, p4, p5⟩, eb, en, ⟨sf, s0, s1, s2, s3, s4, s5, st⟩⟩ : Evt)] (by simp [Act.eval, Act.put]) rfl RX.out hll hb6 ?_))
      intro v7 w7 ho7 hg7 hn7
      have hl4 : w2.heap.size < w3.heap.size + 1 := by simpa using hl3
      have NB := Lib.hid (show v7.ownBlock ≠ some wr.heap.size ∧ v7.ownBlock ≠ some w2.heap.size from by
        refine ⟨fun h => ?_, fun h => ?_⟩
        · rcases hn7 with e | e
          · have := (OW.out.lt _ (e.symm.trans h)).2; omega
          · rw [e] at h; injection h with h; omega
        · rcases hn7 with e | e
          · have := (OW.out.lt _ (e.symm.trans h)).2; omega
          · rw [e] at h; injection h with h; omega)
      have E7 := Lib.hid (cx_grown E5.out hg7 (fun h => by have := (OW.out.lt _ h).2; omega))
      have Z7 := Lib.hid (cx_grown Z5.out hg7 (fun h => by have := (OW.out.lt _ h).2; omega))
      have BW7 := Lib.hid ((BW.out.trans (BL5.out.mono BW.out.size)).grown hg7 hb6 (fun g hg => (OW.out.lt g hg).1))
      have O7 := Lib.hid ho7
      clear ho7 hg7 hn7 OW BW BL5 OW5 RX E5 Z5 hb6 hl3 hl4 hll E4
      generalize wr.heap.size = b5 at *
      generalize w2.heap.size = b6 at *
      go_wp2_with fail
      go_loopw [3, 7] (fun v i wx => ∃ j : Nat, i = .int .i64 j ∧ j ≤ nm ∧ Hid (wx.ownsRow w.heap.size 51 19 v (L.length + (j + 1)) (eEv.cs (L ++ List.replicate (j + 1) (⟨ek, ⟨ea, eo, p0, p1, p2, p3, p4, p5⟩, eb, en, ⟨sf, s0, s1, s2, s3, s4, s5, st⟩⟩ : Evt))) ∧ (v.ownBlock ≠ some b5 ∧ v.ownBlock ≠ some b6) ∧ Cx wx b5 (akl (⟨zq, za, zb, zm, zo, zt⟩ : Ak)) ∧ Cx wx b6 (evl (⟨ek, ⟨ea, eo, p0, p1, p2, p3, p4, p5⟩, eb, en, ⟨sf, s0, s1, s2, s3, s4, s5, st⟩⟩ : Evt)) ∧ Below w.heap.size w wx)) (fun _ i _ => nm - (intOf i).toNat)
      case atStart => exact ⟨0, rfl, by omega, Lib.hid ⟨O7.out, NB.out, Z7.out, E7.out, BW7.out⟩⟩
      case round =>
        obtain ⟨j, rfl, hj, HI⟩ := hrel
        clear O7 NB Z7 E7 BW7
        obtain ⟨hO, hNB, hZ, hE, hB⟩ := HI.out
        have z5 := hZ.key 5 _ rfl
        have e0 := hE.key 0 _ rfl
        dsimp only at z5 e0
        clear HI
        by_cases hk0 : ek = 0
        · subst hk0
          have hnt := hnm0 rfl
          by_cases hj2 : j < nm
          · have hjt : (j : Int) < zt % 12 := by omega
            go_upto_region 10 with fail
            have BX := Lib.hid (show Below wr.heap.size wr (wr.alloc (.cells #[.int .i64 0, .int .u32 ea, .string eo, .int .u8 p0, .int .u8 p1, .int .u8 p2, .int .u8 p3, .int .u8 p4, .int .u8 p5, .int .u32 eb, .int .i64 en, .int .i64 sf, .int .u8 s0, .int .u8 s1, .int .u8 s2, .int .u8 s3, .int .u8 s4, .int .u8 s5, .int .i64 st] 51)) from (Below.refl _ _).alloc (Nat.le_refl _) _)
            have OX := Lib.hid (own_keep hO BX.out)
            have ZX := Lib.hid (Cx.below hZ BX.out)
            have EX := Lib.hid (Cx.below hE BX.out)
            have RX := Lib.hid (show Rw eEv (wr.alloc (.cells #[.int .i64 0, .int .u32 ea, .string eo, .int .u8 p0, .int .u8 p1, .int .u8 p2, .int .u8 p3, .int .u8 p4, .int .u8 p5, .int .u32 eb, .int .i64 en, .int .i64 sf, .int .u8 s0, .int .u8 s1, .int .u8 s2, .int .u8 s3, .int .u8 s4, .int .u8 s5, .int .i64 st] 51)) (some ⟨wr.heap.size, 0, none⟩) [(⟨0, ⟨ea, eo, p0, p1, p2, p3, p4, p5⟩, eb, en, ⟨sf, s0, s1, s2, s3, s4, s5, st⟩⟩ : Evt)] from evr_box wr (⟨0, ⟨ea, eo, p0, p1, p2, p3, p4, p5⟩, eb, en, ⟨sf, s0, s1, s2, s3, s4, s5, st⟩⟩ : Evt))
            have hbx : w.heap.size ≤ (wr.alloc (.cells #[.int .i64 0, .int .u32 ea, .string eo, .int .u8 p0, .int .u8 p1, .int .u8 p2, .int .u8 p3, .int .u8 p4, .int .u8 p5, .int .u32 eb, .int .i64 en, .int .i64 sf, .int .u8 s0, .int .u8 s1, .int .u8 s2, .int .u8 s3, .int .u8 s4, .int .u8 s5, .int .i64 st] 51)).heap.size := Nat.le_trans hB.size BX.out.size
            have hl5 : b5 < wr.heap.size := hZ.lt
            have hl6 : b6 < wr.heap.size := hE.lt
            have BY := Lib.hid (hB.trans (BX.out.mono hB.size))
            have E6 := Lib.hid hE
            have NB := Lib.hid hNB
            have hl7 : L.length + (j + 1) + 1 ≤ 1000000000000 := by omega
            clear hO hNB hZ hE hB z5 e0
            go_wp2_with (first | (refine at_loadEvL _ b6 E6.out rfl rfl rfl ?_) | (at_builtin; refine wpList_append_rw2 tEv _ rfl (.tmp 37) (.tmp 39) rfl w.heap.size _ (L.length + (j + 1)) (L ++ List.replicate (j + 1) (⟨0, ⟨ea, eo, p0, p1, p2, p3, p4, p5⟩, eb, en, ⟨sf, s0, s1, s2, s3, s4, s5, st⟩⟩ : Evt)) (by simp [Act.eval, Act.put]) OX.out _ 1 1 [(⟨0, ⟨ea, eo, p0, p1, p2, p3, p4, p5⟩, eb, en, ⟨sf, s0, s1, s2, s3, s4, s5, st⟩⟩ : Evt)] (by simp [Act.eval, Act.put]) rfl RX.out hl7 hbx ?_))
            intro v9 w9 ho9 hg9 hn9
            have O9 := Lib.hid (show w9.ownsRow w.heap.size 51 19 v9 (L.length + (j + 1 + 1)) (eEv.cs (L ++ List.replicate (j + 1 + 1) (⟨0, ⟨ea, eo, p0, p1, p2, p3, p4, p5⟩, eb, en, ⟨sf, s0, s1, s2, s3, s4, s5, st⟩⟩ : Evt))) from by rw [List.replicate_succ' (n := j + 1)]; exact ho9)
            have NB9 := Lib.hid (show v9.ownBlock ≠ some b5 ∧ v9.ownBlock ≠ some b6 from by
              refine ⟨fun h => ?_, fun h => ?_⟩
              · rcases hn9 with e | e
                · exact NB.out.1 (e.symm.trans h)
                · rw [e] at h; injection h with h; omega
              · rcases hn9 with e | e
                · exact NB.out.2 (e.symm.trans h)
                · rw [e] at h; injection h with h; omega)
            have E9 := Lib.hid (cx_grown EX.out hg9 NB.out.2)
            have Z9 := Lib.hid (cx_grown ZX.out hg9 NB.out.1)
            have B9 := Lib.hid (BY.out.grown hg9 hbx (fun g hg => (OX.out.lt g hg).1))
            clear ho9 hg9 hn9 OX RX EX ZX BX BY hbx E6 NB hl7
            go_wp2_with fail
            go_roundw
            case rel => exact ⟨j + 1, by go_num, by omega, Lib.hid ⟨O9.out, NB9.out, Z9.out, E9.out, B9.out⟩⟩
            case measure => simp [intOf]; omega
          · have hjt : ¬ (j : Int) < zt % 12 := by omega
            obtain rfl : j = nm := by omega
            go_wp2_with fail
            have HN := Lib.hid (show wr.ownsRow w.heap.size 51 19 _ (evsL (zs.take (k + 1))).length (eEv.cs (evsL (zs.take (k + 1)))) ∧ (evsL (zs.take (k + 1))).length ≤ 12 * (k + 1) ∧ Below w.heap.size w wr from by
              rw [HT.out, List.length_append, List.length_replicate]
              exact ⟨hO, by omega, hB⟩)
            go_roundw
            case rel => exact ⟨k + 1, by go_num, by omega, HN⟩
            case measure => simp [intOf]; omega
        · have hkb : (ek == 0) = false := by simpa using hk0
          obtain rfl := hnmn hk0
          obtain rfl : j = 0 := by omega
          by_cases hjt : ((0 : Nat) : Int) < zt % 12
          · have hjt2 : (0 : Int) < zt % 12 := hjt
            go_wp2_with fail
            have HN := Lib.hid (show wr.ownsRow w.heap.size 51 19 _ (evsL (zs.take (k + 1))).length (eEv.cs (evsL (zs.take (k + 1)))) ∧ (evsL (zs.take (k + 1))).length ≤ 12 * (k + 1) ∧ Below w.heap.size w wr from by
              rw [HT.out, List.length_append, List.length_replicate]
              exact ⟨hO, by omega, hB⟩)
            go_roundw
            case rel => exact ⟨k + 1, by go_num, by omega, HN⟩
            case measure => simp [intOf]; omega
          · have hjt2 : ¬ (0 : Int) < zt % 12 := hjt
            go_wp2_with fail
            have HN := Lib.hid (show wr.ownsRow w.heap.size 51 19 _ (evsL (zs.take (k + 1))).length (eEv.cs (evsL (zs.take (k + 1)))) ∧ (evsL (zs.take (k + 1))).length ≤ 12 * (k + 1) ∧ Below w.heap.size w wr from by
              rw [HT.out, List.length_append, List.length_replicate]
              exact ⟨hO, by omega, hB⟩)
            go_roundw
            case rel => exact ⟨k + 1, by go_num, by omega, HN⟩
            case measure => simp [intOf]; omega
    · obtain rfl : k = N := by omega
      obtain ⟨hO, hlen, hB⟩ := HR.out
      rw [List.take_of_length_le (by rw [HN.out]; exact Nat.le_refl _)] at hO hlen
      obtain ⟨A', cap', rfl, h1, h2, h3, h4, h5⟩ := own_rw (E := eEv) hO (by omega)
      go_wp2_with fail
      go_ret
      exact ⟨A', cap', rfl, h4, h1, hB⟩
end Go.Proofs.YtilneflfeegnfaaGreat
