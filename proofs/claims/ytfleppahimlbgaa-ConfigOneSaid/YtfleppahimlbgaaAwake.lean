/-
  The document's examples, and the statements' own rows of a choice. No condition.
-/
import Derived.Test.YtfleppahimlbgaaRight
namespace Go.Proofs.Ytfleppahimlbgaa
open Go.RowKit

def zf : Cf := ⟨1, 1, 1, 1, 1, 1, 0, 1, 0⟩
theorem zf_eq : ft z9 = zf := by rfl
theorem rt_z : rt z9 = 0 := by decide
theorem rt_nw : rt nw = -1 := rt_ok nw_ok
theorem awake_any (w : World) : Calls Try.prog 7 #[] w fun e w' => e = .returned (.bool true) ∧ Below w.heap.size w w' := by
  have CT := Lib.hid fun W => zf_eq ▸ fit_any z9 W
  have CN := Lib.hid new_any
  have CR := Lib.hid fun W => rt_nw ▸ right_any nw W
  have CZ := Lib.hid fun W => rt_z ▸ right_any z9 W
  go_enter Try.func7, Try.ntmps7
  go_wp2_with fail
  refine (CT.out _).mono ?_
  rintro e w1 ⟨rfl, hb⟩
  have B1 := Lib.hid hb
  have P1 := Lib.hid (cb_box w1 z9 23)
  have hs := hb.size
  clear hb
  go_wp2_with (refine at_store23 _ _ _ z9 zf P1.out rfl rfl rfl rfl ?_; intro w2 P2 B2)
  have B := Lib.hid ((B1.out.alloc hs (Cx z9 23)).trans (B2.out _ hs))
  clear P1 B1 B2
  refine (CN.out _).mono ?_
  rintro e w3 ⟨rfl, hb⟩
  have P3 := Lib.hid (P2.out.below hb)
  have B3 := Lib.hid (B.out.trans (hb.mono B.out.size))
  clear hb B P2
  go_wp2_with fail
  refine (CR.out _).mono ?_
  rintro e w4 ⟨rfl, hb⟩
  have P4 := Lib.hid (P3.out.below hb)
  have B4 := Lib.hid (B3.out.trans (hb.mono B3.out.size))
  clear hb B3 P3
  go_wp2_with fail
  refine (CZ.out _).mono ?_
  rintro e w5 ⟨rfl, hb⟩
  have P5 := Lib.hid (P4.out.below hb)
  have B5 := Lib.hid (B4.out.trans (hb.mono B4.out.size))
  clear hb B4 P4
  obtain ⟨c0, c1, c2, c3, c4, c5, c6, c7, c8⟩ := P5.out.1.c
  go_wp2_with fail
  go_ret
  exact ⟨rfl, B5.out⟩

/-- The cells of the rows of a choice. -/
def rl (x : Cf) : List Value := [.int .i64 x.a, .int .i64 1, .int .i64 1000, .int .i64 x.b, .int .i64 x.a, .int .i64 10000, .int .i64 x.c, .int .i64 1, .int .i64 6, .int .i64 x.d, .int .i64 1, .int .i64 1000, .int .i64 x.e, .int .i64 1, .int .i64 64,
  .int .i64 x.f, .int .i64 1, .int .i64 100, .int .i64 x.g, .int .i64 0, .int .i64 8, .int .i64 x.h, .int .i64 1, .int .i64 1000, .int .i64 x.i, .int .i64 0, .int .i64 1000]
def rv (x : Cf) : Value := .agg #[.int .i64 x.a, .int .i64 1, .int .i64 1000, .int .i64 x.b, .int .i64 x.a, .int .i64 10000, .int .i64 x.c, .int .i64 1, .int .i64 6, .int .i64 x.d, .int .i64 1, .int .i64 1000, .int .i64 x.e, .int .i64 1, .int .i64 64,
  .int .i64 x.f, .int .i64 1, .int .i64 100, .int .i64 x.g, .int .i64 0, .int .i64 8, .int .i64 x.h, .int .i64 1, .int .i64 1000, .int .i64 x.i, .int .i64 0, .int .i64 1000]
def Zx : Obj := .cells #[.int .i64 0, .int .i64 0, .int .i64 0, .int .i64 0, .int .i64 0, .int .i64 0, .int .i64 0, .int .i64 0, .int .i64 0, .int .i64 0, .int .i64 0, .int .i64 0, .int .i64 0, .int .i64 0, .int .i64 0, .int .i64 0, .int .i64 0, .int .i64 0, .int .i64 0, .int .i64 0, .int .i64 0, .int .i64 0, .int .i64 0, .int .i64 0, .int .i64 0, .int .i64 0, .int .i64 0] 28
def zl : List Value := [.int .i64 0, .int .i64 0, .int .i64 0, .int .i64 0, .int .i64 0, .int .i64 0, .int .i64 0, .int .i64 0, .int .i64 0, .int .i64 0, .int .i64 0, .int .i64 0, .int .i64 0, .int .i64 0, .int .i64 0, .int .i64 0, .int .i64 0, .int .i64 0, .int .i64 0, .int .i64 0, .int .i64 0, .int .i64 0, .int .i64 0, .int .i64 0, .int .i64 0, .int .i64 0, .int .i64 0]
theorem size28 : (Try.prog.info? 28).map (·.size) = some 27 := by kernel_rfl
theorem rl_one (x : Cf) : (rl x).toArray.all (·.oneCell') = true := by simp [rl, Value.oneCell']
theorem there_list (w : World) (cs : List Value) (t : TypeId) : (w.alloc (.cells cs.toArray t)).there w.heap.size 0 cs.length := by
  intro j hj
  have h : (w.alloc (.cells cs.toArray t)).heap[w.heap.size]? = some (.cells cs.toArray t) := heap_alloc_new w _
  have e : (w.alloc (.cells cs.toArray t)).cell? ⟨w.heap.size, 0 + j, none⟩ = _ := cell_of_row _ _ _ _ _ _ h
  refine ⟨?_, ?_⟩
  · rw [e, Nat.zero_add]
    simp [hj]
  · unfold World.frozen?
    rw [h]
    simp
/-- The rows of a choice that lie in block b, and may be written. -/
def Rb (w : World) (b : Nat) (cs : List Value) : Prop := w.rangeAt b 0 cs ∧ w.there b 0 27
theorem zx_there (w : World) : (w.alloc Zx).there w.heap.size 0 27 := there_list w zl 28
theorem Rb.keep {w w' : World} {b B : Nat} {cs : List Value} (h : Rb w b cs) (hb : Below B w w') (hB : b < B) : Rb w' b cs :=
  ⟨fun j v hv => by rw [hb.cell (p := ⟨b, 0 + j, none⟩) hB]; exact h.1 j v hv, fun j hj => ⟨by rw [hb.cell (p := ⟨b, 0 + j, none⟩) hB]; exact (h.2 j hj).1, by rw [hb.frozen (p := ⟨b, 0 + j, none⟩) hB]; exact (h.2 j hj).2⟩⟩
theorem there_lt {w : World} {b : Nat} (h : w.there b 0 27) : b < w.heap.size := by
  obtain ⟨v, hv⟩ := Option.isSome_iff_exists.1 (h 0 (by omega)).1
  exact World.block_lt_of_cell? _ _ hv
theorem Rb.below {w w' : World} {b : Nat} {cs : List Value} (h : Rb w b cs) (hb : Below w.heap.size w w') : Rb w' b cs := h.keep hb (there_lt h.2)
theorem load28 {w : World} {b : Nat} {x : Cf} (h : w.rangeAt b 0 (rl x)) : (loadVar 28 ⟨b, 0, none⟩).run Try.prog w = .ok (rv x) w := run_loadVar_mid w b 0 28 (rl x) _ h Try.underlying28 rfl size28
section
variable {ops : Array Oper} {rest : List Oper} {o : Oper} {a : Act} {w : World} {Q : Exit → Act → World → Prop}
theorem at_store28 (x y : Operand) (b : Nat) (q : Cf) (H : w.there b 0 27) (hgd : o.guard = none) (ho : o.op = .store 28 x y) (hx : a.eval x = .pointer (some ⟨b, 0, none⟩)) (hy : a.eval y = rv q)
    (h : ∀ w', Hid (Rb w' b (rl q)) → Hid (∀ B, B ≤ b → Below B w w') → wpList Try.prog ops Q rest (a.put o.dst undef) w') : wpList Try.prog ops Q (o :: rest) a w :=
  wpList_store_mid hgd 28 x y ho b 0 (rl q).toArray hx hy H size28 (rl_one q) (h _ ⟨World.rangeAt_setCells_same w b 0 (rl q) H, World.there_setCells H b 0 (rl q)⟩ (fun _ hB => below_put hB _ _ _ (Below.refl _ _)))
end
theorem row_any (x : Cf) (w : World) : Calls Try.prog 8 #[cv x] w fun e w' => e = .returned (rv x) ∧ Below w.heap.size w w' := by
  have B0 := Lib.hid (((Below.refl w.heap.size w).alloc (Nat.le_refl _) (Cx x 23)).alloc (by simp) Zx)
  have T0 := zx_there (w.alloc (Cx x 23))
  rw [World.size_alloc] at T0
  have T := Lib.hid T0
  clear T0
  unfold cv
  go_enter Try.func8, Try.ntmps8
  go_wp2_with (refine at_store28 _ _ _ x T.out rfl rfl rfl rfl ?_; intro w2 R2 B2)
  refine bodyPost_ret (results_cell rfl _ _ _ _ rfl (load28 R2.out.1)) rfl ?_
  exact ⟨rfl, B0.out.trans (B2.out _ (by omega))⟩
end Go.Proofs.Ytfleppahimlbgaa
