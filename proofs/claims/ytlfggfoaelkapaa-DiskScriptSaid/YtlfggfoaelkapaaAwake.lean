/-
  The contract of awake: it returns true, and turns nothing that was there. No condition.
-/
import Derived.Test.YtlfggfoaelkapaaFlush
import Derived.Lib.QuietBelow
import Derived.Deep.CutRange
set_option linter.unusedSimpArgs false
namespace Go.Proofs.Ytlfggfoaelkapaa
open Go.RowKit

theorem Ds.regrown {w : World} {p k : Nat} {pv : Value} {M : Dk} (h : Ds w p k pv M) (d : Nat) (os : Array Obj) : Ds (Sort.grow (redrawn w d) os) p k pv M := h.below (below_regrown w d os)
theorem same_re {f : FuncId} {args : Array Value} {w : World} {d : Nat} {os : Array Obj} {v : Value} (h : Calls Try.prog f args (Sort.grow (redrawn w d) os) fun e w' => e = .returned v ∧ Sort.grow (redrawn w d) os = w') : Calls Try.prog f args (Sort.grow (redrawn w d) os) fun e w'' => e = .returned v ∧ ∃ p : Regrown, w'' = Sort.grow (redrawn w p.d) p.os :=
  Calls.regrown_of (h.mono fun _ _ ⟨he, hw⟩ => ⟨he, hw ▸ Below.refl _ _⟩)
section
variable {w : World} {p k : Nat} {pv : Value} {M : Dk}
theorem size_re (h : Ds w p k pv M) (d : Nat) (os : Array Obj) : Calls Try.prog 23 #[.pointer (some ⟨p, 0, none⟩)] (Sort.grow (redrawn w d) os) fun e w'' => e = .returned (.int .i64 (M.n : Int)) ∧ ∃ q : Regrown, w'' = Sort.grow (redrawn w q.d) q.os := same_re (size_any p k pv M _ (h.regrown d os))
theorem wait_re (h : Ds w p k pv M) (d : Nat) (os : Array Obj) : Calls Try.prog 20 #[.pointer (some ⟨p, 0, none⟩)] (Sort.grow (redrawn w d) os) fun e w'' => e = .returned (.int .i64 (M.pend.length : Int)) ∧ ∃ q : Regrown, w'' = Sort.grow (redrawn w q.d) q.os := same_re (wait_any p k pv M _ (h.regrown d os))
theorem down_re (h : Ds w p k pv M) (d : Nat) (os : Array Obj) : Calls Try.prog 21 #[.pointer (some ⟨p, 0, none⟩)] (Sort.grow (redrawn w d) os) fun e w'' => e = .returned (.bool M.down) ∧ ∃ q : Regrown, w'' = Sort.grow (redrawn w q.d) q.os := same_re (down_any p k pv M _ (h.regrown d os))
theorem calls_re (h : Ds w p k pv M) (d : Nat) (os : Array Obj) : Calls Try.prog 22 #[.pointer (some ⟨p, 0, none⟩)] (Sort.grow (redrawn w d) os) fun e w'' => e = .returned (.int .i64 (M.calls : Int)) ∧ ∃ q : Regrown, w'' = Sort.grow (redrawn w q.d) q.os := same_re (calls_any p k pv M _ (h.regrown d os))
theorem sector_re (w : World) (c : Nat) (hc : c < 256) (d : Nat) (os : Array Obj) : Calls Try.prog 18 #[.int .u8 c] (Sort.grow (redrawn w d) os) fun e w'' => e = .returned (sv (sec c)) ∧ ∃ q : Regrown, w'' = Sort.grow (redrawn w q.d) q.os := Calls.regrown_of (sector_any c hc _)
end

/-- A sector whose first byte alone is other than 0. -/
def one (c : Nat) : Nat → Nat := fun j => if j = 0 then c else 0
theorem build7 (w : World) : (Instr.build 38 #[(0, .int .u8 7)]).run Try.prog w = .ok (sv (one 7)) w := run_build w 38 _ (sc (one 7)).toArray (by kernel_rfl)
theorem build8 (w : World) : (Instr.build 38 #[(0, .int .u8 8)]).run Try.prog w = .ok (sv (one 8)) w := run_build w 38 _ (sc (one 8)).toArray (by kernel_rfl)

section
variable {ops : Array Oper} {rest : List Oper} {op : Oper} {a : Act} {w : World} {Q : Exit → Act → World → Prop}
theorem at_build7 (x : Operand) (hgd : op.guard = none) (ho : op.op = .build 38 #[(0, x)]) (hx : a.eval x = .int .u8 7) (h : wpList Try.prog ops Q rest (a.put op.dst (sv (one 7))) w) : wpList Try.prog ops Q (op :: rest) a w :=
  wpList_plain hgd fun _ hK => by
    unfold Oper.wp execOp
    simp only [ho, hx, Sem.run_bind, Sem.run_pure, Result.andThen_ok, List.map_toArray, List.map_cons, List.map_nil, build7]
    exact hK _ _ h
theorem at_build8 (x : Operand) (hgd : op.guard = none) (ho : op.op = .build 38 #[(0, x)]) (hx : a.eval x = .int .u8 8) (h : wpList Try.prog ops Q rest (a.put op.dst (sv (one 8))) w) : wpList Try.prog ops Q (op :: rest) a w :=
  wpList_plain hgd fun _ hK => by
    unfold Oper.wp execOp
    simp only [ho, hx, Sem.run_bind, Sem.run_pure, Result.andThen_ok, List.map_toArray, List.map_cons, List.map_nil, build8]
    exact hK _ _ h
end
/-- A new sector with these bytes. -/
def stored (w : World) (s : Nat → Nat) : World := (w.alloc Z64).setCells w.heap.size 0 (sc s)
theorem thereZ (w : World) : (w.alloc Z64).there w.heap.size 0 64 := rowIs_there (rowZ w) (by omega)
theorem stored_below (w : World) (s : Nat → Nat) : Below w.heap.size w (stored w s) := below_setCells w.heap.size (sc s) 0 ((Below.refl _ w).alloc (Nat.le_refl _) Z64) (Nat.le_refl _)
theorem stored_range (w : World) (s : Nat → Nat) : (stored w s).rangeAt w.heap.size 0 (sc s) := World.rangeAt_setCells_same (w.alloc Z64) w.heap.size 0 (sc s) (by rw [sc_length]; exact thereZ w)
theorem stored_size (w : World) (s : Nat → Nat) : w.heap.size < (stored w s).heap.size := by
  have := stored_range w s 0 _ (sc_get (j := 0) (by omega))
  exact block_lt_of_cell this
theorem range_below {w w' : World} {b o : Nat} {vs : List Value} (h : w.rangeAt b o vs) (hb : Below w.heap.size w w') : w'.rangeAt b o vs := fun j v hv => by
  have hc := h j v hv
  rw [World.cell?_of_block (hb.block b (block_lt_of_cell hc))]
  exact hc
theorem range_cell {w : World} {b : Nat} {s : Nat → Nat} (h : w.rangeAt b 0 (sc s)) {j : Nat} (hj : j < 64) : w.cell? ⟨b, j, none⟩ = some (.int .u8 (s j : Int)) := by
  have := h j _ (sc_get hj)
  rwa [Nat.zero_add] at this
theorem ft_new {p k B : Nat} (hp : B ≤ p) (hk : B ≤ k) : ∀ b, ft p k (.slice none 0 0) b → B ≤ b := by
  rintro b (h | h | h)
  · omega
  · omega
  · simp [Value.ownBlock] at h
theorem err_none {M : Dk} (h1 : M.stop = none) (h2 : M.fail = none) : M.err = 0 := by simp [Dk.err, h1, h2, rings]

set_option maxRecDepth 100000 in
theorem awake_any (w : World) : Calls Try.prog 10 #[] w fun e w' => e = .returned (.bool true) ∧ Below w.heap.size w w' := by
  have CO := Lib.hid fun w => of_aux 9 9 (by decide) w
  go_enter Try.func10, Try.ntmps10
  go_wp2_with fail
  refine (CO.out _).mono ?_
  rintro e w1 ⟨p, k, rfl, h1, b1, hp, hk⟩
  have H1 := Lib.hid h1
  have BB := Lib.hid b1
  have HP := Lib.hid hp
  have HK := Lib.hid hk
  clear h1 b1 hp hk CO
  go_wp2_with (first | (refine at_build7 _ rfl rfl rfl ?_) | (refine at_build8 _ rfl rfl rfl ?_))
  have C1 := Lib.hid (write_ok p k _ _ 3 (one 7) 0 w1 H1.out rfl (by decide) (by decide) rfl (by decide))
  refine (C1.out).mono ?_
  rintro e w2 ⟨rfl, pv2, h2, s2⟩
  have H2 := Lib.hid h2
  have S2 := Lib.hid s2
  clear h2 s2 C1 H1
  go_wp2_with (first | (refine at_build7 _ rfl rfl rfl ?_) | (refine at_build8 _ rfl rfl rfl ?_))
  have C2 := Lib.hid (write_ok p k _ _ 5 (one 8) 0 w2 H2.out rfl (by decide) (by decide) rfl (by decide))
  refine (C2.out).mono ?_
  rintro e w3 ⟨rfl, pv3, h3, s3⟩
  have H3 := Lib.hid h3
  have S3 := Lib.hid (S2.out.trans s3)
  clear h3 s3 C2 H2 S2
  go_wp2_with fail
  have C3 := Lib.hid (restart_any p k _ _ 2 (-1) 0 w3 H3.out (by decide))
  refine (C3.out).mono ?_
  rintro e w4 ⟨rfl, h4, s4⟩
  have H4 : Hid (Ds w4 p k (.slice none 0 0) ⟨9, kpa (amt 2 (-1) 0) [(3, one 7), (5, one 8)] (fun _ => zer) 2, [], 2, none, none, false⟩) := h4
  have S4 := Lib.hid (S3.out.trans s4)
  clear h4 s4 C3 H3 S3
  have K3 : kpa (amt 2 (-1) 0) [(3, one 7), (5, one 8)] (fun _ => zer) 2 3 0 = 0 := by decide
  have K5 : kpa (amt 2 (-1) 0) [(3, one 7), (5, one 8)] (fun _ => zer) 2 5 0 = 8 := by decide
  generalize kpa (amt 2 (-1) 0) [(3, one 7), (5, one 8)] (fun _ => zer) 2 = K at *
  have B4 := Lib.hid (BB.out.trans (S4.out.below BB.out.size (ft_new HP.out HK.out)))
  go_wp2_with fail
  have C4 := Lib.hid (read_ok p k _ _ 3 w4 H4.out rfl (show 3 < 9 by decide))
  rw [show lat ([] : List (Nat × (Nat → Nat))) 3 (K 3) = K 3 from rfl] at C4
  refine (C4.out).mono ?_
  rintro e w5 ⟨rfl, b5⟩
  have H5 := Lib.hid (H4.out.below b5)
  have B5 := Lib.hid (B4.out.trans (b5.mono B4.out.size))
  clear H4 B4 C4 b5
  have T5 := thereZ w5
  go_wp2_with (first | (with_reducible show wpList _ _ _ _ _ _; refine at_alloc38 rfl rfl ?_) | (with_reducible show wpList _ _ _ _ _ (w5.alloc Z64); refine at_store38 (.tmp 4) (.tmp 22) rfl rfl w5.heap.size 0 (K 3) (by simp [Act.eval, Act.put]) (by simp [Act.eval, Act.put]) T5 ?_))
  have H6 := Lib.hid (H5.out.below (stored_below w5 (K 3)))
  have B6 := Lib.hid (B5.out.trans ((stored_below w5 (K 3)).mono B5.out.size))
  have R6 := Lib.hid (stored_range w5 (K 3))
  have hs := stored_size w5 (K 3)
  rw [show (w5.alloc Z64).setCells w5.heap.size 0 (sc (K 3)) = stored w5 (K 3) from rfl]
  generalize stored w5 (K 3) = w6 at *
  generalize w5.heap.size = X at *
  clear T5 H5 B5
  have C6 := Lib.hid (read_ok p k _ _ 5 w6 H6.out rfl (show 5 < 9 by decide))
  rw [show lat ([] : List (Nat × (Nat → Nat))) 5 (K 5) = K 5 from rfl] at C6
  refine (C6.out).mono ?_
  rintro e w7 ⟨rfl, b7⟩
  have H7 := Lib.hid (H6.out.below b7)
  have B7 := Lib.hid (B6.out.trans (b7.mono B6.out.size))
  have R7 := Lib.hid (range_below R6.out b7)
  clear H6 B6 C6 R6 b7
  have T7 := thereZ w7
  go_upto_region 8 with (first | (with_reducible show wpList _ _ _ _ _ _; refine at_alloc38 rfl rfl ?_) | (with_reducible show wpList _ _ _ _ _ (w7.alloc Z64); refine at_store38 (.tmp 6) (.tmp 27) rfl rfl w7.heap.size 0 (K 5) (by simp [Act.eval, Act.put]) (by simp [Act.eval, Act.put]) T7 ?_))
  have H8 := Lib.hid (H7.out.below (stored_below w7 (K 5)))
  have B8 := Lib.hid (B7.out.trans ((stored_below w7 (K 5)).mono B7.out.size))
  have R8 := Lib.hid (range_below R7.out (stored_below w7 (K 5)))
  have Y8 := Lib.hid (stored_range w7 (K 5))
  rw [show (w7.alloc Z64).setCells w7.heap.size 0 (sc (K 5)) = stored w7 (K 5) from rfl]
  generalize stored w7 (K 5) = w8 at *
  generalize w7.heap.size = Y at *
  clear T7 H7 B7 R7
  have cx := range_cell R8.out (j := 0) (by omega)
  have cy := range_cell Y8.out (j := 0) (by omega)
  rw [K3] at cx
  rw [K5] at cy
  go_wp2_with fail
  refine (size_any p k _ _ _ H8.out).mono ?_
  rintro e w9 ⟨rfl, rfl⟩
  go_wp2_with fail
  refine (calls_any p k _ _ _ H8.out).mono ?_
  rintro e w9 ⟨rfl, rfl⟩
  go_wp2_with fail
  go_ret
  exact ⟨rfl, B8.out⟩
end Go.Proofs.Ytlfggfoaelkapaa
