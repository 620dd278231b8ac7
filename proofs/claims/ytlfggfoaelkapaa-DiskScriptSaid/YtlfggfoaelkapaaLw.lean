/-
  The memory of DiskScript's own account of a disk, beside the disk's, and the contract of its closure. Conditions: the account is there, and fewer than a million calls were counted.
-/
import Derived.Test.YtlfggfoaelkapaaBeside
set_option linter.unusedSimpArgs false
namespace Go.Proofs.Ytlfggfoaelkapaa
open Go.RowKit

/-- An alarm, as a number. -/
def ali : Option Nat → Int
  | none => -1
  | some n => n
/-- The blocks of the account. -/
def gt (k2 sb fb cb db : Nat) (v : Value) : Nat → Prop := fun b => b = k2 ∨ b = sb ∨ b = fb ∨ b = cb ∨ b = db ∨ v.ownBlock = some b
/-- What of memory holds the account. -/
structure Lw (w : World) (k2 sb fb cb db : Nat) (v : Value) (N : Dk) : Prop where
  row : w.rowIs k2 38 (N.n * 64) (fun j => .int .u8 (N.kept (j / 64) (j % 64) : Int))
  own : w.ownsRow 0 40 65 v N.pend.length (N.pend.flatMap wc)
  s : w.heap[sb]? = some (.cells #[.int .i64 (ali N.stop)] 3 (0, 0))
  f : w.heap[fb]? = some (.cells #[.int .i64 (ali N.fail)] 3 (0, 0))
  c : w.heap[cb]? = some (.cells #[.int .i64 (N.calls : Int)] 3 (0, 0))
  d : w.heap[db]? = some (.cells #[.bool N.down] 4 (0, 0))
  ks : k2 ≠ sb ∧ k2 ≠ fb ∧ k2 ≠ cb ∧ k2 ≠ db
  ss : sb ≠ fb ∧ sb ≠ cb ∧ sb ≠ db ∧ fb ≠ cb ∧ fb ≠ db ∧ cb ≠ db
  nv : v.ownBlock ≠ some k2 ∧ v.ownBlock ≠ some sb ∧ v.ownBlock ≠ some fb ∧ v.ownBlock ≠ some cb ∧ v.ownBlock ≠ some db
  ats : ∀ x ∈ N.pend, x.1 < N.n

namespace Lw
variable {w w' : World} {k2 sb fb cb db : Nat} {v : Value} {N : Dk}
theorem of_blocks (h : Lw w k2 sb fb cb db v N) (e : ∀ b, gt k2 sb fb cb db v b → w'.heap[b]? = w.heap[b]?) : Lw w' k2 sb fb cb db v N :=
  ⟨h.row.of_block (e _ (.inl rfl)), ownsRow_of_block h.own (fun g hg => e g (.inr (.inr (.inr (.inr (.inr hg)))))), (e _ (.inr (.inl rfl))).trans h.s, (e _ (.inr (.inr (.inl rfl)))).trans h.f,
   (e _ (.inr (.inr (.inr (.inl rfl))))).trans h.c, (e _ (.inr (.inr (.inr (.inr (.inl rfl)))))).trans h.d, h.ks, h.ss, h.nv, h.ats⟩
theorem glt (h : Lw w k2 sb fb cb db v N) {g : Nat} (hg : v.ownBlock = some g) : g < w.heap.size := by
  rcases h.own.2 with ⟨rfl, _⟩ | ⟨g', cap, cur, rfl, _, hh, _⟩
  · cases hg
  · obtain rfl : g' = g := by simpa [Value.ownBlock] using hg
    exact (Array.getElem?_eq_some_iff.1 hh).1
theorem lt (h : Lw w k2 sb fb cb db v N) : ∀ b, gt k2 sb fb cb db v b → b < w.heap.size := by
  rintro b (rfl | rfl | rfl | rfl | rfl | hb)
  · exact h.row.lt
  · exact (Array.getElem?_eq_some_iff.1 h.s).1
  · exact (Array.getElem?_eq_some_iff.1 h.f).1
  · exact (Array.getElem?_eq_some_iff.1 h.c).1
  · exact (Array.getElem?_eq_some_iff.1 h.d).1
  · exact h.glt hb
theorem below (h : Lw w k2 sb fb cb db v N) (hb : Below w.heap.size w w') : Lw w' k2 sb fb cb db v N := h.of_blocks fun b hg => hb.block b (h.lt b hg)
theorem cs (h : Lw w k2 sb fb cb db v N) : w.cell? ⟨sb, 0, none⟩ = some (.int .i64 (ali N.stop)) ∧ w.frozen? ⟨sb, 0, none⟩ = false := by simp [World.cell?, World.frozen?, h.s]
theorem cf (h : Lw w k2 sb fb cb db v N) : w.cell? ⟨fb, 0, none⟩ = some (.int .i64 (ali N.fail)) ∧ w.frozen? ⟨fb, 0, none⟩ = false := by simp [World.cell?, World.frozen?, h.f]
theorem cc (h : Lw w k2 sb fb cb db v N) : w.cell? ⟨cb, 0, none⟩ = some (.int .i64 (N.calls : Int)) ∧ w.frozen? ⟨cb, 0, none⟩ = false := by simp [World.cell?, World.frozen?, h.c]
theorem cd (h : Lw w k2 sb fb cb db v N) : w.cell? ⟨db, 0, none⟩ = some (.bool N.down) ∧ w.frozen? ⟨db, 0, none⟩ = false := by simp [World.cell?, World.frozen?, h.d]
/-- One of the account's numbers is set. -/
theorem setS (h : Lw w k2 sb fb cb db v N) (o : Option Nat) (x : Int) (hx : ali o = x) : Lw (w.setCell ⟨sb, 0, none⟩ (.int .i64 x)) k2 sb fb cb db v { N with stop := o } := by
  obtain ⟨h1, h2, h3, h4⟩ := h.ks
  obtain ⟨g1, g2, g3, g4, g5, g6⟩ := h.ss
  obtain ⟨n1, n2, n3, n4, n5⟩ := h.nv
  refine ⟨h.row.setOther h1 _, ownsRow_of_block h.own (fun g hg => Below.heap_setCell _ _ _ _ (fun e => n2 (hg.trans (congrArg some e)))), ?_, (Below.heap_setCell _ _ _ _ (Ne.symm g1)).trans h.f, (Below.heap_setCell _ _ _ _ (Ne.symm g2)).trans h.c, (Below.heap_setCell _ _ _ _ (Ne.symm g3)).trans h.d, h.ks, h.ss, h.nv, h.ats⟩
  simp [World.setCell, Array.getElem?_modify, h.s, hx]
theorem setF (h : Lw w k2 sb fb cb db v N) (o : Option Nat) (x : Int) (hx : ali o = x) : Lw (w.setCell ⟨fb, 0, none⟩ (.int .i64 x)) k2 sb fb cb db v { N with fail := o } := by
  obtain ⟨h1, h2, h3, h4⟩ := h.ks
  obtain ⟨g1, g2, g3, g4, g5, g6⟩ := h.ss
  obtain ⟨n1, n2, n3, n4, n5⟩ := h.nv
  refine ⟨h.row.setOther h2 _, ownsRow_of_block h.own (fun g hg => Below.heap_setCell _ _ _ _ (fun e => n3 (hg.trans (congrArg some e)))), (Below.heap_setCell _ _ _ _ g1).trans h.s, ?_, (Below.heap_setCell _ _ _ _ (Ne.symm g4)).trans h.c, (Below.heap_setCell _ _ _ _ (Ne.symm g5)).trans h.d, h.ks, h.ss, h.nv, h.ats⟩
  simp [World.setCell, Array.getElem?_modify, h.f, hx]
theorem setC (h : Lw w k2 sb fb cb db v N) (x : Nat) : Lw (w.setCell ⟨cb, 0, none⟩ (.int .i64 (x : Int))) k2 sb fb cb db v { N with calls := x } := by
  obtain ⟨h1, h2, h3, h4⟩ := h.ks
  obtain ⟨g1, g2, g3, g4, g5, g6⟩ := h.ss
  obtain ⟨n1, n2, n3, n4, n5⟩ := h.nv
  refine ⟨h.row.setOther h3 _, ownsRow_of_block h.own (fun g hg => Below.heap_setCell _ _ _ _ (fun e => n4 (hg.trans (congrArg some e)))), (Below.heap_setCell _ _ _ _ g2).trans h.s, (Below.heap_setCell _ _ _ _ g4).trans h.f, ?_, (Below.heap_setCell _ _ _ _ (Ne.symm g6)).trans h.d, h.ks, h.ss, h.nv, h.ats⟩
  simp [World.setCell, Array.getElem?_modify, h.c]
theorem setD (h : Lw w k2 sb fb cb db v N) (x : Bool) : Lw (w.setCell ⟨db, 0, none⟩ (.bool x)) k2 sb fb cb db v { N with down := x } := by
  obtain ⟨h1, h2, h3, h4⟩ := h.ks
  obtain ⟨g1, g2, g3, g4, g5, g6⟩ := h.ss
  obtain ⟨n1, n2, n3, n4, n5⟩ := h.nv
  refine ⟨h.row.setOther h4 _, ownsRow_of_block h.own (fun g hg => Below.heap_setCell _ _ _ _ (fun e => n5 (hg.trans (congrArg some e)))), (Below.heap_setCell _ _ _ _ g3).trans h.s, (Below.heap_setCell _ _ _ _ g5).trans h.f, (Below.heap_setCell _ _ _ _ g6).trans h.c, ?_, h.ks, h.ss, h.nv, h.ats⟩
  simp [World.setCell, Array.getElem?_modify, h.d]
theorem cleared (h : Lw w k2 sb fb cb db v N) : Lw w k2 sb fb cb db (.slice none 0 0) { N with pend := [] } :=
  ⟨h.row, World.ownsRow_nil _ _ _ _, h.s, h.f, h.c, h.d, h.ks, h.ss, by simp [Value.ownBlock], by simp⟩
theorem put (h : Lw w k2 sb fb cb db v N) (a m : Nat) (s : Nat → Nat) (hm : m ≤ 64) : Lw (w.setCells k2 (a * 64) ((sc s).take m)) k2 sb fb cb db v { N with kept := ov N.kept a m s } := by
  obtain ⟨h1, h2, h3, h4⟩ := h.ks
  refine ⟨?_, ownsRow_of_block h.own (fun g hg => heap_setCells_other _ _ _ _ _ (fun e => h.nv.1 (e ▸ hg))), (heap_setCells_other _ _ _ _ _ (Ne.symm h1)).trans h.s, (heap_setCells_other _ _ _ _ _ (Ne.symm h2)).trans h.f, (heap_setCells_other _ _ _ _ _ (Ne.symm h3)).trans h.c, (heap_setCells_other _ _ _ _ _ (Ne.symm h4)).trans h.d, h.ks, h.ss, h.nv, h.ats⟩
  refine (rowIs_setCells ((sc s).take m) (a * 64) h.row).congr fun j hj => ?_
  show _ = Value.int .u8 ((if j / 64 = a ∧ j % 64 < m then s (j % 64) else N.kept (j / 64) (j % 64) : Nat) : Int)
  by_cases h1 : a * 64 ≤ j
  · rw [if_pos h1, List.getElem?_take]
    by_cases h2 : j - a * 64 < m
    · rw [if_pos h2, sc_get (by omega), if_pos ⟨by omega, by omega⟩, show j - a * 64 = j % 64 by omega]
      rfl
    · rw [if_neg h2, if_neg (by omega)]
      rfl
  · rw [if_neg h1, if_neg (by omega)]
/-- One byte more of a sector is set. -/
theorem putOne (h : Lw w k2 sb fb cb db v N) (K : Nat → Nat → Nat) (a i : Nat) (s : Nat → Nat) (hi : i < 64) (hK : N.kept = ov K a i s) : Lw (w.setCell ⟨k2, a * 64 + i, none⟩ (.int .u8 (s i : Int))) k2 sb fb cb db v { N with kept := ov K a (i + 1) s } := by
  obtain ⟨h1, h2, h3, h4⟩ := h.ks
  refine ⟨?_, ownsRow_of_block h.own (fun g hg => Below.heap_setCell _ _ _ _ (fun e => h.nv.1 (hg.trans (congrArg some e)))), (Below.heap_setCell _ _ _ _ (Ne.symm h1)).trans h.s, (Below.heap_setCell _ _ _ _ (Ne.symm h2)).trans h.f, (Below.heap_setCell _ _ _ _ (Ne.symm h3)).trans h.c, (Below.heap_setCell _ _ _ _ (Ne.symm h4)).trans h.d, h.ks, h.ss, h.nv, h.ats⟩
  refine (h.row.set (a * 64 + i) _).congr fun j hj => ?_
  show _ = Value.int .u8 ((ov K a (i + 1) s (j / 64) (j % 64) : Nat) : Int)
  rw [hK]
  unfold ov
  by_cases e : j = a * 64 + i
  · subst e
    rw [if_pos rfl, show (a * 64 + i) / 64 = a by omega, show (a * 64 + i) % 64 = i by omega, if_pos ⟨rfl, by omega⟩]
  · rw [if_neg e]
    by_cases h1 : j / 64 = a ∧ j % 64 < i
    · rw [if_pos h1, if_pos ⟨h1.1, by omega⟩]
    · rw [if_neg h1, if_neg (by omega)]
/-- A sector that is kept, as it lies there. -/
theorem keptAt (h : Lw w k2 sb fb cb db v N) {i : Nat} (hi : i < N.n) : w.rangeAt k2 (i * 64) (sc (N.kept i)) := by
  intro j v hv
  have hj : j < 64 := by have := (List.getElem?_eq_some_iff.1 hv).1; rwa [sc_length] at this
  rw [sc_get hj] at hv
  rw [h.row.cell (i := i * 64 + j) (by have : (i + 1) * 64 ≤ N.n * 64 := Nat.mul_le_mul_right _ hi; omega), ← hv, show (i * 64 + j) / 64 = i by omega, show (i * 64 + j) % 64 = j by omega]
theorem thereAt (h : Lw w k2 sb fb cb db v N) {i : Nat} (hi : i < N.n) : w.there k2 (i * 64) 64 := rowIs_there h.row (by have : (i + 1) * 64 ≤ N.n * 64 := Nat.mul_le_mul_right _ hi; omega)
/-- A write that waits, as it lies there. -/
theorem form (h : Lw w k2 sb fb cb db v N) {i : Nat} {x : Nat × (Nat → Nat)} (hx : N.pend[i]? = some x) : ∃ g cap, v = .slice (some ⟨g, 0, none⟩) N.pend.length cap ∧ N.pend.length ≤ cap ∧ w.rangeAt g (i * 65) (wc x) := by
  have hi : i < N.pend.length := (List.getElem?_eq_some_iff.1 hx).1
  rcases h.own.2 with ⟨_, h0⟩ | ⟨g, cap, cur, hv, _, hh, hc, _, hs, ht⟩
  · omega
  · refine ⟨g, cap, hv, hc, fun j v hj => ?_⟩
    have hj65 : j < 65 := by have := (List.getElem?_eq_some_iff.1 hj).1; rwa [wc_length] at this
    have hlt : i * 65 + j < N.pend.length * 65 := by have : (i + 1) * 65 ≤ N.pend.length * 65 := Nat.mul_le_mul_right _ hi; omega
    rw [cell_of_row w g (i * 65 + j) cur 40 (0, 0) hh, ← Array.getElem?_toList]
    have := flat_get N.pend i j x hx hj65
    rw [← ht, List.getElem?_take, if_pos hlt, hj] at this
    exact this
theorem shape (h : Lw w k2 sb fb cb db v N) : ∃ A cap, v = .slice A N.pend.length cap := by
  rcases h.own.2 with ⟨rfl, h0⟩ | ⟨g, cap, cur, hv, _⟩
  · exact ⟨none, 0, by rw [h0]⟩
  · exact ⟨_, cap, hv⟩
end Lw

theorem step_set {w w' : World} {F F' : Nat → Prop} (h : Step w w' F F') (b o : Nat) (hb : F' b) (v : Value) : Step w (w'.setCell ⟨b, o, none⟩ v) F F' := h.setCell (a := ⟨b, o, none⟩) hb v

theorem Lw.to {w : World} {k2 sb fb cb db : Nat} {v : Value} {N N' : Dk} (h : Lw w k2 sb fb cb db v N) (e : N = N') : Lw w k2 sb fb cb db v N' := e ▸ h
set_option maxRecDepth 100000 in
/-- What the closure does to the account. -/
theorem call_any (k2 sb fb cb db : Nat) (v : Value) (N : Dk) (w : World) (h : Lw w k2 sb fb cb db v N) (hc : N.calls + 1 < 1000000) (hs : N.stop.getD 0 < 1000) (hf : N.fail.getD 0 < 1000) :
    Calls Try.prog 12 #[.pointer (some ⟨cb, 0, none⟩), .pointer (some ⟨fb, 0, none⟩), .pointer (some ⟨sb, 0, none⟩), .pointer (some ⟨db, 0, none⟩)] w fun e w' => e = .returned (.int .i64 N.err) ∧ Lw w' k2 sb fb cb db v N.cnt ∧ Step w w' (gt k2 sb fb cb db v) (gt k2 sb fb cb db v) := by
  obtain ⟨c1, f1⟩ := h.cc
  obtain ⟨c2, f2⟩ := h.cf
  obtain ⟨c3, f3⟩ := h.cs
  obtain ⟨c4, f4⟩ := h.cd
  obtain ⟨g1, g2, g3, g4, g5, g6⟩ := h.ss
  have g1' := Ne.symm g1
  have g2' := Ne.symm g2
  have g3' := Ne.symm g3
  have g4' := Ne.symm g4
  have g5' := Ne.symm g5
  have g6' := Ne.symm g6
  have H := Lib.hid h
  clear h
  have S0 := Lib.hid (Step.refl w (gt k2 sb fb cb db v))
  have FC : Hid (gt k2 sb fb cb db v cb) := .inr (.inr (.inr (.inl rfl)))
  have FD : Hid (gt k2 sb fb cb db v db) := .inr (.inr (.inr (.inr (.inl rfl))))
  have FS : Hid (gt k2 sb fb cb db v sb) := .inr (.inl rfl)
  have FF : Hid (gt k2 sb fb cb db v fb) := .inr (.inr (.inl rfl))
  obtain ⟨n, K, P, C, S, F, D⟩ := N
  simp only at hc hs hf c1 c2 c3 c4
  match S, F with
  | none, none =>
    simp only [ali, Option.getD_some, Option.getD_none] at c2 c3 hs hf
    have L1 := Lib.hid ((H.out.setC (C + 1)).to (N' := Dk.cnt ⟨n, K, P, C, none, none, D⟩) (by simp [Dk.cnt, tick, rings]))
    have E1 := Lib.hid (show Dk.err ⟨n, K, P, C, none, none, D⟩ = 0 by simp [Dk.err, rings])
    go_enter Try.func12, Try.ntmps12
    go_wp2
    go_ret
    exact ⟨ret_int E1.out.symm, L1.out, step_set S0.out cb 0 FC.out _⟩
  | none, some 0 =>
    simp only [ali, Option.getD_some, Option.getD_none] at c2 c3 hs hf
    have L1 := Lib.hid (((H.out.setC (C + 1)).setF none (-1) rfl).to (N' := Dk.cnt ⟨n, K, P, C, none, some 0, D⟩) (by simp [Dk.cnt, tick, rings]))
    have E1 := Lib.hid (show Dk.err ⟨n, K, P, C, none, some 0, D⟩ = 10 by simp [Dk.err, rings])
    go_enter Try.func12, Try.ntmps12
    go_wp2
    go_ret
    exact ⟨ret_int E1.out.symm, L1.out, step_set (step_set S0.out cb 0 FC.out _) fb 0 FF.out _⟩
  | none, some (m1 + 1) =>
    simp only [ali, Option.getD_some, Option.getD_none] at c2 c3 hs hf
    have L1 := Lib.hid (((H.out.setC (C + 1)).setF (some m1) m1 rfl).to (N' := Dk.cnt ⟨n, K, P, C, none, some (m1 + 1), D⟩) (by simp [Dk.cnt, tick, rings]))
    have E1 := Lib.hid (show Dk.err ⟨n, K, P, C, none, some (m1 + 1), D⟩ = 0 by simp [Dk.err, rings])
    go_enter Try.func12, Try.ntmps12
    go_wp2
    go_ret
    exact ⟨ret_int E1.out.symm, L1.out, step_set (step_set S0.out cb 0 FC.out _) fb 0 FF.out _⟩
  | some 0, none =>
    simp only [ali, Option.getD_some, Option.getD_none] at c2 c3 hs hf
    have L1 := Lib.hid ((((H.out.setC (C + 1)).setD true).setS none (-1) rfl).to (N' := Dk.cnt ⟨n, K, P, C, some 0, none, D⟩) (by simp [Dk.cnt, tick, rings]))
    have E1 := Lib.hid (show Dk.err ⟨n, K, P, C, some 0, none, D⟩ = 9 by simp [Dk.err, rings])
    go_enter Try.func12, Try.ntmps12
    go_wp2
    go_ret
    exact ⟨ret_int E1.out.symm, L1.out, step_set (step_set (step_set S0.out cb 0 FC.out _) db 0 FD.out _) sb 0 FS.out _⟩
  | some 0, some 0 =>
    simp only [ali, Option.getD_some, Option.getD_none] at c2 c3 hs hf
    have L1 := Lib.hid (((((H.out.setC (C + 1)).setD true).setS none (-1) rfl).setF none (-1) rfl).to (N' := Dk.cnt ⟨n, K, P, C, some 0, some 0, D⟩) (by simp [Dk.cnt, tick, rings]))
    have E1 := Lib.hid (show Dk.err ⟨n, K, P, C, some 0, some 0, D⟩ = 9 by simp [Dk.err, rings])
    go_enter Try.func12, Try.ntmps12
    go_wp2
    go_ret
    exact ⟨ret_int E1.out.symm, L1.out, step_set (step_set (step_set (step_set S0.out cb 0 FC.out _) db 0 FD.out _) sb 0 FS.out _) fb 0 FF.out _⟩
  | some 0, some (m1 + 1) =>
    simp only [ali, Option.getD_some, Option.getD_none] at c2 c3 hs hf
    have L1 := Lib.hid (((((H.out.setC (C + 1)).setD true).setS none (-1) rfl).setF (some m1) m1 rfl).to (N' := Dk.cnt ⟨n, K, P, C, some 0, some (m1 + 1), D⟩) (by simp [Dk.cnt, tick, rings]))
    have E1 := Lib.hid (show Dk.err ⟨n, K, P, C, some 0, some (m1 + 1), D⟩ = 9 by simp [Dk.err, rings])
    go_enter Try.func12, Try.ntmps12
    go_wp2
    go_ret
    exact ⟨ret_int E1.out.symm, L1.out, step_set (step_set (step_set (step_set S0.out cb 0 FC.out _) db 0 FD.out _) sb 0 FS.out _) fb 0 FF.out _⟩
  | some (n1 + 1), none =>
    simp only [ali, Option.getD_some, Option.getD_none] at c2 c3 hs hf
    have L1 := Lib.hid (((H.out.setC (C + 1)).setS (some n1) n1 rfl).to (N' := Dk.cnt ⟨n, K, P, C, some (n1 + 1), none, D⟩) (by simp [Dk.cnt, tick, rings]))
    have E1 := Lib.hid (show Dk.err ⟨n, K, P, C, some (n1 + 1), none, D⟩ = 0 by simp [Dk.err, rings])
    go_enter Try.func12, Try.ntmps12
    go_wp2
    go_ret
    exact ⟨ret_int E1.out.symm, L1.out, step_set (step_set S0.out cb 0 FC.out _) sb 0 FS.out _⟩
  | some (n1 + 1), some 0 =>
    simp only [ali, Option.getD_some, Option.getD_none] at c2 c3 hs hf
    have L1 := Lib.hid ((((H.out.setC (C + 1)).setS (some n1) n1 rfl).setF none (-1) rfl).to (N' := Dk.cnt ⟨n, K, P, C, some (n1 + 1), some 0, D⟩) (by simp [Dk.cnt, tick, rings]))
    have E1 := Lib.hid (show Dk.err ⟨n, K, P, C, some (n1 + 1), some 0, D⟩ = 10 by simp [Dk.err, rings])
    go_enter Try.func12, Try.ntmps12
    go_wp2
    go_ret
    exact ⟨ret_int E1.out.symm, L1.out, step_set (step_set (step_set S0.out cb 0 FC.out _) sb 0 FS.out _) fb 0 FF.out _⟩
  | some (n1 + 1), some (m1 + 1) =>
    simp only [ali, Option.getD_some, Option.getD_none] at c2 c3 hs hf
    have L1 := Lib.hid ((((H.out.setC (C + 1)).setS (some n1) n1 rfl).setF (some m1) m1 rfl).to (N' := Dk.cnt ⟨n, K, P, C, some (n1 + 1), some (m1 + 1), D⟩) (by simp [Dk.cnt, tick, rings]))
    have E1 := Lib.hid (show Dk.err ⟨n, K, P, C, some (n1 + 1), some (m1 + 1), D⟩ = 0 by simp [Dk.err, rings])
    go_enter Try.func12, Try.ntmps12
    go_wp2
    go_ret
    exact ⟨ret_int E1.out.symm, L1.out, step_set (step_set (step_set S0.out cb 0 FC.out _) sb 0 FS.out _) fb 0 FF.out _⟩
end Go.Proofs.Ytlfggfoaelkapaa
