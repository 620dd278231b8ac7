/-
  Contracts of alarms, Arm, Fail, count and Of: what each returns, and what becomes of the disk. Conditions: a disk is there, fewer than a million calls were counted, and an alarm's number has its bits.
-/
import Derived.Test.YtjkfgdeiciligaaSector
import Derived.Deep.RegionWith
namespace Go.Proofs.Ytjkfgdeiciligaa
open Go.RowKit

/-- An alarm of so many calls. -/
def al (n : Int) : Option Nat := if n < 0 then none else some n.toNat
/-- What an alarm is behind a call. -/
def tick : Option Nat → Option Nat
  | none => none
  | some 0 => none
  | some (n + 1) => some n
/-- Whether it goes off. -/
def rings (o : Option Nat) : Bool := o == some 0
def Dk.cnt (M : Dk) : Dk := { M with calls := M.calls + 1, stop := tick M.stop, fail := tick M.fail, down := M.down || rings M.stop }
def Dk.err (M : Dk) : Int := if rings M.stop then 9 else if rings M.fail then 10 else 0

theorem Ds.reblk {w w' : World} {p k : Nat} {pv : Value} {M : Dk} (h : Ds w p k pv M) (c : Nat) (s f : Option Nat) (d : Bool)
    (hp : w'.heap[p]? = some (.cells #[.slice (some ⟨k, 0, none⟩) M.n M.n, pv, .int .i64 (c : Int), .bool s.isSome, .int .i64 ((s.getD 0 : Nat) : Int), .bool f.isSome, .int .i64 ((f.getD 0 : Nat) : Int), .bool d] 63 (0, 0)))
    (ho : ∀ b, b ≠ p → b < w.heap.size → w'.heap[b]? = w.heap[b]?) (hc : M.calls ≤ c) (hc' : c < 1000000) (hs : s.getD 0 < 9223372036854775808) (hf : f.getD 0 < 9223372036854775808) :
    Ds w' p k pv { M with calls := c, stop := s, fail := f, down := d } :=
  ⟨hp, h.row.of_block (ho k (fun e => h.pk e.symm) h.klt), ownsRow_of_block h.own (fun g hg => ho g (fun e => h.gp (e ▸ hg)) (h.glt hg)), h.pk, h.gp, h.gk, h.n, h.ats, hc', Nat.le_trans h.len hc, hs, hf⟩

theorem behind_any (n : Int) (w : World) : Calls Try.prog 37 #[.int .i64 n] w fun e w' => e = .returned (.agg #[.bool (al n).isSome, .int .i64 (((al n).getD 0 : Nat) : Int)]) ∧ Below w.heap.size w w' := by
  unfold al
  by_cases hn : n < 0
  · rw [if_pos hn]
    go_enter Try.func37, Try.ntmps37
    go_wp2
    refine bodyPost_ret (results_cell_row rfl _ _ _ _ _ _ _ rfl (heap_alloc_new _ _) Try.underlying61 rfl (by kernel_rfl)) rfl ?_
    exact ⟨rfl, (Below.refl _ w).alloc (Nat.le_refl _) _⟩
  · rw [if_neg hn]
    have hz : ((n.toNat : Nat) : Int) = n := by omega
    go_enter Try.func37, Try.ntmps37
    go_wp2
    refine bodyPost_ret (results_cell_row rfl _ _ _ _ _ _ _ rfl (heap_alloc_new _ _) Try.underlying61 rfl (by kernel_rfl)) rfl ?_
    exact ⟨rfl, (Below.refl _ w).alloc (Nat.le_refl _) _⟩

/-- The block of a disk, cell by cell. -/
def Bk (w : World) (p : Nat) (a b c : Value) (s f : Option Nat) (d : Bool) : Prop :=
  w.heap[p]? = some (.cells #[a, b, c, .bool s.isSome, .int .i64 ((s.getD 0 : Nat) : Int), .bool f.isSome, .int .i64 ((f.getD 0 : Nat) : Int), .bool d] 63 (0, 0))
def Only (w w' : World) (p : Nat) : Prop := Step w w' (· = p) (· = p) ∧ w'.heap.size = w.heap.size
theorem Only.refl (w : World) (p : Nat) : Only w w p := ⟨Step.refl _ _, rfl⟩
theorem Only.set {w w' : World} {p : Nat} (h : Only w w' p) (o : Nat) (v : Value) : Only w (w'.setCell ⟨p, o, none⟩ v) p := ⟨h.1.setCell (a := ⟨p, o, none⟩) rfl v, by rw [← h.2]; simp [World.setCell]⟩
theorem Only.trans {a b c : World} {p : Nat} (h : Only a b p) (g : Only b c p) : Only a c p := ⟨h.1.trans g.1, g.2.trans h.2⟩
theorem Only.drew {a b : World} {p : Nat} (h : Only a b p) : Only a b.drew p := ⟨h.1.drew, h.2⟩

theorem off3 (p : Nat) (a b c : Value) (s f : Option Nat) (d : Bool) (w : World) (h : Bk w p a b c s f d) (hs : s.getD 0 < 9223372036854775808) :
    Calls Try.prog 54 #[.pointer (some ⟨p, 3, none⟩)] w fun e w' => e = .returned (.bool (rings s)) ∧ Bk w' p a b c (tick s) f d ∧ Only w w' p := by
  have c3 : w.cell? ⟨p, 3, none⟩ = some (.bool s.isSome) := by rw [Bk] at h; simp [World.cell?, h]
  have c4 : w.cell? ⟨p, 4, none⟩ = some (.int .i64 ((s.getD 0 : Nat) : Int)) := by rw [Bk] at h; simp [World.cell?, h]
  have f3 : w.frozen? ⟨p, 3, none⟩ = false := by rw [Bk] at h; simp [World.frozen?, h]
  have f4 : w.frozen? ⟨p, 4, none⟩ = false := by rw [Bk] at h; simp [World.frozen?, h]
  have H := Lib.hid h
  clear h
  match s with
  | none =>
    go_enter Try.func54, Try.ntmps54
    go_wp2
    go_ret
    exact ⟨rfl, H.out, Only.refl _ _⟩
  | some 0 =>
    go_enter Try.func54, Try.ntmps54
    go_wp2
    go_ret
    refine ⟨rfl, ?_, ((Only.refl _ _).set _ _).set _ _⟩
    have := H.out
    rw [Bk] at this ⊢
    simp [World.setCell, Array.getElem?_modify, this, tick]
  | some (n + 1) =>
    simp only [Option.getD_some] at hs c4
    go_enter Try.func54, Try.ntmps54
    go_wp2
    go_ret
    refine ⟨by simp [rings], ?_, (Only.refl _ _).set _ _⟩
    have := H.out
    rw [Bk] at this ⊢
    simp [World.setCell, Array.getElem?_modify, this, tick]
theorem off5 (p : Nat) (a b c : Value) (s f : Option Nat) (d : Bool) (w : World) (h : Bk w p a b c s f d) (hs : f.getD 0 < 9223372036854775808) :
    Calls Try.prog 54 #[.pointer (some ⟨p, 5, none⟩)] w fun e w' => e = .returned (.bool (rings f)) ∧ Bk w' p a b c s (tick f) d ∧ Only w w' p := by
  have c3 : w.cell? ⟨p, 5, none⟩ = some (.bool f.isSome) := by rw [Bk] at h; simp [World.cell?, h]
  have c4 : w.cell? ⟨p, 6, none⟩ = some (.int .i64 ((f.getD 0 : Nat) : Int)) := by rw [Bk] at h; simp [World.cell?, h]
  have f3 : w.frozen? ⟨p, 5, none⟩ = false := by rw [Bk] at h; simp [World.frozen?, h]
  have f4 : w.frozen? ⟨p, 6, none⟩ = false := by rw [Bk] at h; simp [World.frozen?, h]
  have H := Lib.hid h
  clear h
  match f with
  | none =>
    go_enter Try.func54, Try.ntmps54
    go_wp2
    go_ret
    exact ⟨rfl, H.out, Only.refl _ _⟩
  | some 0 =>
    go_enter Try.func54, Try.ntmps54
    go_wp2
    go_ret
    refine ⟨rfl, ?_, ((Only.refl _ _).set _ _).set _ _⟩
    have := H.out
    rw [Bk] at this ⊢
    simp [World.setCell, Array.getElem?_modify, this, tick]
  | some (n + 1) =>
    simp only [Option.getD_some] at hs c4
    go_enter Try.func54, Try.ntmps54
    go_wp2
    go_ret
    refine ⟨by simp [rings], ?_, (Only.refl _ _).set _ _⟩
    have := H.out
    rw [Bk] at this ⊢
    simp [World.setCell, Array.getElem?_modify, this, tick]

theorem tick_lt {o : Option Nat} {N : Nat} (h : o.getD 0 < N) : (tick o).getD 0 < N := by
  match o, h with
  | none, h => exact h
  | some 0, h => exact h
  | some (n + 1), h => simp [tick] at h ⊢; omega

theorem count_any (p k : Nat) (pv : Value) (M : Dk) (w : World) (h : Ds w p k pv M) (hc : M.calls + 1 < 1000000) :
    Calls Try.prog 51 #[.pointer (some ⟨p, 0, none⟩)] w fun e w' => e = .returned (.int .i64 M.err) ∧ Ds w' p k pv M.cnt ∧ Only w w' p := by
  have c2 : w.cell? ⟨p, 2, none⟩ = some (.int .i64 (M.calls : Int)) := h.cell 2
  have f2 := h.frozen 2
  have H := Lib.hid h
  have hb := h.blk
  have hbs := h.sb
  have hbf := h.fb
  clear h
  have B1 : Hid (Bk (w.setCell ⟨p, 2, none⟩ (.int .i64 ((M.calls : Int) + 1))) p (.slice (some ⟨k, 0, none⟩) M.n M.n) pv (.int .i64 ((M.calls : Int) + 1)) M.stop M.fail M.down) := Lib.hid (by
    rw [Bk]
    simp [World.setCell, Array.getElem?_modify, hb])
  have O1 := Lib.hid ((Only.refl w p).set 2 (.int .i64 ((M.calls : Int) + 1)))
  clear hb
  have C3 := Lib.hid fun a b c s f d w h hs => off3 p a b c s f d w h hs
  have C5 := Lib.hid fun a b c s f d w h hs => off5 p a b c s f d w h hs
  go_enter Try.func51, Try.ntmps51
  go_wp2
  generalize w.setCell ⟨p, 2, none⟩ (.int .i64 ((M.calls : Int) + 1)) = w1 at *
  have B1' : Hid (Bk w1.drew p (.slice (some ⟨k, 0, none⟩) M.n M.n) pv (.int .i64 ((M.calls : Int) + 1)) M.stop M.fail M.down) := B1.out
  have O1' := Lib.hid O1.out.drew
  clear B1 O1
  go_region_with (go_at_call 54; first
    | (with_reducible refine (C3.out _ _ _ _ _ _ _ B1'.out hbs).mono ?_; rintro e w2 ⟨rfl, h2, ho⟩; have B2 := Lib.hid h2; have O2 := Lib.hid ho; clear h2 ho)
    | (with_reducible refine (C5.out _ _ _ _ _ _ _ B2.out hbf).mono ?_; rintro e w3 ⟨rfl, h2, ho⟩; have B3 := Lib.hid h2; have O3 := Lib.hid ho; clear h2 ho))
  have O : Hid (Only w w3 p) := (O1'.out.trans O2.out).trans O3.out
  clear B1' O1' B2 O2 O3
  have T1 := Lib.hid (tick_lt hbs)
  have T2 := Lib.hid (tick_lt hbf)
  have E := Lib.hid (show M.err = if rings M.stop then 9 else if rings M.fail then 10 else 0 from rfl)
  have c7 : w3.cell? ⟨p, 7, none⟩ = some (.bool M.down) := by have := B3.out; rw [Bk] at this; simp [World.cell?, this]
  have f7 : w3.frozen? ⟨p, 7, none⟩ = false := by have := B3.out; rw [Bk] at this; simp [World.frozen?, this]
  cases hr : rings M.stop
  · have D := Lib.hid (show Ds w3 p k pv M.cnt by
      refine H.out.reblk (M.calls + 1) (tick M.stop) (tick M.fail) (M.down || rings M.stop) ?_ (fun b hb hl => O.out.1.block b hl hb) (by omega) hc T1.out T2.out
      rw [hr, Bool.or_false]
      exact B3.out)
    rw [hr] at E
    cases hq : rings M.fail
    all_goals
      rw [hq] at E
      go_wp2
      go_ret
      exact ⟨ret_int E.out.symm, D.out, O.out⟩
  · have D := Lib.hid (show Ds (w3.setCell ⟨p, 7, none⟩ (.bool true)) p k pv M.cnt by
      refine H.out.reblk (M.calls + 1) (tick M.stop) (tick M.fail) (M.down || rings M.stop) ?_ (fun b hb hl => (O.out.set 7 (.bool true)).1.block b hl hb) (by omega) hc T1.out T2.out
      rw [hr, Bool.or_true]
      have := B3.out
      rw [Bk] at this
      simp [World.setCell, Array.getElem?_modify, this])
    rw [hr] at E
    go_wp2
    go_ret
    exact ⟨ret_int E.out.symm, D.out, O.out.set _ _⟩

theorem al_lt {n : Int} (h : n < 9223372036854775808) : (al n).getD 0 < 9223372036854775808 := by unfold al; split <;> simp <;> omega
theorem arm_aux (p k : Nat) (pv : Value) (M : Dk) (n : Int) (x : Option Nat) (hx : al n = x) (hbs : x.getD 0 < 9223372036854775808) (w : World) (h : Ds w p k pv M) :
    Calls Try.prog 18 #[.pointer (some ⟨p, 0, none⟩), .int .i64 n] w fun e w' => e = .returned (.tuple #[]) ∧ Ds w' p k pv { M with stop := x } ∧ Step w w' (ft p k pv) (ft p k pv) := by
  have C := Lib.hid fun w => hx ▸ behind_any n w
  have H := Lib.hid h
  clear h hx
  go_enter Try.func18, Try.ntmps18
  go_wp2_with fail
  refine (C.out _).mono ?_
  rintro e w1 ⟨rfl, hb⟩
  have H1 := Lib.hid (H.out.below hb)
  have S1 := Lib.hid (Step.of_below hb (ft p k pv))
  have c3 : w1.cell? ⟨p, 3, none⟩ = some (.bool M.stop.isSome) := H1.out.cell 3
  have c4 : w1.cell? ⟨p, 4, none⟩ = some (.int .i64 ((M.stop.getD 0 : Nat) : Int)) := H1.out.cell 4
  have f3 := H1.out.frozen 3
  have f4 := H1.out.frozen 4
  have S2 := Lib.hid ((S1.out.setCell (a := ⟨p, 3, none⟩) Ds.fp (.bool x.isSome)).setCell (a := ⟨p, 4, none⟩) Ds.fp (.int .i64 ((x.getD 0 : Nat) : Int)))
  have D := Lib.hid (show Ds ((w1.setCell ⟨p, 3, none⟩ (.bool x.isSome)).setCell ⟨p, 4, none⟩ (.int .i64 ((x.getD 0 : Nat) : Int))) p k pv { M with stop := x } by
    refine H1.out.reblk M.calls x M.fail M.down ?_ (fun b hb hl => by rw [Below.heap_setCell _ _ _ _ hb, Below.heap_setCell _ _ _ _ hb]) (Nat.le_refl _) H1.out.few hbs H1.out.fb
    simp [World.setCell, Array.getElem?_modify, H1.out.blk])
  clear hb H1 S1
  go_wp2_with fail
  go_end0
  exact ⟨rfl, D.out, S2.out⟩
theorem arm_any (p k : Nat) (pv : Value) (M : Dk) (n : Int) (w : World) (h : Ds w p k pv M) (hn : n < 9223372036854775808) :
    Calls Try.prog 18 #[.pointer (some ⟨p, 0, none⟩), .int .i64 n] w fun e w' => e = .returned (.tuple #[]) ∧ Ds w' p k pv { M with stop := al n } ∧ Step w w' (ft p k pv) (ft p k pv) :=
  arm_aux p k pv M n _ rfl (al_lt hn) w h

theorem fail_aux (p k : Nat) (pv : Value) (M : Dk) (n : Int) (x : Option Nat) (hx : al n = x) (hbs : x.getD 0 < 9223372036854775808) (w : World) (h : Ds w p k pv M) :
    Calls Try.prog 27 #[.pointer (some ⟨p, 0, none⟩), .int .i64 n] w fun e w' => e = .returned (.tuple #[]) ∧ Ds w' p k pv { M with fail := x } ∧ Step w w' (ft p k pv) (ft p k pv) := by
  have C := Lib.hid fun w => hx ▸ behind_any n w
  have H := Lib.hid h
  clear h hx
  go_enter Try.func27, Try.ntmps27
  go_wp2_with fail
  refine (C.out _).mono ?_
  rintro e w1 ⟨rfl, hb⟩
  have H1 := Lib.hid (H.out.below hb)
  have S1 := Lib.hid (Step.of_below hb (ft p k pv))
  have c3 : w1.cell? ⟨p, 5, none⟩ = some (.bool M.fail.isSome) := H1.out.cell 5
  have c4 : w1.cell? ⟨p, 6, none⟩ = some (.int .i64 ((M.fail.getD 0 : Nat) : Int)) := H1.out.cell 6
  have f3 := H1.out.frozen 5
  have f4 := H1.out.frozen 6
  have S2 := Lib.hid ((S1.out.setCell (a := ⟨p, 5, none⟩) Ds.fp (.bool x.isSome)).setCell (a := ⟨p, 6, none⟩) Ds.fp (.int .i64 ((x.getD 0 : Nat) : Int)))
  have D := Lib.hid (show Ds ((w1.setCell ⟨p, 5, none⟩ (.bool x.isSome)).setCell ⟨p, 6, none⟩ (.int .i64 ((x.getD 0 : Nat) : Int))) p k pv { M with fail := x } by
    refine H1.out.reblk M.calls M.stop x M.down ?_ (fun b hb hl => by rw [Below.heap_setCell _ _ _ _ hb, Below.heap_setCell _ _ _ _ hb]) (Nat.le_refl _) H1.out.few H1.out.sb hbs
    simp [World.setCell, Array.getElem?_modify, H1.out.blk])
  clear hb H1 S1
  go_wp2_with fail
  go_end0
  exact ⟨rfl, D.out, S2.out⟩
theorem fail_any (p k : Nat) (pv : Value) (M : Dk) (n : Int) (w : World) (h : Ds w p k pv M) (hn : n < 9223372036854775808) :
    Calls Try.prog 27 #[.pointer (some ⟨p, 0, none⟩), .int .i64 n] w fun e w' => e = .returned (.tuple #[]) ∧ Ds w' p k pv { M with fail := al n } ∧ Step w w' (ft p k pv) (ft p k pv) :=
  fail_aux p k pv M n _ rfl (al_lt hn) w h

/-- A new row of zeros: so many sectors. -/
def ZR (m : Nat) : Obj := .cells (madeCells (sc zer).toArray (m * 64)) 52
theorem run_make26 (m : Nat) (h : m ≤ 512) (w : World) : (Instr.makeSlice 50 (.int .i64 (m : Int)) (.int .i64 (m : Int))).run Try.prog w = .ok (.slice (some ⟨w.heap.size, 0, none⟩) m m) (w.alloc (ZR m)) := by
  have hz : (Try.prog.info? 52).map (fun i => (i.zero, i.size, i.bytes)) = some (some (.agg (Array.replicate 64 (.int .u8 0))), 64, 64) := by kernel_rfl
  obtain ⟨i, hi, hzz⟩ := Option.map_eq_some_iff.1 hz
  simp only [Prod.mk.injEq] at hzz
  obtain ⟨h0, h1, h2⟩ := hzz
  have := run_make (P := Try.prog) w 50 52 i _ Try.underlying50 hi h0 .i64 .i64 (m : Int) (m : Int) (by omega) (Int.le_refl _) (by rw [h2]; omega) (by omega)
  rw [h1] at this
  simp only [Int.toNat_natCast] at this
  rw [this, ZR]
  rfl
theorem rowZR (w : World) (m : Nat) : (w.alloc (ZR m)).rowIs w.heap.size 52 (m * 64) (fun j => .int .u8 ((fun _ => zer : Nat → Nat → Nat) (j / 64) (j % 64) : Int)) := by
  refine ⟨_, heap_alloc_new _ _, size_madeCells _ _, fun i hi => ?_⟩
  have hs : (sc zer).toArray.size = 64 := by simp [sc_length]
  have hg := sc_get (s := zer) (j := i % 64) (by omega)
  simp [madeCells, hi, hs, hg, zer]

theorem of_aux (n : Int) (m : Nat) (hm : min (max n 0) 512 = (m : Int)) (w : World) :
    Calls Try.prog 9 #[.int .i64 n] w fun e w' => ∃ p k, e = .returned (.pointer (some ⟨p, 0, none⟩)) ∧ Ds w' p k (.slice none 0 0) ⟨m, fun _ => zer, [], 0, none, none, false⟩ ∧ Below w.heap.size w w' ∧ w.heap.size ≤ p ∧ w.heap.size ≤ k := by
  have hl : m ≤ 512 := by omega
  have HM := fun W => run_make26 m hl W
  go_enter Try.func9, Try.ntmps9
  go_wp2
  go_ret
  refine ⟨w.heap.size + 1, w.heap.size, rfl, ⟨?_, ?_, World.ownsRow_nil _ _ _ _, by omega, by simp [Value.ownBlock], by simp [Value.ownBlock], hl, by simp, by simp, by simp, by simp, by simp⟩, ?_, by omega, by omega⟩
  · exact heap_alloc2_new _ _ _
  · exact (rowZR w m).alloc _
  · exact ((Below.refl _ w).alloc (Nat.le_refl _) _).alloc (by simp) _
theorem of_any (n : Int) (w : World) :
    Calls Try.prog 9 #[.int .i64 n] w fun e w' => ∃ p k, e = .returned (.pointer (some ⟨p, 0, none⟩)) ∧ Ds w' p k (.slice none 0 0) ⟨(min (max n 0) 512).toNat, fun _ => zer, [], 0, none, none, false⟩ ∧ Below w.heap.size w w' ∧ w.heap.size ≤ p ∧ w.heap.size ≤ k :=
  of_aux n _ (by omega) w
end Go.Proofs.Ytjkfgdeiciligaa
