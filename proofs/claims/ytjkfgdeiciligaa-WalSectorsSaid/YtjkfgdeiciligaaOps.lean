/-
  Rows of counted calls of a disk, as plain data, and the contracts of writeZeros and writeFrame. Conditions: a disk is there, fewer than a million calls are counted, what is written is short.
-/
import Derived.Test.YtjkfgdeiciligaaRecords
set_option linter.unusedSimpArgs false
namespace Go.Proofs.Ytjkfgdeiciligaa
open Go.RowKit

/-- A counted call: a write, or a flush. -/
inductive Dop where
  | wr (a : Nat) (s : Nat → Nat)
  | fl
/-- One call: its error, and the disk behind it. -/
def Dk.one (M : Dk) : Dop → Int × Dk
  | .wr a s => (M.wer a, M.wr a s)
  | .fl => (M.fer, M.fl)
/-- A row of calls, up to the first error. -/
def Dk.go (M : Dk) : List Dop → Int × Dk
  | [] => (0, M)
  | o :: l => if (M.one o).1 = 0 then (M.one o).2.go l else M.one o
theorem Dk.go_append (M : Dk) (a b : List Dop) : M.go (a ++ b) = if (M.go a).1 = 0 then (M.go a).2.go b else M.go a := by
  induction a generalizing M with
  | nil => simp [Dk.go]
  | cons o l ih =>
    rw [List.cons_append, Dk.go, Dk.go]
    by_cases h : (M.one o).1 = 0
    · rw [if_pos h, if_pos h, ih]
    · rw [if_neg h, if_neg h, if_neg h]
theorem Dk.go_one (M : Dk) (o : Dop) : M.go [o] = M.one o := by
  rw [Dk.go]
  by_cases h : (M.one o).1 = 0
  · rw [if_pos h, Dk.go, ← h]
  · rw [if_neg h]
theorem Dk.go_cons {M : Dk} {o : Dop} {l : List Dop} : M.go (o :: l) = if (M.one o).1 = 0 then (M.one o).2.go l else M.one o := rfl
theorem Dk.go_ok {M : Dk} {a b : List Dop} (h : (M.go a).1 = 0) : M.go (a ++ b) = (M.go a).2.go b := by rw [Dk.go_append, if_pos h]
theorem range_split {α : Type} (f : Nat → α) {q n : Nat} (h : q < n) : ∃ r, (List.range n).map f = (List.range q).map f ++ f q :: r := by
  refine ⟨(List.range (n - q - 1)).map (fun i => f (q + 1 + i)), ?_⟩
  rw [show n = q + 1 + (n - q - 1) by omega, List.range_add, List.map_append, List.range_succ, List.map_append, show q + 1 + (n - q - 1) - q - 1 = n - q - 1 by omega]
  simp
/-- One more of a row of calls. -/
theorem Dk.go_succ {M : Dk} {f : Nat → Dop} {q : Nat} (h : (M.go ((List.range q).map f)).1 = 0) : M.go ((List.range (q + 1)).map f) = (M.go ((List.range q).map f)).2.one (f q) := by
  rw [List.range_succ, List.map_append, Dk.go_ok h, List.map_singleton, Dk.go_one]
/-- The row ends at its first error. -/
theorem Dk.go_end {M : Dk} {f : Nat → Dop} {q n : Nat} {t : List Dop} (hq : q < n) (h : (M.go ((List.range q).map f)).1 = 0) (he : ((M.go ((List.range q).map f)).2.one (f q)).1 ≠ 0) : M.go ((List.range n).map f ++ t) = (M.go ((List.range q).map f)).2.one (f q) := by
  obtain ⟨r, hr⟩ := range_split f hq
  rw [hr, List.append_assoc, Dk.go_ok h, List.cons_append, Dk.go_cons, if_neg he]
theorem Dk.one_calls (M : Dk) (o : Dop) : (M.one o).2.calls ≤ M.calls + 1 := by
  cases o with
  | wr a s =>
    simp only [Dk.one, Dk.wr]
    split
    · split <;> simp [Dk.cnt]
    · omega
  | fl =>
    simp only [Dk.one, Dk.fl]
    split
    · omega
    · split <;> simp [Dk.cnt]
theorem Dk.go_calls (M : Dk) (l : List Dop) : (M.go l).2.calls ≤ M.calls + l.length := by
  induction l generalizing M with
  | nil => simp [Dk.go]
  | cons o l ih =>
    rw [Dk.go]
    have := M.one_calls o
    split
    · have := ih (M.one o).2
      rw [List.length_cons]
      omega
    · rw [List.length_cons]
      omega

/-- What a row of calls leaves. -/
def Went (w : World) (p k : Nat) (pv : Value) (M : Dk) (l : List Dop) (e : Ending) (w' : World) : Prop :=
  e = .returned (.int .i64 (M.go l).1) ∧ ∃ pv', Ds w' p k pv' (M.go l).2 ∧ Step w w' (ft p k pv) (ft p k pv')

theorem write_one (p k : Nat) (pv : Value) (M : Dk) (n : Nat) (s : Nat → Nat) (w : World) (h : Ds w p k pv M) (hc : M.calls + 1 < 1000000) :
    Calls Try.prog 45 #[.pointer (some ⟨p, 0, none⟩), .int .i64 n, sv s] w fun e w' => e = .returned (.int .i64 (M.one (.wr n s)).1) ∧ ∃ pv', Ds w' p k pv' (M.one (.wr n s)).2 ∧ Step w w' (ft p k pv) (ft p k pv') :=
  write_any p k pv M n s w h hc
theorem flush_one (p k : Nat) (pv : Value) (M : Dk) (w : World) (h : Ds w p k pv M) (hc : M.calls + 1 < 1000000) :
    Calls Try.prog 46 #[.pointer (some ⟨p, 0, none⟩)] w fun e w' => e = .returned (.int .i64 (M.one .fl).1) ∧ ∃ pv', Ds w' p k pv' (M.one .fl).2 ∧ Step w w' (ft p k pv) (ft p k pv') :=
  flush_any p k pv M w h hc

def zw (fr : Nat) (i : Nat) : Dop := .wr (fr + i) zer
/-- The calls of writeZeros. -/
def zop (fr n : Nat) : List Dop := (List.range n).map (zw fr) ++ [.fl]

set_option maxHeartbeats 1000000 in
set_option maxRecDepth 100000 in
theorem writeZeros_any (p k : Nat) (pv : Value) (M : Dk) (fr te : Nat) (w : World) (h : Ds w p k pv M) (hft : fr ≤ te) (ht : te ≤ 1000) (hc : M.calls + (te - fr) + 1 < 1000000) :
    Calls Try.prog 44 #[.pointer (some ⟨p, 0, none⟩), .int .i64 fr, .int .i64 te] w (Went w p k pv M (zop fr (te - fr))) := by
  have HW := Lib.hid fun pv M n s w h hc => write_one p k pv M n s w h hc
  have HF := Lib.hid fun pv M w h hc => flush_one p k pv M w h hc
  have H := Lib.hid h
  clear h
  go_enter Try.func44, Try.ntmps44
  go_wp2_with fail
  go_loopg [7] (te - fr) (fun m i wr => ∃ q : Nat, q + m = te - fr ∧ i = .int .i64 ((fr + q : Nat) : Int) ∧ Hid ((M.go ((List.range q).map (zw fr))).1 = 0 ∧ ∃ pv', Ds wr p k pv' (M.go ((List.range q).map (zw fr))).2 ∧ Step w wr (ft p k pv) (ft p k pv')))
  case atStart => exact ⟨0, by omega, by simp, rfl, pv, H.out, Step.refl _ _⟩
  case round =>
    clear H
    obtain ⟨q, hq, rfl, HH⟩ := hrel
    obtain ⟨h0, pv1, hd, hs⟩ := HH.out
    have hcl := Dk.go_calls M ((List.range q).map (zw fr))
    rw [List.length_map, List.length_range] at hcl
    have H0 := Lib.hid h0
    have HD := Lib.hid hd
    have HS := Lib.hid hs
    clear h0 hd hs HH
    match gk with
    | 0 =>
      obtain rfl : q = te - fr := by omega
      have hge : ¬ fr + (te - fr) < te := by omega
      have hCC := Lib.hid (show (M.go ((List.range (te - fr)).map (zw fr))).2.calls + 1 < 1000000 by omega)
      clear hcl
      go_wp2_with fail
      refine (HF.out _ _ _ HD.out hCC.out).mono ?_
      rintro e w1 ⟨rfl, pv2, h2, s2⟩
      go_wp2_with fail
      go_ret
      unfold Went zop
      rw [Dk.go_ok H0.out, Dk.go_one]
      exact ⟨rfl, pv2, h2, HS.out.trans s2⟩
    | g + 1 =>
      have hlt : fr + q < te := by omega
      have hCC := Lib.hid (show (M.go ((List.range q).map (zw fr))).2.calls + 1 < 1000000 by omega)
      clear hcl
      go_wp2_with (refine at_build38 rfl rfl ?_)
      refine (HW.out _ _ (fr + q) _ _ HD.out hCC.out).mono ?_
      rintro e w1 ⟨rfl, pv2, h2, s2⟩
      have H2 := Lib.hid h2
      have S2 := Lib.hid (HS.out.trans s2)
      clear h2 s2
      by_cases he : ((M.go ((List.range q).map (zw fr))).2.one (.wr (fr + q) zer)).1 = 0
      · have HE := Lib.hid he
        rw [he]
        clear he
        go_wp2_with fail
        go_roundg g
        case measure => omega
        case rel =>
          have e1 : M.go ((List.range (q + 1)).map (zw fr)) = (M.go ((List.range q).map (zw fr))).2.one (.wr (fr + q) zer) := Dk.go_succ H0.out
          refine ⟨q + 1, by omega, by go_num, ?_⟩
          rw [e1]
          exact ⟨HE.out, pv2, H2.out, S2.out⟩
      · have HE := Lib.hid (Dk.go_end (t := [.fl]) (f := zw fr) (show q < te - fr by omega) H0.out he)
        obtain ⟨er, her⟩ : ∃ er, er = ((M.go ((List.range q).map (zw fr))).2.one (.wr (fr + q) zer)).1 := ⟨_, rfl⟩
        rw [← her] at he ⊢
        have HER := Lib.hid her
        clear her
        go_wp2_with fail
        go_ret
        unfold Went zop
        rw [HE.out]
        exact ⟨by rw [HER.out]; rfl, pv2, H2.out, S2.out⟩

theorem Addr.add_add (x : Addr) (a b : Nat) : (x.add a).add b = x.add (a + b) := by
  unfold Addr.add
  by_cases ha : a = 0
  · subst ha; simp
  · by_cases hb : b = 0
    · subst hb; simp [ha]
    · rw [if_neg ha, if_neg hb, if_neg (by omega)]
      simp [Nat.add_assoc]

/-- One sector of a row of bytes, filled up with zeros. -/
def bk (zs : List Nat) (i : Nat) : Nat → Nat := fun j => zs.getD (i * 64 + j) 0
def fw (a : Nat) (zs : List Nat) (i : Nat) : Dop := .wr (a + 1 + i) (bk zs i)
/-- The calls of writeFrame. -/
def fop (a kind number : Nat) (zs : List Nat) : List Dop := (List.range ((zs.length + 63) / 64)).map (fw a zs) ++ [.fl, .wr a (hd kind number zs), .fl]

theorem Step.newCells {w : World} {F F' : Nat → Prop} (N : Nat) : ∀ (vs : List Value) (o : Nat) {w' : World}, Step w w' F F' → w.heap.size ≤ N → Step w (w'.setCells N o vs) F F'
  | [], _, _, h, _ => h
  | v :: r, o, w', h, hN => by
    rw [World.setCells]
    exact Step.newCells N r (o + 1) ⟨h.os, h.tape, h.output, by simpa [World.setCell] using h.size, fun b hb hn => (Below.heap_setCell _ _ _ _ (by show b ≠ N; omega)).trans (h.block b hb hn), h.foot⟩ hN

theorem wpList_copy2 {ops : Array Oper} {rest : List Oper} {op : Oper} {a : Act} {w : World} {Q : Exit → Act → World → Prop} (hgd : op.guard = none) (s x : Operand) (ho : op.op = .call { callee := .builtin .copy, args := #[s, x], argTypes := #[33, 33] })
    (b o m c : Nat) (hs : a.eval s = .slice (some ⟨b, o, none⟩) m c) (y : Addr) (m2 c2 : Nat) (hx : a.eval x = .slice (some y) m2 c2) (cs : List Value) (hl : cs.length = min m2 m) (hsrc : ∀ j v, cs[j]? = some v → w.cell? (y.add j) = some v) (ht : w.there b o m) (h1 : ∀ v ∈ cs, v.oneCell' = true)
    (h : wpList Try.prog ops Q rest (a.put op.dst (goInt (cs.length : Nat))) (w.setCells b o cs)) : wpList Try.prog ops Q (op :: rest) a w :=
  wpList_plain hgd fun _ hK => by
    have hrun := run_copy_cells (P := Try.prog) w 33 33 op.type 5 b o m c y m2 c2 cs Try.underlying33 (by kernel_rfl) hl hsrc (fun j hj => (ht j (by omega)).1) (fun j hj => (ht j (by omega)).2) h1
    unfold Oper.wp execOp
    simp only [ho, resolve, invoke, builtin, Sem.run_bind, Sem.run_pure, Result.andThen_ok, List.map_toArray, List.map_cons, List.map_nil, hs, hx, hrun]
    exact hK _ _ h

theorem cel_drop_range {zs : List Nat} {i : Nat} {w : World} {g : Nat} (hi : i * 64 < zs.length) (h : w.rowIs g 52 64 (fun _ => .int .u8 0)) : (w.setCells g 0 ((cel (zs.drop (i * 64))).take 64)).rangeAt g 0 (sc (bk zs i)) := by
  refine rowIs_range (rowIs_setCells _ 0 h) rfl fun j hj => ?_
  rw [if_pos (Nat.zero_le _), Nat.sub_zero, List.getElem?_take, if_pos hj]
  unfold bk
  rcases Nat.lt_or_ge (i * 64 + j) zs.length with hl | hl
  · rw [cel_at (by rw [List.length_drop]; omega), getD_drop]
    rfl
  · rw [List.getElem?_eq_none (by rw [cel_length, List.length_drop]; omega), getD_past hl]
    rfl

set_option maxHeartbeats 2000000 in
set_option maxRecDepth 100000 in
theorem writeFrame_any (p k : Nat) (pv : Value) (M : Dk) (a kind number : Nat) (A : Option Addr) (zs : List Nat) (c : Nat) (w : World) (h : Ds w p k pv M) (hr : Rd w A zs) (hA : ∀ x, zs ≠ [] → A = some x → ¬ ft p k pv x.block) (hzc : zs.length ≤ c)
    (hn : number < 4294967296) (hl : zs.length ≤ 16384) (ha : a ≤ 1000) (hc : M.calls + 300 < 1000000) :
    Calls Try.prog 36 #[.pointer (some ⟨p, 0, none⟩), .int .i64 a, .int .u8 kind, .int .i64 number, .slice A zs.length c] w (Went w p k pv M (fop a kind number zs)) := by
  have HW := Lib.hid fun pv M n s w h hc => write_one p k pv M n s w h hc
  have HF := Lib.hid fun pv M w h hc => flush_one p k pv M w h hc
  have HHD := Lib.hid fun w hr => headOf_any kind number A zs c w hn (by omega) hr
  have H := Lib.hid h
  have HR := Lib.hid hr
  have HA := Lib.hid hA
  clear h hr hA
  obtain ⟨L, hL⟩ : ∃ L, L = zs.length := ⟨_, rfl⟩
  rw [← hL] at hzc hl HHD ⊢
  have HL := Lib.hid hL
  clear hL
  go_enter Try.func36, Try.ntmps36
  go_wp2_with fail
  go_loopg [11] ((L + 63) / 64) (fun m i wr => ∃ q : Nat, q + m = (L + 63) / 64 ∧ i = .int .i64 (q : Int) ∧ Hid ((M.go ((List.range q).map (fw a zs))).1 = 0 ∧ ∃ pv', Ds wr p k pv' (M.go ((List.range q).map (fw a zs))).2 ∧ Step w wr (ft p k pv) (ft p k pv')))
  case atStart => exact ⟨0, by omega, rfl, rfl, pv, H.out, Step.refl _ _⟩
  case round =>
    obtain ⟨q, hq, rfl, HH⟩ := hrel
    obtain ⟨h0, pv1, hd, hs⟩ := HH.out
    have hcl := Dk.go_calls M ((List.range q).map (fw a zs))
    rw [List.length_map, List.length_range] at hcl
    have H0 := Lib.hid h0
    have HD := Lib.hid hd
    have HS := Lib.hid hs
    clear h0 hd hs HH
    have HRw := Lib.hid (HR.out.step HS.out HA.out)
    have hq3 : q ≤ 256 := by omega
    match gk with
    | 0 =>
      have hge : ¬ (q : Int) * 64 < (L : Int) := by omega
      have hqe := Lib.hid (show q = (L + 63) / 64 by omega)
      have hCC := Lib.hid (show (M.go ((List.range q).map (fw a zs))).2.calls + 3 < 1000000 by omega)
      clear hcl hq
      go_wp2_with fail
      refine (HF.out _ _ _ HD.out (by have := hCC.out; omega)).mono ?_
      rintro e w1 ⟨rfl, pv2, h2, s2⟩
      have EQ : Hid (M.go (fop a kind number zs) = (M.go ((List.range q).map (fw a zs))).2.go [.fl, .wr a (hd kind number zs), .fl]) := by
        show _ = _
        unfold fop
        rw [← HL.out, ← hqe.out, Dk.go_ok H0.out]
      generalize (M.go ((List.range q).map (fw a zs))).2 = M1 at *
      have H2 := Lib.hid h2
      have S2 := Lib.hid (HS.out.trans s2)
      clear h2 s2 HRw
      by_cases he : (M1.one .fl).1 = 0
      · rw [Dk.go_cons, if_pos he] at EQ
        rw [he]
        clear he
        have hC2 := M1.one_calls .fl
        generalize (M1.one .fl).2 = M2 at *
        have HR2 := Lib.hid (HR.out.step S2.out HA.out)
        go_wp2_with fail
        refine (HHD.out _ HR2.out).mono ?_
        rintro e w2 ⟨rfl, hb2⟩
        have H3 := Lib.hid (H2.out.below hb2)
        have S3 := Lib.hid (S2.out.trans (Step.of_below hb2 _))
        clear hb2 H2 S2 HR2
        go_wp2_with fail
        refine (HW.out _ _ a _ _ H3.out (by have := hCC.out; omega)).mono ?_
        rintro e w3 ⟨rfl, pv3, h4, s4⟩
        have H4 := Lib.hid h4
        have S4 := Lib.hid (S3.out.trans s4)
        clear h4 s4 H3 S3
        by_cases he : (M2.one (.wr a (hd kind number zs))).1 = 0
        · rw [Dk.go_cons, if_pos he, Dk.go_one] at EQ
          rw [he]
          clear he
          have hC3 := M2.one_calls (.wr a (hd kind number zs))
          generalize (M2.one (.wr a (hd kind number zs))).2 = M3 at *
          go_wp2_with fail
          refine (HF.out _ _ _ H4.out (by have := hCC.out; omega)).mono ?_
          rintro e w5 ⟨rfl, pv5, h5, s5⟩
          go_wp2_with fail
          go_ret
          unfold Went
          rw [EQ.out]
          exact ⟨rfl, pv5, h5, S4.out.trans s5⟩
        · rw [Dk.go_cons, if_neg he] at EQ
          obtain ⟨er, her⟩ : ∃ er, er = (M2.one (.wr a (hd kind number zs))).1 := ⟨_, rfl⟩
          rw [← her] at he ⊢
          have HER := Lib.hid her
          clear her
          go_wp2_with fail
          go_ret
          unfold Went
          rw [EQ.out]
          exact ⟨by rw [HER.out]; rfl, pv3, H4.out, S4.out⟩
      · rw [Dk.go_cons, if_neg he] at EQ
        obtain ⟨er, her⟩ : ∃ er, er = (M1.one .fl).1 := ⟨_, rfl⟩
        rw [← her] at he ⊢
        have HER := Lib.hid her
        clear her
        go_wp2_with fail
        go_ret
        unfold Went
        rw [EQ.out]
        exact ⟨by rw [HER.out]; rfl, pv2, H2.out, S2.out⟩
    | g + 1 =>
      have hlt : (q : Int) * 64 < (L : Int) := by omega
      have hlt2 : q * 64 < L := by omega
      have hCC := Lib.hid (show (M.go ((List.range q).map (fw a zs))).2.calls + 1 < 1000000 by omega)
      have HQ := Lib.hid hq
      clear hcl hq
      obtain ⟨x, rfl⟩ : ∃ x, A = some x := by
        obtain ⟨x, hx, _⟩ := HR.out.2.2 0 (by have := HL.out; omega)
        exact ⟨x, hx⟩
      obtain ⟨t, ht⟩ : ∃ t, t = q * 64 := ⟨_, rfl⟩
      have EW : IntKind.i64.wrap ((q : Int) * 64) = (t : Int) := by
        rw [show (q : Int) * 64 = ((t : Nat) : Int) by omega]
        exact Lib.wrap_i64_small t (by omega)
      have htL : t ≤ L := by omega
      have htL2 : t < L := by omega
      have htc : t < c := by omega
      have htc2 : ¬ c = t := by omega
      have HTT := Lib.hid ht
      clear ht
      go_upto_region 5 with (refine at_alloc38 rfl rfl ?_)
      go_still_tail 5, (by kernel_rfl)
      change wpList _ _ _ _ _ (wr.alloc Z64).drew
      have RZ := Lib.hid (show (wr.alloc Z64).drew.rowIs wr.heap.size 52 64 (fun _ => .int .u8 0) from rowZ wr)
      have TZ := Lib.hid (show (wr.alloc Z64).drew.there wr.heap.size 0 64 from thereZ wr)
      have HRz := Lib.hid (show Rd (wr.alloc Z64).drew (some x) zs from HRw.out.below ((Below.refl _ wr).alloc (Nat.le_refl _) Z64).drew)
      have HDz := Lib.hid (HD.out.alloc Z64).drew
      have HSz := Lib.hid (HS.out.alloc Z64).drew
      have hNew := Lib.hid (show ∀ b, ft p k pv1 b → b ≠ wr.heap.size from fun b hb e => by have := HD.out.lt b hb; omega)
      have hNw := Lib.hid HS.out.size
      have hszz : wr.heap.size < (wr.alloc Z64).drew.heap.size := by show wr.heap.size < (wr.alloc Z64).heap.size; simp
      clear HD HS HRw
      generalize hwz : (wr.alloc Z64).drew = wz at *
      clear hwz
      generalize wr.heap.size = N at *
      have CSL : Hid (((cel (zs.drop t)).take 64).length = min (L - t) 64) := by
        show _ = _
        rw [List.length_take, cel_length, List.length_drop, HL.out, Nat.min_comm]
      have CSR : Hid (∀ j v, ((cel (zs.drop t)).take 64)[j]? = some v → wz.cell? ((x.add t).add j) = some v) := fun j v hv => by
        rw [List.getElem?_take] at hv
        split at hv
        · rw [Addr.add_add]
          refine HRz.out.cells (t + j) v ?_
          rw [← hv]
          unfold cel
          rw [List.getElem?_map, List.getElem?_map, List.getElem?_drop]
        · cases hv
      have CS1 : Hid (∀ v ∈ (cel (zs.drop t)).take 64, v.oneCell' = true) := fun v hv => cel_one _ v (List.mem_of_mem_take hv)
      have RR := cel_drop_range (zs := zs) (i := q) (w := wz) (g := N) (by have := HL.out; omega) RZ.out
      rw [← HTT.out] at RR
      have HDc := Lib.hid (HDz.out.of_blocks (w' := wz.setCells N 0 ((cel (zs.drop t)).take 64)) (heap_setCells_other _ _ _ _ _ (hNew.out _ Ds.fp)) (heap_setCells_other _ _ _ _ _ (hNew.out _ Ds.fk)) (fun g hg => heap_setCells_other _ _ _ _ _ (hNew.out _ (.inr (.inr hg)))))
      have HSc := Lib.hid (Step.newCells N ((cel (zs.drop t)).take 64) 0 HSz.out hNw.out)
      refine wpList_copy2 rfl (.tmp 23) (.tmp 27) rfl N 0 64 64 (by simp [Act.eval, Act.put]) (x.add t) (L - t) (c - t) (by simp [Act.eval, Act.put]) ((cel (zs.drop t)).take 64) CSL.out CSR.out TZ.out CS1.out ?_
      simp only [Act.put, List.setIfInBounds_toArray, List.set_cons_zero, List.set_cons_succ]
      go_wp2_with (first
        | (with_reducible show wpList _ _ _ _ _ (World.setCells _ _ _ _); refine at_load38 (.tmp 12) rfl rfl N 0 (bk zs q) (by simp [Act.eval, Act.put]) RR ?_))
      clear RR
      refine (HW.out _ _ (a + 1 + q) _ _ HDc.out hCC.out).mono ?_
      rintro e w1 ⟨rfl, pv2, h2, s2⟩
      have H2 := Lib.hid h2
      have S2 := Lib.hid (HSc.out.trans s2)
      clear h2 s2
      by_cases he : ((M.go ((List.range q).map (fw a zs))).2.one (.wr (a + 1 + q) (bk zs q))).1 = 0
      · have HE := Lib.hid he
        rw [he]
        clear he
        go_wp2_with fail
        go_roundg g
        case measure => omega
        case rel =>
          have e1 : M.go ((List.range (q + 1)).map (fw a zs)) = (M.go ((List.range q).map (fw a zs))).2.one (.wr (a + 1 + q) (bk zs q)) := Dk.go_succ H0.out
          refine ⟨q + 1, by have := HQ.out; omega, by go_num, ?_⟩
          rw [e1]
          exact ⟨HE.out, pv2, H2.out, S2.out⟩
      · have HE := Lib.hid (Dk.go_end (t := [.fl, .wr a (hd kind number zs), .fl]) (f := fw a zs) (show q < (zs.length + 63) / 64 by have := HL.out; have := HQ.out; omega) H0.out he)
        obtain ⟨er, her⟩ : ∃ er, er = ((M.go ((List.range q).map (fw a zs))).2.one (.wr (a + 1 + q) (bk zs q))).1 := ⟨_, rfl⟩
        rw [← her] at he ⊢
        have HER := Lib.hid her
        clear her
        go_wp2_with fail
        go_ret
        unfold Went fop
        rw [HE.out]
        exact ⟨by rw [HER.out]; rfl, pv2, H2.out, S2.out⟩
end Go.Proofs.Ytjkfgdeiciligaa
