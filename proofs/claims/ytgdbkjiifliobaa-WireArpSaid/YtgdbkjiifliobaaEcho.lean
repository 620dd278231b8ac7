/-
  The contract of Echo: the bytes of a packet, in a row of its own. Conditions: numbers have their bits.
-/
import Derived.Test.YtgdbkjiifliobaaArp
namespace Go.Proofs.Ytgdbkjiifliobaa
open Go.RowKit

/-- The low-order 16 bits of a number. -/
def lo (n : Int) : Nat := (n % 65536).toNat
theorem lo_lt (n : Int) : lo n < 65536 := by unfold lo; omega
theorem lo_eq (n : Int) : ((lo n : Nat) : Int) = n % 65536 := by unfold lo; omega
/-- Both parts of an echo, with two bytes where the checksum is. -/
def hdp (p : Pk) (a b : Nat) : List Nat := [69, 0, 0, 32, 0, 0, 0, 0, 64, 1, a, b, p.f / 65536 / 256, p.f / 65536 % 256, p.f % 65536 / 256, p.f % 65536 % 256, p.t / 65536 / 256, p.t / 65536 % 256, p.t % 65536 / 256, p.t % 65536 % 256]
def bdp (p : Pk) (a b : Nat) : List Nat := [if p.a = true then 0 else 8, 0, a, b, lo p.i / 256, lo p.i % 256, lo p.s / 256, lo p.s % 256, 0, 0, 0, 0]
/-- The bytes of an echo. -/
def ecb (p : Pk) : List Nat := hdp p ((65535 - wd (hdp p 0 0)) / 256) ((65535 - wd (hdp p 0 0)) % 256) ++ bdp p ((65535 - wd (bdp p 0 0)) / 256) ((65535 - wd (bdp p 0 0)) % 256)
theorem Rd.mid {w : World} {g : Nat} {zs : List Nat} (h : Rd w (some ⟨g, 0, none⟩) zs) (k : Nat) : Rd w (some ⟨g, k, none⟩) (zs.drop k) := by
  refine ⟨by have := h.1; rw [List.length_drop]; omega, fun i => by rw [getD_drop]; exact h.2.1 _, fun i hi => ⟨_, rfl, ?_⟩⟩
  rw [List.length_drop] at hi
  obtain ⟨x, hx, hcell⟩ := h.2.2 (k + i) (by omega)
  injection hx with hx
  subst hx
  rw [getD_drop, ← hcell, Addr.add_mid, Addr.add_mid, Nat.zero_add]
theorem still {f : FuncId} {args : Array Value} {w : World} {v : Value} (h : Calls Try.prog f args w fun e w' => e = .returned v ∧ w = w') : Calls Try.prog f args w fun e w' => e = .returned v ∧ w' = w := h.mono fun _ _ ⟨a, b⟩ => ⟨a, b.symm⟩
theorem Rd.drew {w : World} {A : Option Addr} {zs : List Nat} (h : Rd w A zs) : Rd w.drew A zs := h

set_option maxRecDepth 100000 in
set_option maxHeartbeats 1000000 in
theorem echo_any (p : Pk) (w : World) (hp : p.Ok) :
    Calls Try.prog 15 #[.agg #[.bool p.a, .int .u32 p.f, .int .u32 p.t, .int .u8 p.m0, .int .u8 p.m1, .int .u8 p.m2, .int .u8 p.m3, .int .u8 p.m4, .int .u8 p.m5, .int .i64 p.i, .int .i64 p.s]] w
      fun e w' => e = .returned (.slice (some ⟨w.heap.size + 1, 0, none⟩) 32 32) ∧ Ow (w.heap.size + 1) (w.heap.size + 1) 32 (ecb p) w' ∧ Below w.heap.size w w' := by
  have hf := hp.f
  have ht := hp.t
  clear hp
  have hi := lo_lt p.i
  have hs := lo_lt p.s
  have CK := Lib.hid fun W => kindOf_any p.a p.f p.t p.m0 p.m1 p.m2 p.m3 p.m4 p.m5 p.i p.s 8 0 W
  have CA := Lib.hid fun k L c v zs W h hk hL hc hv => putAddr_any (w.heap.size + 1) (w.heap.size + 1) 32 k L c v zs W h hk hL hc hv
  have CW := Lib.hid fun k L c v zs W h hk hL hv => putWord_any (w.heap.size + 1) (w.heap.size + 1) 32 k L c v zs W h hk hL hv
  have P0 := Lib.hid (pm_box w p)
  have O0 := Lib.hid (ow_made (w.alloc (Px p)) 32 (w.heap.size + 1) (by omega) (by simp))
  have B0 := Lib.hid (((Below.refl w.heap.size w).alloc (Nat.le_refl _) (Px p)).alloc (by simp) (Zr 32))
  have K0 := Lib.hid (P0.out.keep ((Below.refl _ (w.alloc (Px p))).alloc (Nat.le_refl _) (Zr 32)) (by simp))
  rw [World.size_alloc] at O0
  clear P0
  go_enter Try.func15, Try.ntmps15
  go_upto_region 3 with (first
    | (refine at_make28 32 rfl rfl (by omega) ?_)
    | (refine at_copy_str rfl (.tmp 5) (.const (.string ⟨#[69, 0, 0, 32, 0, 0, 0, 0, 64, 1]⟩)) rfl (w.heap.size + 1) (w.heap.size + 1) 32 0 32 32 _ _ rfl rfl O0.out (Nat.le_refl _) (by decide) (by decide) ?_; intro w1 O1 B1))
  have K := Lib.hid (K0.out.keep B1.out (by omega))
  have D := Lib.hid (B0.out.trans (B1.out.mono (by omega)))
  have O := Lib.hid (show Ow (w.heap.size + 1) (w.heap.size + 1) 32 [69, 0, 0, 32, 0, 0, 0, 0, 64, 1, 0, 0, 0, 0, 0, 0, 0, 0, 0, 0, 0, 0, 0, 0, 0, 0, 0, 0, 0, 0, 0, 0] w1 from O1.out)
  clear O0 B0 K0 O1 B1
  go_upto_region 3 with fail
  have cc := K.out.c1
  go_still_tail 4, (by kernel_rfl)
  clear cc
  change wpList _ _ _ _ _ w1.drew
  replace O := Lib.hid O.out.drew
  replace K := Lib.hid K.out.drew
  replace D := Lib.hid D.out.drew
  generalize w1.drew = w2 at *
  go_wp2_with fail
  refine (CA.out 12 20 20 _ _ _ O.out (by omega) (by omega) (by omega) hf).mono ?_
  rintro e w3 ⟨rfl, o9, b9⟩
  replace O := Lib.hid (show Ow (w.heap.size + 1) (w.heap.size + 1) 32 [69, 0, 0, 32, 0, 0, 0, 0, 64, 1, 0, 0, p.f / 65536 / 256, p.f / 65536 % 256, p.f % 65536 / 256, p.f % 65536 % 256, 0, 0, 0, 0, 0, 0, 0, 0, 0, 0, 0, 0, 0, 0, 0, 0] w3 from o9)
  replace K := Lib.hid (K.out.keep b9 (by omega))
  replace D := Lib.hid (D.out.trans (b9.mono (by omega)))
  clear o9 b9
  go_upto_region 4 with fail
  have cc := K.out.c2
  go_still_tail 4, (by kernel_rfl)
  clear cc
  change wpList _ _ _ _ _ w3.drew
  replace O := Lib.hid O.out.drew
  replace K := Lib.hid K.out.drew
  replace D := Lib.hid D.out.drew
  generalize w3.drew = w4 at *
  go_wp2_with fail
  refine (CA.out 16 16 16 _ _ _ O.out (by omega) (by omega) (by omega) ht).mono ?_
  rintro e w5 ⟨rfl, o9, b9⟩
  replace O := Lib.hid (show Ow (w.heap.size + 1) (w.heap.size + 1) 32 [69, 0, 0, 32, 0, 0, 0, 0, 64, 1, 0, 0, p.f / 65536 / 256, p.f / 65536 % 256, p.f % 65536 / 256, p.f % 65536 % 256, p.t / 65536 / 256, p.t / 65536 % 256, p.t % 65536 / 256, p.t % 65536 % 256, 0, 0, 0, 0, 0, 0, 0, 0, 0, 0, 0, 0] w5 from o9)
  replace K := Lib.hid (K.out.keep b9 (by omega))
  replace D := Lib.hid (D.out.trans (b9.mono (by omega)))
  clear o9 b9
  go_upto_region 5 with fail
  obtain ⟨c0, c1, c2, c3, c4, c5, c6, c7, c8, c9, c10⟩ := K.out
  go_wp2_with fail
  clear c0 c1 c2 c3 c4 c5 c6 c7 c8 c9 c10
  refine (CK.out _).mono ?_
  rintro e w6 ⟨rfl, hb⟩
  replace K := Lib.hid (K.out.keep hb (World.block_lt_of_cell? _ _ K.out.c0))
  replace D := Lib.hid (D.out.trans (hb.mono D.out.size))
  replace O := Lib.hid (O.out.below (by omega) hb)
  clear hb
  obtain ⟨q, hq⟩ : ∃ q : Nat, q = if p.a = true then 0 else 8 := ⟨_, rfl⟩
  have E : (if p.a = true then (0 : Int) else 8) = (q : Int) := by rw [hq]; split <;> rfl
  rw [E]
  have hq2 : q < 256 := by rw [hq]; split <;> omega
  have HQ := Lib.hid hq
  clear hq E
  have cc : w6.cell? ⟨w.heap.size + 1, 20, none⟩ = some (.int .u8 0) := O.out.cell (k := 20) (by omega)
  have fc := O.out.frozen 20
  replace O := Lib.hid (show Ow (w.heap.size + 1) (w.heap.size + 1) 32 [69, 0, 0, 32, 0, 0, 0, 0, 64, 1, 0, 0, p.f / 65536 / 256, p.f / 65536 % 256, p.f % 65536 / 256, p.f % 65536 % 256, p.t / 65536 / 256, p.t / 65536 % 256, p.t % 65536 / 256, p.t % 65536 % 256, q, 0, 0, 0, 0, 0, 0, 0, 0, 0, 0, 0] _ from O.out.set (k := 20) (v := q) (by omega) hq2)
  replace D := Lib.hid (D.out.setCell (p := ⟨w.heap.size + 1, 20, none⟩) (by show w.heap.size ≤ w.heap.size + 1; omega) (.int .u8 (q : Int)))
  replace K := Lib.hid (K.out.keep ((Below.refl (w.heap.size + 1) w6).setCell (p := ⟨w.heap.size + 1, 20, none⟩) (Nat.le_refl _) (.int .u8 (q : Int))) (by omega))
  go_upto_region 6 with fail
  clear cc fc
  generalize w6.setCell ⟨w.heap.size + 1, 20, none⟩ (.int .u8 (q : Int)) = w7 at *
  have cc := K.out.c9
  have EW : IntKind.u16.wrap p.i = ((lo p.i : Nat) : Int) := (lo_eq _).symm ▸ rfl
  go_still_tail 5, (by kernel_rfl)
  clear cc EW
  change wpList _ _ _ _ _ w7.drew
  replace O := Lib.hid O.out.drew
  replace K := Lib.hid K.out.drew
  replace D := Lib.hid D.out.drew
  generalize w7.drew = w8 at *
  go_wp2_with fail
  refine (CW.out 24 8 8 _ _ _ O.out (by omega) (by omega) (lo_lt p.i)).mono ?_
  rintro e w9 ⟨rfl, o9, b9⟩
  replace O := Lib.hid (show Ow (w.heap.size + 1) (w.heap.size + 1) 32 [69, 0, 0, 32, 0, 0, 0, 0, 64, 1, 0, 0, p.f / 65536 / 256, p.f / 65536 % 256, p.f % 65536 / 256, p.f % 65536 % 256, p.t / 65536 / 256, p.t / 65536 % 256, p.t % 65536 / 256, p.t % 65536 % 256, q, 0, 0, 0, lo p.i / 256, lo p.i % 256, 0, 0, 0, 0, 0, 0] w9 from o9)
  replace K := Lib.hid (K.out.keep b9 (by omega))
  replace D := Lib.hid (D.out.trans (b9.mono (by omega)))
  clear o9 b9
  go_upto_region 7 with fail
  have cc := K.out.c10
  have EW : IntKind.u16.wrap p.s = ((lo p.s : Nat) : Int) := (lo_eq _).symm ▸ rfl
  go_still_tail 5, (by kernel_rfl)
  clear cc EW
  change wpList _ _ _ _ _ w9.drew
  replace O := Lib.hid O.out.drew
  replace K := Lib.hid K.out.drew
  replace D := Lib.hid D.out.drew
  generalize w9.drew = w10 at *
  go_wp2_with fail
  refine (CW.out 26 6 6 _ _ _ O.out (by omega) (by omega) (lo_lt p.s)).mono ?_
  rintro e w11 ⟨rfl, o9, b9⟩
  replace O := Lib.hid (show Ow (w.heap.size + 1) (w.heap.size + 1) 32 [69, 0, 0, 32, 0, 0, 0, 0, 64, 1, 0, 0, p.f / 65536 / 256, p.f / 65536 % 256, p.f % 65536 / 256, p.f % 65536 % 256, p.t / 65536 / 256, p.t / 65536 % 256, p.t % 65536 / 256, p.t % 65536 % 256, q, 0, 0, 0, lo p.i / 256, lo p.i % 256, lo p.s / 256, lo p.s % 256, 0, 0, 0, 0] w11 from o9)
  replace K := Lib.hid (K.out.keep b9 (by omega))
  replace D := Lib.hid (D.out.trans (b9.mono (by omega)))
  clear o9 b9
  clear K
  obtain ⟨x, hx⟩ : ∃ x, x = 65535 - wd [69, 0, 0, 32, 0, 0, 0, 0, 64, 1, 0, 0, p.f / 65536 / 256, p.f / 65536 % 256, p.f % 65536 / 256, p.f % 65536 % 256, p.t / 65536 / 256, p.t / 65536 % 256, p.t % 65536 / 256, p.t % 65536 % 256] := ⟨_, rfl⟩
  have hx2 : x < 65536 := by omega
  have CS := Lib.hid (still (words_any (some ⟨w.heap.size + 1, 0, none⟩) [69, 0, 0, 32, 0, 0, 0, 0, 64, 1, 0, 0, p.f / 65536 / 256, p.f / 65536 % 256, p.f % 65536 / 256, p.f % 65536 % 256, p.t / 65536 / 256, p.t / 65536 % 256, p.t % 65536 / 256, p.t % 65536 % 256] 32 w11.drew (O.out.rd.take 20).drew))
  rw [← hx] at CS
  have Hx := Lib.hid hx
  clear hx
  go_upto_region 8 with fail
  refine wp_region_still_tail 5 (by kernel_rfl) (by kernel_rfl) ?_
  simp only [List.take_succ_cons, List.take_zero, List.drop_succ_cons, List.drop_zero]
  repeat (first | still_step | still_call (CS.out))
  refine wpStill_nil ?_
  change wpList _ _ _ _ _ w11.drew
  clear CS
  replace O := Lib.hid O.out.drew
  replace D := Lib.hid D.out.drew
  generalize w11.drew = w12 at *
  go_wp2_with fail
  refine (CW.out 10 22 22 _ _ _ O.out (by omega) (by omega) hx2).mono ?_
  rintro e w13 ⟨rfl, o9, b9⟩
  replace O := Lib.hid (show Ow (w.heap.size + 1) (w.heap.size + 1) 32 [69, 0, 0, 32, 0, 0, 0, 0, 64, 1, x / 256, x % 256, p.f / 65536 / 256, p.f / 65536 % 256, p.f % 65536 / 256, p.f % 65536 % 256, p.t / 65536 / 256, p.t / 65536 % 256, p.t % 65536 / 256, p.t % 65536 % 256, q, 0, 0, 0, lo p.i / 256, lo p.i % 256, lo p.s / 256, lo p.s % 256, 0, 0, 0, 0] w13 from o9)
  replace D := Lib.hid (D.out.trans (b9.mono (by omega)))
  clear o9 b9
  obtain ⟨y, hy⟩ : ∃ y, y = 65535 - wd [q, 0, 0, 0, lo p.i / 256, lo p.i % 256, lo p.s / 256, lo p.s % 256, 0, 0, 0, 0] := ⟨_, rfl⟩
  have hy2 : y < 65536 := by omega
  have CS := Lib.hid (still (words_any (some ⟨w.heap.size + 1, 20, none⟩) [q, 0, 0, 0, lo p.i / 256, lo p.i % 256, lo p.s / 256, lo p.s % 256, 0, 0, 0, 0] 12 w13.drew (O.out.rd.mid 20).drew))
  rw [← hy] at CS
  have Hy := Lib.hid hy
  clear hy
  go_upto_region 9 with fail
  refine wp_region_still_tail 5 (by kernel_rfl) (by kernel_rfl) ?_
  simp only [List.take_succ_cons, List.take_zero, List.drop_succ_cons, List.drop_zero]
  repeat (first | still_step | still_call (CS.out))
  refine wpStill_nil ?_
  change wpList _ _ _ _ _ w13.drew
  clear CS
  replace O := Lib.hid O.out.drew
  replace D := Lib.hid D.out.drew
  generalize w13.drew = w14 at *
  go_wp2_with fail
  refine (CW.out 22 10 10 _ _ _ O.out (by omega) (by omega) hy2).mono ?_
  rintro e w15 ⟨rfl, o9, b9⟩
  replace O := Lib.hid (show Ow (w.heap.size + 1) (w.heap.size + 1) 32 [69, 0, 0, 32, 0, 0, 0, 0, 64, 1, x / 256, x % 256, p.f / 65536 / 256, p.f / 65536 % 256, p.f % 65536 / 256, p.f % 65536 % 256, p.t / 65536 / 256, p.t / 65536 % 256, p.t % 65536 / 256, p.t % 65536 % 256, q, 0, y / 256, y % 256, lo p.i / 256, lo p.i % 256, lo p.s / 256, lo p.s % 256, 0, 0, 0, 0] w15 from o9)
  replace D := Lib.hid (D.out.trans (b9.mono (by omega)))
  clear o9 b9
  go_wp2_with fail
  go_ret
  refine ⟨rfl, ?_, D.out⟩
  have := O.out
  rw [Hx.out, Hy.out, HQ.out] at this
  exact this
end Go.Proofs.Ytgdbkjiifliobaa
