/-
  The contract of Arp: the bytes of a packet, in a row of its own. Conditions: numbers have their bits.
-/
import Derived.Test.YtgdbkjiifliobaaMake
import Derived.Deep.MidRow
import Derived.Deep.CutRange
namespace Go.Proofs.Ytgdbkjiifliobaa
open Go.RowKit

/-- A packet as a value. -/
structure Pk where
  a : Bool
  f : Nat
  t : Nat
  m0 : Nat
  m1 : Nat
  m2 : Nat
  m3 : Nat
  m4 : Nat
  m5 : Nat
  i : Int
  s : Int
structure Pk.Ok (p : Pk) : Prop where
  f : p.f < 4294967296
  t : p.t < 4294967296
  m0 : p.m0 < 256
  m1 : p.m1 < 256
  m2 : p.m2 < 256
  m3 : p.m3 < 256
  m4 : p.m4 < 256
  m5 : p.m5 < 256
/-- A packet in a block of its own. -/
structure Pm (w : World) (b : Nat) (p : Pk) : Prop where
  c0 : w.cell? ⟨b, 0, none⟩ = some (.bool p.a)
  c1 : w.cell? ⟨b, 1, none⟩ = some (.int .u32 (p.f : Int))
  c2 : w.cell? ⟨b, 2, none⟩ = some (.int .u32 (p.t : Int))
  c3 : w.cell? ⟨b, 3, none⟩ = some (.int .u8 (p.m0 : Int))
  c4 : w.cell? ⟨b, 4, none⟩ = some (.int .u8 (p.m1 : Int))
  c5 : w.cell? ⟨b, 5, none⟩ = some (.int .u8 (p.m2 : Int))
  c6 : w.cell? ⟨b, 6, none⟩ = some (.int .u8 (p.m3 : Int))
  c7 : w.cell? ⟨b, 7, none⟩ = some (.int .u8 (p.m4 : Int))
  c8 : w.cell? ⟨b, 8, none⟩ = some (.int .u8 (p.m5 : Int))
  c9 : w.cell? ⟨b, 9, none⟩ = some (.int .i64 p.i)
  c10 : w.cell? ⟨b, 10, none⟩ = some (.int .i64 p.s)
theorem Pm.keep {w w' : World} {b B : Nat} {p : Pk} (h : Pm w b p) (hb : Below B w w') (hB : b < B) : Pm w' b p := by
  have e : ∀ o, w'.cell? ⟨b, o, none⟩ = w.cell? ⟨b, o, none⟩ := fun o => hb.cell (p := ⟨b, o, none⟩) hB
  exact ⟨(e _).trans h.c0, (e _).trans h.c1, (e _).trans h.c2, (e _).trans h.c3, (e _).trans h.c4, (e _).trans h.c5, (e _).trans h.c6, (e _).trans h.c7, (e _).trans h.c8, (e _).trans h.c9, (e _).trans h.c10⟩
theorem Pm.drew {w : World} {b : Nat} {p : Pk} (h : Pm w b p) : Pm w.drew b p := ⟨h.c0, h.c1, h.c2, h.c3, h.c4, h.c5, h.c6, h.c7, h.c8, h.c9, h.c10⟩
/-- The object that a packet's box is. -/
def Px (p : Pk) : Obj := .cells #[.bool p.a, .int .u32 (p.f : Int), .int .u32 (p.t : Int), .int .u8 (p.m0 : Int), .int .u8 (p.m1 : Int), .int .u8 (p.m2 : Int), .int .u8 (p.m3 : Int), .int .u8 (p.m4 : Int), .int .u8 (p.m5 : Int), .int .i64 p.i, .int .i64 p.s] 27
theorem pm_heap {w : World} {b : Nat} {p : Pk} (h : w.heap[b]? = some (Px p)) : Pm w b p := by
  have e : ∀ o, w.cell? ⟨b, o, none⟩ = _ := fun o => cell_of_row _ _ _ _ _ _ h
  constructor <;> (rw [e]; rfl)
theorem pm_box (w : World) (p : Pk) : Pm (w.alloc (Px p)) w.heap.size p := pm_heap (heap_alloc_new w _)
theorem Pm.mac {w : World} {b : Nat} {p : Pk} (h : Pm w b p) (k : p.Ok) : Rd w (some ⟨b, 3, none⟩) [p.m0, p.m1, p.m2, p.m3, p.m4, p.m5] := by
  refine ⟨by simp, fun i => ?_, fun i hi => ⟨_, rfl, ?_⟩⟩
  · match i with
    | 0 => exact k.m0
    | 1 => exact k.m1
    | 2 => exact k.m2
    | 3 => exact k.m3
    | 4 => exact k.m4
    | 5 => exact k.m5
    | i + 6 => simp
  · rw [Addr.add_mid]
    match i, hi with
    | 0, _ => exact h.c3
    | 1, _ => exact h.c4
    | 2, _ => exact h.c5
    | 3, _ => exact h.c6
    | 4, _ => exact h.c7
    | 5, _ => exact h.c8

/-- The bytes of a packet by ARP. -/
def arb (p : Pk) : List Nat :=
  [0, 1, 8, 0, 6, 4, 0, if p.a = true then 2 else 1, p.m0, p.m1, p.m2, p.m3, p.m4, p.m5, p.f / 65536 / 256, p.f / 65536 % 256, p.f % 65536 / 256, p.f % 65536 % 256, 0, 0, 0, 0, 0, 0, p.t / 65536 / 256, p.t / 65536 % 256, p.t % 65536 / 256, p.t % 65536 % 256]

set_option maxRecDepth 100000 in
theorem arp_any (p : Pk) (w : World) (hp : p.Ok) :
    Calls Try.prog 10 #[.agg #[.bool p.a, .int .u32 p.f, .int .u32 p.t, .int .u8 p.m0, .int .u8 p.m1, .int .u8 p.m2, .int .u8 p.m3, .int .u8 p.m4, .int .u8 p.m5, .int .i64 p.i, .int .i64 p.s]] w
      fun e w' => e = .returned (.slice (some ⟨w.heap.size + 1, 0, none⟩) 28 28) ∧ Ow (w.heap.size + 1) (w.heap.size + 1) 28 (arb p) w' ∧ Below w.heap.size w w' := by
  have hf := hp.f
  have ht := hp.t
  have HP := Lib.hid hp
  clear hp
  have CK := Lib.hid fun W => kindOf_any p.a p.f p.t p.m0 p.m1 p.m2 p.m3 p.m4 p.m5 p.i p.s 1 2 W
  have CA := Lib.hid fun k L c v zs W h hk hL hc hv => putAddr_any (w.heap.size + 1) (w.heap.size + 1) 28 k L c v zs W h hk hL hc hv
  have P0 := Lib.hid (pm_box w p)
  have O0 := Lib.hid (ow_made (w.alloc (Px p)) 28 (w.heap.size + 1) (by omega) (by simp))
  have B0 := Lib.hid (((Below.refl w.heap.size w).alloc (Nat.le_refl _) (Px p)).alloc (by simp) (Zr 28))
  have K0 := Lib.hid (P0.out.keep ((Below.refl _ (w.alloc (Px p))).alloc (Nat.le_refl _) (Zr 28)) (by simp))
  rw [World.size_alloc] at O0
  clear P0
  go_enter Try.func10, Try.ntmps10
  go_upto_region 3 with (first
    | (refine at_make28 28 rfl rfl (by omega) ?_)
    | (refine at_copy_str rfl (.tmp 5) (.const (.string ⟨#[0, 1, 8, 0, 6, 4, 0]⟩)) rfl (w.heap.size + 1) (w.heap.size + 1) 28 0 28 28 _ _ rfl rfl O0.out (Nat.le_refl _) (by decide) (by decide) ?_; intro w1 O1 B1))
  have K1 := Lib.hid (K0.out.keep B1.out (by omega))
  have D1 := Lib.hid (B0.out.trans (B1.out.mono (by omega)))
  have O2 := Lib.hid (show Ow (w.heap.size + 1) (w.heap.size + 1) 28 [0, 1, 8, 0, 6, 4, 0, 0, 0, 0, 0, 0, 0, 0, 0, 0, 0, 0, 0, 0, 0, 0, 0, 0, 0, 0, 0, 0] w1 from O1.out)
  clear O0 B0 K0 O1 B1
  obtain ⟨c0, c1, c2, c3, c4, c5, c6, c7, c8, c9, c10⟩ := K1.out
  go_wp2_with fail
  clear c0 c1 c2 c3 c4 c5 c6 c7 c8 c9 c10
  refine (CK.out _).mono ?_
  rintro e w2 ⟨rfl, hb⟩
  have K2 := Lib.hid (K1.out.keep hb (World.block_lt_of_cell? _ _ K1.out.c0))
  have D2 := Lib.hid (D1.out.trans (hb.mono D1.out.size))
  have O3 := Lib.hid (O2.out.below (by omega) hb)
  clear hb K1 D1 O2
  obtain ⟨q, hq⟩ : ∃ q : Nat, q = if p.a = true then 2 else 1 := ⟨_, rfl⟩
  have E : (if p.a = true then (2 : Int) else 1) = (q : Int) := by rw [hq]; split <;> rfl
  rw [E]
  have hq2 : q < 256 := by rw [hq]; split <;> omega
  have HQ := Lib.hid hq
  clear hq E
  have cc : w2.cell? ⟨w.heap.size + 1, 7, none⟩ = some (.int .u8 0) := O3.out.cell (k := 7) (by omega)
  have fc := O3.out.frozen 7
  have O4 := Lib.hid (show Ow (w.heap.size + 1) (w.heap.size + 1) 28 [0, 1, 8, 0, 6, 4, 0, q, 0, 0, 0, 0, 0, 0, 0, 0, 0, 0, 0, 0, 0, 0, 0, 0, 0, 0, 0, 0] _ from O3.out.set (k := 7) (v := q) (by omega) hq2)
  have D4 := Lib.hid (D2.out.setCell (p := ⟨w.heap.size + 1, 7, none⟩) (by show w.heap.size ≤ w.heap.size + 1; omega) (.int .u8 (q : Int)))
  have K4 := Lib.hid (K2.out.keep ((Below.refl (w.heap.size + 1) w2).setCell (p := ⟨w.heap.size + 1, 7, none⟩) (Nat.le_refl _) (.int .u8 (q : Int))) (by omega))
  go_upto_region 4 with fail
  clear cc fc O3 D2 K2
  generalize w2.setCell ⟨w.heap.size + 1, 7, none⟩ (.int .u8 (q : Int)) = w3 at *
  have M4 := Lib.hid (K4.out.drew.mac HP.out)
  go_still_tail 4, (by kernel_rfl)
  change wpList _ _ _ _ _ w3.drew
  have O5 := Lib.hid O4.out.drew
  have K5 := Lib.hid K4.out.drew
  have D5 := Lib.hid D4.out.drew
  clear O4 K4 D4
  generalize w3.drew = w4 at *
  refine at_copy_bytes rfl (.tmp 12) (.tmp 14) rfl (w.heap.size + 1) (w.heap.size + 1) 28 8 20 20 6 6 _ _ _ rfl rfl O5.out M4.out rfl (Nat.le_refl _) (by omega) (by omega) ?_
  intro w5 O6 B6
  have O7 := Lib.hid (show Ow (w.heap.size + 1) (w.heap.size + 1) 28 [0, 1, 8, 0, 6, 4, 0, q, p.m0, p.m1, p.m2, p.m3, p.m4, p.m5, 0, 0, 0, 0, 0, 0, 0, 0, 0, 0, 0, 0, 0, 0] w5 from O6.out)
  have K7 := Lib.hid (K5.out.keep B6.out (by omega))
  have D7 := Lib.hid (D5.out.trans (B6.out.mono (by omega)))
  clear O5 K5 D5 O6 B6 M4
  go_upto_region 5 with fail
  have c1 := K7.out.c1
  go_still_tail 4, (by kernel_rfl)
  clear c1
  change wpList _ _ _ _ _ w5.drew
  have O8 := Lib.hid O7.out.drew
  have K8 := Lib.hid K7.out.drew
  have D8 := Lib.hid D7.out.drew
  clear O7 K7 D7
  generalize w5.drew = w6 at *
  go_wp2_with fail
  refine (CA.out 14 14 14 _ _ _ O8.out (by omega) (by omega) (by omega) hf).mono ?_
  rintro e w7 ⟨rfl, o9, b9⟩
  have O9 := Lib.hid o9
  have K9 := Lib.hid (K8.out.keep b9 (by omega))
  have D9 := Lib.hid (D8.out.trans (b9.mono (by omega)))
  clear o9 b9 O8 K8 D8
  go_upto_region 6 with fail
  have c2 := K9.out.c2
  go_still_tail 4, (by kernel_rfl)
  clear c2
  change wpList _ _ _ _ _ w7.drew
  have OA := Lib.hid O9.out.drew
  have DA := Lib.hid D9.out.drew
  clear O9 K9 D9
  generalize w7.drew = w8 at *
  go_wp2_with fail
  refine (CA.out 24 4 4 _ _ _ OA.out (by omega) (by omega) (by omega) ht).mono ?_
  rintro e w9 ⟨rfl, o9, b9⟩
  have OB := Lib.hid o9
  have DB := Lib.hid (DA.out.trans (b9.mono (by omega)))
  clear o9 b9 OA DA
  go_wp2_with fail
  go_ret
  refine ⟨rfl, ?_, DB.out⟩
  have := OB.out
  rw [HQ.out] at this
  exact this
end Go.Proofs.Ytgdbkjiifliobaa
