/-
  The contract of lines.Lease. Conditions: texts are ones that a process can hold; the library's variables lie as their texts lay them (Env).
-/
import Derived.Test.YthpgmlijfcfddaaGreatDoorNb
import Derived.Deep.CutRange
set_option linter.unusedSimpArgs false
set_option linter.unusedVariables false
namespace Go.Proofs.YthpgmlijfcfddaaGreatDoor
open Go.RowKit

def ls4 (X0 X1 X2 X3 : ByteArray) : Rr × Int :=
  if (X0.toList == [108, 101, 97, 115, 101]) = true then
    (if (tkO X3.data.toList).2 = 0 then
      (if (stO X1 X2).2 = 0 then ({ (stO X1 X2).1 with u := (tkO X3.data.toList).1 }, 0) else (zr, (stO X1 X2).2))
     else (zr, (tkO X3.data.toList).2))
  else (zr, 1)
/-- A line of leases. -/
def lsO (s : ByteArray) : Rr × Int :=
  if s.size ≤ 200 then
    match wl s.data.toList with
    | [x0, x1, x2, x3] => ls4 ⟨x0.toArray⟩ ⟨x1.toArray⟩ ⟨x2.toArray⟩ ⟨x3.toArray⟩
    | _ => (zr, 1)
  else (zr, 1)

theorem lease_bad (s : ByteArray) (w : World) (h : ∀ W, Calls Tryz.prog 20 #[.string s] W fun e w' => (∃ p, e = .returned (.tuple #[.slice none 0 0, eW p 1])) ∧ Below W.heap.size W w') :
    Calls Tryz.prog 11 #[.string s] w (SPost w zr 1) := by
  have HS := Lib.hid h
  clear h
  go_enter Tryz.func11, Tryz.ntmps11
  go_wp2_with fail
  refine (HS.out _).mono ?_
  rintro e w1 ⟨⟨p, rfl⟩, hb⟩
  simp only [eW]
  have HB := Lib.hid (((Below.refl _ w).alloc (Nat.le_refl _) _).trans (hb.mono (by simp)))
  obtain ⟨hc1, hf1⟩ := bcell hb
  have hz1 : w.heap.size < w1.heap.size := by have := hb.size; simp at this; omega
  clear hb
  go_wp2_with fail
  exact bodyPost_ret (v := .tuple #[rv zr, eW p 1]) (by simp [results, Tryz.results11, go_sem, hc1, hf1, hz1, rv, zr, eW]) rfl ⟨⟨_, rfl, .inr ⟨by decide, _, rfl⟩⟩, set8 HB.out (Nat.le_refl _) _ _ _ _ _ _ _ _⟩

theorem sc_same (W : World) (b k : Nat) (v x : Value) (h : W.cell? ⟨b, k, none⟩ = some x) : (W.setCell ⟨b, k, none⟩ v).cell? ⟨b, k, none⟩ = some v := World.cell?_setCell_same' W ⟨b, k, none⟩ v (by rw [h]; rfl)
theorem sc_other (W : World) (b k j : Nat) (v : Value) (h : j ≠ k) : (W.setCell ⟨b, k, none⟩ v).cell? ⟨b, j, none⟩ = W.cell? ⟨b, j, none⟩ := World.cell?_setCell_other W ⟨b, k, none⟩ ⟨b, j, none⟩ v (by intro q; injection q with _ q; exact h q.symm)
/-- A row in a block that may be written. -/
structure C8 (W : World) (b : Nat) (r : Rr) : Prop where
  c0 : W.cell? ⟨b, 0, none⟩ = some (.int .u32 r.a)
  c1 : W.cell? ⟨b, 1, none⟩ = some (.int .u8 r.m0)
  c2 : W.cell? ⟨b, 2, none⟩ = some (.int .u8 r.m1)
  c3 : W.cell? ⟨b, 3, none⟩ = some (.int .u8 r.m2)
  c4 : W.cell? ⟨b, 4, none⟩ = some (.int .u8 r.m3)
  c5 : W.cell? ⟨b, 5, none⟩ = some (.int .u8 r.m4)
  c6 : W.cell? ⟨b, 6, none⟩ = some (.int .u8 r.m5)
  c7 : W.cell? ⟨b, 7, none⟩ = some (.int .i64 r.u)
  f : ∀ k, W.frozen? ⟨b, k, none⟩ = false
/-- What stands behind the call of station. -/
def Lr (w2 : World) (r : Rr) (n : Int) (ev p : Value) (W : World) : Prop := ∃ b, p = .pointer (some ⟨b, 0, none⟩) ∧ Ew n ev ∧ w2.heap.size ≤ b ∧ Below w2.heap.size w2 W ∧ C8 W b r
theorem lr_new {w2 w3 : World} (h : Below w2.drew.heap.size w2.drew w3) (r : Rr) (n : Int) (ev : Value) (he : Ew n ev) : Lr w2 r n ev (.pointer (some ⟨w3.heap.size, 0, none⟩)) (w3.alloc (.cells #[.int .u32 r.a, .int .u8 r.m0, .int .u8 r.m1, .int .u8 r.m2, .int .u8 r.m3, .int .u8 r.m4, .int .u8 r.m5, .int .i64 r.u] 33)) := by
  have hb : Below w2.heap.size w2 w3 := (Below.refl _ w2).drew.trans (h.mono (by simp))
  exact ⟨_, rfl, he, hb.size, hb.alloc hb.size _, ⟨by simp, by simp, by simp, by simp, by simp, by simp, by simp, by simp, fun k => by simp⟩⟩
theorem lr_set {w2 w3 : World} (h : Below (w2.alloc (.cells #[.int .u32 0, .int .u8 0, .int .u8 0, .int .u8 0, .int .u8 0, .int .u8 0, .int .u8 0, .int .i64 0] 33)).drew.heap.size (w2.alloc (.cells #[.int .u32 0, .int .u8 0, .int .u8 0, .int .u8 0, .int .u8 0, .int .u8 0, .int .u8 0, .int .i64 0] 33)).drew w3) (r : Rr) (n : Int) (ev : Value) (he : Ew n ev) : Lr w2 r n ev (.pointer (some ⟨w2.heap.size, 0, none⟩)) ((((((((w3.setCell ⟨w2.heap.size, 0, none⟩ (.int .u32 r.a)).setCell ⟨w2.heap.size, 1, none⟩ (.int .u8 r.m0)).setCell ⟨w2.heap.size, 2, none⟩ (.int .u8 r.m1)).setCell ⟨w2.heap.size, 3, none⟩ (.int .u8 r.m2)).setCell ⟨w2.heap.size, 4, none⟩ (.int .u8 r.m3)).setCell ⟨w2.heap.size, 5, none⟩ (.int .u8 r.m4)).setCell ⟨w2.heap.size, 6, none⟩ (.int .u8 r.m5)).setCell ⟨w2.heap.size, 7, none⟩ (.int .i64 r.u)) := by
  have hb : Below w2.heap.size w2 w3 := ((Below.refl _ w2).alloc (Nat.le_refl _) _).drew.trans (h.mono (by simp))
  have k0 : w3.cell? ⟨w2.heap.size, 0, none⟩ = some (.int .u32 0) := (by rw [h.cell (p := ⟨w2.heap.size, 0, none⟩) (by simp)]; simp)
  have k1 : w3.cell? ⟨w2.heap.size, 1, none⟩ = some (.int .u8 0) := (by rw [h.cell (p := ⟨w2.heap.size, 1, none⟩) (by simp)]; simp)
  have k2 : w3.cell? ⟨w2.heap.size, 2, none⟩ = some (.int .u8 0) := (by rw [h.cell (p := ⟨w2.heap.size, 2, none⟩) (by simp)]; simp)
  have k3 : w3.cell? ⟨w2.heap.size, 3, none⟩ = some (.int .u8 0) := (by rw [h.cell (p := ⟨w2.heap.size, 3, none⟩) (by simp)]; simp)
  have k4 : w3.cell? ⟨w2.heap.size, 4, none⟩ = some (.int .u8 0) := (by rw [h.cell (p := ⟨w2.heap.size, 4, none⟩) (by simp)]; simp)
  have k5 : w3.cell? ⟨w2.heap.size, 5, none⟩ = some (.int .u8 0) := (by rw [h.cell (p := ⟨w2.heap.size, 5, none⟩) (by simp)]; simp)
  have k6 : w3.cell? ⟨w2.heap.size, 6, none⟩ = some (.int .u8 0) := (by rw [h.cell (p := ⟨w2.heap.size, 6, none⟩) (by simp)]; simp)
  have k7 : w3.cell? ⟨w2.heap.size, 7, none⟩ = some (.int .i64 0) := (by rw [h.cell (p := ⟨w2.heap.size, 7, none⟩) (by simp)]; simp)
  have g : ∀ k, w3.frozen? ⟨w2.heap.size, k, none⟩ = false := fun k => by rw [h.frozen (p := ⟨w2.heap.size, k, none⟩) (by simp)]; simp
  exact ⟨_, rfl, he, Nat.le_refl _, set8 hb (Nat.le_refl _) _ _ _ _ _ _ _ _, ⟨by rw [sc_other _ _ 7 0 _ (by decide), sc_other _ _ 6 0 _ (by decide), sc_other _ _ 5 0 _ (by decide), sc_other _ _ 4 0 _ (by decide), sc_other _ _ 3 0 _ (by decide), sc_other _ _ 2 0 _ (by decide), sc_other _ _ 1 0 _ (by decide)]; exact sc_same _ _ 0 _ _ k0, by rw [sc_other _ _ 7 1 _ (by decide), sc_other _ _ 6 1 _ (by decide), sc_other _ _ 5 1 _ (by decide), sc_other _ _ 4 1 _ (by decide), sc_other _ _ 3 1 _ (by decide), sc_other _ _ 2 1 _ (by decide)]; exact sc_same _ _ 1 _ _ (by rw [sc_other _ _ 0 1 _ (by decide)]; exact k1), by rw [sc_other _ _ 7 2 _ (by decide), sc_other _ _ 6 2 _ (by decide), sc_other _ _ 5 2 _ (by decide), sc_other _ _ 4 2 _ (by decide), sc_other _ _ 3 2 _ (by decide)]; exact sc_same _ _ 2 _ _ (by rw [sc_other _ _ 1 2 _ (by decide), sc_other _ _ 0 2 _ (by decide)]; exact k2), by rw [sc_other _ _ 7 3 _ (by decide), sc_other _ _ 6 3 _ (by decide), sc_other _ _ 5 3 _ (by decide), sc_other _ _ 4 3 _ (by decide)]; exact sc_same _ _ 3 _ _ (by rw [sc_other _ _ 2 3 _ (by decide), sc_other _ _ 1 3 _ (by decide), sc_other _ _ 0 3 _ (by decide)]; exact k3), by rw [sc_other _ _ 7 4 _ (by decide), sc_other _ _ 6 4 _ (by decide), sc_other _ _ 5 4 _ (by decide)]; exact sc_same _ _ 4 _ _ (by rw [sc_other _ _ 3 4 _ (by decide), sc_other _ _ 2 4 _ (by decide), sc_other _ _ 1 4 _ (by decide), sc_other _ _ 0 4 _ (by decide)]; exact k4), by rw [sc_other _ _ 7 5 _ (by decide), sc_other _ _ 6 5 _ (by decide)]; exact sc_same _ _ 5 _ _ (by rw [sc_other _ _ 4 5 _ (by decide), sc_other _ _ 3 5 _ (by decide), sc_other _ _ 2 5 _ (by decide), sc_other _ _ 1 5 _ (by decide), sc_other _ _ 0 5 _ (by decide)]; exact k5), by rw [sc_other _ _ 7 6 _ (by decide)]; exact sc_same _ _ 6 _ _ (by rw [sc_other _ _ 5 6 _ (by decide), sc_other _ _ 4 6 _ (by decide), sc_other _ _ 3 6 _ (by decide), sc_other _ _ 2 6 _ (by decide), sc_other _ _ 1 6 _ (by decide), sc_other _ _ 0 6 _ (by decide)]; exact k6), by exact sc_same _ _ 7 _ _ (by rw [sc_other _ _ 6 7 _ (by decide), sc_other _ _ 5 7 _ (by decide), sc_other _ _ 4 7 _ (by decide), sc_other _ _ 3 7 _ (by decide), sc_other _ _ 2 7 _ (by decide), sc_other _ _ 1 7 _ (by decide), sc_other _ _ 0 7 _ (by decide)]; exact k7), fun k => by simp [g]⟩⟩

set_option maxHeartbeats 4000000 in
theorem lease_four (s : ByteArray) (w : World) (X0 X1 X2 X3 : ByteArray) (hx : X1.size ≤ maxLen) (hy : X3.size ≤ 1000) (hE : Env w) (h : ∀ W, Calls Tryz.prog 20 #[.string s] W fun e w' => e = .returned (.tuple #[.slice (some ⟨W.heap.size, 0, none⟩) 4 4, .nilIface]) ∧ w' = W.alloc (.cells #[.string X0, .string X1, .string X2, .string X3] 9)) :
    Calls Tryz.prog 11 #[.string s] w (SPost w (ls4 X0 X1 X2 X3).1 (ls4 X0 X1 X2 X3).2) := by
  have HS := Lib.hid h
  have HT := Lib.hid fun W => station_any X1 X2 W hx
  have HK := Lib.hid fun W (hW : Env W) => tick_any X3 W hy hW
  have HBz := Lib.hid (show Below w.heap.size w (w.alloc (.cells #[.int .u32 0, .int .u8 0, .int .u8 0, .int .u8 0, .int .u8 0, .int .u8 0, .int .u8 0, .int .i64 0] 33)) from (Below.refl _ w).alloc (Nat.le_refl _) _)
  have HB0 := Lib.hid (show Below w.heap.size w ((w.alloc (.cells #[.int .u32 0, .int .u8 0, .int .u8 0, .int .u8 0, .int .u8 0, .int .u8 0, .int .u8 0, .int .i64 0] 33)).alloc (.cells #[.string X0, .string X1, .string X2, .string X3] 9)) from HBz.out.alloc HBz.out.size _)
  have HE := Lib.hid (hE.keep HB0.out)
  clear h hx hy hE
  obtain ⟨R, hR⟩ : ∃ R, ls4 X0 X1 X2 X3 = R := ⟨_, rfl⟩
  rw [hR]
  unfold ls4 at hR
  generalize stO X1 X2 = S at *
  obtain ⟨⟨a, m0, m1, m2, m3, m4, m5, u⟩, n⟩ := S
  generalize tkO X3.data.toList = K at *
  obtain ⟨v, q⟩ := K
  generalize h1 : (X0.toList == [108, 101, 97, 115, 101]) = T1 at hR
  have HR := Lib.hid hR
  clear hR
  go_enter Tryz.func11, Tryz.ntmps11
  go_wp2_with fail
  refine (HS.out _).mono ?_
  rintro e w1 ⟨rfl, rfl⟩
  cases T1
  · go_wp2_with fail
    obtain rfl : R = (zr, 1) := HR.out.symm
    exact bodyPost_ret (v := .tuple #[rv zr, eW ⟨#[102, 105, 114, 115, 116, 32, 119, 111, 114, 100]⟩ 1]) (by simp [results, Tryz.results11, go_sem, rv, zr, eW]) rfl ⟨⟨_, rfl, .inr ⟨(by decide : (1 : Int) ≠ 0), _, rfl⟩⟩, HB0.out⟩
  · go_wp2_with fail
    refine (HK.out _ HE.out).mono ?_
    rintro e w2 ⟨⟨ev, rfl, hew⟩, hb⟩
    have HB2 := Lib.hid (HB0.out.trans (hb.mono HB0.out.size))
    have k0 : w2.cell? ⟨w.heap.size, 0, none⟩ = some (.int .u32 0) := (by rw [hb.cell (p := ⟨w.heap.size, 0, none⟩) (by simp; omega)]; simp)
    have k1 : w2.cell? ⟨w.heap.size, 1, none⟩ = some (.int .u8 0) := (by rw [hb.cell (p := ⟨w.heap.size, 1, none⟩) (by simp; omega)]; simp)
    have k2 : w2.cell? ⟨w.heap.size, 2, none⟩ = some (.int .u8 0) := (by rw [hb.cell (p := ⟨w.heap.size, 2, none⟩) (by simp; omega)]; simp)
    have k3 : w2.cell? ⟨w.heap.size, 3, none⟩ = some (.int .u8 0) := (by rw [hb.cell (p := ⟨w.heap.size, 3, none⟩) (by simp; omega)]; simp)
    have k4 : w2.cell? ⟨w.heap.size, 4, none⟩ = some (.int .u8 0) := (by rw [hb.cell (p := ⟨w.heap.size, 4, none⟩) (by simp; omega)]; simp)
    have k5 : w2.cell? ⟨w.heap.size, 5, none⟩ = some (.int .u8 0) := (by rw [hb.cell (p := ⟨w.heap.size, 5, none⟩) (by simp; omega)]; simp)
    have k6 : w2.cell? ⟨w.heap.size, 6, none⟩ = some (.int .u8 0) := (by rw [hb.cell (p := ⟨w.heap.size, 6, none⟩) (by simp; omega)]; simp)
    have k7 : w2.cell? ⟨w.heap.size, 7, none⟩ = some (.int .i64 0) := (by rw [hb.cell (p := ⟨w.heap.size, 7, none⟩) (by simp; omega)]; simp)
    have j1 : w2.cell? ⟨w.heap.size + 1, 1, none⟩ = some (.string X1) := by rw [hb.cell (p := ⟨w.heap.size + 1, 1, none⟩) (by simp)]; simp
    have j2 : w2.cell? ⟨w.heap.size + 1, 2, none⟩ = some (.string X2) := by rw [hb.cell (p := ⟨w.heap.size + 1, 2, none⟩) (by simp)]; simp
    have hz2 : w.heap.size + 1 < w2.heap.size := by have := hb.size; simp at this; omega
    have g0 : ∀ k, w2.frozen? ⟨w.heap.size, k, none⟩ = false := fun k => by rw [hb.frozen (p := ⟨w.heap.size, k, none⟩) (by simp; omega)]; simp
    clear hb
    rcases hew with ⟨hq, rfl⟩ | ⟨hq, p, rfl⟩
    · have hq : q = 0 := hq
      subst hq
      go_upto_region 9 with (fail)
      go_cut [5, 7] from 35 to 44 (fun x p wc => Hid (Lr w2 ⟨a, m0, m1, m2, m3, m4, m5, u⟩ n x p wc))
      case first =>
        go_region_with (go_at_call 21; refine (HT.out _).mono ?_; rintro e w3 ⟨⟨ev, rfl, hew⟩, hb⟩; simp only [rv]; have HEV := Lib.hid hew; have HB3 := Lib.hid hb; obtain ⟨hc3, hf3⟩ := bcell hb; have hz3 := hb.size; simp at hz3; clear hew hb)
        all_goals
          go_wp2_with fail
          go_meet
          case rel => first | (with_reducible exact Lib.hid (lr_new HB3.out ⟨a, m0, m1, m2, m3, m4, m5, u⟩ n _ HEV.out)) | (with_reducible exact Lib.hid (lr_set HB3.out ⟨a, m0, m1, m2, m3, m4, m5, u⟩ n _ HEV.out))
      case rest =>
        obtain ⟨b, rfl, hew, hbb, hB, hC⟩ := hcut.out
        clear hcut
        have l0 : wc.cell? ⟨w.heap.size, 0, none⟩ = some (.int .u32 0) := by rw [hB.cell (p := ⟨w.heap.size, 0, none⟩) (by simp; omega)]; exact k0
        have l1 : wc.cell? ⟨w.heap.size, 1, none⟩ = some (.int .u8 0) := by rw [hB.cell (p := ⟨w.heap.size, 1, none⟩) (by simp; omega)]; exact k1
        have l2 : wc.cell? ⟨w.heap.size, 2, none⟩ = some (.int .u8 0) := by rw [hB.cell (p := ⟨w.heap.size, 2, none⟩) (by simp; omega)]; exact k2
        have l3 : wc.cell? ⟨w.heap.size, 3, none⟩ = some (.int .u8 0) := by rw [hB.cell (p := ⟨w.heap.size, 3, none⟩) (by simp; omega)]; exact k3
        have l4 : wc.cell? ⟨w.heap.size, 4, none⟩ = some (.int .u8 0) := by rw [hB.cell (p := ⟨w.heap.size, 4, none⟩) (by simp; omega)]; exact k4
        have l5 : wc.cell? ⟨w.heap.size, 5, none⟩ = some (.int .u8 0) := by rw [hB.cell (p := ⟨w.heap.size, 5, none⟩) (by simp; omega)]; exact k5
        have l6 : wc.cell? ⟨w.heap.size, 6, none⟩ = some (.int .u8 0) := by rw [hB.cell (p := ⟨w.heap.size, 6, none⟩) (by simp; omega)]; exact k6
        have l7 : wc.cell? ⟨w.heap.size, 7, none⟩ = some (.int .i64 0) := by rw [hB.cell (p := ⟨w.heap.size, 7, none⟩) (by simp; omega)]; exact k7
        have hg : ∀ k, wc.frozen? ⟨w.heap.size, k, none⟩ = false := fun k => by rw [hB.frozen (p := ⟨w.heap.size, k, none⟩) (by simp; omega)]; exact g0 k
        have HB4 := Lib.hid (HB2.out.trans (hB.mono (by omega)))
        have hzc : w.heap.size < wc.heap.size := by have := hB.size; omega
        have hne : w.heap.size ≠ b := by omega
        have d0 := hC.c0
        have d1 := hC.c1
        have d2 := hC.c2
        have d3 := hC.c3
        have d4 := hC.c4
        have d5 := hC.c5
        have d6 := hC.c6
        have d7 := hC.c7
        have df := hC.f
        simp only at d0 d1 d2 d3 d4 d5 d6 d7
        clear hB hC k0 k1 k2 k3 k4 k5 k6 k7 j1 j2 g0
        rcases hew with ⟨hn, rfl⟩ | ⟨hn, p, rfl⟩
        · subst hn
          have HRe := Lib.hid (show R = (⟨a, m0, m1, m2, m3, m4, m5, v⟩, 0) by rw [← HR.out]; simp)
          clear HR
          have hne2 := hne.symm
          have HWB := Lib.hid (show w.heap.size ≤ b by omega)
          go_wp2_with fail
          obtain rfl := HRe.out
          exact bodyPost_ret (v := .tuple #[rv ⟨a, m0, m1, m2, m3, m4, m5, v⟩, .nilIface]) (by simp [results, Tryz.results11, go_sem, l0, l1, l2, l3, l4, l5, l6, l7, hzc, hne, hne.symm, rv]) rfl ⟨⟨_, rfl, .inl ⟨rfl, rfl⟩⟩, (by with_reducible exact set8 (HB4.out.setCell HWB.out _) (Nat.le_refl _) _ _ _ _ _ _ _ _)⟩
        · have HRe := Lib.hid (show R = (zr, n) by rw [← HR.out]; simp [hn])
          have HN := Lib.hid hn
          simp only [eW]
          clear HR hn
          go_wp2_with fail
          obtain rfl := HRe.out
          exact bodyPost_ret (v := .tuple #[rv zr, eW p n]) (by simp [results, Tryz.results11, go_sem, l0, l1, l2, l3, l4, l5, l6, l7, hzc, hne, hne.symm, rv, zr, eW]) rfl ⟨⟨_, rfl, .inr ⟨HN.out, _, rfl⟩⟩, (by with_reducible exact set8 HB4.out (Nat.le_refl _) _ _ _ _ _ _ _ _)⟩
    · have e1 : R = (zr, q) := by
        have hq : q ≠ 0 := hq
        rw [← HR.out]; simp [hq]
      have HRe := Lib.hid e1
      have HQ := Lib.hid hq
      simp only [eW]
      clear HR e1 hq
      go_wp2_with fail
      obtain rfl := HRe.out
      exact bodyPost_ret (v := .tuple #[rv zr, eW p q]) (by simp [results, Tryz.results11, go_sem, k0, k1, k2, k3, k4, k5, k6, k7, hz2, rv, zr, eW]) rfl ⟨⟨_, rfl, .inr ⟨HQ.out, _, rfl⟩⟩, (by with_reducible exact set8 HB2.out (Nat.le_refl _) _ _ _ _ _ _ _ _)⟩
theorem lsO_four {s : ByteArray} {x0 x1 x2 x3 : List UInt8} (hs : s.size ≤ 200) (hw : wl s.data.toList = [x0, x1, x2, x3]) : lsO s = ls4 ⟨x0.toArray⟩ ⟨x1.toArray⟩ ⟨x2.toArray⟩ ⟨x3.toArray⟩ := by
  simp [lsO, hs, hw]
theorem lease_any (s : ByteArray) (w : World) (hm : s.size ≤ maxLen) (hE : Env w) :
    Calls Tryz.prog 11 #[.string s] w (SPost w (lsO s).1 (lsO s).2) := by
  by_cases hs : s.size ≤ 200
  · rcases four_or (wl s.data.toList) with ⟨x0, x1, x2, x3, hw⟩ | hw
    · rw [lsO_four hs hw]
      have h1 := word_size hs hw x1 (by simp)
      have h3 := word_size hs hw x3 (by simp)
      exact lease_four s w _ _ _ _ (by unfold maxLen; omega) (by omega) hE fun W => split_yes s W hs x0 x1 x2 x3 hw
    · have e : lsO s = (zr, 1) := by
        unfold lsO
        rw [if_pos hs]
        split
        · rename_i h; rw [h] at hw; simp at hw
        · rfl
      rw [e]
      exact lease_bad s w fun W => split_count s W hs hw
  · have e : lsO s = (zr, 1) := by unfold lsO; rw [if_neg hs]
    rw [e]
    exact lease_bad s w fun W => split_long s W (by omega) hm
end Go.Proofs.YthpgmlijfcfddaaGreatDoor
