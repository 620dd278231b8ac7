/-
  The contract of status.freshOf. Conditions: the row lies in memory, and has up to 1000000 sightings; the need is at most 2^40.
-/
import Derived.Test.YtpiieagdgickgaaCfg
set_option linter.unusedSimpArgs false
set_option linter.unusedVariables false
namespace Go.Proofs.Ytpiieagdgickgaa
open Go.RowKit

/-- How many sightings stand ahead of those that count. -/
def hd (c : Cf) (n : Nat) : Nat := n - 1 - (max c.c 0).toNat
/-- The fresh ones of some sightings; of the last ones. -/
def fq (c : Cf) (now : Int) (ss : List Sg) : List Sg := ss.filter fun s => wi now s.t c.a
def fr (c : Cf) (ss : List Sg) (now : Int) : List Sg := fq c now (ss.drop (hd c ss.length))
theorem fq_take {c : Cf} {now : Int} {ss : List Sg} {k : Nat} {s : Sg} (h : ss[k]? = some s) : fq c now (ss.take (k + 1)) = if wi now s.t c.a then fq c now (ss.take k) ++ [s] else fq c now (ss.take k) := by
  unfold fq
  rw [List.take_add_one, h, List.filter_append]
  cases hn : wi now s.t c.a <;> simp [hn]
theorem fq_le (c : Cf) (now : Int) (ss : List Sg) : (fq c now ss).length ≤ ss.length := List.length_filter_le ..
theorem fr_le (c : Cf) (ss : List Sg) (now : Int) : (fr c ss now).length ≤ ss.length := Nat.le_trans (fq_le ..) (by rw [List.length_drop]; omega)

set_option maxRecDepth 100000 in
set_option maxHeartbeats 4000000 in
theorem freshOf_any (x : Cf) (now : Int) (A : Option Addr) (xs : List Sg) (cap : Nat) (w : World) (h : Rw eS w A xs) (hc : xs.length ≤ cap) (hx : xs.length ≤ 1000000) (hcd : x.c ≤ 1099511627776) :
    Calls Try.prog 17 #[cfv x, .slice A xs.length cap, .int .i64 now] w (OwnPost eS 48 w (fr x xs now)) := by
  obtain ⟨H, hH⟩ : ∃ H, hd x xs.length = H := ⟨_, rfl⟩
  have hHL : H ≤ xs.length := by rw [← hH]; unfold hd; omega
  obtain ⟨M, hM⟩ : ∃ M : Nat, max x.c 0 = (M : Int) := ⟨(max x.c 0).toNat, by omega⟩
  have hM1 : M ≤ 1099511627776 := by omega
  have EM : max x.c 0 = (M : Int) := hM
  have EH : max ((xs.length : Int) - 1 - M) 0 = (H : Int) := by rw [← hH]; unfold hd; rw [hM]; omega
  have hfr : fr x xs now = fq x now (xs.drop H) := by unfold fr; rw [hH]
  rw [hfr]
  have R0 := h.rest hc H
  have hys : (xs.drop H).length = xs.length - H := List.length_drop
  obtain ⟨D, hD⟩ : ∃ D, dA 8 A cap H = D := ⟨_, rfl⟩
  rw [show eS.N = 8 from rfl, hD] at R0
  obtain ⟨Y, hY⟩ : ∃ Y, xs.drop H = Y := ⟨_, rfl⟩
  rw [hY] at R0 hys ⊢
  obtain ⟨L0, hL0⟩ : ∃ L0, xs.length = L0 := ⟨_, rfl⟩
  rw [hL0] at hc hx hHL EH hys ⊢
  obtain ⟨L, hL⟩ : ∃ L, L0 - H = L := ⟨_, rfl⟩
  have hLL : L ≤ L0 := by omega
  rw [hL] at hys
  have R := Lib.hid R0
  have HL := Lib.hid hys
  have HD := Lib.hid hD
  have HS := Lib.hid hL
  have HT := Lib.hid (fun (k : Nat) (s : Sg) (h : Y[k]? = some s) => fq_take (c := x) (now := now) h)
  have HLe := Lib.hid (fun k => fq_le x now (Y.take k))
  have HZ := Lib.hid (show fq x now (Y.take L) = fq x now Y by rw [← hys, List.take_length])
  have HW := Lib.hid fun u W => within_any now u x.a W
  have HB0 := Lib.hid (show Below w.heap.size w (w.alloc (Cfx x)) from (Below.refl _ w).alloc (Nat.le_refl _) _)
  have HC0 := Lib.hid (cm_box w x)
  have hz : w.heap.size ≤ (w.alloc (Cfx x)).heap.size := by simp
  have hz2 := hz
  obtain ⟨xa, xb, xc, xd, xe, xf, xg, xh, xi⟩ := x
  dsimp only at EM hcd HW
  simp only [cfv, Cfx] at HB0 HC0 hz hz2 ⊢
  clear h hH hM hfr R0 hys hD hY hL0 hL
  go_enter Try.func17, Try.ntmps17
  go_upto_region 1 with fail
  change (Code.region _ _ _).wp _ _ _ (w.alloc (.cells #[.int .i64 xa, .int .i64 xb, .int .i64 xc, .int .i64 xd, .int .i64 xe, .int .i64 xf, .int .i64 xg, .int .i64 xh, .int .i64 xi] 27))
  generalize w.alloc (.cells #[.int .i64 xa, .int .i64 xb, .int .i64 xc, .int .i64 xd, .int .i64 xe, .int .i64 xf, .int .i64 xg, .int .i64 xh, .int .i64 xi] 27) = W0 at *
  have k2 := HC0.out.c2
  dsimp only at k2
  go_wp2_with (refine at_sliceL (.tmp 19) (.tmp 20) rfl rfl A L0 cap H rfl (by simp [Act.eval, Act.put]) hHL hc ?_)
  rw [HD.out, HS.out]
  go_wp2_with fail
  go_loopw [8, 23] (fun v i wr => ∃ k : Nat, i = .int .i64 k ∧ k ≤ L ∧ Hid (wr.ownsRow W0.heap.size 48 8 v (fq ⟨xa, xb, xc, xd, xe, xf, xg, xh, xi⟩ now (Y.take k)).length (eS.cs (fq ⟨xa, xb, xc, xd, xe, xf, xg, xh, xi⟩ now (Y.take k))) ∧ Below W0.heap.size W0 wr)) (fun _ i _ => L - (intOf i).toNat)
  case atStart => exact ⟨0, rfl, by omega, Lib.hid ⟨World.ownsRow_nil _ _ _ _, Below.refl _ _⟩⟩
  case round =>
    obtain ⟨k, rfl, hk, HH⟩ := hrel
    by_cases hlt : k < L
    · obtain ⟨s, hs⟩ : ∃ s, Y[k]? = some s := ⟨_, List.getElem?_eq_getElem (by rw [HL.out]; exact hlt)⟩
      have RR := (R.out.below HB0.out).below HH.out.2
      obtain ⟨y, rfl⟩ := rw_some RR (by rw [HL.out]; omega)
      have hat := RR.at hs
      have HXT := Lib.hid (HT.out k _ hs)
      have hle := HLe.out k
      rw [List.length_take, HL.out] at hle
      have HLE := Lib.hid (show (fq ⟨xa, xb, xc, xd, xe, xf, xg, xh, xi⟩ now (Y.take k)).length + 1 ≤ 1000000000000 by omega)
      have HWs := Lib.hid (HW.out s.t)
      have HBX := Lib.hid (sb_box wr s)
      have HA1 : Below wr.heap.size wr (wr.alloc (Sx s)) := (Below.refl _ wr).alloc (Nat.le_refl _) _
      have HB1 := Lib.hid (bthen HH.out.2 HA1 HH.out.2.size)
      have HO1 := Lib.hid (own_keep HH.out.1 HA1)
      have HC1 := Lib.hid ((HC0.out.below HH.out.2).below HA1)
      obtain ⟨e, he⟩ : ∃ e, wi now s.t xa = e := ⟨_, rfl⟩
      have HE := Lib.hid he
      rw [he] at HWs HXT
      obtain ⟨f, m, t⟩ := s
      have HRM := Lib.hid fun W => rw_one W ⟨f, m, t⟩ 48
      obtain ⟨a0, a1, a2, a3, a4, a5⟩ := m
      simp only [Sx, sl] at HWs HBX HB1 HO1 HRM HC1
      clear hs he RR hle HA1
      go_upto_region 6 with (refine at_load48 _ rfl rfl _ _ rfl hat ?_)
      generalize wr.alloc (.cells #[.int .i64 f, .int .u8 a0, .int .u8 a1, .int .u8 a2, .int .u8 a3, .int .u8 a4, .int .u8 a5, .int .i64 t] 48) = W1 at *
      generalize wr.heap.size = N1 at *
      have d0 := HC1.out.c0
      have d7 := HBX.out.c7
      dsimp only at d0 d7
      go_wp2_with fail
      refine (HWs.out _).mono ?_
      rintro e2 w2 ⟨rfl, rfl⟩
      cases e
      · go_wp2_with fail
        go_roundw
        case rel => exact ⟨k + 1, by go_num, by omega, Lib.hid ⟨by rw [HXT.out, if_neg (by simp)]; exact HO1.out, HB1.out⟩⟩
        case measure => simp [intOf]; omega
      · have d1 := HBX.out.c0
        have d2 := HBX.out.c1
        have d3 := HBX.out.c2
        have d4 := HBX.out.c3
        have d5 := HBX.out.c4
        have d6 := HBX.out.c5
        have d8 := HBX.out.c6
        dsimp only at d1 d2 d3 d4 d5 d6 d8
        have HA3 : Below W1.heap.size W1 (W1.alloc (.cells #[.int .i64 f, .int .u8 a0, .int .u8 a1, .int .u8 a2, .int .u8 a3, .int .u8 a4, .int .u8 a5, .int .i64 t] 48)) := (Below.refl _ W1).alloc (Nat.le_refl _) _
        have HB3 := Lib.hid (bthen HB1.out HA3 HB1.out.size)
        have HO3 := Lib.hid (own_keep HO1.out HA3)
        clear HA3
        go_wp2_with (at_builtin; refine wpList_append_rw tS _ rfl (.tmp 33) (.tmp 35) rfl W0.heap.size _ _ _ (by simp [Act.eval, Act.put]) HO3.out (some ⟨W1.heap.size, 0, none⟩) 1 1 [⟨f, ⟨a0, a1, a2, a3, a4, a5⟩, t⟩] (by simp [Act.eval, Act.put]) rfl (HRM.out W1) HLE.out HB3.out.size ?_)
        intro v4 w4 ho4 hg4
        have O4 := Lib.hid ho4
        have B4 := Lib.hid (HB3.out.grown hg4 HB3.out.size (fun j hj => (HO3.out.lt j hj).1))
        clear ho4 hg4
        go_wp2_with fail
        go_roundw
        case rel => exact ⟨k + 1, by go_num, by omega, Lib.hid ⟨by rw [HXT.out, if_pos (by simp), List.length_append]; exact O4.out, B4.out⟩⟩
        case measure => simp [intOf]; omega
    · obtain rfl : k = L := by omega
      go_wp2_with fail
      go_ret
      exact ⟨_, rfl, own_base (by rw [← HZ.out]; exact HH.out.1) hz, HB0.out.trans (HH.out.2.mono hz)⟩
end Go.Proofs.Ytpiieagdgickgaa
