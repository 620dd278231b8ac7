/-
  StatusActive's walk: it returns true, and nothing that lay in memory is touched. Conditions: numbers are bytes, and lie in memory.
-/
import Derived.Test.YtpiieagdgickgaaSem
import Derived.Deep.CutRange
import Derived.Lib.QuietBelow
set_option linter.unusedSimpArgs false
set_option linter.unusedVariables false
namespace Go.Proofs.Ytpiieagdgickgaa
open Go.RowKit

set_option maxRecDepth 100000 in
set_option maxHeartbeats 8000000 in
theorem statusActive_walk (y : Hc) (n : Int) (mac : Int) (now : Int) (w : World) (hy : y.Ok) (hn0 : 0 ≤ n) (hn1 : n < 256) (hm0 : 0 ≤ mac) (hm1 : mac < 256) (ht0 : 0 ≤ now) (ht1 : now < 65536) :
    Calls Try.prog 7 #[hv y, .int .u8 n, .int .u8 mac, .int .u16 now] w fun e w' => e = .returned (.bool true) ∧ Below w.heap.size w w' := by
  have HAW := Lib.hid awake_any
  have HCH := Lib.hid fun W => choice_any y W hy
  have HIN := Lib.hid (ch_in y hy)
  have HST := Lib.hid fun W => station_any mac W hm0 hm1
  have B0 := Lib.hid (show Below w.heap.size w (w.alloc (Hcx y)) from (Below.refl _ w).alloc (Nat.le_refl _) _)
  have H0 := Lib.hid (hb_box w y)
  obtain ⟨C, hC⟩ : ∃ C, ch y = C := ⟨_, rfl⟩
  rw [hC] at HCH HIN
  obtain ⟨M, hM⟩ : ∃ M, sn mac = M := ⟨_, rfl⟩
  rw [hM] at HST
  obtain ⟨q0, q1, q2, q3, q4, q5⟩ := HIN.out
  obtain ⟨Q, hQ⟩ : ∃ Q : Nat, C.c + n % 4 = (Q : Int) := ⟨(C.c + n % 4).toNat, by omega⟩
  have hQ9 : Q ≤ 9 := by omega
  have HQQ := Lib.hid (show C.c ≤ (Q : Nat) by omega)
  have HQ := Lib.hid hQ
  obtain ⟨S, hS⟩ : ∃ S : Sg, S = ⟨1, M, now⟩ := ⟨_, rfl⟩
  have HOF := Lib.hid fun t b W A1 c1 (hP : Hm W b M) (hR : Rw eS W A1 (List.replicate Q S)) (hc : Q ≤ c1) => (show Calls Try.prog 13 #[cfv C, .pointer (some ⟨b, 0, none⟩), .slice A1 Q c1, .int .i64 t] W fun e w' => e = .returned (.int .i64 (stO C (some M) (List.replicate Q S) t)) ∧ Below W.heap.size W w' by
    have := of_some C b M A1 (List.replicate Q S) c1 t W hP hR (by rw [List.length_replicate]; exact hc) (by rw [List.length_replicate]; omega) (by omega)
    rwa [List.length_replicate] at this)
  have HA1 := Lib.hid (show stO C (some M) (List.replicate Q S) now = 2 by
    have := st_active (x := C) (n := Q) (s := S) (now := now) (by rw [hS]; exact ht0) (by rw [hS]; exact Int.le_refl _) (by rw [hS]; show now - now < C.a; omega) (by omega) (by omega) (by omega)
    rw [hS] at this ⊢
    exact this)
  have HA2 := Lib.hid fun (h2 : ¬ C.a < 2) => (show stO C (some M) (List.replicate Q S) (now + 1) = 2 by
    have := st_active (x := C) (n := Q) (s := S) (now := now + 1) (by rw [hS]; exact ht0) (by rw [hS]; show now ≤ now + 1; omega) (by rw [hS]; show now + 1 - now < C.a; omega) (by omega) (by omega) (by omega)
    rw [hS] at this ⊢
    exact this)
  have HBM := Lib.hid fun W => hm_box W 0 (.string ⟨#[]⟩) M
  have HRS := Lib.hid fun W => rw_one W S 48
  have HSS := Lib.hid hS
  obtain ⟨ya, yb, yc, yd, ye, yf, yg, yh, yi⟩ := y
  obtain ⟨m0, m1, m2, m3, m4, m5⟩ := M
  subst hS
  simp only [hv, Hcx, mv, Hx, cfv, sl] at HCH B0 H0 HST HBM HOF HRS ⊢
  clear hy hC hM hQ HSS q0 q1 q2 q3
  go_enter Try.func7, Try.ntmps7
  go_upto_region 1 with fail
  change (Code.region _ _ _).wp _ _ _ (w.alloc (.cells #[.int .u8 ya, .int .u8 yb, .int .u8 yc, .int .u8 yd, .int .u8 ye, .int .u8 yf, .int .u8 yg, .int .u8 yh, .int .u8 yi] 23))
  generalize w.alloc (.cells #[.int .u8 ya, .int .u8 yb, .int .u8 yc, .int .u8 yd, .int .u8 ye, .int .u8 yf, .int .u8 yg, .int .u8 yh, .int .u8 yi] 23) = W0 at *
  go_wp2_with fail
  refine (HAW.out _).mono ?_
  rintro e w1 ⟨rfl, hb⟩
  have B1 := Lib.hid (bthen B0.out hb B0.out.size)
  have H1 := Lib.hid (H0.out.below hb)
  clear hb B0 H0
  have k0 := H1.out.c0
  have k1 := H1.out.c1
  have k2 := H1.out.c2
  have k3 := H1.out.c3
  have k4 := H1.out.c4
  have k5 := H1.out.c5
  have k6 := H1.out.c6
  have k7 := H1.out.c7
  have k8 := H1.out.c8
  dsimp only at k0 k1 k2 k3 k4 k5 k6 k7 k8
  go_wp2_with fail
  refine (HCH.out _).mono ?_
  rintro e w2 ⟨rfl, hb⟩
  have B2 := Lib.hid (bthen B1.out hb B1.out.size)
  have P2 := Lib.hid (cb_box w2 zf)
  have D2 := Lib.hid (show Below w2.heap.size w2 (w2.alloc (Cfx zf)) from (Below.refl _ _).alloc (Nat.le_refl _) _)
  clear hb B1 H1 k0 k1 k2 k3 k4 k5 k6 k7 k8 HCH HAW
  go_upto_region 4 with (refine at_store27 _ _ _ zf C P2.out rfl rfl rfl rfl ?_; intro w3 P3 B3)
  have D3 := Lib.hid (D2.out.trans (B3.out _ (Nat.le_refl _)))
  have C3 := Lib.hid P3.out.cm
  have E3 := Lib.hid (bthen B2.out D3.out B2.out.size)
  clear P2 D2 B3 D3 B2 P3
  generalize w2.heap.size = b at *
  go_wp2_with fail
  refine (HST.out _).mono ?_
  rintro e w4 ⟨rfl, hb⟩
  have E4 := Lib.hid (bthen E3.out hb E3.out.size)
  have C4 := Lib.hid (C3.out.below hb)
  have M5 := Lib.hid (HBM.out w4)
  have hA : Below w4.heap.size w4 (w4.alloc (.cells #[.int .u32 0, .string ⟨#[]⟩, .int .u8 m0, .int .u8 m1, .int .u8 m2, .int .u8 m3, .int .u8 m4, .int .u8 m5] 38)) := (Below.refl _ _).alloc (Nat.le_refl _) _
  have E5 := Lib.hid (bthen E4.out hA E4.out.size)
  have C5 := Lib.hid (C4.out.below hA)
  clear hb hA E3 C3 E4 C4 HST HBM
  go_upto_region 5 with fail
  generalize w4.alloc (.cells #[.int .u32 0, .string ⟨#[]⟩, .int .u8 m0, .int .u8 m1, .int .u8 m2, .int .u8 m3, .int .u8 m4, .int .u8 m5] 38) = W5 at *
  generalize w4.heap.size = g at *
  go_wp2_with fail
  go_loopw [11, 12] (fun v i wr => ∃ k : Nat, i = .int .i64 k ∧ k ≤ Q ∧ Hid (wr.ownsRow W5.heap.size 48 8 v k (eS.cs (List.replicate k ⟨1, ⟨m0, m1, m2, m3, m4, m5⟩, now⟩)) ∧ Below W5.heap.size W5 wr)) (fun _ i _ => Q - (intOf i).toNat)
  case atStart => exact ⟨0, rfl, by omega, Lib.hid ⟨World.ownsRow_nil _ _ _ _, Below.refl _ _⟩⟩
  case round =>
    obtain ⟨k, rfl, hk, HH⟩ := hrel
    have C6 := Lib.hid (C5.out.below HH.out.2)
    have M6 := Lib.hid (M5.out.below HH.out.2)
    have k2 := C6.out.c2
    have hq := HQ.out
    by_cases hlt : k < Q
    · have h2 := M6.out.c2
      have h3 := M6.out.c3
      have h4 := M6.out.c4
      have h5 := M6.out.c5
      have h6 := M6.out.c6
      have h7 := M6.out.c7
      dsimp only at h2 h3 h4 h5 h6 h7
      have HA3 : Below wr.heap.size wr (wr.alloc (.cells #[.int .i64 1, .int .u8 m0, .int .u8 m1, .int .u8 m2, .int .u8 m3, .int .u8 m4, .int .u8 m5, .int .i64 now] 48)) := (Below.refl _ _).alloc (Nat.le_refl _) _
      have HB3 := Lib.hid (bthen HH.out.2 HA3 HH.out.2.size)
      have HO3 := Lib.hid (own_keep HH.out.1 HA3)
      have HLE := Lib.hid (show k + 1 ≤ 1000000000000 by omega)
      clear HA3
      go_wp2_with (at_builtin; refine wpList_append_rw tS _ rfl (.tmp 31) (.tmp 39) rfl W5.heap.size _ _ _ (by simp [Act.eval, Act.put]) HO3.out (some ⟨wr.heap.size, 0, none⟩) 1 1 [⟨1, ⟨m0, m1, m2, m3, m4, m5⟩, now⟩] (by simp [Act.eval, Act.put]) rfl (HRS.out wr) HLE.out HB3.out.size ?_)
      intro v4 w4 ho4 hg4
      have O4 := Lib.hid ho4
      have B4 := Lib.hid (HB3.out.grown hg4 HB3.out.size (fun j hj => (HO3.out.lt j hj).1))
      clear ho4 hg4 hq
      go_wp2_with fail
      go_roundw
      case rel => exact ⟨k + 1, by go_num, by omega, Lib.hid ⟨by rw [List.replicate_succ']; exact O4.out, B4.out⟩⟩
      case measure => simp [intOf]; omega
    · obtain rfl : k = Q := by omega
      obtain ⟨A1, c1, hv1, hc1, _, h1, -⟩ := own_at (E := eS) HH.out.1 (by rw [List.length_replicate]; omega)
      rw [List.length_replicate] at hv1 hc1
      subst hv1
      have S6 := Lib.hid h1
      have E6 := Lib.hid (bthen E5.out HH.out.2 E5.out.size)
      clear h1 HH k2
      have k0 := C6.out.c0
      have k1 := C6.out.c1
      have k2 := C6.out.c2
      have k3 := C6.out.c3
      have k4 := C6.out.c4
      have k5 := C6.out.c5
      have k6 := C6.out.c6
      have k7 := C6.out.c7
      have k8 := C6.out.c8
      go_wp2_with fail
      refine (HOF.out _ _ _ _ _ M6.out S6.out hc1).mono ?_
      rw [HA1.out]
      rintro e w7 ⟨rfl, hb⟩
      have E7 := Lib.hid (bthen E6.out hb E6.out.size)
      have C7 := Lib.hid (C6.out.below hb)
      have S7 := Lib.hid (S6.out.below hb)
      have M7 := Lib.hid (M6.out.below hb)
      clear hb k0 k1 k2 k3 k4 k5 k6 k7 k8
      have k0 := C7.out.c0
      have k1 := C7.out.c1
      have k2 := C7.out.c2
      have k3 := C7.out.c3
      have k4 := C7.out.c4
      have k5 := C7.out.c5
      have k6 := C7.out.c6
      have k7 := C7.out.c7
      have k8 := C7.out.c8
      by_cases hf : C.a < 2
      · go_wp2_with fail
        go_ret
        exact ⟨rfl, E7.out⟩
      · go_wp2_with fail
        refine (HOF.out _ _ _ _ _ M7.out S7.out hc1).mono ?_
        rw [HA2.out hf]
        rintro e w8 ⟨rfl, hb⟩
        have E8 := Lib.hid (bthen E7.out hb E7.out.size)
        clear hb k0 k1 k2 k3 k4 k5 k6 k7 k8
        go_wp2_with fail
        go_ret
        exact ⟨rfl, E8.out⟩
end Go.Proofs.Ytpiieagdgickgaa
