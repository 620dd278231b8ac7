/-
  Part of the proofs of layer 18: several texts in one file. No condition of its own.
-/
import Derived.Test.YtilneflfeegnfaaGreatMOb
import Derived.Test.YtilneflfeegnfaaGreatRows
import Derived.ProofKit
import Derived.OpenShut
import Derived.ShutString
import Derived.Deep.Fields
import Derived.ChangeSame
import Derived.ChangeOld
import Derived.SizedLaws
set_option linter.unusedSimpArgs false
set_option linter.unusedVariables false
namespace Go.Proofs.YtilneflfeegnfaaGreat
open Go.RowKit
def DoPost (w : World) (D : Stt × List Pb.Pk × Int) (e : Ending) (w' : World) : Prop := ∃ r A cap, e = .returned (.tuple #[stv D.1 r, .slice A D.2.1.length cap, .int .i64 D.2.2]) ∧ Lie w' D.1 r ∧ Rw ePk w' A D.2.1 ∧ D.2.1.length ≤ cap ∧ Below w.heap.size w w'
theorem mk_Pk : Mk ePk := fun x => ⟨1, _, rfl, u32_no _⟩
theorem sizeEv : (Tryz.prog.info? 51).map (·.size) = some 19 := by kernel_rfl
theorem at_loadEv {ops : Array Oper} {rest : List Oper} {o : Oper} {a : Act} {w : World} {Q : Exit → Act → World → Prop} (x : Operand) (b : Nat) (e : Evt) (H : Cx w b (evl e)) (hgd : o.guard = none) (ho : o.op = .load 51 x) (hx : a.eval x = .pointer (some ⟨b, 0, none⟩))
    (h : wpList Tryz.prog ops Q rest (a.put o.dst (evv e)) w) : wpList Tryz.prog ops Q (o :: rest) a w :=
  at_get 51 _ x b [] (evl e) [] (by simpa using H) Tryz.underlying51 rfl (by rw [sizeEv]; rfl) hgd ho hx h
set_option maxRecDepth 100000 in
set_option maxHeartbeats 8000000 in
theorem do_any (c : Cf) (x : Stt) (r : Rws) (e : Evt) (w : World) (h : Lie w x r) (hi : In x) (hk : Ck c) (he : e.Ok) : Calls Tryz.prog 14 #[cfv c, stv x r, evv e] w (DoPost w (doL c x e)) := by
  have HCP := Lib.hid fun W (hW : Lie W x r) => copied_any x r W hW hi.sz
  have HTK := Lib.hid fun r b W H h => tickS_any c x r b W H h hi hk
  have HCH := Lib.hid fun r b W H h => changeS_any x r e b W H h hi he
  have HQ0 := Lib.hid (show e.k = 0 → doL c x e = ((tickL c x).1, (tickL c x).2, 0) from fun h0 => by unfold doL; rw [if_pos h0])
  have HQ1 := Lib.hid (doL_ch c x e)
  have HQ2 := Lib.hid (chL_two x e)
  obtain ⟨D, hD⟩ : ∃ D, doL c x e = D := ⟨_, rfl⟩
  obtain ⟨TL, hTL⟩ : ∃ TL, tickL c x = TL := ⟨_, rfl⟩
  obtain ⟨CL, hCL⟩ : ∃ CL, chL x e = CL := ⟨_, rfl⟩
  rw [hD] at HQ0 HQ1 ⊢
  rw [hTL] at HQ0 HTK
  rw [hCL] at HQ1 HQ2 HCH
  clear hD hTL hCL hi hk he
  have Hh := Lib.hid h
  obtain ⟨n, q, hs, sw, kn, pb, cs⟩ := x
  obtain ⟨A1, c1, A2, c2, A3, c3, A4, c4, A5, c5⟩ := r
  obtain ⟨k, ⟨a, o, p0, p1, p2, p3, p4, p5⟩, eb, en, ⟨sf, s0, s1, s2, s3, s4, s5, st⟩⟩ := e
  obtain ⟨xa, xb, xc, xd, xe, xf, xg, xh, xi⟩ := c
  have B0 := Lib.hid (show Below w.heap.size w ((((w.alloc (.cells #[.int .i64 xa, .int .i64 xb, .int .i64 xc, .int .i64 xd, .int .i64 xe, .int .i64 xf, .int .i64 xg, .int .i64 xh, .int .i64 xi] 27)).alloc (.cells #[.int .i64 n, .int .i64 q, .slice A1 hs.length c1, .slice A2 sw.length c2, .slice A3 kn.length c3, .slice A4 pb.length c4, .slice A5 cs.length c5] 35)).alloc (.cells #[.int .i64 k, .int .u32 a, .string o, .int .u8 p0, .int .u8 p1, .int .u8 p2, .int .u8 p3, .int .u8 p4, .int .u8 p5, .int .u32 eb, .int .i64 en, .int .i64 sf, .int .u8 s0, .int .u8 s1, .int .u8 s2, .int .u8 s3, .int .u8 s4, .int .u8 s5, .int .i64 st] 51)).alloc (.cells #[.int .i64 0, .int .i64 0, .slice none 0 0, .slice none 0 0, .slice none 0 0, .slice none 0 0, .slice none 0 0] 35)) from ((((Below.refl _ w).alloc (Nat.le_refl _) _).alloc (by simp) _).alloc (by simp <;> omega) _).alloc (by simp <;> omega) _)
  have C0 := Lib.hid (show Cm ((((w.alloc (.cells #[.int .i64 xa, .int .i64 xb, .int .i64 xc, .int .i64 xd, .int .i64 xe, .int .i64 xf, .int .i64 xg, .int .i64 xh, .int .i64 xi] 27)).alloc (.cells #[.int .i64 n, .int .i64 q, .slice A1 hs.length c1, .slice A2 sw.length c2, .slice A3 kn.length c3, .slice A4 pb.length c4, .slice A5 cs.length c5] 35)).alloc (.cells #[.int .i64 k, .int .u32 a, .string o, .int .u8 p0, .int .u8 p1, .int .u8 p2, .int .u8 p3, .int .u8 p4, .int .u8 p5, .int .u32 eb, .int .i64 en, .int .i64 sf, .int .u8 s0, .int .u8 s1, .int .u8 s2, .int .u8 s3, .int .u8 s4, .int .u8 s5, .int .i64 st] 51)).alloc (.cells #[.int .i64 0, .int .i64 0, .slice none 0 0, .slice none 0 0, .slice none 0 0, .slice none 0 0, .slice none 0 0] 35)) w.heap.size ⟨xa, xb, xc, xd, xe, xf, xg, xh, xi⟩ from (cm_box w ⟨xa, xb, xc, xd, xe, xf, xg, xh, xi⟩).below ((((Below.refl _ (w.alloc (Cfx ⟨xa, xb, xc, xd, xe, xf, xg, xh, xi⟩))).alloc (Nat.le_refl _) _).alloc (by simp) _).alloc (by simp <;> omega) _))
  have S0 := Lib.hid (show Sb ((((w.alloc (.cells #[.int .i64 xa, .int .i64 xb, .int .i64 xc, .int .i64 xd, .int .i64 xe, .int .i64 xf, .int .i64 xg, .int .i64 xh, .int .i64 xi] 27)).alloc (.cells #[.int .i64 n, .int .i64 q, .slice A1 hs.length c1, .slice A2 sw.length c2, .slice A3 kn.length c3, .slice A4 pb.length c4, .slice A5 cs.length c5] 35)).alloc (.cells #[.int .i64 k, .int .u32 a, .string o, .int .u8 p0, .int .u8 p1, .int .u8 p2, .int .u8 p3, .int .u8 p4, .int .u8 p5, .int .u32 eb, .int .i64 en, .int .i64 sf, .int .u8 s0, .int .u8 s1, .int .u8 s2, .int .u8 s3, .int .u8 s4, .int .u8 s5, .int .i64 st] 51)).alloc (.cells #[.int .i64 0, .int .i64 0, .slice none 0 0, .slice none 0 0, .slice none 0 0, .slice none 0 0, .slice none 0 0] 35)) (w.alloc (.cells #[.int .i64 xa, .int .i64 xb, .int .i64 xc, .int .i64 xd, .int .i64 xe, .int .i64 xf, .int .i64 xg, .int .i64 xh, .int .i64 xi] 27)).heap.size [.int .i64 n, .int .i64 q, .slice A1 hs.length c1, .slice A2 sw.length c2, .slice A3 kn.length c3, .slice A4 pb.length c4, .slice A5 cs.length c5] from (sb_box (w.alloc (.cells #[.int .i64 xa, .int .i64 xb, .int .i64 xc, .int .i64 xd, .int .i64 xe, .int .i64 xf, .int .i64 xg, .int .i64 xh, .int .i64 xi] 27)) ⟨n, q, hs, sw, kn, pb, cs⟩ ⟨A1, c1, A2, c2, A3, c3, A4, c4, A5, c5⟩).below (((Below.refl _ _).alloc (Nat.le_refl _) _).alloc (by simp) _))
  have X0 := Lib.hid (show Cx ((((w.alloc (.cells #[.int .i64 xa, .int .i64 xb, .int .i64 xc, .int .i64 xd, .int .i64 xe, .int .i64 xf, .int .i64 xg, .int .i64 xh, .int .i64 xi] 27)).alloc (.cells #[.int .i64 n, .int .i64 q, .slice A1 hs.length c1, .slice A2 sw.length c2, .slice A3 kn.length c3, .slice A4 pb.length c4, .slice A5 cs.length c5] 35)).alloc (.cells #[.int .i64 k, .int .u32 a, .string o, .int .u8 p0, .int .u8 p1, .int .u8 p2, .int .u8 p3, .int .u8 p4, .int .u8 p5, .int .u32 eb, .int .i64 en, .int .i64 sf, .int .u8 s0, .int .u8 s1, .int .u8 s2, .int .u8 s3, .int .u8 s4, .int .u8 s5, .int .i64 st] 51)).alloc (.cells #[.int .i64 0, .int .i64 0, .slice none 0 0, .slice none 0 0, .slice none 0 0, .slice none 0 0, .slice none 0 0] 35)) ((w.alloc (.cells #[.int .i64 xa, .int .i64 xb, .int .i64 xc, .int .i64 xd, .int .i64 xe, .int .i64 xf, .int .i64 xg, .int .i64 xh, .int .i64 xi] 27)).alloc (.cells #[.int .i64 n, .int .i64 q, .slice A1 hs.length c1, .slice A2 sw.length c2, .slice A3 kn.length c3, .slice A4 pb.length c4, .slice A5 cs.length c5] 35)).heap.size (evl ⟨k, ⟨a, o, p0, p1, p2, p3, p4, p5⟩, eb, en, ⟨sf, s0, s1, s2, s3, s4, s5, st⟩⟩) from Cx.below (show Cx (((w.alloc (.cells #[.int .i64 xa, .int .i64 xb, .int .i64 xc, .int .i64 xd, .int .i64 xe, .int .i64 xf, .int .i64 xg, .int .i64 xh, .int .i64 xi] 27)).alloc (.cells #[.int .i64 n, .int .i64 q, .slice A1 hs.length c1, .slice A2 sw.length c2, .slice A3 kn.length c3, .slice A4 pb.length c4, .slice A5 cs.length c5] 35)).alloc (.cells #[.int .i64 k, .int .u32 a, .string o, .int .u8 p0, .int .u8 p1, .int .u8 p2, .int .u8 p3, .int .u8 p4, .int .u8 p5, .int .u32 eb, .int .i64 en, .int .i64 sf, .int .u8 s0, .int .u8 s1, .int .u8 s2, .int .u8 s3, .int .u8 s4, .int .u8 s5, .int .i64 st] 51)) ((w.alloc (.cells #[.int .i64 xa, .int .i64 xb, .int .i64 xc, .int .i64 xd, .int .i64 xe, .int .i64 xf, .int .i64 xg, .int .i64 xh, .int .i64 xi] 27)).alloc (.cells #[.int .i64 n, .int .i64 q, .slice A1 hs.length c1, .slice A2 sw.length c2, .slice A3 kn.length c3, .slice A4 pb.length c4, .slice A5 cs.length c5] 35)).heap.size (evl ⟨k, ⟨a, o, p0, p1, p2, p3, p4, p5⟩, eb, en, ⟨sf, s0, s1, s2, s3, s4, s5, st⟩⟩) from cx_box _ _ _ 51 rfl) ((Below.refl _ _).alloc (Nat.le_refl _) _))
  have Z0 := Lib.hid (show Sb ((((w.alloc (.cells #[.int .i64 xa, .int .i64 xb, .int .i64 xc, .int .i64 xd, .int .i64 xe, .int .i64 xf, .int .i64 xg, .int .i64 xh, .int .i64 xi] 27)).alloc (.cells #[.int .i64 n, .int .i64 q, .slice A1 hs.length c1, .slice A2 sw.length c2, .slice A3 kn.length c3, .slice A4 pb.length c4, .slice A5 cs.length c5] 35)).alloc (.cells #[.int .i64 k, .int .u32 a, .string o, .int .u8 p0, .int .u8 p1, .int .u8 p2, .int .u8 p3, .int .u8 p4, .int .u8 p5, .int .u32 eb, .int .i64 en, .int .i64 sf, .int .u8 s0, .int .u8 s1, .int .u8 s2, .int .u8 s3, .int .u8 s4, .int .u8 s5, .int .i64 st] 51)).alloc (.cells #[.int .i64 0, .int .i64 0, .slice none 0 0, .slice none 0 0, .slice none 0 0, .slice none 0 0, .slice none 0 0] 35)) (((w.alloc (.cells #[.int .i64 xa, .int .i64 xb, .int .i64 xc, .int .i64 xd, .int .i64 xe, .int .i64 xf, .int .i64 xg, .int .i64 xh, .int .i64 xi] 27)).alloc (.cells #[.int .i64 n, .int .i64 q, .slice A1 hs.length c1, .slice A2 sw.length c2, .slice A3 kn.length c3, .slice A4 pb.length c4, .slice A5 cs.length c5] 35)).alloc (.cells #[.int .i64 k, .int .u32 a, .string o, .int .u8 p0, .int .u8 p1, .int .u8 p2, .int .u8 p3, .int .u8 p4, .int .u8 p5, .int .u32 eb, .int .i64 en, .int .i64 sf, .int .u8 s0, .int .u8 s1, .int .u8 s2, .int .u8 s3, .int .u8 s4, .int .u8 s5, .int .i64 st] 51)).heap.size (stl zst zrw) from sb_box _ zst zrw)
  have R0 := Lib.hid (Hh.out.below B0.out)
  have q1 : (w.alloc (.cells #[.int .i64 xa, .int .i64 xb, .int .i64 xc, .int .i64 xd, .int .i64 xe, .int .i64 xf, .int .i64 xg, .int .i64 xh, .int .i64 xi] 27)).heap.size = w.heap.size + 1 := by simp
  have q2 : ((w.alloc (.cells #[.int .i64 xa, .int .i64 xb, .int .i64 xc, .int .i64 xd, .int .i64 xe, .int .i64 xf, .int .i64 xg, .int .i64 xh, .int .i64 xi] 27)).alloc (.cells #[.int .i64 n, .int .i64 q, .slice A1 hs.length c1, .slice A2 sw.length c2, .slice A3 kn.length c3, .slice A4 pb.length c4, .slice A5 cs.length c5] 35)).heap.size = w.heap.size + 1 + 1 := by simp
  have q3 : (((w.alloc (.cells #[.int .i64 xa, .int .i64 xb, .int .i64 xc, .int .i64 xd, .int .i64 xe, .int .i64 xf, .int .i64 xg, .int .i64 xh, .int .i64 xi] 27)).alloc (.cells #[.int .i64 n, .int .i64 q, .slice A1 hs.length c1, .slice A2 sw.length c2, .slice A3 kn.length c3, .slice A4 pb.length c4, .slice A5 cs.length c5] 35)).alloc (.cells #[.int .i64 k, .int .u32 a, .string o, .int .u8 p0, .int .u8 p1, .int .u8 p2, .int .u8 p3, .int .u8 p4, .int .u8 p5, .int .u32 eb, .int .i64 en, .int .i64 sf, .int .u8 s0, .int .u8 s1, .int .u8 s2, .int .u8 s3, .int .u8 s4, .int .u8 s5, .int .i64 st] 51)).heap.size = w.heap.size + 1 + 1 + 1 := by simp
  have q4 : ((((w.alloc (.cells #[.int .i64 xa, .int .i64 xb, .int .i64 xc, .int .i64 xd, .int .i64 xe, .int .i64 xf, .int .i64 xg, .int .i64 xh, .int .i64 xi] 27)).alloc (.cells #[.int .i64 n, .int .i64 q, .slice A1 hs.length c1, .slice A2 sw.length c2, .slice A3 kn.length c3, .slice A4 pb.length c4, .slice A5 cs.length c5] 35)).alloc (.cells #[.int .i64 k, .int .u32 a, .string o, .int .u8 p0, .int .u8 p1, .int .u8 p2, .int .u8 p3, .int .u8 p4, .int .u8 p5, .int .u32 eb, .int .i64 en, .int .i64 sf, .int .u8 s0, .int .u8 s1, .int .u8 s2, .int .u8 s3, .int .u8 s4, .int .u8 s5, .int .i64 st] 51)).alloc (.cells #[.int .i64 0, .int .i64 0, .slice none 0 0, .slice none 0 0, .slice none 0 0, .slice none 0 0, .slice none 0 0] 35)).heap.size = w.heap.size + 1 + 1 + 1 + 1 := by simp
  rw [q1] at S0
  rw [q2] at X0
  rw [q3] at Z0
  have HS4 := Lib.hid q4
  dsimp only at HQ0 HQ1
  simp only [cfv] at HTK ⊢
  simp only [stv] at HCP ⊢
  simp only [evv, evl] at HCH ⊢
  clear h q1 q2 q3 q4
  go_enter Tryz.func14, Tryz.ntmps14
  go_wp2_with (refine at_loadSt _ (w.heap.size + 1) _ S0.out.cx rfl rfl rfl rfl ?_)
  change Calls _ _ _ ((((w.alloc (.cells #[.int .i64 xa, .int .i64 xb, .int .i64 xc, .int .i64 xd, .int .i64 xe, .int .i64 xf, .int .i64 xg, .int .i64 xh, .int .i64 xi] 27)).alloc (.cells #[.int .i64 n, .int .i64 q, .slice A1 hs.length c1, .slice A2 sw.length c2, .slice A3 kn.length c3, .slice A4 pb.length c4, .slice A5 cs.length c5] 35)).alloc (.cells #[.int .i64 k, .int .u32 a, .string o, .int .u8 p0, .int .u8 p1, .int .u8 p2, .int .u8 p3, .int .u8 p4, .int .u8 p5, .int .u32 eb, .int .i64 en, .int .i64 sf, .int .u8 s0, .int .u8 s1, .int .u8 s2, .int .u8 s3, .int .u8 s4, .int .u8 s5, .int .i64 st] 51)).alloc (.cells #[.int .i64 0, .int .i64 0, .slice none 0 0, .slice none 0 0, .slice none 0 0, .slice none 0 0, .slice none 0 0] 35)) _
  generalize (((w.alloc (.cells #[.int .i64 xa, .int .i64 xb, .int .i64 xc, .int .i64 xd, .int .i64 xe, .int .i64 xf, .int .i64 xg, .int .i64 xh, .int .i64 xi] 27)).alloc (.cells #[.int .i64 n, .int .i64 q, .slice A1 hs.length c1, .slice A2 sw.length c2, .slice A3 kn.length c3, .slice A4 pb.length c4, .slice A5 cs.length c5] 35)).alloc (.cells #[.int .i64 k, .int .u32 a, .string o, .int .u8 p0, .int .u8 p1, .int .u8 p2, .int .u8 p3, .int .u8 p4, .int .u8 p5, .int .u32 eb, .int .i64 en, .int .i64 sf, .int .u8 s0, .int .u8 s1, .int .u8 s2, .int .u8 s3, .int .u8 s4, .int .u8 s5, .int .i64 st] 51)).alloc (.cells #[.int .i64 0, .int .i64 0, .slice none 0 0, .slice none 0 0, .slice none 0 0, .slice none 0 0, .slice none 0 0] 35) = W0 at *
  refine (HCP.out _ R0.out).mono ?_
  rintro e w1 ⟨⟨D1, e1, D2, e2, D3, e3, D4, e4, D5, e5⟩, rfl, hR, hb⟩
  have BX := Lib.hid (show Below w1.heap.size w1 (w1.alloc (.cells #[.int .i64 n, .int .i64 q, .slice D1 hs.length e1, .slice D2 sw.length e2, .slice D3 kn.length e3, .slice D4 pb.length e4, .slice D5 cs.length e5] 35)) from (Below.refl _ _).alloc (Nat.le_refl _) _)
  have SN := Lib.hid (show Sb (w1.alloc (.cells #[.int .i64 n, .int .i64 q, .slice D1 hs.length e1, .slice D2 sw.length e2, .slice D3 kn.length e3, .slice D4 pb.length e4, .slice D5 cs.length e5] 35)) w1.heap.size (stl ⟨n, q, hs, sw, kn, pb, cs⟩ ⟨D1, e1, D2, e2, D3, e3, D4, e4, D5, e5⟩) from sb_box w1 ⟨n, q, hs, sw, kn, pb, cs⟩ ⟨D1, e1, D2, e2, D3, e3, D4, e4, D5, e5⟩)
  have RN := Lib.hid (hR.below BX.out)
  have bb := hb.trans (BX.out.mono hb.size)
  have B1 := Lib.hid (bthen B0.out bb B0.out.size)
  have C1 := Lib.hid (C0.out.below bb)
  have S1 := Lib.hid (S0.out.below bb)
  have X1 := Lib.hid (Cx.below X0.out bb)
  have Z1 := Lib.hid (Z0.out.below bb)
  have R1 := Lib.hid (R0.out.below bb)
  have HW1 := Lib.hid (show w.heap.size + 1 + 1 + 1 + 1 ≤ w1.heap.size from by have := hb.size; rw [HS4.out] at this; exact this)
  clear hb hR bb BX B0 C0 S0 X0 Z0 R0 HS4
  simp only [stl] at SN
  simp only [evl] at X1
  simp only [stv]
  have x0 := X1.out.key 0 _ rfl
  (try dsimp only at x0)
  go_upto_region 2 with fail
  change (Code.region _ _ _).wp _ _ _ (w1.alloc (.cells #[.int .i64 n, .int .i64 q, .slice D1 hs.length e1, .slice D2 sw.length e2, .slice D3 kn.length e3, .slice D4 pb.length e4, .slice D5 cs.length e5] 35))
  generalize w1.alloc (.cells #[.int .i64 n, .int .i64 q, .slice D1 hs.length e1, .slice D2 sw.length e2, .slice D3 kn.length e3, .slice D4 pb.length e4, .slice D5 cs.length e5] 35) = W1 at *
  have HN := Lib.hid (show w.heap.size + 1 + 1 + 1 + 1 ≤ w1.heap.size from HW1.out)
  by_cases hk : k = 0
  · subst hk
    have k0 := C1.out.c0
    have k1 := C1.out.c1
    have k2 := C1.out.c2
    have k3 := C1.out.c3
    have k4 := C1.out.c4
    have k5 := C1.out.c5
    have k6 := C1.out.c6
    have k7 := C1.out.c7
    have k8 := C1.out.c8
    dsimp only at k0 k1 k2 k3 k4 k5 k6 k7 k8
    go_wp2_with fail
    refine (HTK.out _ _ _ SN.out RN.out).mono ?_
    rintro e w3 ⟨⟨A, cap, rfl, hcap, hrow⟩, ⟨r3, hS, hR⟩, hO⟩
    obtain ⟨y, pks⟩ := TL
    dsimp only at hcap hrow hS hR HQ0
    have S3 := Lib.hid hS
    have R3 := Lib.hid hR
    have Z3 := Lib.hid (Z1.out.ob hO (by have := HN.out; omega))
    have B3 := Lib.hid (B1.out.trans (hO.under (show w.heap.size ≤ w1.heap.size by have := HN.out; omega)))
    have RW := Lib.hid hrow
    clear hS hR hO hrow k0 k1 k2 k3 k4 k5 k6 k7 k8 x0
    go_wp2_with (first | (refine at_loadSt _ w1.heap.size _ S3.out.cx rfl rfl rfl rfl ?_) | (refine at_wholeSt _ _ (w.heap.size + 1 + 1 + 1) _ (stl y r3) Z3.out rfl (stl_ns _ _) (stl_one _ _) rfl rfl rfl rfl ?_))
    intro w5 Z5 hb5 hk5
    have B5 := Lib.hid (B3.out.trans (hb5.out _ (by omega)))
    have R5 := Lib.hid (R3.out.apart Z3.out.bs hk5.out)
    have RW5 := Lib.hid (rw_apart mk_Pk RW.out Z3.out.bs hk5.out)
    clear hb5 hk5
    go_wp2_with fail
    refine bodyPost_ret (results_cell3 rfl _ _ _ _ _ _ rfl rfl rfl (loadvSt Z5.out.cx rfl)) rfl ?_
    rw [HQ0.out (by trivial)]
    exact ⟨r3, A, cap, rfl, R5.out, RW5.out, hcap, B5.out⟩
  · have hkb : (k == 0) = false := by simpa using hk
    have HQH := Lib.hid (HQ1.out hk)
    go_wp2_with (refine at_loadEv _ (w.heap.size + 1 + 1) ⟨k, ⟨a, o, p0, p1, p2, p3, p4, p5⟩, eb, en, ⟨sf, s0, s1, s2, s3, s4, s5, st⟩⟩ X1.out rfl rfl rfl ?_)
    refine (HCH.out _ _ _ SN.out RN.out).mono ?_
    obtain ⟨y, pks, er⟩ := CL
    rintro e w3 ⟨rfl, hst, hO⟩
    dsimp only at hst HQ2
    have Z3 := Lib.hid (Z1.out.ob hO (by have := HN.out; omega))
    have S3 := Lib.hid (S1.out.ob hO (by have := HN.out; omega))
    have B3 := Lib.hid (B1.out.trans (hO.under (show w.heap.size ≤ w1.heap.size by have := HN.out; omega)))
    have R3 := Lib.hid (R1.out.ob SN.out.bs hO)
    obtain rfl := HQ2.out.1
    have HST := Lib.hid hst
    clear hst hO x0
    by_cases h0 : er = 0
    · subst h0
      obtain ⟨r4, hS, hR⟩ := HST.out rfl
      have S4 := Lib.hid hS
      have R4 := Lib.hid hR
      clear hS hR
      go_wp2_with (first | (refine at_loadSt _ w1.heap.size _ S4.out.cx rfl rfl rfl rfl ?_) | (refine at_wholeSt _ _ (w.heap.size + 1 + 1 + 1) _ (stl y r4) Z3.out rfl (stl_ns _ _) (stl_one _ _) rfl rfl rfl rfl ?_))
      intro w5 Z5 hb5 hk5
      have B5 := Lib.hid (B3.out.trans (hb5.out _ (by omega)))
      have R5 := Lib.hid (R4.out.apart Z3.out.bs hk5.out)
      clear hb5 hk5
      go_wp2_with fail
      refine bodyPost_ret (results_cell3 rfl _ _ _ _ _ _ rfl rfl rfl (loadvSt Z5.out.cx rfl)) rfl ?_
      rw [HQH.out]
      exact ⟨r4, none, 0, rfl, R5.out, Rw.nil _ _, Nat.le_refl _, B5.out⟩
    · have hy := HQ2.out.2 h0
      subst hy
      go_wp2_with (refine at_loadSt _ (w.heap.size + 1) _ S3.out.cx rfl rfl rfl rfl ?_)
      refine (HCP.out _ R3.out).mono ?_
      rintro e w4 ⟨r4, rfl, hR, hb⟩
      have B4 := Lib.hid (bthen B3.out hb B3.out.size)
      have Z4 := Lib.hid (Z3.out.below hb)
      have R4 := Lib.hid hR
      clear hR hb
      go_wp2_with (refine at_wholeSt _ _ (w.heap.size + 1 + 1 + 1) _ (stl ⟨n, q, hs, sw, kn, pb, cs⟩ r4) Z4.out rfl (stl_ns _ _) (stl_one _ _) rfl rfl rfl rfl ?_)
      intro w5 Z5 hb5 hk5
      have B5 := Lib.hid (B4.out.trans (hb5.out _ (by omega)))
      have R5 := Lib.hid (R4.out.apart Z4.out.bs hk5.out)
      clear hb5 hk5
      go_wp2_with fail
      refine bodyPost_ret (results_cell3 rfl _ _ _ _ _ _ rfl rfl rfl (loadvSt Z5.out.cx rfl)) rfl ?_
      rw [HQH.out]
      exact ⟨r4, none, 0, rfl, R5.out, Rw.nil _ _, Nat.le_refl _, B5.out⟩
end Go.Proofs.YtilneflfeegnfaaGreat
namespace Go.Proofs.YtilneflfeegnfaaGreat
open Go.RowKit
theorem in_upd {x y : Stt} {q : Int} (h : In x) (hy : q = 0 → In y) : In (upd x y q).1 := by
  by_cases hq : q = 0
  · subst hq; exact hy rfl
  · rw [upd_no hq]; exact h
theorem sgL_t (x : Stt) (s : Sn.Sg) : (sgL x s).t = x.now := by
  unfold sgL
  split <;> rfl
theorem in_saw {x : Stt} (h : In x) {a : Int} (h0 : 0 ≤ a) (h1 : a < 4294967296) (s : Sn.Sg) : In (sawL x a s).1 := by
  unfold sawL
  split
  · split
    · exact h
    · exact in_upd h fun he => ((h.an a).know h0 h1 (sgL_t x s) he).stop a
  · exact in_upd h fun he => (h.know h0 h1 (sgL_t x s) he).stop a
theorem in_ch {x : Stt} (h : In x) {e : Evt} (he : e.Ok) : In (chL x e).1 := by
  unfold chL
  split
  · exact in_upd h fun hq => h.put he.h hq
  split
  · exact in_upd h fun hq => (h.take hq).stop e.h.a
  split
  · exact in_upd h fun hq => h.watch he.b0 he.b1 hq
  split
  · exact in_upd h fun hq => h.ignore hq
  split
  · exact in_saw h he.h.1 he.h.2.1 e.s
  split
  · exact in_upd h fun hq => h.step (by omega) (by omega) hq
  split
  · exact in_upd h fun hq => h.step (by omega) (by omega) hq
  · exact h
theorem in_tick {x : Stt} (h : In x) {c : Cf} (hk : Ck c) : In (tickL c x).1 := by
  rw [tickL_eq c h]
  exact (((in_gbs (h.t1 c) c).t3 c).t4 c).t5 c hk.g1
theorem in_do {x : Stt} (h : In x) {c : Cf} (hk : Ck c) {e : Evt} (he : e.Ok) : In (doL c x e).1 := by
  by_cases h0 : e.k = 0
  · unfold doL
    rw [if_pos h0]
    exact in_tick h hk
  · rw [doL_ch c x e h0]
    exact in_ch h he
def z8 : Hl.Hr := ⟨0, ⟨#[]⟩, 0, 0, 0, 0, 0, 0⟩
def zsg : Sn.Sg := ⟨0, 0, 0, 0, 0, 0, 0, 0⟩
def evt : Evt := ⟨0, ⟨0, ⟨#[]⟩, 0, 0, 0, 0, 0, 0⟩, 0, 0, ⟨0, 0, 0, 0, 0, 0, 0, 0⟩⟩
theorem evt_ok : evt.Ok := ⟨⟨by decide, by decide, by decide⟩, by decide, by decide⟩
def cfa : Cf := ⟨2, 3, 1, 5, 2, 2, 0, 4, 4⟩
def ev1 : Evt := ⟨1, ⟨5, ⟨#[97, 110, 110]⟩, 0, 0, 0, 0, 0, 0⟩, 0, 0, ⟨0, 0, 0, 0, 0, 0, 0, 0⟩⟩
def ev2 : Evt := ⟨5, ⟨5, ⟨#[]⟩, 0, 0, 0, 0, 0, 0⟩, 0, 0, ⟨1, 0, 0, 0, 0, 0, 0, 0⟩⟩
theorem ev1_ok : ev1.Ok := ⟨⟨by decide, by decide, by decide⟩, by decide, by decide⟩
theorem ev2_ok : ev2.Ok := ⟨⟨by decide, by decide, by decide⟩, by decide, by decide⟩
theorem cfa_ok : Ck cfa := ⟨by decide, by decide, by decide, by decide, by decide, by decide, by decide, by decide, by decide, by decide⟩
def ax1 : Stt := (doL cfa zst ev1).1
def axs : Nat → Stt
  | 0 => (doL cfa ax1 ev2).1
  | k + 1 => (doL cfa (axs k) evt).1
theorem ax1_in : In ax1 := in_do in_zst cfa_ok ev1_ok
theorem axs_in : ∀ k, In (axs k)
  | 0 => in_do ax1_in cfa_ok ev2_ok
  | k + 1 => in_do (axs_in k) cfa_ok evt_ok
set_option maxRecDepth 100000 in
theorem ax_1 : (doL cfa zst ev1).2.2 = 0 := by kernel_rfl
set_option maxRecDepth 100000 in
theorem ax_2 : (doL cfa ax1 ev2).2.2 = 0 := by kernel_rfl
set_option maxRecDepth 100000 in
theorem ax_3 : hoO cfa (axs 0) 5 = 2 := by kernel_rfl
set_option maxRecDepth 100000 in
theorem ax_4 : (axs 4).now = 4 := by kernel_rfl
set_option maxRecDepth 100000 in
theorem ax_5 : (axs 4).cs.length = 1 := by kernel_rfl
set_option maxRecDepth 100000 in
theorem ax_6 : hoO cfa (axs 4) 5 = 3 := by kernel_rfl
end Go.Proofs.YtilneflfeegnfaaGreat
namespace Go.Proofs.YtilneflfeegnfaaGreat
open Go.RowKit
def SPo (w : World) (y : Stt) (q : Int) (e : Ending) (w' : World) : Prop := ∃ r v, e = .returned (.tuple #[stv y r, v, .int .i64 q]) ∧ Lie w' y r ∧ Below w.heap.size w w'
theorem doS (c : Cf) (x : Stt) (r : Rws) (e : Evt) (w : World) (h : Lie w x r) (hi : In x) (hk : Ck c) (he : e.Ok) (y : Stt) (q : Int) (hy : (doL c x e).1 = y) (hq : (doL c x e).2.2 = q) : Calls Tryz.prog 14 #[cfv c, stv x r, evv e] w (SPo w y q) := by
  refine (do_any c x r e w h hi hk he).mono ?_
  rintro z w' ⟨r', A, cap, he, hL, -, -, hb⟩
  rw [hy] at he hL
  rw [hq] at he
  exact ⟨r', _, he, hL, hb⟩
set_option maxRecDepth 100000 in
set_option maxHeartbeats 4000000 in
theorem awake_any (w : World) : Calls Tryz.prog 11 #[] w fun e w' => e = .returned (.bool true) ∧ Below w.heap.size w w' := by
  have DO1 := Lib.hid fun W => doS cfa zst zrw ev1 W (lie_zero W) in_zst cfa_ok ev1_ok ax1 0 rfl ax_1
  have DO2 := Lib.hid fun r W h => doS cfa ax1 r ev2 W h ax1_in cfa_ok ev2_ok (axs 0) 0 rfl ax_2
  have DO3 := Lib.hid fun k r W h => doS cfa (axs k) r evt W h (axs_in k) cfa_ok evt_ok (axs (k + 1)) _ rfl rfl
  have ST := Lib.hid fun k r W h => status_any cfa (axs k) r 5 W h (axs_in k).sz (by decide) (by decide) (by decide)
  have B0 := Lib.hid (show Below w.heap.size w (w.alloc (.cells #[.int .i64 2, .int .i64 3, .int .i64 1, .int .i64 5, .int .i64 2, .int .i64 2, .int .i64 0, .int .i64 4, .int .i64 4] 27)) from (Below.refl _ w).alloc (Nat.le_refl _) _)
  have C0 := Lib.hid (show Cm (w.alloc (.cells #[.int .i64 2, .int .i64 3, .int .i64 1, .int .i64 5, .int .i64 2, .int .i64 2, .int .i64 0, .int .i64 4, .int .i64 4] 27)) w.heap.size cfa from cm_box w cfa)
  go_enter Tryz.func11, Tryz.ntmps11
  go_wp2_with fail
  change Calls _ _ _ (w.alloc (.cells #[.int .i64 2, .int .i64 3, .int .i64 1, .int .i64 5, .int .i64 2, .int .i64 2, .int .i64 0, .int .i64 4, .int .i64 4] 27)) _
  generalize w.alloc (.cells #[.int .i64 2, .int .i64 3, .int .i64 1, .int .i64 5, .int .i64 2, .int .i64 2, .int .i64 0, .int .i64 4, .int .i64 4] 27) = W0 at *
  refine (DO1.out _).mono ?_
  rintro e w1 ⟨r1, v1, rfl, hL, hb⟩
  have BX := Lib.hid (show Below w1.heap.size w1 (w1.alloc (.cells #[.int .i64 0, .int .i64 0, .slice none 0 0, .slice none 0 0, .slice none 0 0, .slice none 0 0, .slice none 0 0] 35)) from (Below.refl _ _).alloc (Nat.le_refl _) _)
  have Z1 := Lib.hid (show Sb (w1.alloc (.cells #[.int .i64 0, .int .i64 0, .slice none 0 0, .slice none 0 0, .slice none 0 0, .slice none 0 0, .slice none 0 0] 35)) w1.heap.size (stl zst zrw) from sb_box w1 zst zrw)
  have bb := hb.trans (BX.out.mono hb.size)
  have B1 := Lib.hid (bthen B0.out bb B0.out.size)
  have C1 := Lib.hid (C0.out.below bb)
  have R1 := Lib.hid (hL.below BX.out)
  have hlt1 : w.heap.size < w1.heap.size := Nat.lt_of_lt_of_le C0.out.lt hb.size
  clear bb hb hL BX B0 C0
  go_wp2_with (refine at_wholeSt _ _ w1.heap.size _ (stl ax1 r1) Z1.out rfl (stl_ns _ _) (stl_one _ _) rfl rfl rfl rfl ?_)
  intro w2 S2 hb2 hk2
  have B2 := Lib.hid (B1.out.trans (hb2.out _ (Nat.le_of_lt hlt1)))
  have C2 := Lib.hid (cm_ob C1.out (Ob.put hb2.out hk2.out) (by omega))
  have R2 := Lib.hid (R1.out.apart Z1.out.bs hk2.out)
  clear hb2 hk2 B1 C1 R1 Z1
  have k0 := C2.out.c0
  have k1 := C2.out.c1
  have k2 := C2.out.c2
  have k3 := C2.out.c3
  have k4 := C2.out.c4
  have k5 := C2.out.c5
  have k6 := C2.out.c6
  have k7 := C2.out.c7
  have k8 := C2.out.c8
  (try dsimp only [cfa] at k0 k1 k2 k3 k4 k5 k6 k7 k8)
  go_wp2_with (refine at_loadSt _ w1.heap.size _ S2.out.cx rfl rfl rfl rfl ?_)
  refine (DO2.out r1 _ R2.out).mono ?_
  rintro e w3 ⟨r3, v3, rfl, hL, hb⟩
  clear k0 k1 k2 k3 k4 k5 k6 k7 k8
  have S3 := Lib.hid (S2.out.below hb)
  have B3 := Lib.hid (bthen B2.out hb B2.out.size)
  have C3 := Lib.hid (C2.out.below hb)
  have R3 := Lib.hid hL
  clear hb hL S2 B2 C2 R2
  go_wp2_with (refine at_wholeSt _ _ w1.heap.size _ (stl (axs 0) r3) S3.out rfl (stl_ns _ _) (stl_one _ _) rfl rfl rfl rfl ?_)
  intro w4 S4 hb4 hk4
  have B4 := Lib.hid (B3.out.trans (hb4.out _ (Nat.le_of_lt hlt1)))
  have C4 := Lib.hid (cm_ob C3.out (Ob.put hb4.out hk4.out) (by omega))
  have R4 := Lib.hid (R3.out.apart S3.out.bs hk4.out)
  clear hb4 hk4 S3 B3 C3 R3
  have k0 := C4.out.c0
  have k1 := C4.out.c1
  have k2 := C4.out.c2
  have k3 := C4.out.c3
  have k4 := C4.out.c4
  have k5 := C4.out.c5
  have k6 := C4.out.c6
  have k7 := C4.out.c7
  have k8 := C4.out.c8
  (try dsimp only [cfa] at k0 k1 k2 k3 k4 k5 k6 k7 k8)
  go_wp2_with (refine at_loadSt _ w1.heap.size _ S4.out.cx rfl rfl rfl rfl ?_)
  refine (ST.out 0 r3 _ R4.out).mono ?_
  rw [ax_3]
  rintro e w5 ⟨rfl, hb⟩
  clear k0 k1 k2 k3 k4 k5 k6 k7 k8
  have HH := Lib.hid (show ∃ r, Sb w5 w1.heap.size (stl (axs 0) r) ∧ Lie w5 (axs 0) r ∧ Cm w5 w.heap.size cfa ∧ Below w.heap.size w w5 from ⟨r3, S4.out.below hb, R4.out.below hb, C4.out.below hb, bthen B4.out hb B4.out.size⟩)
  clear hb S4 R4 C4 B4
  go_wp2_with fail
  go_loopw [8] (fun i wr => ∃ k : Nat, i = .int .i64 k ∧ k ≤ 4 ∧ Hid (∃ r, Sb wr w1.heap.size (stl (axs k) r) ∧ Lie wr (axs k) r ∧ Cm wr w.heap.size cfa ∧ Below w.heap.size w wr)) (fun i _ => 4 - (intOf i).toNat)
  case atStart => exact ⟨0, rfl, by omega, HH⟩
  case round =>
    obtain ⟨k, rfl, hk, HR⟩ := hrel
    clear HH
    obtain ⟨r6, hS, hL, hC, hB⟩ := HR.out
    by_cases hk4 : k < 4
    · have S6 := Lib.hid hS
      have R6 := Lib.hid hL
      have C6 := Lib.hid hC
      have B6 := Lib.hid hB
      clear hS hL hC hB HR
      have k0 := C6.out.c0
      have k1 := C6.out.c1
      have k2 := C6.out.c2
      have k3 := C6.out.c3
      have k4 := C6.out.c4
      have k5 := C6.out.c5
      have k6 := C6.out.c6
      have k7 := C6.out.c7
      have k8 := C6.out.c8
      (try dsimp only [cfa] at k0 k1 k2 k3 k4 k5 k6 k7 k8)
      go_wp2_with (refine at_loadSt _ w1.heap.size _ S6.out.cx rfl rfl rfl rfl ?_)
      refine (DO3.out k r6 _ R6.out).mono ?_
      rintro e w7 ⟨r7, v7, rfl, hL, hb⟩
      clear k0 k1 k2 k3 k4 k5 k6 k7 k8
      have S7 := Lib.hid (S6.out.below hb)
      have B7 := Lib.hid (bthen B6.out hb B6.out.size)
      have C7 := Lib.hid (C6.out.below hb)
      have R7 := Lib.hid hL
      clear hb hL S6 B6 C6 R6
      go_wp2_with (refine at_wholeSt _ _ w1.heap.size _ (stl (axs (k + 1)) r7) S7.out rfl (stl_ns _ _) (stl_one _ _) rfl rfl rfl rfl ?_)
      intro w8 S8 hb8 hk8
      have HN := Lib.hid (show ∃ r, Sb w8 w1.heap.size (stl (axs (k + 1)) r) ∧ Lie w8 (axs (k + 1)) r ∧ Cm w8 w.heap.size cfa ∧ Below w.heap.size w w8 from ⟨r7, S8.out, R7.out.apart S7.out.bs hk8.out, cm_ob C7.out (Ob.put hb8.out hk8.out) (by omega), B7.out.trans (hb8.out _ (Nat.le_of_lt hlt1))⟩)
      clear hb8 hk8 S7 S8 B7 C7 R7
      go_wp2_with fail
      go_roundw
      case rel => exact ⟨k + 1, by go_num, by omega, HN⟩
      case measure => simp [intOf]; omega
    · obtain rfl : k = 4 := by omega
      have ST4 := fun r W h => ST.out 4 r W h
      rw [ax_6] at ST4
      have h4 := ax_4
      have h5 := ax_5
      generalize axs 4 = X at *
      clear HR DO1 DO2 DO3 ST
      obtain ⟨n, q, hs, sw, kn, pb, cs⟩ := X
      obtain ⟨A1, c1, A2, c2, A3, c3, A4, c4, A5, c5⟩ := r6
      dsimp only at h4 h5
      subst h4
      have ST4 := Lib.hid (ST4 _ wr hL)
      have B6 := Lib.hid hB
      have C6 := Lib.hid hC
      have j0 := hS.cx.key 0 _ rfl
      have j1 := hS.cx.key 1 _ rfl
      have j2 := hS.cx.key 2 _ rfl
      have j3 := hS.cx.key 3 _ rfl
      have j4 := hS.cx.key 4 _ rfl
      have j5 := hS.cx.key 5 _ rfl
      have j6 := hS.cx.key 6 _ rfl
      (try dsimp only at j0 j1 j2 j3 j4 j5 j6)
      simp only [stv] at ST4
      rw [h5] at j6 ST4
      clear hS hL hB hC h5 hk4 hk
      have k0 := C6.out.c0
      have k1 := C6.out.c1
      have k2 := C6.out.c2
      have k3 := C6.out.c3
      have k4 := C6.out.c4
      have k5 := C6.out.c5
      have k6 := C6.out.c6
      have k7 := C6.out.c7
      have k8 := C6.out.c8
      (try dsimp only [cfa] at k0 k1 k2 k3 k4 k5 k6 k7 k8)
      go_wp2_with fail
      refine ST4.out.mono ?_
      rintro e w9 ⟨rfl, hb⟩
      have B9 := Lib.hid (bthen B6.out hb B6.out.size)
      clear hb
      go_wp2_with fail
      go_ret
      exact ⟨rfl, B9.out⟩
end Go.Proofs.YtilneflfeegnfaaGreat
namespace Go.Proofs.YtilneflfeegnfaaGreat
open Go.RowKit
theorem ck_ch (y : Hc) (h : y.Ok) : Ck (ch y) := by
  unfold ch
  have h1 := h.a
  have h2 := h.b
  constructor <;> dsimp only <;> omega
theorem cf_old (y : Hc) (h : y.Ok) : (ch y).b ≤ 100 := by
  unfold ch
  dsimp only
  omega
end Go.Proofs.YtilneflfeegnfaaGreat
namespace Go.Proofs.YtilneflfeegnfaaGreat
open Go.RowKit
structure Ak where
  (q a b m o t : Int)
structure Ak.Ok (x : Ak) : Prop where
  q : 0 ≤ x.q ∧ x.q < 256
  a : 0 ≤ x.a ∧ x.a < 256
  b : 0 ≤ x.b ∧ x.b < 256
  m : 0 ≤ x.m ∧ x.m < 256
  o : 0 ≤ x.o ∧ x.o < 256
  t : 0 ≤ x.t ∧ x.t < 256
def akl (x : Ak) : List Value := [.int .u8 x.q, .int .u8 x.a, .int .u8 x.b, .int .u8 x.m, .int .u8 x.o, .int .u8 x.t]
def akv (x : Ak) : Value := .agg #[.int .u8 x.q, .int .u8 x.a, .int .u8 x.b, .int .u8 x.m, .int .u8 x.o, .int .u8 x.t]
def eAk : El Ak := ⟨akl, 6, by decide, fun _ => rfl, by
  intro x u hu
  simp [akl] at hu
  rcases hu with rfl | rfl | rfl | rfl | rfl | rfl <;> rfl⟩
end Go.Proofs.YtilneflfeegnfaaGreat
namespace Go.Proofs.YtilneflfeegnfaaGreat
open Go.ChangeShapes Go.WideShapes Go.ChangeAt Go.RowKit
theorem own : ownKnob Tryz.prog.godebug = none := by kernel_rfl
theorem laidOut : laidOutB Tryz.prog = true := by kernel_rfl
theorem wf_u8 {n : Int} (h : (Lit.int .u8 n).wf = true) : 0 ≤ n ∧ n < 256 := by
  have : 0 ≤ n ∧ n ≤ 255 := by simpa [Lit.wf, IntKind.min, IntKind.max, IntKind.signed, IntKind.bits] using h
  omega
theorem wf_u32 {n : Int} (h : (Lit.int .u32 n).wf = true) : 0 ≤ n ∧ n < 4294967296 := by
  have : 0 ≤ n ∧ n ≤ 4294967295 := by simpa [Lit.wf, IntKind.min, IntKind.max, IntKind.signed, IntKind.bits] using h
  omega
theorem cells79 : Tryz.prog.cellsOf 79 = 6 := by kernel_rfl
theorem cells23 : Tryz.prog.cellsOf 23 = 9 := by kernel_rfl
theorem cells5 : Tryz.prog.cellsOf 5 = 1 := by kernel_rfl
theorem cells3 : Tryz.prog.cellsOf 3 = 1 := by kernel_rfl
theorem bytes79 : 1 ≤ Tryz.prog.bytesOf 79 := of_decide_eq_true (by kernel_rfl)
set_option maxRecDepth 100000 in
theorem one_act {H : Type} {enc : TypeId × Value → H} {W : World} {fuel : Nat} {cs : List Value} {d : DataW H × List MemPlace} (h : DataW.trod enc Tryz.prog W 0 (fun _ => true) true fuel 79 cs = some d) : ∃ a : Ak, a.Ok ∧ cs = akl a := by
  obtain ⟨ys, n, _, _, hl', hy, hf⟩ := DataW.trod_struct Tryz.underlying79 h
  rw [cells79] at hl'
  match cs, hl' with
  | [v0, v1, v2, v3, v4, v5], _ =>
    have hy : ys.length = 6 := hy
    match ys, hy with
    | [y0, y1, y2, y3, y4, y5], _ =>
      have f0 := hf 0 _ rfl
      have f1 := hf 1 _ rfl
      have f2 := hf 2 _ rfl
      have f3 := hf 3 _ rfl
      have f4 := hf 4 _ rfl
      have f5 := hf 5 _ rfl
      simp only [cells5, List.drop_zero, List.drop_succ_cons, List.take_succ_cons, List.take_zero, List.getElem?_cons_zero, List.getElem?_cons_succ] at f0 f1 f2 f3 f4 f5
      obtain ⟨n0, e0, _, w0⟩ := DataW.trod_int Tryz.underlying5 f0
      obtain ⟨n1, e1, _, w1⟩ := DataW.trod_int Tryz.underlying5 f1
      obtain ⟨n2, e2, _, w2⟩ := DataW.trod_int Tryz.underlying5 f2
      obtain ⟨n3, e3, _, w3⟩ := DataW.trod_int Tryz.underlying5 f3
      obtain ⟨n4, e4, _, w4⟩ := DataW.trod_int Tryz.underlying5 f4
      obtain ⟨n5, e5, _, w5⟩ := DataW.trod_int Tryz.underlying5 f5
      refine ⟨⟨n0, n1, n2, n3, n4, n5⟩, ⟨wf_u8 w0, wf_u8 w1, wf_u8 w2, wf_u8 w3, wf_u8 w4, wf_u8 w5⟩, ?_⟩
      have e0 := List.head_eq_of_cons_eq e0
      have e1 := List.head_eq_of_cons_eq e1
      have e2 := List.head_eq_of_cons_eq e2
      have e3 := List.head_eq_of_cons_eq e3
      have e4 := List.head_eq_of_cons_eq e4
      have e5 := List.head_eq_of_cons_eq e5
      rw [e0, e1, e2, e3, e4, e5]
      rfl
set_option maxRecDepth 100000 in
theorem one_hc {H : Type} {enc : TypeId × Value → H} {W : World} {fuel : Nat} {cs : List Value} {d : DataW H × List MemPlace} (h : DataW.trod enc Tryz.prog W 0 (fun _ => true) true fuel 23 cs = some d) : ∃ a : Hc, a.Ok ∧ cs = hl a := by
  obtain ⟨ys, n, _, _, hl', hy, hf⟩ := DataW.trod_struct Tryz.underlying23 h
  rw [cells23] at hl'
  match cs, hl' with
  | [v0, v1, v2, v3, v4, v5, v6, v7, v8], _ =>
    have hy : ys.length = 9 := hy
    match ys, hy with
    | [y0, y1, y2, y3, y4, y5, y6, y7, y8], _ =>
      have f0 := hf 0 _ rfl
      have f1 := hf 1 _ rfl
      have f2 := hf 2 _ rfl
      have f3 := hf 3 _ rfl
      have f4 := hf 4 _ rfl
      have f5 := hf 5 _ rfl
      have f6 := hf 6 _ rfl
      have f7 := hf 7 _ rfl
      have f8 := hf 8 _ rfl
      simp only [cells5, List.drop_zero, List.drop_succ_cons, List.take_succ_cons, List.take_zero, List.getElem?_cons_zero, List.getElem?_cons_succ] at f0 f1 f2 f3 f4 f5 f6 f7 f8
      obtain ⟨n0, e0, _, w0⟩ := DataW.trod_int Tryz.underlying5 f0
      obtain ⟨n1, e1, _, w1⟩ := DataW.trod_int Tryz.underlying5 f1
      obtain ⟨n2, e2, _, w2⟩ := DataW.trod_int Tryz.underlying5 f2
      obtain ⟨n3, e3, _, w3⟩ := DataW.trod_int Tryz.underlying5 f3
      obtain ⟨n4, e4, _, w4⟩ := DataW.trod_int Tryz.underlying5 f4
      obtain ⟨n5, e5, _, w5⟩ := DataW.trod_int Tryz.underlying5 f5
      obtain ⟨n6, e6, _, w6⟩ := DataW.trod_int Tryz.underlying5 f6
      obtain ⟨n7, e7, _, w7⟩ := DataW.trod_int Tryz.underlying5 f7
      obtain ⟨n8, e8, _, w8⟩ := DataW.trod_int Tryz.underlying5 f8
      refine ⟨⟨n0, n1, n2, n3, n4, n5, n6, n7, n8⟩, ⟨wf_u8 w0, wf_u8 w1, wf_u8 w2, wf_u8 w3, wf_u8 w4, wf_u8 w5, wf_u8 w6, wf_u8 w7, wf_u8 w8⟩, ?_⟩
      have e0 := List.head_eq_of_cons_eq e0
      have e1 := List.head_eq_of_cons_eq e1
      have e2 := List.head_eq_of_cons_eq e2
      have e3 := List.head_eq_of_cons_eq e3
      have e4 := List.head_eq_of_cons_eq e4
      have e5 := List.head_eq_of_cons_eq e5
      have e6 := List.head_eq_of_cons_eq e6
      have e7 := List.head_eq_of_cons_eq e7
      have e8 := List.head_eq_of_cons_eq e8
      rw [e0, e1, e2, e3, e4, e5, e6, e7, e8]
      rfl
set_option maxRecDepth 100000 in
theorem open_row {α : Type} {H : Type} {enc : TypeId × Value → H} {W : World} (S E N : Nat) (ok : α → Prop) (cl : α → List Value) (z0 : α) (hS : Tryz.prog.underlying S = some (.slice E)) (hN : Tryz.prog.cellsOf E = N) (hB : 1 ≤ Tryz.prog.bytesOf E) (hcl : ∀ a, (cl a).length = N)
    (hone : ∀ fuel cs d, DataW.trod enc Tryz.prog W 0 (fun _ => true) true fuel E cs = some d → ∃ a, ok a ∧ cs = cl a) {a : Option Addr} {len cap : Nat} {d : DataW H} {p : List MemPlace}
    (h : DataW.Trod enc Tryz.prog W 0 (fun _ => true) true S (.slice a len cap) d p)
    (hs : ∀ elems spare, d = .slice elems spare → (elems.length + spare.length) * Tryz.prog.bytesOf E ≤ reachBytes) : ∃ xs : List α, len = xs.length ∧ (xs.length ≤ 140737488355328 ∧ ∀ (q : Nat) (x : α), xs[q]? = some x → ok x ∧ ∃ y, a = some y ∧ ∀ j v, (cl x)[j]? = some v → W.cell? (y.add (q * N + j)) = some v) ∧ len ≤ cap := by
  obtain ⟨fuel, hf⟩ := h
  rcases Go.Deep.open_slice hS hf with ⟨hcs, _⟩ | ⟨x, l, c, m, n, D, Pl, hcs, _, hl, _, hm, hx, hi⟩
  · simp [Value.cells] at hcs
    obtain ⟨rfl, rfl, rfl⟩ := hcs
    exact ⟨[], rfl, ⟨by simp, fun q a hq => by simp at hq⟩, Nat.le_refl _⟩
  · simp [Value.cells] at hcs
    obtain ⟨rfl, rfl, rfl⟩ := hcs
    have hm : m = cap := by simpa using hm
    subst hm
    have hd : d = .slice ((List.range len).map D) ((List.range (m - len)).map fun j => D (len + j)) := by injection hx
    have hr := hs _ _ hd
    simp only [List.length_map, List.length_range, reachBytes] at hr
    have hlen : len ≤ 140737488355328 := by
      have h1 : (len + (m - len)) * 1 ≤ (len + (m - len)) * Tryz.prog.bytesOf E := Nat.mul_le_mul_left _ hB
      omega
    have hex : ∀ i, i < len → ∃ z : α, ok z ∧ ∀ j v, (cl z)[j]? = some v → W.cell? (x.add (i * N + j)) = some v := by
      intro i hil
      obtain ⟨cs, hc, ht⟩ := hi i (by omega)
      rw [hN] at hc
      obtain ⟨z, hz, rfl⟩ := hone _ _ _ ht
      obtain ⟨_, hcl', hat⟩ := World.cells?_some hc
      refine ⟨z, hz, fun j v hv => ?_⟩
      have hj : j < N := by have := (List.getElem?_eq_some_iff.1 hv).1; rwa [hcl] at this
      rw [← Go.Deep.add_add, hat j hj, hv]
    refine ⟨(List.range len).map fun i => if h : i < len then Classical.choose (hex i h) else z0, by simp, ⟨by simpa using hlen, fun q z hq => ?_⟩, hl⟩
    have hql : q < len := by have := (List.getElem?_eq_some_iff.1 hq).1; simpa using this
    have hz : Classical.choose (hex q hql) = z := by simpa [hql] using hq
    have := Classical.choose_spec (hex q hql)
    rw [hz] at this
    exact ⟨this.1, x, rfl, this.2⟩
set_option maxRecDepth 100000 in
theorem open_acts {H : Type} {enc : TypeId × Value → H} {W : World} {a : Option Addr} {len cap : Nat} {d : DataW H} {p : List MemPlace}
    (h : DataW.Trod enc Tryz.prog W 0 (fun _ => true) true 24 (.slice a len cap) d p)
    (hs : ∀ elems spare, d = .slice elems spare → (elems.length + spare.length) * Tryz.prog.bytesOf 79 ≤ reachBytes) : ∃ xs : List _, len = xs.length ∧ Rw eAk W a xs ∧ len ≤ cap ∧ ∀ x ∈ xs, x.Ok := by
  obtain ⟨xs, h1, h2, h3⟩ := open_row 24 79 6 (Ak.Ok) akl ⟨0, 0, 0, 0, 0, 0⟩ Tryz.underlying24 cells79 bytes79 (fun _ => rfl) (fun _ _ _ h => one_act h) h hs
  refine ⟨xs, h1, ⟨h2.1, fun q x hq => (h2.2 q x hq).2⟩, h3, fun x hx => ?_⟩
  obtain ⟨q, hq, rfl⟩ := List.mem_iff_getElem.1 hx
  exact (h2.2 q _ (List.getElem?_eq_getElem hq)).1
set_option maxRecDepth 100000 in
theorem open_hc {H : Type} {enc : TypeId × Value → H} {W : World} {r : Reach} {q : Nat} {v : Value} {d : DataW H} {pp : List MemPlace} (hval : Value.okWide Tryz.prog W r q 23 v)
    (h : DataW.Trod enc Tryz.prog W 0 (fun _ => true) true 23 v d pp) : ∃ a : Hc, v = hv a ∧ a.Ok := by
  have hv' : ∃ cs, v = .agg cs ∧ cs.size = Tryz.prog.cellsOf 23 := by
    simp only [Value.okWide, Tryz.underlying23] at hval
    obtain ⟨cs, h1, h2, _⟩ := hval
    exact ⟨cs, h1, h2⟩
  obtain ⟨⟨cs⟩, rfl, hsz⟩ := hv'
  obtain ⟨fuel, hf⟩ := h
  obtain ⟨a, hk, hs⟩ := one_hc hf
  simp only [Value.cells] at hs
  subst hs
  exact ⟨a, rfl, hk⟩
end Go.Proofs.YtilneflfeegnfaaGreat
