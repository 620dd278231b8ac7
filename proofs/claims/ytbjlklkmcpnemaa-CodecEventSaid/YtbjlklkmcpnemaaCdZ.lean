/-
  The contract of codec.ReadEvent. Conditions: the bytes lie in memory.
-/
import Derived.Test.YtbjlklkmcpnemaaCdY
set_option linter.unusedSimpArgs false
set_option linter.unusedVariables false
namespace Go.Proofs.Ytbjlklkmcpnemaa
open Go.RowKit

def zev : Ev := ⟨0, 0, ⟨#[]⟩, 0, 0, 0, 0, 0, 0, 0, 0, 0, 0, 0, 0, 0, 0, 0, 0⟩
/-- What is read of bytes. -/
def rev (zs : List UInt8) : Ev × Bool := if ((!(rdE ⟨zs, false⟩).2.sh && decide ((rdE ⟨zs, false⟩).2.zs.length = 0)) && rgE (rdE ⟨zs, false⟩).1) = true then ((rdE ⟨zs, false⟩).1, true) else (zev, false)
theorem mq_in (x : Rs) (j : Nat) : 0 ≤ mq x j ∧ mq x j < 256 := by
  unfold mq
  have := ((tkP 6 x).getD j 0).toNat_lt
  omega
theorem owP_size (x : Rs) : (owP x).size ≤ 255 := by
  show (owL x).toArray.size ≤ 255
  rw [List.size_toArray]
  unfold owL
  have := un1 x
  have := tkP_le (vl (tkP 1 x)).toNat (tkS 1 x)
  omega
theorem rdE_in (x : Rs) : (0 ≤ (rdE x).1.m0 ∧ (rdE x).1.m0 < 256) ∧ (rdE x).1.T.size ≤ 255 := by
  unfold rdE
  split
  · exact ⟨mq_in _ _, owP_size _⟩
  split
  · exact ⟨(by decide : (0 : Int) ≤ 0 ∧ (0 : Int) < 256), (by decide : (ByteArray.mk #[]).size ≤ 255)⟩
  split
  · exact ⟨(by decide : (0 : Int) ≤ 0 ∧ (0 : Int) < 256), (by decide : (ByteArray.mk #[]).size ≤ 255)⟩
  split
  · exact ⟨(by decide : (0 : Int) ≤ 0 ∧ (0 : Int) < 256), (by decide : (ByteArray.mk #[]).size ≤ 255)⟩
  · exact ⟨(by decide : (0 : Int) ≤ 0 ∧ (0 : Int) < 256), (by decide : (ByteArray.mk #[]).size ≤ 255)⟩
theorem at_getg {ops : Array Oper} {rest : List Oper} {o : Oper} {a : Act} {w : World} {Q : Exit → Act → World → Prop} (T : TypeId) (d : TypeDesc) (x : Operand) (b : Nat) (L : List Value) (H : Cx w b L)
    (hd : Try.prog.underlying T = some d) (hr : d.isRow = true) (hsz : (Try.prog.info? T).map (·.size) = some L.length) (hw : Region.wanted o (yielded ops a.tmps) = true) (ho : o.op = .load T x) (hx : a.eval x = .pointer (some ⟨b, 0, none⟩))
    (h : wpList Try.prog ops Q rest (a.put o.dst (.agg L.toArray)) w) : wpList Try.prog ops Q (o :: rest) a w :=
  wpList_want hw fun _ hK => wp_load_mid T x ho b 0 hx L d H.1 hd hr hsz (hK _ _ h)
set_option maxRecDepth 100000 in
set_option maxHeartbeats 8000000 in
theorem readEv_any (zs : List UInt8) (A : Option Addr) (c : Nat) (w : World) (R : Rw eB w A zs) (hc : zs.length ≤ c) (hcm : c ≤ 9223372036854775807) (hA : ∀ p, A = some p → p.block < w.heap.size) :
    Calls Try.prog 8 #[.slice A zs.length c] w fun e w' => e = .returned (.tuple #[evv (rev zs).1, .bool (rev zs).2]) ∧ Below w.heap.size w w' := by
  have B0 := (show Below w.heap.size w ((w.alloc (.cells #[.int .i64 0, .int .u32 0, .string ⟨#[]⟩, .int .u8 0, .int .u8 0, .int .u8 0, .int .u8 0, .int .u8 0, .int .u8 0, .int .u32 0, .int .i64 0, .int .i64 0, .int .u8 0, .int .u8 0, .int .u8 0, .int .u8 0, .int .u8 0, .int .u8 0, .int .i64 0] 35)).alloc (.cells #[.slice A zs.length c, .bool false] 71)) from ((Below.refl _ _).alloc (Nat.le_refl _) _).alloc (by simp) _)
  have CR := cx_box (w.alloc (.cells #[.int .i64 0, .int .u32 0, .string ⟨#[]⟩, .int .u8 0, .int .u8 0, .int .u8 0, .int .u8 0, .int .u8 0, .int .u8 0, .int .u32 0, .int .i64 0, .int .i64 0, .int .u8 0, .int .u8 0, .int .u8 0, .int .u8 0, .int .u8 0, .int .u8 0, .int .i64 0] 35)) [.slice A zs.length c, .bool false] _ 71 rfl
  rw [World.size_alloc] at CR
  have CZ0 := Lib.hid (Cx.below (cx_box w [.int .i64 0, .int .u32 0, .string ⟨#[]⟩, .int .u8 0, .int .u8 0, .int .u8 0, .int .u8 0, .int .u8 0, .int .u8 0, .int .u32 0, .int .i64 0, .int .i64 0, .int .u8 0, .int .u8 0, .int .u8 0, .int .u8 0, .int .u8 0, .int .u8 0, .int .i64 0] _ 35 rfl) ((Below.refl _ _).alloc (Nat.le_refl _) (.cells #[.slice A zs.length c, .bool false] 71)))
  have H0 := (show Rd ((w.alloc (.cells #[.int .i64 0, .int .u32 0, .string ⟨#[]⟩, .int .u8 0, .int .u8 0, .int .u8 0, .int .u8 0, .int .u8 0, .int .u8 0, .int .u32 0, .int .i64 0, .int .i64 0, .int .u8 0, .int .u8 0, .int .u8 0, .int .u8 0, .int .u8 0, .int .u8 0, .int .i64 0] 35)).alloc (.cells #[.slice A zs.length c, .bool false] 71)) (w.heap.size + 1) ⟨zs, false⟩ from ⟨A, c, CR, R.below B0, hc, hcm, fun p hp => by have := hA p hp; omega⟩)
  have E0 := Lib.hid B0
  have HE := Lib.hid (revent_any ⟨zs, false⟩ (w.heap.size + 1) _ H0)
  have HI := rdE_in ⟨zs, false⟩
  have HQ := Lib.hid (show rev zs = _ from by unfold rev; rfl)
  have hg0 : w.heap.size + 1 < ((w.alloc (.cells #[.int .i64 0, .int .u32 0, .string ⟨#[]⟩, .int .u8 0, .int .u8 0, .int .u8 0, .int .u8 0, .int .u8 0, .int .u8 0, .int .u32 0, .int .i64 0, .int .i64 0, .int .u8 0, .int .u8 0, .int .u8 0, .int .u8 0, .int .u8 0, .int .u8 0, .int .i64 0] 35)).alloc (.cells #[.slice A zs.length c, .bool false] 71)).heap.size := by simp
  obtain ⟨⟨E, S⟩, hE⟩ : ∃ p, rdE ⟨zs, false⟩ = p := ⟨_, rfl⟩
  rw [hE] at HE HI HQ
  dsimp only at HE HI HQ
  obtain ⟨L, hL⟩ : ∃ L, zs.length = L := ⟨_, rfl⟩
  rw [hL] at CZ0 E0 HE hg0 ⊢
  clear B0 CR H0 hE R hL
  go_enter Try.func8, Try.ntmps8
  go_upto_region 2 with fail
  generalize (w.alloc (.cells #[.int .i64 0, .int .u32 0, .string ⟨#[]⟩, .int .u8 0, .int .u8 0, .int .u8 0, .int .u8 0, .int .u8 0, .int .u8 0, .int .u32 0, .int .i64 0, .int .i64 0, .int .u8 0, .int .u8 0, .int .u8 0, .int .u8 0, .int .u8 0, .int .u8 0, .int .i64 0] 35)).alloc (.cells #[.slice A L c, .bool false] 71) = w0 at *
  go_wp2_with fail
  refine HE.out.mono ?_
  rintro e w1 ⟨rfl, hR1, hO1⟩
  have hg1 : w0.heap.size ≤ w1.heap.size := hO1.size
  have B1 := (show Below w1.heap.size w1 (w1.alloc (.cells #[.int .i64 0, .int .u32 0, .string ⟨#[]⟩, .int .u8 0, .int .u8 0, .int .u8 0, .int .u8 0, .int .u8 0, .int .u8 0, .int .u32 0, .int .i64 0, .int .i64 0, .int .u8 0, .int .u8 0, .int .u8 0, .int .u8 0, .int .u8 0, .int .u8 0, .int .i64 0] 35)) from (Below.refl _ _).alloc (Nat.le_refl _) _)
  have hO1b := hO1.trans (Ob.of B1 hR1.lt)
  have E1z := Lib.hid (show Below w.heap.size w (w1.alloc (.cells #[.int .i64 0, .int .u32 0, .string ⟨#[]⟩, .int .u8 0, .int .u8 0, .int .u8 0, .int .u8 0, .int .u8 0, .int .u8 0, .int .u32 0, .int .i64 0, .int .i64 0, .int .u8 0, .int .u8 0, .int .u8 0, .int .u8 0, .int .u8 0, .int .u8 0, .int .i64 0] 35)) from E0.out.trans (hO1b.under (by omega)))
  have CZ1z := Lib.hid (cx_ob CZ0.out hO1b (by omega))
  have CE1z := Lib.hid (cx_box w1 [.int .i64 0, .int .u32 0, .string ⟨#[]⟩, .int .u8 0, .int .u8 0, .int .u8 0, .int .u8 0, .int .u8 0, .int .u8 0, .int .u32 0, .int .i64 0, .int .i64 0, .int .u8 0, .int .u8 0, .int .u8 0, .int .u8 0, .int .u8 0, .int .u8 0, .int .i64 0] _ 35 rfl)
  have R1z := Lib.hid (hR1.below B1)
  have hbl := hR1.lt
  clear hO1 hO1b HE E0 CZ0 B1 hR1
  go_upto_region 3 with (refine at_put 35 (.tmp 5) _ w1.heap.size [] [.int .i64 0, .int .u32 0, .string ⟨#[]⟩, .int .u8 0, .int .u8 0, .int .u8 0, .int .u8 0, .int .u8 0, .int .u8 0, .int .u32 0, .int .i64 0, .int .i64 0, .int .u8 0, .int .u8 0, .int .u8 0, .int .u8 0, .int .u8 0, .int .u8 0, .int .i64 0] (evl E) [] (by simpa using CE1z.out) rfl (by rw [sizeEv]; rfl) (by simp [evl, Value.oneCell']) rfl rfl rfl rfl ?_; intro w2 CE2s hb2 hk2)
  have E2 := Lib.hid (E1z.out.trans (hb2.out _ (by omega)))
  have CZ2 := Lib.hid (cx_other CZ1z.out hk2.out (by omega))
  have CE2 := Lib.hid (show Cx w2 w1.heap.size (evl E) from by simpa using CE2s.out)
  have hR2 := rd_other R1z.out hk2.out (by omega)
  have HD := Lib.hid (rdone_any S _ w2 hR2)
  have HG := Lib.hid fun W => rightE_any E W HI.1.1 HI.1.2 (by have := HI.2; omega)
  have hg2 : w.heap.size < w2.heap.size := CZ2.out.lt
  clear E1z CZ1z CE1z R1z CE2s hb2 hk2 hR2
  obtain ⟨d, hd⟩ : ∃ d, (!S.sh && decide (S.zs.length = 0)) = d := ⟨_, rfl⟩
  rw [hd] at HD HQ
  clear hd
  obtain ⟨g, hg⟩ : ∃ g, rgE E = g := ⟨_, rfl⟩
  rw [hg] at HG HQ
  clear hg
  go_wp2_with fail
  refine HD.out.mono ?_
  rintro e w3 ⟨rfl, rfl⟩
  cases d
  · simp only [Bool.false_and, Bool.false_eq_true, if_false] at HQ
    go_upto_region 4 with fail
    go_wp2_with (refine at_put 35 (.tmp 2) _ w.heap.size [] [.int .i64 0, .int .u32 0, .string ⟨#[]⟩, .int .u8 0, .int .u8 0, .int .u8 0, .int .u8 0, .int .u8 0, .int .u8 0, .int .u32 0, .int .i64 0, .int .i64 0, .int .u8 0, .int .u8 0, .int .u8 0, .int .u8 0, .int .u8 0, .int .u8 0, .int .i64 0] [.int .i64 0, .int .u32 0, .string ⟨#[]⟩, .int .u8 0, .int .u8 0, .int .u8 0, .int .u8 0, .int .u8 0, .int .u8 0, .int .u32 0, .int .i64 0, .int .i64 0, .int .u8 0, .int .u8 0, .int .u8 0, .int .u8 0, .int .u8 0, .int .u8 0, .int .i64 0] [] (by simpa using CZ2.out) rfl (by rw [sizeEv]; rfl) (by simp [Value.oneCell']) rfl rfl rfl rfl ?_; intro w9 C9 hb9 hk9)
    have e9 : Cx w9 w.heap.size [.int .i64 0, .int .u32 0, .string ⟨#[]⟩, .int .u8 0, .int .u8 0, .int .u8 0, .int .u8 0, .int .u8 0, .int .u8 0, .int .u32 0, .int .i64 0, .int .i64 0, .int .u8 0, .int .u8 0, .int .u8 0, .int .u8 0, .int .u8 0, .int .u8 0, .int .i64 0] := by simpa using C9.out
    refine bodyPost_ret (results_cell2 rfl _ _ _ _ _ rfl rfl (loadv 35 _ e9 Try.underlying35 rfl (by rw [sizeEv]; rfl))) rfl ?_
    rw [HQ.out]
    exact ⟨rfl, E2.out.trans (hb9.out _ (Nat.le_refl _))⟩
  · go_wp2_with (refine at_getg 35 _ (.tmp 5) w1.heap.size (evl E) CE2.out Try.underlying35 rfl ?_ ?_ ?_ ?_ ?_; rotate_left; rotate_left; (with_reducible rfl); rfl; rotate_left; (rw [sizeEv]; rfl); kernel_rfl)
    refine (HG.out _).mono ?_
    rintro e w4 ⟨rfl, hb4⟩
    have E4 := Lib.hid (E2.out.trans (hb4.mono (Nat.le_of_lt hg2)))
    have CZ4 := Lib.hid (Cx.below CZ2.out hb4)
    have CE4 := Lib.hid (show Cx w4 w1.heap.size (evl E) from Cx.below CE2.out hb4)
    clear hb4
    cases g
    · simp only [Bool.and_false, Bool.false_eq_true, if_false] at HQ
      go_upto_region 4 with fail
      go_wp2_with (refine at_put 35 (.tmp 2) _ w.heap.size [] [.int .i64 0, .int .u32 0, .string ⟨#[]⟩, .int .u8 0, .int .u8 0, .int .u8 0, .int .u8 0, .int .u8 0, .int .u8 0, .int .u32 0, .int .i64 0, .int .i64 0, .int .u8 0, .int .u8 0, .int .u8 0, .int .u8 0, .int .u8 0, .int .u8 0, .int .i64 0] [.int .i64 0, .int .u32 0, .string ⟨#[]⟩, .int .u8 0, .int .u8 0, .int .u8 0, .int .u8 0, .int .u8 0, .int .u8 0, .int .u32 0, .int .i64 0, .int .i64 0, .int .u8 0, .int .u8 0, .int .u8 0, .int .u8 0, .int .u8 0, .int .u8 0, .int .i64 0] [] (by simpa using CZ4.out) rfl (by rw [sizeEv]; rfl) (by simp [Value.oneCell']) rfl rfl rfl rfl ?_; intro w9 C9 hb9 hk9)
      have e9 : Cx w9 w.heap.size [.int .i64 0, .int .u32 0, .string ⟨#[]⟩, .int .u8 0, .int .u8 0, .int .u8 0, .int .u8 0, .int .u8 0, .int .u8 0, .int .u32 0, .int .i64 0, .int .i64 0, .int .u8 0, .int .u8 0, .int .u8 0, .int .u8 0, .int .u8 0, .int .u8 0, .int .i64 0] := by simpa using C9.out
      refine bodyPost_ret (results_cell2 rfl _ _ _ _ _ rfl rfl (loadv 35 _ e9 Try.underlying35 rfl (by rw [sizeEv]; rfl))) rfl ?_
      rw [HQ.out]
      exact ⟨rfl, E4.out.trans (hb9.out _ (Nat.le_refl _))⟩
    · simp only [Bool.and_self, if_true] at HQ
      go_upto_region 5 with fail
      go_wp2_with (first | (refine at_get 35 _ (.tmp 5) w1.heap.size [] (evl E) [] (by simpa using CE4.out) Try.underlying35 rfl (by rw [sizeEv]; rfl) rfl rfl rfl ?_) | (refine at_put 35 (.tmp 2) _ w.heap.size [] [.int .i64 0, .int .u32 0, .string ⟨#[]⟩, .int .u8 0, .int .u8 0, .int .u8 0, .int .u8 0, .int .u8 0, .int .u8 0, .int .u32 0, .int .i64 0, .int .i64 0, .int .u8 0, .int .u8 0, .int .u8 0, .int .u8 0, .int .u8 0, .int .u8 0, .int .i64 0] (evl E) [] (by simpa using CZ4.out) rfl (by rw [sizeEv]; rfl) (by simp [evl, Value.oneCell']) rfl rfl rfl rfl ?_; intro w9 C9 hb9 hk9))
      have e9 : Cx w9 w.heap.size (evl E) := by simpa using C9.out
      refine bodyPost_ret (results_cell2 rfl _ _ _ _ _ rfl rfl (loadv 35 _ e9 Try.underlying35 rfl (by rw [sizeEv]; rfl))) rfl ?_
      rw [HQ.out]
      exact ⟨rfl, E4.out.trans (hb9.out _ (Nat.le_refl _))⟩
end Go.Proofs.Ytbjlklkmcpnemaa
