/-
  The walk of CodecEvent. Conditions: the event's numbers are of their sizes.
-/
import Derived.Test.YtbjlklkmcpnemaaCdA
import Derived.Test.YtbjlklkmcpnemaaCdP
set_option linter.unusedSimpArgs false
set_option linter.unusedVariables false
namespace Go.Proofs.Ytbjlklkmcpnemaa
open Go.RowKit Go.Sort

theorem sizeStr : (Try.prog.info? 9).map (·.size) = some 1 := by kernel_rfl
theorem evB_len (e : Ev) (hT : e.T.size ≤ 255) : 0 < (evB e).length ∧ (evB e).length ≤ 1000 := by
  have hl : e.T.data.toList.length = e.T.size := by show e.T.data.toList.length = e.T.data.size; simp
  unfold evB
  rw [List.length_append, nb_length]
  split
  · simp [hdB, mcB, nb_length, hl]; omega
  split
  · simp [nb_length]
  split
  · simp [nb_length]
  split
  · simp [mcB, nb_length]
  · simp
theorem cut_size (T : ByteArray) : (T.extract 0 (min (T.size : Int) 100).toNat).size ≤ 100 := by
  rw [ByteArray.size_extract]
  omega
theorem quiet_getE {ops : Array Oper} {rest : List Oper} {o : Oper} {a : Act} {C : World → Prop} {Q : Act → Prop} (x : Operand) (b : Nat) (L : List Value) (hr : ∀ W, C W → W.rangeAt b 0 L) (hsz : L.length = 19) (hw : Region.wanted o (yielded ops a.tmps) = true) (ho : o.op = .load 35 x) (hx : a.eval x = .pointer (some ⟨b, 0, none⟩)) (h : wpQuiet Try.prog ops C Q rest (a.put o.dst (.agg L.toArray))) : wpQuiet Try.prog ops C Q (o :: rest) a :=
  BigFrame.wpQuiet_want hw fun K hK => ⟨.agg L.toArray, fun W hC => by
    unfold Oper.quietAt execOp
    simp only [ho, hx, Instr.loadAt, Instr.sureAddr, Sem.run_bind, Sem.run_pure, Result.andThen_ok, run_loadVar_mid W b 0 35 L _ (hr W hC) Try.underlying35 rfl (by rw [sizeEv, hsz])]
    exact ⟨rfl, rfl⟩, hK _ h⟩
theorem at_getd {ops : Array Oper} {rest : List Oper} {o : Oper} {a : Act} {w : World} {Q : Exit → Act → World → Prop} (m : Nat) (T : TypeId) (d : TypeDesc) (x : Operand) (b : Nat) (L : List Value) (H : Cx w b L)
    (hd : Try.prog.underlying T = some d) (hr : d.isRow = true) (hsz : (Try.prog.info? T).map (·.size) = some L.length) (hw : Region.wanted o (yielded ops a.tmps) = true) (hm : o.dst = some m) (ho : o.op = .load T x) (hx : a.eval x = .pointer (some ⟨b, 0, none⟩))
    (h : wpList Try.prog ops Q rest (a.put o.dst (.agg L.toArray)) w) : wpList Try.prog ops Q (o :: rest) a w :=
  at_getg T d x b L H hd hr hsz hw ho hx h
theorem baE_in (e : Ev) (h : e.Ok) (hT : e.T.size ≤ 255) : (0 ≤ (baE e).m0 ∧ (baE e).m0 < 256) ∧ (baE e).T.size ≤ 255 := by
  have hm := h.m.a
  unfold baE
  split
  · exact ⟨hm, hT⟩
  split
  · exact ⟨(by decide : (0 : Int) ≤ 0 ∧ (0 : Int) < 256), (by decide : (ByteArray.mk #[]).size ≤ 255)⟩
  split
  · exact ⟨(by decide : (0 : Int) ≤ 0 ∧ (0 : Int) < 256), (by decide : (ByteArray.mk #[]).size ≤ 255)⟩
  split
  · exact ⟨(by decide : (0 : Int) ≤ 0 ∧ (0 : Int) < 256), (by decide : (ByteArray.mk #[]).size ≤ 255)⟩
  · exact ⟨(by decide : (0 : Int) ≤ 0 ∧ (0 : Int) < 256), (by decide : (ByteArray.mk #[]).size ≤ 255)⟩
set_option maxRecDepth 100000 in
set_option maxHeartbeats 8000000 in
theorem codecEvent_walk (e : Ev) (w : World) (h : e.Ok) :
    Calls Try.prog 3 #[evv e] w fun z w' => z = .returned (.bool true) ∧ Below w.heap.size w w' := by
  obtain ⟨k, a, T, m0, m1, m2, m3, m4, m5, b, n, f, s0, s1, s2, s3, s4, s5, t⟩ := e
  simp only [evv, evl]
  have B0 := Lib.hid (show Below w.heap.size w (w.alloc (.cells #[.int .i64 k, .int .u32 a, .string T, .int .u8 m0, .int .u8 m1, .int .u8 m2, .int .u8 m3, .int .u8 m4, .int .u8 m5, .int .u32 b, .int .i64 n, .int .i64 f, .int .u8 s0, .int .u8 s1, .int .u8 s2, .int .u8 s3, .int .u8 s4, .int .u8 s5, .int .i64 t] 35)) from (Below.refl _ _).alloc (Nat.le_refl _) _)
  have KC := Lib.hid (cx_box w [.int .i64 k, .int .u32 a, .string T, .int .u8 m0, .int .u8 m1, .int .u8 m2, .int .u8 m3, .int .u8 m4, .int .u8 m5, .int .u32 b, .int .i64 n, .int .i64 f, .int .u8 s0, .int .u8 s1, .int .u8 s2, .int .u8 s3, .int .u8 s4, .int .u8 s5, .int .i64 t] _ 35 rfl)
  have hTs := cut_size T
  have hok := Lib.hid (show Ev.Ok ⟨k, a, (T.extract 0 (min (T.size : Int) 100).toNat), m0, m1, m2, m3, m4, m5, b, n, f, s0, s1, s2, s3, s4, s5, t⟩ from ⟨h.k, h.a0, h.a1, h.m, h.b0, h.b1, h.n, h.f, h.s, h.t⟩)
  clear h
  have H1 := Lib.hid fun W => awake19_any W
  go_enter Try.func3, Try.ntmps3
  go_upto_region 1 with fail
  generalize w.alloc (.cells #[.int .i64 k, .int .u32 a, .string T, .int .u8 m0, .int .u8 m1, .int .u8 m2, .int .u8 m3, .int .u8 m4, .int .u8 m5, .int .u32 b, .int .i64 n, .int .i64 f, .int .u8 s0, .int .u8 s1, .int .u8 s2, .int .u8 s3, .int .u8 s4, .int .u8 s5, .int .i64 t] 35) = W at *
  go_wp2_with fail
  refine (H1.out _).mono ?_
  rintro e w1 ⟨rfl, hb⟩
  have B1 := Lib.hid (B0.out.trans (hb.mono B0.out.size))
  have KC1 := Lib.hid (Cx.below KC.out hb)
  have k2 := KC1.out.key 2 _ rfl
  have hlw : w.heap.size ≤ w1.heap.size := B1.out.size
  clear hb H1 B0 KC
  go_upto_region 4 with (refine at_put1 9 (.tmp 19) _ w.heap.size [.int .i64 k, .int .u32 a] (.string T) (.string (T.extract 0 (min (T.size : Int) 100).toNat)) [.int .u8 m0, .int .u8 m1, .int .u8 m2, .int .u8 m3, .int .u8 m4, .int .u8 m5, .int .u32 b, .int .i64 n, .int .i64 f, .int .u8 s0, .int .u8 s1, .int .u8 s2, .int .u8 s3, .int .u8 s4, .int .u8 s5, .int .i64 t] (by simpa using KC1.out) sizeStr rfl rfl rfl rfl rfl rfl ?_; intro w2 KC2s hb2 hk2)
  have B2 := Lib.hid (B1.out.trans (hb2.out _ (Nat.le_refl _)))
  have KC2 := Lib.hid (show Cx w2 w.heap.size (evl ⟨k, a, (T.extract 0 (min (T.size : Int) 100).toNat), m0, m1, m2, m3, m4, m5, b, n, f, s0, s1, s2, s3, s4, s5, t⟩) from KC2s.out)
  obtain ⟨E, hE⟩ : ∃ x : Ev, ⟨k, a, (T.extract 0 (min (T.size : Int) 100).toNat), m0, m1, m2, m3, m4, m5, b, n, f, s0, s1, s2, s3, s4, s5, t⟩ = x := ⟨_, rfl⟩
  have hET : E.T.size ≤ 100 := by rw [← hE]; exact hTs
  rw [hE] at hok KC2
  clear hE KC2s hb2 hk2 KC1 B1 k2 hTs hlw
  have hlt2 : w.heap.size < w2.heap.size := KC2.out.lt
  have HE := Lib.hid (event_any E w2 hok.out (by omega))
  go_wp2_with (refine at_get 35 _ (.tmp 1) w.heap.size [] (evl E) [] (by simpa using KC2.out) Try.underlying35 rfl (by rw [sizeEv]; rfl) rfl rfl rfl ?_)
  refine HE.out.mono ?_
  rintro e w3 ⟨v3, rfl, ho, hb⟩
  have B3 := Lib.hid (B2.out.trans (hb.mono B2.out.size))
  have KC3 := Lib.hid (show Cx w3 w.heap.size (evl E) from Cx.below KC2.out hb)
  have hln := evB_len E (by omega)
  obtain ⟨A, c, rfl, hc, hcm, hR, hA⟩ := own_sl ho hln.1 (by omega)
  have hlt3 : w.heap.size < w3.heap.size := KC3.out.lt
  have HR := Lib.hid (readEv_any (evB E) A c w3 hR hc hcm hA)
  have RR := Lib.hid hR
  clear hb ho B2 KC2 HE hc hcm hR hlt2
  have HX := Lib.hid (rev_in E hok.out (by omega))
  have HY := Lib.hid (rev_out E)
  obtain ⟨⟨X, okb⟩, hX⟩ : ∃ p, rev (evB E) = p := ⟨_, rfl⟩
  rw [hX] at HR HX HY
  clear hX
  dsimp only at HR HX HY
  obtain ⟨N0, hN0⟩ : ∃ N, (evB E).length = N := ⟨_, rfl⟩
  have CSW := Lib.hid fun W (R : Rw eB W A (evB E)) => run_strB A c (evB E) W R
  rw [hN0] at HR CSW ⊢
  clear hN0 hln
  go_wp2_with fail
  refine HR.out.mono ?_
  rintro e w4 ⟨rfl, hb⟩
  have B4 := Lib.hid (show Below w.heap.size w (w4.alloc (.cells #[.int .i64 0, .int .u32 0, .string ⟨#[]⟩, .int .u8 0, .int .u8 0, .int .u8 0, .int .u8 0, .int .u8 0, .int .u8 0, .int .u32 0, .int .i64 0, .int .i64 0, .int .u8 0, .int .u8 0, .int .u8 0, .int .u8 0, .int .u8 0, .int .u8 0, .int .i64 0] 35)) from (B3.out.trans (hb.mono (Nat.le_of_lt hlt3))).alloc (Nat.le_trans (Nat.le_of_lt hlt3) hb.size) _)
  have hb4 := hb.trans (((Below.refl w4.heap.size w4).alloc (Nat.le_refl _) (.cells #[.int .i64 0, .int .u32 0, .string ⟨#[]⟩, .int .u8 0, .int .u8 0, .int .u8 0, .int .u8 0, .int .u8 0, .int .u8 0, .int .u32 0, .int .i64 0, .int .i64 0, .int .u8 0, .int .u8 0, .int .u8 0, .int .u8 0, .int .u8 0, .int .u8 0, .int .i64 0] 35)).mono hb.size)
  have KC4 := Lib.hid (show Cx (w4.alloc (.cells #[.int .i64 0, .int .u32 0, .string ⟨#[]⟩, .int .u8 0, .int .u8 0, .int .u8 0, .int .u8 0, .int .u8 0, .int .u8 0, .int .u32 0, .int .i64 0, .int .i64 0, .int .u8 0, .int .u8 0, .int .u8 0, .int .u8 0, .int .u8 0, .int .u8 0, .int .i64 0] 35)) w.heap.size (evl E) from Cx.below KC3.out hb4)
  have X4 := Lib.hid (cx_box w4 [.int .i64 0, .int .u32 0, .string ⟨#[]⟩, .int .u8 0, .int .u8 0, .int .u8 0, .int .u8 0, .int .u8 0, .int .u8 0, .int .u32 0, .int .i64 0, .int .i64 0, .int .u8 0, .int .u8 0, .int .u8 0, .int .u8 0, .int .u8 0, .int .u8 0, .int .i64 0] _ 35 rfl)
  have R4 := Lib.hid (RR.out.below hb4)
  have hlt4 : w.heap.size < w4.heap.size := Nat.lt_of_lt_of_le hlt3 hb.size
  have hA4 : ∀ p, A = some p → p.block < w4.heap.size := fun p hp => Nat.lt_of_lt_of_le (hA p hp) hb.size
  clear hb hb4 B3 KC3 HR RR hA
  go_upto_region 6 with (refine at_put 35 (.tmp 4) _ w4.heap.size [] [.int .i64 0, .int .u32 0, .string ⟨#[]⟩, .int .u8 0, .int .u8 0, .int .u8 0, .int .u8 0, .int .u8 0, .int .u8 0, .int .u32 0, .int .i64 0, .int .i64 0, .int .u8 0, .int .u8 0, .int .u8 0, .int .u8 0, .int .u8 0, .int .u8 0, .int .i64 0] (evl X) [] (by simpa using X4.out) rfl (by rw [sizeEv]; rfl) (by simp [evl, Value.oneCell']) rfl rfl rfl rfl ?_; intro w5 X5s hb5 hk5)
  have B5 := Lib.hid (B4.out.trans (hb5.out _ (Nat.le_of_lt hlt4)))
  have KC5 := Lib.hid (cx_other KC4.out hk5.out (by omega))
  have X5 := Lib.hid (show Cx w5 w4.heap.size (evl X) from by simpa using X5s.out)
  have R5 := R4.out.cells_keep (w' := w5) fun y a v hy ha hc => by
    rw [show w5.cell? a = _ from by unfold World.cell?; rw [hk5.out _ (by rw [ha]; have := hA4 y hy; omega)]]
    exact hc
  have CSM : ∀ (d : Nat) (os : Array Obj), (convert 37 9 (.slice A N0 c)).run Try.prog (Sort.grow (redrawn w5 d) os) = .ok (.string (st (evB E))) (Sort.grow (redrawn w5 d) os) := fun d os => CSW.out _ (R5.below (below_regrown w5 d os))
  have HL := Lib.hid fun (d : Nat) (os : Array Obj) => Calls.regrown_of (d := d) (os := os) (show Calls Try.prog 9 #[.agg (evl E).toArray] (Sort.grow (redrawn w5 d) os) fun z w' => z = .returned (.string (st (evB E))) ∧ Below (Sort.grow (redrawn w5 d) os).heap.size (Sort.grow (redrawn w5 d) os) w' from levent_any E (Sort.grow (redrawn w5 d) os) hok.out (by omega))
  obtain ⟨S, hS⟩ : ∃ x, st (evB E) = x := ⟨_, rfl⟩
  rw [hS] at HL
  rw [hS] at CSM
  clear hS B4 KC4 X4 R4 X5s hb5 hk5 hA4 CSW R5
  have hrg : ∀ W, (∃ p : Regrown, W = Sort.grow (redrawn w5 p.d) p.os) → W.rangeAt w.heap.size 0 (evl E) := fun W hW => by
    obtain ⟨p, rfl⟩ := hW
    exact (show Cx (Sort.grow (redrawn w5 p.d) p.os) w.heap.size (evl E) from Cx.below KC5.out (below_regrown w5 p.d p.os)).1
  have HRG := Lib.hid hrg
  clear hrg
  refine wp_region_quiet_below (by kernel_rfl) (by kernel_rfl) ?_
  (try simp only [Act.put])
  repeat (first
    | (refine quiet_getE (.tmp 1) w.heap.size (evl E) HRG.out rfl ?_ ?_ ?_ ?_; rotate_left; (with_reducible rfl); rfl; rotate_left; kernel_rfl; simp only [Act.put, List.setIfInBounds_toArray, List.set_cons_zero, List.set_cons_succ])
    | go_big_quiet_step ((go_at_call 9; (with_reducible exact HL.out _ _))))
  refine wpQuiet_nil ?_
  intro _ hw'
  obtain ⟨⟨dq, osq⟩, hw''⟩ := hw'
  subst hw''
  have hbq := below_regrown w5 dq osq
  generalize Sort.grow (redrawn w5 dq) osq = w6 at *
  have B6 := Lib.hid (B5.out.trans (hbq.mono B5.out.size))
  have KC6 := Lib.hid (show Cx w6 w.heap.size (evl E) from Cx.below KC5.out hbq)
  have X6 := Lib.hid (show Cx w6 w4.heap.size (evl X) from Cx.below X5.out hbq)
  have hl6 : w.heap.size ≤ w6.heap.size := B6.out.size
  clear hbq B5 KC5 X5 HRG CSM HL
  have k0 := KC6.out.key 0 _ rfl
  by_cases hout : E.k < 0 ∨ 255 < E.k
  · have hy := HY.out hout
    obtain ⟨K8, hK8⟩ : ∃ x, E.k % 256 = x := ⟨_, rfl⟩
    rw [hK8] at hy
    have l8 := low8 E.k
    rw [hK8] at l8
    clear hK8
    have HM := Lib.hid fun W => (lmay_any ⟨K8, 0, ⟨#[]⟩, 0, 0, 0, 0, 0, 0, 0, 0, 0, 0, 0, 0, 0, 0, 0, 0⟩ W (show (0 : Int) ≤ 0 by decide) (show (0 : Int) < 256 by decide) (show (ByteArray.mk #[]).size ≤ 9223372036854775807 by decide) : Calls Try.prog 10 #[.agg #[.int .i64 K8, .int .u32 0, .string ⟨#[]⟩, .int .u8 0, .int .u8 0, .int .u8 0, .int .u8 0, .int .u8 0, .int .u8 0, .int .u32 0, .int .i64 0, .int .i64 0, .int .u8 0, .int .u8 0, .int .u8 0, .int .u8 0, .int .u8 0, .int .u8 0, .int .i64 0]] W _)
    have HV := Lib.hid (show okb = true → myE ⟨K8, 0, ⟨#[]⟩, 0, 0, 0, 0, 0, 0, 0, 0, 0, 0, 0, 0, 0, 0, 0, 0⟩ = true from fun ho => by
      by_cases h8 : K8 = 0
      · subst h8; rfl
      · rw [if_neg h8] at hy; rw [(Prod.mk.inj hy).2] at ho; cases ho)
    obtain ⟨mv, hmv⟩ : ∃ x, myE ⟨K8, 0, ⟨#[]⟩, 0, 0, 0, 0, 0, 0, 0, 0, 0, 0, 0, 0, 0, 0, 0, 0⟩ = x := ⟨_, rfl⟩
    rw [hmv] at HM HV
    clear hmv hy
    rcases Int.lt_or_le E.k 0 with hneg | hpos
    · go_wp2_with fail
      refine (HM.out _).mono ?_
      rintro e w7 ⟨rfl, hb7⟩
      cases okb
      · cases mv
        · go_wp2_with fail
          go_ret
          exact ⟨rfl, B6.out.trans (hb7.mono hl6)⟩
        · go_wp2_with fail
          go_ret
          exact ⟨rfl, B6.out.trans (hb7.mono hl6)⟩
      · obtain rfl := HV.out rfl
        go_wp2_with fail
        go_ret
        exact ⟨rfl, B6.out.trans (hb7.mono hl6)⟩
    · have hgt : 255 < E.k := by omega
      go_wp2_with fail
      refine (HM.out _).mono ?_
      rintro e w7 ⟨rfl, hb7⟩
      cases okb
      · cases mv
        · go_wp2_with fail
          go_ret
          exact ⟨rfl, B6.out.trans (hb7.mono hl6)⟩
        · go_wp2_with fail
          go_ret
          exact ⟨rfl, B6.out.trans (hb7.mono hl6)⟩
      · obtain rfl := HV.out rfl
        go_wp2_with fail
        go_ret
        exact ⟨rfl, B6.out.trans (hb7.mono hl6)⟩
  · have hx := HX.out (by omega) (by omega)
    have hin := baE_in E hok.out (by omega)
    have HB := Lib.hid (bare_any E)
    have HM := Lib.hid fun W => lmay_any (baE E) W hin.1.1 hin.1.2 (by omega)
    have hge : ¬ E.k < 0 := by omega
    have hle : ¬ E.k > 255 := by omega
    obtain ⟨G, hG⟩ : ∃ g, baE E = g := ⟨_, rfl⟩
    rw [hG] at HB HM hx
    clear hG hin hout
    obtain ⟨mv, hmv⟩ : ∃ x, myE G = x := ⟨_, rfl⟩
    rw [hmv] at HM hx
    clear hmv
    go_upto_region 10 with fail
    go_wp2_with (refine at_get 35 _ (.tmp 1) w.heap.size [] (evl E) [] (by simpa using KC6.out) Try.underlying35 rfl (by rw [sizeEv]; rfl) rfl rfl rfl ?_)
    refine (HB.out _).mono ?_
    rintro e w7 ⟨rfl, hb⟩
    have B7 := Lib.hid (show Below w.heap.size w (w7.alloc (.cells #[.int .i64 0, .int .u32 0, .string ⟨#[]⟩, .int .u8 0, .int .u8 0, .int .u8 0, .int .u8 0, .int .u8 0, .int .u8 0, .int .u32 0, .int .i64 0, .int .i64 0, .int .u8 0, .int .u8 0, .int .u8 0, .int .u8 0, .int .u8 0, .int .u8 0, .int .i64 0] 35)) from (B6.out.trans (hb.mono hl6)).alloc (Nat.le_trans hl6 hb.size) _)
    have X7 := Lib.hid (show Cx (w7.alloc (.cells #[.int .i64 0, .int .u32 0, .string ⟨#[]⟩, .int .u8 0, .int .u8 0, .int .u8 0, .int .u8 0, .int .u8 0, .int .u8 0, .int .u32 0, .int .i64 0, .int .i64 0, .int .u8 0, .int .u8 0, .int .u8 0, .int .u8 0, .int .u8 0, .int .u8 0, .int .i64 0] 35)) w4.heap.size (evl X) from Cx.below X6.out (hb.trans (((Below.refl w7.heap.size w7).alloc (Nat.le_refl _) (.cells #[.int .i64 0, .int .u32 0, .string ⟨#[]⟩, .int .u8 0, .int .u8 0, .int .u8 0, .int .u8 0, .int .u8 0, .int .u8 0, .int .u32 0, .int .i64 0, .int .i64 0, .int .u8 0, .int .u8 0, .int .u8 0, .int .u8 0, .int .u8 0, .int .u8 0, .int .i64 0] 35)).mono hb.size)))
    have G7 := Lib.hid (cx_box w7 [.int .i64 0, .int .u32 0, .string ⟨#[]⟩, .int .u8 0, .int .u8 0, .int .u8 0, .int .u8 0, .int .u8 0, .int .u8 0, .int .u32 0, .int .i64 0, .int .i64 0, .int .u8 0, .int .u8 0, .int .u8 0, .int .u8 0, .int .u8 0, .int .u8 0, .int .i64 0] _ 35 rfl)
    have hl7 : w.heap.size ≤ w7.heap.size := Nat.le_trans hl6 hb.size
    have hx7 : w4.heap.size < w7.heap.size := Nat.lt_of_lt_of_le X6.out.lt hb.size
    clear hb B6 KC6 X6 HB k0
    go_upto_region 11 with (refine at_put 35 (.tmp 6) _ w7.heap.size [] [.int .i64 0, .int .u32 0, .string ⟨#[]⟩, .int .u8 0, .int .u8 0, .int .u8 0, .int .u8 0, .int .u8 0, .int .u8 0, .int .u32 0, .int .i64 0, .int .i64 0, .int .u8 0, .int .u8 0, .int .u8 0, .int .u8 0, .int .u8 0, .int .u8 0, .int .i64 0] (evl G) [] (by simpa using G7.out) rfl (by rw [sizeEv]; rfl) (by simp [evl, Value.oneCell']) rfl rfl rfl rfl ?_; intro w8 G8s hb8 hk8)
    have B8 := Lib.hid (B7.out.trans (hb8.out _ hl7))
    have X8 := Lib.hid (cx_other X7.out hk8.out (by omega))
    have G8 := Lib.hid (show Cx w8 w7.heap.size (evl G) from by simpa using G8s.out)
    have hl8 : w.heap.size ≤ w8.heap.size := B8.out.size
    clear B7 X7 G7 G8s hb8 hk8
    go_wp2_with (refine at_get 35 _ (.tmp 6) w7.heap.size [] (evl G) [] (by simpa using G8.out) Try.underlying35 rfl (by rw [sizeEv]; rfl) rfl rfl rfl ?_)
    refine (HM.out _).mono ?_
    rintro e w9 ⟨rfl, hb⟩
    have B9 := Lib.hid (B8.out.trans (hb.mono hl8))
    have X9 := Lib.hid (show Cx w9 w4.heap.size (evl X) from Cx.below X8.out hb)
    have G9 := Lib.hid (show Cx w9 w7.heap.size (evl G) from Cx.below G8.out hb)
    clear hb B8 X8 G8 HM
    cases mv
    · simp only [Bool.false_eq_true, if_false] at hx
      obtain ⟨rfl, rfl⟩ := Prod.mk.inj hx
      go_wp2_with (first | (refine at_getd 68 35 _ (.tmp 4) w4.heap.size (evl zev) X9.out Try.underlying35 rfl ?_ ?_ ?_ ?_ ?_ ?_; rotate_left; rotate_left; (with_reducible rfl); (with_reducible rfl); rfl; rotate_left; (rw [sizeEv]; rfl); kernel_rfl) | (refine at_oneE (.tmp 68) (.tmp 69) zev ?_ ?_ ?_ ?_ ?_; rotate_left; (with_reducible rfl); rfl; rfl; rotate_left; kernel_rfl))
      go_ret
      exact ⟨rfl, B9.out⟩
    · simp only [if_true] at hx
      obtain ⟨rfl, rfl⟩ := Prod.mk.inj hx
      go_wp2_with (first | (refine at_getd 60 35 _ (.tmp 4) w4.heap.size (evl X) X9.out Try.underlying35 rfl ?_ ?_ ?_ ?_ ?_ ?_; rotate_left; rotate_left; (with_reducible rfl); (with_reducible rfl); rfl; rotate_left; (rw [sizeEv]; rfl); kernel_rfl) | (refine at_getd 61 35 _ (.tmp 6) w7.heap.size (evl X) G9.out Try.underlying35 rfl ?_ ?_ ?_ ?_ ?_ ?_; rotate_left; rotate_left; (with_reducible rfl); (with_reducible rfl); rfl; rotate_left; (rw [sizeEv]; rfl); kernel_rfl) | (refine at_oneE (.tmp 60) (.tmp 61) X ?_ ?_ ?_ ?_ ?_; rotate_left; (with_reducible rfl); rfl; rfl; rotate_left; kernel_rfl))
      go_ret
      exact ⟨rfl, B9.out⟩
end Go.Proofs.Ytbjlklkmcpnemaa
