/-
  The contracts of a reader's addr, mac, owner, block, sighted and holder. Conditions: the reader and its bytes lie in memory, the bytes below it.
-/
import Derived.Test.YtbjlklkmcpnemaaCdT
import Derived.Laws.IdiomCopy
import Derived.Deep.RegionWith
set_option linter.unusedSimpArgs false
set_option linter.unusedVariables false
namespace Go.Proofs.Ytbjlklkmcpnemaa
open Go.RowKit

theorem results_cell {P : Program} {fn : Func} {p : Tmp} {ty : TypeId} (h : fn.results = #[.cell p ty]) (tmps : Array Value) (w : World) (x : Addr) (v : Value) (hp : tmps.getD p undef = .pointer (some x)) (hl : (loadVar ty x).run P w = .ok v w) :
    (results fn tmps).run P w = .ok v w := by
  have hp' : tmps[p]?.getD undef = .pointer (some x) := by simpa using hp
  simp [results, h, hp', asAddr, hl]
theorem cx_ob {w w' : World} {b g : Nat} {u : Value} {L : List Value} (h : Cx w g (u :: L)) (hb : Ob b w w') (hne : g ≠ b) : Cx w' g (u :: L) := by
  have e := hb.oth g hne h.lt
  refine ⟨fun j v hj => ?_, fun j hj => ?_⟩
  · have := h.1 j v hj
    rw [← this]
    exact World.cell?_of_block e
  · have := h.2 j hj
    exact ⟨by rw [World.cell?_of_block e]; exact this.1, by rw [World.frozen?_of_block e]; exact this.2⟩
theorem un4 (x : Rs) : 0 ≤ (un (tkP 4 x) : Int) ∧ (un (tkP 4 x) : Int) < 4294967296 ∧ vl (tkP 4 x) = (un (tkP 4 x) : Int) := by
  have h := tkP_le 4 x
  have h1 := un_lt (tkP 4 x)
  have h2 : 256 ^ (tkP 4 x).length ≤ 256 ^ 4 := Nat.pow_le_pow_right (by omega) h
  exact ⟨by omega, by omega, (vl_small (by omega)).1⟩
theorem un1 (x : Rs) : 0 ≤ vl (tkP 1 x) ∧ vl (tkP 1 x) < 256 ∧ vl (tkP 1 x) = (un (tkP 1 x) : Int) := by
  have h := tkP_le 1 x
  have h1 := un_lt (tkP 1 x)
  have h2 : 256 ^ (tkP 1 x).length ≤ 256 ^ 1 := Nat.pow_le_pow_right (by omega) h
  have h3 := (vl_small (l := tkP 1 x) (by omega)).1
  omega
theorem rd_other {w w' : World} {b g : Nat} {x : Rs} (h : Rd w b x) (hk : ∀ k, k ≠ g → w'.heap[k]? = w.heap[k]?) (hg : b < g) : Rd w' b x := by
  obtain ⟨A, c, h1, h2, h3, h4, h5⟩ := h
  refine ⟨A, c, cx_other h1 hk (by omega), h2.cells_keep fun y a v hy ha hc => ?_, h3, h4, h5⟩
  rw [← hc]
  unfold World.cell?
  rw [hk a.block (by rw [ha]; have := h5 y hy; omega)]
theorem ob_other {w w' : World} {b g : Nat} (hb : ∀ B, B ≤ g → Below B w w') (hk : ∀ k, k ≠ g → w'.heap[k]? = w.heap[k]?) (hg : b < w.heap.size) (hgg : w.heap.size ≤ g) : Ob b w w' :=
  Ob.of (hb _ hgg) hg
/-- The next address. -/
def adP (x : Rs) : Int := (un (tkP 4 x) : Int)
set_option maxRecDepth 100000 in
set_option maxHeartbeats 4000000 in
theorem raddr_any (x : Rs) (b : Nat) (w : World) (H : Rd w b x) :
    Calls Try.prog 51 #[.pointer (some ⟨b, 0, none⟩)] w fun e w' => e = .returned (.int .u32 (adP x)) ∧ Rd w' b (tkS 4 x) ∧ Ob b w w' := by
  have HT := Lib.hid (rnumber_any x 4 b w H (by omega))
  have h4 := un4 x
  have HP := Lib.hid (show adP x = (un (tkP 4 x) : Int) from rfl)
  rw [h4.2.2] at HT
  obtain ⟨r, hr⟩ : ∃ r, un (tkP 4 x) = r := ⟨_, rfl⟩
  rw [hr] at HT h4 HP
  obtain ⟨h40, h41, -⟩ := h4
  clear H hr
  go_enter Try.func51, Try.ntmps51
  go_wp2_with fail
  refine HT.out.mono ?_
  rintro e w1 ⟨rfl, hb⟩
  go_wp2_with fail
  go_ret
  rw [HP.out]
  exact ⟨rfl, hb⟩
/-- The six bytes that come next, or zeros. -/
def mq (x : Rs) (j : Nat) : Int := (((tkP 6 x).getD j 0).toNat : Int)
theorem tkP_len (n : Nat) (x : Rs) : (tkP n x) = [] ∨ (tkP n x).length = n := by
  unfold tkP
  split
  · exact .inl rfl
  · exact .inr (by rw [List.length_take]; omega)
theorem size_u8 : (Try.prog.info? 5).map (·.size) = some 1 := by kernel_rfl
theorem sizeM6 : (Try.prog.info? 26).map (·.size) = some 6 := by kernel_rfl
/-- What is copied into six zeros. -/
theorem run_copy6 (w : World) (ty : TypeId) (g : Nat) (A : Option Addr) (c : Nat) (P : List UInt8) (hP : P = [] ∨ P.length = 6) (R : Rw eB w A P) (H : Cx w g [.int .u8 0, .int .u8 0, .int .u8 0, .int .u8 0, .int .u8 0, .int .u8 0]) :
    ∃ w' n, (Builtin.copy_ #[37, 37] ty #[.slice (some ⟨g, 0, none⟩) 6 6, .slice A P.length c]).run Try.prog w = .ok n w' ∧ Cx w' g [.int .u8 ((P.getD 0 0).toNat : Int), .int .u8 ((P.getD 1 0).toNat : Int), .int .u8 ((P.getD 2 0).toNat : Int), .int .u8 ((P.getD 3 0).toNat : Int), .int .u8 ((P.getD 4 0).toNat : Int), .int .u8 ((P.getD 5 0).toNat : Int)] ∧ (∀ B, B ≤ g → Below B w w') ∧ (∀ k, k ≠ g → w'.heap[k]? = w.heap[k]?) := by
  rcases hP with rfl | hP
  · refine ⟨w, goInt 0, ?_, H, fun B _ => Below.refl _ _, fun _ _ => rfl⟩
    exact run_copy_none w 37 37 ty 5 (some ⟨g, 0, none⟩) A 6 6 0 c Try.underlying37 size_u8 (by simp)
  · match P, hP with
    | [p0, p1, p2, p3, p4, p5], _ =>
      obtain ⟨y, rfl⟩ := rw_some R (by simp)
      have hrun := run_copy_cells (P := Try.prog) w 37 37 ty 5 g 0 6 6 y 6 c (bs [p0, p1, p2, p3, p4, p5]) Try.underlying37 size_u8 rfl (fun j v hj => by
        match j, hj with
        | 0, hj | 1, hj | 2, hj | 3, hj | 4, hj | 5, hj =>
          have hj' := Option.some.inj hj
          subst hj'
          exact rw_b0 R rfl) (fun j hj => (H.2 j hj).1) (fun j hj => (H.2 j hj).2) (fun v hv => by
        simp [bs, El.cs, eB] at hv
        rcases hv with rfl | rfl | rfl | rfl | rfl | rfl <;> rfl)
      exact ⟨_, _, hrun, Cx.put (p := []) (old := [.int .u8 0, .int .u8 0, .int .u8 0, .int .u8 0, .int .u8 0, .int .u8 0]) (s := []) (bs [p0, p1, p2, p3, p4, p5]) (by simpa using H) rfl, fun B hB => cx_below hB _ _ _ (Below.refl _ _), setCells_other g _ _ _⟩
set_option maxRecDepth 100000 in
set_option maxHeartbeats 4000000 in
theorem rmac_any (x : Rs) (b : Nat) (w : World) (H : Rd w b x) :
    Calls Try.prog 78 #[.pointer (some ⟨b, 0, none⟩)] w fun e w' => e = .returned (.agg #[.int .u8 (mq x 0), .int .u8 (mq x 1), .int .u8 (mq x 2), .int .u8 (mq x 3), .int .u8 (mq x 4), .int .u8 (mq x 5)]) ∧ Rd w' b (tkS 6 x) ∧ Ob b w w' := by
  have hlt := H.lt
  have B0 := (show Below w.heap.size w ((w.alloc (.cells #[.int .u8 0, .int .u8 0, .int .u8 0, .int .u8 0, .int .u8 0, .int .u8 0] 26)).alloc (.cells #[.int .u8 0, .int .u8 0, .int .u8 0, .int .u8 0, .int .u8 0, .int .u8 0] 26)) from ((Below.refl _ _).alloc (Nat.le_refl _) _).alloc (by simp) _)
  have CA := Cx.below (cx_box w [.int .u8 0, .int .u8 0, .int .u8 0, .int .u8 0, .int .u8 0, .int .u8 0] _ 26 rfl) ((Below.refl _ _).alloc (Nat.le_refl _) (.cells #[.int .u8 0, .int .u8 0, .int .u8 0, .int .u8 0, .int .u8 0, .int .u8 0] 26))
  have CB := cx_box (w.alloc (.cells #[.int .u8 0, .int .u8 0, .int .u8 0, .int .u8 0, .int .u8 0, .int .u8 0] 26)) [.int .u8 0, .int .u8 0, .int .u8 0, .int .u8 0, .int .u8 0, .int .u8 0] _ 26 rfl
  rw [World.size_alloc] at CB
  have H0 := Lib.hid (H.below B0)
  have O0 := Lib.hid (Ob.of B0 hlt)
  have CA0 := Lib.hid CA
  have CB0 := Lib.hid CB
  have hl6 := tkP_len 6 x
  have HM := Lib.hid (show ∀ j, mq x j = (((tkP 6 x).getD j 0).toNat : Int) from fun j => rfl)
  clear B0 CA CB H
  go_enter Try.func78, Try.ntmps78
  go_upto_region 2 with fail
  generalize (w.alloc (.cells #[.int .u8 0, .int .u8 0, .int .u8 0, .int .u8 0, .int .u8 0, .int .u8 0] 26)).alloc (.cells #[.int .u8 0, .int .u8 0, .int .u8 0, .int .u8 0, .int .u8 0, .int .u8 0] 26) = W at *
  have HT := Lib.hid fun W' (h : ∃ m, W' = W.drewN m) => (by
    obtain ⟨m, rfl⟩ := h
    exact take_any x 6 b _ (H0.out.below (bdrewN (Below.refl _ _) m)) (by omega) : Calls Try.prog 76 #[.pointer (some ⟨b, 0, none⟩), .int .i64 6] W' (TkPost W' b 6 x))
  have KK := Lib.hid fun W' (h : ∃ m, W' = W.drewN m) w1 (hb : Ob b W' w1) => (by
    obtain ⟨m, rfl⟩ := h
    have h2 := Ob.of (bdrewN (Below.refl _ W) m) H0.out.lt
    exact ⟨cx_ob CA0.out (h2.trans hb) (by omega), cx_ob CB0.out (h2.trans hb) (by omega), O0.out.trans (h2.trans hb)⟩ : Cx w1 w.heap.size [.int .u8 0, .int .u8 0, .int .u8 0, .int .u8 0, .int .u8 0, .int .u8 0] ∧ Cx w1 (w.heap.size + 1) [.int .u8 0, .int .u8 0, .int .u8 0, .int .u8 0, .int .u8 0, .int .u8 0] ∧ Ob b w w1)
  obtain ⟨P, hP⟩ : ∃ P, tkP 6 x = P := ⟨_, rfl⟩
  rw [hP] at HM hl6
  have HP := Lib.hid hP
  clear hP
  go_region_with (go_at_call 76; refine (HT.out _ ⟨_, rfl⟩).mono ?_; rintro e w1 ⟨A, c, rfl, hR, hlc, hc, hA, hRd, hob⟩; rw [HP.out] at hR hlc ⊢; obtain ⟨hca, hcb, hob2⟩ := KK.out _ ⟨_, rfl⟩ _ hob; obtain ⟨w2, n2, hrun, hC2, hB2, hk2⟩ := run_copy6 w1 3 (w.heap.size + 1) A c P hl6 hR hcb; have C2 := Lib.hid hC2; have R2 := Lib.hid hRd; have O2 := Lib.hid hob2; have CA2 := Lib.hid (cx_other hca hk2 (by omega)); have BB2 := Lib.hid hB2; have K2 := Lib.hid hk2; clear hC2 hRd hob2 hca hB2 hk2 hob hR hlc hA hcb)
  all_goals (
    rw [← HM.out, ← HM.out, ← HM.out, ← HM.out, ← HM.out, ← HM.out] at C2
    go_wp2_with (first | (refine at_get 26 _ (.tmp 3) _ [] [.int .u8 (mq x 0), .int .u8 (mq x 1), .int .u8 (mq x 2), .int .u8 (mq x 3), .int .u8 (mq x 4), .int .u8 (mq x 5)] [] (by simpa using C2.out) Try.underlying26 rfl (by rw [sizeM6]; rfl) rfl rfl rfl ?_) | (refine at_put 26 (.tmp 2) _ w.heap.size [] [.int .u8 0, .int .u8 0, .int .u8 0, .int .u8 0, .int .u8 0, .int .u8 0] [.int .u8 (mq x 0), .int .u8 (mq x 1), .int .u8 (mq x 2), .int .u8 (mq x 3), .int .u8 (mq x 4), .int .u8 (mq x 5)] [] (by simpa using CA2.out) rfl (by rw [sizeM6]; rfl) (by simp [Value.oneCell']) rfl rfl rfl rfl ?_; intro w3 C3 hb3 hk3))
    have e3 : Cx w3 w.heap.size [.int .u8 (mq x 0), .int .u8 (mq x 1), .int .u8 (mq x 2), .int .u8 (mq x 3), .int .u8 (mq x 4), .int .u8 (mq x 5)] := by simpa using C3.out
    refine bodyPost_ret (results_cell rfl _ _ _ _ rfl (loadv 26 _ e3 Try.underlying26 rfl (by rw [sizeM6]; rfl))) rfl ?_
    exact ⟨rfl, rd_other (rd_other R2.out K2.out (by omega)) hk3.out (by omega), ⟨(O2.out.bel.trans (BB2.out _ (by omega))).trans (hb3.out _ (by omega)), fun k hkb hkl => by rw [hk3.out k (by omega), K2.out k (by omega), O2.out.oth k hkb hkl]⟩⟩)
end Go.Proofs.Ytbjlklkmcpnemaa
