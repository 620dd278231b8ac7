/-
  OpsFresh holds for every nine bytes, every row of events by numbers and every number of 8 bits. No condition.
-/
import Derived.Test.YtilneflfeegnfaaGreatPQg
import Derived.Test.YtilneflfeegnfaaGreatPQf
set_option linter.unusedSimpArgs false
set_option linter.unusedVariables false
namespace Go.Proofs.YtilneflfeegnfaaGreat
open Go.RowKit
def Nr (x : Stt) : Prop := ∀ y ∈ x.kn, (167772160 : Int) ≤ y.a ∧ y.a < 167772160 + (16 : Nat)
theorem t2_kn (c : Cf) : ∀ (l : List Cs.Ca) (x : Stt), (l.foldl (t2k c) x).kn = x.kn
  | [], _ => rfl
  | k :: l, x => by
    rw [List.foldl_cons, t2_kn c l]
    unfold t2k
    split
    · split
      · rfl
      · exact (fro_stop x k.a).2.1
    · rfl
theorem nr_tick {x : Stt} (h : Nr x) (c : Cf) : Nr (tickL c x).1 := by
  unfold tickL Nr
  rw [(t5_hs c _).2.2.1]
  intro y hy
  have hy' : y ∈ (t3 c (t2 c (t1 c x))).kn := (List.mem_filter.1 hy).1
  unfold t3 at hy'
  rw [(t3_hs c _ _).2.2.1] at hy'
  unfold t2 at hy'
  rw [t2_kn] at hy'
  exact h y hy'
theorem nr_upd {x y : Stt} {q : Int} (h : Nr x) (hy : q = 0 → Nr y) : Nr (upd x y q).1 := by
  by_cases hq : q = 0
  · subst hq; exact hy rfl
  · rw [upd_no hq]; exact h
theorem nr_stop {x : Stt} (h : Nr x) (a : Int) : Nr (stpO x a) := by unfold Nr; rw [(fro_stop x a).2.1]; exact h
theorem nr_know {x : Stt} (h : Nr x) (hi : In x) {a : Int} (h0 : (167772160 : Int) ≤ a) (h1 : a < 167772160 + (16 : Nat)) {s : Sn.Sg} (he : Sn.putC x.kn a s = 0) : Nr { x with kn := Sn.putR x.kn a s } := by
  intro y hy
  have hy' : y ∈ Sn.putR x.kn a s := hy
  rw [(Sn.put_zero he).1] at hy'
  rcases hi.kv.srt.mem_ins.1 hy' with rfl | ⟨hy, -⟩
  · exact ⟨h0, h1⟩
  · exact h y hy
theorem nr_do {x : Stt} (h : Nr x) (hi : In x) (c : Cf) {e : Evt} (h0 : (167772160 : Int) ≤ e.h.a) (h1 : e.h.a < 167772160 + (16 : Nat)) : Nr (doL c x e).1 := by
  by_cases hk : e.k = 0
  · unfold doL
    rw [if_pos hk]
    exact nr_tick h c
  · rw [doL_ch c x e hk]
    unfold chL
    split
    · exact nr_upd h fun hq => h
    split
    · have h' : Nr { x with hs := Hl.takeR x.hs e.h.a } := h
      exact nr_upd h fun hq => nr_stop h' e.h.a
    split
    · exact nr_upd h fun hq => h
    split
    · exact nr_upd h fun hq => h
    split
    · unfold sawL
      split
      · split
        · exact h
        · have h' : Nr { x with pb := x.pb.filter fun p => p.a != e.h.a } := h
          exact nr_upd h fun he => nr_stop (nr_know h' (hi.an e.h.a) h0 h1 he) _
      · exact nr_upd h fun he => nr_stop (nr_know h hi h0 h1 he) _
    split
    · exact nr_upd h fun hq => h
    split
    · exact nr_upd h fun hq => h
    · exact h
theorem evsL_near (ys : List Ak) : ∀ e ∈ evsL ys, (167772160 : Int) ≤ e.h.a ∧ e.h.a < 167772160 + (16 : Nat) := by
  intro e he
  unfold evsL at he
  obtain ⟨y, -, hy⟩ := List.mem_flatMap.1 he
  rw [List.eq_of_mem_replicate hy]
  show (167772160 : Int) ≤ 167772160 + y.a % 16 ∧ 167772160 + y.a % 16 < 167772160 + 16
  omega
theorem smL_nr {c : Cf} (hk : Ck c) (es : List Evt) (h : ∀ e ∈ es, e.Ok) (hn : ∀ e ∈ es, (167772160 : Int) ≤ e.h.a ∧ e.h.a < 167772160 + (16 : Nat)) : Nr (smL c es) := by
  unfold smL
  have key : ∀ (es : List Evt) (x : Stt), In x → Nr x → (∀ e ∈ es, e.Ok) → (∀ e ∈ es, (167772160 : Int) ≤ e.h.a ∧ e.h.a < 167772160 + (16 : Nat)) → Nr (es.foldl (fun x e => (doL c x e).1) x) := by
    intro es
    induction es with
    | nil => intro x _ h _ _; exact h
    | cons e r ih => intro x hi h he hn; exact ih _ (in_do hi hk (he e (by simp))) (nr_do h hi c (hn e (by simp)).1 (hn e (by simp)).2) (fun e' h' => he e' (by simp [h'])) (fun e' h' => hn e' (by simp [h']))
  exact key es zst in_zst (fun y hy => by cases hy) h hn
theorem tk_now {x : Stt} (h : In x) (a : Int) : Sn.any (Sn.sg x.kn a) = true → Sn.tk (Sn.sg x.kn a) ≤ x.now := by
  intro ha
  unfold Sn.any at ha
  have hl := of_decide_eq_true ha
  have hg : (Sn.sg x.kn a)[(Sn.sg x.kn a).length - 1]? = some (Sn.sg x.kn a)[(Sn.sg x.kn a).length - 1] := List.getElem?_eq_getElem (by omega)
  unfold Sn.tk
  rw [hg]
  exact (sg_now h (List.mem_of_getElem? hg)).2
theorem frs_do {x : Stt} (c : Cf) (hi : In x) (hn : Nr x) {a f : Int} (h0 : (167772160 : Int) ≤ a) (h1 : a < 167772160 + (16 : Nat)) (hf0 : 0 < f) (hf : f < 4) :
    ∃ y, doL c x (evN 5 a f) = (y, [], 0) ∧ Cs.fnd a y.cs = none ∧ y.cs.length = x.cs.length := by
  have hsg : sgL x (evN 5 a f).s = ⟨f, 0, 0, 0, 0, 0, 0, x.now⟩ := by
    unfold sgL
    rw [if_neg (show ¬ (evN 5 a f).s.f = 0 by show ¬ f = 0; omega)]
    rfl
  have hl := Sn.srt_count x.kn 167772160 16 hi.kv.srt hn
  have hp : Sn.putC x.kn a ⟨f, 0, 0, 0, 0, 0, 0, x.now⟩ = 0 := Sn.put_yes (by show decide (0 ≤ f ∧ f < 4) = true; exact decide_eq_true ⟨by omega, hf⟩) hi.n0 (tk_now hi a) (fun _ => by omega)
  have hI := hi.know (a := a) (s := ⟨f, 0, 0, 0, 0, 0, 0, x.now⟩) (by omega) (by omega) rfl hp
  refine ⟨stpO { x with kn := Sn.putR x.kn a ⟨f, 0, 0, 0, 0, 0, 0, x.now⟩ } a, ?_, ?_, ?_⟩
  · rw [doL_ch c x _ (by show (5 : Int) ≠ 0; decide), chL_5 _ _ rfl]
    unfold sawL
    rw [hsg, if_neg (show ¬ (evN 5 a f).s.f = 0 by show ¬ f = 0; omega)]
    show upd x (stpO { x with kn := Sn.putR x.kn a ⟨f, 0, 0, 0, 0, 0, 0, x.now⟩ } a) (Sn.putC x.kn a ⟨f, 0, 0, 0, 0, 0, 0, x.now⟩) = _
    rw [hp]
    rfl
  · exact Cs.fnd_none fun k hk ho => stop_no hI a k hk ho
  · unfold stpO
    split
    · rename_i he
      unfold Cs.stO at he ⊢
      dsimp only at he ⊢
      cases hf : Cs.fnd a x.cs with
      | none => rw [hf] at he; exact absurd (show (7 : Int) = 0 from he) (by decide)
      | some i => exact Cs.mvA_len _ _ _ _
    · rfl
end Go.Proofs.YtilneflfeegnfaaGreat
namespace Go.Proofs.YtilneflfeegnfaaGreat
open Go.RowKit
set_option maxRecDepth 100000 in
set_option maxHeartbeats 8000000 in
theorem opsFresh_walk (y : Hc) (A : Option Addr) (ys : List Ak) (cap : Nat) (m : Int) (w : World) (hy : y.Ok) (hR : Rw eAk w A ys) (hcap : ys.length ≤ cap) (hok : ∀ x ∈ ys, x.Ok) (m0 : 0 ≤ m) (m1 : m < 256) : Calls Tryz.prog 8 #[hv y, .slice A ys.length cap, .int .u8 m] w fun e w' => e = .returned (.bool true) ∧ Below w.heap.size w w' := by
  have RA := Lib.hid hR
  have HSM := fun W (h : Rw eAk W A ys) => some_any (ch y) A ys cap W (ck_ch y hy) h hcap hok
  have HI := smL_in (ck_ch y hy) (evsL (ys.take 60)) (evsL_ok _ fun y h => hok y (List.mem_of_mem_take h))
  have HNR := smL_nr (ck_ch y hy) (evsL (ys.take 60)) (evsL_ok _ fun y h => hok y (List.mem_of_mem_take h)) (evsL_near _)
  obtain ⟨X, hX⟩ : ∃ X, smL (ch y) (evsL (ys.take 60)) = X := ⟨_, rfl⟩
  rw [hX] at HSM HI HNR
  have HIH := Lib.hid HI
  replace HNR := Lib.hid HNR
  clear hX hok hR
  have HA := Lib.hid awake_any
  have HC := fun W => choice_any y W hy
  have HK := ck_ch y hy
  have HO := cf_old y hy
  obtain ⟨cf, hcf⟩ : ∃ cf, ch y = cf := ⟨_, rfl⟩
  rw [hcf] at HC HK HO HSM
  obtain ⟨ya, yb, yc, yd, ye, yf, yg, yh, yi⟩ := y
  obtain ⟨xa, xb, xc, xd, xe, xf, xg, xh, xi⟩ := cf
  simp only [cfv, hv] at HC
  replace HC := Lib.hid HC
  replace HK := Lib.hid HK
  have hO1 := HO
  dsimp only at hO1
  simp only [hv]
  have B0 := Lib.hid (show Below w.heap.size w (w.alloc (.cells #[.int .u8 ya, .int .u8 yb, .int .u8 yc, .int .u8 yd, .int .u8 ye, .int .u8 yf, .int .u8 yg, .int .u8 yh, .int .u8 yi] 23)) from (Below.refl _ w).alloc (Nat.le_refl _) _)
  have X0 := Lib.hid (show Cx (w.alloc (.cells #[.int .u8 ya, .int .u8 yb, .int .u8 yc, .int .u8 yd, .int .u8 ye, .int .u8 yf, .int .u8 yg, .int .u8 yh, .int .u8 yi] 23)) w.heap.size [.int .u8 ya, .int .u8 yb, .int .u8 yc, .int .u8 yd, .int .u8 ye, .int .u8 yf, .int .u8 yg, .int .u8 yh, .int .u8 yi] from cx_box w _ _ 23 rfl)
  clear hy hcf HO
  go_enter Tryz.func8, Tryz.ntmps8
  go_wp2_with fail
  change Calls _ _ _ (w.alloc (.cells #[.int .u8 ya, .int .u8 yb, .int .u8 yc, .int .u8 yd, .int .u8 ye, .int .u8 yf, .int .u8 yg, .int .u8 yh, .int .u8 yi] 23)) _
  generalize w.alloc (.cells #[.int .u8 ya, .int .u8 yb, .int .u8 yc, .int .u8 yd, .int .u8 ye, .int .u8 yf, .int .u8 yg, .int .u8 yh, .int .u8 yi] 23) = W0 at *
  refine (HA.out _).mono ?_
  rintro e w1 ⟨rfl, hb⟩
  have X1 := Cx.below X0.out hb
  have B1 := Lib.hid (bthen B0.out hb B0.out.size)
  have l0 := X1.key 0 _ rfl
  have l1 := X1.key 1 _ rfl
  have l2 := X1.key 2 _ rfl
  have l3 := X1.key 3 _ rfl
  have l4 := X1.key 4 _ rfl
  have l5 := X1.key 5 _ rfl
  have l6 := X1.key 6 _ rfl
  have l7 := X1.key 7 _ rfl
  have l8 := X1.key 8 _ rfl
  (try dsimp only at l0 l1 l2 l3 l4 l5 l6 l7 l8)
  clear hb X1 X0 B0 HA
  go_wp2_with fail
  refine (HC.out _).mono ?_
  rintro e w2 ⟨rfl, hb⟩
  clear l0 l1 l2 l3 l4 l5 l6 l7 l8 HC
  have C3 := Lib.hid (show Cm (w2.alloc (.cells #[.int .i64 xa, .int .i64 xb, .int .i64 xc, .int .i64 xd, .int .i64 xe, .int .i64 xf, .int .i64 xg, .int .i64 xh, .int .i64 xi] 27)) w2.heap.size ⟨xa, xb, xc, xd, xe, xf, xg, xh, xi⟩ from cm_box w2 ⟨xa, xb, xc, xd, xe, xf, xg, xh, xi⟩)
  have B3 := Lib.hid (show Below w.heap.size w (w2.alloc (.cells #[.int .i64 xa, .int .i64 xb, .int .i64 xc, .int .i64 xd, .int .i64 xe, .int .i64 xf, .int .i64 xg, .int .i64 xh, .int .i64 xi] 27)) from (bthen B1.out hb B1.out.size).alloc (Nat.le_trans B1.out.size hb.size) _)
  have hg : w.heap.size ≤ w2.heap.size := Nat.le_trans B1.out.size hb.size
  clear hb B1
  replace HSM := Lib.hid HSM
  have RA3 := Lib.hid (RA.out.below B3.out)
  go_wp2_with fail
  change Calls _ _ _ (w2.alloc (.cells #[.int .i64 xa, .int .i64 xb, .int .i64 xc, .int .i64 xd, .int .i64 xe, .int .i64 xf, .int .i64 xg, .int .i64 xh, .int .i64 xi] 27)) _
  generalize w2.alloc (.cells #[.int .i64 xa, .int .i64 xb, .int .i64 xc, .int .i64 xd, .int .i64 xe, .int .i64 xf, .int .i64 xg, .int .i64 xh, .int .i64 xi] 27) = W3 at *
  refine (HSM.out _ RA3.out).mono ?_
  rintro e w3 ⟨r1, rfl, hL, hb⟩
  have BX := Lib.hid (show Below w3.heap.size w3 (w3.alloc (.cells #[.int .i64 0, .int .i64 0, .slice none 0 0, .slice none 0 0, .slice none 0 0, .slice none 0 0, .slice none 0 0] 35)) from (Below.refl _ _).alloc (Nat.le_refl _) _)
  have Z1 := Lib.hid (show Sb (w3.alloc (.cells #[.int .i64 0, .int .i64 0, .slice none 0 0, .slice none 0 0, .slice none 0 0, .slice none 0 0, .slice none 0 0] 35)) w3.heap.size (stl zst zrw) from sb_box w3 zst zrw)
  have bb := hb.trans (BX.out.mono hb.size)
  have B4 := Lib.hid (bthen B3.out bb B3.out.size)
  have C4 := Lib.hid (C3.out.below bb)
  have R4 := Lib.hid (hL.below BX.out)
  have hlt1 : w2.heap.size < w3.heap.size := Nat.lt_of_lt_of_le C3.out.lt hb.size
  clear bb hb hL BX B3 C3 HSM RA RA3
  go_upto_region 5 with (refine at_wholeSt _ _ w3.heap.size _ (stl X r1) Z1.out rfl (stl_ns _ _) (stl_one _ _) rfl rfl rfl rfl ?_; intro w4 S5 hb5 hk5)
  have B5 := Lib.hid (B4.out.trans (hb5.out _ (by omega)))
  have C5 := Lib.hid (cm_ob C4.out (Ob.put hb5.out hk5.out) (by omega))
  have R5 := Lib.hid (R4.out.apart Z1.out.bs hk5.out)
  clear hb5 hk5 B4 C4 R4 Z1 HI
  obtain ⟨Y, hdo, hfn, hlen⟩ := frs_do ⟨xa, xb, xc, xd, xe, xf, xg, xh, xi⟩ HIH.out HNR.out (a := 167772160 + m % 16) (f := 3) (by omega) (by omega) (by omega) (by omega)
  have DO := Lib.hid (doS ⟨xa, xb, xc, xd, xe, xf, xg, xh, xi⟩ X r1 (evN 5 (167772160 + m % 16) 3) w4 R5.out HIH.out HK.out (evN_ok (by omega) (by omega)) Y 0 (by rw [hdo]) (by rw [hdo]))
  have HFN := Lib.hid hfn
  have HLN := Lib.hid hlen
  have k0 := C5.out.c0
  have k1 := C5.out.c1
  have k2 := C5.out.c2
  have k3 := C5.out.c3
  have k4 := C5.out.c4
  have k5 := C5.out.c5
  have k6 := C5.out.c6
  have k7 := C5.out.c7
  have k8 := C5.out.c8
  (try dsimp only at k0 k1 k2 k3 k4 k5 k6 k7 k8)
  clear hdo hfn hlen
  go_wp2_with (refine at_loadSt _ w3.heap.size _ S5.out.cx rfl rfl rfl rfl ?_)
  refine DO.out.mono ?_
  rintro e w7 ⟨r7, v7, rfl, hL, hb⟩
  clear k0 k1 k2 k3 k4 k5 k6 k7 k8
  have BX := Lib.hid (show Below w7.heap.size w7 (w7.alloc (.cells #[.int .i64 0, .int .i64 0, .slice none 0 0, .slice none 0 0, .slice none 0 0, .slice none 0 0, .slice none 0 0] 35)) from (Below.refl _ _).alloc (Nat.le_refl _) _)
  have Z7 := Lib.hid (show Sb (w7.alloc (.cells #[.int .i64 0, .int .i64 0, .slice none 0 0, .slice none 0 0, .slice none 0 0, .slice none 0 0, .slice none 0 0] 35)) w7.heap.size (stl zst zrw) from sb_box w7 zst zrw)
  have bb := hb.trans (BX.out.mono hb.size)
  have B7 := Lib.hid (bthen B5.out bb B5.out.size)
  have S7 := Lib.hid (S5.out.below bb)
  have R7 := Lib.hid (hL.below BX.out)
  have hlt7 : w3.heap.size < w7.heap.size := Nat.lt_of_lt_of_le S5.out.lt hb.size
  have hg7 : w.heap.size ≤ w7.heap.size := by omega
  clear bb hb hL BX B5 C5 S5 R5 DO
  go_upto_region 7 with (refine at_wholeSt _ _ w7.heap.size _ (stl Y r7) Z7.out rfl (stl_ns _ _) (stl_one _ _) rfl rfl rfl rfl ?_; intro w8 S8 hb8 hk8)
  have B8 := Lib.hid (B7.out.trans (hb8.out _ hg7))
  have T8 := Lib.hid (S7.out.other hk8.out (by omega))
  have R8 := Lib.hid (R7.out.apart Z7.out.bs hk8.out)
  have HF := Lib.hid (Cs.find_any (167772160 + m % 16) r7.c Y.cs r7.cc w8 R8.out.c)
  have j6 := S8.out.cx.key 6 _ rfl
  (try dsimp only at j6)
  clear hb8 hk8 B7 Z7 S7 R7
  go_wp2_with fail
  refine HF.out.mono ?_
  rintro e w9 ⟨rfl, hb⟩
  rw [HFN.out, show Cs.fnI none = -1 from rfl]
  have B9 := Lib.hid (bthen B8.out hb B8.out.size)
  have j6b := (S8.out.below hb).cx.key 6 _ rfl
  have i6 := (T8.out.below hb).cx.key 6 _ rfl
  (try dsimp only at j6b i6)
  rw [HLN.out] at j6b
  clear j6 HF hb
  go_wp2_with fail
  go_ret
  exact ⟨rfl, B9.out⟩
end Go.Proofs.YtilneflfeegnfaaGreat
namespace Go.Proofs.YtilneflfeegnfaaGreat.opsFresh
open Go.ChangeShapes Go.WideShapes Go.ChangeAt Go.RowKit
open Go.ChangeMaps (open_string shut_string)
set_option maxRecDepth 100000 in
theorem lifted (os : Os) (started : os.Started) (H : Type) (enc : TypeId × Value → H) :
    ReturnsInHanded {} Tryz.checked os 8 .any (Rows.opsFreshSpec.pre6 enc Tryz.prog Tryz.f8 Rows.opsFreshRow.domain false) (Rows.opsFreshSpec.post enc Tryz.prog Tryz.f8 false true false false) := by
  refine returnsInHanded_of_change_sized (C := Tryz.checked) own started (by kernel_rfl) Tryz.func8
    (ChangeSpec.witness6 (enc := enc) (C := Tryz.checked) false ⟨#[], #[.agg #[.int .u8 0, .int .u8 0, .int .u8 0, .int .u8 0, .int .u8 0, .int .u8 0, .int .u8 0, .int .u8 0, .int .u8 0], .slice none 0 0, .int .u8 0], []⟩ 8 (by kernel_rfl) (by kernel_rfl) (by kernel_rfl) (by kernel_rfl)) ?_
  intro W base args ds gs before hval0 hW _ hsz0 _
  have hsz : (DataW.weightsEach Tryz.prog (Tryz.f8.params.toList ++ Rows.opsFreshSpec.plain.varTypes Tryz.prog) (ds ++ gs)).all (· ≤ reachBytes) = true := hsz0
  have hval : ∀ (j : Nat) t v, Tryz.f8.params[j]? = some t → args[j]? = some v → Value.okWide Tryz.prog W .any base t v := hval0
  have hW' := hW
  obtain ⟨p, q, hA0, hV, rfl, hfz, hnd⟩ := hW
  have hA : DataW.TrodAll enc Tryz.prog W 0 (fun _ => true) true Tryz.f8.params.toList args.toList ds p := hA0
  rw [Tryz.params8] at hA hval hsz
  obtain ⟨v0, vs0, d0, ds0, p0, q0, hargs, rfl, rfl, h0, r0⟩ := trodAll_cons hA
  obtain ⟨v1, vs1, d1, ds1, p1, q1, rfl, rfl, rfl, h1, r1⟩ := trodAll_cons r0
  obtain ⟨v2, vs2, d2, ds2, p2, q2, rfl, rfl, rfl, h2, r2⟩ := trodAll_cons r1
  obtain ⟨rfl, rfl, rfl⟩ := trodAll_nil r2
  obtain rfl : args = #[v0, v1, v2] := by cases args; simp_all
  obtain ⟨rfl, rfl⟩ := trodVars_none hV
  have k0 := h0
  have lt0 : ∀ x ∈ p0, x.block < W.heap.size := by obtain ⟨m, hm⟩ := k0; exact DataW.trod_lt m _ _ _ hm
  obtain ⟨a0, rfl, w0⟩ := open_hc (hval 0 23 v0 rfl rfl) h0
  obtain ⟨a1, len1, cap1, rfl⟩ := okWide_slice Tryz.underlying24 (hval 1 24 v1 rfl rfl)
  have k1 := h1
  have lt1 : ∀ x ∈ p1, x.block < W.heap.size := by obtain ⟨m, hm⟩ := k1; exact DataW.trod_lt m _ _ _ hm
  obtain ⟨z1, rfl, w1, g1, o1⟩ := open_acts h1 (fun elems spare hd => sized_slice hsz (j := 1) (t := 24) (e := 79) rfl (by rw [hd]; rfl) Tryz.underlying24)
  obtain ⟨a2, rfl, rfl, rfl, w2⟩ := open_int Tryz.underlying5 (hval 2 5 v2 rfl rfl) h2
  clear hA0 hval0 hsz0
  refine (opsFresh_walk a0 a1 z1 cap1 a2 W w0 w1 g1 o1 (wf_u8 w2).1 (wf_u8 w2).2).mono fun e W' ⟨he, bel⟩ => ?_
  subst he
  exact ⟨_, rfl, _, _, _, [], _, [], hW', trodAll_mk1 (shut_bool Tryz.underlying4 _), (trodAll_cons_mk (Below.trod laidOut (by kernel_rfl) (of_decide_eq_true (by kernel_rfl)) k0 bel lt0) (trodAll_cons_mk (Below.trod laidOut (by kernel_rfl) (of_decide_eq_true (by kernel_rfl)) k1 bel lt1) (trodAll_cons_mk (shut_int Tryz.underlying5 w2) trodAll_mk0))), rfl, bel.frame _, fun h => by cases h⟩
theorem over : Rows.OpsFreshSaid :=
  OpenClaim.holds_of_wide 8 Tryz.f8 rfl rfl rfl rfl rfl rfl rfl ⟨rfl, rfl, rfl, rfl, rfl⟩ rfl rfl rfl rfl rfl (by kernel_rfl) Tryz.func8 (by kernel_rfl)
    (of_decide_eq_true (by kernel_rfl)) (by unfold Func.isWrapper; first | (rw [if_pos (by decide +kernel)]; kernel_rfl) | (rw [if_neg (by decide +kernel)]; exact ⟨rfl, rfl⟩))
    (fun os started H enc _ => lifted os started H enc)
end Go.Proofs.YtilneflfeegnfaaGreat.opsFresh
namespace Go.Proofs.YtilneflfeegnfaaGreat
theorem opsFresh_holds : Rows.OpsFreshSaid := opsFresh.over
end Go.Proofs.YtilneflfeegnfaaGreat
