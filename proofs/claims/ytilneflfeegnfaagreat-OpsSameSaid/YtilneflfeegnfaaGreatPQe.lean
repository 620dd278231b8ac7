/-
  Part of the proof: several texts in one file. No condition of its own.
-/
import Derived.Test.YtilneflfeegnfaaGreatPQd
import Derived.Lib.SliceRun
import Derived.Lib.MinMax
set_option linter.unusedSimpArgs false
set_option linter.unusedVariables false
namespace Go.Proofs.YtilneflfeegnfaaGreat
open Go.RowKit
def rgS (x : Stt) : Bool := decide (0 ≤ x.now) && decide (x.now ≤ 1099511627776) && decide (0 ≤ x.seq) && decide (x.seq < 65536) && Hl.rightB x.hs && Sn.rightB x.kn && Sw.rgB x.sw && Pb.rgB x.pb && Cs.rgB x.cs
set_option maxRecDepth 100000 in
set_option maxHeartbeats 8000000 in
theorem rightS_any (x : Stt) (r : Rws) (w : World) (h : Lie w x r) (hau : Sw.Au x.sw) :
    Calls Tryz.prog 18 #[stv x r] w fun e w' => e = .returned (.bool (rgS x)) ∧ Below w.heap.size w w' := by
  have Hh := Lib.hid fun W (hW : Lie W x r) => Hl.right15_any r.h x.hs r.hc W hW.h hW.hc
  have Hk := Lib.hid fun W (hW : Lie W x r) => Sn.right_any r.k x.kn r.kc W hW.k hW.kc
  have Hs := Lib.hid fun W (hW : Lie W x r) => Sw.right_row r.s x.sw r.sc W hW.s hau hW.sc
  have Hp := Lib.hid fun W (hW : Lie W x r) => Pb.right_row r.p x.pb r.pc W hW.p hW.pc
  have Hc := Lib.hid fun W (hW : Lie W x r) => Cs.right_row r.c x.cs r.cc W hW.c hW.cc
  have HQ := Lib.hid (show rgS x = _ from by unfold rgS; rfl)
  obtain ⟨bh, hbh⟩ : ∃ b, Hl.rightB x.hs = b := ⟨_, rfl⟩
  rw [hbh] at Hh HQ
  obtain ⟨bk, hbk⟩ : ∃ b, Sn.rightB x.kn = b := ⟨_, rfl⟩
  rw [hbk] at Hk HQ
  obtain ⟨bs, hbs⟩ : ∃ b, Sw.rgB x.sw = b := ⟨_, rfl⟩
  rw [hbs] at Hs HQ
  obtain ⟨bp, hbp⟩ : ∃ b, Pb.rgB x.pb = b := ⟨_, rfl⟩
  rw [hbp] at Hp HQ
  obtain ⟨bc, hbc⟩ : ∃ b, Cs.rgB x.cs = b := ⟨_, rfl⟩
  rw [hbc] at Hc HQ
  have R := Lib.hid h
  obtain ⟨n, q, hs, sw, kn, pb, cs⟩ := x
  obtain ⟨A1, c1, A2, c2, A3, c3, A4, c4, A5, c5⟩ := r
  have B0 := Lib.hid (show Below w.heap.size w (w.alloc (Stx ⟨n, q, hs, sw, kn, pb, cs⟩ ⟨A1, c1, A2, c2, A3, c3, A4, c4, A5, c5⟩)) from (Below.refl _ w).alloc (Nat.le_refl _) _)
  have S0 := Lib.hid (sb_box w ⟨n, q, hs, sw, kn, pb, cs⟩ ⟨A1, c1, A2, c2, A3, c3, A4, c4, A5, c5⟩)
  have R0 := Lib.hid (R.out.below B0.out)
  simp only [stv]
  dsimp only at HQ hbh hbk hbs hbp hbc Hh Hk Hs Hp Hc
  simp only [Stx, stl] at B0 S0 R0
  clear h hau R hbh hbk hbs hbp hbc
  go_enter Tryz.func18, Tryz.ntmps18
  go_upto_region 1 with fail
  change (Code.region _ _ _).wp _ _ _ (w.alloc (.cells #[.int .i64 n, .int .i64 q, .slice A1 hs.length c1, .slice A2 sw.length c2, .slice A3 kn.length c3, .slice A4 pb.length c4, .slice A5 cs.length c5] 35))
  generalize w.alloc (.cells #[.int .i64 n, .int .i64 q, .slice A1 hs.length c1, .slice A2 sw.length c2, .slice A3 kn.length c3, .slice A4 pb.length c4, .slice A5 cs.length c5] 35) = W0 at *
  have k0 := S0.out.cx.key 0 _ rfl
  have k1 := S0.out.cx.key 1 _ rfl
  have k2 := S0.out.cx.key 2 _ rfl
  by_cases h0 : 0 ≤ n
  · skip
    by_cases h1 : n ≤ 1099511627776
    · skip
      by_cases h2 : 0 ≤ q
      · skip
        by_cases h3 : q < 65536
        · skip
          go_wp2_with fail
          refine (Hh.out _ R0.out).mono ?_
          rintro e w1 ⟨rfl, hb⟩
          have B1 := Lib.hid (bthen B0.out hb B0.out.size)
          have S1 := Lib.hid (S0.out.below hb)
          have R1 := Lib.hid (R0.out.below hb)
          clear k0 k1 k2
          have k0 := S1.out.cx.key 4 _ rfl
          clear hb
          cases bh
          · skip
            go_wp2_with fail
            go_ret
            exact ⟨ret_bool (by rw [HQ.out]; simp [h0, h1, h2, h3]), B1.out⟩
          · skip
            go_wp2_with fail
            refine (Hk.out _ R1.out).mono ?_
            rintro e w2 ⟨rfl, hb⟩
            have B2 := Lib.hid (bthen B1.out hb B1.out.size)
            have S2 := Lib.hid (S1.out.below hb)
            have R2 := Lib.hid (R1.out.below hb)
            clear k0
            have k0 := S2.out.cx.key 3 _ rfl
            clear hb
            cases bk
            · skip
              go_wp2_with fail
              go_ret
              exact ⟨ret_bool (by rw [HQ.out]; simp [h0, h1, h2, h3]), B2.out⟩
            · skip
              go_wp2_with fail
              refine (Hs.out _ R2.out).mono ?_
              rintro e w3 ⟨rfl, hb⟩
              have B3 := Lib.hid (bthen B2.out hb B2.out.size)
              have S3 := Lib.hid (S2.out.below hb)
              have R3 := Lib.hid (R2.out.below hb)
              clear k0
              have k0 := S3.out.cx.key 5 _ rfl
              clear hb
              cases bs
              · skip
                go_wp2_with fail
                go_ret
                exact ⟨ret_bool (by rw [HQ.out]; simp [h0, h1, h2, h3]), B3.out⟩
              · skip
                go_wp2_with fail
                refine (Hp.out _ R3.out).mono ?_
                rintro e w4 ⟨rfl, hb⟩
                have B4 := Lib.hid (bthen B3.out hb B3.out.size)
                have S4 := Lib.hid (S3.out.below hb)
                have R4 := Lib.hid (R3.out.below hb)
                clear k0
                have k0 := S4.out.cx.key 6 _ rfl
                clear hb
                cases bp
                · skip
                  go_wp2_with fail
                  go_ret
                  exact ⟨ret_bool (by rw [HQ.out]; simp [h0, h1, h2, h3]), B4.out⟩
                · skip
                  go_wp2_with fail
                  refine (Hc.out _ R4.out).mono ?_
                  rintro e w5 ⟨rfl, hb⟩
                  have B5 := Lib.hid (bthen B4.out hb B4.out.size)
                  have S5 := Lib.hid (S4.out.below hb)
                  have R5 := Lib.hid (R4.out.below hb)
                  clear k0
                  have k0 := hb
                  cases bc
                  · skip
                    go_wp2_with fail
                    go_ret
                    exact ⟨ret_bool (by rw [HQ.out]; simp [h0, h1, h2, h3]), B5.out⟩
                  · skip
                    go_wp2_with fail
                    go_ret
                    exact ⟨ret_bool (by rw [HQ.out]; simp [h0, h1, h2, h3]), B5.out⟩
        · have eh3 := h3
          go_wp2_with fail
          go_ret
          exact ⟨ret_bool (by rw [HQ.out]; simp; intros; omega), B0.out⟩
      · have eh2 := h2
        go_wp2_with fail
        go_ret
        exact ⟨ret_bool (by rw [HQ.out]; simp; intros; omega), B0.out⟩
    · have eh1 := h1
      go_wp2_with fail
      go_ret
      exact ⟨ret_bool (by rw [HQ.out]; simp; intros; omega), B0.out⟩
  · have eh0 := h0
    go_wp2_with fail
    go_ret
    exact ⟨ret_bool (by rw [HQ.out]; simp; intros; omega), B0.out⟩
end Go.Proofs.YtilneflfeegnfaaGreat
namespace Go.Proofs.YtilneflfeegnfaaGreat
open Go.RowKit
structure Evt where
  k : Int
  h : Hl.Hr
  b : Int
  n : Int
  s : Sn.Sg
def t1 (c : Cf) (x : Stt) : Stt := { x with now := min (x.now + 1) 1099511627776, cs := Cs.tkO c.h (min (x.now + 1) 1099511627776) x.cs }
def t2k (c : Cf) (x : Stt) (k : Cs.Ca) : Stt :=
  if k.g = 1 then (if hoO c x k.a = 3 then { x with cs := (Cs.stO (fun g => g == 1) 5 x.now k.a x.cs).1, hs := Hl.takeR x.hs k.a } else stpO x k.a) else x
def t2 (c : Cf) (x : Stt) : Stt := x.cs.foldl (t2k c) x
def t3h (c : Cf) (x : Stt) (h : Hl.Hr) : Stt := if hoO c x h.a = 3 ∧ (Cs.rsO c.i x.now h.a x.cs).2 = 0 then { x with cs := (Cs.rsO c.i x.now h.a x.cs).1 } else x
def t3 (c : Cf) (x : Stt) : Stt := x.hs.foldl (t3h c) x
def t4 (c : Cf) (x : Stt) : Stt := { x with kn := x.kn.filter fun k => Hl.isAt x.hs k.a || decide (x.now - Sn.tk k.ss < c.b) }
def t5q (s : Stt × List Pb.Pk) (a : Int) : Stt × List Pb.Pk :=
  if Pb.putC s.1.pb ⟨a, a % 65536, (s.1.seq + 1) % 65536, s.1.now, 0⟩ = 0 then ({ s.1 with seq := (s.1.seq + 1) % 65536, pb := Pb.putR s.1.pb ⟨a, a % 65536, (s.1.seq + 1) % 65536, s.1.now, 0⟩ }, s.2 ++ [Pb.pkO ⟨a, a % 65536, (s.1.seq + 1) % 65536, s.1.now, 0⟩])
  else ({ s.1 with seq := (s.1.seq + 1) % 65536 }, s.2)
def t5 (c : Cf) (x : Stt) : Stt × List Pb.Pk :=
  let L := Pb.ltO c.f c.g x.now c.e x.pb
  let P := Sw.planO x.sw c.d x.now (min (c.e - (L.2.length : Int)) (16 - (L.1.length : Int)))
  P.2.foldl t5q ({ x with pb := L.1, sw := P.1 }, L.2.map Pb.pkO)
def tickL (c : Cf) (x : Stt) : Stt × List Pb.Pk := t5 c (t4 c (t3 c (t2 c (t1 c x))))
def upd (x y : Stt) (q : Int) : Stt × List Pb.Pk × Int := if q = 0 then (y, [], 0) else (x, [], q)
def sgL (x : Stt) (s : Sn.Sg) : Sn.Sg := if s.f = 0 then ⟨0, 0, 0, 0, 0, 0, 0, x.now⟩ else ⟨s.f, s.m0, s.m1, s.m2, s.m3, s.m4, s.m5, x.now⟩
def sawL (x : Stt) (a : Int) (s : Sn.Sg) : Stt × List Pb.Pk × Int :=
  if s.f = 0 then
    (if (x.pb.filter fun p => p.a != a).length = x.pb.length then (x, [], 7)
     else upd x (stpO { x with pb := x.pb.filter (fun p => p.a != a), kn := Sn.putR x.kn a (sgL x s) } a) (Sn.putC x.kn a (sgL x s)))
  else upd x (stpO { x with kn := Sn.putR x.kn a (sgL x s) } a) (Sn.putC x.kn a (sgL x s))
def doL (c : Cf) (x : Stt) (e : Evt) : Stt × List Pb.Pk × Int :=
  if e.k = 0 then ((tickL c x).1, (tickL c x).2, 0)
  else if e.k = 1 then upd x { x with hs := Hl.putR x.hs e.h } (Hl.putC x.hs e.h)
  else if e.k = 2 then upd x (stpO { x with hs := Hl.takeR x.hs e.h.a } e.h.a) (Hl.takeC x.hs e.h.a)
  else if e.k = 3 then upd x { x with sw := Sw.putR x.sw e.b e.n x.now } (Sw.putC x.sw e.b e.n)
  else if e.k = 4 then upd x { x with sw := Sw.takeR x.sw e.b e.n } (Sw.takeC x.sw e.b e.n)
  else if e.k = 5 then sawL x e.h.a e.s
  else if e.k = 6 then upd x { x with cs := (Cs.stO (fun g => g == 0) 1 x.now e.h.a x.cs).1 } (Cs.stO (fun g => g == 0) 1 x.now e.h.a x.cs).2
  else if e.k = 7 then upd x { x with cs := (Cs.stO (fun g => g == 0) 2 x.now e.h.a x.cs).1 } (Cs.stO (fun g => g == 0) 2 x.now e.h.a x.cs).2
  else (x, [], 12)
end Go.Proofs.YtilneflfeegnfaaGreat
namespace Go.Proofs.YtilneflfeegnfaaGreat
open Go.RowKit
def ePk : El Pb.Pk := ⟨Pb.pkl, 11, by decide, fun _ => rfl, by
  intro x u hu
  simp [Pb.pkl] at hu
  rcases hu with rfl | rfl | rfl | rfl | rfl | rfl | rfl | rfl | rfl | rfl | rfl <;> rfl⟩
end Go.Proofs.YtilneflfeegnfaaGreat
namespace Go.Proofs.YtilneflfeegnfaaGreat
open Go.RowKit
structure Ob (b : Nat) (w w' : World) : Prop where
  bel : Below b w w'
  oth : ∀ k, k ≠ b → k < w.heap.size → w'.heap[k]? = w.heap[k]?
theorem Ob.refl (b : Nat) (w : World) : Ob b w w := ⟨Below.refl _ _, fun _ _ _ => rfl⟩
theorem Ob.size {b : Nat} {w w' : World} (h : Ob b w w') : w.heap.size ≤ w'.heap.size := h.bel.size
theorem Ob.trans {b : Nat} {x y z : World} (h : Ob b x y) (k : Ob b y z) : Ob b x z := ⟨h.bel.trans k.bel, fun j h1 h2 => (k.oth j h1 (Nat.lt_of_lt_of_le h2 h.size)).trans (h.oth j h1 h2)⟩
theorem Ob.of {b : Nat} {w w' : World} (h : Below w.heap.size w w') (hb : b < w.heap.size) : Ob b w w' := ⟨h.mono (Nat.le_of_lt hb), fun k _ hk => h.block k hk⟩
theorem Ob.put {b : Nat} {w w' : World} (hb : ∀ B, B ≤ b → Below B w w') (hk : ∀ k, k ≠ b → w'.heap[k]? = w.heap[k]?) : Ob b w w' := ⟨hb _ (Nat.le_refl _), fun k h _ => hk k h⟩
theorem Ob.under {b B : Nat} {w w' : World} (h : Ob b w w') (hb : B ≤ b) : Below B w w' := h.bel.mono hb
theorem cell_ob {b : Nat} {w w' : World} (h : Ob b w w') {a : Addr} (ha : a.block ≠ b) (hl : a.block < w.heap.size) : w'.cell? a = w.cell? a := by
  unfold World.cell?
  rw [h.oth _ ha hl]
theorem frozen_ob {b : Nat} {w w' : World} (h : Ob b w w') {a : Addr} (ha : a.block ≠ b) (hl : a.block < w.heap.size) : w'.frozen? a = w.frozen? a := by
  unfold World.frozen?
  rw [h.oth _ ha hl]
theorem rw_ob {α : Type} {E : El α} {w w' : World} {b : Nat} {A : Option Addr} {xs : List α} (hE : Mk E) (h : Rw E w A xs) (hb : Bs w b) (k : Ob b w w') : Rw E w' A xs := by
  refine ⟨h.1, fun q x hq => ?_⟩
  obtain ⟨y, hy, hc⟩ := h.2 q x hq
  refine ⟨y, hy, fun j v hv => ?_⟩
  have hne : y.block ≠ b := by
    intro e
    obtain ⟨i, u, hu, hn⟩ := hE x
    exact hn (hb _ u (by rw [add_block]; exact e) (hc i u hu))
  have hlt := World.block_lt_of_cell? _ _ (hc j v hv)
  rw [add_block] at hlt
  rw [cell_ob k (by rw [add_block]; exact hne) (by rw [add_block]; exact hlt)]
  exact hc j v hv
theorem hs_ob {w w' : World} {b : Nat} {A : Option Addr} {xs : List Hl.Hr} (h : Hl.Hs w A xs) (hb : Bs w b) (k : Ob b w w') : Hl.Hs w' A xs := by
  refine ⟨h.1, fun q x hq => ?_⟩
  obtain ⟨ho, y, hy, hc⟩ := h.2 q x hq
  refine ⟨ho, y, hy, fun j v hv => ?_⟩
  have hne : y.block ≠ b := fun e => u32_no x.a (hb _ (.int .u32 x.a) (by rw [add_block]; exact e) (hc 0 _ rfl))
  have hlt := World.block_lt_of_cell? _ _ (hc j v hv)
  rw [add_block] at hlt
  rw [cell_ob k (by rw [add_block]; exact hne) (by rw [add_block]; exact hlt)]
  exact hc j v hv
theorem ks_ob {w w' : World} {b : Nat} {A : Option Addr} {ps : List Sn.Kp} (h : Sn.Ks w A ps) (hb : Bs w b) (k : Ob b w w') : Sn.Ks w' A ps := by
  obtain ⟨xs, e, h1, h2⟩ := h
  exact ⟨xs, e, rw_ob mk_K h1 hb k, fun x hx => ⟨(h2 x hx).a0, (h2 x hx).a1, rw_ob mk_S (h2 x hx).lies hb k, (h2 x hx).le, (h2 x hx).max⟩⟩
theorem Lie.ob {w w' : World} {b : Nat} {x : Stt} {r : Rws} (h : Lie w x r) (hb : Bs w b) (k : Ob b w w') : Lie w' x r :=
  ⟨hs_ob h.h hb k, h.hc, rw_ob mk_W h.s hb k, h.sc, ks_ob h.k hb k, h.kc, rw_ob mk_P h.p hb k, h.pc, rw_ob mk_A h.c hb k, h.cc⟩
theorem cm_ob {w w' : World} {b d : Nat} {c : Cf} (h : Cm w d c) (k : Ob b w w') (hne : d ≠ b) : Cm w' d c :=
  ⟨Nat.lt_of_lt_of_le h.lt k.size, by rw [cell_ob k (a := ⟨d, 0, none⟩) hne h.lt]; exact h.c0, by rw [cell_ob k (a := ⟨d, 1, none⟩) hne h.lt]; exact h.c1, by rw [cell_ob k (a := ⟨d, 2, none⟩) hne h.lt]; exact h.c2, by rw [cell_ob k (a := ⟨d, 3, none⟩) hne h.lt]; exact h.c3, by rw [cell_ob k (a := ⟨d, 4, none⟩) hne h.lt]; exact h.c4, by rw [cell_ob k (a := ⟨d, 5, none⟩) hne h.lt]; exact h.c5, by rw [cell_ob k (a := ⟨d, 6, none⟩) hne h.lt]; exact h.c6, by rw [cell_ob k (a := ⟨d, 7, none⟩) hne h.lt]; exact h.c7, by rw [cell_ob k (a := ⟨d, 8, none⟩) hne h.lt]; exact h.c8⟩
theorem cx_ob {w w' : World} {b d : Nat} {u : Value} {L : List Value} (h : Cx w d (u :: L)) (k : Ob b w w') (hne : d ≠ b) : Cx w' d (u :: L) := by
  have hl := h.lt
  exact ⟨fun j v hv => by rw [cell_ob k (a := ⟨d, 0 + j, none⟩) hne hl]; exact h.1 j v hv, fun j hj => ⟨by rw [cell_ob k (a := ⟨d, 0 + j, none⟩) hne hl]; exact (h.2 j hj).1, by rw [frozen_ob k (a := ⟨d, 0 + j, none⟩) hne hl]; exact (h.2 j hj).2⟩⟩
theorem Sb.ob {w w' : World} {b d : Nat} {L : List Value} (h : Sb w d L) (k : Ob b w w') (hne : d ≠ b) : Sb w' d L := by
  have hl := h.lt
  cases L with
  | nil => have := h.len; simp at this
  | cons u L => exact ⟨cx_ob h.cx k hne, h.len, fun a v ha hv => h.bs a v ha (by rw [← cell_ob k (by rw [ha]; exact hne) (by rw [ha]; exact hl)]; exact hv)⟩
def PP (w : World) (b : Nat) (y : Stt) (e0 e : Ending) (w' : World) : Prop := e = e0 ∧ (∃ r, Sb w' b (stl y r) ∧ Lie w' y r) ∧ Ob b w w'
def rF {α : Type} (R : World → Option Addr → List α → Prop) (xs : List α) : Value → World → Prop := fun v W => ∃ A c, v = .slice A xs.length c ∧ xs.length ≤ c ∧ R W A xs
def tF {α : Type} (R : World → Option Addr → List α → Prop) (xs : List α) (q : Int) : Value → World → Prop := fun v W => ∃ A c, v = .tuple #[.slice A xs.length c, .int .i64 q] ∧ xs.length ≤ c ∧ R W A xs
def Hld {α : Type} (R : World → Option Addr → List α → Prop) : Prop := ∀ (w w' : World) (A : Option Addr) (xs : List α), R w A xs → Below w.heap.size w w' → R w' A xs
theorem stable_rF {α : Type} {R : World → Option Addr → List α → Prop} (h : Hld R) (xs : List α) : Stable (rF R xs) := fun _ w w' ⟨A, c, hv, hc, hr⟩ hb => ⟨A, c, hv, hc, h w w' A xs hr hb⟩
theorem stable_tF {α : Type} {R : World → Option Addr → List α → Prop} (h : Hld R) (xs : List α) (q : Int) : Stable (tF R xs q) := fun _ w w' ⟨A, c, hv, hc, hr⟩ hb => ⟨A, c, hv, hc, h w w' A xs hr hb⟩
def Rh := Hl.Hs
def Rs := fun w A xs => Rw Sw.eW w A xs
def Rk := Sn.Ks
def Rp := fun w A xs => Rw Pb.eP w A xs
def Rc := fun w A xs => Rw Cs.eA w A xs
theorem hld_h : Hld Rh := fun _ _ _ _ h hb => Hl.Hs.below h hb
theorem hld_s : Hld Rs := fun _ _ _ _ h hb => Rw.below h hb
theorem hld_k : Hld Rk := fun _ _ _ _ h hb => Sn.Ks.below h hb
theorem hld_p : Hld Rp := fun _ _ _ _ h hb => Rw.below h hb
theorem hld_c : Hld Rc := fun _ _ _ _ h hb => Rw.below h hb
def TP {α : Type} (R : World → Option Addr → List α → Prop) (w : World) (ys : List α) (q : Int) (e : Ending) (w' : World) : Prop := ∃ A cap, e = .returned (.tuple #[.slice A ys.length cap, .int .i64 q]) ∧ ys.length ≤ cap ∧ R w' A ys ∧ Below w.heap.size w w'
theorem calls_tF {α : Type} {R : World → Option Addr → List α → Prop} {f : FuncId} {args : Array Value} {W : World} {ys : List α} {q : Int} {Φ : List (Value → World → Prop)} {i : Nat} (h : Calls Tryz.prog f args W (TP R W ys q)) (hi : fAt Φ i = tF R ys q) :
    Calls Tryz.prog f args W fun e w' => ∃ v, e = .returned v ∧ Below W.heap.size W w' ∧ fAt Φ i v w' := by
  rw [hi]
  exact h.mono fun e w' ⟨A, cap, he, hc, hr, hb⟩ => ⟨_, he, hb, A, cap, rfl, hc, hr⟩
theorem tp_c {f : FuncId} {args : Array Value} {W : World} {ys : List Cs.Ca} {q : Int} (h : Calls Tryz.prog f args W (Cs.OutPost W ys q)) : Calls Tryz.prog f args W (TP Rc W ys q) := h.mono fun _ _ ⟨A, cap, he, hc, hr, hb⟩ => ⟨A, cap, he, hc, hr, hb⟩
theorem tp_s {f : FuncId} {args : Array Value} {W : World} {ys : List Sw.Sw} {q : Int} (h : Calls Tryz.prog f args W (Sw.OutPost W ys q)) : Calls Tryz.prog f args W (TP Rs W ys q) := h.mono fun _ _ ⟨A, cap, he, hc, _, hr, hb⟩ => ⟨A, cap, he, hc, hr, hb⟩
theorem tp_h {f : FuncId} {args : Array Value} {W : World} {ys : List Hl.Hr} {q : Int} (h : Calls Tryz.prog f args W (Hl.OutPost W ys q)) : Calls Tryz.prog f args W (TP Rh W ys q) := h.mono fun _ _ ⟨A, cap, he, hc, _, hr, hb⟩ => ⟨A, cap, he, hc, hr, hb⟩
theorem tp_k {f : FuncId} {args : Array Value} {W : World} {ys : List Sn.Kp} {q : Int} (h : Calls Tryz.prog f args W (Sn.OutPost W ys q)) : Calls Tryz.prog f args W (TP Rk W ys q) := h.mono fun _ _ ⟨v, he, hb, A, cap, hv, hc, _, hr⟩ => ⟨A, cap, by rw [he, hv], hc, hr, hb⟩
end Go.Proofs.YtilneflfeegnfaaGreat
namespace Go.Proofs.YtilneflfeegnfaaGreat
open Go.RowKit
def RP {α : Type} (R : World → Option Addr → List α → Prop) (w : World) (ys : List α) (e : Ending) (w' : World) : Prop := ∃ A cap, e = .returned (.slice A ys.length cap) ∧ ys.length ≤ cap ∧ R w' A ys ∧ Below w.heap.size w w'
theorem own_rp {α : Type} {E : El α} {T : TypeId} {w : World} {xs : List α} {e : Ending} {w' : World} (h : OwnPost E T w xs e w') (hn : xs.length ≤ 1000000) : RP (fun w A xs => Rw E w A xs) w xs e w' := by
  obtain ⟨v, he, ho, hb⟩ := h
  obtain ⟨A, cap, rfl, hc, -, -, hr, -⟩ := own_rw (E := E) ho (by omega)
  exact ⟨A, cap, he, hc, hr, hb⟩
theorem cloneC (A : Option Addr) (xs : List Cs.Ca) (c : Nat) (w : World) (h : Rc w A xs) (hn : xs.length ≤ 1000) (hc : xs.length ≤ c) : Calls Tryz.prog 55 #[.slice A xs.length c] w (RP Rc w xs) := (Cs.clone_any A xs c w h (by omega) hc).mono fun _ _ k => own_rp k (by omega)
theorem cloneW (A : Option Addr) (xs : List Sw.Sw) (c : Nat) (w : World) (h : Rs w A xs) (hn : xs.length ≤ 1000) (hc : xs.length ≤ c) : Calls Tryz.prog 51 #[.slice A xs.length c] w (RP Rs w xs) := (Sw.clone_any A xs c w h (by omega) hc).mono fun _ _ k => own_rp k (by omega)
set_option maxRecDepth 100000 in
set_option maxHeartbeats 2000000 in
theorem cloneP (A : Option Addr) (xs : List Pb.Pr) (c : Nat) (w : World) (h : Rp w A xs) (hn : xs.length ≤ 1000) (hc : xs.length ≤ c) : Calls Tryz.prog 54 #[.slice A xs.length c] w (RP Rp w xs) := by
  have HN := fun W => Lib.run_eql_slice_nil (P := Tryz.prog) W 32 97 A xs.length c 0 0 Tryz.underlying32
  rcases A with _ | y
  · obtain rfl : xs = [] := rw_none h
    clear h hn
    simp only [List.length_nil, Option.isNone_none] at HN ⊢
    go_enter Tryz.func54, Tryz.ntmps54
    go_wp2_with fail
    go_ret
    exact ⟨none, 0, rfl, by simp, Rw.nil _ _, Below.refl _ _⟩
  · have R := Lib.hid (hld_p _ _ _ _ (show Rp w (some y) xs from h) ((Below.refl _ w).alloc (Nat.le_refl _) (.cells #[] 97)))
    have HO := Lib.hid (World.ownsRow_made (e := 97) (size := 5) (base := w.heap.size) w #[] 0 (Nat.le_refl _) (by unfold maxLen; omega) rfl)
    have HB := Lib.hid (show Below w.heap.size w (w.alloc (.cells #[] 97)) from (Below.refl _ w).alloc (Nat.le_refl _) _)
    obtain ⟨L, hL⟩ : ∃ L, xs.length = L := ⟨_, rfl⟩
    have HL := Lib.hid hL
    have HOK := Lib.hid (show True from trivial)
    rw [hL] at hn hc HN
    unfold RP
    rw [hL]
    clear hL h
    go_enter Tryz.func54, Tryz.ntmps54
    go_wp2_with (at_builtin; refine Pb.wpList_append_rw Pb.tP _ rfl (.tmp 5) (.tmp 6) rfl w.heap.size _ 0 [] (by simp [Act.eval, Act.put]) HO.out (some y) L c xs (by simp [Act.eval, Act.put]) HL.out.symm R.out (by omega) (by simp) ?_)
    intro v2 w2 ho2 hg2
    have O2 := Lib.hid ho2
    have B2 := Lib.hid (HB.out.grown hg2 (by simp) (fun j hj => (HO.out.lt j hj).1))
    clear ho2 hg2
    go_wp2_with fail
    go_ret
    have O3 := O2.out
    obtain ⟨A3, c3, rfl, hc3, -, -, hr3, -⟩ := own_rw (E := Pb.eP) O3 (by have := HL.out; omega)
    exact ⟨A3, c3, by rw [HL.out]; rfl, by have := HL.out; omega, hr3, B2.out⟩
set_option maxRecDepth 100000 in
set_option maxHeartbeats 2000000 in
theorem cloneH (A : Option Addr) (xs : List Hl.Hr) (c : Nat) (w : World) (h : Rh w A xs) (hn : xs.length ≤ 1000) (hc : xs.length ≤ c) : Calls Tryz.prog 50 #[.slice A xs.length c] w (RP Rh w xs) := by
  have HN := fun W => Lib.run_eql_slice_nil (P := Tryz.prog) W 29 44 A xs.length c 0 0 Tryz.underlying29
  rcases A with _ | y
  · obtain rfl : xs = [] := by
      rcases Nat.eq_zero_or_pos xs.length with h0 | h0
      · exact List.eq_nil_of_length_eq_zero h0
      · obtain ⟨x, hx⟩ := Hl.hs_some h h0
        cases hx
    clear h hn
    simp only [List.length_nil, Option.isNone_none] at HN ⊢
    go_enter Tryz.func50, Tryz.ntmps50
    go_wp2_with fail
    go_ret
    exact ⟨none, 0, rfl, by simp, Hl.Hs.nil _ _, Below.refl _ _⟩
  · have R := Lib.hid (hld_h _ _ _ _ (show Rh w (some y) xs from h) ((Below.refl _ w).alloc (Nat.le_refl _) (.cells #[] 44)))
    have HO := Lib.hid (World.ownsRow_made (e := 44) (size := 8) (base := w.heap.size) w #[] 0 (Nat.le_refl _) (by unfold maxLen; omega) rfl)
    have HB := Lib.hid (show Below w.heap.size w (w.alloc (.cells #[] 44)) from (Below.refl _ w).alloc (Nat.le_refl _) _)
    obtain ⟨L, hL⟩ : ∃ L, xs.length = L := ⟨_, rfl⟩
    have HL := Lib.hid hL
    have HOK := Lib.hid (show ∀ x ∈ xs, x.ok from fun x hx => by
      obtain ⟨q, hq, rfl⟩ := List.mem_iff_getElem.1 hx
      exact (h.2 q _ (List.getElem?_eq_getElem hq)).1)
    rw [hL] at hn hc HN
    unfold RP
    rw [hL]
    clear hL h
    go_enter Tryz.func50, Tryz.ntmps50
    go_wp2_with (at_builtin; refine Hl.wpList_append_hs _ rfl (.tmp 5) (.tmp 6) rfl w.heap.size _ 0 [] (by simp [Act.eval, Act.put]) HO.out (some y) L c xs (by simp [Act.eval, Act.put]) HL.out.symm R.out (by omega) (by simp) ?_)
    intro v2 w2 ho2 hg2
    have O2 := Lib.hid ho2
    have B2 := Lib.hid (HB.out.grown hg2 (by simp) (fun j hj => (HO.out.lt j hj).1))
    clear ho2 hg2
    go_wp2_with fail
    go_ret
    have O3 := O2.out
    obtain ⟨A3, c3, rfl, hc3, -, -, hr3, -⟩ := Hl.own_hs O3 HOK.out (by have := HL.out; omega)
    exact ⟨A3, c3, by rw [HL.out]; rfl, by have := HL.out; omega, hr3, B2.out⟩
set_option maxRecDepth 100000 in
set_option maxHeartbeats 2000000 in
theorem rep_h (x : Stt) (r : Rws) (A : Option Addr) (ys : List Hl.Hr) (cap : Nat) (er : Int) (b : Nat) (w : World) (H : Sb w b (stl x r)) (h : Lie w x r) (hr : Rh w A ys) (hc : ys.length ≤ cap) :
    Calls Tryz.prog 62 #[.pointer (some ⟨b, 2, none⟩), .slice A ys.length cap, .int .i64 er] w (PP w b (if er = 0 then { x with hs := ys } else x) (.returned (.int .i64 er))) := by
  obtain ⟨n, q, hs, sw, kn, pb, cs⟩ := x
  obtain ⟨A1, c1, A2, c2, A3, c3, A4, c4, A5, c5⟩ := r
  simp only [stl] at H
  have S0 := Lib.hid H
  have R0 := Lib.hid h
  have RR := Lib.hid hr
  clear H h hr
  by_cases h0 : er = 0
  · subst h0
    rw [if_pos rfl]
    go_enter Tryz.func62, Tryz.ntmps62
    go_wp2_with (refine at_fieldSt 29 _ _ b [.int .i64 n, .int .i64 q] (.slice A1 hs.length c1) (.slice A ys.length cap) [.slice A2 sw.length c2, .slice A3 kn.length c3, .slice A4 pb.length c4, .slice A5 cs.length c5] S0.out sizeRh rfl (ns_sl _ _ _) rfl rfl rfl rfl rfl ?_)
    intro w3 S3 hb3 hk3
    have R3 := Lib.hid (show Lie w3 ⟨n, q, ys, sw, kn, pb, cs⟩ ⟨A, cap, A2, c2, A3, c3, A4, c4, A5, c5⟩ from
      { R0.out.apart S0.out.bs hk3.out with h := hs_apart RR.out S0.out.bs hk3.out, hc := hc })
    go_wp2_with fail
    go_ret
    exact ⟨rfl, ⟨⟨A, cap, A2, c2, A3, c3, A4, c4, A5, c5⟩, S3.out, R3.out⟩, Ob.put hb3.out hk3.out⟩
  · rw [if_neg h0]
    go_enter Tryz.func62, Tryz.ntmps62
    go_wp2_with fail
    go_ret
    exact ⟨rfl, ⟨⟨A1, c1, A2, c2, A3, c3, A4, c4, A5, c5⟩, S0.out, R0.out⟩, Ob.refl _ _⟩
set_option maxRecDepth 100000 in
set_option maxHeartbeats 2000000 in
theorem rep_s (x : Stt) (r : Rws) (A : Option Addr) (ys : List Sw.Sw) (cap : Nat) (er : Int) (b : Nat) (w : World) (H : Sb w b (stl x r)) (h : Lie w x r) (hr : Rs w A ys) (hc : ys.length ≤ cap) :
    Calls Tryz.prog 64 #[.pointer (some ⟨b, 3, none⟩), .slice A ys.length cap, .int .i64 er] w (PP w b (if er = 0 then { x with sw := ys } else x) (.returned (.int .i64 er))) := by
  obtain ⟨n, q, hs, sw, kn, pb, cs⟩ := x
  obtain ⟨A1, c1, A2, c2, A3, c3, A4, c4, A5, c5⟩ := r
  simp only [stl] at H
  have S0 := Lib.hid H
  have R0 := Lib.hid h
  have RR := Lib.hid hr
  clear H h hr
  by_cases h0 : er = 0
  · subst h0
    rw [if_pos rfl]
    go_enter Tryz.func64, Tryz.ntmps64
    go_wp2_with (refine at_fieldSt 30 _ _ b [.int .i64 n, .int .i64 q, .slice A1 hs.length c1] (.slice A2 sw.length c2) (.slice A ys.length cap) [.slice A3 kn.length c3, .slice A4 pb.length c4, .slice A5 cs.length c5] S0.out sizeRs rfl (ns_sl _ _ _) rfl rfl rfl rfl rfl ?_)
    intro w3 S3 hb3 hk3
    have R3 := Lib.hid (show Lie w3 ⟨n, q, hs, ys, kn, pb, cs⟩ ⟨A1, c1, A, cap, A3, c3, A4, c4, A5, c5⟩ from
      { R0.out.apart S0.out.bs hk3.out with s := rw_apart mk_W RR.out S0.out.bs hk3.out, sc := hc })
    go_wp2_with fail
    go_ret
    exact ⟨rfl, ⟨⟨A1, c1, A, cap, A3, c3, A4, c4, A5, c5⟩, S3.out, R3.out⟩, Ob.put hb3.out hk3.out⟩
  · rw [if_neg h0]
    go_enter Tryz.func64, Tryz.ntmps64
    go_wp2_with fail
    go_ret
    exact ⟨rfl, ⟨⟨A1, c1, A2, c2, A3, c3, A4, c4, A5, c5⟩, S0.out, R0.out⟩, Ob.refl _ _⟩
set_option maxRecDepth 100000 in
set_option maxHeartbeats 2000000 in
theorem rep_k (x : Stt) (r : Rws) (A : Option Addr) (ys : List Sn.Kp) (cap : Nat) (er : Int) (b : Nat) (w : World) (H : Sb w b (stl x r)) (h : Lie w x r) (hr : Rk w A ys) (hc : ys.length ≤ cap) :
    Calls Tryz.prog 107 #[.pointer (some ⟨b, 4, none⟩), .slice A ys.length cap, .int .i64 er] w (PP w b (if er = 0 then { x with kn := ys } else x) (.returned (.int .i64 er))) := by
  obtain ⟨n, q, hs, sw, kn, pb, cs⟩ := x
  obtain ⟨A1, c1, A2, c2, A3, c3, A4, c4, A5, c5⟩ := r
  simp only [stl] at H
  have S0 := Lib.hid H
  have R0 := Lib.hid h
  have RR := Lib.hid hr
  clear H h hr
  by_cases h0 : er = 0
  · subst h0
    rw [if_pos rfl]
    go_enter Tryz.func107, Tryz.ntmps107
    go_wp2_with (refine at_fieldSt 31 _ _ b [.int .i64 n, .int .i64 q, .slice A1 hs.length c1, .slice A2 sw.length c2] (.slice A3 kn.length c3) (.slice A ys.length cap) [.slice A4 pb.length c4, .slice A5 cs.length c5] S0.out sizeRk rfl (ns_sl _ _ _) rfl rfl rfl rfl rfl ?_)
    intro w3 S3 hb3 hk3
    have R3 := Lib.hid (show Lie w3 ⟨n, q, hs, sw, ys, pb, cs⟩ ⟨A1, c1, A2, c2, A, cap, A4, c4, A5, c5⟩ from
      { R0.out.apart S0.out.bs hk3.out with k := ks_apart RR.out S0.out.bs hk3.out, kc := hc })
    go_wp2_with fail
    go_ret
    exact ⟨rfl, ⟨⟨A1, c1, A2, c2, A, cap, A4, c4, A5, c5⟩, S3.out, R3.out⟩, Ob.put hb3.out hk3.out⟩
  · rw [if_neg h0]
    go_enter Tryz.func107, Tryz.ntmps107
    go_wp2_with fail
    go_ret
    exact ⟨rfl, ⟨⟨A1, c1, A2, c2, A3, c3, A4, c4, A5, c5⟩, S0.out, R0.out⟩, Ob.refl _ _⟩
set_option maxRecDepth 100000 in
set_option maxHeartbeats 2000000 in
theorem rep_c (x : Stt) (r : Rws) (A : Option Addr) (ys : List Cs.Ca) (cap : Nat) (er : Int) (b : Nat) (w : World) (H : Sb w b (stl x r)) (h : Lie w x r) (hr : Rc w A ys) (hc : ys.length ≤ cap) :
    Calls Tryz.prog 66 #[.pointer (some ⟨b, 6, none⟩), .slice A ys.length cap, .int .i64 er] w (PP w b (if er = 0 then { x with cs := ys } else x) (.returned (.int .i64 er))) := by
  obtain ⟨n, q, hs, sw, kn, pb, cs⟩ := x
  obtain ⟨A1, c1, A2, c2, A3, c3, A4, c4, A5, c5⟩ := r
  simp only [stl] at H
  have S0 := Lib.hid H
  have R0 := Lib.hid h
  have RR := Lib.hid hr
  clear H h hr
  by_cases h0 : er = 0
  · subst h0
    rw [if_pos rfl]
    go_enter Tryz.func66, Tryz.ntmps66
    go_wp2_with (refine at_fieldSt 33 _ _ b [.int .i64 n, .int .i64 q, .slice A1 hs.length c1, .slice A2 sw.length c2, .slice A3 kn.length c3, .slice A4 pb.length c4] (.slice A5 cs.length c5) (.slice A ys.length cap) [] S0.out sizeRc rfl (ns_sl _ _ _) rfl rfl rfl rfl rfl ?_)
    intro w3 S3 hb3 hk3
    have R3 := Lib.hid (show Lie w3 ⟨n, q, hs, sw, kn, pb, ys⟩ ⟨A1, c1, A2, c2, A3, c3, A4, c4, A, cap⟩ from
      { R0.out.apart S0.out.bs hk3.out with c := rw_apart mk_A RR.out S0.out.bs hk3.out, cc := hc })
    go_wp2_with fail
    go_ret
    exact ⟨rfl, ⟨⟨A1, c1, A2, c2, A3, c3, A4, c4, A, cap⟩, S3.out, R3.out⟩, Ob.put hb3.out hk3.out⟩
  · rw [if_neg h0]
    go_enter Tryz.func66, Tryz.ntmps66
    go_wp2_with fail
    go_ret
    exact ⟨rfl, ⟨⟨A1, c1, A2, c2, A3, c3, A4, c4, A5, c5⟩, S0.out, R0.out⟩, Ob.refl _ _⟩
end Go.Proofs.YtilneflfeegnfaaGreat
namespace Go.Proofs.YtilneflfeegnfaaGreat
open Go.RowKit
set_option maxRecDepth 100000 in
set_option maxHeartbeats 4000000 in
theorem status_any (c : Cf) (x : Stt) (r : Rws) (a : Int) (w : World) (h : Lie w x r) (hz : Sz x) (hcd : c.c ≤ 1099511627776) (ha0 : 0 ≤ a) (ha1 : a < 4294967296) :
    Calls Tryz.prog 19 #[cfv c, stv x r, .int .u32 a] w fun e w' => e = .returned (.int .i64 (hoO c x a)) ∧ Below w.heap.size w w' := by
  have HG := Lib.hid fun W (hW : Lie W x r) => Hl.get_any a r.h x.hs r.hc W hW.h hW.hc ha0 ha1
  have HO := Lib.hid fun W (hW : Lie W x r) => Sn.of_any a r.k x.kn r.kc W hW.k hW.kc (fun y hy => Nat.le_trans (hz.k.2 y hy) (by omega)) ha0 ha1
  have HSL := Sn.sg_le (n := 1000) (fun y hy => hz.k.2 y hy) a
  have R := Lib.hid h
  have HQ := Lib.hid (show hoO c x a = _ from by unfold hoO; rfl)
  obtain ⟨n, q, hs, sw, kn, pb, cs⟩ := x
  obtain ⟨A1, c1, A2, c2, A3, c3, A4, c4, A5, c5⟩ := r
  have HB0 := Lib.hid (show Below w.heap.size w ((w.alloc (Cfx c)).alloc (Stx ⟨n, q, hs, sw, kn, pb, cs⟩ ⟨A1, c1, A2, c2, A3, c3, A4, c4, A5, c5⟩)) from ((Below.refl _ w).alloc (Nat.le_refl _) _).alloc (by simp) _)
  have HC0 := Lib.hid ((cm_box w c).below ((Below.refl _ (w.alloc (Cfx c))).alloc (Nat.le_refl _) (Stx ⟨n, q, hs, sw, kn, pb, cs⟩ ⟨A1, c1, A2, c2, A3, c3, A4, c4, A5, c5⟩)))
  have HS0 := Lib.hid (st_box (w.alloc (Cfx c)) ⟨n, q, hs, sw, kn, pb, cs⟩ ⟨A1, c1, A2, c2, A3, c3, A4, c4, A5, c5⟩)
  have R0 := Lib.hid (R.out.below HB0.out)
  have e1 : (w.alloc (Cfx c)).heap.size = w.heap.size + 1 := by simp
  rw [e1] at HS0
  simp only [stv]
  dsimp only at HG HO HQ HSL
  have HVV := Lib.hid fun (h : Option (Nat × Su.Mc)) (ss : List Sn.Sg) (hl : ss.length ≤ 1000000) A cap W (hm : Su.HP W h) (hr : Rw Sn.eS W A ss ∧ ss.length ≤ cap) => stOf_any c h A ss cap n W hm hr.1 hr.2 hl hcd
  obtain ⟨xa, xb, xc, xd, xe, xf, xg, xh, xi⟩ := c
  simp only [cfv, Cfx, Stx] at HB0 HC0 HS0 R0 HVV ⊢
  clear h hz e1
  go_enter Tryz.func19, Tryz.ntmps19
  go_wp2_with fail
  change Calls _ _ _ ((w.alloc (.cells #[.int .i64 xa, .int .i64 xb, .int .i64 xc, .int .i64 xd, .int .i64 xe, .int .i64 xf, .int .i64 xg, .int .i64 xh, .int .i64 xi] 27)).alloc (.cells #[.int .i64 n, .int .i64 q, .slice A1 hs.length c1, .slice A2 sw.length c2, .slice A3 kn.length c3, .slice A4 pb.length c4, .slice A5 cs.length c5] 35)) _
  generalize (w.alloc (.cells #[.int .i64 xa, .int .i64 xb, .int .i64 xc, .int .i64 xd, .int .i64 xe, .int .i64 xf, .int .i64 xg, .int .i64 xh, .int .i64 xi] 27)).alloc (.cells #[.int .i64 n, .int .i64 q, .slice A1 hs.length c1, .slice A2 sw.length c2, .slice A3 kn.length c3, .slice A4 pb.length c4, .slice A5 cs.length c5] 35) = W0 at *
  obtain ⟨ss, hss⟩ : ∃ ss, Sn.sg kn a = ss := ⟨_, rfl⟩
  rw [hss] at HQ HO HSL
  clear hss
  refine (HO.out _ R0.out).mono ?_
  rintro e w5 ⟨v, rfl, hb, A7, c7, rfl, h7a, -, h7b⟩
  have B5 := Lib.hid (bthen HB0.out hb HB0.out.size)
  have C5 := Lib.hid (HC0.out.below hb)
  have S5 := Lib.hid (HS0.out.below hb)
  have R5 := Lib.hid (R0.out.below hb)
  have R7a := Lib.hid h7a
  have h7 := Lib.hid h7b
  clear hb HO R0 HS0 HC0 HB0 R h7a h7b
  have k2 := S5.out.key 2 _ rfl
  go_wp2_with fail
  refine (HG.out _ R5.out).mono ?_
  rintro e w2 ⟨rfl, hb⟩
  clear k2
  have B2 := Lib.hid (bthen B5.out hb B5.out.size)
  have C2 := Lib.hid (C5.out.below hb)
  have S2 := Lib.hid (S5.out.below hb)
  have h72 := Lib.hid (h7.out.below hb)
  clear hb HG R5 S5 C5 B5 h7
  obtain ⟨y, hy⟩ : ∃ y, Hl.gt hs a = y := ⟨_, rfl⟩
  obtain ⟨b, hb'⟩ : ∃ b, Hl.isAt hs a = b := ⟨_, rfl⟩
  rw [hy, hb'] at HQ
  rw [hy, hb']
  obtain ⟨a', o, m0, m1, m2, m3, m4, m5⟩ := y
  simp only [Hl.hv]
  clear hy hb'
  have BX := Lib.hid (show Below w2.heap.size w2 (w2.alloc (.cells #[.int .u32 a', .string o, .int .u8 m0, .int .u8 m1, .int .u8 m2, .int .u8 m3, .int .u8 m4, .int .u8 m5] 44)) from (Below.refl _ w2).alloc (Nat.le_refl _) _)
  have H1 := Lib.hid (show Su.Hm (w2.alloc (.cells #[.int .u32 a', .string o, .int .u8 m0, .int .u8 m1, .int .u8 m2, .int .u8 m3, .int .u8 m4, .int .u8 m5] 44)) w2.heap.size ⟨m0, m1, m2, m3, m4, m5⟩ from ⟨by simp, by simp, by simp, by simp, by simp, by simp, by simp⟩)
  have B1 := Lib.hid (bthen B2.out BX.out B2.out.size)
  have C1 := C2.out.below BX.out
  have R7b := Lib.hid (h72.out.below BX.out)
  have k9 := (S2.out.below BX.out).key 0 _ rfl
  have k0 := C1.c0
  have k1 := C1.c1
  have k2 := C1.c2
  have k3 := C1.c3
  have k4 := C1.c4
  have k5 := C1.c5
  have k6 := C1.c6
  have k7 := C1.c7
  have k8 := C1.c8
  dsimp only at k0 k1 k2 k3 k4 k5 k6 k7 k8
  clear B2 C2 S2 BX C1 h72
  have HV0 := Lib.hid fun A cap W hm hr => HVV.out none ss (by omega) A cap W hm hr
  have HV1 := Lib.hid fun A cap W hm hr => HVV.out (some (w2.heap.size, ⟨m0, m1, m2, m3, m4, m5⟩)) ss (by omega) A cap W hm hr
  simp only [Su.hp, Option.map] at HV0 HV1
  cases b
  · have HV := HV0
    simp only [Bool.false_eq_true, if_false] at HQ
    clear HV0 HV1 HVV
    go_wp2_with fail
    change Calls _ _ _ (w2.alloc (.cells #[.int .u32 a', .string o, .int .u8 m0, .int .u8 m1, .int .u8 m2, .int .u8 m3, .int .u8 m4, .int .u8 m5] 44)) _
    generalize w2.alloc (.cells #[.int .u32 a', .string o, .int .u8 m0, .int .u8 m1, .int .u8 m2, .int .u8 m3, .int .u8 m4, .int .u8 m5] 44) = W1 at *
    refine (HV.out A7 c7 W1 trivial ⟨R7b.out, R7a.out⟩).mono ?_
    rintro e w4 ⟨rfl, hb⟩
    go_wp2_with fail
    go_ret
    exact ⟨ret_int HQ.out.symm, bthen B1.out hb B1.out.size⟩
  · have HV := HV1
    simp only [if_true, hmc] at HQ
    clear HV0 HV1 HVV
    go_wp2_with fail
    change Calls _ _ _ (w2.alloc (.cells #[.int .u32 a', .string o, .int .u8 m0, .int .u8 m1, .int .u8 m2, .int .u8 m3, .int .u8 m4, .int .u8 m5] 44)) _
    generalize w2.alloc (.cells #[.int .u32 a', .string o, .int .u8 m0, .int .u8 m1, .int .u8 m2, .int .u8 m3, .int .u8 m4, .int .u8 m5] 44) = W1 at *
    refine (HV.out A7 c7 W1 H1.out ⟨R7b.out, R7a.out⟩).mono ?_
    rintro e w4 ⟨rfl, hb⟩
    go_wp2_with fail
    go_ret
    exact ⟨ret_int HQ.out.symm, bthen B1.out hb B1.out.size⟩
end Go.Proofs.YtilneflfeegnfaaGreat
namespace Go.Proofs.YtilneflfeegnfaaGreat
open Go.RowKit
def tkS (x : Stt) (a : Int) : Stt := if Hl.takeC x.hs a = 0 then { x with hs := Hl.takeR x.hs a } else x
set_option maxRecDepth 100000 in
set_option maxHeartbeats 4000000 in
theorem cancelS_any (x : Stt) (r : Rws) (a : Int) (b : Nat) (w : World) (H : Sb w b (stl x r)) (h : Lie w x r) (hc9 : x.cs.length ≤ 900) :
    Calls Tryz.prog 105 #[.pointer (some ⟨b, 0, none⟩), .int .u32 a] w (PP w b (stpO x a) (.returned (.tuple #[]))) := by
  have HCA := Lib.hid fun W (hW : Lie W x r) => tp_c (Cs.cancel_any x.now a r.c x.cs r.cc W hW.c hW.cc hc9)
  have HQ := Lib.hid (show stpO x a = _ from by unfold stpO; rfl)
  have S0 := Lib.hid H
  have R0 := Lib.hid h
  obtain ⟨n, q, hs, sw, kn, pb, cs⟩ := x
  obtain ⟨A1, c1, A2, c2, A3, c3, A4, c4, A5, c5⟩ := r
  dsimp only at HCA HQ
  obtain ⟨⟨ys, er⟩, hE⟩ : ∃ E, Cs.stO (fun _ => true) 4 n a cs = E := ⟨_, rfl⟩
  rw [hE] at HCA HQ
  dsimp only at HCA HQ
  have K6 := Lib.hid fun W hS => (S0.out.below (w' := W) hS).cx.key 6 _ rfl
  have K0 := Lib.hid fun W hS => (S0.out.below (w' := W) hS).cx.key 0 _ rfl
  have REP := Lib.hid fun A cap W H h hr hc => rep_c ⟨n, q, hs, sw, kn, pb, cs⟩ ⟨A1, c1, A2, c2, A3, c3, A4, c4, A5, c5⟩ A ys cap er b W H h hr hc
  dsimp only at K6 K0
  clear H h hE hc9
  go_enter Tryz.func105, Tryz.ntmps105
  go_wp2_with fail
  refine wp_region_below [fx (.pointer (some ⟨b, 0, none⟩)), fx (.pointer (some ⟨b, 0, none⟩)), fx (.pointer (some ⟨b, 6, none⟩)), fx (.slice A5 cs.length c5), fx (.int .u32 a), fx (.pointer (some ⟨b, 0, none⟩)), fx (.pointer (some ⟨b, 0, none⟩)), fx (.pointer (some ⟨b, 0, none⟩)), fx (.int .i64 n), tF Rc ys er, tF Rc ys er, rF Rc ys, fx (.int .i64 er), rF Rc ys, fx (.int .i64 er)]
    (by kernel_rfl) (by kernel_rfl) (by kernel_rfl) ?_ ?_ ?_
  · simp only [List.mem_cons, List.not_mem_nil, or_false]
    rintro φ (rfl | rfl | rfl | rfl | rfl | rfl | rfl | rfl | rfl | rfl | rfl | rfl | rfl | rfl | rfl)
    all_goals first | exact stable_fx _ | exact stable_rF hld_h _ | exact stable_rF hld_s _ | exact stable_rF hld_k _ | exact stable_rF hld_p _ | exact stable_rF hld_c _ | exact stable_tF hld_h _ _ | exact stable_tF hld_s _ _ | exact stable_tF hld_k _ _ | exact stable_tF hld_p _ _ | exact stable_tF hld_c _ _
  · refine OgSteps.cons ?_ (OgSteps.cons ?_ (OgSteps.cons ?_ (OgSteps.cons ?_ (OgSteps.cons ?_ (OgSteps.cons ?_ (OgSteps.cons ?_ (OgSteps.cons ?_ (OgSteps.cons ?_ (OgSteps.cons ?_ (OgSteps.cons ?_ (OgSteps.cons ?_ (OgSteps.cons ?_ (OgSteps.cons ?_ (OgSteps.cons ?_ (OgSteps.nil)))))))))))))))
    · refine OgStep.pure ?_ ?_
      · rfl
      intro u W hS hp
      refine ⟨.pointer (some ⟨b, 0, none⟩), ?_, rfl⟩
      simp only [ogMk, Act.put, List.setIfInBounds_toArray, List.set_cons_zero, List.set_cons_succ, Nat.zero_add, Nat.reduceAdd, List.take_succ_cons, List.take_zero, List.drop_succ_cons, List.drop_zero]
      simp [execOp, Act.eval, go_sem]
    · refine OgStep.pure ?_ ?_
      · rfl
      intro u W hS hp
      have h0 : u 0 = .pointer (some ⟨b, 0, none⟩) := hp ⟨0, .data⟩ (by simp) rfl
      refine ⟨.pointer (some ⟨b, 0, none⟩), ?_, rfl⟩
      simp only [ogMk, Act.put, List.setIfInBounds_toArray, List.set_cons_zero, List.set_cons_succ, Nat.zero_add, Nat.reduceAdd, List.take_succ_cons, List.take_zero, List.drop_succ_cons, List.drop_zero]
      simp [execOp, Act.eval, go_sem, h0]
    · refine OgStep.pure ?_ ?_
      · rfl
      intro u W hS hp
      have h1 : u 1 = .pointer (some ⟨b, 0, none⟩) := hp ⟨1, .data⟩ (by simp) rfl
      refine ⟨.pointer (some ⟨b, 6, none⟩), ?_, rfl⟩
      simp only [ogMk, Act.put, List.setIfInBounds_toArray, List.set_cons_zero, List.set_cons_succ, Nat.zero_add, Nat.reduceAdd, List.take_succ_cons, List.take_zero, List.drop_succ_cons, List.drop_zero]
      simp [execOp, Act.eval, go_sem, h1]
    · refine OgStep.pure ?_ ?_
      · rfl
      intro u W hS hp
      have h2 : u 2 = .pointer (some ⟨b, 6, none⟩) := hp ⟨2, .data⟩ (by simp) rfl
      have k6 := K6.out W hS
      refine ⟨.slice A5 cs.length c5, ?_, rfl⟩
      simp only [ogMk, Act.put, List.setIfInBounds_toArray, List.set_cons_zero, List.set_cons_succ, Nat.zero_add, Nat.reduceAdd, List.take_succ_cons, List.take_zero, List.drop_succ_cons, List.drop_zero]
      simp [execOp, Act.eval, go_sem, h2, k6]
    · refine OgStep.pure ?_ ?_
      · rfl
      intro u W hS hp
      refine ⟨.int .u32 a, ?_, rfl⟩
      simp only [ogMk, Act.put, List.setIfInBounds_toArray, List.set_cons_zero, List.set_cons_succ, Nat.zero_add, Nat.reduceAdd, List.take_succ_cons, List.take_zero, List.drop_succ_cons, List.drop_zero]
      simp [execOp, Act.eval, go_sem]
    · refine OgStep.pure ?_ ?_
      · rfl
      intro u W hS hp
      refine ⟨.pointer (some ⟨b, 0, none⟩), ?_, rfl⟩
      simp only [ogMk, Act.put, List.setIfInBounds_toArray, List.set_cons_zero, List.set_cons_succ, Nat.zero_add, Nat.reduceAdd, List.take_succ_cons, List.take_zero, List.drop_succ_cons, List.drop_zero]
      simp [execOp, Act.eval, go_sem]
    · refine OgStep.pure ?_ ?_
      · rfl
      intro u W hS hp
      have h5 : u 5 = .pointer (some ⟨b, 0, none⟩) := hp ⟨5, .data⟩ (by simp) rfl
      refine ⟨.pointer (some ⟨b, 0, none⟩), ?_, rfl⟩
      simp only [ogMk, Act.put, List.setIfInBounds_toArray, List.set_cons_zero, List.set_cons_succ, Nat.zero_add, Nat.reduceAdd, List.take_succ_cons, List.take_zero, List.drop_succ_cons, List.drop_zero]
      simp [execOp, Act.eval, go_sem, h5]
    · refine OgStep.pure ?_ ?_
      · rfl
      intro u W hS hp
      have h6 : u 6 = .pointer (some ⟨b, 0, none⟩) := hp ⟨6, .data⟩ (by simp) rfl
      refine ⟨.pointer (some ⟨b, 0, none⟩), ?_, rfl⟩
      simp only [ogMk, Act.put, List.setIfInBounds_toArray, List.set_cons_zero, List.set_cons_succ, Nat.zero_add, Nat.reduceAdd, List.take_succ_cons, List.take_zero, List.drop_succ_cons, List.drop_zero]
      simp [execOp, Act.eval, go_sem, h6]
    · refine OgStep.pure ?_ ?_
      · rfl
      intro u W hS hp
      have h7 : u 7 = .pointer (some ⟨b, 0, none⟩) := hp ⟨7, .data⟩ (by simp) rfl
      have k0 := K0.out W hS
      refine ⟨.int .i64 n, ?_, rfl⟩
      simp only [ogMk, Act.put, List.setIfInBounds_toArray, List.set_cons_zero, List.set_cons_succ, Nat.zero_add, Nat.reduceAdd, List.take_succ_cons, List.take_zero, List.drop_succ_cons, List.drop_zero]
      simp [execOp, Act.eval, go_sem, h7, k0]
    · refine OgStep.calls ?_ ?_
      · rfl
      intro u W hS hp
      have h3 : u 3 = .slice A5 cs.length c5 := hp ⟨3, .data⟩ (by simp) rfl
      have h4 : u 4 = .int .u32 a := hp ⟨4, .data⟩ (by simp) rfl
      have h8 : u 8 = .int .i64 n := hp ⟨8, .data⟩ (by simp) rfl
      refine ⟨74, #[.slice A5 cs.length c5, .int .u32 a, .int .i64 n], ?_, calls_tF (HCA.out W (R0.out.below hS)) rfl⟩
      simp only [ogMk, Act.put, List.setIfInBounds_toArray, List.set_cons_zero, List.set_cons_succ, Nat.zero_add, Nat.reduceAdd, List.take_succ_cons, List.take_zero, List.drop_succ_cons, List.drop_zero]
      simp [execOp, Act.eval, go_sem, h3, h4, h8]
    · refine OgStep.pure ?_ ?_
      · rfl
      intro u W hS hp
      obtain ⟨A7, c7, e7, h7⟩ : tF Rc ys er (u 9) W := hp ⟨9, .data⟩ (by simp) rfl
      refine ⟨.tuple #[.slice A7 ys.length c7, .int .i64 er], ?_, ⟨A7, c7, rfl, h7⟩⟩
      simp only [ogMk, Act.put, List.setIfInBounds_toArray, List.set_cons_zero, List.set_cons_succ, Nat.zero_add, Nat.reduceAdd, List.take_succ_cons, List.take_zero, List.drop_succ_cons, List.drop_zero]
      simp [execOp, Act.eval, go_sem, e7]
    · refine OgStep.pure ?_ ?_
      · rfl
      intro u W hS hp
      obtain ⟨A7, c7, e7, h7⟩ : tF Rc ys er (u 10) W := hp ⟨10, .data⟩ (by simp) rfl
      refine ⟨.slice A7 ys.length c7, ?_, ⟨A7, c7, rfl, h7⟩⟩
      simp only [ogMk, Act.put, List.setIfInBounds_toArray, List.set_cons_zero, List.set_cons_succ, Nat.zero_add, Nat.reduceAdd, List.take_succ_cons, List.take_zero, List.drop_succ_cons, List.drop_zero]
      simp [execOp, Act.eval, go_sem, e7]
    · refine OgStep.pure ?_ ?_
      · rfl
      intro u W hS hp
      obtain ⟨A7, c7, e7, h7⟩ : tF Rc ys er (u 10) W := hp ⟨10, .data⟩ (by simp) rfl
      refine ⟨.int .i64 er, ?_, rfl⟩
      simp only [ogMk, Act.put, List.setIfInBounds_toArray, List.set_cons_zero, List.set_cons_succ, Nat.zero_add, Nat.reduceAdd, List.take_succ_cons, List.take_zero, List.drop_succ_cons, List.drop_zero]
      simp [execOp, Act.eval, go_sem, e7]
    · refine OgStep.pure ?_ ?_
      · rfl
      intro u W hS hp
      obtain ⟨A7, c7, e7, h7⟩ : rF Rc ys (u 11) W := hp ⟨11, .data⟩ (by simp) rfl
      refine ⟨.slice A7 ys.length c7, ?_, ⟨A7, c7, rfl, h7⟩⟩
      simp only [ogMk, Act.put, List.setIfInBounds_toArray, List.set_cons_zero, List.set_cons_succ, Nat.zero_add, Nat.reduceAdd, List.take_succ_cons, List.take_zero, List.drop_succ_cons, List.drop_zero]
      simp [execOp, Act.eval, go_sem, e7]
    · refine OgStep.pure ?_ ?_
      · rfl
      intro u W hS hp
      have h12 : u 12 = .int .i64 er := hp ⟨12, .data⟩ (by simp) rfl
      refine ⟨.int .i64 er, ?_, rfl⟩
      simp only [ogMk, Act.put, List.setIfInBounds_toArray, List.set_cons_zero, List.set_cons_succ, Nat.zero_add, Nat.reduceAdd, List.take_succ_cons, List.take_zero, List.drop_succ_cons, List.drop_zero]
      simp [execOp, Act.eval, go_sem, h12]
  · intro u W hS hF
    have e0 : u 0 = .pointer (some ⟨b, 0, none⟩) := hF 0 (by decide)
    have e1 : u 1 = .pointer (some ⟨b, 0, none⟩) := hF 1 (by decide)
    have e2 : u 2 = .pointer (some ⟨b, 6, none⟩) := hF 2 (by decide)
    have e3 : u 3 = .slice A5 cs.length c5 := hF 3 (by decide)
    have e4 : u 4 = .int .u32 a := hF 4 (by decide)
    have e5 : u 5 = .pointer (some ⟨b, 0, none⟩) := hF 5 (by decide)
    have e6 : u 6 = .pointer (some ⟨b, 0, none⟩) := hF 6 (by decide)
    have e7 : u 7 = .pointer (some ⟨b, 0, none⟩) := hF 7 (by decide)
    have e8 : u 8 = .int .i64 n := hF 8 (by decide)
    have e12 : u 12 = .int .i64 er := hF 12 (by decide)
    have e14 : u 14 = .int .i64 er := hF 14 (by decide)
    obtain ⟨A6, c6, e13, hc6, hR6⟩ : rF Rc ys (u 13) W := hF 13 (by decide)
    simp only [ogMk, Act.put, List.setIfInBounds_toArray, List.set_cons_zero, List.set_cons_succ, Nat.zero_add, Nat.reduceAdd, List.take_succ_cons, List.take_zero, List.drop_succ_cons, List.drop_zero]
    rw [e0, e1, e2, e3, e4, e5, e6, e7, e8, e12, e14, e13]
    clear e0 e1 e2 e3 e4 e5 e6 e7 e8 e12 e14 e13 hF
    have HS := Lib.hid hS
    have R1 := Lib.hid (R0.out.below hS)
    have S1 := Lib.hid (S0.out.below hS)
    clear hS
    go_wp2_with fail
    refine (REP.out A6 c6 W S1.out R1.out hR6 hc6).mono ?_
    rintro e w2 ⟨rfl, hst, O2⟩
    go_wp2_with fail
    go_end0
    refine ⟨rfl, ?_, (Ob.of HS.out S0.out.lt).trans O2⟩
    rw [HQ.out]
    exact hst
set_option maxRecDepth 100000 in
set_option maxHeartbeats 4000000 in
theorem takeS_any (x : Stt) (r : Rws) (a : Int) (b : Nat) (w : World) (H : Sb w b (stl x r)) (h : Lie w x r) (hx9 : x.hs.length ≤ 900) (ha0 : 0 ≤ a) (ha1 : a < 4294967296) :
    Calls Tryz.prog 104 #[.pointer (some ⟨b, 0, none⟩), .int .u32 a] w (PP w b (tkS x a) (.returned (.int .i64 (Hl.takeC x.hs a)))) := by
  have HCA := Lib.hid fun W (hW : Lie W x r) => tp_h (Hl.take_any a r.h x.hs r.hc W hW.h hW.hc hx9 ha0 ha1)
  have HQ := Lib.hid (show tkS x a = _ from by unfold tkS; rfl)
  have S0 := Lib.hid H
  have R0 := Lib.hid h
  obtain ⟨n, q, hs, sw, kn, pb, cs⟩ := x
  obtain ⟨A1, c1, A2, c2, A3, c3, A4, c4, A5, c5⟩ := r
  dsimp only at HCA HQ ⊢
  obtain ⟨ys, hys⟩ : ∃ ys, Hl.takeR hs a = ys := ⟨_, rfl⟩
  obtain ⟨er, her⟩ : ∃ er, Hl.takeC hs a = er := ⟨_, rfl⟩
  rw [hys, her] at HCA HQ
  rw [her]
  have REP := Lib.hid fun A cap W H h hr hc => rep_h ⟨n, q, hs, sw, kn, pb, cs⟩ ⟨A1, c1, A2, c2, A3, c3, A4, c4, A5, c5⟩ A ys cap er b W H h hr hc
  have k2 := S0.out.cx.key 2 _ rfl
  clear H h hys her hx9
  go_enter Tryz.func104, Tryz.ntmps104
  go_wp2_with fail
  refine (HCA.out _ R0.out).mono ?_
  rintro e w1 ⟨A6, c6, rfl, hc6, hR6, hb⟩
  have R1 := Lib.hid (R0.out.below hb)
  have S1 := Lib.hid (S0.out.below hb)
  have HS := Lib.hid hb
  clear hb k2
  go_wp2_with fail
  refine (REP.out A6 c6 w1 S1.out R1.out hR6 hc6).mono ?_
  rintro e w2 ⟨rfl, hst, O2⟩
  go_wp2_with fail
  go_ret
  refine ⟨rfl, ?_, (Ob.of HS.out S0.out.lt).trans O2⟩
  rw [HQ.out]
  exact hst
def drS (x : Stt) (a : Int) : Stt := if Hl.takeC x.hs a = 0 then stpO { x with hs := Hl.takeR x.hs a } a else x
set_option maxRecDepth 100000 in
set_option maxHeartbeats 4000000 in
theorem dropS_any (x : Stt) (r : Rws) (a : Int) (b : Nat) (w : World) (H : Sb w b (stl x r)) (h : Lie w x r) (hx9 : x.hs.length ≤ 900) (hc9 : x.cs.length ≤ 900) (ha0 : 0 ≤ a) (ha1 : a < 4294967296) :
    Calls Tryz.prog 63 #[.pointer (some ⟨b, 0, none⟩), .int .u32 a] w (PP w b (drS x a) (.returned (.int .i64 (Hl.takeC x.hs a)))) := by
  have TK := Lib.hid (takeS_any x r a b w H h hx9 ha0 ha1)
  have CN := Lib.hid fun y r W H (h : Lie W y r) hc => cancelS_any y r a b W H h hc
  have HQ := Lib.hid (show drS x a = _ from by unfold drS; rfl)
  have HT := Lib.hid (show tkS x a = _ from by unfold tkS; rfl)
  have HC := Lib.hid hc9
  obtain ⟨er, her⟩ : ∃ er, Hl.takeC x.hs a = er := ⟨_, rfl⟩
  rw [her] at TK HQ HT ⊢
  clear H h her hc9 hx9
  go_enter Tryz.func63, Tryz.ntmps63
  go_wp2_with fail
  refine TK.out.mono ?_
  rintro e w1 ⟨rfl, ⟨r1, S1, R1⟩, O1⟩
  by_cases h0 : er = 0
  · subst h0
    rw [if_pos rfl] at HQ HT
    rw [HT.out] at S1 R1
    have S1 := Lib.hid S1
    have R1 := Lib.hid R1
    have O1 := Lib.hid O1
    go_wp2_with fail
    refine (CN.out _ r1 w1 S1.out R1.out HC.out).mono ?_
    rintro e w2 ⟨rfl, hst, O2⟩
    go_wp2_with fail
    go_ret
    refine ⟨rfl, ?_, O1.out.trans O2⟩
    rw [HQ.out]
    exact hst
  · rw [if_neg h0] at HQ HT
    rw [HT.out] at S1 R1
    go_wp2_with fail
    go_ret
    refine ⟨rfl, ?_, O1⟩
    rw [HQ.out]
    exact ⟨r1, S1, R1⟩
end Go.Proofs.YtilneflfeegnfaaGreat
namespace Go.Proofs.YtilneflfeegnfaaGreat
open Go.RowKit
structure In (x : Stt) : Prop where
  n0 : 0 ≤ x.now
  n1 : x.now ≤ 1099511627776
  q0 : 0 ≤ x.seq
  q1 : x.seq < 65536
  hs : Hl.Srt x.hs
  hm : ∀ y ∈ x.hs, Hl.mayB y.T = true
  hl : x.hs.length ≤ 48
  ha : ∀ y ∈ x.hs, 0 ≤ y.a ∧ y.a < 4294967296
  sv : Sw.V x.sw
  kv : Sn.V x.kn
  kt : ∀ y ∈ x.kn, ∀ s ∈ y.ss, 0 ≤ s.t ∧ s.t ≤ x.now
  ka : ∀ y ∈ x.kn, 0 ≤ y.a ∧ y.a < 4294967296
  pv : Pb.V x.pb
  cv : Cs.Vn (x.cs, x.now)
theorem in_zst : In zst := ⟨by decide, by decide, by decide, by decide, Hl.Srt.nil, fun y hy => (by cases hy), by decide, fun y hy => (by cases hy), Sw.V.nil, Sn.V.nil, fun y hy => (by cases hy), fun y hy => (by cases hy), Pb.V.nil, Cs.Vn.nil⟩
theorem In.c16 {x : Stt} (h : In x) : x.cs.length ≤ 16 := h.cv.v.r.few
theorem In.p16 {x : Stt} (h : In x) : x.pb.length ≤ 16 := h.pv.r.few
theorem In.sz {x : Stt} (h : In x) : Sz x := ⟨by have := h.hl; omega, h.sv.r.few, h.sv.sv, h.kv.bd, by have := h.p16; omega, h.pv.n, by have := h.c16; omega⟩
theorem In.right {x : Stt} (h : In x) : rgS x = true := by
  unfold rgS
  rw [Hl.Srt.right h.hs h.hm h.hl, h.kv.right, (Sw.rg_iff _).2 h.sv.r, (Pb.rg_iff _).2 h.pv.r, Cs.rg_ok h.cv.v.r]
  simp [h.n0, h.n1, h.q0, h.q1]
theorem In.cs' {x : Stt} (h : In x) {ys : List Cs.Ca} (hv : Cs.Vn (ys, x.now)) : In { x with cs := ys } := { h with cv := hv }
theorem In.pb' {x : Stt} (h : In x) {ys : List Pb.Pr} (hv : Pb.V ys) : In { x with pb := ys } := { h with pv := hv }
theorem In.sw' {x : Stt} (h : In x) {ys : List Sw.Sw} (hv : Sw.V ys) : In { x with sw := ys } := { h with sv := hv }
theorem In.seq' {x : Stt} (h : In x) {q : Int} (h0 : 0 ≤ q) (h1 : q < 65536) : In { x with seq := q } := { h with q0 := h0, q1 := h1 }
theorem In.stop {x : Stt} (h : In x) (a : Int) : In (stpO x a) := by
  unfold stpO
  split
  · rename_i he
    exact h.cs' (Cs.st_ok h.cv h.n1 (by omega) (by omega) he)
  · exact h
theorem In.step {x : Stt} (h : In x) {ck : Int → Bool} {tg a : Int} (t0 : 1 ≤ tg) (t1 : tg ≤ 5) (he : (Cs.stO ck tg x.now a x.cs).2 = 0) : In { x with cs := (Cs.stO ck tg x.now a x.cs).1 } := h.cs' (Cs.st_ok h.cv h.n1 t0 t1 he)
theorem tk_zero {xs : List Hl.Hr} {a : Int} (h : Hl.takeC xs a = 0) : Hl.isAt xs a = true ∧ Hl.takeR xs a = Hl.del xs a := by
  unfold Hl.takeC at h
  by_cases hi : Hl.isAt xs a = true
  · exact ⟨hi, by unfold Hl.takeR; rw [if_pos hi]⟩
  · rw [if_neg hi] at h; cases h
theorem In.take {x : Stt} (h : In x) {a : Int} (he : Hl.takeC x.hs a = 0) : In { x with hs := Hl.takeR x.hs a } := by
  obtain ⟨hi, hr⟩ := tk_zero he
  rw [hr]
  have hd := Hl.del_length hi
  have hl := h.hl
  have hm : ∀ y ∈ Hl.del x.hs a, y ∈ x.hs := fun y hy => ((h.hs.mem_del hi).1 hy).1
  exact { h with hs := h.hs.del a, hm := fun y hy => h.hm y (hm y hy), hl := (by show (Hl.del x.hs a).length ≤ 48; omega), ha := fun y hy => h.ha y (hm y hy) }
theorem In.tk {x : Stt} (h : In x) (a : Int) : In (tkS x a) := by
  unfold tkS
  split
  · rename_i he; exact h.take he
  · exact h
theorem In.put {x : Stt} (h : In x) {y : Hl.Hr} (ho : y.ok) (he : Hl.putC x.hs y = 0) : In { x with hs := Hl.putR x.hs y } := by
  obtain ⟨h1, h2, h3, h4⟩ := Hl.put_zero he
  rw [h4]
  have hd := Hl.ins_length x.hs y
  exact { h with hs := h.hs.ins h2, hm := fun z hz => (by rcases Hl.mem_ins.1 hz with rfl | hz; exact h3; exact h.hm z hz), hl := (by show (Hl.ins x.hs y).length ≤ 48; omega), ha := fun z hz => (by rcases Hl.mem_ins.1 hz with rfl | hz; exact ⟨ho.1, ho.2.1⟩; exact h.ha z hz) }
theorem In.watch {x : Stt} (h : In x) {b n : Int} (h0 : 0 ≤ b) (h1 : b < 4294967296) (he : Sw.putC x.sw b n = 0) : In { x with sw := Sw.putR x.sw b n x.now } := h.sw' (Sw.put_ok h.sv h0 h1 he).1
theorem In.ignore {x : Stt} (h : In x) {b n : Int} (he : Sw.takeC x.sw b n = 0) : In { x with sw := Sw.takeR x.sw b n } := h.sw' (Sw.take_ok h.sv he).1
theorem kp_mem {ss : List Sn.Sg} {s t : Sn.Sg} (h : t ∈ Sn.kp ss s) : t ∈ ss ∨ t = s := by
  unfold Sn.kp at h
  rcases List.mem_append.1 h with h | h
  · exact Or.inl (List.mem_of_mem_drop h)
  · exact Or.inr (by simpa using h)
theorem In.know {x : Stt} (h : In x) {a : Int} {s : Sn.Sg} (h0 : 0 ≤ a) (h1 : a < 4294967296) (hs : s.t = x.now) (he : Sn.putC x.kn a s = 0) : In { x with kn := Sn.putR x.kn a s } := by
  rw [(Sn.put_zero he).1]
  refine { h with kv := h.kv.put he, kt := fun y hy t ht => ?_, ka := fun y hy => ?_ }
  · rcases h.kv.srt.mem_ins.1 hy with rfl | ⟨hy, -⟩
    · rcases kp_mem ht with ht | rfl
      · by_cases hi : Sn.isAt x.kn a = true
        · exact h.kt _ (Sn.isAt_mem hi) t ht
        · rw [Sn.sg_no (by simpa using hi)] at ht; cases ht
      · show 0 ≤ t.t ∧ t.t ≤ x.now
        rw [hs]; exact ⟨h.n0, Int.le_refl _⟩
    · exact h.kt y hy t ht
  · rcases h.kv.srt.mem_ins.1 hy with rfl | ⟨hy, -⟩
    · exact ⟨h0, h1⟩
    · exact h.ka y hy
theorem In.filt {x : Stt} (h : In x) (p : Sn.Kp → Bool) : In { x with kn := x.kn.filter p } := { h with kv := h.kv.filter p, kt := fun y hy => h.kt y (List.mem_filter.1 hy).1, ka := fun y hy => h.ka y (List.mem_filter.1 hy).1 }
theorem In.t1 {x : Stt} (h : In x) (c : Cf) : In (t1 c x) := by
  have h0 := h.n0
  have h1 := h.n1
  have hv : Cs.Vn (Cs.tkO c.h (min (x.now + 1) 1099511627776) x.cs, min (x.now + 1) 1099511627776) := by
    obtain ⟨t, ht, ht0⟩ : ∃ t, min (x.now + 1) 1099511627776 = x.now + t ∧ 0 ≤ t := ⟨min (x.now + 1) 1099511627776 - x.now, by omega, by omega⟩
    rw [ht]
    exact Cs.tick_ok h.cv (by omega) ht0
  exact { h with n0 := (by show 0 ≤ min (x.now + 1) 1099511627776; omega), n1 := (by show min (x.now + 1) 1099511627776 ≤ 1099511627776; omega), kt := fun y hy s hs => (by have := h.kt y hy s hs; show 0 ≤ s.t ∧ s.t ≤ min (x.now + 1) 1099511627776; omega), cv := hv }
theorem stale_held {c : Cf} {x : Stt} {a : Int} (h : hoO c x a = 3) : Hl.isAt x.hs a = true := by
  by_cases hi : Hl.isAt x.hs a = true
  · exact hi
  · exfalso
    rw [Bool.not_eq_true] at hi
    unfold hoO at h
    rw [hi] at h
    simp only [Bool.false_eq_true, if_false] at h
    unfold Su.stO at h
    split at h
    · cases h
    · dsimp only at h
      split at h <;> cases h
def dnS (x : Stt) (a : Int) : Stt := if (Cs.stO (fun g => g == 1) 5 x.now a x.cs).2 = 0 then { x with cs := (Cs.stO (fun g => g == 1) 5 x.now a x.cs).1 } else x
theorem In.dn {x : Stt} (h : In x) (a : Int) : In (dnS x a) := by
  unfold dnS
  split
  · rename_i he; exact h.step (by omega) (by omega) he
  · exact h
def stlS (c : Cf) (x : Stt) (a : Int) : Stt := if hoO c x a = 3 then tkS (dnS x a) a else stpO x a
theorem In.stl {x : Stt} (h : In x) (c : Cf) (a : Int) : In (stlS c x a) := by
  unfold stlS
  split
  · exact (h.dn a).tk a
  · exact h.stop a
def gbk (c : Cf) (x : Stt) (k : Cs.Ca) : Stt := if k.g = 1 then stlS c x k.a else x
theorem In.gbk {x : Stt} (h : In x) (c : Cf) (k : Cs.Ca) : In (gbk c x k) := by
  unfold Go.Proofs.YtilneflfeegnfaaGreat.gbk
  split
  · exact h.stl c k.a
  · exact h
theorem foldIn {α : Type} {f : Stt → α → Stt} (P : α → Prop) (hf : ∀ x a, In x → P a → In (f x a)) : ∀ (l : List α) (x : Stt), In x → (∀ a ∈ l, P a) → In (l.foldl f x)
  | [], _, h, _ => h
  | a :: l, x, h, hp => foldIn P hf l _ (hf x a h (hp a (by simp))) fun b hb => hp b (by simp [hb])
theorem In.t3h {x : Stt} (h : In x) (c : Cf) (y : Hl.Hr) (h0 : 0 ≤ y.a) (h1 : y.a < 4294967296) : In (t3h c x y) := by
  unfold Go.Proofs.YtilneflfeegnfaaGreat.t3h
  split
  · rename_i he; exact h.cs' (Cs.rs_ok h.cv h.n1 h0 h1 he.2)
  · exact h
theorem In.t3 {x : Stt} (h : In x) (c : Cf) : In (t3 c x) := foldIn (fun y : Hl.Hr => 0 ≤ y.a ∧ y.a < 4294967296) (fun x y hx hy => hx.t3h c y hy.1 hy.2) x.hs x h h.ha
theorem In.t4 {x : Stt} (h : In x) (c : Cf) : In (t4 c x) := h.filt _
theorem In.t5q {s : Stt × List Pb.Pk} (h : In s.1) {a : Int} (h0 : 0 ≤ a) (h1 : a < 4294967296) : In (t5q s a).1 := by
  have n0 := h.n0
  have n1 := h.n1
  unfold Go.Proofs.YtilneflfeegnfaaGreat.t5q
  split
  · rename_i he
    have hv := Pb.put_ok h.pv (Pb.rq_in rfl (by dsimp only; omega) (by dsimp only; omega) n0 n1 (by dsimp only; omega) (by dsimp only; omega)) h0 h1 he
    refine (h.seq' (q := (s.1.seq + 1) % 65536) (by omega) (by omega)).pb' (ys := Pb.putR s.1.pb ⟨a, a % 65536, (s.1.seq + 1) % 65536, s.1.now, 0⟩) ?_
    unfold Pb.putR
    rw [if_pos he]
    exact hv
  · exact h.seq' (by omega) (by omega)
theorem fold5 : ∀ (l : List Int) (s : Stt × List Pb.Pk), In s.1 → (∀ a ∈ l, 0 ≤ a ∧ a < 4294967296) → In (l.foldl t5q s).1
  | [], _, h, _ => h
  | a :: l, s, h, hp => fold5 l _ (h.t5q (hp a (by simp)).1 (hp a (by simp)).2) fun b hb => hp b (by simp [hb])
theorem p2_le {x : Sw.Sw} (h : Sw.Sv x) : x.a + Sw.p2 x.b ≤ 4294967296 := by
  obtain ⟨h0, h1, h2⟩ := Sw.ok_out h.ok
  have h3 := (Sw.p2_24 h0 h1).1 h.p
  have h4 := h.a1
  have h5 : x.b = 24 ∨ x.b = 25 ∨ x.b = 26 ∨ x.b = 27 ∨ x.b = 28 ∨ x.b = 29 ∨ x.b = 30 ∨ x.b = 31 ∨ x.b = 32 := by omega
  rcases h5 with e | e | e | e | e | e | e | e | e <;> rw [e] at h2 ⊢
  · rw [show Sw.p2 24 = 256 from by decide] at *; omega
  · rw [show Sw.p2 25 = 128 from by decide] at *; omega
  · rw [show Sw.p2 26 = 64 from by decide] at *; omega
  · rw [show Sw.p2 27 = 32 from by decide] at *; omega
  · rw [show Sw.p2 28 = 16 from by decide] at *; omega
  · rw [show Sw.p2 29 = 8 from by decide] at *; omega
  · rw [show Sw.p2 30 = 4 from by decide] at *; omega
  · rw [show Sw.p2 31 = 2 from by decide] at *; omega
  · rw [show Sw.p2 32 = 1 from by decide] at *; omega
theorem plan_in {xs : List Sw.Sw} (h : Sw.V xs) (every now room : Int) : ∀ a ∈ (Sw.planO xs every now room).2, 0 ≤ a ∧ a < 4294967296 := by
  intro a ha
  have ho := Sw.ord_is xs now
  have hk := Sw.planL_asks h every room (Sw.ord xs now) (Sw.ord_nodup ho) (fun i hi => ((ho.mem i).1 hi).1) (Sw.ord xs now).length (Nat.le_refl _)
  rw [List.take_length] at hk
  obtain ⟨i, -, x, hx, h1, h2⟩ := hk.2 a ha
  have hs := h.sv x (List.mem_of_getElem? hx)
  have := p2_le hs
  have := hs.a0
  omega
theorem In.t5 {x : Stt} (h : In x) (c : Cf) (hg : c.g ≤ 8) : In (t5 c x).1 := by
  unfold Go.Proofs.YtilneflfeegnfaaGreat.t5
  exact fold5 _ _ ((h.pb' (Pb.lt_ok h.pv hg)).sw' (Sw.planO_ok h.sv _ _ _).1) (plan_in h.sv _ _ _)
end Go.Proofs.YtilneflfeegnfaaGreat
namespace Go.Proofs.YtilneflfeegnfaaGreat
open Go.RowKit
set_option maxRecDepth 100000 in
set_option maxHeartbeats 4000000 in
theorem settleS_any (c : Cf) (x : Stt) (r : Rws) (a : Int) (b : Nat) (w : World) (H : Sb w b (stl x r)) (h : Lie w x r) (hi : In x) (hcd : c.c ≤ 1099511627776) (ha0 : 0 ≤ a) (ha1 : a < 4294967296) :
    Calls Tryz.prog 98 #[cfv c, .pointer (some ⟨b, 0, none⟩), .int .u32 a] w (PP w b (stlS c x a) (.returned (.tuple #[]))) := by
  have B0 := Lib.hid (show Below w.heap.size w (w.alloc (Cfx c)) from (Below.refl _ w).alloc (Nat.le_refl _) _)
  have C0 := Lib.hid (cm_box w c)
  have S0 := Lib.hid (H.below B0.out)
  have R0 := Lib.hid (h.below B0.out)
  have LT := Lib.hid H.lt
  have O0 := Lib.hid (Ob.of B0.out H.lt)
  have HST := Lib.hid fun W hW => status_any c x r a W hW hi.sz hcd ha0 ha1
  have HDN := Lib.hid fun W (hW : Lie W x r) => tp_c (Cs.done_any x.now a r.c x.cs r.cc W hW.c hW.cc hi.sz.c)
  have CN := Lib.hid fun W H h => cancelS_any x r a b W H h hi.sz.c
  have TK := Lib.hid fun r' W H h => takeS_any (dnS x a) r' a b W H h (hi.dn a).sz.h ha0 ha1
  have HQ := Lib.hid (show stlS c x a = _ from by unfold stlS; rfl)
  have HD := Lib.hid (show dnS x a = _ from by unfold dnS; rfl)
  obtain ⟨V, hV⟩ : ∃ V, hoO c x a = V := ⟨_, rfl⟩
  rw [hV] at HST HQ
  clear h H hi hV
  obtain ⟨n, q, hs, sw, kn, pb, cs⟩ := x
  obtain ⟨A1, c1, A2, c2, A3, c3, A4, c4, A5, c5⟩ := r
  dsimp only at HDN HD
  obtain ⟨⟨ys, er⟩, hE⟩ : ∃ E, Cs.stO (fun g => g == 1) 5 n a cs = E := ⟨_, rfl⟩
  rw [hE] at HDN HD
  dsimp only at HDN HD
  have REP := Lib.hid fun A cap W H h hr hc => rep_c ⟨n, q, hs, sw, kn, pb, cs⟩ ⟨A1, c1, A2, c2, A3, c3, A4, c4, A5, c5⟩ A ys cap er b W H h hr hc
  obtain ⟨xa, xb, xc, xd, xe, xf, xg, xh, xi⟩ := c
  simp only [cfv, Cfx, stv] at B0 C0 S0 R0 O0 HST ⊢
  clear hE
  go_enter Tryz.func98, Tryz.ntmps98
  go_wp2_with fail
  change (Code.region _ _ _).wp _ _ _ (w.alloc (.cells #[.int .i64 xa, .int .i64 xb, .int .i64 xc, .int .i64 xd, .int .i64 xe, .int .i64 xf, .int .i64 xg, .int .i64 xh, .int .i64 xi] 27))
  generalize w.alloc (.cells #[.int .i64 xa, .int .i64 xb, .int .i64 xc, .int .i64 xd, .int .i64 xe, .int .i64 xf, .int .i64 xg, .int .i64 xh, .int .i64 xi] 27) = W0 at *
  refine wp_region_below_tail 6 [fx (.agg #[.int .i64 xa, .int .i64 xb, .int .i64 xc, .int .i64 xd, .int .i64 xe, .int .i64 xf, .int .i64 xg, .int .i64 xh, .int .i64 xi]), fx (.pointer (some ⟨b, 0, none⟩)), fx (.pointer (some ⟨b, 0, none⟩)), fx (.agg #[.int .i64 n, .int .i64 q, .slice A1 hs.length c1, .slice A2 sw.length c2, .slice A3 kn.length c3, .slice A4 pb.length c4, .slice A5 cs.length c5]), fx (.int .u32 a), fx (.int .i64 V)]
    (by kernel_rfl) (by simp) (by kernel_rfl) (by kernel_rfl) (by kernel_rfl) ?_ ?_ ?_
  · simp only [List.mem_cons, List.not_mem_nil, or_false]
    rintro φ (rfl | rfl | rfl | rfl | rfl | rfl)
    all_goals first | exact stable_fx _ | exact stable_rF hld_h _ | exact stable_rF hld_s _ | exact stable_rF hld_k _ | exact stable_rF hld_p _ | exact stable_rF hld_c _ | exact stable_tF hld_h _ _ | exact stable_tF hld_s _ _ | exact stable_tF hld_k _ _ | exact stable_tF hld_p _ _ | exact stable_tF hld_c _ _
  · refine OgSteps.cons ?_ (OgSteps.cons ?_ (OgSteps.cons ?_ (OgSteps.cons ?_ (OgSteps.cons ?_ (OgSteps.cons ?_ (OgSteps.nil))))))
    · refine OgStep.pure ?_ ?_
      · rfl
      intro u W hS hp
      have C := C0.out.below hS
      have k0 := C.c0
      have k1 := C.c1
      have k2 := C.c2
      have k3 := C.c3
      have k4 := C.c4
      have k5 := C.c5
      have k6 := C.c6
      have k7 := C.c7
      have k8 := C.c8
      dsimp only at k0 k1 k2 k3 k4 k5 k6 k7 k8
      refine ⟨.agg #[.int .i64 xa, .int .i64 xb, .int .i64 xc, .int .i64 xd, .int .i64 xe, .int .i64 xf, .int .i64 xg, .int .i64 xh, .int .i64 xi], ?_, rfl⟩
      simp only [ogMk, Act.put, List.setIfInBounds_toArray, List.set_cons_zero, List.set_cons_succ, Nat.zero_add, Nat.reduceAdd, List.take_succ_cons, List.take_zero, List.drop_succ_cons, List.drop_zero]
      simp [execOp, Act.eval, go_sem, k0, k1, k2, k3, k4, k5, k6, k7, k8]
    · refine OgStep.pure ?_ ?_
      · rfl
      intro u W hS hp
      refine ⟨.pointer (some ⟨b, 0, none⟩), ?_, rfl⟩
      simp only [ogMk, Act.put, List.setIfInBounds_toArray, List.set_cons_zero, List.set_cons_succ, Nat.zero_add, Nat.reduceAdd, List.take_succ_cons, List.take_zero, List.drop_succ_cons, List.drop_zero]
      simp [execOp, Act.eval, go_sem]
    · refine OgStep.pure ?_ ?_
      · rfl
      intro u W hS hp
      have h1 : u 1 = .pointer (some ⟨b, 0, none⟩) := hp ⟨1, .data⟩ (by simp) rfl
      refine ⟨.pointer (some ⟨b, 0, none⟩), ?_, rfl⟩
      simp only [ogMk, Act.put, List.setIfInBounds_toArray, List.set_cons_zero, List.set_cons_succ, Nat.zero_add, Nat.reduceAdd, List.take_succ_cons, List.take_zero, List.drop_succ_cons, List.drop_zero]
      simp [execOp, Act.eval, go_sem, h1]
    · refine OgStep.pure ?_ ?_
      · rfl
      intro u W hS hp
      have h2 : u 2 = .pointer (some ⟨b, 0, none⟩) := hp ⟨2, .data⟩ (by simp) rfl
      have S := S0.out.below hS
      have j0 := S.cx.key 0 _ rfl
      have j1 := S.cx.key 1 _ rfl
      have j2 := S.cx.key 2 _ rfl
      have j3 := S.cx.key 3 _ rfl
      have j4 := S.cx.key 4 _ rfl
      have j5 := S.cx.key 5 _ rfl
      have j6 := S.cx.key 6 _ rfl
      dsimp only at j0 j1 j2 j3 j4 j5 j6
      refine ⟨.agg #[.int .i64 n, .int .i64 q, .slice A1 hs.length c1, .slice A2 sw.length c2, .slice A3 kn.length c3, .slice A4 pb.length c4, .slice A5 cs.length c5], ?_, rfl⟩
      simp only [ogMk, Act.put, List.setIfInBounds_toArray, List.set_cons_zero, List.set_cons_succ, Nat.zero_add, Nat.reduceAdd, List.take_succ_cons, List.take_zero, List.drop_succ_cons, List.drop_zero]
      simp [execOp, Act.eval, go_sem, h2, j0, j1, j2, j3, j4, j5, j6]
    · refine OgStep.pure ?_ ?_
      · rfl
      intro u W hS hp
      refine ⟨.int .u32 a, ?_, rfl⟩
      simp only [ogMk, Act.put, List.setIfInBounds_toArray, List.set_cons_zero, List.set_cons_succ, Nat.zero_add, Nat.reduceAdd, List.take_succ_cons, List.take_zero, List.drop_succ_cons, List.drop_zero]
      simp [execOp, Act.eval, go_sem]
    · refine OgStep.calls ?_ ?_
      · rfl
      intro u W hS hp
      have h0 : u 0 = .agg #[.int .i64 xa, .int .i64 xb, .int .i64 xc, .int .i64 xd, .int .i64 xe, .int .i64 xf, .int .i64 xg, .int .i64 xh, .int .i64 xi] := hp ⟨0, .data⟩ (by simp) rfl
      have h3 : u 3 = .agg #[.int .i64 n, .int .i64 q, .slice A1 hs.length c1, .slice A2 sw.length c2, .slice A3 kn.length c3, .slice A4 pb.length c4, .slice A5 cs.length c5] := hp ⟨3, .data⟩ (by simp) rfl
      have h4 : u 4 = .int .u32 a := hp ⟨4, .data⟩ (by simp) rfl
      refine ⟨19, #[.agg #[.int .i64 xa, .int .i64 xb, .int .i64 xc, .int .i64 xd, .int .i64 xe, .int .i64 xf, .int .i64 xg, .int .i64 xh, .int .i64 xi], .agg #[.int .i64 n, .int .i64 q, .slice A1 hs.length c1, .slice A2 sw.length c2, .slice A3 kn.length c3, .slice A4 pb.length c4, .slice A5 cs.length c5], .int .u32 a], ?_, calls_fx (HST.out W (R0.out.below hS)) rfl⟩
      simp only [ogMk, Act.put, List.setIfInBounds_toArray, List.set_cons_zero, List.set_cons_succ, Nat.zero_add, Nat.reduceAdd, List.take_succ_cons, List.take_zero, List.drop_succ_cons, List.drop_zero]
      simp [execOp, Act.eval, go_sem, h0, h3, h4]
  · intro u W hS hF
    have e0 : u 0 = .agg #[.int .i64 xa, .int .i64 xb, .int .i64 xc, .int .i64 xd, .int .i64 xe, .int .i64 xf, .int .i64 xg, .int .i64 xh, .int .i64 xi] := hF 0 (by decide)
    have e1 : u 1 = .pointer (some ⟨b, 0, none⟩) := hF 1 (by decide)
    have e2 : u 2 = .pointer (some ⟨b, 0, none⟩) := hF 2 (by decide)
    have e3 : u 3 = .agg #[.int .i64 n, .int .i64 q, .slice A1 hs.length c1, .slice A2 sw.length c2, .slice A3 kn.length c3, .slice A4 pb.length c4, .slice A5 cs.length c5] := hF 3 (by decide)
    have e4 : u 4 = .int .u32 a := hF 4 (by decide)
    have e5 : u 5 = .int .i64 V := hF 5 (by decide)
    simp only [ogMk, Act.put, List.setIfInBounds_toArray, List.set_cons_zero, List.set_cons_succ, Nat.zero_add, Nat.reduceAdd, List.take_succ_cons, List.take_zero, List.drop_succ_cons, List.drop_zero]
    rw [e0, e1, e2, e3, e4, e5]
    clear e0 e1 e2 e3 e4 e5 hF
    have HS := Lib.hid hS
    have LT0 := Lib.hid S0.out.lt
    have R1 := Lib.hid (R0.out.below hS)
    have S1 := Lib.hid (S0.out.below hS)
    have C1 := Lib.hid (C0.out.below hS)
    have LT1 := Lib.hid S1.out.lt
    clear hS
    by_cases h0 : V = 3
    · subst h0
      rw [if_pos rfl] at HQ
      go_wp2_with fail
      refine wp_region_below [fx (.pointer (some ⟨b, 0, none⟩)), fx (.pointer (some ⟨b, 0, none⟩)), fx (.pointer (some ⟨b, 6, none⟩)), fx (.slice A5 cs.length c5), fx (.int .u32 a), fx (.pointer (some ⟨b, 0, none⟩)), fx (.pointer (some ⟨b, 0, none⟩)), fx (.pointer (some ⟨b, 0, none⟩)), fx (.int .i64 n), tF Rc ys er, tF Rc ys er, rF Rc ys, fx (.int .i64 er), rF Rc ys, fx (.int .i64 er)]
        (by kernel_rfl) (by kernel_rfl) (by kernel_rfl) ?_ ?_ ?_
      · simp only [List.mem_cons, List.not_mem_nil, or_false]
        rintro φ (rfl | rfl | rfl | rfl | rfl | rfl | rfl | rfl | rfl | rfl | rfl | rfl | rfl | rfl | rfl)
        all_goals first | exact stable_fx _ | exact stable_rF hld_h _ | exact stable_rF hld_s _ | exact stable_rF hld_k _ | exact stable_rF hld_p _ | exact stable_rF hld_c _ | exact stable_tF hld_h _ _ | exact stable_tF hld_s _ _ | exact stable_tF hld_k _ _ | exact stable_tF hld_p _ _ | exact stable_tF hld_c _ _
      · refine OgSteps.cons ?_ (OgSteps.cons ?_ (OgSteps.cons ?_ (OgSteps.cons ?_ (OgSteps.cons ?_ (OgSteps.cons ?_ (OgSteps.cons ?_ (OgSteps.cons ?_ (OgSteps.cons ?_ (OgSteps.cons ?_ (OgSteps.cons ?_ (OgSteps.cons ?_ (OgSteps.cons ?_ (OgSteps.cons ?_ (OgSteps.cons ?_ (OgSteps.nil)))))))))))))))
        · refine OgStep.pure ?_ ?_
          · rfl
          intro u W hS hp
          refine ⟨.pointer (some ⟨b, 0, none⟩), ?_, rfl⟩
          simp only [ogMk, Act.put, List.setIfInBounds_toArray, List.set_cons_zero, List.set_cons_succ, Nat.zero_add, Nat.reduceAdd, List.take_succ_cons, List.take_zero, List.drop_succ_cons, List.drop_zero]
          simp [execOp, Act.eval, go_sem]
        · refine OgStep.pure ?_ ?_
          · rfl
          intro u W hS hp
          have h0 : u 0 = .pointer (some ⟨b, 0, none⟩) := hp ⟨0, .data⟩ (by simp) rfl
          refine ⟨.pointer (some ⟨b, 0, none⟩), ?_, rfl⟩
          simp only [ogMk, Act.put, List.setIfInBounds_toArray, List.set_cons_zero, List.set_cons_succ, Nat.zero_add, Nat.reduceAdd, List.take_succ_cons, List.take_zero, List.drop_succ_cons, List.drop_zero]
          simp [execOp, Act.eval, go_sem, h0]
        · refine OgStep.pure ?_ ?_
          · rfl
          intro u W hS hp
          have h1 : u 1 = .pointer (some ⟨b, 0, none⟩) := hp ⟨1, .data⟩ (by simp) rfl
          refine ⟨.pointer (some ⟨b, 6, none⟩), ?_, rfl⟩
          simp only [ogMk, Act.put, List.setIfInBounds_toArray, List.set_cons_zero, List.set_cons_succ, Nat.zero_add, Nat.reduceAdd, List.take_succ_cons, List.take_zero, List.drop_succ_cons, List.drop_zero]
          simp [execOp, Act.eval, go_sem, h1]
        · refine OgStep.pure ?_ ?_
          · rfl
          intro u W hS hp
          have h2 : u 2 = .pointer (some ⟨b, 6, none⟩) := hp ⟨2, .data⟩ (by simp) rfl
          have k6 := (S1.out.below hS).cx.key 6 _ rfl
          dsimp only at k6
          refine ⟨.slice A5 cs.length c5, ?_, rfl⟩
          simp only [ogMk, Act.put, List.setIfInBounds_toArray, List.set_cons_zero, List.set_cons_succ, Nat.zero_add, Nat.reduceAdd, List.take_succ_cons, List.take_zero, List.drop_succ_cons, List.drop_zero]
          simp [execOp, Act.eval, go_sem, h2, k6]
        · refine OgStep.pure ?_ ?_
          · rfl
          intro u W hS hp
          refine ⟨.int .u32 a, ?_, rfl⟩
          simp only [ogMk, Act.put, List.setIfInBounds_toArray, List.set_cons_zero, List.set_cons_succ, Nat.zero_add, Nat.reduceAdd, List.take_succ_cons, List.take_zero, List.drop_succ_cons, List.drop_zero]
          simp [execOp, Act.eval, go_sem]
        · refine OgStep.pure ?_ ?_
          · rfl
          intro u W hS hp
          refine ⟨.pointer (some ⟨b, 0, none⟩), ?_, rfl⟩
          simp only [ogMk, Act.put, List.setIfInBounds_toArray, List.set_cons_zero, List.set_cons_succ, Nat.zero_add, Nat.reduceAdd, List.take_succ_cons, List.take_zero, List.drop_succ_cons, List.drop_zero]
          simp [execOp, Act.eval, go_sem]
        · refine OgStep.pure ?_ ?_
          · rfl
          intro u W hS hp
          have h5 : u 5 = .pointer (some ⟨b, 0, none⟩) := hp ⟨5, .data⟩ (by simp) rfl
          refine ⟨.pointer (some ⟨b, 0, none⟩), ?_, rfl⟩
          simp only [ogMk, Act.put, List.setIfInBounds_toArray, List.set_cons_zero, List.set_cons_succ, Nat.zero_add, Nat.reduceAdd, List.take_succ_cons, List.take_zero, List.drop_succ_cons, List.drop_zero]
          simp [execOp, Act.eval, go_sem, h5]
        · refine OgStep.pure ?_ ?_
          · rfl
          intro u W hS hp
          have h6 : u 6 = .pointer (some ⟨b, 0, none⟩) := hp ⟨6, .data⟩ (by simp) rfl
          refine ⟨.pointer (some ⟨b, 0, none⟩), ?_, rfl⟩
          simp only [ogMk, Act.put, List.setIfInBounds_toArray, List.set_cons_zero, List.set_cons_succ, Nat.zero_add, Nat.reduceAdd, List.take_succ_cons, List.take_zero, List.drop_succ_cons, List.drop_zero]
          simp [execOp, Act.eval, go_sem, h6]
        · refine OgStep.pure ?_ ?_
          · rfl
          intro u W hS hp
          have h7 : u 7 = .pointer (some ⟨b, 0, none⟩) := hp ⟨7, .data⟩ (by simp) rfl
          have k0 := (S1.out.below hS).cx.key 0 _ rfl
          dsimp only at k0
          refine ⟨.int .i64 n, ?_, rfl⟩
          simp only [ogMk, Act.put, List.setIfInBounds_toArray, List.set_cons_zero, List.set_cons_succ, Nat.zero_add, Nat.reduceAdd, List.take_succ_cons, List.take_zero, List.drop_succ_cons, List.drop_zero]
          simp [execOp, Act.eval, go_sem, h7, k0]
        · refine OgStep.calls ?_ ?_
          · rfl
          intro u W hS hp
          have h3 : u 3 = .slice A5 cs.length c5 := hp ⟨3, .data⟩ (by simp) rfl
          have h4 : u 4 = .int .u32 a := hp ⟨4, .data⟩ (by simp) rfl
          have h8 : u 8 = .int .i64 n := hp ⟨8, .data⟩ (by simp) rfl
          refine ⟨67, #[.slice A5 cs.length c5, .int .u32 a, .int .i64 n], ?_, calls_tF (HDN.out W (R1.out.below hS)) rfl⟩
          simp only [ogMk, Act.put, List.setIfInBounds_toArray, List.set_cons_zero, List.set_cons_succ, Nat.zero_add, Nat.reduceAdd, List.take_succ_cons, List.take_zero, List.drop_succ_cons, List.drop_zero]
          simp [execOp, Act.eval, go_sem, h3, h4, h8]
        · refine OgStep.pure ?_ ?_
          · rfl
          intro u W hS hp
          obtain ⟨A7, c7, e7, h7⟩ : tF Rc ys er (u 9) W := hp ⟨9, .data⟩ (by simp) rfl
          refine ⟨.tuple #[.slice A7 ys.length c7, .int .i64 er], ?_, ⟨A7, c7, rfl, h7⟩⟩
          simp only [ogMk, Act.put, List.setIfInBounds_toArray, List.set_cons_zero, List.set_cons_succ, Nat.zero_add, Nat.reduceAdd, List.take_succ_cons, List.take_zero, List.drop_succ_cons, List.drop_zero]
          simp [execOp, Act.eval, go_sem, e7]
        · refine OgStep.pure ?_ ?_
          · rfl
          intro u W hS hp
          obtain ⟨A7, c7, e7, h7⟩ : tF Rc ys er (u 10) W := hp ⟨10, .data⟩ (by simp) rfl
          refine ⟨.slice A7 ys.length c7, ?_, ⟨A7, c7, rfl, h7⟩⟩
          simp only [ogMk, Act.put, List.setIfInBounds_toArray, List.set_cons_zero, List.set_cons_succ, Nat.zero_add, Nat.reduceAdd, List.take_succ_cons, List.take_zero, List.drop_succ_cons, List.drop_zero]
          simp [execOp, Act.eval, go_sem, e7]
        · refine OgStep.pure ?_ ?_
          · rfl
          intro u W hS hp
          obtain ⟨A7, c7, e7, h7⟩ : tF Rc ys er (u 10) W := hp ⟨10, .data⟩ (by simp) rfl
          refine ⟨.int .i64 er, ?_, rfl⟩
          simp only [ogMk, Act.put, List.setIfInBounds_toArray, List.set_cons_zero, List.set_cons_succ, Nat.zero_add, Nat.reduceAdd, List.take_succ_cons, List.take_zero, List.drop_succ_cons, List.drop_zero]
          simp [execOp, Act.eval, go_sem, e7]
        · refine OgStep.pure ?_ ?_
          · rfl
          intro u W hS hp
          obtain ⟨A7, c7, e7, h7⟩ : rF Rc ys (u 11) W := hp ⟨11, .data⟩ (by simp) rfl
          refine ⟨.slice A7 ys.length c7, ?_, ⟨A7, c7, rfl, h7⟩⟩
          simp only [ogMk, Act.put, List.setIfInBounds_toArray, List.set_cons_zero, List.set_cons_succ, Nat.zero_add, Nat.reduceAdd, List.take_succ_cons, List.take_zero, List.drop_succ_cons, List.drop_zero]
          simp [execOp, Act.eval, go_sem, e7]
        · refine OgStep.pure ?_ ?_
          · rfl
          intro u W hS hp
          have h12 : u 12 = .int .i64 er := hp ⟨12, .data⟩ (by simp) rfl
          refine ⟨.int .i64 er, ?_, rfl⟩
          simp only [ogMk, Act.put, List.setIfInBounds_toArray, List.set_cons_zero, List.set_cons_succ, Nat.zero_add, Nat.reduceAdd, List.take_succ_cons, List.take_zero, List.drop_succ_cons, List.drop_zero]
          simp [execOp, Act.eval, go_sem, h12]
      · intro u W3 hS hF
        have e0 : u 0 = .pointer (some ⟨b, 0, none⟩) := hF 0 (by decide)
        have e1 : u 1 = .pointer (some ⟨b, 0, none⟩) := hF 1 (by decide)
        have e2 : u 2 = .pointer (some ⟨b, 6, none⟩) := hF 2 (by decide)
        have e3 : u 3 = .slice A5 cs.length c5 := hF 3 (by decide)
        have e4 : u 4 = .int .u32 a := hF 4 (by decide)
        have e5 : u 5 = .pointer (some ⟨b, 0, none⟩) := hF 5 (by decide)
        have e6 : u 6 = .pointer (some ⟨b, 0, none⟩) := hF 6 (by decide)
        have e7 : u 7 = .pointer (some ⟨b, 0, none⟩) := hF 7 (by decide)
        have e8 : u 8 = .int .i64 n := hF 8 (by decide)
        have e12 : u 12 = .int .i64 er := hF 12 (by decide)
        have e14 : u 14 = .int .i64 er := hF 14 (by decide)
        obtain ⟨A6, c6, e13, hc6, hR6⟩ : rF Rc ys (u 13) W3 := hF 13 (by decide)
        simp only [ogMk, Act.put, List.setIfInBounds_toArray, List.set_cons_zero, List.set_cons_succ, Nat.zero_add, Nat.reduceAdd, List.take_succ_cons, List.take_zero, List.drop_succ_cons, List.drop_zero]
        rw [e0, e1, e2, e3, e4, e5, e6, e7, e8, e12, e14, e13]
        clear e0 e1 e2 e3 e4 e5 e6 e7 e8 e12 e14 e13 hF
        have HS3 := Lib.hid hS
        have R3 := Lib.hid (R1.out.below hS)
        have S3 := Lib.hid (S1.out.below hS)
        clear hS
        go_wp2_with fail
        refine (REP.out A6 c6 W3 S3.out R3.out hR6 hc6).mono ?_
        rintro e w4 ⟨rfl, ⟨r4, S4, R4⟩, O4⟩
        rw [← HD.out] at S4 R4
        have S4 := Lib.hid S4
        have R4 := Lib.hid R4
        have O4 := Lib.hid O4
        go_wp2_with fail
        refine (TK.out r4 w4 S4.out R4.out).mono ?_
        rintro e w5 ⟨rfl, hst, O5⟩
        go_wp2_with fail
        go_end0
        refine ⟨rfl, ?_, ((((O0.out.trans (Ob.of HS.out LT0.out)).trans (Ob.of HS3.out LT1.out)).trans O4.out).trans O5)⟩
        rw [HQ.out]
        exact hst
    · rw [if_neg h0] at HQ
      go_wp2_with fail
      refine (CN.out W S1.out R1.out).mono ?_
      rintro e w2 ⟨rfl, hst, O2⟩
      go_wp2_with fail
      refine bodyPost_ret (results_none rfl _ _ _) rfl ?_
      refine ⟨rfl, ?_, ((O0.out.trans (Ob.of HS.out LT0.out)).trans O2)⟩
      rw [HQ.out]
      exact hst
end Go.Proofs.YtilneflfeegnfaaGreat
namespace Go.Proofs.YtilneflfeegnfaaGreat
open Go.RowKit
def gbS (c : Cf) (x : Stt) : Stt := x.cs.foldl (gbk c) x
theorem fold_take {α β : Type} (f : β → α → β) (z : β) {l : List α} {k : Nat} {a : α} (h : l[k]? = some a) : (l.take (k + 1)).foldl f z = f ((l.take k).foldl f z) a := by
  rw [List.take_add_one, h, List.foldl_append]
  rfl
theorem in_gbt {x : Stt} (h : In x) (c : Cf) (l : List Cs.Ca) : In (l.foldl (gbk c) x) := foldIn (fun _ => True) (fun x k hx _ => hx.gbk c k) l x h fun _ _ => trivial
set_option maxRecDepth 100000 in
set_option maxHeartbeats 4000000 in
theorem giveBackS_any (c : Cf) (x : Stt) (r : Rws) (b : Nat) (w : World) (H : Sb w b (stl x r)) (h : Lie w x r) (hi : In x) (hcd : c.c ≤ 1099511627776) :
    Calls Tryz.prog 58 #[cfv c, .pointer (some ⟨b, 0, none⟩)] w (PP w b (gbS c x) (.returned (.tuple #[]))) := by
  have B0 := Lib.hid (show Below w.heap.size w (w.alloc (Cfx c)) from (Below.refl _ w).alloc (Nat.le_refl _) _)
  have C0 := Lib.hid (cm_box w c)
  have S0 := Lib.hid (H.below B0.out)
  have R0 := Lib.hid (h.below B0.out)
  have LT := Lib.hid H.lt
  have O0 := Lib.hid (Ob.of B0.out H.lt)
  have ST := Lib.hid fun y r a W H h hy a0 a1 => settleS_any c y r a b W H h hy hcd a0 a1
  have HQ := Lib.hid (show gbS c x = x.cs.foldl (gbk c) x from rfl)
  have HI := Lib.hid fun l => in_gbt hi c l
  have HU := Lib.hid hi.cv.v.u
  have RA := Lib.hid R0.out.c
  have k6 := S0.out.cx.key 6 _ rfl
  have Hx := Lib.hid (show ∃ r', Sb (w.alloc (Cfx c)) b (stl x r') ∧ Lie (w.alloc (Cfx c)) x r' from ⟨r, S0.out, R0.out⟩)
  obtain ⟨c5, hc5⟩ : ∃ c5, r.cc = c5 := ⟨_, rfl⟩
  obtain ⟨A5, hA5⟩ : ∃ A5, r.c = A5 := ⟨_, rfl⟩
  obtain ⟨xs, hxs⟩ : ∃ xs, x.cs = xs := ⟨_, rfl⟩
  simp only [hc5, hA5, hxs] at k6 RA HU HQ
  have hln := RA.out.1
  obtain ⟨L, hL⟩ : ∃ L, xs.length = L := ⟨_, rfl⟩
  have HL := Lib.hid hL
  have SB := Lib.hid S0.out.bs
  rw [hL] at k6 hln
  clear h H hi hL hc5 hA5 hxs S0 R0
  obtain ⟨c', hc'⟩ : ∃ c', c = c' := ⟨_, rfl⟩
  have HC := Lib.hid hc'
  obtain ⟨xa, xb, xc, xd, xe, xf, xg, xh, xi⟩ := c
  subst hc'
  simp only [cfv, Cfx] at B0 C0 O0 ST RA Hx k6 SB ⊢
  go_enter Tryz.func58, Tryz.ntmps58
  go_wp2_with fail
  change (Code.loop _).wp _ _ _ (w.alloc (.cells #[.int .i64 xa, .int .i64 xb, .int .i64 xc, .int .i64 xd, .int .i64 xe, .int .i64 xf, .int .i64 xg, .int .i64 xh, .int .i64 xi] 27))
  generalize w.alloc (.cells #[.int .i64 xa, .int .i64 xb, .int .i64 xc, .int .i64 xd, .int .i64 xe, .int .i64 xf, .int .i64 xg, .int .i64 xh, .int .i64 xi] 27) = W0 at *
  go_loopw [11] (fun i wr => ∃ k : Nat, i = .int .i64 k ∧ k ≤ L ∧ Hid ((∃ r', Sb wr b (stl ((xs.take k).foldl (gbk ⟨xa, xb, xc, xd, xe, xf, xg, xh, xi⟩) x) r') ∧ Lie wr ((xs.take k).foldl (gbk ⟨xa, xb, xc, xd, xe, xf, xg, xh, xi⟩) x) r') ∧ Ob b W0 wr)) (fun i _ => L - (intOf i).toNat)
  case atStart => exact ⟨0, rfl, by omega, Lib.hid ⟨Hx.out, Ob.refl _ _⟩⟩
  case round =>
    obtain ⟨k, rfl, hk, HW⟩ := hrel
    clear k6
    by_cases hkL : k < L
    · obtain ⟨z, hz⟩ : ∃ z, xs[k]? = some z := ⟨_, List.getElem?_eq_getElem (by rw [HL.out]; exact hkL)⟩
      obtain ⟨y, rfl⟩ := rw_some RA.out (by rw [HL.out]; omega)
      have hat := (rw_ob mk_A RA.out SB.out HW.out.2).at hz
      have HZ := Lib.hid (HU.out z (List.mem_of_getElem? hz))
      have HF := Lib.hid (fold_take (gbk ⟨xa, xb, xc, xd, xe, xf, xg, xh, xi⟩) x hz)
      have BZ := Lib.hid (show Below wr.heap.size wr (wr.alloc (Cs.Cax z)) from (Below.refl _ _).alloc (Nat.le_refl _) _)
      obtain ⟨⟨r', hS', hR'⟩, hO'⟩ := HW.out
      have S1 := Lib.hid (hS'.below BZ.out)
      have R1 := Lib.hid (hR'.below BZ.out)
      have O1 := Lib.hid (hO'.trans (Ob.of BZ.out hS'.lt))
      have C1 := cm_ob C0.out O1.out (by have := LT.out; omega)
      have HIK := Lib.hid (HI.out (xs.take k))
      generalize (xs.take k).foldl (gbk ⟨xa, xb, xc, xd, xe, xf, xg, xh, xi⟩) x = X at *
      have k0 := C1.c0
      have k1 := C1.c1
      have k2 := C1.c2
      have k3 := C1.c3
      have k4 := C1.c4
      have k5 := C1.c5
      have k6 := C1.c6
      have k7 := C1.c7
      have k8 := C1.c8
      dsimp only at k0 k1 k2 k3 k4 k5 k6 k7 k8
      obtain ⟨s0, s1, s2, s3⟩ := Cs.ca_box wr z
      clear C1 hz hS' hR' hO' HW
      unfold Cs.Cax at *
      cases he : (z.g == 1)
      · have HE := Lib.hid he
        go_wp2_with (refine Cs.at_load37 (.tmp 13) rfl rfl (y.add (k * 4)) z rfl hat ?_)
        go_roundw
        case rel => exact ⟨k + 1, by go_num, by omega, Lib.hid ⟨by rw [HF.out, show gbk ⟨xa, xb, xc, xd, xe, xf, xg, xh, xi⟩ X z = X from if_neg (by have := HE.out; simp at this; exact this)]; exact ⟨r', S1.out, R1.out⟩, O1.out⟩⟩
        case measure => simp [intOf]; omega
      · have HE := Lib.hid he
        go_wp2_with (refine Cs.at_load37 (.tmp 13) rfl rfl (y.add (k * 4)) z rfl hat ?_)
        refine (ST.out X r' z.a _ S1.out R1.out HIK.out HZ.out.1 HZ.out.2).mono ?_
        rintro e w3 ⟨rfl, hst, O3⟩
        have HW3 := Lib.hid (show (∃ r', Sb w3 b (stl (stlS ⟨xa, xb, xc, xd, xe, xf, xg, xh, xi⟩ X z.a) r') ∧ Lie w3 (stlS ⟨xa, xb, xc, xd, xe, xf, xg, xh, xi⟩ X z.a) r') ∧ Ob b W0 w3 from ⟨hst, O1.out.trans O3⟩)
        clear hst O3
        go_wp2_with fail
        go_roundw
        case rel => exact ⟨k + 1, by go_num, by omega, Lib.hid ⟨by rw [HF.out, show gbk ⟨xa, xb, xc, xd, xe, xf, xg, xh, xi⟩ X z = stlS ⟨xa, xb, xc, xd, xe, xf, xg, xh, xi⟩ X z.a from if_pos (by have := HE.out; simpa using this)]; exact HW3.out.1, HW3.out.2⟩⟩
        case measure => simp [intOf]; omega
    · obtain rfl : k = L := by omega
      have hW := HW.out
      rw [List.take_of_length_le (by rw [HL.out]; exact Nat.le_refl _), ← HQ.out] at hW
      have HW2 := Lib.hid hW
      clear hW
      go_wp2_with fail
      go_end0
      exact ⟨rfl, HW2.out.1, O0.out.trans HW2.out.2⟩
end Go.Proofs.YtilneflfeegnfaaGreat
namespace Go.Proofs.YtilneflfeegnfaaGreat
open Go.RowKit
theorem in_t3t {x : Stt} (h : In x) (c : Cf) (l : List Hl.Hr) (hl : ∀ y ∈ l, 0 ≤ y.a ∧ y.a < 4294967296) : In (l.foldl (t3h c) x) := foldIn (fun y : Hl.Hr => 0 ≤ y.a ∧ y.a < 4294967296) (fun x y hx hy => hx.t3h c y hy.1 hy.2) l x h hl
theorem if_pos_and {α : Type} {q : Int} {a b : α} : (if True ∧ q = 0 then a else b) = if q = 0 then a else b := by simp
set_option maxRecDepth 100000 in
set_option maxHeartbeats 4000000 in
theorem raiseS_any (c : Cf) (x : Stt) (r : Rws) (b : Nat) (w : World) (H : Sb w b (stl x r)) (h : Lie w x r) (hi : In x) (hcd : c.c ≤ 1099511627776) :
    Calls Tryz.prog 59 #[cfv c, .pointer (some ⟨b, 0, none⟩)] w (PP w b (t3 c x) (.returned (.tuple #[]))) := by
  have B0 := Lib.hid (show Below w.heap.size w (w.alloc (Cfx c)) from (Below.refl _ w).alloc (Nat.le_refl _) _)
  have C0 := Lib.hid (cm_box w c)
  have S0 := Lib.hid (H.below B0.out)
  have R0 := Lib.hid (h.below B0.out)
  have LT := Lib.hid H.lt
  have O0 := Lib.hid (Ob.of B0.out H.lt)
  have ST := Lib.hid fun y r a W (h : Lie W y r) hy a0 a1 => status_any c y r a W h (In.sz hy) hcd a0 a1
  have RS := Lib.hid fun (y : Stt) (r : Rws) a W (hW : Lie W y r) hx9 => tp_c (Cs.raise_any c y.now a r.c y.cs r.cc W hW.c hW.cc hx9)
  have HQ := Lib.hid (show t3 c x = x.hs.foldl (t3h c) x from rfl)
  have HI := Lib.hid fun l hl => in_t3t hi c l hl
  have HU := Lib.hid hi.ha
  have RA := Lib.hid R0.out.h
  have k6 := S0.out.cx.key 2 _ rfl
  have Hx := Lib.hid (show ∃ r', Sb (w.alloc (Cfx c)) b (stl x r') ∧ Lie (w.alloc (Cfx c)) x r' from ⟨r, S0.out, R0.out⟩)
  obtain ⟨c5, hc5⟩ : ∃ c5, r.hc = c5 := ⟨_, rfl⟩
  obtain ⟨A5, hA5⟩ : ∃ A5, r.h = A5 := ⟨_, rfl⟩
  obtain ⟨xs, hxs⟩ : ∃ xs, x.hs = xs := ⟨_, rfl⟩
  simp only [hc5, hA5, hxs] at k6 RA HU HQ
  have hln := RA.out.1
  obtain ⟨L, hL⟩ : ∃ L, xs.length = L := ⟨_, rfl⟩
  have HL := Lib.hid hL
  have SB := Lib.hid S0.out.bs
  rw [hL] at k6 hln
  clear h H hi hL hc5 hA5 hxs S0 R0
  obtain ⟨c', hc'⟩ : ∃ c', c = c' := ⟨_, rfl⟩
  obtain ⟨xa, xb, xc, xd, xe, xf, xg, xh, xi⟩ := c
  subst hc'
  simp only [cfv, Cfx] at B0 C0 O0 ST RS RA Hx k6 SB ⊢
  go_enter Tryz.func59, Tryz.ntmps59
  go_wp2_with fail
  change (Code.loop _).wp _ _ _ (w.alloc (.cells #[.int .i64 xa, .int .i64 xb, .int .i64 xc, .int .i64 xd, .int .i64 xe, .int .i64 xf, .int .i64 xg, .int .i64 xh, .int .i64 xi] 27))
  generalize w.alloc (.cells #[.int .i64 xa, .int .i64 xb, .int .i64 xc, .int .i64 xd, .int .i64 xe, .int .i64 xf, .int .i64 xg, .int .i64 xh, .int .i64 xi] 27) = W0 at *
  go_loopw [13] (fun i wr => ∃ k : Nat, i = .int .i64 k ∧ k ≤ L ∧ Hid ((∃ r', Sb wr b (stl ((xs.take k).foldl (t3h ⟨xa, xb, xc, xd, xe, xf, xg, xh, xi⟩) x) r') ∧ Lie wr ((xs.take k).foldl (t3h ⟨xa, xb, xc, xd, xe, xf, xg, xh, xi⟩) x) r') ∧ Ob b W0 wr)) (fun i _ => L - (intOf i).toNat)
  case atStart => exact ⟨0, rfl, by omega, Lib.hid ⟨Hx.out, Ob.refl _ _⟩⟩
  case round =>
    obtain ⟨k, rfl, hk, HW⟩ := hrel
    clear k6
    by_cases hkL : k < L
    · obtain ⟨z, hz⟩ : ∃ z, xs[k]? = some z := ⟨_, List.getElem?_eq_getElem (by rw [HL.out]; exact hkL)⟩
      obtain ⟨y, rfl⟩ := Hl.hs_some RA.out (by rw [HL.out]; omega)
      have hat := (hs_ob RA.out SB.out HW.out.2).at hz
      have HZ := Lib.hid (HU.out z (List.mem_of_getElem? hz))
      have HF := Lib.hid (fold_take (t3h ⟨xa, xb, xc, xd, xe, xf, xg, xh, xi⟩) x hz)
      have BZ := Lib.hid (show Below wr.heap.size wr (wr.alloc (Hl.Hx z)) from (Below.refl _ _).alloc (Nat.le_refl _) _)
      obtain ⟨⟨r', hS', hR'⟩, hO'⟩ := HW.out
      have S1 := Lib.hid (hS'.below BZ.out)
      have R1 := Lib.hid (hR'.below BZ.out)
      have O1 := Lib.hid (hO'.trans (Ob.of BZ.out hS'.lt))
      have C1 := Lib.hid (cm_ob C0.out O1.out (by have := LT.out; omega))
      have HIK := Lib.hid (HI.out (xs.take k) (fun y hy => HU.out y (List.mem_of_mem_take hy)))
      have s0 : (wr.alloc (Hl.Hx z)).cell? ⟨wr.heap.size, 0, none⟩ = some (.int .u32 z.a) := by simp [Hl.Hx]
      have s1 : wr.heap.size < (wr.alloc (Hl.Hx z)).heap.size := by simp
      have Z0 := Lib.hid (show ∀ W, Below (wr.alloc (Hl.Hx z)).heap.size (wr.alloc (Hl.Hx z)) W → W.cell? ⟨wr.heap.size, 0, none⟩ = some (.int .u32 z.a) from fun W hS => by rw [hS.cell (p := ⟨wr.heap.size, 0, none⟩) s1]; exact s0)
      generalize (xs.take k).foldl (t3h ⟨xa, xb, xc, xd, xe, xf, xg, xh, xi⟩) x = X at *
      have HST := Lib.hid fun W hW => ST.out X r' z.a W hW HIK.out HZ.out.1 HZ.out.2
      have HRS := Lib.hid fun W hW => RS.out X r' z.a W hW HIK.out.sz.c
      have HT := Lib.hid (show t3h ⟨xa, xb, xc, xd, xe, xf, xg, xh, xi⟩ X z = _ from by unfold t3h; rfl)
      obtain ⟨V, hV⟩ : ∃ V, hoO ⟨xa, xb, xc, xd, xe, xf, xg, xh, xi⟩ X z.a = V := ⟨_, rfl⟩
      rw [hV] at HST HT
      obtain ⟨n, q, hs, sw, kn, pb, cs⟩ := X
      obtain ⟨A1', c1', A2', c2', A3', c3', A4', c4', A5', c5'⟩ := r'
      dsimp only at HRS HT
      obtain ⟨⟨ys, er⟩, hE⟩ : ∃ E, Cs.rsO xi n z.a cs = E := ⟨_, rfl⟩
      rw [hE] at HRS HT
      dsimp only at HRS HT
      have REP := Lib.hid fun A cap W H h hr hc => rep_c ⟨n, q, hs, sw, kn, pb, cs⟩ ⟨A1', c1', A2', c2', A3', c3', A4', c4', A5', c5'⟩ A ys cap er b W H h hr hc
      simp only [stv] at HST
      clear hz hS' hR' hO' HW hV hE s1 ST RS
      unfold Hl.Hx at *
      go_wp2_with (refine Hl.at_load33 (.tmp 15) rfl rfl (y.add (k * 8)) z rfl hat ?_)
      change (Code.region _ _ _).wp _ _ _ (wr.alloc (.cells #[.int .u32 z.a, .string z.T, .int .u8 z.m0, .int .u8 z.m1, .int .u8 z.m2, .int .u8 z.m3, .int .u8 z.m4, .int .u8 z.m5] 44))
      generalize wr.alloc (.cells #[.int .u32 z.a, .string z.T, .int .u8 z.m0, .int .u8 z.m1, .int .u8 z.m2, .int .u8 z.m3, .int .u8 z.m4, .int .u8 z.m5] 44) = w1 at *
      refine wp_region_below_tail 7 [fx (.agg #[.int .i64 xa, .int .i64 xb, .int .i64 xc, .int .i64 xd, .int .i64 xe, .int .i64 xf, .int .i64 xg, .int .i64 xh, .int .i64 xi]), fx (.pointer (some ⟨b, 0, none⟩)), fx (.pointer (some ⟨b, 0, none⟩)), fx (.agg #[.int .i64 n, .int .i64 q, .slice A1' hs.length c1', .slice A2' sw.length c2', .slice A3' kn.length c3', .slice A4' pb.length c4', .slice A5' cs.length c5']), fx (.pointer (some ⟨wr.heap.size, 0, none⟩)), fx (.int .u32 z.a), fx (.int .i64 V)]
        (by kernel_rfl) (by simp) (by kernel_rfl) (by kernel_rfl) (by kernel_rfl) ?_ ?_ ?_
      · simp only [List.mem_cons, List.not_mem_nil, or_false]
        rintro φ (rfl | rfl | rfl | rfl | rfl | rfl | rfl)
        all_goals first | exact stable_fx _ | exact stable_rF hld_h _ | exact stable_rF hld_s _ | exact stable_rF hld_k _ | exact stable_rF hld_p _ | exact stable_rF hld_c _ | exact stable_tF hld_h _ _ | exact stable_tF hld_s _ _ | exact stable_tF hld_k _ _ | exact stable_tF hld_p _ _ | exact stable_tF hld_c _ _
      · refine OgSteps.cons ?_ (OgSteps.cons ?_ (OgSteps.cons ?_ (OgSteps.cons ?_ (OgSteps.cons ?_ (OgSteps.cons ?_ (OgSteps.cons ?_ (OgSteps.nil)))))))
        · refine OgStep.pure ?_ ?_
          · rfl
          intro u W hS hp
          have C := C1.out.below hS
          have k0 := C.c0
          have k1 := C.c1
          have k2 := C.c2
          have k3 := C.c3
          have k4 := C.c4
          have k5 := C.c5
          have k6 := C.c6
          have k7 := C.c7
          have k8 := C.c8
          dsimp only at k0 k1 k2 k3 k4 k5 k6 k7 k8
          refine ⟨.agg #[.int .i64 xa, .int .i64 xb, .int .i64 xc, .int .i64 xd, .int .i64 xe, .int .i64 xf, .int .i64 xg, .int .i64 xh, .int .i64 xi], ?_, rfl⟩
          simp only [ogMk, Act.put, List.setIfInBounds_toArray, List.set_cons_zero, List.set_cons_succ, Nat.zero_add, Nat.reduceAdd, List.take_succ_cons, List.take_zero, List.drop_succ_cons, List.drop_zero]
          simp [execOp, Act.eval, go_sem, k0, k1, k2, k3, k4, k5, k6, k7, k8]
        · refine OgStep.pure ?_ ?_
          · rfl
          intro u W hS hp
          refine ⟨.pointer (some ⟨b, 0, none⟩), ?_, rfl⟩
          simp only [ogMk, Act.put, List.setIfInBounds_toArray, List.set_cons_zero, List.set_cons_succ, Nat.zero_add, Nat.reduceAdd, List.take_succ_cons, List.take_zero, List.drop_succ_cons, List.drop_zero]
          simp [execOp, Act.eval, go_sem]
        · refine OgStep.pure ?_ ?_
          · rfl
          intro u W hS hp
          have h1 : u 1 = .pointer (some ⟨b, 0, none⟩) := hp ⟨1, .data⟩ (by simp) rfl
          refine ⟨.pointer (some ⟨b, 0, none⟩), ?_, rfl⟩
          simp only [ogMk, Act.put, List.setIfInBounds_toArray, List.set_cons_zero, List.set_cons_succ, Nat.zero_add, Nat.reduceAdd, List.take_succ_cons, List.take_zero, List.drop_succ_cons, List.drop_zero]
          simp [execOp, Act.eval, go_sem, h1]
        · refine OgStep.pure ?_ ?_
          · rfl
          intro u W hS hp
          have h2 : u 2 = .pointer (some ⟨b, 0, none⟩) := hp ⟨2, .data⟩ (by simp) rfl
          have S := S1.out.below hS
          have j0 := S.cx.key 0 _ rfl
          have j1 := S.cx.key 1 _ rfl
          have j2 := S.cx.key 2 _ rfl
          have j3 := S.cx.key 3 _ rfl
          have j4 := S.cx.key 4 _ rfl
          have j5 := S.cx.key 5 _ rfl
          have j6 := S.cx.key 6 _ rfl
          dsimp only at j0 j1 j2 j3 j4 j5 j6
          refine ⟨.agg #[.int .i64 n, .int .i64 q, .slice A1' hs.length c1', .slice A2' sw.length c2', .slice A3' kn.length c3', .slice A4' pb.length c4', .slice A5' cs.length c5'], ?_, rfl⟩
          simp only [ogMk, Act.put, List.setIfInBounds_toArray, List.set_cons_zero, List.set_cons_succ, Nat.zero_add, Nat.reduceAdd, List.take_succ_cons, List.take_zero, List.drop_succ_cons, List.drop_zero]
          simp [execOp, Act.eval, go_sem, h2, j0, j1, j2, j3, j4, j5, j6]
        · refine OgStep.pure ?_ ?_
          · rfl
          intro u W hS hp
          refine ⟨.pointer (some ⟨wr.heap.size, 0, none⟩), ?_, rfl⟩
          simp only [ogMk, Act.put, List.setIfInBounds_toArray, List.set_cons_zero, List.set_cons_succ, Nat.zero_add, Nat.reduceAdd, List.take_succ_cons, List.take_zero, List.drop_succ_cons, List.drop_zero]
          simp [execOp, Act.eval, go_sem]
        · refine OgStep.pure ?_ ?_
          · rfl
          intro u W hS hp
          have h4 : u 4 = .pointer (some ⟨wr.heap.size, 0, none⟩) := hp ⟨4, .data⟩ (by simp) rfl
          have s0 := Z0.out W hS
          refine ⟨.int .u32 z.a, ?_, rfl⟩
          simp only [ogMk, Act.put, List.setIfInBounds_toArray, List.set_cons_zero, List.set_cons_succ, Nat.zero_add, Nat.reduceAdd, List.take_succ_cons, List.take_zero, List.drop_succ_cons, List.drop_zero]
          simp [execOp, Act.eval, go_sem, h4, s0]
        · refine OgStep.calls ?_ ?_
          · rfl
          intro u W hS hp
          have h0 : u 0 = .agg #[.int .i64 xa, .int .i64 xb, .int .i64 xc, .int .i64 xd, .int .i64 xe, .int .i64 xf, .int .i64 xg, .int .i64 xh, .int .i64 xi] := hp ⟨0, .data⟩ (by simp) rfl
          have h3 : u 3 = .agg #[.int .i64 n, .int .i64 q, .slice A1' hs.length c1', .slice A2' sw.length c2', .slice A3' kn.length c3', .slice A4' pb.length c4', .slice A5' cs.length c5'] := hp ⟨3, .data⟩ (by simp) rfl
          have h5 : u 5 = .int .u32 z.a := hp ⟨5, .data⟩ (by simp) rfl
          refine ⟨19, #[.agg #[.int .i64 xa, .int .i64 xb, .int .i64 xc, .int .i64 xd, .int .i64 xe, .int .i64 xf, .int .i64 xg, .int .i64 xh, .int .i64 xi], .agg #[.int .i64 n, .int .i64 q, .slice A1' hs.length c1', .slice A2' sw.length c2', .slice A3' kn.length c3', .slice A4' pb.length c4', .slice A5' cs.length c5'], .int .u32 z.a], ?_, calls_fx (HST.out W (R1.out.below hS)) rfl⟩
          simp only [ogMk, Act.put, List.setIfInBounds_toArray, List.set_cons_zero, List.set_cons_succ, Nat.zero_add, Nat.reduceAdd, List.take_succ_cons, List.take_zero, List.drop_succ_cons, List.drop_zero]
          simp [execOp, Act.eval, go_sem, h0, h3, h5]
      · intro u W hS hF
        have e0 : u 0 = .agg #[.int .i64 xa, .int .i64 xb, .int .i64 xc, .int .i64 xd, .int .i64 xe, .int .i64 xf, .int .i64 xg, .int .i64 xh, .int .i64 xi] := hF 0 (by decide)
        have e1 : u 1 = .pointer (some ⟨b, 0, none⟩) := hF 1 (by decide)
        have e2 : u 2 = .pointer (some ⟨b, 0, none⟩) := hF 2 (by decide)
        have e3 : u 3 = .agg #[.int .i64 n, .int .i64 q, .slice A1' hs.length c1', .slice A2' sw.length c2', .slice A3' kn.length c3', .slice A4' pb.length c4', .slice A5' cs.length c5'] := hF 3 (by decide)
        have e4 : u 4 = .pointer (some ⟨wr.heap.size, 0, none⟩) := hF 4 (by decide)
        have e5 : u 5 = .int .u32 z.a := hF 5 (by decide)
        have e6 : u 6 = .int .i64 V := hF 6 (by decide)
        simp only [ogMk, Act.put, List.setIfInBounds_toArray, List.set_cons_zero, List.set_cons_succ, Nat.zero_add, Nat.reduceAdd, List.take_succ_cons, List.take_zero, List.drop_succ_cons, List.drop_zero]
        rw [e0, e1, e2, e3, e4, e5, e6]
        clear e0 e1 e2 e3 e4 e5 e6 hF
        have R2 := Lib.hid (R1.out.below hS)
        have S2 := Lib.hid (S1.out.below hS)
        have C2 := Lib.hid (C1.out.below hS)
        have Z2 := Lib.hid fun W2 (hS2 : Below W.heap.size W W2) => Z0.out W2 (hS.trans (hS2.mono hS.size))
        have O2 := Lib.hid (O1.out.trans (Ob.of hS S1.out.lt))
        clear hS
        by_cases h0 : V = 3
        · subst h0
          go_wp2_with fail
          refine wp_region_below [fx (.agg #[.int .i64 xa, .int .i64 xb, .int .i64 xc, .int .i64 xd, .int .i64 xe, .int .i64 xf, .int .i64 xg, .int .i64 xh, .int .i64 xi]), fx (.pointer (some ⟨b, 0, none⟩)), fx (.pointer (some ⟨b, 0, none⟩)), fx (.pointer (some ⟨b, 6, none⟩)), fx (.slice A5' cs.length c5'), fx (.pointer (some ⟨wr.heap.size, 0, none⟩)), fx (.int .u32 z.a), fx (.pointer (some ⟨b, 0, none⟩)), fx (.pointer (some ⟨b, 0, none⟩)), fx (.pointer (some ⟨b, 0, none⟩)), fx (.int .i64 n), tF Rc ys er, tF Rc ys er, rF Rc ys, fx (.int .i64 er), rF Rc ys, fx (.int .i64 er)]
            (by kernel_rfl) (by kernel_rfl) (by kernel_rfl) ?_ ?_ ?_
          · simp only [List.mem_cons, List.not_mem_nil, or_false]
            rintro φ (rfl | rfl | rfl | rfl | rfl | rfl | rfl | rfl | rfl | rfl | rfl | rfl | rfl | rfl | rfl | rfl | rfl)
            all_goals first | exact stable_fx _ | exact stable_rF hld_h _ | exact stable_rF hld_s _ | exact stable_rF hld_k _ | exact stable_rF hld_p _ | exact stable_rF hld_c _ | exact stable_tF hld_h _ _ | exact stable_tF hld_s _ _ | exact stable_tF hld_k _ _ | exact stable_tF hld_p _ _ | exact stable_tF hld_c _ _
          · refine OgSteps.cons ?_ (OgSteps.cons ?_ (OgSteps.cons ?_ (OgSteps.cons ?_ (OgSteps.cons ?_ (OgSteps.cons ?_ (OgSteps.cons ?_ (OgSteps.cons ?_ (OgSteps.cons ?_ (OgSteps.cons ?_ (OgSteps.cons ?_ (OgSteps.cons ?_ (OgSteps.cons ?_ (OgSteps.cons ?_ (OgSteps.cons ?_ (OgSteps.cons ?_ (OgSteps.cons ?_ (OgSteps.nil)))))))))))))))))
            · refine OgStep.pure ?_ ?_
              · rfl
              intro u W hS hp
              have C := C2.out.below hS
              have k0 := C.c0
              have k1 := C.c1
              have k2 := C.c2
              have k3 := C.c3
              have k4 := C.c4
              have k5 := C.c5
              have k6 := C.c6
              have k7 := C.c7
              have k8 := C.c8
              dsimp only at k0 k1 k2 k3 k4 k5 k6 k7 k8
              refine ⟨.agg #[.int .i64 xa, .int .i64 xb, .int .i64 xc, .int .i64 xd, .int .i64 xe, .int .i64 xf, .int .i64 xg, .int .i64 xh, .int .i64 xi], ?_, rfl⟩
              simp only [ogMk, Act.put, List.setIfInBounds_toArray, List.set_cons_zero, List.set_cons_succ, Nat.zero_add, Nat.reduceAdd, List.take_succ_cons, List.take_zero, List.drop_succ_cons, List.drop_zero]
              simp [execOp, Act.eval, go_sem, k0, k1, k2, k3, k4, k5, k6, k7, k8]
            · refine OgStep.pure ?_ ?_
              · rfl
              intro u W hS hp
              refine ⟨.pointer (some ⟨b, 0, none⟩), ?_, rfl⟩
              simp only [ogMk, Act.put, List.setIfInBounds_toArray, List.set_cons_zero, List.set_cons_succ, Nat.zero_add, Nat.reduceAdd, List.take_succ_cons, List.take_zero, List.drop_succ_cons, List.drop_zero]
              simp [execOp, Act.eval, go_sem]
            · refine OgStep.pure ?_ ?_
              · rfl
              intro u W hS hp
              have h1 : u 1 = .pointer (some ⟨b, 0, none⟩) := hp ⟨1, .data⟩ (by simp) rfl
              refine ⟨.pointer (some ⟨b, 0, none⟩), ?_, rfl⟩
              simp only [ogMk, Act.put, List.setIfInBounds_toArray, List.set_cons_zero, List.set_cons_succ, Nat.zero_add, Nat.reduceAdd, List.take_succ_cons, List.take_zero, List.drop_succ_cons, List.drop_zero]
              simp [execOp, Act.eval, go_sem, h1]
            · refine OgStep.pure ?_ ?_
              · rfl
              intro u W hS hp
              have h2 : u 2 = .pointer (some ⟨b, 0, none⟩) := hp ⟨2, .data⟩ (by simp) rfl
              refine ⟨.pointer (some ⟨b, 6, none⟩), ?_, rfl⟩
              simp only [ogMk, Act.put, List.setIfInBounds_toArray, List.set_cons_zero, List.set_cons_succ, Nat.zero_add, Nat.reduceAdd, List.take_succ_cons, List.take_zero, List.drop_succ_cons, List.drop_zero]
              simp [execOp, Act.eval, go_sem, h2]
            · refine OgStep.pure ?_ ?_
              · rfl
              intro u W hS hp
              have h3 : u 3 = .pointer (some ⟨b, 6, none⟩) := hp ⟨3, .data⟩ (by simp) rfl
              have k6 := (S2.out.below hS).cx.key 6 _ rfl
              dsimp only at k6
              refine ⟨.slice A5' cs.length c5', ?_, rfl⟩
              simp only [ogMk, Act.put, List.setIfInBounds_toArray, List.set_cons_zero, List.set_cons_succ, Nat.zero_add, Nat.reduceAdd, List.take_succ_cons, List.take_zero, List.drop_succ_cons, List.drop_zero]
              simp [execOp, Act.eval, go_sem, h3, k6]
            · refine OgStep.pure ?_ ?_
              · rfl
              intro u W hS hp
              refine ⟨.pointer (some ⟨wr.heap.size, 0, none⟩), ?_, rfl⟩
              simp only [ogMk, Act.put, List.setIfInBounds_toArray, List.set_cons_zero, List.set_cons_succ, Nat.zero_add, Nat.reduceAdd, List.take_succ_cons, List.take_zero, List.drop_succ_cons, List.drop_zero]
              simp [execOp, Act.eval, go_sem]
            · refine OgStep.pure ?_ ?_
              · rfl
              intro u W hS hp
              have h5 : u 5 = .pointer (some ⟨wr.heap.size, 0, none⟩) := hp ⟨5, .data⟩ (by simp) rfl
              have s0 := Z2.out W hS
              refine ⟨.int .u32 z.a, ?_, rfl⟩
              simp only [ogMk, Act.put, List.setIfInBounds_toArray, List.set_cons_zero, List.set_cons_succ, Nat.zero_add, Nat.reduceAdd, List.take_succ_cons, List.take_zero, List.drop_succ_cons, List.drop_zero]
              simp [execOp, Act.eval, go_sem, h5, s0]
            · refine OgStep.pure ?_ ?_
              · rfl
              intro u W hS hp
              refine ⟨.pointer (some ⟨b, 0, none⟩), ?_, rfl⟩
              simp only [ogMk, Act.put, List.setIfInBounds_toArray, List.set_cons_zero, List.set_cons_succ, Nat.zero_add, Nat.reduceAdd, List.take_succ_cons, List.take_zero, List.drop_succ_cons, List.drop_zero]
              simp [execOp, Act.eval, go_sem]
            · refine OgStep.pure ?_ ?_
              · rfl
              intro u W hS hp
              have h7 : u 7 = .pointer (some ⟨b, 0, none⟩) := hp ⟨7, .data⟩ (by simp) rfl
              refine ⟨.pointer (some ⟨b, 0, none⟩), ?_, rfl⟩
              simp only [ogMk, Act.put, List.setIfInBounds_toArray, List.set_cons_zero, List.set_cons_succ, Nat.zero_add, Nat.reduceAdd, List.take_succ_cons, List.take_zero, List.drop_succ_cons, List.drop_zero]
              simp [execOp, Act.eval, go_sem, h7]
            · refine OgStep.pure ?_ ?_
              · rfl
              intro u W hS hp
              have h8 : u 8 = .pointer (some ⟨b, 0, none⟩) := hp ⟨8, .data⟩ (by simp) rfl
              refine ⟨.pointer (some ⟨b, 0, none⟩), ?_, rfl⟩
              simp only [ogMk, Act.put, List.setIfInBounds_toArray, List.set_cons_zero, List.set_cons_succ, Nat.zero_add, Nat.reduceAdd, List.take_succ_cons, List.take_zero, List.drop_succ_cons, List.drop_zero]
              simp [execOp, Act.eval, go_sem, h8]
            · refine OgStep.pure ?_ ?_
              · rfl
              intro u W hS hp
              have h9 : u 9 = .pointer (some ⟨b, 0, none⟩) := hp ⟨9, .data⟩ (by simp) rfl
              have k0 := (S2.out.below hS).cx.key 0 _ rfl
              dsimp only at k0
              refine ⟨.int .i64 n, ?_, rfl⟩
              simp only [ogMk, Act.put, List.setIfInBounds_toArray, List.set_cons_zero, List.set_cons_succ, Nat.zero_add, Nat.reduceAdd, List.take_succ_cons, List.take_zero, List.drop_succ_cons, List.drop_zero]
              simp [execOp, Act.eval, go_sem, h9, k0]
            · refine OgStep.calls ?_ ?_
              · rfl
              intro u W hS hp
              have h0 : u 0 = .agg #[.int .i64 xa, .int .i64 xb, .int .i64 xc, .int .i64 xd, .int .i64 xe, .int .i64 xf, .int .i64 xg, .int .i64 xh, .int .i64 xi] := hp ⟨0, .data⟩ (by simp) rfl
              have h4 : u 4 = .slice A5' cs.length c5' := hp ⟨4, .data⟩ (by simp) rfl
              have h6 : u 6 = .int .u32 z.a := hp ⟨6, .data⟩ (by simp) rfl
              have h10 : u 10 = .int .i64 n := hp ⟨10, .data⟩ (by simp) rfl
              refine ⟨68, #[.agg #[.int .i64 xa, .int .i64 xb, .int .i64 xc, .int .i64 xd, .int .i64 xe, .int .i64 xf, .int .i64 xg, .int .i64 xh, .int .i64 xi], .slice A5' cs.length c5', .int .u32 z.a, .int .i64 n], ?_, calls_tF (HRS.out W (R2.out.below hS)) rfl⟩
              simp only [ogMk, Act.put, List.setIfInBounds_toArray, List.set_cons_zero, List.set_cons_succ, Nat.zero_add, Nat.reduceAdd, List.take_succ_cons, List.take_zero, List.drop_succ_cons, List.drop_zero]
              simp [execOp, Act.eval, go_sem, h0, h4, h6, h10]
            · refine OgStep.pure ?_ ?_
              · rfl
              intro u W hS hp
              obtain ⟨A7, c7, e7, h7⟩ : tF Rc ys er (u 11) W := hp ⟨11, .data⟩ (by simp) rfl
              refine ⟨.tuple #[.slice A7 ys.length c7, .int .i64 er], ?_, ⟨A7, c7, rfl, h7⟩⟩
              simp only [ogMk, Act.put, List.setIfInBounds_toArray, List.set_cons_zero, List.set_cons_succ, Nat.zero_add, Nat.reduceAdd, List.take_succ_cons, List.take_zero, List.drop_succ_cons, List.drop_zero]
              simp [execOp, Act.eval, go_sem, e7]
            · refine OgStep.pure ?_ ?_
              · rfl
              intro u W hS hp
              obtain ⟨A7, c7, e7, h7⟩ : tF Rc ys er (u 12) W := hp ⟨12, .data⟩ (by simp) rfl
              refine ⟨.slice A7 ys.length c7, ?_, ⟨A7, c7, rfl, h7⟩⟩
              simp only [ogMk, Act.put, List.setIfInBounds_toArray, List.set_cons_zero, List.set_cons_succ, Nat.zero_add, Nat.reduceAdd, List.take_succ_cons, List.take_zero, List.drop_succ_cons, List.drop_zero]
              simp [execOp, Act.eval, go_sem, e7]
            · refine OgStep.pure ?_ ?_
              · rfl
              intro u W hS hp
              obtain ⟨A7, c7, e7, h7⟩ : tF Rc ys er (u 12) W := hp ⟨12, .data⟩ (by simp) rfl
              refine ⟨.int .i64 er, ?_, rfl⟩
              simp only [ogMk, Act.put, List.setIfInBounds_toArray, List.set_cons_zero, List.set_cons_succ, Nat.zero_add, Nat.reduceAdd, List.take_succ_cons, List.take_zero, List.drop_succ_cons, List.drop_zero]
              simp [execOp, Act.eval, go_sem, e7]
            · refine OgStep.pure ?_ ?_
              · rfl
              intro u W hS hp
              obtain ⟨A7, c7, e7, h7⟩ : rF Rc ys (u 13) W := hp ⟨13, .data⟩ (by simp) rfl
              refine ⟨.slice A7 ys.length c7, ?_, ⟨A7, c7, rfl, h7⟩⟩
              simp only [ogMk, Act.put, List.setIfInBounds_toArray, List.set_cons_zero, List.set_cons_succ, Nat.zero_add, Nat.reduceAdd, List.take_succ_cons, List.take_zero, List.drop_succ_cons, List.drop_zero]
              simp [execOp, Act.eval, go_sem, e7]
            · refine OgStep.pure ?_ ?_
              · rfl
              intro u W hS hp
              have h14 : u 14 = .int .i64 er := hp ⟨14, .data⟩ (by simp) rfl
              refine ⟨.int .i64 er, ?_, rfl⟩
              simp only [ogMk, Act.put, List.setIfInBounds_toArray, List.set_cons_zero, List.set_cons_succ, Nat.zero_add, Nat.reduceAdd, List.take_succ_cons, List.take_zero, List.drop_succ_cons, List.drop_zero]
              simp [execOp, Act.eval, go_sem, h14]
          · intro u W3 hS hF
            have e0 : u 0 = .agg #[.int .i64 xa, .int .i64 xb, .int .i64 xc, .int .i64 xd, .int .i64 xe, .int .i64 xf, .int .i64 xg, .int .i64 xh, .int .i64 xi] := hF 0 (by decide)
            have e1 : u 1 = .pointer (some ⟨b, 0, none⟩) := hF 1 (by decide)
            have e2 : u 2 = .pointer (some ⟨b, 0, none⟩) := hF 2 (by decide)
            have e3 : u 3 = .pointer (some ⟨b, 6, none⟩) := hF 3 (by decide)
            have e4 : u 4 = .slice A5' cs.length c5' := hF 4 (by decide)
            have e5 : u 5 = .pointer (some ⟨wr.heap.size, 0, none⟩) := hF 5 (by decide)
            have e6 : u 6 = .int .u32 z.a := hF 6 (by decide)
            have e7 : u 7 = .pointer (some ⟨b, 0, none⟩) := hF 7 (by decide)
            have e8 : u 8 = .pointer (some ⟨b, 0, none⟩) := hF 8 (by decide)
            have e9 : u 9 = .pointer (some ⟨b, 0, none⟩) := hF 9 (by decide)
            have e10 : u 10 = .int .i64 n := hF 10 (by decide)
            have e14 : u 14 = .int .i64 er := hF 14 (by decide)
            have e16 : u 16 = .int .i64 er := hF 16 (by decide)
            obtain ⟨A6, c6, e15, hc6, hR6⟩ : rF Rc ys (u 15) W3 := hF 15 (by decide)
            simp only [ogMk, Act.put, List.setIfInBounds_toArray, List.set_cons_zero, List.set_cons_succ, Nat.zero_add, Nat.reduceAdd, List.take_succ_cons, List.take_zero, List.drop_succ_cons, List.drop_zero]
            rw [e0, e1, e2, e3, e4, e5, e6, e7, e8, e9, e10, e14, e16, e15]
            clear e0 e1 e2 e3 e4 e5 e6 e7 e8 e9 e10 e14 e16 e15 hF
            have R3 := Lib.hid (R2.out.below hS)
            have S3 := Lib.hid (S2.out.below hS)
            have O3 := Lib.hid (O2.out.trans (Ob.of hS S2.out.lt))
            clear hS
            go_wp2_with fail
            refine (REP.out A6 c6 W3 S3.out R3.out hR6 hc6).mono ?_
            rintro e w4 ⟨rfl, hst, O4⟩
            have HW4 := Lib.hid (show (∃ r', Sb w4 b (stl (if er = 0 then ⟨n, q, hs, sw, kn, pb, ys⟩ else ⟨n, q, hs, sw, kn, pb, cs⟩) r') ∧ Lie w4 (if er = 0 then ⟨n, q, hs, sw, kn, pb, ys⟩ else ⟨n, q, hs, sw, kn, pb, cs⟩) r') ∧ Ob b W0 w4 from ⟨hst, O3.out.trans O4⟩)
            clear hst O4
            go_wp2_with fail
            go_roundw
            case rel => exact ⟨k + 1, by go_num, by omega, Lib.hid ⟨by rw [HF.out, HT.out, if_pos_and]; exact HW4.out.1, HW4.out.2⟩⟩
            case measure => simp [intOf]; omega
        · go_wp2_with fail
          go_roundw
          case rel => exact ⟨k + 1, by go_num, by omega, Lib.hid ⟨by rw [HF.out, HT.out, if_neg (fun hh => h0 hh.1)]; exact ⟨_, S2.out, R2.out⟩, O2.out⟩⟩
          case measure => simp [intOf]; omega
    · obtain rfl : k = L := by omega
      have hW := HW.out
      rw [List.take_of_length_le (by rw [HL.out]; exact Nat.le_refl _), ← HQ.out] at hW
      have HW2 := Lib.hid hW
      clear hW
      go_wp2_with fail
      go_end0
      exact ⟨rfl, HW2.out.1, O0.out.trans HW2.out.2⟩
end Go.Proofs.YtilneflfeegnfaaGreat
namespace Go.Proofs.YtilneflfeegnfaaGreat
open Go.RowKit
def wnt (c : Cf) (x : Stt) (a : Int) : Bool := Hl.isAt x.hs a || (Sn.any (Sn.sg x.kn a) && wi x.now (Sn.tk (Sn.sg x.kn a)) c.b)
theorem kp_r {f : FuncId} {args : Array Value} {W : World} {ys : List Sn.Kp} {Φ : List (Value → World → Prop)} {i : Nat} (h : Calls Tryz.prog f args W (Sn.KPost W ys)) (hi : fAt Φ i = rF Rk ys) :
    Calls Tryz.prog f args W fun e w' => ∃ v, e = .returned v ∧ Below W.heap.size W w' ∧ fAt Φ i v w' := by
  rw [hi]
  exact h.mono fun e w' ⟨v, he, hb, A, cap, hv, hc, _, hr⟩ => ⟨v, he, hb, A, cap, hv, hc, hr⟩
theorem callFunc_enter {f : FuncId} {fn : Func} {c : Code} (hf : Tryz.prog.funcs[f]? = some fn) (hname : (fn.name == "runtime.NumGoroutine") = false) (hb : fn.body = some c) (args : Array Value) (w : World) :
    (callFunc f args).run Tryz.prog w = .ok (.enter f args) w := by
  have h1 : fn.name ≠ "runtime.NumGoroutine" := by simpa using hname
  simp [callFunc, hf, h1, hb]
theorem tk_in {x : Stt} (h : In x) {k : Sn.Kp} (hk : k ∈ x.kn) : 0 ≤ Sn.tk k.ss ∧ Sn.tk k.ss ≤ x.now := by
  have h1 := ((Sn.rsB_iff _).1 (h.kv.ok k hk)).1.1
  unfold Sn.tk
  rw [List.getElem?_eq_getElem (by omega)]
  exact h.kt k hk _ (List.getElem_mem _)
theorem wnt_eq {x : Stt} (h : In x) (c : Cf) {k : Sn.Kp} (hk : k ∈ x.kn) : wnt c x k.a = (Hl.isAt x.hs k.a || decide (x.now - Sn.tk k.ss < c.b)) := by
  obtain ⟨h1, h2⟩ := h.kv.srt.mem hk
  obtain ⟨h3, h4⟩ := tk_in h hk
  have h5 := h.n1
  unfold wnt
  rw [h.kv.any, h1, h2, Bool.true_and]
  congr 1
  unfold wi si
  rw [cl_in (by omega) h5, cl_in h3 (by omega), show decide (0 ≤ x.now - Sn.tk k.ss) = true from decide_eq_true (by omega), Bool.true_and]
theorem t4_wnt {x : Stt} (h : In x) (c : Cf) : t4 c x = { x with kn := x.kn.filter fun k => Sn.wB (wnt c x) k.a } := by
  unfold t4
  congr 1
  exact List.filter_congr fun k hk => (wnt_eq h c hk).symm
set_option maxRecDepth 100000 in
set_option maxHeartbeats 4000000 in
theorem fg_any (c : Cf) (x : Stt) (r : Rws) (a : Int) (b sb cb : Nat) (w : World) (hp : w.cell? ⟨sb, 0, none⟩ = some (.pointer (some ⟨b, 0, none⟩))) (hc : Cm w cb c) (H : Sb w b (stl x r)) (h : Lie w x r) (ha0 : 0 ≤ a) (ha1 : a < 4294967296) :
    Calls Tryz.prog 100 #[.int .u32 a, .pointer (some ⟨sb, 0, none⟩), .pointer (some ⟨cb, 0, none⟩)] w fun e w' => e = .returned (.bool (wnt c x a)) ∧ Below w.heap.size w w' := by
  have HG := Lib.hid fun W (hW : Lie W x r) => Hl.get_any a r.h x.hs r.hc W hW.h hW.hc ha0 ha1
  have HL := Lib.hid fun W (hW : Lie W x r) => Sn.last_any a r.k x.kn r.kc W hW.k hW.kc ha0 ha1
  have HQ := Lib.hid (show wnt c x a = _ from by unfold wnt; rfl)
  obtain ⟨hld, hh⟩ : ∃ b, Hl.isAt x.hs a = b := ⟨_, rfl⟩
  obtain ⟨y, hy⟩ : ∃ y, Hl.gt x.hs a = y := ⟨_, rfl⟩
  obtain ⟨sn, hsn⟩ : ∃ b, Sn.any (Sn.sg x.kn a) = b := ⟨_, rfl⟩
  obtain ⟨t, ht⟩ : ∃ t, Sn.tk (Sn.sg x.kn a) = t := ⟨_, rfl⟩
  rw [hh, hy] at HG
  rw [hsn, ht] at HL
  rw [hh, hsn, ht] at HQ
  have PB := Lib.hid hp
  have C0 := Lib.hid hc
  have S0 := Lib.hid H
  have R0 := Lib.hid h
  have LP := Lib.hid (World.block_lt_of_cell? _ _ hp)
  obtain ⟨n, q, hs, sw, kn, pb, cs⟩ := x
  obtain ⟨A1, c1, A2, c2, A3, c3, A4, c4, A5, c5⟩ := r
  obtain ⟨xa, xb, xc, xd, xe, xf, xg, xh, xi⟩ := c
  dsimp only at HG HL HQ
  have HWI := Lib.hid fun W => Cs.within_any n t xb W
  obtain ⟨wv, hwv⟩ : ∃ wv, wi n t xb = wv := ⟨_, rfl⟩
  rw [hwv] at HWI HQ
  obtain ⟨a', o, m0, m1, m2, m3, m4, m5⟩ := y
  simp only [Hl.hv] at HG
  have k2 := S0.out.cx.key 2 _ rfl
  dsimp only at k2
  clear h H hc hh hy hsn ht hwv
  go_enter Tryz.func100, Tryz.ntmps100
  go_wp2_with fail
  refine (HG.out _ R0.out).mono ?_
  rintro e w1 ⟨rfl, hb⟩
  clear k2 hp
  have BX := Lib.hid (show Below w.heap.size w (w1.alloc (.cells #[.int .u32 a', .string o, .int .u8 m0, .int .u8 m1, .int .u8 m2, .int .u8 m3, .int .u8 m4, .int .u8 m5] 44)) from hb.trans ((Below.refl _ w1).alloc hb.size _))
  have R1 := Lib.hid (R0.out.below BX.out)
  have k4 := (S0.out.below BX.out).cx.key 4 _ rfl
  have kp : (w1.alloc (.cells #[.int .u32 a', .string o, .int .u8 m0, .int .u8 m1, .int .u8 m2, .int .u8 m3, .int .u8 m4, .int .u8 m5] 44)).cell? ⟨sb, 0, none⟩ = some (.pointer (some ⟨b, 0, none⟩)) := by rw [BX.out.cell (p := ⟨sb, 0, none⟩) LP.out]; exact PB.out
  dsimp only at k4
  clear hb
  go_wp2_with fail
  change Calls _ _ _ (w1.alloc (.cells #[.int .u32 a', .string o, .int .u8 m0, .int .u8 m1, .int .u8 m2, .int .u8 m3, .int .u8 m4, .int .u8 m5] 44)) _
  generalize w1.alloc (.cells #[.int .u32 a', .string o, .int .u8 m0, .int .u8 m1, .int .u8 m2, .int .u8 m3, .int .u8 m4, .int .u8 m5] 44) = W1 at *
  refine (HL.out _ R1.out).mono ?_
  rintro e w2 ⟨rfl, m, rfl⟩
  clear k4 kp
  have B2 := Lib.hid (bdrewN BX.out m)
  generalize W1.drewN m = W2 at *
  have kp : ∀ W, (∃ m, W = W2.drewN m) → W.cell? ⟨sb, 0, none⟩ = some (.pointer (some ⟨b, 0, none⟩)) := fun W hW => by
    obtain ⟨m, rfl⟩ := hW
    rw [(bdrewN B2.out m).cell (p := ⟨sb, 0, none⟩) LP.out]; exact PB.out
  have k0 : W2.cell? ⟨b, 0, none⟩ = some (.int .i64 n) := (S0.out.below B2.out).cx.key 0 _ rfl
  have kq : W2.cell? ⟨sb, 0, none⟩ = some (.pointer (some ⟨b, 0, none⟩)) := kp _ ⟨0, rfl⟩
  have kc : W2.cell? ⟨cb, 1, none⟩ = some (.int .i64 xb) := (C0.out.below B2.out).c1
  go_upto_region 3 with fail
  clear kp
  cases hld
  · cases sn
    · refine wp_region_quiet_lit (by kernel_rfl) (by kernel_rfl) ?_
      (try simp only [Act.put])
      repeat (go_big_quiet_step (fail))
      refine wpQuiet_nil ?_
      rintro w8 ⟨m8, rfl⟩
      go_wp2_with fail
      go_ret
      exact ⟨ret_bool (by rw [HQ.out]; rfl), bdrewN B2.out m8⟩
    · have HWR := Lib.hid fun (W : World) => (HWI.out W).mono (R' := fun e w' => e = .returned (.bool wv) ∧ w' = W) fun _ _ h => ⟨h.1, h.2.symm⟩
      refine wp_region_quiet_lit (by kernel_rfl) (by kernel_rfl) ?_
      (try simp only [Act.put])
      repeat (go_big_quiet_step ((go_at_call 95; exact Calls.quiet_of_same (HWR.out _))))
      refine wpQuiet_nil ?_
      rintro w8 ⟨m8, rfl⟩
      go_wp2_with fail
      go_ret
      exact ⟨ret_bool (by rw [HQ.out]; rfl), bdrewN B2.out m8⟩
  · refine wp_region_quiet_lit (by kernel_rfl) (by kernel_rfl) ?_
    (try simp only [Act.put])
    repeat (go_big_quiet_step (fail))
    refine wpQuiet_nil ?_
    rintro w8 ⟨m8, rfl⟩
    go_wp2_with fail
    go_ret
    exact ⟨ret_bool (by rw [HQ.out]; rfl), bdrewN B2.out m8⟩
set_option maxRecDepth 100000 in
set_option maxHeartbeats 4000000 in
theorem forgetS_any (c : Cf) (x : Stt) (r : Rws) (b : Nat) (w : World) (H : Sb w b (stl x r)) (h : Lie w x r) (hi : In x) :
    Calls Tryz.prog 60 #[cfv c, .pointer (some ⟨b, 0, none⟩)] w (PP w b (t4 c x) (.returned (.tuple #[]))) := by
  have B1 := Lib.hid (show Below w.heap.size w (w.alloc (Cfx c)) from (Below.refl _ w).alloc (Nat.le_refl _) _)
  have BB := Lib.hid (show Below (w.alloc (Cfx c)).heap.size (w.alloc (Cfx c)) ((w.alloc (Cfx c)).alloc (.cells #[.pointer (some ⟨b, 0, none⟩)] 83)) from (Below.refl _ _).alloc (Nat.le_refl _) _)
  have B0 := Lib.hid (bthen B1.out BB.out B1.out.size)
  have C0 := Lib.hid ((cm_box w c).below BB.out)
  have S0 := Lib.hid (H.below B0.out)
  have R0 := Lib.hid (h.below B0.out)
  have O0 := Lib.hid (Ob.of B0.out H.lt)
  have hp : ((w.alloc (Cfx c)).alloc (.cells #[.pointer (some ⟨b, 0, none⟩)] 83)).cell? ⟨w.heap.size + 1, 0, none⟩ = some (.pointer (some ⟨b, 0, none⟩)) := by simp
  have hl : w.heap.size + 1 < ((w.alloc (Cfx c)).alloc (.cells #[.pointer (some ⟨b, 0, none⟩)] 83)).heap.size := by simp
  have HQ := Lib.hid (t4_wnt hi c)
  have HBD := Lib.hid hi.kv.bd
  have HKA := Lib.hid hi.ka
  obtain ⟨W0, hW0⟩ : ∃ W0, (w.alloc (Cfx c)).alloc (.cells #[.pointer (some ⟨b, 0, none⟩)] 83) = W0 := ⟨_, rfl⟩
  have HW0 := Lib.hid hW0
  rw [hW0] at BB B0 C0 S0 R0 O0 hp hl
  have PB := Lib.hid fun W (hS : Below W0.heap.size W0 W) => (hS.cell (p := ⟨w.heap.size + 1, 0, none⟩) hl).trans hp
  have HFG := Lib.hid fun W (hS : Below W0.heap.size W0 W) => Sn.forget_any (wnt c x) 100 #[.pointer (some ⟨w.heap.size + 1, 0, none⟩), .pointer (some ⟨w.heap.size, 0, none⟩)] (fun args W => callFunc_enter Tryz.func100 (by kernel_rfl) rfl args W) r.k x.kn r.kc W (R0.out.below hS).k (R0.out.below hS).kc HBD.out
    (fun k hk V hV => fg_any c x r k.a b (w.heap.size + 1) w.heap.size V (PB.out V (hS.trans (hV.mono hS.size))) (C0.out.below (hS.trans (hV.mono hS.size))) (S0.out.below (hS.trans (hV.mono hS.size))) (R0.out.below (hS.trans (hV.mono hS.size))) (HKA.out k hk).1 (HKA.out k hk).2)
  obtain ⟨ys, hys⟩ : ∃ ys, (x.kn.filter fun k => Sn.wB (wnt c x) k.a) = ys := ⟨_, rfl⟩
  rw [hys] at HFG HQ
  clear h H hi hW0 hp hl hys HKA HBD
  obtain ⟨n, q, hs, sw, kn, pb, cs⟩ := x
  obtain ⟨A1, c1, A2, c2, A3, c3, A4, c4, A5, c5⟩ := r
  dsimp only at HFG HQ
  obtain ⟨xa, xb, xc, xd, xe, xf, xg, xh, xi⟩ := c
  simp only [cfv, Cfx] at HW0 ⊢
  go_enter Tryz.func60, Tryz.ntmps60
  go_wp2_with fail
  rw [HW0.out]
  refine wp_region_below_tail 7 [fx (.pointer (some ⟨b, 0, none⟩)), fx (.pointer (some ⟨b, 0, none⟩)), fx (.pointer (some ⟨b, 0, none⟩)), fx (.pointer (some ⟨b, 4, none⟩)), fx (.slice A3 kn.length c3), fx (.func (.func 100) #[] #[.pointer (some ⟨w.heap.size + 1, 0, none⟩), .pointer (some ⟨w.heap.size, 0, none⟩)]), rF Rk ys]
    (by kernel_rfl) (by simp) (by kernel_rfl) (by kernel_rfl) (by kernel_rfl) ?_ ?_ ?_
  · simp only [List.mem_cons, List.not_mem_nil, or_false]
    rintro φ (rfl | rfl | rfl | rfl | rfl | rfl | rfl)
    all_goals first | exact stable_fx _ | exact stable_rF hld_h _ | exact stable_rF hld_s _ | exact stable_rF hld_k _ | exact stable_rF hld_p _ | exact stable_rF hld_c _ | exact stable_tF hld_h _ _ | exact stable_tF hld_s _ _ | exact stable_tF hld_k _ _ | exact stable_tF hld_p _ _ | exact stable_tF hld_c _ _
  · refine OgSteps.cons ?_ (OgSteps.cons ?_ (OgSteps.cons ?_ (OgSteps.cons ?_ (OgSteps.cons ?_ (OgSteps.cons ?_ (OgSteps.cons ?_ (OgSteps.nil)))))))
    · refine OgStep.pure ?_ ?_
      · rfl
      intro u W hS hp
      have kp := PB.out W hS
      refine ⟨.pointer (some ⟨b, 0, none⟩), ?_, rfl⟩
      simp only [ogMk, Act.put, List.setIfInBounds_toArray, List.set_cons_zero, List.set_cons_succ, Nat.zero_add, Nat.reduceAdd, List.take_succ_cons, List.take_zero, List.drop_succ_cons, List.drop_zero]
      simp [execOp, Act.eval, go_sem, kp]
    · refine OgStep.pure ?_ ?_
      · rfl
      intro u W hS hp
      have kp := PB.out W hS
      refine ⟨.pointer (some ⟨b, 0, none⟩), ?_, rfl⟩
      simp only [ogMk, Act.put, List.setIfInBounds_toArray, List.set_cons_zero, List.set_cons_succ, Nat.zero_add, Nat.reduceAdd, List.take_succ_cons, List.take_zero, List.drop_succ_cons, List.drop_zero]
      simp [execOp, Act.eval, go_sem, kp]
    · refine OgStep.pure ?_ ?_
      · rfl
      intro u W hS hp
      have h1 : u 1 = .pointer (some ⟨b, 0, none⟩) := hp ⟨1, .data⟩ (by simp) rfl
      refine ⟨.pointer (some ⟨b, 0, none⟩), ?_, rfl⟩
      simp only [ogMk, Act.put, List.setIfInBounds_toArray, List.set_cons_zero, List.set_cons_succ, Nat.zero_add, Nat.reduceAdd, List.take_succ_cons, List.take_zero, List.drop_succ_cons, List.drop_zero]
      simp [execOp, Act.eval, go_sem, h1]
    · refine OgStep.pure ?_ ?_
      · rfl
      intro u W hS hp
      have h2 : u 2 = .pointer (some ⟨b, 0, none⟩) := hp ⟨2, .data⟩ (by simp) rfl
      refine ⟨.pointer (some ⟨b, 4, none⟩), ?_, rfl⟩
      simp only [ogMk, Act.put, List.setIfInBounds_toArray, List.set_cons_zero, List.set_cons_succ, Nat.zero_add, Nat.reduceAdd, List.take_succ_cons, List.take_zero, List.drop_succ_cons, List.drop_zero]
      simp [execOp, Act.eval, go_sem, h2]
    · refine OgStep.pure ?_ ?_
      · rfl
      intro u W hS hp
      have h3 : u 3 = .pointer (some ⟨b, 4, none⟩) := hp ⟨3, .data⟩ (by simp) rfl
      have k4 := (S0.out.below hS).cx.key 4 _ rfl
      dsimp only at k4
      refine ⟨.slice A3 kn.length c3, ?_, rfl⟩
      simp only [ogMk, Act.put, List.setIfInBounds_toArray, List.set_cons_zero, List.set_cons_succ, Nat.zero_add, Nat.reduceAdd, List.take_succ_cons, List.take_zero, List.drop_succ_cons, List.drop_zero]
      simp [execOp, Act.eval, go_sem, h3, k4]
    · refine OgStep.pure ?_ ?_
      · rfl
      intro u W hS hp
      refine ⟨.func (.func 100) #[] #[.pointer (some ⟨w.heap.size + 1, 0, none⟩), .pointer (some ⟨w.heap.size, 0, none⟩)], ?_, rfl⟩
      simp only [ogMk, Act.put, List.setIfInBounds_toArray, List.set_cons_zero, List.set_cons_succ, Nat.zero_add, Nat.reduceAdd, List.take_succ_cons, List.take_zero, List.drop_succ_cons, List.drop_zero]
      simp [execOp, Act.eval, go_sem]
    · refine OgStep.calls ?_ ?_
      · rfl
      intro u W hS hp
      have h4 : u 4 = .slice A3 kn.length c3 := hp ⟨4, .data⟩ (by simp) rfl
      have h5 : u 5 = .func (.func 100) #[] #[.pointer (some ⟨w.heap.size + 1, 0, none⟩), .pointer (some ⟨w.heap.size, 0, none⟩)] := hp ⟨5, .data⟩ (by simp) rfl
      refine ⟨99, #[.slice A3 kn.length c3, .func (.func 100) #[] #[.pointer (some ⟨w.heap.size + 1, 0, none⟩), .pointer (some ⟨w.heap.size, 0, none⟩)]], ?_, kp_r (HFG.out W hS) rfl⟩
      simp only [ogMk, Act.put, List.setIfInBounds_toArray, List.set_cons_zero, List.set_cons_succ, Nat.zero_add, Nat.reduceAdd, List.take_succ_cons, List.take_zero, List.drop_succ_cons, List.drop_zero]
      simp [execOp, Act.eval, go_sem, h4, h5]
  · intro u W hS hF
    have e0 : u 0 = .pointer (some ⟨b, 0, none⟩) := hF 0 (by decide)
    have e1 : u 1 = .pointer (some ⟨b, 0, none⟩) := hF 1 (by decide)
    have e2 : u 2 = .pointer (some ⟨b, 0, none⟩) := hF 2 (by decide)
    have e3 : u 3 = .pointer (some ⟨b, 4, none⟩) := hF 3 (by decide)
    have e4 : u 4 = .slice A3 kn.length c3 := hF 4 (by decide)
    have e5 : u 5 = .func (.func 100) #[] #[.pointer (some ⟨w.heap.size + 1, 0, none⟩), .pointer (some ⟨w.heap.size, 0, none⟩)] := hF 5 (by decide)
    obtain ⟨A6, c6, e6, hc6, hR6⟩ : rF Rk ys (u 6) W := hF 6 (by decide)
    simp only [ogMk, Act.put, List.setIfInBounds_toArray, List.set_cons_zero, List.set_cons_succ, Nat.zero_add, Nat.reduceAdd, List.take_succ_cons, List.take_zero, List.drop_succ_cons, List.drop_zero]
    rw [e0, e1, e2, e3, e4, e5, e6]
    clear e0 e1 e2 e3 e4 e5 e6 hF
    have R1 := Lib.hid (R0.out.below hS)
    have S1 := Lib.hid (S0.out.below hS)
    have O1 := Lib.hid (O0.out.trans (Ob.of hS S0.out.lt))
    clear hS
    go_wp2_with (refine at_fieldSt 31 _ _ b [.int .i64 n, .int .i64 q, .slice A1 hs.length c1, .slice A2 sw.length c2] (.slice A3 kn.length c3) (.slice A6 ys.length c6) [.slice A4 pb.length c4, .slice A5 cs.length c5] S1.out sizeRk rfl (ns_sl _ _ _) rfl rfl rfl rfl rfl ?_)
    intro w3 S3 hb3 hk3
    have O3 := Lib.hid (O1.out.trans (Ob.put hb3.out hk3.out))
    have R3 := Lib.hid (show Lie w3 ⟨n, q, hs, sw, ys, pb, cs⟩ ⟨A1, c1, A2, c2, A6, c6, A4, c4, A5, c5⟩ from
      { R1.out.apart S1.out.bs hk3.out with k := ks_apart hR6 S1.out.bs hk3.out, kc := hc6 })
    go_wp2_with fail
    go_end0
    refine ⟨rfl, ?_, O3.out⟩
    rw [HQ.out]
    exact ⟨⟨A1, c1, A2, c2, A6, c6, A4, c4, A5, c5⟩, S3.out, R3.out⟩
end Go.Proofs.YtilneflfeegnfaaGreat
namespace Go.Proofs.YtilneflfeegnfaaGreat
open Go.RowKit
def Rpf (B : Nat) := fun w A xs => Rw Pb.eP w A xs ∧ ∀ y : Addr, A = some y → B ≤ y.block
def Rsf (B : Nat) := fun w A xs => Rw Sw.eW w A xs ∧ ∀ y : Addr, A = some y → B ≤ y.block
def Raf (B : Nat) := fun w A xs => Rw Sw.eA w A xs ∧ ∀ y : Addr, A = some y → B ≤ y.block
theorem hld_pf (B : Nat) : Hld (Rpf B) := fun _ _ _ _ h hb => ⟨h.1.below hb, h.2⟩
theorem hld_sf (B : Nat) : Hld (Rsf B) := fun _ _ _ _ h hb => ⟨h.1.below hb, h.2⟩
theorem hld_af (B : Nat) : Hld (Raf B) := fun _ _ _ _ h hb => ⟨h.1.below hb, h.2⟩
theorem tp_pf {f : FuncId} {args : Array Value} {W : World} {ys : List Pb.Pr} {q : Int} {B : Nat} (h : Calls Tryz.prog f args W (Pb.OutPost W ys q)) (hB : B ≤ W.heap.size) : Calls Tryz.prog f args W (TP (Rpf B) W ys q) := h.mono fun _ _ ⟨A, cap, he, hc, _, hr, hb, hf⟩ => ⟨A, cap, he, hc, ⟨hr, fun y hy => Nat.le_trans hB (hf y hy)⟩, hb⟩
def wF {α β : Type} (R1 : World → Option Addr → List α → Prop) (R2 : World → Option Addr → List β → Prop) (xs : List α) (ys : List β) : Value → World → Prop := fun v W => ∃ A1 c1 A2 c2, v = .tuple #[.slice A1 xs.length c1, .slice A2 ys.length c2] ∧ (xs.length ≤ c1 ∧ R1 W A1 xs) ∧ (0 ≤ c2 ∧ R2 W A2 ys)
def rG {α : Type} (R : World → Option Addr → List α → Prop) (xs : List α) : Value → World → Prop := fun v W => ∃ A c, v = .slice A xs.length c ∧ 0 ≤ c ∧ R W A xs
theorem stable_rG {α : Type} {R : World → Option Addr → List α → Prop} (h : Hld R) (xs : List α) : Stable (rG R xs) := fun _ w w' ⟨A, c, hv, hc, hr⟩ hb => ⟨A, c, hv, hc, h w w' A xs hr hb⟩
theorem stable_wF {α β : Type} {R1 : World → Option Addr → List α → Prop} {R2 : World → Option Addr → List β → Prop} (h1 : Hld R1) (h2 : Hld R2) (xs : List α) (ys : List β) : Stable (wF R1 R2 xs ys) := fun _ w w' ⟨A, c, A2, c2, hv, hc, hr⟩ hb => ⟨A, c, A2, c2, hv, ⟨hc.1, h1 w w' A xs hc.2 hb⟩, ⟨hr.1, h2 w w' A2 ys hr.2 hb⟩⟩
theorem calls_late {f : FuncId} {args : Array Value} {W : World} {S : List Pb.Pr × List Pb.Pr} {Φ : List (Value → World → Prop)} {i : Nat} (h : Calls Tryz.prog f args W (Pb.TwoPost W S)) (hi : fAt Φ i = wF Rp Rp S.1 S.2) :
    Calls Tryz.prog f args W fun e w' => ∃ v, e = .returned v ∧ Below W.heap.size W w' ∧ fAt Φ i v w' := by
  rw [hi]
  exact h.mono fun e w' ⟨A1, c1, A2, c2, he, h1, h2, r1, r2, hb⟩ => ⟨_, he, hb, A1, c1, A2, c2, rfl, ⟨h1, r1⟩, ⟨Nat.zero_le _, r2⟩⟩
theorem calls_plan {f : FuncId} {args : Array Value} {W : World} {S : List Sw.Sw × List Int} {B : Nat} {Φ : List (Value → World → Prop)} {i : Nat} (h : Calls Tryz.prog f args W (Sw.PlanPost W S)) (hB : B ≤ W.heap.size) (hi : fAt Φ i = wF (Rsf B) (Raf B) S.1 S.2) :
    Calls Tryz.prog f args W fun e w' => ∃ v, e = .returned v ∧ Below W.heap.size W w' ∧ fAt Φ i v w' := by
  rw [hi]
  exact h.mono fun e w' ⟨A1, c1, A2, c2, he, h1, r1, r2, hb, f1, f2⟩ => ⟨_, he, hb, A1, c1, A2, c2, rfl, ⟨h1, r1, fun y hy => Nat.le_trans hB (f1 y hy)⟩, ⟨Nat.zero_le _, r2, fun y hy => Nat.le_trans hB (f2 y hy)⟩⟩
def zkv : Value := .agg #[.bool false, .int .u32 0, .int .u32 0, .agg #[.int .u8 0, .int .u8 0, .int .u8 0, .int .u8 0, .int .u8 0, .int .u8 0], .int .i64 0, .int .i64 0]
theorem infoPk : (Tryz.prog.info? 103).map (fun i => (i.zero.map (·.cells.size), i.size, decide (i.bytes ≤ 100))) = some (some 11, 11, true) := by kernel_rfl
theorem tK : Ty ePk 52 103 := ⟨Tryz.underlying52, by
  obtain ⟨i, hi, he⟩ := Option.map_eq_some_iff.1 infoPk
  simp only [Prod.mk.injEq, Option.map_eq_some_iff, decide_eq_true_eq] at he
  obtain ⟨⟨z, hz, hc⟩, hs, hb⟩ := he
  exact ⟨i, z, i.bytes, hi, hz, hs, rfl, hc, hb⟩⟩
theorem own_ob {w w' : World} {b base : Nat} {e : TypeId} {size : Nat} {v : Value} {n : Nat} {xs : List Value} (h : w.ownsRow base e size v n xs) (k : Ob b w w') (hb : b < base) : w'.ownsRow base e size v n xs := by
  refine ⟨h.1, h.2.imp id ?_⟩
  rintro ⟨g, cap, cur, e1, e2, e3, r⟩
  refine ⟨g, cap, cur, e1, e2, ?_, r⟩
  rw [k.oth g (by omega) (Array.getElem?_eq_some_iff.1 e3).1]
  exact e3
theorem Ob.grown {b : Nat} {w1 w w' : World} {v : Value} (h : Ob b w1 w) (hg : w.grownBy w' v.ownBlock) (hv : ∀ g, v.ownBlock = some g → w1.heap.size ≤ g) (hb : b < w1.heap.size) : Ob b w1 w' := by
  refine ⟨h.bel.trans ⟨hg.os, hg.tape, hg.output, hg.size, fun k hk => hg.block k (Nat.lt_of_lt_of_le (Nat.lt_trans hk hb) h.size) fun e => by have := hv k e.symm; omega⟩, fun k h1 h2 => ?_⟩
  rw [hg.block k (Nat.lt_of_lt_of_le h2 h.size) fun e => by have := hv k e.symm; omega]
  exact h.oth k h1 h2
def Av (A : Option Addr) (n : Nat) (v : Value) : Prop := ∀ y g, A = some y → 0 < n → v.ownBlock = some g → y.block ≠ g
theorem rw_av {α : Type} {E : El α} {w w' : World} {A : Option Addr} {xs : List α} {v : Value} (h : Rw E w A xs) (hg : w.grownBy w' v.ownBlock) (ha : Av A xs.length v) : Rw E w' A xs := by
  refine ⟨h.1, fun q x hq => ?_⟩
  obtain ⟨y, hy, hc⟩ := h.2 q x hq
  refine ⟨y, hy, fun j u hu => ?_⟩
  have hq' := (List.getElem?_eq_some_iff.1 hq).1
  have hlt := World.block_lt_of_cell? _ _ (hc j u hu)
  rw [World.cell?_of_block (hg.block _ hlt fun e => ha y _ hy (by omega) e.symm (by rw [add_block]))]
  exact hc j u hu
theorem rw_lt' {α : Type} {E : El α} {w : World} {A : Option Addr} {xs : List α} (h : Rw E w A xs) : ∀ y, A = some y → 0 < xs.length → y.block < w.heap.size := fun y hy hp => by
  obtain ⟨x, hx⟩ : ∃ x, xs[0]? = some x := ⟨_, List.getElem?_eq_getElem hp⟩
  obtain ⟨z, hz, hc⟩ := h.2 0 x hx
  rw [hy] at hz
  obtain rfl := Option.some.inj hz
  obtain ⟨u, hu⟩ : ∃ u, (E.cl x)[0]? = some u := ⟨_, List.getElem?_eq_getElem (by rw [E.len]; exact E.pos)⟩
  have hlt := World.block_lt_of_cell? _ _ (hc 0 u hu)
  rwa [add_block] at hlt
theorem Av.next {α : Type} {E : El α} {w : World} {A : Option Addr} {xs : List α} {v v' : Value} (h : Av A xs.length v) (hr : Rw E w A xs) (hn : v'.ownBlock = v.ownBlock ∨ v'.ownBlock = some w.heap.size) : Av A xs.length v' := by
  intro y g hy h0 hv
  rcases hn with e | e
  · exact h y g hy h0 (e ▸ hv)
  · rw [e] at hv
    obtain rfl := Option.some.inj hv
    have := rw_lt' hr y hy h0
    omega
theorem pk_box (W : World) (p : Pb.Pk) : Rw ePk (W.alloc (Pb.Pkx p)) (some ⟨W.heap.size, 0, none⟩) [p] := by
  refine ⟨by simp, fun q x hq => ⟨_, rfl, fun j v hv => ?_⟩⟩
  match q, hq with
  | 0, hq =>
    obtain rfl : p = x := by simpa using hq
    have := (show Cx (W.alloc (Pb.Pkx p)) W.heap.size (Pb.pkl p) from cx_box W _ _ _ rfl).key j v hv
    by_cases hj : j = 0
    · subst hj
      simpa [Addr.add, ePk] using this
    · simpa [Addr.add, ePk, hj] using this
  | q + 1, hq => simp at hq
end Go.Proofs.YtilneflfeegnfaaGreat
namespace Go.Proofs.YtilneflfeegnfaaGreat
open Go.RowKit
structure Ck (c : Cf) : Prop where
  a0 : 1 ≤ c.a
  ab : c.a ≤ c.b
  b1 : c.b ≤ 10000
  c0 : 1 ≤ c.c
  c1 : c.c ≤ 6
  e0 : 1 ≤ c.e
  e1 : c.e ≤ 64
  g1 : c.g ≤ 8
  i0 : 0 ≤ c.i
  h0 : 1 ≤ c.h
def Nb (B : Nat) : Value → World → Prop := fun v W => ∃ g, v = .pointer (some ⟨g, 0, none⟩) ∧ B ≤ g ∧ Cx W g (Pb.prl Pb.zr)
theorem stable_nb (B : Nat) : Stable (Nb B) := fun _ _ _ ⟨g, hv, hg, hx⟩ hb => ⟨g, hv, hg, Cx.below hx hb⟩
theorem cx_ob9 {w w' : World} {g : Nat} {x : Pb.Pr} (h : Cx w g (Pb.prl x)) (hb : Below w.heap.size w w') : Cx w' g (Pb.prl x) := Cx.below h hb
theorem mk_a : Mk Sw.eA := fun x => ⟨0, _, rfl, u32_no _⟩
theorem sizeInt : (Tryz.prog.info? 3).map (·.size) = some 1 := by kernel_rfl
theorem sizePr : (Tryz.prog.info? 97).map (·.size) = some 5 := by kernel_rfl
set_option maxRecDepth 100000 in
set_option maxHeartbeats 4000000 in
theorem replaceP_x (b : Nat) (p : List Value) (u : Value) (A : Option Addr) (m cap : Nat) (s : List Value) (er : Int) (w : World) (H : Sb w b (p ++ (u :: s))) :
    Calls Tryz.prog 103 #[.pointer (some ⟨b, p.length, none⟩), .slice A m cap, .int .i64 er] w fun e w' => e = .returned (.int .i64 er) ∧ Sb w' b (p ++ ((if er = 0 then .slice A m cap else u) :: s)) ∧ (∀ B, B ≤ b → Below B w w') ∧ ∀ k, k ≠ b → w'.heap[k]? = w.heap[k]? := by
  have S0 := Lib.hid H
  clear H
  by_cases h0 : er = 0
  · subst h0
    rw [if_pos rfl]
    go_enter Tryz.func103, Tryz.ntmps103
    go_wp2_with (refine at_fieldSt 32 _ _ b p u (.slice A m cap) s S0.out sizeRp rfl (ns_sl _ _ _) rfl rfl rfl rfl rfl ?_)
    intro w3 S3 hb3 hk3
    go_wp2_with fail
    go_ret
    exact ⟨rfl, S3.out, hb3.out, hk3.out⟩
  · rw [if_neg h0]
    go_enter Tryz.func103, Tryz.ntmps103
    go_wp2_with fail
    go_ret
    exact ⟨rfl, S0.out, fun B _ => Below.refl _ _, fun _ _ => rfl⟩
theorem t5q_keep (S : Stt × List Pb.Pk) (a : Int) : (t5q S a).1 = { S.1 with seq := (t5q S a).1.seq, pb := (t5q S a).1.pb } := by
  unfold t5q
  split <;> rfl
theorem t5q_len (S : Stt × List Pb.Pk) (a : Int) : (t5q S a).2.length ≤ S.2.length + 1 := by
  unfold t5q
  split <;> simp
theorem fold5_len : ∀ (l : List Int) (S : Stt × List Pb.Pk), (l.foldl t5q S).2.length ≤ S.2.length + l.length
  | [], _ => by simp
  | a :: l, S => by
    have h1 := fold5_len l (t5q S a)
    have h2 := t5q_len S a
    simp only [List.foldl_cons, List.length_cons]
    omega
theorem Sb.grown {w w' : World} {b : Nat} {L : List Value} {v : Value} (h : Sb w b L) (hg : w.grownBy w' v.ownBlock) (hv : ∀ g, v.ownBlock = some g → b < g) : Sb w' b L := by
  have hb := h.lt
  have e := hg.block b hb fun e => by have := hv b e.symm; omega
  have f : ∀ a : Addr, a.block = b → w'.cell? a = w.cell? a := fun a ha => World.cell?_of_block (by rw [ha]; exact e)
  have g : ∀ a : Addr, a.block = b → w'.frozen? a = w.frozen? a := fun a ha => World.frozen?_of_block (by rw [ha]; exact e)
  exact ⟨⟨fun j v hv => by rw [f _ rfl]; exact h.cx.1 j v hv, fun j hj => ⟨by rw [f _ rfl]; exact (h.cx.2 j hj).1, by rw [g _ rfl]; exact (h.cx.2 j hj).2⟩⟩, h.len, fun a v ha hv => h.bs a v ha (by rw [← f a ha]; exact hv)⟩
structure Lp (b : Nat) (W1 : World) (x7 : Stt) (r7 : Rws) (As Aa : Option Addr) (ss : List Sw.Sw) (zs : List Int) (S : Stt × List Pb.Pk) (v : Value) (w : World) : Prop where
  ob : Ob b W1 w
  eq : S.1 = { x7 with seq := S.1.seq, pb := S.1.pb }
  sb : ∃ A c, Sb w b (stl S.1 { r7 with p := A, pc := c }) ∧ S.1.pb.length ≤ c ∧ Rw Pb.eP w A S.1.pb ∧ Av A S.1.pb.length v
  own : w.ownsRow W1.heap.size 103 11 v S.2.length (ePk.cs S.2)
  rs : Rw Sw.eW w As ss
  avs : Av As ss.length v
  ra : Rw Sw.eA w Aa zs
  ava : Av Aa zs.length v
  inn : In S.1
set_option maxRecDepth 100000 in
set_option maxHeartbeats 8000000 in
theorem askS_any (c : Cf) (x : Stt) (r : Rws) (b : Nat) (w : World) (H : Sb w b (stl x r)) (h : Lie w x r) (hi : In x) (hk : Ck c) :
    Calls Tryz.prog 61 #[cfv c, .pointer (some ⟨b, 0, none⟩)] w fun e w' => (∃ A cap, e = .returned (.slice A (t5 c x).2.length cap) ∧ (t5 c x).2.length ≤ cap ∧ Rw ePk w' A (t5 c x).2) ∧ (∃ r', Sb w' b (stl (t5 c x).1 r') ∧ Lie w' (t5 c x).1 r') ∧ Ob b w w' := by
  have B0 := Lib.hid (show Below w.heap.size w (w.alloc (Cfx c)) from (Below.refl _ w).alloc (Nat.le_refl _) _)
  have C0 := Lib.hid (cm_box w c)
  have S0 := Lib.hid (H.below B0.out)
  have R0 := Lib.hid (h.below B0.out)
  have LT := Lib.hid H.lt
  have O0 := Lib.hid (Ob.of B0.out H.lt)
  have HLT := Lib.hid fun W (hW : Lie W x r) => Pb.late_any c x.now c.e r.p x.pb r.pc W hW.p (by have := hi.p16; omega) hi.pv.n
  have hv1 := Pb.lt_ok (wt := c.f) (ag := c.g) (now := x.now) (room := c.e) hi.pv hk.g1
  have hl2 := Pb.lt_room (wt := c.f) (ag := c.g) (now := x.now) (room := c.e) x.pb
  have he0 := hk.e0
  have he1 := hk.e1
  obtain ⟨⟨k1, k2⟩, hL⟩ : ∃ L, Pb.ltO c.f c.g x.now c.e x.pb = L := ⟨_, rfl⟩
  have HQ := Lib.hid (show t5 c x = _ from by unfold t5; rw [hL])
  rw [hL] at HLT hv1 hl2
  dsimp only at hv1 hl2 HQ
  have hl1 := hv1.r.few
  have hl2' : (k2.length : Int) ≤ c.e := by omega
  obtain ⟨room, hroom⟩ : ∃ room, min (c.e - (k2.length : Int)) (16 - (k1.length : Int)) = room := ⟨_, rfl⟩
  have hrm : max 0 (min (c.e - (k2.length : Int)) (16 - (k1.length : Int))) = room := by omega
  have HPL := Lib.hid fun W (hW : Rw Sw.eW W r.s x.sw) => Sw.plan_any c x.now room r.s x.sw r.sc W hW h.sc hi.sv.r.few hi.sv.sv (by omega) (by omega)
  have hi7 := (hi.pb' hv1).sw' (Sw.planO_ok hi.sv c.d x.now room).1
  have hpi := plan_in hi.sv c.d x.now room
  have ha1 : (Sw.planO x.sw c.d x.now room).2.length ≤ 64 := by
    have := Sw.plan_few x.sw c.d room (Sw.ord x.sw x.now)
    unfold Sw.planO
    omega
  rw [hroom] at HQ
  obtain ⟨⟨s1, a1⟩, hP⟩ : ∃ Q, Sw.planO x.sw c.d x.now room = Q := ⟨_, rfl⟩
  rw [hP] at HPL HQ hi7 hpi ha1
  dsimp only at hi7 hpi HQ ha1
  have hs16 := hi7.sv.r.few
  dsimp only at hs16
  have HI7 := Lib.hid hi7
  have HPI := Lib.hid hpi
  have HA1 := Lib.hid ha1
  have hn0 := hi.n0
  have hn1 := hi.n1
  have hq0 := hi.q0
  have hq1 := hi.q1
  clear h H hi hk hv1 hL hP hi7 hpi hroom hl2 ha1
  obtain ⟨n, q, hs, sw, kn, pb, cs⟩ := x
  obtain ⟨A1, c1, A2, c2, A3, c3, A4, c4, A5, c5⟩ := r
  dsimp only at HLT HPL HQ hn0 hn1 hq0 hq1 HI7
  obtain ⟨xa, xb, xc, xd, xe, xf, xg, xh, xi⟩ := c
  simp only [cfv, Cfx] at B0 C0 S0 R0 O0 HLT HPL hrm hl2' he0 he1 ⊢
  go_enter Tryz.func61, Tryz.ntmps61
  go_wp2_with fail
  change (Code.region _ _ _).wp _ _ _ (w.alloc (.cells #[.int .i64 xa, .int .i64 xb, .int .i64 xc, .int .i64 xd, .int .i64 xe, .int .i64 xf, .int .i64 xg, .int .i64 xh, .int .i64 xi] 27))
  generalize w.alloc (.cells #[.int .i64 xa, .int .i64 xb, .int .i64 xc, .int .i64 xd, .int .i64 xe, .int .i64 xf, .int .i64 xg, .int .i64 xh, .int .i64 xi] 27) = W0 at *
  refine wp_region_below [fx (.agg #[.int .i64 xa, .int .i64 xb, .int .i64 xc, .int .i64 xd, .int .i64 xe, .int .i64 xf, .int .i64 xg, .int .i64 xh, .int .i64 xi]), fx (.pointer (some ⟨b, 0, none⟩)), fx (.pointer (some ⟨b, 0, none⟩)), fx (.pointer (some ⟨b, 5, none⟩)), fx (.slice A4 pb.length c4), fx (.pointer (some ⟨b, 0, none⟩)), fx (.pointer (some ⟨b, 0, none⟩)), fx (.pointer (some ⟨b, 0, none⟩)), fx (.int .i64 n), fx (.pointer (some ⟨w.heap.size, 4, none⟩)), fx (.int .i64 xe), wF Rp Rp k1 k2, wF Rp Rp k1 k2, rF Rp k1, rG Rp k2, rF Rp k1, rG Rp k2]
    (by kernel_rfl) (by kernel_rfl) (by kernel_rfl) ?_ ?_ ?_
  · simp only [List.mem_cons, List.not_mem_nil, or_false]
    rintro φ (rfl | rfl | rfl | rfl | rfl | rfl | rfl | rfl | rfl | rfl | rfl | rfl | rfl | rfl | rfl | rfl | rfl)
    all_goals first | exact stable_fx _ | exact stable_rF hld_h _ | exact stable_rF hld_s _ | exact stable_rF hld_k _ | exact stable_rF hld_p _ | exact stable_rF hld_c _ | exact stable_tF hld_h _ _ | exact stable_tF hld_s _ _ | exact stable_tF hld_k _ _ | exact stable_tF hld_p _ _ | exact stable_tF hld_c _ _ | exact stable_tF (hld_pf _) _ _ | exact stable_rF (hld_pf _) _ | exact stable_rF (hld_sf _) _ | exact stable_rG (hld_af _) _ | exact stable_rG hld_p _ | exact stable_wF hld_p hld_p _ _ | exact stable_wF (hld_sf _) (hld_af _) _ _ | exact stable_nb _
  · refine OgSteps.cons ?_ (OgSteps.cons ?_ (OgSteps.cons ?_ (OgSteps.cons ?_ (OgSteps.cons ?_ (OgSteps.cons ?_ (OgSteps.cons ?_ (OgSteps.cons ?_ (OgSteps.cons ?_ (OgSteps.cons ?_ (OgSteps.cons ?_ (OgSteps.cons ?_ (OgSteps.cons ?_ (OgSteps.cons ?_ (OgSteps.cons ?_ (OgSteps.cons ?_ (OgSteps.cons ?_ (OgSteps.nil)))))))))))))))))
    · refine OgStep.pure ?_ ?_
      · rfl
      intro u W hS hp
      have C := C0.out.below hS
      have k0 := C.c0
      have k1 := C.c1
      have k2 := C.c2
      have k3 := C.c3
      have k4 := C.c4
      have k5 := C.c5
      have k6 := C.c6
      have k7 := C.c7
      have k8 := C.c8
      dsimp only at k0 k1 k2 k3 k4 k5 k6 k7 k8
      refine ⟨.agg #[.int .i64 xa, .int .i64 xb, .int .i64 xc, .int .i64 xd, .int .i64 xe, .int .i64 xf, .int .i64 xg, .int .i64 xh, .int .i64 xi], ?_, rfl⟩
      simp only [ogMk, Act.put, List.setIfInBounds_toArray, List.set_cons_zero, List.set_cons_succ, Nat.zero_add, Nat.reduceAdd, List.take_succ_cons, List.take_zero, List.drop_succ_cons, List.drop_zero]
      simp [execOp, Act.eval, go_sem, k0, k1, k2, k3, k4, k5, k6, k7, k8]
    · refine OgStep.pure ?_ ?_
      · rfl
      intro u W hS hp
      refine ⟨.pointer (some ⟨b, 0, none⟩), ?_, rfl⟩
      simp only [ogMk, Act.put, List.setIfInBounds_toArray, List.set_cons_zero, List.set_cons_succ, Nat.zero_add, Nat.reduceAdd, List.take_succ_cons, List.take_zero, List.drop_succ_cons, List.drop_zero]
      simp [execOp, Act.eval, go_sem]
    · refine OgStep.pure ?_ ?_
      · rfl
      intro u W hS hp
      have h1 : u 1 = .pointer (some ⟨b, 0, none⟩) := hp ⟨1, .data⟩ (by simp) rfl
      refine ⟨.pointer (some ⟨b, 0, none⟩), ?_, rfl⟩
      simp only [ogMk, Act.put, List.setIfInBounds_toArray, List.set_cons_zero, List.set_cons_succ, Nat.zero_add, Nat.reduceAdd, List.take_succ_cons, List.take_zero, List.drop_succ_cons, List.drop_zero]
      simp [execOp, Act.eval, go_sem, h1]
    · refine OgStep.pure ?_ ?_
      · rfl
      intro u W hS hp
      have h2 : u 2 = .pointer (some ⟨b, 0, none⟩) := hp ⟨2, .data⟩ (by simp) rfl
      refine ⟨.pointer (some ⟨b, 5, none⟩), ?_, rfl⟩
      simp only [ogMk, Act.put, List.setIfInBounds_toArray, List.set_cons_zero, List.set_cons_succ, Nat.zero_add, Nat.reduceAdd, List.take_succ_cons, List.take_zero, List.drop_succ_cons, List.drop_zero]
      simp [execOp, Act.eval, go_sem, h2]
    · refine OgStep.pure ?_ ?_
      · rfl
      intro u W hS hp
      have h3 : u 3 = .pointer (some ⟨b, 5, none⟩) := hp ⟨3, .data⟩ (by simp) rfl
      have j5 := (S0.out.below hS).cx.key 5 _ rfl
      (try dsimp only at j5)
      refine ⟨.slice A4 pb.length c4, ?_, rfl⟩
      simp only [ogMk, Act.put, List.setIfInBounds_toArray, List.set_cons_zero, List.set_cons_succ, Nat.zero_add, Nat.reduceAdd, List.take_succ_cons, List.take_zero, List.drop_succ_cons, List.drop_zero]
      simp [execOp, Act.eval, go_sem, h3, j5]
    · refine OgStep.pure ?_ ?_
      · rfl
      intro u W hS hp
      refine ⟨.pointer (some ⟨b, 0, none⟩), ?_, rfl⟩
      simp only [ogMk, Act.put, List.setIfInBounds_toArray, List.set_cons_zero, List.set_cons_succ, Nat.zero_add, Nat.reduceAdd, List.take_succ_cons, List.take_zero, List.drop_succ_cons, List.drop_zero]
      simp [execOp, Act.eval, go_sem]
    · refine OgStep.pure ?_ ?_
      · rfl
      intro u W hS hp
      have h5 : u 5 = .pointer (some ⟨b, 0, none⟩) := hp ⟨5, .data⟩ (by simp) rfl
      refine ⟨.pointer (some ⟨b, 0, none⟩), ?_, rfl⟩
      simp only [ogMk, Act.put, List.setIfInBounds_toArray, List.set_cons_zero, List.set_cons_succ, Nat.zero_add, Nat.reduceAdd, List.take_succ_cons, List.take_zero, List.drop_succ_cons, List.drop_zero]
      simp [execOp, Act.eval, go_sem, h5]
    · refine OgStep.pure ?_ ?_
      · rfl
      intro u W hS hp
      have h6 : u 6 = .pointer (some ⟨b, 0, none⟩) := hp ⟨6, .data⟩ (by simp) rfl
      refine ⟨.pointer (some ⟨b, 0, none⟩), ?_, rfl⟩
      simp only [ogMk, Act.put, List.setIfInBounds_toArray, List.set_cons_zero, List.set_cons_succ, Nat.zero_add, Nat.reduceAdd, List.take_succ_cons, List.take_zero, List.drop_succ_cons, List.drop_zero]
      simp [execOp, Act.eval, go_sem, h6]
    · refine OgStep.pure ?_ ?_
      · rfl
      intro u W hS hp
      have h7 : u 7 = .pointer (some ⟨b, 0, none⟩) := hp ⟨7, .data⟩ (by simp) rfl
      have j0 := (S0.out.below hS).cx.key 0 _ rfl
      (try dsimp only at j0)
      refine ⟨.int .i64 n, ?_, rfl⟩
      simp only [ogMk, Act.put, List.setIfInBounds_toArray, List.set_cons_zero, List.set_cons_succ, Nat.zero_add, Nat.reduceAdd, List.take_succ_cons, List.take_zero, List.drop_succ_cons, List.drop_zero]
      simp [execOp, Act.eval, go_sem, h7, j0]
    · refine OgStep.pure ?_ ?_
      · rfl
      intro u W hS hp
      refine ⟨.pointer (some ⟨w.heap.size, 4, none⟩), ?_, rfl⟩
      simp only [ogMk, Act.put, List.setIfInBounds_toArray, List.set_cons_zero, List.set_cons_succ, Nat.zero_add, Nat.reduceAdd, List.take_succ_cons, List.take_zero, List.drop_succ_cons, List.drop_zero]
      simp [execOp, Act.eval, go_sem]
    · refine OgStep.pure ?_ ?_
      · rfl
      intro u W hS hp
      have h9 : u 9 = .pointer (some ⟨w.heap.size, 4, none⟩) := hp ⟨9, .data⟩ (by simp) rfl
      have k4 := (C0.out.below hS).c4
      dsimp only at k4
      refine ⟨.int .i64 xe, ?_, rfl⟩
      simp only [ogMk, Act.put, List.setIfInBounds_toArray, List.set_cons_zero, List.set_cons_succ, Nat.zero_add, Nat.reduceAdd, List.take_succ_cons, List.take_zero, List.drop_succ_cons, List.drop_zero]
      simp [execOp, Act.eval, go_sem, h9, k4]
    · refine OgStep.calls ?_ ?_
      · rfl
      intro u W hS hp
      have h0 : u 0 = .agg #[.int .i64 xa, .int .i64 xb, .int .i64 xc, .int .i64 xd, .int .i64 xe, .int .i64 xf, .int .i64 xg, .int .i64 xh, .int .i64 xi] := hp ⟨0, .data⟩ (by simp) rfl
      have h4 : u 4 = .slice A4 pb.length c4 := hp ⟨4, .data⟩ (by simp) rfl
      have h8 : u 8 = .int .i64 n := hp ⟨8, .data⟩ (by simp) rfl
      have h10 : u 10 = .int .i64 xe := hp ⟨10, .data⟩ (by simp) rfl
      refine ⟨69, #[.agg #[.int .i64 xa, .int .i64 xb, .int .i64 xc, .int .i64 xd, .int .i64 xe, .int .i64 xf, .int .i64 xg, .int .i64 xh, .int .i64 xi], .slice A4 pb.length c4, .int .i64 n, .int .i64 xe], ?_, calls_late (S := (k1, k2)) (HLT.out W (R0.out.below hS)) rfl⟩
      simp only [ogMk, Act.put, List.setIfInBounds_toArray, List.set_cons_zero, List.set_cons_succ, Nat.zero_add, Nat.reduceAdd, List.take_succ_cons, List.take_zero, List.drop_succ_cons, List.drop_zero]
      simp [execOp, Act.eval, go_sem, h0, h4, h8, h10]
    · refine OgStep.pure ?_ ?_
      · rfl
      intro u W hS hp
      obtain ⟨A7, c7, A8, c8, e7, h7, h8⟩ : wF Rp Rp k1 k2 (u 11) W := hp ⟨11, .data⟩ (by simp) rfl
      refine ⟨.tuple #[.slice A7 k1.length c7, .slice A8 k2.length c8], ?_, ⟨A7, c7, A8, c8, rfl, h7, h8⟩⟩
      simp only [ogMk, Act.put, List.setIfInBounds_toArray, List.set_cons_zero, List.set_cons_succ, Nat.zero_add, Nat.reduceAdd, List.take_succ_cons, List.take_zero, List.drop_succ_cons, List.drop_zero]
      simp [execOp, Act.eval, go_sem, e7]
    · refine OgStep.pure ?_ ?_
      · rfl
      intro u W hS hp
      obtain ⟨A7, c7, A8, c8, e7, h7, h8⟩ : wF Rp Rp k1 k2 (u 12) W := hp ⟨12, .data⟩ (by simp) rfl
      refine ⟨.slice A7 k1.length c7, ?_, ⟨A7, c7, rfl, h7⟩⟩
      simp only [ogMk, Act.put, List.setIfInBounds_toArray, List.set_cons_zero, List.set_cons_succ, Nat.zero_add, Nat.reduceAdd, List.take_succ_cons, List.take_zero, List.drop_succ_cons, List.drop_zero]
      simp [execOp, Act.eval, go_sem, e7]
    · refine OgStep.pure ?_ ?_
      · rfl
      intro u W hS hp
      obtain ⟨A7, c7, A8, c8, e7, h7, h8⟩ : wF Rp Rp k1 k2 (u 12) W := hp ⟨12, .data⟩ (by simp) rfl
      refine ⟨.slice A8 k2.length c8, ?_, ⟨A8, c8, rfl, h8⟩⟩
      simp only [ogMk, Act.put, List.setIfInBounds_toArray, List.set_cons_zero, List.set_cons_succ, Nat.zero_add, Nat.reduceAdd, List.take_succ_cons, List.take_zero, List.drop_succ_cons, List.drop_zero]
      simp [execOp, Act.eval, go_sem, e7]
    · refine OgStep.pure ?_ ?_
      · rfl
      intro u W hS hp
      obtain ⟨A7, c7, e7, h7⟩ : rF Rp k1 (u 13) W := hp ⟨13, .data⟩ (by simp) rfl
      refine ⟨.slice A7 k1.length c7, ?_, ⟨A7, c7, rfl, h7⟩⟩
      simp only [ogMk, Act.put, List.setIfInBounds_toArray, List.set_cons_zero, List.set_cons_succ, Nat.zero_add, Nat.reduceAdd, List.take_succ_cons, List.take_zero, List.drop_succ_cons, List.drop_zero]
      simp [execOp, Act.eval, go_sem, e7]
    · refine OgStep.pure ?_ ?_
      · rfl
      intro u W hS hp
      obtain ⟨A7, c7, e7, h7⟩ : rG Rp k2 (u 14) W := hp ⟨14, .data⟩ (by simp) rfl
      refine ⟨.slice A7 k2.length c7, ?_, ⟨A7, c7, rfl, h7⟩⟩
      simp only [ogMk, Act.put, List.setIfInBounds_toArray, List.set_cons_zero, List.set_cons_succ, Nat.zero_add, Nat.reduceAdd, List.take_succ_cons, List.take_zero, List.drop_succ_cons, List.drop_zero]
      simp [execOp, Act.eval, go_sem, e7]
  · intro u W hS hF
    have e0 : u 0 = .agg #[.int .i64 xa, .int .i64 xb, .int .i64 xc, .int .i64 xd, .int .i64 xe, .int .i64 xf, .int .i64 xg, .int .i64 xh, .int .i64 xi] := hF 0 (by decide)
    have e1 : u 1 = .pointer (some ⟨b, 0, none⟩) := hF 1 (by decide)
    have e2 : u 2 = .pointer (some ⟨b, 0, none⟩) := hF 2 (by decide)
    have e3 : u 3 = .pointer (some ⟨b, 5, none⟩) := hF 3 (by decide)
    have e4 : u 4 = .slice A4 pb.length c4 := hF 4 (by decide)
    have e5 : u 5 = .pointer (some ⟨b, 0, none⟩) := hF 5 (by decide)
    have e6 : u 6 = .pointer (some ⟨b, 0, none⟩) := hF 6 (by decide)
    have e7 : u 7 = .pointer (some ⟨b, 0, none⟩) := hF 7 (by decide)
    have e8 : u 8 = .int .i64 n := hF 8 (by decide)
    have e9 : u 9 = .pointer (some ⟨w.heap.size, 4, none⟩) := hF 9 (by decide)
    have e10 : u 10 = .int .i64 xe := hF 10 (by decide)
    obtain ⟨A6, c6, e15, hc6, hR6⟩ : rF Rp k1 (u 15) W := hF 15 (by decide)
    obtain ⟨A7, c7, e16, hc7, hR7⟩ : rG Rp k2 (u 16) W := hF 16 (by decide)
    simp only [ogMk, Act.put, List.setIfInBounds_toArray, List.set_cons_zero, List.set_cons_succ, Nat.zero_add, Nat.reduceAdd, List.take_succ_cons, List.take_zero, List.drop_succ_cons, List.drop_zero]
    rw [e0, e1, e2, e3, e4, e5, e6, e7, e8, e9, e10, e15, e16]
    clear e0 e1 e2 e3 e4 e5 e6 e7 e8 e9 e10 e15 e16 hF
    have R1 := Lib.hid (R0.out.below hS)
    have S1 := Lib.hid (S0.out.below hS)
    have C1 := Lib.hid (C0.out.below hS)
    have O1 := Lib.hid (O0.out.trans (Ob.of hS S0.out.lt))
    clear hS HLT
    go_wp2_with (refine at_fieldSt 32 _ _ b [.int .i64 n, .int .i64 q, .slice A1 hs.length c1, .slice A2 sw.length c2, .slice A3 kn.length c3] (.slice A4 pb.length c4) (.slice A6 k1.length c6) [.slice A5 cs.length c5] S1.out sizeRp rfl (ns_sl _ _ _) rfl rfl rfl rfl rfl ?_)
    intro w3 S3 hb3 hk3
    have O3 := Lib.hid (O1.out.trans (Ob.put hb3.out hk3.out))
    have R3 := Lib.hid (show Lie w3 ⟨n, q, hs, sw, kn, k1, cs⟩ ⟨A1, c1, A2, c2, A3, c3, A6, c6, A5, c5⟩ from { R1.out.apart S1.out.bs hk3.out with p := rw_apart mk_P hR6 S1.out.bs hk3.out, pc := hc6 })
    have RG := Lib.hid (rw_apart mk_P hR7 S1.out.bs hk3.out)
    have C3 := Lib.hid (cm_ob C1.out (Ob.put hb3.out hk3.out) (by have := LT.out; omega))
    have L3 := Lib.hid S3.out.lt
    have hln := RG.out.1
    obtain ⟨M, hM⟩ : ∃ M, k2.length = M := ⟨_, rfl⟩
    have HM := Lib.hid hM
    rw [hM] at hln hl2' hrm ⊢
    clear hM hb3 hk3 O1 S1 R1 C1 hR6 hR7 S0 R0
    go_wp2_with fail
    go_loopw [7, 39] (fun v i wr => ∃ k : Nat, i = .int .i64 k ∧ k ≤ M ∧ Hid ((Ob b w3 wr ∧ Below w3.heap.size w3 wr) ∧ wr.ownsRow w3.heap.size 103 11 v k (ePk.cs ((k2.map Pb.pkO).take k)))) (fun _ i _ => M - (intOf i).toNat)
    case atStart => exact ⟨0, rfl, by omega, Lib.hid ⟨⟨Ob.refl _ _, Below.refl _ _⟩, World.ownsRow_nil _ _ _ _⟩⟩
    case round =>
      obtain ⟨k, rfl, hk, HW⟩ := hrel
      by_cases hkM : k < M
      · obtain ⟨z, hz⟩ : ∃ z, k2[k]? = some z := ⟨_, List.getElem?_eq_getElem (by rw [HM.out]; exact hkM)⟩
        obtain ⟨y, rfl⟩ := rw_some RG.out (by rw [HM.out]; omega)
        have hat := (rw_ob mk_P RG.out S3.out.bs HW.out.1.1).at hz
        have HF := Lib.hid (show (k2.map Pb.pkO).take (k + 1) = (k2.map Pb.pkO).take k ++ [Pb.pkO z] by rw [List.take_add_one, List.getElem?_map, hz]; rfl)
        have BZ := Lib.hid (show Below wr.heap.size wr (wr.alloc (Pb.Prx z)) from (Below.refl _ _).alloc (Nat.le_refl _) _)
        have QZ := Lib.hid (Pb.qb_box wr z)
        have HPK := Pb.packet_any z
        obtain ⟨pk, hpk⟩ : ∃ pk, Pb.pkO z = pk := ⟨_, rfl⟩
        rw [hpk] at HPK HF
        obtain ⟨pa, pf, pt, p0, p1, p2, p3, p4, p5, pi, ps⟩ := pk
        simp only [Pb.pkv, Pb.prv] at HPK
        replace HPK := Lib.hid HPK
        clear hpk hz
        have hkl : k ≤ 1000 := by omega
        unfold Pb.Prx at *
        go_wp2_with (first | (refine Pb.at_load37 (.tmp 41) rfl rfl (y.add (k * 5)) z rfl hat ?_) | (refine Pb.at_load37 (.tmp 9) rfl rfl ⟨wr.heap.size, 0, none⟩ z rfl QZ.out.at ?_))
        refine (HPK.out _).mono ?_
        rintro e w5 ⟨rfl, hb⟩
        have B5 := Lib.hid (BZ.out.trans (hb.mono BZ.out.size))
        have O5 := Lib.hid (HW.out.1.1.trans (Ob.of B5.out (Nat.lt_of_lt_of_le L3.out HW.out.1.1.size)))
        have W5 := Lib.hid (own_keep HW.out.2 B5.out)
        clear hb hat
        have RX := Lib.hid (pk_box w5 ⟨pa, pf, pt, p0, p1, p2, p3, p4, p5, pi, ps⟩)
        have BX := (Below.refl w5.heap.size w5).alloc (Nat.le_refl _) (Pb.Pkx ⟨pa, pf, pt, p0, p1, p2, p3, p4, p5, pi, ps⟩)
        have O6 := Lib.hid (O5.out.trans (Ob.of BX (Nat.lt_of_lt_of_le L3.out O5.out.size)))
        have W6 := Lib.hid (own_keep W5.out BX)
        have hb6 := O6.out.size
        clear BX
        unfold Pb.Pkx at *
        go_wp2_with (at_builtin; refine wpList_append_rw2 tK _ rfl (.tmp 43) (.tmp 46) rfl w3.heap.size _ k _ (by simp [Act.eval, Act.put]) W6.out _ 1 1 [⟨pa, pf, pt, p0, p1, p2, p3, p4, p5, pi, ps⟩] (by simp [Act.eval, Act.put]) rfl RX.out (by omega) hb6 ?_)
        intro v7 w7 ho7 hg7 hn7
        have O7 := Lib.hid (O6.out.grown hg7 (fun g hg => (W6.out.lt g hg).1) L3.out)
        have B7 := Lib.hid (show Below w3.heap.size w3 w7 from (HW.out.1.2.trans (B5.out.mono HW.out.1.1.size)).trans ((((Below.refl w5.heap.size w5).alloc (Nat.le_refl _) _).mono (Nat.le_trans HW.out.1.1.size B5.out.size)).grown hg7 hb6 (fun g hg => (W6.out.lt g hg).1)))
        have W7 := Lib.hid ho7
        clear ho7 hg7 hn7 hb6
        go_wp2_with fail
        go_roundw
        case rel => exact ⟨k + 1, by go_num, by omega, Lib.hid ⟨⟨O7.out, B7.out⟩, by rw [HF.out]; exact W7.out⟩⟩
        case measure => simp [intOf]; omega
      · obtain rfl : k = M := by omega
        have hW := HW.out
        rw [List.take_of_length_le (by rw [List.length_map, HM.out]; exact Nat.le_refl _)] at hW
        have O5 := Lib.hid hW.1.1
        have W5 := Lib.hid hW.2
        have hW0 := Lib.hid hW.1.2
        clear hW HW
        have S5 := Lib.hid (S3.out.keep hW0.out L3.out)
        have C5 := Lib.hid (cm_ob C3.out O5.out (by have := LT.out; omega))
        have R5 := Lib.hid (show Lie wr ⟨n, q, hs, sw, kn, k1, cs⟩ ⟨A1, c1, A2, c2, A3, c3, A6, c6, A5, c5⟩ from R3.out.ob S3.out.bs O5.out)
        have k4 := C5.out.c4
        dsimp only at k4
        obtain ⟨B5, hB5⟩ : ∃ B5, wr.heap.size = B5 := ⟨_, rfl⟩
        have HB5 := Lib.hid hB5
        clear hB5
        go_wp2_with fail
        refine wp_region_below [fx (.agg #[.int .i64 xa, .int .i64 xb, .int .i64 xc, .int .i64 xd, .int .i64 xe, .int .i64 xf, .int .i64 xg, .int .i64 xh, .int .i64 xi]), fx (.pointer (some ⟨b, 0, none⟩)), fx (.pointer (some ⟨b, 0, none⟩)), fx (.pointer (some ⟨b, 3, none⟩)), fx (.slice A2 sw.length c2), fx (.pointer (some ⟨b, 0, none⟩)), fx (.pointer (some ⟨b, 0, none⟩)), fx (.pointer (some ⟨b, 0, none⟩)), fx (.int .i64 n), fx (.int .i64 room), wF (Rsf B5) (Raf B5) s1 a1, wF (Rsf B5) (Raf B5) s1 a1, rF (Rsf B5) s1, rG (Raf B5) a1, rF (Rsf B5) s1, rG (Raf B5) a1]
          (by kernel_rfl) (by kernel_rfl) (by kernel_rfl) ?_ ?_ ?_
        · simp only [List.mem_cons, List.not_mem_nil, or_false]
          rintro φ (rfl | rfl | rfl | rfl | rfl | rfl | rfl | rfl | rfl | rfl | rfl | rfl | rfl | rfl | rfl | rfl)
          all_goals first | exact stable_fx _ | exact stable_rF hld_h _ | exact stable_rF hld_s _ | exact stable_rF hld_k _ | exact stable_rF hld_p _ | exact stable_rF hld_c _ | exact stable_tF hld_h _ _ | exact stable_tF hld_s _ _ | exact stable_tF hld_k _ _ | exact stable_tF hld_p _ _ | exact stable_tF hld_c _ _ | exact stable_tF (hld_pf _) _ _ | exact stable_rF (hld_pf _) _ | exact stable_rF (hld_sf _) _ | exact stable_rG (hld_af _) _ | exact stable_rG hld_p _ | exact stable_wF hld_p hld_p _ _ | exact stable_wF (hld_sf _) (hld_af _) _ _ | exact stable_nb _
        · refine OgSteps.cons ?_ (OgSteps.cons ?_ (OgSteps.cons ?_ (OgSteps.cons ?_ (OgSteps.cons ?_ (OgSteps.cons ?_ (OgSteps.cons ?_ (OgSteps.cons ?_ (OgSteps.cons ?_ (OgSteps.cons ?_ (OgSteps.cons ?_ (OgSteps.cons ?_ (OgSteps.cons ?_ (OgSteps.cons ?_ (OgSteps.cons ?_ (OgSteps.cons ?_ (OgSteps.nil))))))))))))))))
          · refine OgStep.pure ?_ ?_
            · rfl
            intro u W hS hp
            have C := C5.out.below hS
            have k0 := C.c0
            have k1 := C.c1
            have k2 := C.c2
            have k3 := C.c3
            have k4 := C.c4
            have k5 := C.c5
            have k6 := C.c6
            have k7 := C.c7
            have k8 := C.c8
            dsimp only at k0 k1 k2 k3 k4 k5 k6 k7 k8
            refine ⟨.agg #[.int .i64 xa, .int .i64 xb, .int .i64 xc, .int .i64 xd, .int .i64 xe, .int .i64 xf, .int .i64 xg, .int .i64 xh, .int .i64 xi], ?_, rfl⟩
            simp only [ogMk, Act.put, List.setIfInBounds_toArray, List.set_cons_zero, List.set_cons_succ, Nat.zero_add, Nat.reduceAdd, List.take_succ_cons, List.take_zero, List.drop_succ_cons, List.drop_zero]
            simp [execOp, Act.eval, go_sem, k0, k1, k2, k3, k4, k5, k6, k7, k8]
          · refine OgStep.pure ?_ ?_
            · rfl
            intro u W hS hp
            refine ⟨.pointer (some ⟨b, 0, none⟩), ?_, rfl⟩
            simp only [ogMk, Act.put, List.setIfInBounds_toArray, List.set_cons_zero, List.set_cons_succ, Nat.zero_add, Nat.reduceAdd, List.take_succ_cons, List.take_zero, List.drop_succ_cons, List.drop_zero]
            simp [execOp, Act.eval, go_sem]
          · refine OgStep.pure ?_ ?_
            · rfl
            intro u W hS hp
            have h1 : u 1 = .pointer (some ⟨b, 0, none⟩) := hp ⟨1, .data⟩ (by simp) rfl
            refine ⟨.pointer (some ⟨b, 0, none⟩), ?_, rfl⟩
            simp only [ogMk, Act.put, List.setIfInBounds_toArray, List.set_cons_zero, List.set_cons_succ, Nat.zero_add, Nat.reduceAdd, List.take_succ_cons, List.take_zero, List.drop_succ_cons, List.drop_zero]
            simp [execOp, Act.eval, go_sem, h1]
          · refine OgStep.pure ?_ ?_
            · rfl
            intro u W hS hp
            have h2 : u 2 = .pointer (some ⟨b, 0, none⟩) := hp ⟨2, .data⟩ (by simp) rfl
            refine ⟨.pointer (some ⟨b, 3, none⟩), ?_, rfl⟩
            simp only [ogMk, Act.put, List.setIfInBounds_toArray, List.set_cons_zero, List.set_cons_succ, Nat.zero_add, Nat.reduceAdd, List.take_succ_cons, List.take_zero, List.drop_succ_cons, List.drop_zero]
            simp [execOp, Act.eval, go_sem, h2]
          · refine OgStep.pure ?_ ?_
            · rfl
            intro u W hS hp
            have h3 : u 3 = .pointer (some ⟨b, 3, none⟩) := hp ⟨3, .data⟩ (by simp) rfl
            have j3 := (S5.out.below hS).cx.key 3 _ rfl
            (try dsimp only at j3)
            refine ⟨.slice A2 sw.length c2, ?_, rfl⟩
            simp only [ogMk, Act.put, List.setIfInBounds_toArray, List.set_cons_zero, List.set_cons_succ, Nat.zero_add, Nat.reduceAdd, List.take_succ_cons, List.take_zero, List.drop_succ_cons, List.drop_zero]
            simp [execOp, Act.eval, go_sem, h3, j3]
          · refine OgStep.pure ?_ ?_
            · rfl
            intro u W hS hp
            refine ⟨.pointer (some ⟨b, 0, none⟩), ?_, rfl⟩
            simp only [ogMk, Act.put, List.setIfInBounds_toArray, List.set_cons_zero, List.set_cons_succ, Nat.zero_add, Nat.reduceAdd, List.take_succ_cons, List.take_zero, List.drop_succ_cons, List.drop_zero]
            simp [execOp, Act.eval, go_sem]
          · refine OgStep.pure ?_ ?_
            · rfl
            intro u W hS hp
            have h5 : u 5 = .pointer (some ⟨b, 0, none⟩) := hp ⟨5, .data⟩ (by simp) rfl
            refine ⟨.pointer (some ⟨b, 0, none⟩), ?_, rfl⟩
            simp only [ogMk, Act.put, List.setIfInBounds_toArray, List.set_cons_zero, List.set_cons_succ, Nat.zero_add, Nat.reduceAdd, List.take_succ_cons, List.take_zero, List.drop_succ_cons, List.drop_zero]
            simp [execOp, Act.eval, go_sem, h5]
          · refine OgStep.pure ?_ ?_
            · rfl
            intro u W hS hp
            have h6 : u 6 = .pointer (some ⟨b, 0, none⟩) := hp ⟨6, .data⟩ (by simp) rfl
            refine ⟨.pointer (some ⟨b, 0, none⟩), ?_, rfl⟩
            simp only [ogMk, Act.put, List.setIfInBounds_toArray, List.set_cons_zero, List.set_cons_succ, Nat.zero_add, Nat.reduceAdd, List.take_succ_cons, List.take_zero, List.drop_succ_cons, List.drop_zero]
            simp [execOp, Act.eval, go_sem, h6]
          · refine OgStep.pure ?_ ?_
            · rfl
            intro u W hS hp
            have h7 : u 7 = .pointer (some ⟨b, 0, none⟩) := hp ⟨7, .data⟩ (by simp) rfl
            have j0 := (S5.out.below hS).cx.key 0 _ rfl
            (try dsimp only at j0)
            refine ⟨.int .i64 n, ?_, rfl⟩
            simp only [ogMk, Act.put, List.setIfInBounds_toArray, List.set_cons_zero, List.set_cons_succ, Nat.zero_add, Nat.reduceAdd, List.take_succ_cons, List.take_zero, List.drop_succ_cons, List.drop_zero]
            simp [execOp, Act.eval, go_sem, h7, j0]
          · refine OgStep.pure ?_ ?_
            · rfl
            intro u W hS hp
            refine ⟨.int .i64 room, ?_, rfl⟩
            simp only [ogMk, Act.put, List.setIfInBounds_toArray, List.set_cons_zero, List.set_cons_succ, Nat.zero_add, Nat.reduceAdd, List.take_succ_cons, List.take_zero, List.drop_succ_cons, List.drop_zero]
            simp [execOp, Act.eval, go_sem]
          · refine OgStep.calls ?_ ?_
            · rfl
            intro u W hS hp
            have h0 : u 0 = .agg #[.int .i64 xa, .int .i64 xb, .int .i64 xc, .int .i64 xd, .int .i64 xe, .int .i64 xf, .int .i64 xg, .int .i64 xh, .int .i64 xi] := hp ⟨0, .data⟩ (by simp) rfl
            have h4 : u 4 = .slice A2 sw.length c2 := hp ⟨4, .data⟩ (by simp) rfl
            have h8 : u 8 = .int .i64 n := hp ⟨8, .data⟩ (by simp) rfl
            have h9 : u 9 = .int .i64 room := hp ⟨9, .data⟩ (by simp) rfl
            refine ⟨70, #[.agg #[.int .i64 xa, .int .i64 xb, .int .i64 xc, .int .i64 xd, .int .i64 xe, .int .i64 xf, .int .i64 xg, .int .i64 xh, .int .i64 xi], .slice A2 sw.length c2, .int .i64 n, .int .i64 room], ?_, calls_plan (S := (s1, a1)) (HPL.out W (R5.out.below hS).s) (by have := hS.size; have := HB5.out; omega) rfl⟩
            simp only [ogMk, Act.put, List.setIfInBounds_toArray, List.set_cons_zero, List.set_cons_succ, Nat.zero_add, Nat.reduceAdd, List.take_succ_cons, List.take_zero, List.drop_succ_cons, List.drop_zero]
            simp [execOp, Act.eval, go_sem, h0, h4, h8, h9]
          · refine OgStep.pure ?_ ?_
            · rfl
            intro u W hS hp
            obtain ⟨A7, c7, A8, c8, e7, h7, h8⟩ : wF (Rsf B5) (Raf B5) s1 a1 (u 10) W := hp ⟨10, .data⟩ (by simp) rfl
            refine ⟨.tuple #[.slice A7 s1.length c7, .slice A8 a1.length c8], ?_, ⟨A7, c7, A8, c8, rfl, h7, h8⟩⟩
            simp only [ogMk, Act.put, List.setIfInBounds_toArray, List.set_cons_zero, List.set_cons_succ, Nat.zero_add, Nat.reduceAdd, List.take_succ_cons, List.take_zero, List.drop_succ_cons, List.drop_zero]
            simp [execOp, Act.eval, go_sem, e7]
          · refine OgStep.pure ?_ ?_
            · rfl
            intro u W hS hp
            obtain ⟨A7, c7, A8, c8, e7, h7, h8⟩ : wF (Rsf B5) (Raf B5) s1 a1 (u 11) W := hp ⟨11, .data⟩ (by simp) rfl
            refine ⟨.slice A7 s1.length c7, ?_, ⟨A7, c7, rfl, h7⟩⟩
            simp only [ogMk, Act.put, List.setIfInBounds_toArray, List.set_cons_zero, List.set_cons_succ, Nat.zero_add, Nat.reduceAdd, List.take_succ_cons, List.take_zero, List.drop_succ_cons, List.drop_zero]
            simp [execOp, Act.eval, go_sem, e7]
          · refine OgStep.pure ?_ ?_
            · rfl
            intro u W hS hp
            obtain ⟨A7, c7, A8, c8, e7, h7, h8⟩ : wF (Rsf B5) (Raf B5) s1 a1 (u 11) W := hp ⟨11, .data⟩ (by simp) rfl
            refine ⟨.slice A8 a1.length c8, ?_, ⟨A8, c8, rfl, h8⟩⟩
            simp only [ogMk, Act.put, List.setIfInBounds_toArray, List.set_cons_zero, List.set_cons_succ, Nat.zero_add, Nat.reduceAdd, List.take_succ_cons, List.take_zero, List.drop_succ_cons, List.drop_zero]
            simp [execOp, Act.eval, go_sem, e7]
          · refine OgStep.pure ?_ ?_
            · rfl
            intro u W hS hp
            obtain ⟨A7, c7, e7, h7⟩ : rF (Rsf B5) s1 (u 12) W := hp ⟨12, .data⟩ (by simp) rfl
            refine ⟨.slice A7 s1.length c7, ?_, ⟨A7, c7, rfl, h7⟩⟩
            simp only [ogMk, Act.put, List.setIfInBounds_toArray, List.set_cons_zero, List.set_cons_succ, Nat.zero_add, Nat.reduceAdd, List.take_succ_cons, List.take_zero, List.drop_succ_cons, List.drop_zero]
            simp [execOp, Act.eval, go_sem, e7]
          · refine OgStep.pure ?_ ?_
            · rfl
            intro u W hS hp
            obtain ⟨A7, c7, e7, h7⟩ : rG (Raf B5) a1 (u 13) W := hp ⟨13, .data⟩ (by simp) rfl
            refine ⟨.slice A7 a1.length c7, ?_, ⟨A7, c7, rfl, h7⟩⟩
            simp only [ogMk, Act.put, List.setIfInBounds_toArray, List.set_cons_zero, List.set_cons_succ, Nat.zero_add, Nat.reduceAdd, List.take_succ_cons, List.take_zero, List.drop_succ_cons, List.drop_zero]
            simp [execOp, Act.eval, go_sem, e7]
        · intro u W hS hF
          have e0 : u 0 = .agg #[.int .i64 xa, .int .i64 xb, .int .i64 xc, .int .i64 xd, .int .i64 xe, .int .i64 xf, .int .i64 xg, .int .i64 xh, .int .i64 xi] := hF 0 (by decide)
          have e1 : u 1 = .pointer (some ⟨b, 0, none⟩) := hF 1 (by decide)
          have e2 : u 2 = .pointer (some ⟨b, 0, none⟩) := hF 2 (by decide)
          have e3 : u 3 = .pointer (some ⟨b, 3, none⟩) := hF 3 (by decide)
          have e4 : u 4 = .slice A2 sw.length c2 := hF 4 (by decide)
          have e5 : u 5 = .pointer (some ⟨b, 0, none⟩) := hF 5 (by decide)
          have e6 : u 6 = .pointer (some ⟨b, 0, none⟩) := hF 6 (by decide)
          have e7 : u 7 = .pointer (some ⟨b, 0, none⟩) := hF 7 (by decide)
          have e8 : u 8 = .int .i64 n := hF 8 (by decide)
          have e9 : u 9 = .int .i64 room := hF 9 (by decide)
          obtain ⟨A8, c8, e14, hc8, hR8⟩ : rF (Rsf B5) s1 (u 14) W := hF 14 (by decide)
          obtain ⟨A9, c9, e15, hc9, hR9⟩ : rG (Raf B5) a1 (u 15) W := hF 15 (by decide)
          simp only [ogMk, Act.put, List.setIfInBounds_toArray, List.set_cons_zero, List.set_cons_succ, Nat.zero_add, Nat.reduceAdd, List.take_succ_cons, List.take_zero, List.drop_succ_cons, List.drop_zero]
          rw [e0, e1, e2, e3, e4, e5, e6, e7, e8, e9, e14, e15]
          clear e0 e1 e2 e3 e4 e5 e6 e7 e8 e9 e14 e15 hF
          have O6 := Lib.hid (O5.out.trans (Ob.of hS S5.out.lt))
          have S6 := Lib.hid (S5.out.below hS)
          have R6 := Lib.hid (R5.out.below hS)
          have W6 := Lib.hid (own_keep W5.out hS)
          have C6 := Lib.hid (C5.out.below hS)
          have hlo := fun g hg => (W5.out.lt g hg)
          have VA8 := Lib.hid (show Av A8 s1.length u7 from fun y g hy _ hg => by have := hR8.2 y hy; have := (hlo g hg).2; have := HB5.out; omega)
          have VA9 := Lib.hid (show Av A9 a1.length u7 from fun y g hy _ hg => by have := hR9.2 y hy; have := (hlo g hg).2; have := HB5.out; omega)
          have VA6 := Lib.hid (show Av A6 k1.length u7 from fun y g hy h0 hg => by have := rw_lt' R3.out.p y hy h0; have := (hlo g hg).1; omega)
          clear hlo
          go_wp2_with (refine at_fieldSt 30 _ _ b [.int .i64 n, .int .i64 q, .slice A1 hs.length c1] (.slice A2 sw.length c2) (.slice A8 s1.length c8) [.slice A3 kn.length c3, .slice A6 k1.length c6, .slice A5 cs.length c5] S6.out sizeRs rfl (ns_sl _ _ _) rfl rfl rfl rfl rfl ?_)
          intro w7 S7 hb7 hk7
          have P7 := Ob.put hb7.out hk7.out
          have O7 := Lib.hid (O6.out.trans P7)
          have LP0 := Lib.hid (show Lp b w3 ⟨n, q, hs, s1, kn, k1, cs⟩ ⟨A1, c1, A8, c8, A3, c3, A6, c6, A5, c5⟩ A8 A9 s1 a1 (⟨n, q, hs, s1, kn, k1, cs⟩, k2.map Pb.pkO) u7 w7 from ⟨O7.out, rfl, ⟨A6, c6, S7.out, R3.out.pc, rw_ob mk_P R3.out.p S3.out.bs O7.out, VA6.out⟩, (by rw [show ((⟨n, q, hs, s1, kn, k1, cs⟩, k2.map Pb.pkO) : Stt × List Pb.Pk).2.length = k from (List.length_map _).trans HM.out]; exact own_ob W6.out P7 L3.out), rw_apart mk_W hR8.1 S6.out.bs hk7.out, VA8.out, rw_apart mk_a hR9.1 S6.out.bs hk7.out, VA9.out, HI7.out⟩)
          have hlnN := hR9.1.1
          have R3L := R3
          have R8c := Lib.hid hc8
          obtain ⟨N, hN⟩ : ∃ N, a1.length = N := ⟨_, rfl⟩
          have HN := Lib.hid hN
          rw [hN] at hlnN ⊢
          clear hN hb7 hk7 P7 O6 S6 R6 W6 VA8 VA9 VA6 O5 S5 R5 W5 C5 HB5 hR8 hR9 HPL C6 O7 S7 R3 RG
          go_wp2_with fail
          go_loopw [7, 79] (fun v i wr => ∃ j : Nat, i = .int .i64 j ∧ j ≤ N ∧ Hid (Lp b w3 ⟨n, q, hs, s1, kn, k1, cs⟩ ⟨A1, c1, A8, c8, A3, c3, A6, c6, A5, c5⟩ A8 A9 s1 a1 ((a1.take j).foldl t5q (⟨n, q, hs, s1, kn, k1, cs⟩, k2.map Pb.pkO)) v wr)) (fun _ i _ => N - (intOf i).toNat)
          case atStart => exact ⟨0, rfl, by omega, LP0⟩
          case round =>
            obtain ⟨j, rfl, hj, HW⟩ := hrel
            clear LP0
            by_cases hjN : j < N
            · obtain ⟨z, hz⟩ : ∃ z, a1[j]? = some z := ⟨_, List.getElem?_eq_getElem (by rw [HN.out]; exact hjN)⟩
              obtain ⟨y, rfl⟩ := rw_some HW.out.ra (by rw [HN.out]; omega)
              have HF := Lib.hid (fold_take t5q (⟨n, q, hs, s1, kn, k1, cs⟩, k2.map Pb.pkO) hz)
              have HZ := Lib.hid (HPI.out z (List.mem_of_getElem? hz))
              have hpl : ((a1.take j).foldl t5q (⟨n, q, hs, s1, kn, k1, cs⟩, k2.map Pb.pkO)).2.length ≤ 300 := by
                have h1 := fold5_len (a1.take j) (⟨n, q, hs, s1, kn, k1, cs⟩, k2.map Pb.pkO)
                have h2 := HM.out
                have h3 := HN.out
                have h4 := HA1.out
                simp only [List.length_map, List.length_take] at h1
                omega
              generalize (a1.take j).foldl t5q (⟨n, q, hs, s1, kn, k1, cs⟩, k2.map Pb.pkO) = S at *
              obtain ⟨S1, ps0⟩ := S
              obtain ⟨Q, hQ⟩ : ∃ Q, S1.seq = Q := ⟨_, rfl⟩
              obtain ⟨PB, hPB⟩ : ∃ PB, S1.pb = PB := ⟨_, rfl⟩
              have he := HW.out.eq
              dsimp only at he
              rw [hQ, hPB] at he
              subst he
              clear hQ hPB
              obtain ⟨hob, -, ⟨Ap, cp, hsb, hcp, hrp, hav⟩, hown, hrs, hvs, hra, hva, hin⟩ := HW.out
              dsimp only at hsb hcp hrp hav hown hin
              have hat : wr.cell? (y.add j) = some (.int .u32 z) := by
                obtain ⟨y2, hy2, hc2⟩ := hra.2 j z hz
                obtain rfl := Option.some.inj hy2
                have := hc2 0 (.int .u32 z) rfl
                simpa [Sw.eA] using this
              have hQ0 := hin.q0
              have hQ1 := hin.q1
              dsimp only at hQ0 hQ1 hpl
              have hp16 := hin.p16
              dsimp only at hp16
              obtain ⟨Q1, hQe⟩ : ∃ Q1, (Q + 1) % 65536 = Q1 := ⟨_, rfl⟩
              have hQt : (Q + 1).tmod 65536 = Q1 := by rw [Int.tmod_eq_emod_of_nonneg (by omega)]; exact hQe
              have hof : Pb.ofP z Q1 n = ⟨z, z % 65536, (Q + 1) % 65536, n, 0⟩ := by
                unfold Pb.ofP
                rw [cl_in hn0 hn1, hQe, show Q1 % 65536 = Q1 by omega]
              have HOF := fun W => Pb.of_any z Q1 n W
              have HT := show t5q (⟨n, Q, hs, s1, kn, PB, cs⟩, ps0) z = _ from by unfold t5q; rfl
              dsimp only at HT
              rw [← hof, hQe] at HT
              obtain ⟨p, hp⟩ : ∃ p, Pb.ofP z Q1 n = p := ⟨_, rfl⟩
              rw [hp] at HT HOF
              have HPU := fun W (hW : Rw Pb.eP W Ap PB) => Pb.put_any p Ap PB cp W hW hcp (by omega)
              obtain ⟨ys, hys⟩ : ∃ ys, Pb.putR PB p = ys := ⟨_, rfl⟩
              obtain ⟨er, her⟩ : ∃ er, Pb.putC PB p = er := ⟨_, rfl⟩
              rw [hys, her] at HPU HT
              have HIN := Lib.hid (In.t5q (s := (⟨n, Q, hs, s1, kn, PB, cs⟩, ps0)) hin HZ.out.1 HZ.out.2)
              have HKE := Lib.hid (t5q_keep (⟨n, Q, hs, s1, kn, PB, cs⟩, ps0) z)
              have HPK := Pb.packet_any p
              obtain ⟨pk, hpk⟩ : ∃ pk, Pb.pkO p = pk := ⟨_, rfl⟩
              rw [hpk] at HPK HT
              obtain ⟨pa, pf, pt, p0, p1, p2, p3, p4, p5, pi, ps⟩ := pk
              simp only [Pb.pkv, Pb.prv] at HPK HPU HOF
              replace HPK := Lib.hid HPK
              replace HPU := Lib.hid HPU
              replace HOF := Lib.hid HOF
              replace HT := Lib.hid HT
              have HSB := Lib.hid hsb
              have HRP := Lib.hid hrp
              have HRS := Lib.hid hrs
              have HRA := Lib.hid hra
              have HOW := Lib.hid hown
              have HOB := Lib.hid hob
              have HAV := Lib.hid (show Av Ap PB.length u7 ∧ Av A8 s1.length u7 ∧ Av (some y) a1.length u7 from ⟨hav, hvs, hva⟩)
              have HCP := Lib.hid hcp
              have k1 := hsb.cx.key 1 _ rfl
              dsimp only at k1
              clear hpk hp hys her hQe hof hsb hrp hrs hra hown hob hav hvs hva hin hz HW hcp
              go_wp2_with (refine at_fieldSt 3 _ _ b [.int .i64 n] (.int .i64 Q) (.int .i64 Q1) [.slice A1 hs.length c1, .slice A8 s1.length c8, .slice A3 kn.length c3, .slice Ap PB.length cp, .slice A5 cs.length c5] HSB.out sizeInt rfl (ns_int _) rfl rfl rfl rfl rfl ?_)
              intro w8 S8 hb8 hk8
              have P8 := Ob.put hb8.out hk8.out
              have RP8 := Lib.hid (rw_apart mk_P HRP.out HSB.out.bs hk8.out)
              have RS8 := Lib.hid (rw_apart mk_W HRS.out HSB.out.bs hk8.out)
              have RA8 := Lib.hid (rw_apart mk_a HRA.out HSB.out.bs hk8.out)
              have OW8 := Lib.hid (own_ob HOW.out P8 L3.out)
              have OB8 := Lib.hid (HOB.out.trans P8)
              clear hb8 hk8 P8 HRP HRS HRA HOW HOB HSB hat k1
              go_wp2_with fail
              refine wp_region_below_tail 11 [fx (.int .u32 z), fx (.pointer (some ⟨b, 0, none⟩)), fx (.pointer (some ⟨b, 0, none⟩)), fx (.pointer (some ⟨b, 1, none⟩)), fx (.int .i64 Q1), fx (.pointer (some ⟨b, 0, none⟩)), fx (.pointer (some ⟨b, 0, none⟩)), fx (.pointer (some ⟨b, 0, none⟩)), fx (.int .i64 n), fx (.agg #[.int .u32 p.a, .int .i64 p.i, .int .i64 p.s, .int .i64 p.t, .int .i64 p.n]), Nb w8.heap.size]
                (by kernel_rfl) (by simp) (by kernel_rfl) (by kernel_rfl) (by kernel_rfl) ?_ ?_ ?_
              · simp only [List.mem_cons, List.not_mem_nil, or_false]
                rintro φ (rfl | rfl | rfl | rfl | rfl | rfl | rfl | rfl | rfl | rfl | rfl)
                all_goals first | exact stable_fx _ | exact stable_rF hld_h _ | exact stable_rF hld_s _ | exact stable_rF hld_k _ | exact stable_rF hld_p _ | exact stable_rF hld_c _ | exact stable_tF hld_h _ _ | exact stable_tF hld_s _ _ | exact stable_tF hld_k _ _ | exact stable_tF hld_p _ _ | exact stable_tF hld_c _ _ | exact stable_tF (hld_pf _) _ _ | exact stable_rF (hld_pf _) _ | exact stable_rF (hld_sf _) _ | exact stable_rG (hld_af _) _ | exact stable_rG hld_p _ | exact stable_wF hld_p hld_p _ _ | exact stable_wF (hld_sf _) (hld_af _) _ _ | exact stable_nb _
              · refine OgSteps.cons ?_ (OgSteps.cons ?_ (OgSteps.cons ?_ (OgSteps.cons ?_ (OgSteps.cons ?_ (OgSteps.cons ?_ (OgSteps.cons ?_ (OgSteps.cons ?_ (OgSteps.cons ?_ (OgSteps.cons ?_ (OgSteps.cons ?_ (OgSteps.nil)))))))))))
                · refine OgStep.pure ?_ ?_
                  · rfl
                  intro u W hS hp
                  refine ⟨.int .u32 z, ?_, rfl⟩
                  simp only [ogMk, Act.put, List.setIfInBounds_toArray, List.set_cons_zero, List.set_cons_succ, Nat.zero_add, Nat.reduceAdd, List.take_succ_cons, List.take_zero, List.drop_succ_cons, List.drop_zero]
                  simp [execOp, Act.eval, go_sem]
                · refine OgStep.pure ?_ ?_
                  · rfl
                  intro u W hS hp
                  refine ⟨.pointer (some ⟨b, 0, none⟩), ?_, rfl⟩
                  simp only [ogMk, Act.put, List.setIfInBounds_toArray, List.set_cons_zero, List.set_cons_succ, Nat.zero_add, Nat.reduceAdd, List.take_succ_cons, List.take_zero, List.drop_succ_cons, List.drop_zero]
                  simp [execOp, Act.eval, go_sem]
                · refine OgStep.pure ?_ ?_
                  · rfl
                  intro u W hS hp
                  have h1 : u 1 = .pointer (some ⟨b, 0, none⟩) := hp ⟨1, .data⟩ (by simp) rfl
                  refine ⟨.pointer (some ⟨b, 0, none⟩), ?_, rfl⟩
                  simp only [ogMk, Act.put, List.setIfInBounds_toArray, List.set_cons_zero, List.set_cons_succ, Nat.zero_add, Nat.reduceAdd, List.take_succ_cons, List.take_zero, List.drop_succ_cons, List.drop_zero]
                  simp [execOp, Act.eval, go_sem, h1]
                · refine OgStep.pure ?_ ?_
                  · rfl
                  intro u W hS hp
                  have h2 : u 2 = .pointer (some ⟨b, 0, none⟩) := hp ⟨2, .data⟩ (by simp) rfl
                  refine ⟨.pointer (some ⟨b, 1, none⟩), ?_, rfl⟩
                  simp only [ogMk, Act.put, List.setIfInBounds_toArray, List.set_cons_zero, List.set_cons_succ, Nat.zero_add, Nat.reduceAdd, List.take_succ_cons, List.take_zero, List.drop_succ_cons, List.drop_zero]
                  simp [execOp, Act.eval, go_sem, h2]
                · refine OgStep.pure ?_ ?_
                  · rfl
                  intro u W hS hp
                  have h3 : u 3 = .pointer (some ⟨b, 1, none⟩) := hp ⟨3, .data⟩ (by simp) rfl
                  have j1 := (S8.out.below hS).cx.key 1 _ rfl
                  (try dsimp only at j1)
                  refine ⟨.int .i64 Q1, ?_, rfl⟩
                  simp only [ogMk, Act.put, List.setIfInBounds_toArray, List.set_cons_zero, List.set_cons_succ, Nat.zero_add, Nat.reduceAdd, List.take_succ_cons, List.take_zero, List.drop_succ_cons, List.drop_zero]
                  simp [execOp, Act.eval, go_sem, h3, j1]
                · refine OgStep.pure ?_ ?_
                  · rfl
                  intro u W hS hp
                  refine ⟨.pointer (some ⟨b, 0, none⟩), ?_, rfl⟩
                  simp only [ogMk, Act.put, List.setIfInBounds_toArray, List.set_cons_zero, List.set_cons_succ, Nat.zero_add, Nat.reduceAdd, List.take_succ_cons, List.take_zero, List.drop_succ_cons, List.drop_zero]
                  simp [execOp, Act.eval, go_sem]
                · refine OgStep.pure ?_ ?_
                  · rfl
                  intro u W hS hp
                  have h5 : u 5 = .pointer (some ⟨b, 0, none⟩) := hp ⟨5, .data⟩ (by simp) rfl
                  refine ⟨.pointer (some ⟨b, 0, none⟩), ?_, rfl⟩
                  simp only [ogMk, Act.put, List.setIfInBounds_toArray, List.set_cons_zero, List.set_cons_succ, Nat.zero_add, Nat.reduceAdd, List.take_succ_cons, List.take_zero, List.drop_succ_cons, List.drop_zero]
                  simp [execOp, Act.eval, go_sem, h5]
                · refine OgStep.pure ?_ ?_
                  · rfl
                  intro u W hS hp
                  have h6 : u 6 = .pointer (some ⟨b, 0, none⟩) := hp ⟨6, .data⟩ (by simp) rfl
                  refine ⟨.pointer (some ⟨b, 0, none⟩), ?_, rfl⟩
                  simp only [ogMk, Act.put, List.setIfInBounds_toArray, List.set_cons_zero, List.set_cons_succ, Nat.zero_add, Nat.reduceAdd, List.take_succ_cons, List.take_zero, List.drop_succ_cons, List.drop_zero]
                  simp [execOp, Act.eval, go_sem, h6]
                · refine OgStep.pure ?_ ?_
                  · rfl
                  intro u W hS hp
                  have h7 : u 7 = .pointer (some ⟨b, 0, none⟩) := hp ⟨7, .data⟩ (by simp) rfl
                  have j0 := (S8.out.below hS).cx.key 0 _ rfl
                  (try dsimp only at j0)
                  refine ⟨.int .i64 n, ?_, rfl⟩
                  simp only [ogMk, Act.put, List.setIfInBounds_toArray, List.set_cons_zero, List.set_cons_succ, Nat.zero_add, Nat.reduceAdd, List.take_succ_cons, List.take_zero, List.drop_succ_cons, List.drop_zero]
                  simp [execOp, Act.eval, go_sem, h7, j0]
                · refine OgStep.calls ?_ ?_
                  · rfl
                  intro u W hS hp
                  have h0 : u 0 = .int .u32 z := hp ⟨0, .data⟩ (by simp) rfl
                  have h4 : u 4 = .int .i64 Q1 := hp ⟨4, .data⟩ (by simp) rfl
                  have h8 : u 8 = .int .i64 n := hp ⟨8, .data⟩ (by simp) rfl
                  refine ⟨102, #[.int .u32 z, .int .i64 Q1, .int .i64 n], ?_, calls_fx (HOF.out W) rfl⟩
                  simp only [ogMk, Act.put, List.setIfInBounds_toArray, List.set_cons_zero, List.set_cons_succ, Nat.zero_add, Nat.reduceAdd, List.take_succ_cons, List.take_zero, List.drop_succ_cons, List.drop_zero]
                  simp [execOp, Act.eval, go_sem, h0, h4, h8]
                · refine OgStep.made ?_ ?_
                  · rfl
                  intro u W hS hp
                  refine ⟨.pointer (some ⟨W.heap.size, 0, none⟩), _, ?_, (Below.refl _ W).alloc (Nat.le_refl _) _, show Nb w8.heap.size _ (W.alloc (Pb.Prx Pb.zr)) from ⟨W.heap.size, rfl, hS.size, cx_box W _ _ _ rfl⟩⟩
                  simp only [ogMk, Act.put, List.setIfInBounds_toArray, List.set_cons_zero, List.set_cons_succ, Nat.zero_add, Nat.reduceAdd, List.take_succ_cons, List.take_zero, List.drop_succ_cons, List.drop_zero]
                  simp [execOp, Act.eval, go_sem]
                  rfl
              · intro u W hS hF
                have e0 : u 0 = .int .u32 z := hF 0 (by decide)
                have e1 : u 1 = .pointer (some ⟨b, 0, none⟩) := hF 1 (by decide)
                have e2 : u 2 = .pointer (some ⟨b, 0, none⟩) := hF 2 (by decide)
                have e3 : u 3 = .pointer (some ⟨b, 1, none⟩) := hF 3 (by decide)
                have e4 : u 4 = .int .i64 Q1 := hF 4 (by decide)
                have e5 : u 5 = .pointer (some ⟨b, 0, none⟩) := hF 5 (by decide)
                have e6 : u 6 = .pointer (some ⟨b, 0, none⟩) := hF 6 (by decide)
                have e7 : u 7 = .pointer (some ⟨b, 0, none⟩) := hF 7 (by decide)
                have e8 : u 8 = .int .i64 n := hF 8 (by decide)
                have e9 : u 9 = .agg #[.int .u32 p.a, .int .i64 p.i, .int .i64 p.s, .int .i64 p.t, .int .i64 p.n] := hF 9 (by decide)
                obtain ⟨g, e10, hg1, hg2⟩ : Nb w8.heap.size (u 10) W := hF 10 (by decide)
                simp only [ogMk, Act.put, List.setIfInBounds_toArray, List.set_cons_zero, List.set_cons_succ, Nat.zero_add, Nat.reduceAdd, List.take_succ_cons, List.take_zero, List.drop_succ_cons, List.drop_zero]
                rw [e0, e1, e2, e3, e4, e5, e6, e7, e8, e9, e10]
                clear e0 e1 e2 e3 e4 e5 e6 e7 e8 e9 e10 hF
                have BW := hS
                go_wp2_with (refine at_put 97 _ _ g [] (Pb.prl Pb.zr) (Pb.prl p) [] (by simpa using hg2) rfl (by rw [sizePr]; rfl) (by simp [Pb.prl, Value.oneCell']) rfl rfl rfl rfl ?_)
                intro w9 GX0 hb9 hk9
                have GX := Lib.hid (show Cx w9 g (Pb.prl p) by simpa using GX0.out)
                have B9 := Lib.hid (BW.trans (hb9.out _ hg1))
                have RP9 := Lib.hid (RP8.out.below B9.out)
                have RS9 := Lib.hid (RS8.out.below B9.out)
                have RA9 := Lib.hid (RA8.out.below B9.out)
                have OW9 := Lib.hid (own_keep OW8.out B9.out)
                have S9 := Lib.hid (S8.out.below B9.out)
                have OB9 := Lib.hid (OB8.out.trans (Ob.of B9.out S8.out.lt))
                have HG := Lib.hid (show b < g from Nat.lt_of_lt_of_le S8.out.lt hg1)
                clear BW GX0 hb9 hk9 hg1 hg2 hS B9 RP8 RS8 RA8 OW8 S8 OB8
                go_wp2_with fail
                refine wp_region_below [fx (.pointer (some ⟨b, 0, none⟩)), fx (.pointer (some ⟨b, 0, none⟩)), fx (.pointer (some ⟨b, 5, none⟩)), fx (.slice Ap PB.length cp), fx (.agg #[.int .u32 p.a, .int .i64 p.i, .int .i64 p.s, .int .i64 p.t, .int .i64 p.n]), tF (Rpf w9.heap.size) ys er, tF (Rpf w9.heap.size) ys er, rF (Rpf w9.heap.size) ys, fx (.int .i64 er), rF (Rpf w9.heap.size) ys, fx (.int .i64 er)]
                  (by kernel_rfl) (by kernel_rfl) (by kernel_rfl) ?_ ?_ ?_
                · simp only [List.mem_cons, List.not_mem_nil, or_false]
                  rintro φ (rfl | rfl | rfl | rfl | rfl | rfl | rfl | rfl | rfl | rfl | rfl)
                  all_goals first | exact stable_fx _ | exact stable_rF hld_h _ | exact stable_rF hld_s _ | exact stable_rF hld_k _ | exact stable_rF hld_p _ | exact stable_rF hld_c _ | exact stable_tF hld_h _ _ | exact stable_tF hld_s _ _ | exact stable_tF hld_k _ _ | exact stable_tF hld_p _ _ | exact stable_tF hld_c _ _ | exact stable_tF (hld_pf _) _ _ | exact stable_rF (hld_pf _) _ | exact stable_rF (hld_sf _) _ | exact stable_rG (hld_af _) _ | exact stable_rG hld_p _ | exact stable_wF hld_p hld_p _ _ | exact stable_wF (hld_sf _) (hld_af _) _ _ | exact stable_nb _
                · refine OgSteps.cons ?_ (OgSteps.cons ?_ (OgSteps.cons ?_ (OgSteps.cons ?_ (OgSteps.cons ?_ (OgSteps.cons ?_ (OgSteps.cons ?_ (OgSteps.cons ?_ (OgSteps.cons ?_ (OgSteps.cons ?_ (OgSteps.cons ?_ (OgSteps.nil)))))))))))
                  · refine OgStep.pure ?_ ?_
                    · rfl
                    intro u W hS hp
                    refine ⟨.pointer (some ⟨b, 0, none⟩), ?_, rfl⟩
                    simp only [ogMk, Act.put, List.setIfInBounds_toArray, List.set_cons_zero, List.set_cons_succ, Nat.zero_add, Nat.reduceAdd, List.take_succ_cons, List.take_zero, List.drop_succ_cons, List.drop_zero]
                    simp [execOp, Act.eval, go_sem]
                  · refine OgStep.pure ?_ ?_
                    · rfl
                    intro u W hS hp
                    have h0 : u 0 = .pointer (some ⟨b, 0, none⟩) := hp ⟨0, .data⟩ (by simp) rfl
                    refine ⟨.pointer (some ⟨b, 0, none⟩), ?_, rfl⟩
                    simp only [ogMk, Act.put, List.setIfInBounds_toArray, List.set_cons_zero, List.set_cons_succ, Nat.zero_add, Nat.reduceAdd, List.take_succ_cons, List.take_zero, List.drop_succ_cons, List.drop_zero]
                    simp [execOp, Act.eval, go_sem, h0]
                  · refine OgStep.pure ?_ ?_
                    · rfl
                    intro u W hS hp
                    have h1 : u 1 = .pointer (some ⟨b, 0, none⟩) := hp ⟨1, .data⟩ (by simp) rfl
                    refine ⟨.pointer (some ⟨b, 5, none⟩), ?_, rfl⟩
                    simp only [ogMk, Act.put, List.setIfInBounds_toArray, List.set_cons_zero, List.set_cons_succ, Nat.zero_add, Nat.reduceAdd, List.take_succ_cons, List.take_zero, List.drop_succ_cons, List.drop_zero]
                    simp [execOp, Act.eval, go_sem, h1]
                  · refine OgStep.pure ?_ ?_
                    · rfl
                    intro u W hS hp
                    have h2 : u 2 = .pointer (some ⟨b, 5, none⟩) := hp ⟨2, .data⟩ (by simp) rfl
                    have j5 := (S9.out.below hS).cx.key 5 _ rfl
                    (try dsimp only at j5)
                    refine ⟨.slice Ap PB.length cp, ?_, rfl⟩
                    simp only [ogMk, Act.put, List.setIfInBounds_toArray, List.set_cons_zero, List.set_cons_succ, Nat.zero_add, Nat.reduceAdd, List.take_succ_cons, List.take_zero, List.drop_succ_cons, List.drop_zero]
                    simp [execOp, Act.eval, go_sem, h2, j5]
                  · refine OgStep.pure ?_ ?_
                    · rfl
                    intro u W hS hp
                    have G := (cx_ob9 GX.out hS)
                    have g0 := G.key 0 _ rfl
                    have g1 := G.key 1 _ rfl
                    have g2 := G.key 2 _ rfl
                    have g3 := G.key 3 _ rfl
                    have g4 := G.key 4 _ rfl
                    (try dsimp only at g0 g1 g2 g3 g4)
                    refine ⟨.agg #[.int .u32 p.a, .int .i64 p.i, .int .i64 p.s, .int .i64 p.t, .int .i64 p.n], ?_, rfl⟩
                    simp only [ogMk, Act.put, List.setIfInBounds_toArray, List.set_cons_zero, List.set_cons_succ, Nat.zero_add, Nat.reduceAdd, List.take_succ_cons, List.take_zero, List.drop_succ_cons, List.drop_zero]
                    simp [execOp, Act.eval, go_sem, g0, g1, g2, g3, g4]
                  · refine OgStep.calls ?_ ?_
                    · rfl
                    intro u W hS hp
                    have h3 : u 3 = .slice Ap PB.length cp := hp ⟨3, .data⟩ (by simp) rfl
                    have h4 : u 4 = .agg #[.int .u32 p.a, .int .i64 p.i, .int .i64 p.s, .int .i64 p.t, .int .i64 p.n] := hp ⟨4, .data⟩ (by simp) rfl
                    refine ⟨71, #[.slice Ap PB.length cp, .agg #[.int .u32 p.a, .int .i64 p.i, .int .i64 p.s, .int .i64 p.t, .int .i64 p.n]], ?_, calls_tF (tp_pf (HPU.out W (RP9.out.below hS)) hS.size) rfl⟩
                    simp only [ogMk, Act.put, List.setIfInBounds_toArray, List.set_cons_zero, List.set_cons_succ, Nat.zero_add, Nat.reduceAdd, List.take_succ_cons, List.take_zero, List.drop_succ_cons, List.drop_zero]
                    simp [execOp, Act.eval, go_sem, h3, h4]
                  · refine OgStep.pure ?_ ?_
                    · rfl
                    intro u W hS hp
                    obtain ⟨A7, c7, e7, h7⟩ : tF (Rpf w9.heap.size) ys er (u 5) W := hp ⟨5, .data⟩ (by simp) rfl
                    refine ⟨.tuple #[.slice A7 ys.length c7, .int .i64 er], ?_, ⟨A7, c7, rfl, h7⟩⟩
                    simp only [ogMk, Act.put, List.setIfInBounds_toArray, List.set_cons_zero, List.set_cons_succ, Nat.zero_add, Nat.reduceAdd, List.take_succ_cons, List.take_zero, List.drop_succ_cons, List.drop_zero]
                    simp [execOp, Act.eval, go_sem, e7]
                  · refine OgStep.pure ?_ ?_
                    · rfl
                    intro u W hS hp
                    obtain ⟨A7, c7, e7, h7⟩ : tF (Rpf w9.heap.size) ys er (u 6) W := hp ⟨6, .data⟩ (by simp) rfl
                    refine ⟨.slice A7 ys.length c7, ?_, ⟨A7, c7, rfl, h7⟩⟩
                    simp only [ogMk, Act.put, List.setIfInBounds_toArray, List.set_cons_zero, List.set_cons_succ, Nat.zero_add, Nat.reduceAdd, List.take_succ_cons, List.take_zero, List.drop_succ_cons, List.drop_zero]
                    simp [execOp, Act.eval, go_sem, e7]
                  · refine OgStep.pure ?_ ?_
                    · rfl
                    intro u W hS hp
                    obtain ⟨A7, c7, e7, h7⟩ : tF (Rpf w9.heap.size) ys er (u 6) W := hp ⟨6, .data⟩ (by simp) rfl
                    refine ⟨.int .i64 er, ?_, rfl⟩
                    simp only [ogMk, Act.put, List.setIfInBounds_toArray, List.set_cons_zero, List.set_cons_succ, Nat.zero_add, Nat.reduceAdd, List.take_succ_cons, List.take_zero, List.drop_succ_cons, List.drop_zero]
                    simp [execOp, Act.eval, go_sem, e7]
                  · refine OgStep.pure ?_ ?_
                    · rfl
                    intro u W hS hp
                    obtain ⟨A7, c7, e7, h7⟩ : rF (Rpf w9.heap.size) ys (u 7) W := hp ⟨7, .data⟩ (by simp) rfl
                    refine ⟨.slice A7 ys.length c7, ?_, ⟨A7, c7, rfl, h7⟩⟩
                    simp only [ogMk, Act.put, List.setIfInBounds_toArray, List.set_cons_zero, List.set_cons_succ, Nat.zero_add, Nat.reduceAdd, List.take_succ_cons, List.take_zero, List.drop_succ_cons, List.drop_zero]
                    simp [execOp, Act.eval, go_sem, e7]
                  · refine OgStep.pure ?_ ?_
                    · rfl
                    intro u W hS hp
                    have h8 : u 8 = .int .i64 er := hp ⟨8, .data⟩ (by simp) rfl
                    refine ⟨.int .i64 er, ?_, rfl⟩
                    simp only [ogMk, Act.put, List.setIfInBounds_toArray, List.set_cons_zero, List.set_cons_succ, Nat.zero_add, Nat.reduceAdd, List.take_succ_cons, List.take_zero, List.drop_succ_cons, List.drop_zero]
                    simp [execOp, Act.eval, go_sem, h8]
                · intro u W9 hS hF
                  have e0 : u 0 = .pointer (some ⟨b, 0, none⟩) := hF 0 (by decide)
                  have e1 : u 1 = .pointer (some ⟨b, 0, none⟩) := hF 1 (by decide)
                  have e2 : u 2 = .pointer (some ⟨b, 5, none⟩) := hF 2 (by decide)
                  have e3 : u 3 = .slice Ap PB.length cp := hF 3 (by decide)
                  have e4 : u 4 = .agg #[.int .u32 p.a, .int .i64 p.i, .int .i64 p.s, .int .i64 p.t, .int .i64 p.n] := hF 4 (by decide)
                  have e8 : u 8 = .int .i64 er := hF 8 (by decide)
                  have e10 : u 10 = .int .i64 er := hF 10 (by decide)
                  obtain ⟨Aq, cq, e9, hcq, hRq⟩ : rF (Rpf w9.heap.size) ys (u 9) W9 := hF 9 (by decide)
                  simp only [ogMk, Act.put, List.setIfInBounds_toArray, List.set_cons_zero, List.set_cons_succ, Nat.zero_add, Nat.reduceAdd, List.take_succ_cons, List.take_zero, List.drop_succ_cons, List.drop_zero]
                  rw [e0, e1, e2, e3, e4, e8, e10, e9]
                  clear e0 e1 e2 e3 e4 e8 e10 e9 hF
                  have RS10 := Lib.hid (RS9.out.below hS)
                  have RA10 := Lib.hid (RA9.out.below hS)
                  have RP10 := Lib.hid (RP9.out.below hS)
                  have OW10 := Lib.hid (own_keep OW9.out hS)
                  have S10 := Lib.hid (S9.out.below hS)
                  have OB10 := Lib.hid (OB9.out.trans (Ob.of hS S9.out.lt))
                  have GX10 := Lib.hid (cx_ob9 GX.out hS)
                  have VQ := Lib.hid (show Av Aq ys.length u7 from fun y g hy _ hg => by have := hRq.2 y hy; have := (OW9.out.lt g hg).2; omega)
                  have RQ := Lib.hid hRq.1
                  clear hS RP9 RS9 RA9 OW9 S9 OB9 GX hRq
                  go_wp2_with fail
                  refine (replaceP_x b [.int .i64 n, .int .i64 Q1, .slice A1 hs.length c1, .slice A8 s1.length c8, .slice A3 kn.length c3] (.slice Ap PB.length cp) Aq ys.length cq [.slice A5 cs.length c5] er W9 S10.out).mono ?_
                  rintro e w11 ⟨rfl, hs11, hb11, hk11⟩
                  have P11 := Ob.put hb11 hk11
                  have RS11 := Lib.hid (rw_apart mk_W RS10.out S10.out.bs hk11)
                  have RA11 := Lib.hid (rw_apart mk_a RA10.out S10.out.bs hk11)
                  have OW11 := Lib.hid (own_ob OW10.out P11 L3.out)
                  have OB11 := Lib.hid (OB10.out.trans P11)
                  have S11 := Lib.hid hs11
                  by_cases h0 : er = 0
                  · subst h0
                    rw [if_pos rfl] at HT
                    have S11 := Lib.hid (show Sb w11 b (stl ⟨n, Q1, hs, s1, kn, ys, cs⟩ ⟨A1, c1, A8, c8, A3, c3, Aq, cq, A5, c5⟩) from by have := S11.out; rw [if_pos rfl] at this; exact this)
                    have RQ11 := Lib.hid (rw_apart mk_P RQ.out S10.out.bs hk11)
                    have GX11 := (show Cx w11 g (Pb.prl p) from cx_ob GX10.out P11 (by have := HG.out; omega))
                    have hat : ∀ j v, (Pb.prl p)[j]? = some v → w11.cell? ((⟨g, 0, none⟩ : Addr).add j) = some v := fun j v hv => by have := GX11.key j v hv; by_cases hj0 : j = 0; (subst hj0; simpa [Addr.add] using this); simpa [Addr.add, hj0] using this
                    clear P11 hb11 hk11 hs11 GX11 RP10 RS10 RA10 OW10 S10 OB10 GX10 RQ
                    go_wp2_with (refine Pb.at_load37 (.tmp 15) rfl rfl ⟨g, 0, none⟩ p rfl hat ?_)
                    refine (HPK.out _).mono ?_
                    rintro e w12 ⟨rfl, hb⟩
                    have B12 := Lib.hid hb
                    clear hb hat
                    have RX := Lib.hid (pk_box w12 ⟨pa, pf, pt, p0, p1, p2, p3, p4, p5, pi, ps⟩)
                    have BX := Lib.hid (show Below w11.heap.size w11 (w12.alloc (Pb.Pkx ⟨pa, pf, pt, p0, p1, p2, p3, p4, p5, pi, ps⟩)) from B12.out.trans ((Below.refl _ w12).alloc (by have := B12.out.size; omega) _))
                    have RS13 := Lib.hid (RS11.out.below BX.out)
                    have RA13 := Lib.hid (RA11.out.below BX.out)
                    have RQ13 := Lib.hid (RQ11.out.below BX.out)
                    have OW13 := Lib.hid (own_keep OW11.out BX.out)
                    have OB13 := Lib.hid (OB11.out.trans (Ob.of BX.out S11.out.lt))
                    have S13 := Lib.hid (S11.out.below BX.out)
                    have hb13 := OB13.out.size
                    clear RS11 RA11 RQ11 OW11 OB11 S11 BX B12
                    unfold Pb.Pkx at *
                    go_wp2_with (at_builtin; refine wpList_append_rw2 tK _ rfl (.tmp 118) (.tmp 121) rfl w3.heap.size _ ps0.length ps0 (by simp [Act.eval, Act.put]) OW13.out _ 1 1 [⟨pa, pf, pt, p0, p1, p2, p3, p4, p5, pi, ps⟩] (by simp [Act.eval, Act.put]) rfl RX.out (by omega) hb13 ?_)
                    intro v14 w14 ho14 hg14 hn14
                    rw [← World.size_alloc w12 (.cells #[.bool pa, .int .u32 pf, .int .u32 pt, .int .u8 p0, .int .u8 p1, .int .u8 p2, .int .u8 p3, .int .u8 p4, .int .u8 p5, .int .i64 pi, .int .i64 ps] 103)] at hn14
                    have L14 := Lib.hid (show Lp b w3 ⟨n, q, hs, s1, kn, k1, cs⟩ ⟨A1, c1, A8, c8, A3, c3, A6, c6, A5, c5⟩ A8 (some y) s1 a1 (⟨n, Q1, hs, s1, kn, ys, cs⟩, ps0 ++ [⟨pa, pf, pt, p0, p1, p2, p3, p4, p5, pi, ps⟩]) v14 w14 from
                      ⟨OB13.out.grown hg14 (fun g hg => (OW13.out.lt g hg).1) L3.out, rfl, ⟨Aq, cq, S13.out.grown hg14 (fun g hg => Nat.lt_of_lt_of_le L3.out (OW13.out.lt g hg).1), hcq, rw_av RQ13.out hg14 VQ.out, VQ.out.next RQ13.out hn14⟩,
                        (by rw [show ((⟨n, Q1, hs, s1, kn, ys, cs⟩, ps0 ++ [⟨pa, pf, pt, p0, p1, p2, p3, p4, p5, pi, ps⟩]) : Stt × List Pb.Pk).2.length = ps0.length + 1 from by simp]; exact ho14), rw_av RS13.out hg14 HAV.out.2.1, HAV.out.2.1.next RS13.out hn14, rw_av RA13.out hg14 HAV.out.2.2, HAV.out.2.2.next RA13.out hn14, (by have := HIN.out; rw [HT.out] at this; exact this)⟩)
                    clear ho14 hg14 hn14
                    go_wp2_with fail
                    go_roundw
                    case rel => exact ⟨j + 1, by go_num, by omega, Lib.hid (by rw [HF.out, HT.out]; exact L14.out)⟩
                    case measure => simp [intOf]; omega
                  · rw [if_neg h0] at HT
                    have S11 := Lib.hid (show Sb w11 b (stl ⟨n, Q1, hs, s1, kn, PB, cs⟩ ⟨A1, c1, A8, c8, A3, c3, Ap, cp, A5, c5⟩) from by have := S11.out; rw [if_neg h0] at this; exact this)
                    have L14 := Lib.hid (show Lp b w3 ⟨n, q, hs, s1, kn, k1, cs⟩ ⟨A1, c1, A8, c8, A3, c3, A6, c6, A5, c5⟩ A8 (some y) s1 a1 (⟨n, Q1, hs, s1, kn, PB, cs⟩, ps0) u7 w11 from
                      ⟨OB11.out, rfl, ⟨Ap, cp, S11.out, HCP.out, rw_apart mk_P RP10.out S10.out.bs hk11, HAV.out.1⟩, OW11.out, RS11.out, HAV.out.2.1, RA11.out, HAV.out.2.2, (by have := HIN.out; rw [HT.out] at this; exact this)⟩)
                    clear P11 hb11 hk11 hs11
                    go_wp2_with fail
                    go_roundw
                    case rel => exact ⟨j + 1, by go_num, by omega, Lib.hid (by rw [HF.out, HT.out]; exact L14.out)⟩
                    case measure => simp [intOf]; omega
            · obtain rfl : j = N := by omega
              have hW := HW.out
              rw [List.take_of_length_le (by rw [HN.out]; exact Nat.le_refl _)] at hW
              have LPE := Lib.hid hW
              clear hW HW
              go_wp2_with fail
              go_ret
              rw [HQ.out]
              have hpl : (a1.foldl t5q (⟨n, q, hs, s1, kn, k1, cs⟩, k2.map Pb.pkO)).2.length ≤ 300 := by
                have h1 := fold5_len a1 (⟨n, q, hs, s1, kn, k1, cs⟩, k2.map Pb.pkO)
                have h2 := HM.out
                have h3 := HN.out
                have h4 := HA1.out
                simp only [List.length_map] at h1
                omega
              generalize a1.foldl t5q (⟨n, q, hs, s1, kn, k1, cs⟩, k2.map Pb.pkO) = S at *
              obtain ⟨hob, he, ⟨Ap, cp, hsb, hcp, hrp, -⟩, hown, hrs, -, -, -, hin⟩ := LPE.out
              obtain ⟨Az, cz, hz, hcz, -, -, hrz, -⟩ := own_rw (E := ePk) hown (by omega)
              refine ⟨⟨Az, cz, ?_, hcz, hrz⟩, ⟨_, hsb, ?_⟩, O3.out.trans hob⟩
              · show Ending.returned u7 = _
                rw [hz]
              · have hl := R3L.out.ob S3.out.bs hob
                rw [he] at hrp hcp ⊢
                exact ⟨hl.h, hl.hc, hrs, R8c.out, hl.k, hl.kc, hrp, hcp, hl.c, hl.cc⟩
end Go.Proofs.YtilneflfeegnfaaGreat
namespace Go.Proofs.YtilneflfeegnfaaGreat
open Go.RowKit
theorem fnd_open {xs : List Cs.Ca} (h : Cs.V xs) {i : Nat} {k : Cs.Ca} (hk : xs[i]? = some k) (ho : Cs.opB k = true) : Cs.fnd k.a xs = some i := by
  cases hf : Cs.fnd k.a xs with
  | none => exact absurd rfl (Cs.fnd_no hf k (List.mem_of_getElem? hk) ho)
  | some j =>
    obtain ⟨x, hx, ha, hox⟩ := Cs.fnd_at hf
    by_cases hij : i = j
    · rw [hij]
    · exfalso
      obtain ⟨hi, ei⟩ := List.getElem?_eq_some_iff.1 hk
      obtain ⟨hj, ej⟩ := List.getElem?_eq_some_iff.1 hx
      have hp := List.pairwise_iff_getElem.1 h.r.dis
      rcases Nat.lt_or_gt_of_ne hij with hl | hl
      · have := hp i j hi hj hl
        rw [ei, ej] at this
        exact this ho hox ha.symm
      · have := hp j i hj hi hl
        rw [ei, ej] at this
        exact this hox ho ha
theorem stO_open {xs : List Cs.Ca} (h : Cs.V xs) {i : Nat} {k : Cs.Ca} (hk : xs[i]? = some k) (ho : Cs.opB k = true) (ck : Int → Bool) (tg now : Int) (hc : ck k.g = true) : Cs.stO ck tg now k.a xs = (xs.set i (Cs.mv tg now k), 0) := by
  unfold Cs.stO
  rw [fnd_open h hk ho]
  dsimp only
  rw [Cs.getD_at hk, if_pos hc]
  unfold Cs.mvA
  rw [Cs.getD_at hk]
theorem stpO_open {x : Stt} (h : In x) {i : Nat} {k : Cs.Ca} (hk : x.cs[i]? = some k) (ho : Cs.opB k = true) : stpO x k.a = { x with cs := x.cs.set i (Cs.mv 4 x.now k) } := by
  unfold stpO
  rw [stO_open h.cv.v hk ho _ _ _ rfl]
  rfl
theorem dnS_open {x : Stt} (h : In x) {i : Nat} {k : Cs.Ca} (hk : x.cs[i]? = some k) (hg : k.g = 1) : dnS x k.a = { x with cs := x.cs.set i (Cs.mv 5 x.now k) } ∧ (Cs.stO (fun g => g == 1) 5 x.now k.a x.cs).1 = x.cs.set i (Cs.mv 5 x.now k) := by
  have e := stO_open h.cv.v hk (by unfold Cs.opB; rw [hg]; rfl) (fun g => g == 1) 5 x.now (by rw [hg]; rfl)
  unfold dnS
  rw [e]
  exact ⟨rfl, rfl⟩
theorem tkS_held {x : Stt} {a : Int} (h : Hl.isAt x.hs a = true) : tkS x a = { x with hs := Hl.takeR x.hs a } := by
  unfold tkS
  rw [if_pos (by unfold Hl.takeC; rw [if_pos h])]
theorem gbk_t2k (c : Cf) {x : Stt} (h : In x) {i : Nat} {k : Cs.Ca} (hk : x.cs[i]? = some k) : gbk c x k = t2k c x k ∧ ∃ m, (gbk c x k).cs = x.cs.set i m ∨ gbk c x k = x := by
  unfold gbk t2k
  by_cases hg : k.g = 1
  · rw [if_pos hg, if_pos hg]
    unfold stlS
    by_cases hh : hoO c x k.a = 3
    · rw [if_pos hh, if_pos hh]
      obtain ⟨h1, h2⟩ := dnS_open h hk hg
      have e3 := tkS_held (x := { x with cs := x.cs.set i (Cs.mv 5 x.now k) }) (a := k.a) (stale_held hh)
      rw [h1, e3, h2]
      exact ⟨rfl, _, .inl rfl⟩
    · rw [if_neg hh, if_neg hh, stpO_open h hk (by unfold Cs.opB; rw [hg]; rfl)]
      exact ⟨rfl, _, .inl rfl⟩
  · rw [if_neg hg, if_neg hg]
    exact ⟨rfl, Cs.zc, .inr rfl⟩
theorem t2_fold (c : Cf) {x : Stt} (h : In x) : ∀ i, i ≤ x.cs.length → (x.cs.take i).foldl (gbk c) x = (x.cs.take i).foldl (t2k c) x ∧ ∀ j, i ≤ j → ((x.cs.take i).foldl (gbk c) x).cs[j]? = x.cs[j]? := by
  intro i
  induction i with
  | zero => intro _; exact ⟨rfl, fun _ _ => rfl⟩
  | succ i ih =>
    intro hi
    obtain ⟨h1, h2⟩ := ih (by omega)
    have hk := List.getElem?_eq_getElem (show i < x.cs.length by omega)
    rw [fold_take _ _ hk, fold_take _ _ hk, ← h1]
    have hI := in_gbt h c (x.cs.take i)
    obtain ⟨e1, m, e2⟩ := gbk_t2k c hI (by rw [h2 i (Nat.le_refl _)]; exact hk)
    refine ⟨e1, fun j hj => ?_⟩
    rcases e2 with e2 | e2
    · rw [e2, List.getElem?_set_ne (by omega)]
      exact h2 j (by omega)
    · rw [e2]
      exact h2 j (by omega)
theorem gb_t2 (c : Cf) {x : Stt} (h : In x) : gbS c x = t2 c x := by
  have := (t2_fold c h x.cs.length (Nat.le_refl _)).1
  rw [List.take_length] at this
  exact this
end Go.Proofs.YtilneflfeegnfaaGreat
namespace Go.Proofs.YtilneflfeegnfaaGreat
open Go.RowKit
theorem ad_one {n : Int} (h0 : 0 ≤ n) (h1 : n ≤ 1099511627776) : Sw.ad n 1 = min (n + 1) 1099511627776 := by
  rw [← Sw.ad_eq 1 h0 h1]
  omega
theorem calls_RP {α : Type} {R : World → Option Addr → List α → Prop} {f : FuncId} {args : Array Value} {W : World} {ys : List α} {Φ : List (Value → World → Prop)} {i : Nat} (h : Calls Tryz.prog f args W (RP R W ys)) (hi : fAt Φ i = rF R ys) :
    Calls Tryz.prog f args W fun e w' => ∃ v, e = .returned v ∧ Below W.heap.size W w' ∧ fAt Φ i v w' := by
  rw [hi]
  exact h.mono fun e w' ⟨A, cap, he, hc, hr, hb⟩ => ⟨_, he, hb, A, cap, rfl, hc, hr⟩
theorem tickL_eq (c : Cf) {x : Stt} (h : In x) : tickL c x = t5 c (t4 c (t3 c (gbS c (t1 c x)))) := by
  unfold tickL
  rw [gb_t2 c (h.t1 c)]
theorem in_gbs {x : Stt} (h : In x) (c : Cf) : In (gbS c x) := in_gbt h c x.cs
set_option maxRecDepth 100000 in
set_option maxHeartbeats 4000000 in
theorem tickS_any (c : Cf) (x : Stt) (r : Rws) (b : Nat) (w : World) (H : Sb w b (stl x r)) (h : Lie w x r) (hi : In x) (hk : Ck c) :
    Calls Tryz.prog 27 #[cfv c, .pointer (some ⟨b, 0, none⟩)] w fun e w' => (∃ A cap, e = .returned (.slice A (tickL c x).2.length cap) ∧ (tickL c x).2.length ≤ cap ∧ Rw ePk w' A (tickL c x).2) ∧ (∃ r', Sb w' b (stl (tickL c x).1 r') ∧ Lie w' (tickL c x).1 r') ∧ Ob b w w' := by
  have B0 := Lib.hid (show Below w.heap.size w (w.alloc (Cfx c)) from (Below.refl _ w).alloc (Nat.le_refl _) _)
  have C0 := Lib.hid (cm_box w c)
  have S0 := Lib.hid (H.below B0.out)
  have R0 := Lib.hid (h.below B0.out)
  have LT := Lib.hid H.lt
  have O0 := Lib.hid (Ob.of B0.out H.lt)
  have hcd : c.c ≤ 1099511627776 := by have := hk.c1; omega
  have h1 := hi.t1 c
  have h2 := in_gbs h1 c
  have h3 := h2.t3 c
  have h4 := h3.t4 c
  have HG1 := Lib.hid fun r W H h => giveBackS_any c (t1 c x) r b W H h h1 hcd
  have HG2 := Lib.hid fun r W H h => raiseS_any c (gbS c (t1 c x)) r b W H h h2 hcd
  have HG3 := Lib.hid fun r W H h => forgetS_any c (t3 c (gbS c (t1 c x))) r b W H h h3
  have HG4 := Lib.hid fun r W H h => askS_any c (t4 c (t3 c (gbS c (t1 c x)))) r b W H h h4 hk
  have HQ := Lib.hid (tickL_eq c hi)
  have HAD := Lib.hid fun W => Sw.add_any x.now 1 W
  have had := ad_one hi.n0 hi.n1
  have HTK := Lib.hid fun W (hW : Rw Cs.eA W r.c x.cs) => (Cs.tick_any c (min (x.now + 1) 1099511627776) r.c x.cs r.cc W hW h.cc (by have := hi.c16; omega)).mono (R' := RP Rc W (Cs.tkO c.h (min (x.now + 1) 1099511627776) x.cs)) fun _ _ k => own_rp k (by unfold Cs.tkO; rw [List.length_map]; have := hi.c16; omega)
  have HX1 := Lib.hid (show (⟨min (x.now + 1) 1099511627776, x.seq, x.hs, x.sw, x.kn, x.pb, Cs.tkO c.h (min (x.now + 1) 1099511627776) x.cs⟩ : Stt) = t1 c x from rfl)
  rw [had] at HAD
  obtain ⟨ys, hys⟩ : ∃ ys, Cs.tkO c.h (min (x.now + 1) 1099511627776) x.cs = ys := ⟨_, rfl⟩
  obtain ⟨n1, hn1⟩ : ∃ n1, min (x.now + 1) 1099511627776 = n1 := ⟨_, rfl⟩
  rw [hys] at HTK HX1
  rw [hn1] at HTK HX1 HAD
  clear had hys hn1 hi hk h H h1 h2 h3 h4 hcd
  obtain ⟨n, q, hs, sw, kn, pb, cs⟩ := x
  obtain ⟨A1, c1, A2, c2, A3, c3, A4, c4, A5, c5⟩ := r
  dsimp only at HTK HX1 HAD
  obtain ⟨xa, xb, xc, xd, xe, xf, xg, xh, xi⟩ := c
  simp only [cfv, Cfx] at B0 C0 S0 R0 O0 HTK HG1 HG2 HG3 HG4 ⊢
  have j0 := S0.out.cx.key 0 _ rfl
  (try dsimp only at j0)
  go_enter Tryz.func27, Tryz.ntmps27
  go_wp2_with fail
  change Calls _ _ _ (w.alloc (.cells #[.int .i64 xa, .int .i64 xb, .int .i64 xc, .int .i64 xd, .int .i64 xe, .int .i64 xf, .int .i64 xg, .int .i64 xh, .int .i64 xi] 27)) _
  generalize w.alloc (.cells #[.int .i64 xa, .int .i64 xb, .int .i64 xc, .int .i64 xd, .int .i64 xe, .int .i64 xf, .int .i64 xg, .int .i64 xh, .int .i64 xi] 27) = W0 at *
  refine (HAD.out _).mono ?_
  rintro e w0 ⟨rfl, rfl⟩
  clear j0
  go_wp2_with (refine at_fieldSt 3 _ _ b [] (.int .i64 n) (.int .i64 n1) [.int .i64 q, .slice A1 hs.length c1, .slice A2 sw.length c2, .slice A3 kn.length c3, .slice A4 pb.length c4, .slice A5 cs.length c5] S0.out sizeInt rfl (ns_int _) rfl rfl rfl rfl rfl ?_)
  intro w1 S1 hb1 hk1
  have R1 := Lib.hid (R0.out.apart S0.out.bs hk1.out)
  have O1 := Lib.hid (Ob.put hb1.out hk1.out)
  have C1 := Lib.hid (cm_ob C0.out O1.out (by have := LT.out; omega))
  have S1 := Lib.hid (show Sb w1 b (stl ⟨n1, q, hs, sw, kn, pb, cs⟩ ⟨A1, c1, A2, c2, A3, c3, A4, c4, A5, c5⟩) from S1.out)
  clear hb1 hk1 S0 R0 C0
  go_wp2_with fail
  refine wp_region_below_tail 11 [fx (.pointer (some ⟨b, 0, none⟩)), fx (.agg #[.int .i64 xa, .int .i64 xb, .int .i64 xc, .int .i64 xd, .int .i64 xe, .int .i64 xf, .int .i64 xg, .int .i64 xh, .int .i64 xi]), fx (.pointer (some ⟨b, 0, none⟩)), fx (.pointer (some ⟨b, 0, none⟩)), fx (.pointer (some ⟨b, 6, none⟩)), fx (.slice A5 cs.length c5), fx (.pointer (some ⟨b, 0, none⟩)), fx (.pointer (some ⟨b, 0, none⟩)), fx (.pointer (some ⟨b, 0, none⟩)), fx (.int .i64 n1), rF Rc ys]
    (by kernel_rfl) (by simp) (by kernel_rfl) (by kernel_rfl) (by kernel_rfl) ?_ ?_ ?_
  · simp only [List.mem_cons, List.not_mem_nil, or_false]
    rintro φ (rfl | rfl | rfl | rfl | rfl | rfl | rfl | rfl | rfl | rfl | rfl)
    all_goals first | exact stable_fx _ | exact stable_rF hld_h _ | exact stable_rF hld_s _ | exact stable_rF hld_k _ | exact stable_rF hld_p _ | exact stable_rF hld_c _ | exact stable_tF hld_h _ _ | exact stable_tF hld_s _ _ | exact stable_tF hld_k _ _ | exact stable_tF hld_p _ _ | exact stable_tF hld_c _ _
  · refine OgSteps.cons ?_ (OgSteps.cons ?_ (OgSteps.cons ?_ (OgSteps.cons ?_ (OgSteps.cons ?_ (OgSteps.cons ?_ (OgSteps.cons ?_ (OgSteps.cons ?_ (OgSteps.cons ?_ (OgSteps.cons ?_ (OgSteps.cons ?_ (OgSteps.nil)))))))))))
    · refine OgStep.pure ?_ ?_
      · rfl
      intro u W hS hp
      refine ⟨.pointer (some ⟨b, 0, none⟩), ?_, rfl⟩
      simp only [ogMk, Act.put, List.setIfInBounds_toArray, List.set_cons_zero, List.set_cons_succ, Nat.zero_add, Nat.reduceAdd, List.take_succ_cons, List.take_zero, List.drop_succ_cons, List.drop_zero]
      simp [execOp, Act.eval, go_sem]
    · refine OgStep.pure ?_ ?_
      · rfl
      intro u W hS hp
      have C := C1.out.below hS
      have k0 := C.c0
      have k1 := C.c1
      have k2 := C.c2
      have k3 := C.c3
      have k4 := C.c4
      have k5 := C.c5
      have k6 := C.c6
      have k7 := C.c7
      have k8 := C.c8
      dsimp only at k0 k1 k2 k3 k4 k5 k6 k7 k8
      refine ⟨.agg #[.int .i64 xa, .int .i64 xb, .int .i64 xc, .int .i64 xd, .int .i64 xe, .int .i64 xf, .int .i64 xg, .int .i64 xh, .int .i64 xi], ?_, rfl⟩
      simp only [ogMk, Act.put, List.setIfInBounds_toArray, List.set_cons_zero, List.set_cons_succ, Nat.zero_add, Nat.reduceAdd, List.take_succ_cons, List.take_zero, List.drop_succ_cons, List.drop_zero]
      simp [execOp, Act.eval, go_sem, k0, k1, k2, k3, k4, k5, k6, k7, k8]
    · refine OgStep.pure ?_ ?_
      · rfl
      intro u W hS hp
      refine ⟨.pointer (some ⟨b, 0, none⟩), ?_, rfl⟩
      simp only [ogMk, Act.put, List.setIfInBounds_toArray, List.set_cons_zero, List.set_cons_succ, Nat.zero_add, Nat.reduceAdd, List.take_succ_cons, List.take_zero, List.drop_succ_cons, List.drop_zero]
      simp [execOp, Act.eval, go_sem]
    · refine OgStep.pure ?_ ?_
      · rfl
      intro u W hS hp
      have h2 : u 2 = .pointer (some ⟨b, 0, none⟩) := hp ⟨2, .data⟩ (by simp) rfl
      refine ⟨.pointer (some ⟨b, 0, none⟩), ?_, rfl⟩
      simp only [ogMk, Act.put, List.setIfInBounds_toArray, List.set_cons_zero, List.set_cons_succ, Nat.zero_add, Nat.reduceAdd, List.take_succ_cons, List.take_zero, List.drop_succ_cons, List.drop_zero]
      simp [execOp, Act.eval, go_sem, h2]
    · refine OgStep.pure ?_ ?_
      · rfl
      intro u W hS hp
      have h3 : u 3 = .pointer (some ⟨b, 0, none⟩) := hp ⟨3, .data⟩ (by simp) rfl
      refine ⟨.pointer (some ⟨b, 6, none⟩), ?_, rfl⟩
      simp only [ogMk, Act.put, List.setIfInBounds_toArray, List.set_cons_zero, List.set_cons_succ, Nat.zero_add, Nat.reduceAdd, List.take_succ_cons, List.take_zero, List.drop_succ_cons, List.drop_zero]
      simp [execOp, Act.eval, go_sem, h3]
    · refine OgStep.pure ?_ ?_
      · rfl
      intro u W hS hp
      have h4 : u 4 = .pointer (some ⟨b, 6, none⟩) := hp ⟨4, .data⟩ (by simp) rfl
      have k6 := (S1.out.below hS).cx.key 6 _ rfl
      (try dsimp only at k6)
      refine ⟨.slice A5 cs.length c5, ?_, rfl⟩
      simp only [ogMk, Act.put, List.setIfInBounds_toArray, List.set_cons_zero, List.set_cons_succ, Nat.zero_add, Nat.reduceAdd, List.take_succ_cons, List.take_zero, List.drop_succ_cons, List.drop_zero]
      simp [execOp, Act.eval, go_sem, h4, k6]
    · refine OgStep.pure ?_ ?_
      · rfl
      intro u W hS hp
      refine ⟨.pointer (some ⟨b, 0, none⟩), ?_, rfl⟩
      simp only [ogMk, Act.put, List.setIfInBounds_toArray, List.set_cons_zero, List.set_cons_succ, Nat.zero_add, Nat.reduceAdd, List.take_succ_cons, List.take_zero, List.drop_succ_cons, List.drop_zero]
      simp [execOp, Act.eval, go_sem]
    · refine OgStep.pure ?_ ?_
      · rfl
      intro u W hS hp
      have h6 : u 6 = .pointer (some ⟨b, 0, none⟩) := hp ⟨6, .data⟩ (by simp) rfl
      refine ⟨.pointer (some ⟨b, 0, none⟩), ?_, rfl⟩
      simp only [ogMk, Act.put, List.setIfInBounds_toArray, List.set_cons_zero, List.set_cons_succ, Nat.zero_add, Nat.reduceAdd, List.take_succ_cons, List.take_zero, List.drop_succ_cons, List.drop_zero]
      simp [execOp, Act.eval, go_sem, h6]
    · refine OgStep.pure ?_ ?_
      · rfl
      intro u W hS hp
      have h7 : u 7 = .pointer (some ⟨b, 0, none⟩) := hp ⟨7, .data⟩ (by simp) rfl
      refine ⟨.pointer (some ⟨b, 0, none⟩), ?_, rfl⟩
      simp only [ogMk, Act.put, List.setIfInBounds_toArray, List.set_cons_zero, List.set_cons_succ, Nat.zero_add, Nat.reduceAdd, List.take_succ_cons, List.take_zero, List.drop_succ_cons, List.drop_zero]
      simp [execOp, Act.eval, go_sem, h7]
    · refine OgStep.pure ?_ ?_
      · rfl
      intro u W hS hp
      have h8 : u 8 = .pointer (some ⟨b, 0, none⟩) := hp ⟨8, .data⟩ (by simp) rfl
      have j0 := (S1.out.below hS).cx.key 0 _ rfl
      (try dsimp only at j0)
      refine ⟨.int .i64 n1, ?_, rfl⟩
      simp only [ogMk, Act.put, List.setIfInBounds_toArray, List.set_cons_zero, List.set_cons_succ, Nat.zero_add, Nat.reduceAdd, List.take_succ_cons, List.take_zero, List.drop_succ_cons, List.drop_zero]
      simp [execOp, Act.eval, go_sem, h8, j0]
    · refine OgStep.calls ?_ ?_
      · rfl
      intro u W hS hp
      have h1 : u 1 = .agg #[.int .i64 xa, .int .i64 xb, .int .i64 xc, .int .i64 xd, .int .i64 xe, .int .i64 xf, .int .i64 xg, .int .i64 xh, .int .i64 xi] := hp ⟨1, .data⟩ (by simp) rfl
      have h5 : u 5 = .slice A5 cs.length c5 := hp ⟨5, .data⟩ (by simp) rfl
      have h9 : u 9 = .int .i64 n1 := hp ⟨9, .data⟩ (by simp) rfl
      refine ⟨57, #[.agg #[.int .i64 xa, .int .i64 xb, .int .i64 xc, .int .i64 xd, .int .i64 xe, .int .i64 xf, .int .i64 xg, .int .i64 xh, .int .i64 xi], .slice A5 cs.length c5, .int .i64 n1], ?_, calls_RP (HTK.out W (R1.out.below hS).c) rfl⟩
      simp only [ogMk, Act.put, List.setIfInBounds_toArray, List.set_cons_zero, List.set_cons_succ, Nat.zero_add, Nat.reduceAdd, List.take_succ_cons, List.take_zero, List.drop_succ_cons, List.drop_zero]
      simp [execOp, Act.eval, go_sem, h1, h5, h9]
  · intro u W hS hF
    have e0 : u 0 = .pointer (some ⟨b, 0, none⟩) := hF 0 (by decide)
    have e1 : u 1 = .agg #[.int .i64 xa, .int .i64 xb, .int .i64 xc, .int .i64 xd, .int .i64 xe, .int .i64 xf, .int .i64 xg, .int .i64 xh, .int .i64 xi] := hF 1 (by decide)
    have e2 : u 2 = .pointer (some ⟨b, 0, none⟩) := hF 2 (by decide)
    have e3 : u 3 = .pointer (some ⟨b, 0, none⟩) := hF 3 (by decide)
    have e4 : u 4 = .pointer (some ⟨b, 6, none⟩) := hF 4 (by decide)
    have e5 : u 5 = .slice A5 cs.length c5 := hF 5 (by decide)
    have e6 : u 6 = .pointer (some ⟨b, 0, none⟩) := hF 6 (by decide)
    have e7 : u 7 = .pointer (some ⟨b, 0, none⟩) := hF 7 (by decide)
    have e8 : u 8 = .pointer (some ⟨b, 0, none⟩) := hF 8 (by decide)
    have e9 : u 9 = .int .i64 n1 := hF 9 (by decide)
    obtain ⟨A6, c6, e10, hc6, hR6⟩ : rF Rc ys (u 10) W := hF 10 (by decide)
    simp only [ogMk, Act.put, List.setIfInBounds_toArray, List.set_cons_zero, List.set_cons_succ, Nat.zero_add, Nat.reduceAdd, List.take_succ_cons, List.take_zero, List.drop_succ_cons, List.drop_zero]
    rw [e0, e1, e2, e3, e4, e5, e6, e7, e8, e9, e10]
    clear e0 e1 e2 e3 e4 e5 e6 e7 e8 e9 e10 hF
    have R2 := Lib.hid (R1.out.below hS)
    have S2 := Lib.hid (S1.out.below hS)
    have O2 := Lib.hid (O1.out.trans (Ob.of hS S1.out.lt))
    have C2 := Lib.hid (C1.out.below hS)
    clear hS R1 S1 C1 O1
    go_wp2_with (refine at_fieldSt 33 _ _ b [.int .i64 n1, .int .i64 q, .slice A1 hs.length c1, .slice A2 sw.length c2, .slice A3 kn.length c3, .slice A4 pb.length c4] (.slice A5 cs.length c5) (.slice A6 ys.length c6) [] S2.out sizeRc rfl (ns_sl _ _ _) rfl rfl rfl rfl rfl ?_)
    intro w3 S3 hb3 hk3
    have O3 := Lib.hid (O2.out.trans (Ob.put hb3.out hk3.out))
    have HS3 := Lib.hid (show ∃ r, Sb w3 b (stl ⟨n1, q, hs, sw, kn, pb, ys⟩ r) ∧ Lie w3 ⟨n1, q, hs, sw, kn, pb, ys⟩ r from ⟨⟨A1, c1, A2, c2, A3, c3, A4, c4, A6, c6⟩, S3.out, { R2.out.apart S2.out.bs hk3.out with c := rw_apart mk_A hR6 S2.out.bs hk3.out, cc := hc6 }⟩)
    have C3 := Lib.hid (cm_ob C2.out (Ob.put hb3.out hk3.out) (by have := LT.out; omega))
    rw [HX1.out] at HS3
    clear hb3 hk3 S3 R2 S2 C2 O2 hR6
    have k0 := C3.out.c0
    have k1 := C3.out.c1
    have k2 := C3.out.c2
    have k3 := C3.out.c3
    have k4 := C3.out.c4
    have k5 := C3.out.c5
    have k6 := C3.out.c6
    have k7 := C3.out.c7
    have k8 := C3.out.c8
    dsimp only at k0 k1 k2 k3 k4 k5 k6 k7 k8
    go_wp2_with fail
    obtain ⟨r3, hS, hR⟩ := HS3.out
    refine (HG1.out r3 _ hS hR).mono ?_
    rintro e w4 ⟨rfl, hst, hO⟩
    have HS4 := Lib.hid hst
    have C4 := Lib.hid (cm_ob C3.out hO (by have := LT.out; omega))
    have O4 := Lib.hid (O3.out.trans hO)
    clear hst hS hR hO HS3 C3 O3 k0 k1 k2 k3 k4 k5 k6 k7 k8
    have k0 := C4.out.c0
    have k1 := C4.out.c1
    have k2 := C4.out.c2
    have k3 := C4.out.c3
    have k4 := C4.out.c4
    have k5 := C4.out.c5
    have k6 := C4.out.c6
    have k7 := C4.out.c7
    have k8 := C4.out.c8
    dsimp only at k0 k1 k2 k3 k4 k5 k6 k7 k8
    go_wp2_with fail
    obtain ⟨r4, hS, hR⟩ := HS4.out
    refine (HG2.out r4 _ hS hR).mono ?_
    rintro e w5 ⟨rfl, hst, hO⟩
    have HS5 := Lib.hid hst
    have C5 := Lib.hid (cm_ob C4.out hO (by have := LT.out; omega))
    have O5 := Lib.hid (O4.out.trans hO)
    clear hst hS hR hO HS4 C4 O4 k0 k1 k2 k3 k4 k5 k6 k7 k8
    have k0 := C5.out.c0
    have k1 := C5.out.c1
    have k2 := C5.out.c2
    have k3 := C5.out.c3
    have k4 := C5.out.c4
    have k5 := C5.out.c5
    have k6 := C5.out.c6
    have k7 := C5.out.c7
    have k8 := C5.out.c8
    dsimp only at k0 k1 k2 k3 k4 k5 k6 k7 k8
    go_wp2_with fail
    obtain ⟨r5, hS, hR⟩ := HS5.out
    refine (HG3.out r5 _ hS hR).mono ?_
    rintro e w6 ⟨rfl, hst, hO⟩
    have HS6 := Lib.hid hst
    have C6 := Lib.hid (cm_ob C5.out hO (by have := LT.out; omega))
    have O6 := Lib.hid (O5.out.trans hO)
    clear hst hS hR hO HS5 C5 O5 k0 k1 k2 k3 k4 k5 k6 k7 k8
    have k0 := C6.out.c0
    have k1 := C6.out.c1
    have k2 := C6.out.c2
    have k3 := C6.out.c3
    have k4 := C6.out.c4
    have k5 := C6.out.c5
    have k6 := C6.out.c6
    have k7 := C6.out.c7
    have k8 := C6.out.c8
    dsimp only at k0 k1 k2 k3 k4 k5 k6 k7 k8
    go_wp2_with fail
    obtain ⟨r6, hS, hR⟩ := HS6.out
    refine (HG4.out r6 _ hS hR).mono ?_
    rintro e w7 ⟨⟨A, cap, rfl, hcap, hrow⟩, hst, hO⟩
    have HH := Lib.hid (And.intro hcap (And.intro hrow (And.intro hst (O6.out.trans hO))))
    clear hcap hrow hst hO hS hR k0 k1 k2 k3 k4 k5 k6 k7 k8
    go_wp2_with fail
    go_ret
    rw [HQ.out]
    exact ⟨⟨A, cap, rfl, HH.out.1, HH.out.2.1⟩, HH.out.2.2.1, O0.out.trans HH.out.2.2.2⟩
end Go.Proofs.YtilneflfeegnfaaGreat
