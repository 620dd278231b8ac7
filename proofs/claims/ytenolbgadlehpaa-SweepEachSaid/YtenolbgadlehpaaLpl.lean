/-
  The contract of the statements' own plan: whom a tick asks. Conditions: the row lies in memory, has up to 16 sweeps, and each is right.
-/
import Derived.Test.YtenolbgadlehpaaLps
import Derived.Test.YtenolbgadlehpaaTl
import Derived.Test.YtenolbgadlehpaaQTail
set_option linter.unusedSimpArgs false
set_option linter.unusedVariables false
namespace Go.Proofs.Ytenolbgadlehpaa
open Go.RowKit

/-- What the statements' plan keeps. -/
structure LpI (W0 wr : World) (B1 B2 L : Nat) (v10 v11 v12 : Value) (ys : List Sw) (D : List Bool) (zs : List Int) : Prop where
  o10 : wr.ownsRow W0.heap.size 39 4 v10 L (eW.cs ys)
  o11 : wr.ownsRow B1 4 1 v11 L (eD.cs D)
  o12 : wr.ownsRow B2 34 1 v12 zs.length (eA.cs zs)
  bel : Below W0.heap.size W0 wr
  k10 : ∀ k, v10.ownBlock = some k → k < B1
  k11 : ∀ k, v11.ownBlock = some k → k < B2
  h1 : W0.heap.size ≤ B1
  h2 : B1 ≤ B2
  h3 : B2 ≤ wr.heap.size
theorem LpI.below {W0 wr w' : World} {B1 B2 L : Nat} {v10 v11 v12 : Value} {ys : List Sw} {D : List Bool} {zs : List Int} (h : LpI W0 wr B1 B2 L v10 v11 v12 ys D zs) (hb : Below wr.heap.size wr w') : LpI W0 w' B1 B2 L v10 v11 v12 ys D zs :=
  ⟨own_keep h.o10 hb, own_keep h.o11 hb, own_keep h.o12 hb, h.bel.trans (hb.mono h.bel.size), h.k10, h.k11, h.h1, h.h2, Nat.le_trans h.h3 hb.size⟩
theorem LpI.row {W0 wr w' : World} {B1 B2 L g c : Nat} {v11 v12 : Value} {ys ys' : List Sw} {D : List Bool} {zs : List Int} (h : LpI W0 wr B1 B2 L (.slice (some ⟨g, 0, none⟩) L c) v11 v12 ys D zs) (ho : w'.ownsRow W0.heap.size 39 4 (.slice (some ⟨g, 0, none⟩) L c) L (eW.cs ys')) (hg : wr.grownBy w' (some g)) : LpI W0 w' B1 B2 L (.slice (some ⟨g, 0, none⟩) L c) v11 v12 ys' D zs :=
  have h0 := (h.o10.lt g rfl).1
  have h1 := h.k10 g rfl
  ⟨ho, h.o11.kept hg (.inr fun e => by have := (h.o11.lt g e).1; omega), h.o12.kept hg (.inr fun e => by have := (h.o12.lt g e).1; have := h.h2; omega), h.bel.grown hg h.bel.size (fun k e => by injection e with e; omega), h.k10, h.k11, h.h1, h.h2, Nat.le_trans h.h3 hg.size⟩
theorem LpI.bool {W0 wr w' : World} {B1 B2 L g c : Nat} {v10 v12 : Value} {ys : List Sw} {D D' : List Bool} {zs : List Int} (h : LpI W0 wr B1 B2 L v10 (.slice (some ⟨g, 0, none⟩) L c) v12 ys D zs) (ho : w'.ownsRow B1 4 1 (.slice (some ⟨g, 0, none⟩) L c) L (eD.cs D')) (hg : wr.grownBy w' (some g)) : LpI W0 w' B1 B2 L v10 (.slice (some ⟨g, 0, none⟩) L c) v12 ys D' zs :=
  have h0 := (h.o11.lt g rfl).1
  have h1 := h.k11 g rfl
  ⟨h.o10.kept hg (.inr fun e => by have := h.k10 g e; omega), ho, h.o12.kept hg (.inr fun e => by have := (h.o12.lt g e).1; omega), h.bel.grown hg h.bel.size (fun k e => by injection e with e; have := h.h1; omega), h.k10, h.k11, h.h1, h.h2, Nat.le_trans h.h3 hg.size⟩
theorem LpI.ask {W0 wr w' : World} {B1 B2 L : Nat} {v10 v11 v12 v12' : Value} {ys : List Sw} {D : List Bool} {zs zs' : List Int} (h : LpI W0 wr B1 B2 L v10 v11 v12 ys D zs) (ho : w'.ownsRow B2 34 1 v12' zs'.length (eA.cs zs')) (hg : wr.grownBy w' v12.ownBlock) : LpI W0 w' B1 B2 L v10 v11 v12' ys D zs' :=
  have hk : ∀ k, v12.ownBlock = some k → B2 ≤ k := fun k e => (h.o12.lt k e).1
  have hne : ∀ v : Value, (∀ k, v.ownBlock = some k → k < B2) → v.ownBlock = none ∨ v.ownBlock ≠ v12.ownBlock := fun v hv => by
    cases e : v.ownBlock with
    | none => exact .inl rfl
    | some k => exact .inr fun e' => by have h1 := hv k e; have h2 := hk k e'.symm; omega
  ⟨h.o10.kept hg (hne _ fun k e => Nat.lt_of_lt_of_le (h.k10 k e) h.h2), h.o11.kept hg (hne _ h.k11), ho, h.bel.grown hg h.bel.size (fun k e => by have h1 := hk k e; have h2 := h.h1; have h3 := h.h2; omega), h.k10, h.k11, h.h1, h.h2, Nat.le_trans h.h3 hg.size⟩

def lenV : Value → Nat
  | .slice _ n _ => n
  | _ => 0
theorem room_of {x : Sw} (h : Sv x) : x.a + p2 x.b ≤ 4294967296 := room h.ok h.a1

set_option maxRecDepth 100000 in
set_option maxHeartbeats 16000000 in
theorem lplan_any (cf : Cf) (now room : Int) (A : Option Addr) (xs : List Sw) (cap : Nat) (w : World) (h : Rw eW w A xs) (hc : xs.length ≤ cap) (h16 : xs.length ≤ 16) (hv : ∀ x ∈ xs, Sv x) (hdue : ∀ x ∈ xs, 0 ≤ x.d ∧ x.d ≤ 1099511627776) (hr0 : -1000000000 ≤ room) (hr1 : room ≤ 1000000000) :
    Calls Try.prog 14 #[cfv cf, .slice A xs.length cap, .int .i64 now, .int .i64 room] w (PlanPost w (planO xs cf.d now room)) := by
  have hln := h.1
  have HB0 := Lib.hid (show Below w.heap.size w (w.alloc (Cfx cf)) from (Below.refl _ w).alloc (Nat.le_refl _) _)
  have R0 := Lib.hid (h.below HB0.out)
  have C0 := Lib.hid (cm_box w cf)
  have hs0 : w.heap.size < (w.alloc (Cfx cf)).heap.size := by simp
  have HV := Lib.hid hv
  have HDU := Lib.hid hdue
  have HO := Lib.hid (ord_is xs now)
  have HFEW := Lib.hid fun l hl => planL_few hv cf.d room l hl
  have HPL := Lib.hid fun l i => planL_snoc xs cf.d room l i
  have HLEN := Lib.hid fun l => planL_len xs cf.d room l
  have HPO := Lib.hid (show planO xs cf.d now room = planL xs cf.d room (ord xs now) from rfl)
  have HOT := Lib.hid fun l i hi => planL_other xs cf.d room (i := i) l hi
  have hol : (ord xs now).length ≤ xs.length := by rw [ord_len]; exact pl_len _ _ _
  clear h hv hdue
  obtain ⟨l, hl⟩ : ∃ l, ord xs now = l := ⟨_, rfl⟩
  rw [hl] at HO HPO hol
  clear hl
  have HBE := Lib.hid fun t v ht hb => bst_end (t := t) (v := v) HO.out ht hb
  obtain ⟨L, hL⟩ : ∃ L, xs.length = L := ⟨_, rfl⟩
  have HL := Lib.hid hL
  rw [hL] at hln hc h16 HLEN hol HFEW HBE ⊢
  clear hL
  obtain ⟨m, hm⟩ : ∃ m, l.length = m := ⟨_, rfl⟩
  have HM := Lib.hid hm
  rw [hm] at hol HBE
  clear hm
  unfold Cfx cfv at *
  generalize hW0 : w.alloc (.cells #[.int .i64 cf.a, .int .i64 cf.b, .int .i64 cf.c, .int .i64 cf.d, .int .i64 cf.e, .int .i64 cf.f, .int .i64 cf.g, .int .i64 cf.h, .int .i64 cf.i] 27) = W0 at *
  have HW0 := Lib.hid hW0
  clear hW0
  obtain ⟨i4, hi4, hz0, hz1, hz2⟩ := info_parts info4
  have hm1 : i4.bytes * L ≤ 281474976710656 := by rw [hz2]; omega
  have hm2 : L ≤ maxLen := by unfold maxLen; omega
  have hlen0 : 0 + L ≤ 1000000000000 := by omega
  have ON0 := Lib.hid (World.ownsRow_nil W0 W0.heap.size 39 4)
  go_enter Try.func14, Try.ntmps14
  go_upto_region 1 with fail
  rw [HW0.out]
  go_wp2_with (at_builtin; refine wpList_append_rw tW _ rfl (.const (.slice none 0 0)) (.tmp 17) rfl W0.heap.size (.slice none 0 0) 0 [] (by simp [Act.eval]) ON0.out A L cap xs (by simp [Act.eval, Act.put]) HL.out.symm R0.out hlen0 (Nat.le_refl _) ?_)
  intro v10 W1 ho10 hg1
  have B1 := Lib.hid (show Below W0.heap.size W0 W1 from (Below.refl _ W0).grown hg1 (Nat.le_refl _) (fun k e => by cases e))
  have O1 := Lib.hid ho10
  clear hg1 ho10
  go_wp2_with (at_make; refine wpList_make_full _ rfl (.tmp 20) (.tmp 20) 69 rfl W1.heap.size 4 i4 (.bool false) 1 Try.underlying69 hi4 hz0 hz1 .i64 .i64 (L : Int) (L : Int) L rfl rfl rfl rfl hm1 hm2 (Nat.le_refl _) ?_)
  intro W2 ho11 hg2
  have hmb := made_bools L
  rw [Nat.mul_one] at hmb
  rw [show (madeCells #[Value.bool false] L).toList = eD.cs (List.replicate L false) from hmb] at ho11
  clear hmb
  have hW12 : W1.heap.size < W2.heap.size := by
    rcases ho11.2 with ⟨e, -⟩ | ⟨g, c, cur, e, hb, hg, -⟩
    · cases e
    · injection e with e1 e2 e3
      have hge := (Array.getElem?_eq_some_iff.1 hg).1
      injection e1 with e1
      injection e1 with e1
      omega
  have I2 := Lib.hid (show LpI W0 W2 W1.heap.size W2.heap.size L v10 (.slice (some ⟨W1.heap.size, 0, none⟩) L L) (.slice none 0 0) xs (List.replicate L false) [] from
    ⟨O1.out.kept hg2 (by
      cases e : v10.ownBlock with
      | none => exact .inl rfl
      | some k => exact .inr (by simp)), ho11, World.ownsRow_nil _ _ _ _, B1.out.grown hg2 B1.out.size (fun k e => by cases e), fun k e => (O1.out.lt k e).2, fun k e => by
      have : k = W1.heap.size := by simpa [Value.ownBlock] using e.symm
      omega, B1.out.size, hg2.size, Nat.le_refl _⟩)
  have R2 := Lib.hid (R0.out.below I2.out.bel)
  clear ho11 hg2 O1 B1 hi4 hz0 hz1 hz2 hm1 hm2
  generalize W1.heap.size = b1 at *
  generalize W2.heap.size = b2 at *
  go_wp2_with fail
  go_loopw [12, 24] (fun v i wr => ∃ (r : Nat) (D : List Bool), i = .int .i64 r ∧ r ≤ m ∧ r ≤ L ∧ Hid (LpI W0 wr b1 b2 L v10 (.slice (some ⟨b1, 0, none⟩) L L) v (planL xs cf.d room (l.take r)).1 D (planL xs cf.d room (l.take r)).2) ∧ Hid (∀ j, j < L → D[j]? = some (decide (j ∈ l.take r))) ∧ ∃ A3 c3, v = .slice A3 (planL xs cf.d room (l.take r)).2.length c3) (fun _ i _ => L - (intOf i).toNat)
  case atStart => exact ⟨0, List.replicate L false, rfl, by omega, by omega, I2, Lib.hid (fun j hj => by simp [List.getElem?_replicate, hj]), none, 0, rfl⟩
  case round =>
    obtain ⟨r, D, rfl, hrm, hrL, HI, HD, A3, c3, rfl⟩ := hrel
    obtain ⟨wo, rfl⟩ : ∃ wo, wo = wr := ⟨_, rfl⟩
    have RR := Lib.hid (R0.out.below HI.out.bel)
    by_cases hrl : r < L
    · obtain ⟨y, rfl⟩ := rw_some RR.out (by rw [HL.out]; omega)
      go_wp2_with fail
      go_loopw [13, 28] (fun v i wQ => ∃ (q : Nat) (kv : Int), i = .int .i64 q ∧ v = .int .i64 kv ∧ q ≤ L ∧ Hid (Bst xs now l r q kv) ∧ Hid (Below wo.heap.size wo wQ)) (fun _ i _ => L - (intOf i).toNat)
      case atStart => exact ⟨0, -1, rfl, rfl, by omega, Lib.hid (bst_zero _ _ _ _), Lib.hid (Below.refl _ _)⟩
      case round =>
        obtain ⟨q, kv, rfl, rfl, hqL, HB, HBW⟩ := hrel
        by_cases hql : q < L
        · obtain ⟨x, hx⟩ := at_of_lt (xs := xs) (k := q) (by rw [HL.out]; exact hql)
          have hat := (RR.out.below HBW.out).at hx
          have Iq := HI.out.below HBW.out
          have HDX := Lib.hid (du_at hx)
          have B1' := Lib.hid (show Below wo.heap.size wo (wr.alloc (Swx x)) from HBW.out.alloc HBW.out.size _)
          obtain ⟨s0, s1, s2, s3⟩ := sw_box wr x
          have cD := ((own_b Iq.o11 (HD.out q hql)).1)
          have cD' : (wr.alloc (Swx x)).cell? ⟨b1, q, none⟩ = some (.bool (decide (q ∈ l.take r))) := by
            rw [((Below.refl _ wr).alloc (Nat.le_refl _) (Swx x)).cell (p := ⟨b1, q, none⟩) (World.block_lt_of_cell? _ _ cD)]
            exact cD
          have RI := Lib.hid ((RR.out.below HBW.out).below ((Below.refl _ wr).alloc (Nat.le_refl _) (Swx x)))
          unfold Swx at *
          clear hx cD Iq
          go_wp2_with (refine at_load39 (.tmp 31) rfl rfl (y.add (q * 4)) x rfl hat ?_)
          generalize wr.alloc (.cells #[.int .u32 x.a, .int .i64 x.b, .int .i64 x.d, .int .i64 x.n] 39) = W at *
          by_cases hin : q ∈ l.take r
          · have HS := Lib.hid (bst_skip HB.out (fun hc => hc.1 hin))
            rw [decide_eq_true hin] at cD'
            go_quiet (fail)
            have B2' := Lib.hid (bdrewN B1'.out nq)
            go_wp2_with fail
            go_roundw
            case rel => exact ⟨q + 1, kv, by go_num, rfl, by omega, HS, B2'⟩
            case measure => simp [intOf]; omega
          · rw [decide_eq_false hin] at cD'
            by_cases hdn : x.d ≤ now
            · have HC := Lib.hid (show cand xs now l r q from ⟨hin, by rw [HDX.out]; exact hdn⟩)
              by_cases hk0 : kv < 0
              · have HS := Lib.hid (show Bst xs now l r (q + 1) (q : Int) from by
                  have hb := HB.out
                  rcases hb with ⟨rfl, h2⟩ | ⟨b, h1, -⟩
                  · exact bst_first (.inl ⟨rfl, h2⟩) HC.out
                  · omega)
                go_quiet (fail)
                have B2' := Lib.hid (bdrewN B1'.out nq)
                go_wp2_with fail
                go_roundw
                case rel => exact ⟨q + 1, (q : Int), by go_num, rfl, by omega, HS, B2'⟩
                case measure => simp [intOf]; omega
              · obtain ⟨b, rfl, hbq⟩ := bst_nat HB.out hk0
                obtain ⟨z, hz⟩ := at_of_lt (xs := xs) (k := b) (by rw [HL.out]; omega)
                have HDZ := Lib.hid (du_at hz)
                obtain ⟨-, e2, -⟩ := rw_f RI.out hz
                have hbL : b < L := by omega
                have hk0' : decide ((b : Int) < 0) = false := decide_eq_false hk0
                clear hz
                by_cases hlt : x.d < z.d
                · have HS := Lib.hid (bst_less HB.out HC.out (by rw [HDX.out, HDZ.out]; exact hlt))
                  clear hk0
                  go_quiet (fail)
                  have B2' := Lib.hid (bdrewN B1'.out nq)
                  go_wp2_with fail
                  go_roundw
                  case rel => exact ⟨q + 1, (q : Int), by go_num, rfl, by omega, HS, B2'⟩
                  case measure => simp [intOf]; omega
                · have HS := Lib.hid (bst_more HB.out (by rw [HDX.out, HDZ.out]; exact hlt))
                  have hlt' : decide (x.d < z.d) = false := decide_eq_false hlt
                  clear hk0 hlt
                  go_quiet (fail)
                  have B2' := Lib.hid (bdrewN B1'.out nq)
                  go_wp2_with fail
                  go_roundw
                  case rel => exact ⟨q + 1, (b : Int), by go_num, rfl, by omega, HS, B2'⟩
                  case measure => simp [intOf]; omega
            · have HS := Lib.hid (bst_skip HB.out (fun hc => hdn (by have := hc.2; rwa [HDX.out] at this)))
              have hdn' : decide (x.d ≤ now) = false := decide_eq_false hdn
              clear hdn
              go_quiet (fail)
              have B2' := Lib.hid (bdrewN B1'.out nq)
              go_wp2_with fail
              go_roundw
              case rel => exact ⟨q + 1, kv, by go_num, rfl, by omega, HS, B2'⟩
              case measure => simp [intOf]; omega
        · obtain rfl : L = q := by omega
          have HI1 := Lib.hid (HI.out.below HBW.out)
          have R1 := Lib.hid (RR.out.below HBW.out)
          rcases HBE.out r kv (by omega) HB.out with ⟨rfl, hrm2⟩ | ⟨b, rfl, hlb, hbL, hbn⟩
          · clear HBE
            have hkl : l.take r = l := List.take_of_length_le (by rw [HM.out]; omega)
            have HIF := Lib.hid (HI1.out)
            rw [hkl] at HIF ⊢
            have hl1 := HLEN.out l
            have hq0 := HFEW.out l (fun i hi => by
              have := ((HO.out.mem i).1 hi).1
              rwa [HL.out] at this)
            rw [HM.out] at hq0
            obtain ⟨A1', c1, rfl, hcc⟩ : ∃ A' c', v10 = .slice A' L c' ∧ L ≤ c' := by
              rcases HIF.out.o10.2 with ⟨e1, h0⟩ | ⟨g, c, cur, e1, -, -, hle, -⟩
              · exact ⟨none, 0, by rw [e1, h0], by omega⟩
              · exact ⟨some ⟨g, 0, none⟩, c, e1, hle⟩
            have RR1 := Lib.hid (own_slice (E := eW) HIF.out.o10 (by rw [hl1]; omega))
            have RQ1 := Lib.hid (own_slice (E := eA) HIF.out.o12 (by omega))
            have BB := Lib.hid (HB0.out.trans (HIF.out.bel.mono HB0.out.size))
            go_wp2_with fail
            go_ret2
            refine ⟨A1', c1, A3, c3, ?_, ?_, ?_, ?_, BB.out⟩
            · rw [HPO.out, hl1]; rfl
            · rw [HPO.out, hl1]; exact hcc
            · rw [HPO.out]; exact RR1.out
            · rw [HPO.out]; exact RQ1.out
          · have hb0 : decide ((b : Int) < 0) = false := decide_eq_false (by omega)
            have hrm3 : r < m := by
              have := (List.getElem?_eq_some_iff.1 hlb).1
              rwa [HM.out] at this
            obtain ⟨x, hx⟩ := at_of_lt (xs := xs) (k := b) (by rw [HL.out]; exact hbL)
            have HS := Lib.hid (HV.out x (List.mem_of_getElem? hx))
            obtain ⟨hd0, hd1⟩ := HDU.out x (List.mem_of_getElem? hx)
            have hq0 := HFEW.out (l.take r) (fun i hi => by
              have := ((HO.out.mem i).1 (List.mem_of_mem_take hi)).1
              rwa [HL.out] at this)
            rw [List.length_take, HM.out] at hq0
            have hq1 : (planL xs cf.d room (l.take r)).2.length ≤ 4096 := by omega
            clear hq0
            have htk : l.take (r + 1) = l.take r ++ [b] := by rw [List.take_add_one, hlb]; rfl
            have HN := Lib.hid (show planL xs cf.d room (l.take (r + 1)) = ((planL xs cf.d room (l.take r)).1.set b (stp x cf.d (room - (planL xs cf.d room (l.take r)).2.length)), (planL xs cf.d room (l.take r)).2 ++ asl x (tk x (room - (planL xs cf.d room (l.take r)).2.length))) by
              rw [htk, HPL.out]
              unfold plan1
              rw [hx, Option.getD_some])
            have hl1 := HLEN.out (l.take r)
            have HSX := Lib.hid (show (planL xs cf.d room (l.take r)).1[b]? = some x by rw [HOT.out _ b hbn]; exact hx)
            obtain ⟨g10, c10, rfl⟩ : ∃ g10 c10, v10 = .slice (some ⟨g10, 0, none⟩) L c10 := by
              rcases HI1.out.o10.2 with ⟨-, h0⟩ | ⟨g, c, cur, e1, -⟩
              · omega
              · exact ⟨g, c, e1⟩
            have HDN := Lib.hid (show ∀ j, j < L → (D.set b true)[j]? = some (decide (j ∈ l.take (r + 1))) from fun j hj => by
              rw [htk, List.getElem?_set]
              have hdj := HD.out j hj
              have hDl := (List.getElem?_eq_some_iff.1 hdj).1
              by_cases e : b = j
              · subst e
                simp [hDl]
              · rw [if_neg e, hdj]
                simp [Ne.symm e])
            have HXX := Lib.hid hx
            obtain ⟨cD, fD⟩ := own_b HI1.out.o11 (HD.out b hbL)
            clear hx htk hlb hbn
            generalize planL xs cf.d room (l.take r) = s at *
            obtain ⟨s1, s2⟩ := s
            dsimp only at *
            go_upto_region 15 with fail
            have I5 := Lib.hid (HI1.out.bool (own_bset HI1.out.o11 b true).1 (own_bset HI1.out.o11 b true).2)
            clear cD fD HI1 R1 HB HBW
            generalize wr.setCell ⟨b1, b, none⟩ (.bool true) = W5 at *
            have R5 := Lib.hid (R0.out.below I5.out.bel)
            obtain ⟨e1, -, -⟩ := rw_f R5.out HXX.out
            obtain ⟨hb00, hb32, -⟩ := ok_out HS.out.ok
            have HWP := Lib.hid (wrap_p2 x.b hb00)
            have hP256 := HS.out.p
            have hn0 := HS.out.n0
            have hn1 := HS.out.n1
            have ha0 := HS.out.a0
            have ha1 := HS.out.a1
            have hrm5 := room_of HS.out
            go_wp2_with fail
            obtain ⟨P, hP⟩ : ∃ P, wrap64 (2 ^ (32 - x.b).toNat) = P := ⟨_, rfl⟩
            have HPP := Lib.hid (show p2 x.b = P by rw [← HWP.out, hP])
            rw [HPP.out] at hP256 hn1 hrm5
            rw [hP]
            clear hP HWP
            go_loopw [12] (fun v wq => ∃ c : Nat, x.n + c ≤ P ∧ (c = 0 ∨ (s2.length : Int) + c ≤ room) ∧ Hid (LpI W0 wq b1 b2 L (.slice (some ⟨g10, 0, none⟩) L c10) (.slice (some ⟨b1, 0, none⟩) L L) v (s1.set b ⟨x.a, x.b, x.d, x.n + c⟩) (D.set b true) (s2 ++ asl x c)) ∧ ∃ A4 n4 c4, v = .slice A4 n4 c4 ∧ n4 = (s2 ++ asl x c).length) (fun v _ => 5000 - lenV v)
            case atStart =>
              refine ⟨0, by omega, Or.inl rfl, ?_, A3, s2.length, c3, rfl, by simp [asl]⟩
              have e1 : s1.set b ⟨x.a, x.b, x.d, x.n + ((0 : Nat) : Int)⟩ = s1 := by
                have hb1 := (List.getElem?_eq_some_iff.1 HSX.out)
                obtain ⟨hb2, hb3⟩ := hb1
                rw [show x.n + ((0 : Nat) : Int) = x.n by omega]
                have e4 : (⟨x.a, x.b, x.d, x.n⟩ : Sw) = s1[b] := hb3.symm
                rw [e4, List.set_getElem_self]
              rw [e1, show asl x 0 = [] from rfl, List.append_nil]
              exact I5
            case round =>
              obtain ⟨c, hc1, hc2, HQ, A4, n4, c4, rfl, hn4⟩ := hrel
              have HS1 := Lib.hid (show (s1.set b ⟨x.a, x.b, x.d, x.n + (c : Int)⟩)[b]? = some ⟨x.a, x.b, x.d, x.n + (c : Int)⟩ from List.getElem?_set_self (by rw [hl1]; exact hbL))
              obtain ⟨q0, q1, q2, q3, qf⟩ := own_c HQ.out.o10 HS1.out
              dsimp only at q0 q1 q2 q3
              have f2 := qf (b * 4 + 2)
              have f3 := qf (b * 4 + 3)
              clear qf
              have HN4 := Lib.hid hn4
              have HN5 := Lib.hid (show (n4 : Int) = s2.length + c by rw [hn4, List.length_append, asl_len]; omega)
              clear hn4
              by_cases h1 : x.n + (c : Int) < P
              · by_cases h2 : (n4 : Int) < room
                · have hnr : (s2.length : Int) + c < room := by have := HN5.out; omega
                  have RQ := Lib.hid (R0.out.below HQ.out.bel)
                  have HU1 := Lib.hid (show IntKind.u32.wrap (x.n + (c : Int)) = x.n + (c : Int) by rw [IntKind.wrap_u32]; omega)
                  have HU2 := Lib.hid (show IntKind.u32.wrap (x.a + (x.n + (c : Int))) = x.a + (x.n + (c : Int)) by rw [IntKind.wrap_u32]; omega)
                  go_upto_region 17 with fail
                  refine wp_region_below_tail 15 [fx (.slice A4 n4 c4), fx (.slice (some y) L cap), fx (.int .i64 (b : Int)), fx (.pointer (some (y.add (b * 4)))), fx (.pointer (some (y.add (b * 4)))), fx (.pointer (some (y.add (b * 4)))), fx (.int .u32 x.a), fx (.slice (some ⟨g10, 0, none⟩) L c10), fx (.int .i64 (b : Int)), fx (.pointer (some ⟨g10, b * 4, none⟩)), fx (.pointer (some ⟨g10, b * 4 + 3, none⟩)), fx (.int .i64 (x.n + (c : Int))), fx (.int .u32 (x.n + (c : Int))), fx (.int .u32 (x.a + (x.n + (c : Int)))), oA (x.a + (x.n + (c : Int)))]
                    (by kernel_rfl) (by simp) (by kernel_rfl) (by kernel_rfl) (by kernel_rfl) ?_ ?_ ?_
                  · simp only [List.mem_cons, List.not_mem_nil, or_false]
                    rintro φ (rfl | rfl | rfl | rfl | rfl | rfl | rfl | rfl | rfl | rfl | rfl | rfl | rfl | rfl | rfl)
                    all_goals first | exact stable_fx _ | exact stable_fr _ _ | exact stable_oA _
                  · refine OgSteps.cons ?_ (OgSteps.cons ?_ (OgSteps.cons ?_ (OgSteps.cons ?_ (OgSteps.cons ?_ (OgSteps.cons ?_ (OgSteps.cons ?_ (OgSteps.cons ?_ (OgSteps.cons ?_ (OgSteps.cons ?_ (OgSteps.cons ?_ (OgSteps.cons ?_ (OgSteps.cons ?_ (OgSteps.cons ?_ (OgSteps.cons ?_ (OgSteps.nil)))))))))))))))
                    · refine OgStep.pure ?_ ?_
                      · rfl
                      intro u W hS hp
                      refine ⟨.slice A4 n4 c4, ?_, rfl⟩
                      simp only [ogMk, Act.put, List.setIfInBounds_toArray, List.set_cons_zero, List.set_cons_succ, Nat.zero_add, Nat.reduceAdd, List.take_succ_cons, List.take_zero, List.drop_succ_cons, List.drop_zero]
                      simp [execOp, Act.eval, go_sem]
                    · refine OgStep.pure ?_ ?_
                      · rfl
                      intro u W hS hp
                      refine ⟨.slice (some y) L cap, ?_, rfl⟩
                      simp only [ogMk, Act.put, List.setIfInBounds_toArray, List.set_cons_zero, List.set_cons_succ, Nat.zero_add, Nat.reduceAdd, List.take_succ_cons, List.take_zero, List.drop_succ_cons, List.drop_zero]
                      simp [execOp, Act.eval, go_sem]
                    · refine OgStep.pure ?_ ?_
                      · rfl
                      intro u W hS hp
                      refine ⟨.int .i64 (b : Int), ?_, rfl⟩
                      simp only [ogMk, Act.put, List.setIfInBounds_toArray, List.set_cons_zero, List.set_cons_succ, Nat.zero_add, Nat.reduceAdd, List.take_succ_cons, List.take_zero, List.drop_succ_cons, List.drop_zero]
                      simp [execOp, Act.eval, go_sem]
                    · refine OgStep.pure ?_ ?_
                      · rfl
                      intro u W hS hp
                      have h1 : u 1 = .slice (some y) L cap := hp ⟨1, .data⟩ (by simp) rfl
                      have h2 : u 2 = .int .i64 (b : Int) := hp ⟨2, .data⟩ (by simp) rfl
                      refine ⟨.pointer (some (y.add (b * 4))), ?_, rfl⟩
                      simp only [ogMk, Act.put, List.setIfInBounds_toArray, List.set_cons_zero, List.set_cons_succ, Nat.zero_add, Nat.reduceAdd, List.take_succ_cons, List.take_zero, List.drop_succ_cons, List.drop_zero]
                      simp [execOp, Act.eval, go_sem, h1, h2, hbL]
                    · refine OgStep.pure ?_ ?_
                      · rfl
                      intro u W hS hp
                      have h3 : u 3 = .pointer (some (y.add (b * 4))) := hp ⟨3, .data⟩ (by simp) rfl
                      refine ⟨.pointer (some (y.add (b * 4))), ?_, rfl⟩
                      simp only [ogMk, Act.put, List.setIfInBounds_toArray, List.set_cons_zero, List.set_cons_succ, Nat.zero_add, Nat.reduceAdd, List.take_succ_cons, List.take_zero, List.drop_succ_cons, List.drop_zero]
                      simp [execOp, Act.eval, go_sem, h3]
                    · refine OgStep.pure ?_ ?_
                      · rfl
                      intro u W hS hp
                      have h4 : u 4 = .pointer (some (y.add (b * 4))) := hp ⟨4, .data⟩ (by simp) rfl
                      refine ⟨.pointer (some (y.add (b * 4))), ?_, rfl⟩
                      simp only [ogMk, Act.put, List.setIfInBounds_toArray, List.set_cons_zero, List.set_cons_succ, Nat.zero_add, Nat.reduceAdd, List.take_succ_cons, List.take_zero, List.drop_succ_cons, List.drop_zero]
                      simp [execOp, Act.eval, go_sem, h4]
                    · refine OgStep.pure ?_ ?_
                      · rfl
                      intro u W hS hp
                      have h5 : u 5 = .pointer (some (y.add (b * 4))) := hp ⟨5, .data⟩ (by simp) rfl
                      have R := (rw_c0 (RQ.out.below hS) HXX.out).1
                      refine ⟨.int .u32 x.a, ?_, rfl⟩
                      simp only [ogMk, Act.put, List.setIfInBounds_toArray, List.set_cons_zero, List.set_cons_succ, Nat.zero_add, Nat.reduceAdd, List.take_succ_cons, List.take_zero, List.drop_succ_cons, List.drop_zero]
                      simp [execOp, Act.eval, go_sem, h5, R]
                    · refine OgStep.pure ?_ ?_
                      · rfl
                      intro u W hS hp
                      refine ⟨.slice (some ⟨g10, 0, none⟩) L c10, ?_, rfl⟩
                      simp only [ogMk, Act.put, List.setIfInBounds_toArray, List.set_cons_zero, List.set_cons_succ, Nat.zero_add, Nat.reduceAdd, List.take_succ_cons, List.take_zero, List.drop_succ_cons, List.drop_zero]
                      simp [execOp, Act.eval, go_sem]
                    · refine OgStep.pure ?_ ?_
                      · rfl
                      intro u W hS hp
                      refine ⟨.int .i64 (b : Int), ?_, rfl⟩
                      simp only [ogMk, Act.put, List.setIfInBounds_toArray, List.set_cons_zero, List.set_cons_succ, Nat.zero_add, Nat.reduceAdd, List.take_succ_cons, List.take_zero, List.drop_succ_cons, List.drop_zero]
                      simp [execOp, Act.eval, go_sem]
                    · refine OgStep.pure ?_ ?_
                      · rfl
                      intro u W hS hp
                      have h7 : u 7 = .slice (some ⟨g10, 0, none⟩) L c10 := hp ⟨7, .data⟩ (by simp) rfl
                      have h8 : u 8 = .int .i64 (b : Int) := hp ⟨8, .data⟩ (by simp) rfl
                      refine ⟨.pointer (some ⟨g10, b * 4, none⟩), ?_, rfl⟩
                      simp only [ogMk, Act.put, List.setIfInBounds_toArray, List.set_cons_zero, List.set_cons_succ, Nat.zero_add, Nat.reduceAdd, List.take_succ_cons, List.take_zero, List.drop_succ_cons, List.drop_zero]
                      simp [execOp, Act.eval, go_sem, h7, h8, hbL]
                    · refine OgStep.pure ?_ ?_
                      · rfl
                      intro u W hS hp
                      have h9 : u 9 = .pointer (some ⟨g10, b * 4, none⟩) := hp ⟨9, .data⟩ (by simp) rfl
                      refine ⟨.pointer (some ⟨g10, b * 4 + 3, none⟩), ?_, rfl⟩
                      simp only [ogMk, Act.put, List.setIfInBounds_toArray, List.set_cons_zero, List.set_cons_succ, Nat.zero_add, Nat.reduceAdd, List.take_succ_cons, List.take_zero, List.drop_succ_cons, List.drop_zero]
                      simp [execOp, Act.eval, go_sem, h9]
                    · refine OgStep.pure ?_ ?_
                      · rfl
                      intro u W hS hp
                      have h10 : u 10 = .pointer (some ⟨g10, b * 4 + 3, none⟩) := hp ⟨10, .data⟩ (by simp) rfl
                      have R : W.cell? ⟨g10, b * 4 + 3, none⟩ = some (.int .i64 (x.n + (c : Int))) := by rw [hS.cell (p := ⟨g10, b * 4 + 3, none⟩) (World.block_lt_of_cell? _ _ q3)]; exact q3
                      refine ⟨.int .i64 (x.n + (c : Int)), ?_, rfl⟩
                      simp only [ogMk, Act.put, List.setIfInBounds_toArray, List.set_cons_zero, List.set_cons_succ, Nat.zero_add, Nat.reduceAdd, List.take_succ_cons, List.take_zero, List.drop_succ_cons, List.drop_zero]
                      simp [execOp, Act.eval, go_sem, h10, R]
                    · refine OgStep.pure ?_ ?_
                      · rfl
                      intro u W hS hp
                      have h11 : u 11 = .int .i64 (x.n + (c : Int)) := hp ⟨11, .data⟩ (by simp) rfl
                      have R := HU1.out
                      refine ⟨.int .u32 (x.n + (c : Int)), ?_, rfl⟩
                      simp only [ogMk, Act.put, List.setIfInBounds_toArray, List.set_cons_zero, List.set_cons_succ, Nat.zero_add, Nat.reduceAdd, List.take_succ_cons, List.take_zero, List.drop_succ_cons, List.drop_zero]
                      simp [execOp, Act.eval, go_sem, h11, R]
                    · refine OgStep.pure ?_ ?_
                      · rfl
                      intro u W hS hp
                      have h6 : u 6 = .int .u32 x.a := hp ⟨6, .data⟩ (by simp) rfl
                      have h12 : u 12 = .int .u32 (x.n + (c : Int)) := hp ⟨12, .data⟩ (by simp) rfl
                      have R := HU2.out
                      refine ⟨.int .u32 (x.a + (x.n + (c : Int))), ?_, rfl⟩
                      simp only [ogMk, Act.put, List.setIfInBounds_toArray, List.set_cons_zero, List.set_cons_succ, Nat.zero_add, Nat.reduceAdd, List.take_succ_cons, List.take_zero, List.drop_succ_cons, List.drop_zero]
                      simp [execOp, Act.eval, go_sem, h6, h12, R]
                    · refine OgStep.made ?_ ?_
                      · rfl
                      intro u W hS hp
                      have h13 : u 13 = .int .u32 (x.a + (x.n + (c : Int))) := hp ⟨13, .data⟩ (by simp) rfl
                      refine ⟨.slice (some ⟨W.heap.size, 0, none⟩) 1 1, _, ?_, (Below.refl _ W).alloc (Nat.le_refl _) _, ⟨_, rfl, addr_box W _⟩⟩
                      simp only [ogMk, Act.put, List.setIfInBounds_toArray, List.set_cons_zero, List.set_cons_succ, Nat.zero_add, Nat.reduceAdd, List.take_succ_cons, List.take_zero, List.drop_succ_cons, List.drop_zero]
                      simp [execOp, Act.eval, go_sem, h13]
                  · intro u W hS hF
                    have hF' := hF
                    have e0 : u 0 = .slice A4 n4 c4 := hF 0 (by decide)
                    have e1 : u 1 = .slice (some y) L cap := hF 1 (by decide)
                    have e2 : u 2 = .int .i64 (b : Int) := hF 2 (by decide)
                    have e3 : u 3 = .pointer (some (y.add (b * 4))) := hF 3 (by decide)
                    have e4 : u 4 = .pointer (some (y.add (b * 4))) := hF 4 (by decide)
                    have e5 : u 5 = .pointer (some (y.add (b * 4))) := hF 5 (by decide)
                    have e6 : u 6 = .int .u32 x.a := hF 6 (by decide)
                    have e7 : u 7 = .slice (some ⟨g10, 0, none⟩) L c10 := hF 7 (by decide)
                    have e8 : u 8 = .int .i64 (b : Int) := hF 8 (by decide)
                    have e9 : u 9 = .pointer (some ⟨g10, b * 4, none⟩) := hF 9 (by decide)
                    have e10 : u 10 = .pointer (some ⟨g10, b * 4 + 3, none⟩) := hF 10 (by decide)
                    have e11 : u 11 = .int .i64 (x.n + (c : Int)) := hF 11 (by decide)
                    have e12 : u 12 = .int .u32 (x.n + (c : Int)) := hF 12 (by decide)
                    have e13 : u 13 = .int .u32 (x.a + (x.n + (c : Int))) := hF 13 (by decide)
                    simp only [ogMk, Act.put, List.setIfInBounds_toArray, List.set_cons_zero, List.set_cons_succ, Nat.zero_add, Nat.reduceAdd, List.take_succ_cons, List.take_zero, List.drop_succ_cons, List.drop_zero]
                    rw [e0, e1, e2, e3, e4, e5, e6, e7, e8, e9, e10, e11, e12, e13]
                    clear e0 e1 e2 e3 e4 e5 e6 e7 e8 e9 e10 e11 e12 e13 hF
                    obtain ⟨g14, e14, hr14⟩ : oA (x.a + (x.n + (c : Int))) (u 14) W := hF' 14 (by decide)
                    rw [e14]
                    clear hF' e14
                    have IS := Lib.hid (HQ.out.below hS)
                    have RA := Lib.hid hr14
                    clear hS hr14
                    have hb7 := Lib.hid IS.out.h3
                    have OS := Lib.hid IS.out.o12
                    rw [List.length_append, asl_len] at OS
                    have hlen7 : s2.length + c + 1 ≤ 1000000000000 := by omega
                    have hn4' : n4 = s2.length + c := by rw [HN4.out, List.length_append, asl_len]
                    subst hn4'
                    go_wp2_with (at_builtin; refine wpList_append_rw tA _ rfl (.tmp 86) (.tmp 100) rfl b2 _ _ _ (by simp [Act.eval, Act.put]) OS.out _ 1 1 [x.a + (x.n + (c : Int))] (by simp [Act.eval, Act.put]) rfl RA.out hlen7 hb7.out ?_)
                    intro v7 w7 ho7 hg7
                    rw [← asl_succ] at ho7
                    have hon : w7.ownsRow b2 34 1 v7 (s2 ++ asl x (c + 1)).length (eA.cs (s2 ++ asl x (c + 1))) := by rw [List.length_append, asl_len]; exact ho7
                    have I7 := Lib.hid (IS.out.ask hon hg7)
                    obtain ⟨A7, c7, rfl, -⟩ := own_rw (E := eA) (xs := s2 ++ asl x (c + 1)) hon (by rw [List.length_append, asl_len]; omega)
                    clear ho7 hg7 hon
                    obtain ⟨-, -, -, q3', qf⟩ := own_c I7.out.o10 HS1.out
                    dsimp only at q3'
                    have f3' := qf (b * 4 + 3)
                    clear qf
                    go_wp2_with fail
                    go_roundw
                    case rel =>
                      have I8 := I7.out.row (own_set3 I7.out.o10 HS1.out (x.n + (c : Int) + 1)).1 (own_set3 I7.out.o10 HS1.out (x.n + (c : Int) + 1)).2
                      dsimp only at I8
                      rw [List.set_set] at I8
                      refine ⟨c + 1, by omega, Or.inr (by omega), ?_, A7, (s2 ++ asl x (c + 1)).length, c7, rfl, rfl⟩
                      rw [show x.n + ((c + 1 : Nat) : Int) = x.n + c + 1 by omega]
                      exact Lib.hid I8
                    case measure => simp [lenV, List.length_append, asl_len]; omega
                · have h2' : decide ((n4 : Int) < room) = false := decide_eq_false h2
                  have hct0 : c = tk x (room - (s2.length : Int)) := by have := HN5.out; unfold tk; rw [HPP.out]; omega
                  have HCT := Lib.hid hct0
                  have I9 := HQ
                  clear HQ hct0
                  obtain ⟨W9, rfl⟩ : ∃ W9, W9 = wr := ⟨_, rfl⟩
                  by_cases heq : x.n + (c : Int) = P
                  · have hee : (x.n + (c : Int) == P) = true := by simpa using heq
                    have HE := Lib.hid heq
                    clear heq
                    go_upto_region 21 with fail
                    have I10 := Lib.hid (I9.out.row (own_set3 I9.out.o10 HS1.out 0).1 (own_set3 I9.out.o10 HS1.out 0).2)
                    dsimp only at I10
                    rw [List.set_set] at I10
                    clear I9 q0 q1 q2 q3 f2 f3
                    generalize W9.setCell ⟨g10, b * 4 + 3, none⟩ (.int .i64 0) = W10 at *
                    have HS2 := Lib.hid (show (s1.set b ⟨x.a, x.b, x.d, 0⟩)[b]? = some ⟨x.a, x.b, x.d, 0⟩ from List.getElem?_set_self (by rw [hl1]; exact hbL))
                    obtain ⟨-, -, q2, -, qf⟩ := own_c I10.out.o10 HS2.out
                    dsimp only at q2
                    have f2 := qf (b * 4 + 2)
                    clear qf
                    have R10 := Lib.hid (R0.out.below I10.out.bel)
                    obtain ⟨-, e2, -⟩ := rw_f R10.out HXX.out
                    have cF : W10.cell? ⟨w.heap.size, 3, none⟩ = some (.int .i64 cf.d) := by rw [I10.out.bel.cell (p := ⟨w.heap.size, 3, none⟩) hs0]; exact C0.out.c3
                    obtain ⟨du1, hdu1⟩ : ∃ d1, min (x.d + max (-1099511627776) (min cf.d 1099511627776)) 1099511627776 = d1 := ⟨_, rfl⟩
                    have hwd : IntKind.i64.wrap (x.d + max (-1099511627776) (min cf.d 1099511627776)) = x.d + max (-1099511627776) (min cf.d 1099511627776) := by rw [IntKind.wrap_i64]; omega
                    have HAD := Lib.hid (show max 0 du1 = ad x.d cf.d by rw [← hdu1]; exact ad_eq cf.d hd0 hd1)
                    refine wp_region_quiet_tail_lit 15 (by kernel_rfl) (by kernel_rfl) ?_
                    simp only [List.take_succ_cons, List.take_zero, List.drop_succ_cons, List.drop_zero]
                    repeat (go_big_quiet_step (fail))
                    refine wpQuiet_nil ?_
                    rintro w11 ⟨n11, rfl⟩
                    have I11 := Lib.hid (I10.out.below (bdrewN (Below.refl _ _) n11))
                    have q2' : (W10.drewN n11).cell? ⟨g10, b * 4 + 2, none⟩ = some (.int .i64 x.d) := q2
                    have f2' : (W10.drewN n11).frozen? ⟨g10, b * 4 + 2, none⟩ = false := f2
                    clear q2 f2 I10 e2 cF R10
                    generalize W10.drewN n11 = W11 at *
                    go_upto_region 22 with fail
                    have I12 := Lib.hid (I11.out.row (own_set2 I11.out.o10 HS2.out du1).1 (own_set2 I11.out.o10 HS2.out du1).2)
                    dsimp only at I12
                    rw [List.set_set] at I12
                    clear I11 q2' f2'
                    generalize W11.setCell ⟨g10, b * 4 + 2, none⟩ (.int .i64 du1) = W12 at *
                    have HS3 := Lib.hid (show (s1.set b ⟨x.a, x.b, du1, 0⟩)[b]? = some ⟨x.a, x.b, du1, 0⟩ from List.getElem?_set_self (by rw [hl1]; exact hbL))
                    obtain ⟨-, -, q2, -, qf⟩ := own_c I12.out.o10 HS3.out
                    dsimp only at q2
                    have f2 := qf (b * 4 + 2)
                    have hmx := HAD.out
                    clear qf
                    go_wp2_with fail
                    go_roundw
                    case rel =>
                      have I13 := I12.out.row (own_set2 I12.out.o10 HS3.out (ad x.d cf.d)).1 (own_set2 I12.out.o10 HS3.out (ad x.d cf.d)).2
                      dsimp only at I13
                      rw [List.set_set] at I13
                      refine ⟨r + 1, D.set b true, by go_num, by omega, by omega, ?_, HDN, A4, c4, by rw [HN.out, HN4.out, HCT.out]⟩
                      rw [HN.out]
                      have hst : stp x cf.d (room - (s2.length : Int)) = ⟨x.a, x.b, ad x.d cf.d, 0⟩ := by unfold stp; rw [← HCT.out, HPP.out, if_pos HE.out]
                      dsimp only
                      rw [hst, ← HCT.out]
                      exact Lib.hid I13
                    case measure => simp [intOf]; omega
                  · have hee : (x.n + (c : Int) == P) = false := by simpa using heq
                    have HE := Lib.hid heq
                    clear heq
                    go_wp2_with fail
                    go_roundw
                    case rel =>
                      refine ⟨r + 1, D.set b true, by go_num, by omega, by omega, ?_, HDN, A4, c4, by rw [HN.out, HN4.out, HCT.out]⟩
                      rw [HN.out]
                      have hst : stp x cf.d (room - (s2.length : Int)) = ⟨x.a, x.b, x.d, x.n + c⟩ := by unfold stp; rw [← HCT.out, HPP.out, if_neg HE.out]
                      dsimp only
                      rw [hst, ← HCT.out]
                      exact I9
                    case measure => simp [intOf]; omega
              · have h1' : decide (x.n + (c : Int) < P) = false := decide_eq_false h1
                have hct0 : c = tk x (room - (s2.length : Int)) := by have := HN5.out; unfold tk; rw [HPP.out]; omega
                have HCT := Lib.hid hct0
                have I9 := HQ
                clear HQ hct0
                obtain ⟨W9, rfl⟩ : ∃ W9, W9 = wr := ⟨_, rfl⟩
                by_cases heq : x.n + (c : Int) = P
                · have hee : (x.n + (c : Int) == P) = true := by simpa using heq
                  have HE := Lib.hid heq
                  clear heq
                  go_upto_region 21 with fail
                  have I10 := Lib.hid (I9.out.row (own_set3 I9.out.o10 HS1.out 0).1 (own_set3 I9.out.o10 HS1.out 0).2)
                  dsimp only at I10
                  rw [List.set_set] at I10
                  clear I9 q0 q1 q2 q3 f2 f3
                  generalize W9.setCell ⟨g10, b * 4 + 3, none⟩ (.int .i64 0) = W10 at *
                  have HS2 := Lib.hid (show (s1.set b ⟨x.a, x.b, x.d, 0⟩)[b]? = some ⟨x.a, x.b, x.d, 0⟩ from List.getElem?_set_self (by rw [hl1]; exact hbL))
                  obtain ⟨-, -, q2, -, qf⟩ := own_c I10.out.o10 HS2.out
                  dsimp only at q2
                  have f2 := qf (b * 4 + 2)
                  clear qf
                  have R10 := Lib.hid (R0.out.below I10.out.bel)
                  obtain ⟨-, e2, -⟩ := rw_f R10.out HXX.out
                  have cF : W10.cell? ⟨w.heap.size, 3, none⟩ = some (.int .i64 cf.d) := by rw [I10.out.bel.cell (p := ⟨w.heap.size, 3, none⟩) hs0]; exact C0.out.c3
                  obtain ⟨du1, hdu1⟩ : ∃ d1, min (x.d + max (-1099511627776) (min cf.d 1099511627776)) 1099511627776 = d1 := ⟨_, rfl⟩
                  have hwd : IntKind.i64.wrap (x.d + max (-1099511627776) (min cf.d 1099511627776)) = x.d + max (-1099511627776) (min cf.d 1099511627776) := by rw [IntKind.wrap_i64]; omega
                  have HAD := Lib.hid (show max 0 du1 = ad x.d cf.d by rw [← hdu1]; exact ad_eq cf.d hd0 hd1)
                  refine wp_region_quiet_tail_lit 15 (by kernel_rfl) (by kernel_rfl) ?_
                  simp only [List.take_succ_cons, List.take_zero, List.drop_succ_cons, List.drop_zero]
                  repeat (go_big_quiet_step (fail))
                  refine wpQuiet_nil ?_
                  rintro w11 ⟨n11, rfl⟩
                  have I11 := Lib.hid (I10.out.below (bdrewN (Below.refl _ _) n11))
                  have q2' : (W10.drewN n11).cell? ⟨g10, b * 4 + 2, none⟩ = some (.int .i64 x.d) := q2
                  have f2' : (W10.drewN n11).frozen? ⟨g10, b * 4 + 2, none⟩ = false := f2
                  clear q2 f2 I10 e2 cF R10
                  generalize W10.drewN n11 = W11 at *
                  go_upto_region 22 with fail
                  have I12 := Lib.hid (I11.out.row (own_set2 I11.out.o10 HS2.out du1).1 (own_set2 I11.out.o10 HS2.out du1).2)
                  dsimp only at I12
                  rw [List.set_set] at I12
                  clear I11 q2' f2'
                  generalize W11.setCell ⟨g10, b * 4 + 2, none⟩ (.int .i64 du1) = W12 at *
                  have HS3 := Lib.hid (show (s1.set b ⟨x.a, x.b, du1, 0⟩)[b]? = some ⟨x.a, x.b, du1, 0⟩ from List.getElem?_set_self (by rw [hl1]; exact hbL))
                  obtain ⟨-, -, q2, -, qf⟩ := own_c I12.out.o10 HS3.out
                  dsimp only at q2
                  have f2 := qf (b * 4 + 2)
                  have hmx := HAD.out
                  clear qf
                  go_wp2_with fail
                  go_roundw
                  case rel =>
                    have I13 := I12.out.row (own_set2 I12.out.o10 HS3.out (ad x.d cf.d)).1 (own_set2 I12.out.o10 HS3.out (ad x.d cf.d)).2
                    dsimp only at I13
                    rw [List.set_set] at I13
                    refine ⟨r + 1, D.set b true, by go_num, by omega, by omega, ?_, HDN, A4, c4, by rw [HN.out, HN4.out, HCT.out]⟩
                    rw [HN.out]
                    have hst : stp x cf.d (room - (s2.length : Int)) = ⟨x.a, x.b, ad x.d cf.d, 0⟩ := by unfold stp; rw [← HCT.out, HPP.out, if_pos HE.out]
                    dsimp only
                    rw [hst, ← HCT.out]
                    exact Lib.hid I13
                  case measure => simp [intOf]; omega
                · have hee : (x.n + (c : Int) == P) = false := by simpa using heq
                  have HE := Lib.hid heq
                  clear heq
                  go_wp2_with fail
                  go_roundw
                  case rel =>
                    refine ⟨r + 1, D.set b true, by go_num, by omega, by omega, ?_, HDN, A4, c4, by rw [HN.out, HN4.out, HCT.out]⟩
                    rw [HN.out]
                    have hst : stp x cf.d (room - (s2.length : Int)) = ⟨x.a, x.b, x.d, x.n + c⟩ := by unfold stp; rw [← HCT.out, HPP.out, if_neg HE.out]
                    dsimp only
                    rw [hst, ← HCT.out]
                    exact I9
                  case measure => simp [intOf]; omega

    · have hrr : r = m := by omega
      have hkl : l.take r = l := List.take_of_length_le (by rw [HM.out]; omega)
      have HIF := Lib.hid (HI.out)
      rw [hkl] at HIF ⊢
      have hl1 := HLEN.out l
      have hq0 := HFEW.out l (fun i hi => by
        have := ((HO.out.mem i).1 hi).1
        rwa [HL.out] at this)
      rw [HM.out] at hq0
      obtain ⟨A1', c1, rfl, hcc⟩ : ∃ A' c', v10 = .slice A' L c' ∧ L ≤ c' := by
        rcases HIF.out.o10.2 with ⟨e1, h0⟩ | ⟨g, c, cur, e1, -, -, hle, -⟩
        · exact ⟨none, 0, by rw [e1, h0], by omega⟩
        · exact ⟨some ⟨g, 0, none⟩, c, e1, hle⟩
      have RR1 := Lib.hid (own_slice (E := eW) HIF.out.o10 (by rw [hl1]; omega))
      have RQ1 := Lib.hid (own_slice (E := eA) HIF.out.o12 (by omega))
      have BB := Lib.hid (HB0.out.trans (HIF.out.bel.mono HB0.out.size))
      go_wp2_with fail
      go_ret2
      refine ⟨A1', c1, A3, c3, ?_, ?_, ?_, ?_, BB.out⟩
      · rw [HPO.out, hl1]; rfl
      · rw [HPO.out, hl1]; exact hcc
      · rw [HPO.out]; exact RR1.out
      · rw [HPO.out]; exact RQ1.out

end Go.Proofs.Ytenolbgadlehpaa
