/-
  TrieTake, walked. Conditions: the row that came in has not more than its room.
-/
import Derived.Test.YtbfkpapankgndaaLp
namespace Go.Proofs.Ytbfkpapankgndaa
open Go.RowKit

set_option maxRecDepth 100000 in
set_option maxHeartbeats 4000000 in
theorem trieTake_walk (A : Option Addr) (xs : List Ac) (cap : Nat) (w : World) (h : Ra w A xs) (hcap : xs.length ≤ cap) :
    Calls Try.prog 4 #[.slice A xs.length cap] w fun e w' => e = .returned (.bool true) ∧ Below w.heap.size w w' := by
  obtain ⟨L, hL⟩ : ∃ L : Nat, min (xs.length : Int) 60 = L := ⟨min xs.length 60, by omega⟩
  have hL200 : L ≤ 60 := by omega
  have hLz : L ≤ xs.length := by omega
  have hLc : (L : Int) ≤ cap := by omega
  have hz := h.1
  have R := Lib.hid h
  clear h
  go_enter Try.func4, Try.ntmps4
  go_wp2_with fail
  refine (awake_any _).mono ?_
  rintro e w0 ⟨rfl, b0⟩
  have B0 := Lib.hid b0
  clear b0
  go_wp2_with fail
  have I0 := Lib.hid (lp_new w0)
  generalize hw2 : w0.alloc (.cells #[.pointer none, .int .i64 0] 27) = w2 at *
  clear hw2
  generalize hp : w0.heap.size = p at *
  go_loopg [4, 20] L (fun m v i wr => ∃ q : Nat, q + m = L ∧ i = .int .i64 (q : Int) ∧ Hid (∃ T ys, Lp p w0 wr p T ys v ∧ (ent 32 0 T).Perm ys ∧ ys.length ≤ q))
  case atStart => exact ⟨0, by omega, rfl, _, _, I0.out, by rw [ent_e], by simp⟩
  case round =>
    clear I0
    obtain ⟨q, hq, rfl, HH⟩ := hrel
    match gk with
    | 0 =>
      obtain rfl : q = L := by omega
      obtain ⟨T, ys, hI, hP, hl⟩ := HH.out
      clear HH
      obtain ⟨A4, cp4, e4⟩ : ∃ A4 cp4, u4 = .slice A4 ys.length cp4 := by
        rcases hI.own.2 with ⟨e, h0⟩ | ⟨g, cap', cur, e, _⟩
        · exact ⟨none, 0, by rw [e, h0]⟩
        · exact ⟨_, _, e⟩
      subst e4
      have hnd : ys.Nodup := hP.nodup_iff.1 (ent_nodup T)
      have I := Lib.hid hI
      have P := Lib.hid hP
      have ND := Lib.hid hnd
      clear hI hP hnd
      obtain ⟨N, hN⟩ : ∃ N, ys.length = N := ⟨_, rfl⟩
      have HN := Lib.hid hN
      rw [hN]
      rw [hN] at I hl
      clear hN
      go_wp2_with fail
      go_loopg [37] N (fun m i wr' => ∃ k : Nat, k + m = N ∧ i = .int .i64 (k : Int) ∧ Hid (∃ T, Lp p w0 wr' p T ys (.slice A4 N cp4) ∧ (ent 32 0 T).Perm (ys.take m)))
      case atStart => exact ⟨0, by omega, rfl, T, I.out, by rw [List.take_of_length_le (by rw [HN.out]; omega)]; exact P.out⟩
      case round =>
        obtain ⟨k, hk, rfl, HH⟩ := hrel
        match gk with
        | 0 =>
          obtain rfl : k = N := by omega
          obtain ⟨T2, hI2, hP2⟩ := HH.out
          clear HH
          have e0 : ent 32 0 T2 = [] := by
            have := hP2
            rw [List.take_zero] at this
            exact List.perm_nil.1 this
          have I2 := Lib.hid hI2
          have E0 := Lib.hid e0
          have a1 : anyOv T2 167772160 32 = false := by unfold anyOv ovl; rw [e0]; rfl
          have a2 : anyOv T2 0 0 = false := by unfold anyOv ovl; rw [e0]; rfl
          have HLG := Lib.hid (longest_any 167772160 p T2 wr hI2.tb.td (by omega) (by omega))
          rw [a1, longest_none a1] at HLG
          simp only [bv] at HLG
          have A2 := Lib.hid a2
          clear hI2 hP2 e0 a1 a2
          go_wp2_with fail
          refine HLG.out.mono ?_
          rintro e w3 ⟨rfl, hb⟩
          have I3 := Lib.hid ((I2.out.below hb).below ((Below.refl _ w3).alloc (Nat.le_refl _) (.cells #[.int .u32 0, .int .i64 0] 32)))
          have HLN := Lib.hid (len_any I3.out.tb.td)
          have HAL := Lib.hid (all_any p T2 _ I3.out.tb.td (by rw [E0.out]; simp))
          rw [E0.out] at HLN HAL
          clear hb HLG
          go_wp2_with fail
          refine HLN.out.mono ?_
          rintro e w4 ⟨rfl, rfl⟩
          go_wp2_with fail
          refine HAL.out.mono ?_
          rintro e w5 ⟨v5, rfl, ho, hb⟩
          have I5 := Lib.hid (I3.out.below hb)
          obtain ⟨A5, cp5, e5⟩ : ∃ A5 cp5, v5 = .slice A5 0 cp5 := by
            rcases ho.2 with ⟨e, h0⟩ | ⟨g, cap', cur, e, _⟩
            · exact ⟨none, 0, by rw [e]⟩
            · exact ⟨_, _, e⟩
          subst e5
          have HOV := Lib.hid (overlaps_any 0 0 p T2 w5 I5.out.tb.td (by omega) (by omega))
          rw [A2.out] at HOV
          clear ho hb HLN HAL
          go_wp2_with fail
          refine HOV.out.mono ?_
          rintro e w6 ⟨rfl, hb⟩
          have BB := Lib.hid (B0.out.trans (((hp ▸ (I5.out.below hb).tb.bel) : Below w0.heap.size w0 w6).mono B0.out.size))
          clear hb
          go_wp2_with fail
          go_ret
          exact ⟨rfl, BB.out⟩
        | m + 1 =>
          obtain ⟨T2, hI2, hP2⟩ := HH.out
          clear HH
          have hkN : k < N := by omega
          have hj : (N : Int) - 1 - (k : Int) = (m : Int) := by omega
          have hj2 : (N : Int) - (k : Int) = (m : Int) + 1 := by omega
          obtain ⟨y, hy⟩ : ∃ y, ys[m]? = some y := ⟨_, List.getElem?_eq_getElem (by rw [HN.out]; omega)⟩
          obtain ⟨gb, cp5, ev, hgb, y0, y1⟩ := own_cell hI2.own hy
          have htk : ys.take (m + 1) = ys.take m ++ [y] := by rw [List.take_add_one, hy]; rfl
          have hin : isIn T2 y.1 y.2 = true := by rw [isIn_perm hP2, htk]; simp
          have hyb := (ent_32 (hP2.mem_iff.2 (by rw [htk]; simp : y ∈ ys.take (m + 1)))).2
          have hlen : (ent 32 0 T2).length = m + 1 := by rw [hP2.length_eq, List.length_take, HN.out]; omega
          have HLN := Lib.hid (len_any hI2.tb.td)
          rw [hlen] at HLN
          have HT1 := Lib.hid (take_any y.1 y.2 p T2 wr hI2.tb.td hyb.1 hyb.2)
          have hc1 : takeC T2 y.1 y.2 = 0 := by simp [takeC, hin]
          rw [hc1] at HT1
          have HC1 := Lib.hid hc1
          have HTK := Lib.hid htk
          have I2 := Lib.hid hI2
          have P2 := Lib.hid hP2
          have hyn : y ∉ ys.take m := fun hm => by
            have h1 : (ys.take (m + 1)).Nodup := (List.take_sublist _ _).nodup ND.out
            rw [htk] at h1
            exact (List.nodup_append.1 h1).2.2 y hm y (by simp) rfl
          have HYN := Lib.hid hyn
          have HYY := Lib.hid hy
          injection ev with e1 e2 e3
          subst e1 e3
          clear hI2 hP2 hy htk hin hlen hc1 hyn e2
          go_wp2_with fail
          refine HLN.out.mono ?_
          rintro e w3 ⟨rfl, rfl⟩
          go_wp2_with fail
          refine HT1.out.mono ?_
          rintro e w4 ⟨rfl, hr⟩
          obtain ⟨T3, hI4, hP3⟩ := I2.out.take hr
          rw [HC1.out, if_pos rfl] at hP3
          have hP4 : (ent 32 0 T3).Perm (ys.take m) := by
            have h1 := (hP3.symm.trans P2.out)
            rw [HTK.out] at h1
            exact (h1.trans (List.perm_append_singleton y (ys.take m))).cons_inv
          have hin3 : isIn T3 y.1 y.2 = false := by rw [isIn_perm hP4]; simpa using HYN.out
          have hc2 : takeC T3 y.1 y.2 = 7 := by simp [takeC, hin3]
          obtain ⟨gb', cp5, ev, _, z0, z1⟩ := own_cell hI4.own HYY.out
          injection ev with e1 e2 e3
          injection e1 with e1
          injection e1 with e1
          subst e1 e3
          have HT2 := Lib.hid (take_any y.1 y.2 p T3 w4 hI4.tb.td hyb.1 hyb.2)
          rw [hc2] at HT2
          have HC2 := Lib.hid hc2
          have I4 := Lib.hid hI4
          have P4 := Lib.hid hP4
          clear hr hI4 hP3 hP4 hin3 hc2 HT1 y0 y1 e2
          go_wp2_with fail
          refine HT2.out.mono ?_
          rintro e w5 ⟨rfl, hr⟩
          obtain ⟨T4, hI5, hP5⟩ := I4.out.take hr
          rw [HC2.out, if_neg (by decide)] at hP5
          have I5 := Lib.hid hI5
          have P5 := Lib.hid (hP5.symm.trans P4.out)
          clear hr hI5 hP5 HT2 z0 z1
          go_wp2_with fail
          go_roundg m
          case measure => omega
          case rel => exact ⟨k + 1, by omega, by simp, T4, I5.out, P5.out⟩
    | g + 1 =>
      obtain ⟨T, ys, hI, hP, hl⟩ := HH.out
      clear HH
      have hlt : q < L := by omega
      have RR := (R.out.below B0.out).below (hp ▸ hI.tb.bel)
      obtain ⟨a, ha⟩ : ∃ a, xs[q]? = some a := ⟨_, List.getElem?_eq_getElem (by omega)⟩
      obtain ⟨hok, x, rfl, hc⟩ := RR.2 q a ha
      clear RR ha
      have hc34 : ∀ j v, (ac a)[j]? = some v → wr.cell? ((x.add (q * 6)).add j) = some v := fun j v hv => by rw [Go.Deep.add_add]; exact hc j v hv
      clear hc
      have I := Lib.hid hI
      have P := Lib.hid hP
      have HB := Lib.hid fun W => block9_any a W hok
      clear hI hP
      go_wp2_with (refine at_load34 _ rfl rfl _ _ rfl hc34 ?_)
      have J1 : Below wr.heap.size wr (wr.alloc (.cells #[.int .u8 a.op, .int .u32 a.base, .int .u8 a.bits, .bool a.raw, .int .u32 a.ab, .int .i64 a.an] 34)) := (Below.refl _ wr).alloc (Nat.le_refl _) _
      have n6 : (wr.alloc (.cells #[.int .u8 a.op, .int .u32 a.base, .int .u8 a.bits, .bool a.raw, .int .u32 a.ab, .int .i64 a.an] 34)).heap[wr.heap.size]? = some (.cells (ac a).toArray 34 (0, 0)) := World.alloc_heap_new wr _
      have I1 := Lib.hid (I.out.below J1)
      clear J1 hc34
      refine (HB.out _).mono ?_
      rintro e w3 ⟨rfl, hb⟩
      have I3 := Lib.hid (I1.out.below hb)
      have n63 := (hb.block _ (by simp)).trans n6
      have hbk := bk_in hok
      have HP := Lib.hid (put_any (bk a).1 (bk a).2 p T w3 I3.out.tb.td hbk.1 hbk.2 (by rw [P.out.length_eq]; omega))
      clear hb n6
      obtain ⟨c, hcd⟩ : ∃ c, putC T (bk a).1 (bk a).2 = c := ⟨_, rfl⟩
      rw [hcd] at HP
      have HCD := Lib.hid hcd
      clear hcd
      go_wp2_with fail
      refine HP.out.mono ?_
      rintro e w4 ⟨rfl, T', ht, hs, hp'⟩
      rw [HCD.out] at hp'
      have I4 := Lib.hid (I3.out.step ht hs)
      have hnf : ¬ fp p T wr.heap.size := fun hf => by have := I.out.tb.td.lt _ hf; omega
      have l3 := (Array.getElem?_eq_some_iff.1 n63).1
      have n64 := (hs.block _ l3 hnf).trans n63
      have P4 := Lib.hid hp'
      have hc6 : ∀ j v, (ac a)[j]? = some v → w4.cell? ((⟨wr.heap.size, 0, none⟩ : Addr).add j) = some v := fun j v hv => by
        rw [Addr.add_mid, cell_of_row _ _ _ _ _ _ n64, Nat.zero_add]
        simpa using hv
      clear ht hs hp' hnf l3 n64 n63 HP
      by_cases hc0 : c = 0
      · subst hc0
        have P5 := Lib.hid P4.out
        rw [if_pos rfl] at P5
        go_wp2_with (refine at_load34 _ rfl rfl _ _ rfl hc6 ?_)
        refine (HB.out _).mono ?_
        rintro e w5 ⟨rfl, hb⟩
        have I5 := Lib.hid (I4.out.below hb)
        clear hb hc6
        have hl5 : ys.length < 1000000 := by omega
        have hs5 : p ≤ w5.heap.size + 1 := by have := I5.out.tb.td.plt; omega
        go_wp2_with (at_builtin; refine wpList_app32 _ rfl (.tmp 29) (.tmp 32) rfl p _ ys (by simp [Act.eval]) (I5.out.own.alloc _) w5.heap.size 1 (bk a) (by simp [Act.eval]) (World.alloc_heap_new w5 _) hl5 (by simp; exact hs5) ?_; intro g' cap' w6 hown' hgrow hg4 hg5 hg6)
        have I6 := Lib.hid (I5.out.app (zs := ys ++ [bk a]) (by simp) hown' hgrow hg4)
        clear hown' hgrow hg4 hg5 hg6
        go_roundg g
        case measure => omega
        case rel => exact ⟨q + 1, by omega, by simp, T', ys ++ [bk a], I6.out, (P5.out.trans (P.out.cons _)).trans (List.perm_append_singleton (bk a) ys).symm, by simp; omega⟩
      · have P5 := Lib.hid P4.out
        rw [if_neg hc0] at P5
        go_wp2_with fail
        go_roundg g
        case measure => omega
        case rel => exact ⟨q + 1, by omega, by simp, T', ys, I4.out, P5.out.trans P.out, by omega⟩
end Go.Proofs.Ytbfkpapankgndaa
