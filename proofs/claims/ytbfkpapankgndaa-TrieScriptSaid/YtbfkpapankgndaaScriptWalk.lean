/-
  TrieScript, walked. Conditions: the row that came in has not more than its room.
-/
import Derived.Test.YtbfkpapankgndaaScr
import Derived.Deep.CutRange
import Derived.StillTailTactics
import Derived.Lib.QuoteBits
namespace Go.Proofs.Ytbfkpapankgndaa
open Go.RowKit

/-- A row's value, laid open. -/
theorem own_form {w : World} {base n : Nat} {v : Value} {xs : List Value} (h : w.ownsRow base 32 2 v n xs) : ∃ A cp, v = .slice A n cp := by
  rcases h.2 with ⟨e, h0⟩ | ⟨g, cap', cur, e, _⟩
  · exact ⟨none, 0, by rw [e, h0]⟩
  · exact ⟨_, _, e⟩

set_option maxRecDepth 100000 in
theorem ahead_any (x1 x2 y1 y2 : Int) (w : World) (h : Ahead (x1, x2) (y1, y2)) :
    Calls Try.prog 20 #[.agg #[.int .u32 x1, .int .i64 x2], .agg #[.int .u32 y1, .int .i64 y2]] w fun e w' => e = .returned (.bool true) ∧ Below w.heap.size w w' := by
  have BB := Lib.hid (((Below.refl w.heap.size w).alloc (Nat.le_refl _) (.cells #[.int .u32 x1, .int .i64 x2] 32)).alloc (by simp) (.cells #[.int .u32 y1, .int .i64 y2] 32))
  rcases h with h | ⟨h1, h2⟩
  · dsimp only at h
    go_enter Try.func20, Try.ntmps20
    go_wp2
    go_ret
    exact ⟨rfl, BB.out⟩
  · dsimp only at h1 h2
    subst h1
    go_enter Try.func20, Try.ntmps20
    go_wp2
    go_ret
    exact ⟨rfl, BB.out⟩
/-- The row written over, in its own room. -/
theorem Lp.cut {B : Nat} {w W w1 : World} {p : Nat} {T : Tr} {ys zs : List (Int × Int)} {v : Value} {g cap k : Nat} (h : Lp B w W p T ys v) (hv : v.ownBlock = some g) (hk : k = zs.length) (hown' : w1.ownsRow B 32 2 (.slice (some ⟨g, 0, none⟩) k cap) k (pf zs)) (hg : W.grownBy w1 (some g)) :
    Lp B w w1 p T zs (.slice (some ⟨g, 0, none⟩) k cap) := by
  subst hk
  have hlt := h.tb.td.lt
  have hsep := h.sep g hv
  refine ⟨⟨h.tb.td.keep fun c hc => hg.block c (hlt c hc) (fun e => ?_), h.tb.bel.grown hg (Nat.le_trans h.tb.hB h.tb.bel.size) (fun k e => ?_), h.tb.own, h.tb.hB⟩, hown', fun g' hg' hf => ?_⟩
  · injection e with e
    exact hsep (e ▸ hc)
  · injection e with e
    subst e
    exact (own_ge h.own hv).1
  · obtain rfl : g = g' := by simpa [Value.ownBlock] using hg'
    exact hsep hf
/-- What the deed's two ways leave: the trie, the row, the two boxes. -/
def Cs (p b6 b7 : Nat) (w0 : World) (a : Ac) (y : Int × Int) (q : Nat) (v : Value) (W : World) : Prop :=
  ∃ T ys, Lp p w0 W p T ys v ∧ (ent 32 0 T).Perm ys ∧ ys.length ≤ q + 1 ∧ W.heap[b6]? = some (.cells (ac a).toArray 34 (0, 0)) ∧ W.heap[b7]? = some (cs2 y)

/-- The best one so far lies in its box. -/
def Br (zs : List (Int × Int)) (x ya yb : Int) (bb b7 : Nat) (wc : World) (k : Nat) (is over : Bool) (W : World) : Prop :=
  ∃ best, Bs (zs.take k) x ya yb best is over ∧ Below bb wc W ∧ W.heap[bb]? = some (cs2 best) ∧ W.heap[b7]? = some (cs2 (ya, yb))
theorem box_set {W wc : World} {B : Nat} {y : Int × Int} (z1 z2 : Int) (h : W.heap[B]? = some (cs2 y)) (hb : Below B wc W) :
    ((W.setCell ⟨B, 0, none⟩ (.int .u32 z1)).setCell ⟨B, 1, none⟩ (.int .i64 z2)).heap[B]? = some (cs2 (z1, z2)) ∧ (∀ c, c ≠ B → ((W.setCell ⟨B, 0, none⟩ (.int .u32 z1)).setCell ⟨B, 1, none⟩ (.int .i64 z2)).heap[c]? = W.heap[c]?) ∧ Below B wc ((W.setCell ⟨B, 0, none⟩ (.int .u32 z1)).setCell ⟨B, 1, none⟩ (.int .i64 z2)) :=
  ⟨set_2 (z1, z2) h, fun c hc => by rw [heap_setCell_other _ _ _ _ hc, heap_setCell_other _ _ _ _ hc], (hb.setCell (p := ⟨B, 0, none⟩) (Nat.le_refl _) _).setCell (p := ⟨B, 1, none⟩) (Nat.le_refl _) _⟩

set_option maxRecDepth 100000 in
set_option maxHeartbeats 8000000 in
theorem trieScript_walk (A : Option Addr) (xs : List Ac) (cap : Nat) (w : World) (h : Ra w A xs) (hcap : xs.length ≤ cap) :
    Calls Try.prog 3 #[.slice A xs.length cap] w fun e w' => e = .returned (.bool true) ∧ Below w.heap.size w w' := by
  obtain ⟨L, hL⟩ : ∃ L : Nat, min (xs.length : Int) 120 = L := ⟨min xs.length 120, by omega⟩
  have hL120 : L ≤ 120 := by omega
  have hLz : L ≤ xs.length := by omega
  have hLc : (L : Int) ≤ cap := by omega
  have hz := h.1
  have R := Lib.hid h
  clear h
  go_enter Try.func3, Try.ntmps3
  go_wp2_with fail
  refine (awake_any _).mono ?_
  rintro e w0 ⟨rfl, b0⟩
  have B0 := Lib.hid b0
  clear b0
  go_wp2_with fail
  have I0 := Lib.hid (lp_new w0)
  generalize hw2 : w0.alloc (.cells #[.pointer none, .int .i64 0] 27) = w2 at *
  clear hw2
  generalize hp : w0.heap.size = p at *
  go_loopg [4, 35] L (fun m v i wr => ∃ q : Nat, q + m = L ∧ i = .int .i64 (q : Int) ∧ Hid (∃ T ys, Lp p w0 wr p T ys v ∧ (ent 32 0 T).Perm ys ∧ ys.length ≤ q))
  case atStart => exact ⟨0, by omega, rfl, _, _, I0.out, by rw [ent_e], by simp⟩
  case round =>
    clear I0
    obtain ⟨q, hq, rfl, HH⟩ := hrel
    match gk with
    | 0 =>
      obtain rfl : q = L := by omega
      obtain ⟨T, ys, hI, hP, hl⟩ := HH.out
      clear HH
      obtain ⟨A4, cp4, e4⟩ := own_form hI.own
      subst e4
      have I := Lib.hid hI
      have HA := Lib.hid (all_any p T wr hI.tb.td (by rw [hP.length_eq]; omega))
      obtain ⟨es, hes⟩ : ∃ es, ent 32 0 T = es := ⟨_, rfl⟩
      have HE := Lib.hid hes
      obtain ⟨N, hN⟩ : ∃ N, ys.length = N := ⟨_, rfl⟩
      have hne : es.length = N := by rw [← hes, hP.length_eq, hN]
      have HN := Lib.hid hne
      rw [hes, hne] at HA
      rw [hN] at hl I ⊢
      have HS := Lib.hid (hes ▸ ent_pairwise T : es.Pairwise Ahead)
      clear hI hP hes hN hne
      go_wp2_with fail
      refine HA.out.mono ?_
      rintro e w3 ⟨v3, rfl, ho3, hb⟩
      obtain ⟨A3, c3, e3⟩ := own_form ho3
      subst e3
      have I3 := Lib.hid (I.out.below hb)
      have O3 := Lib.hid ho3
      clear ho3 hb HA I
      go_wp2_with fail
      go_loopg [176] N (fun m i wr' => ∃ k : Nat, k + m = N ∧ i = .int .i64 (k : Int) ∧ Hid (Below w3.heap.size w3 wr'))
      case atStart => exact ⟨0, by omega, rfl, Below.refl _ _⟩
      case round =>
        obtain ⟨k, hk, rfl, HH⟩ := hrel
        match gk with
        | 0 =>
          have BB := Lib.hid (B0.out.trans (((hp ▸ (I3.out.below HH.out).tb.bel) : Below w0.heap.size w0 wr).mono B0.out.size))
          clear HH
          go_wp2_with fail
          go_ret
          exact ⟨rfl, BB.out⟩
        | m + 1 =>
          have hkN : k < N := by omega
          obtain ⟨⟨z1, z2⟩, hz'⟩ : ∃ z, es[k]? = some z := ⟨_, List.getElem?_eq_getElem (by rw [HN.out]; omega)⟩
          have o3 := ownsRow_of_block O3.out fun g hg => HH.out.block g (own_ge O3.out hg).2
          have OW := Lib.hid o3
          rw [← HN.out] at o3
          obtain ⟨g3, cp5, ev, _, y0, y1⟩ := own_cell o3 hz'
          injection ev with f1 f2 f3
          subst f1
          dsimp only at y0 y1
          have hmem : (z1, z2) ∈ ent 32 0 T := by rw [HE.out]; exact List.mem_of_getElem? hz'
          have hzb := (ent_32 hmem).2
          have hin : isIn T z1 z2 = true := by rw [isIn_perm (List.Perm.refl _)]; simpa using hmem
          dsimp only at hzb
          have HIN := Lib.hid hin
          have HZ := Lib.hid hz'
          have J1 := Lib.hid ((Below.refl _ wr).alloc (Nat.le_refl _) (.cells #[.int .u32 z1, .int .i64 z2] 32))
          have n24 := Lib.hid (World.alloc_heap_new wr (cs2 (z1, z2)))
          clear o3 f2 f3 hmem hin hz'
          go_upto_region 53 with fail
          have JW := Lib.hid (I3.out.below (HH.out.trans (J1.out.mono HH.out.size)))
          have BW := Lib.hid (HH.out.trans (J1.out.mono HH.out.size))
          obtain ⟨w7, hw7⟩ : ∃ w7, wr.alloc (.cells #[.int .u32 z1, .int .i64 z2] 32) = w7 := ⟨_, rfl⟩
          have n7 : w7.heap[wr.heap.size]? = some (cs2 (z1, z2)) := hw7 ▸ n24.out
          have OW7 := Lib.hid (ownsRow_of_block OW.out fun g hg => J1.out.block g (own_ge OW.out hg).2)
          rw [hw7] at JW BW OW7 ⊢
          obtain ⟨q0, q1, _, _⟩ := cells_2 n7
          dsimp only at q0 q1
          have k0 := cell_regrown q0
          have k1 := cell_regrown q1
          have HR := Lib.hid (fun (d : Nat) (os : Array Obj) => Calls.regrown_of (d := d) (os := os) (by have := has9_any z1 z2 (JW.out.tb.td.below (below_regrown w7 d os)) hzb.1 hzb.2; rwa [HIN.out] at this))
          clear hw7 n24 n7 J1 OW HH y0 y1 q0 q1
          generalize wr.heap.size = b24 at *
          refine wp_region_quiet_below (by kernel_rfl) (by kernel_rfl) ?_
          by_cases hk0 : k = 0
          · subst hk0
            repeat (go_big_quiet_step ((go_at_call 10; exact HR.out _ _)))
            refine wpQuiet_nil ?_
            intro _ hw'
            obtain ⟨⟨dq, osq⟩, hw''⟩ := hw'
            subst hw''
            go_wp2_with fail
            go_roundg m
            case measure => omega
            case rel => exact ⟨1, by omega, rfl, BW.out.trans ((below_regrown w7 dq osq).mono BW.out.size)⟩
          · obtain ⟨j, hj⟩ : ∃ j, j = k - 1 := ⟨_, rfl⟩
            have EF : IntKind.i64.wrap ((k : Int) - 1) = (j : Int) := by
              rw [show (k : Int) - 1 = (j : Int) by omega]
              exact Lib.wrap_i64_small _ (by omega)
            have hjN : j < N := by omega
            have hjk : j < k := by omega
            have hkp : 0 < k := by omega
            have hkp2 : (0 : Int) < (k : Int) := by omega
            obtain ⟨⟨x1, x2⟩, hxj⟩ : ∃ z, es[j]? = some z := ⟨_, List.getElem?_eq_getElem (by rw [HN.out]; omega)⟩
            obtain ⟨e1, e2⟩ := List.getElem?_eq_some_iff.1 hxj
            obtain ⟨e3, e4⟩ := List.getElem?_eq_some_iff.1 HZ.out
            have hAh : Ahead (x1, x2) (z1, z2) := by
              have := List.pairwise_iff_getElem.1 HS.out j k e1 e3 hjk
              rwa [e2, e4] at this
            have o7 := OW7.out
            rw [← HN.out] at o7
            obtain ⟨g5, cp6, ev, _, y0, y1⟩ := own_cell o7 hxj
            injection ev with f1 f2 f3
            injection f1 with f1
            injection f1 with f1
            subst f1
            dsimp only at y0 y1
            have k2 := cell_regrown y0
            have k3 := cell_regrown y1
            have HQ := Lib.hid fun (d : Nat) (os : Array Obj) => Calls.regrown_of (d := d) (os := os) (ahead_any x1 x2 z1 z2 (Sort.grow (redrawn w7 d) os) hAh)
            clear hj e1 e2 e3 e4 hxj hAh o7 f2 f3 y0 y1
            repeat (go_big_quiet_step (first | (go_at_call 10; exact HR.out _ _) | (go_at_call 20; exact HQ.out _ _)))
            refine wpQuiet_nil ?_
            intro _ hw'
            obtain ⟨⟨dq, osq⟩, hw''⟩ := hw'
            subst hw''
            go_wp2_with fail
            go_roundg m
            case measure => omega
            case rel => exact ⟨k + 1, by omega, by simp, BW.out.trans ((below_regrown w7 dq osq).mono BW.out.size)⟩
    | g + 1 =>
      obtain ⟨T, ys, hI, hP, hl⟩ := HH.out
      clear HH
      have hlt : q < L := by omega
      have RR := (R.out.below B0.out).below (hp ▸ hI.tb.bel)
      obtain ⟨a, ha⟩ : ∃ a, xs[q]? = some a := ⟨_, List.getElem?_eq_getElem (by omega)⟩
      obtain ⟨hok, x, rfl, hc⟩ := RR.2 q a ha
      clear RR ha
      have hc34 : ∀ j v, (ac a)[j]? = some v → wr.cell? ((x.add (q * 6)).add j) = some v := fun j v hv => by rw [Go.Deep.add_add]; exact hc j v hv
      clear hc
      obtain ⟨A4, cp4, e4⟩ := own_form hI.own
      subst e4
      have I := Lib.hid hI
      have P := Lib.hid hP
      have HB := Lib.hid fun W => block9_any a W hok
      have hbk := bk_in hok
      obtain ⟨⟨ya, yb⟩, hyy⟩ : ∃ z, bk a = z := ⟨_, rfl⟩
      rw [hyy] at HB hbk
      dsimp only at hbk
      obtain ⟨N, hN⟩ : ∃ N, ys.length = N := ⟨_, rfl⟩
      have HN := Lib.hid hN
      rw [hN] at hl I ⊢
      have hN120 : N ≤ 120 := by omega
      clear hI hP hyy hN
      go_wp2_with (refine at_load34 _ rfl rfl _ _ rfl hc34 ?_)
      have J1 : Below wr.heap.size wr (wr.alloc (.cells #[.int .u8 a.op, .int .u32 a.base, .int .u8 a.bits, .bool a.raw, .int .u32 a.ab, .int .i64 a.an] 34)) := (Below.refl _ wr).alloc (Nat.le_refl _) _
      have n6 : (wr.alloc (.cells #[.int .u8 a.op, .int .u32 a.base, .int .u8 a.bits, .bool a.raw, .int .u32 a.ab, .int .i64 a.an] 34)).heap[wr.heap.size]? = some (.cells (ac a).toArray 34 (0, 0)) := World.alloc_heap_new wr _
      have I1 := Lib.hid (I.out.below J1)
      have hfp : Hid (∀ c, fp p T c → c < wr.heap.size) := Lib.hid I.out.tb.td.lt
      have hob : Hid (∀ g, (Value.slice A4 N cp4).ownBlock = some g → g < wr.heap.size) := Lib.hid fun g hg => (own_ge I.out.own hg).2
      clear J1 hc34
      refine (HB.out _).mono ?_
      rintro e w3 ⟨rfl, hb⟩
      have I3 := Lib.hid (I1.out.below hb)
      have n63 := (hb.block _ (by simp)).trans n6
      have hlt63 := (Array.getElem?_eq_some_iff.1 n63).1
      obtain ⟨w4, hw4⟩ : ∃ w4, w3.alloc (.cells #[.int .u32 ya, .int .i64 yb] 32) = w4 := ⟨_, rfl⟩
      have J4 : Below w3.heap.size w3 w4 := hw4 ▸ (Below.refl _ w3).alloc (Nat.le_refl _) _
      have I4 := Lib.hid (I3.out.below J4)
      have N6 := Lib.hid ((J4.block _ hlt63).trans n63)
      have N7 := Lib.hid (hw4 ▸ World.alloc_heap_new w3 (cs2 (ya, yb)) : w4.heap[w3.heap.size]? = some (cs2 (ya, yb)))
      have hs74 : w3.heap.size < w4.heap.size := (Array.getElem?_eq_some_iff.1 N7.out).1
      clear hb n6 n63 J4 I1 I3
      go_wp2_with fail
      clear hw4
      generalize wr.heap.size = b6 at *
      generalize w3.heap.size = b7 at *
      go_loopg [8, 43] N (fun m t i wr' => ∃ (k : Nat) (n : Int), k + m = N ∧ i = .int .i64 (k : Int) ∧ t = .int .i64 n ∧ Hid (At ys (ya, yb) k n ∧ Below w4.heap.size w4 wr'))
      case atStart => exact ⟨0, -1, by omega, rfl, rfl, at_nil _ _, Below.refl _ _⟩
      case round =>
        obtain ⟨k, n, hk, rfl, rfl, HH⟩ := hrel
        match gk with
        | 0 =>
          obtain rfl : k = N := by omega
          have I5 := Lib.hid (I4.out.below HH.out.2)
          have N65 := Lib.hid ((HH.out.2.block _ (Array.getElem?_eq_some_iff.1 N6.out).1).trans N6.out)
          have N75 := Lib.hid ((HH.out.2.block _ hs74).trans N7.out)
          have hA := HH.out.1
          rw [← HN.out] at hA
          have hin := hA.isIn P.out
          dsimp only at hin
          have HHS := Lib.hid (has9_any ya yb I5.out.tb.td hbk.1 hbk.2)
          rw [hin] at HHS
          have HA := Lib.hid hA
          have HIN := Lib.hid hin
          obtain ⟨s0, s1, _, _⟩ := cells_2 N75.out
          dsimp only at s0 s1
          clear HH hA hin I4 N6 N7
          go_wp2_with fail
          refine HHS.out.mono ?_
          rintro e w5 ⟨rfl, hb⟩
          have I6 := Lib.hid (I5.out.below hb)
          have N66 := Lib.hid ((hb.block _ (Array.getElem?_eq_some_iff.1 N65.out).1).trans N65.out)
          have N76 := Lib.hid ((hb.block _ (Array.getElem?_eq_some_iff.1 N75.out).1).trans N75.out)
          have c60 : w5.cell? ⟨b6, 0, none⟩ = some (.int .u8 a.op) := by rw [cell_of_row _ _ _ _ _ _ N66.out]; rfl
          clear hb I5 N65 N75 s0 s1 HHS
          obtain ⟨bi, hbi⟩ : ∃ bi : Bool, decide (0 ≤ n) = bi := ⟨_, rfl⟩
          have hgq : decide (n ≥ 0) = bi := hbi
          have HBI := Lib.hid hbi
          rw [hbi]
          clear hbi
          have op0 := hok.1.1
          have op1 := hok.1.2
          have hb67 : b6 < b7 := hlt63
          go_upto_if 62 with fail
          go_cut [4, 11, 12, 13] from 61 to 105 (fun v s11 s12 s13 wc => Cs p b6 b7 w0 a (ya, yb) q v wc)
          case first =>
            obtain ⟨s0, s1, _, _⟩ := cells_2 N76.out
            dsimp only at s0 s1
            by_cases hop : a.op % 4 = 0
            · have HT := Lib.hid (take_any ya yb p T w5 I6.out.tb.td hbk.1 hbk.2)
              cases bi
              · have e7 : takeC T ya yb = 7 := by simp [takeC, HIN.out, HBI.out]
                rw [e7] at HT
                have E7 := Lib.hid e7
                clear e7
                go_wp2_with fail
                refine HT.out.mono ?_
                rintro e w6 ⟨rfl, hr⟩
                have hr2 := hr
                obtain ⟨T', h7, hp7⟩ := I6.out.take hr
                obtain ⟨_, _, st, _⟩ := hr2
                have I7 := Lib.hid h7
                rw [E7.out, if_neg (by decide)] at hp7
                have FIN := Lib.hid (show Cs p b6 b7 w0 a (ya, yb) q (.slice A4 k cp4) w6 from
                  ⟨T', ys, h7, hp7.symm.trans P.out, by rw [HN.out]; omega, (st.block _ (Array.getElem?_eq_some_iff.1 N66.out).1 (fun hf => absurd (hfp.out _ hf) (by omega))).trans N66.out, (st.block _ (Array.getElem?_eq_some_iff.1 N76.out).1 (fun hf => absurd (hfp.out _ hf) (by omega))).trans N76.out⟩)
                clear hr h7 hp7 st HT
                go_wp2_with fail
                go_meet
                exact FIN.out
              · have e0 : takeC T ya yb = 0 := by simp [takeC, HIN.out, HBI.out]
                rw [e0] at HT
                have E0 := Lib.hid e0
                obtain ⟨j, rfl, hjk, hjy⟩ := HA.out.get (of_decide_eq_true HBI.out)
                have HJ := Lib.hid hjy
                rw [HN.out] at hjk
                obtain ⟨g4, cp5, ev4, _, _, _⟩ := own_cell (by have := I6.out.own; rw [← HN.out] at this; exact this) HJ.out
                injection ev4 with f1 f2 f3
                subst f1
                have hkc : k ≤ cp4 := by
                  have := I6.out.own.2
                  rcases this with ⟨h1, _⟩ | ⟨g', cap', cur, e, _, _, hc, _⟩
                  · cases h1
                  · injection e with e1 e2 e3
                    subst e3
                    rw [HN.out] at hc
                    exact hc
                clear e0 f2 f3 hjy
                go_wp2_with fail
                refine HT.out.mono ?_
                rintro e w6 ⟨rfl, hr⟩
                have hr2 := hr
                obtain ⟨T', h7, hp7⟩ := I6.out.take hr
                obtain ⟨_, _, st, _⟩ := hr2
                rw [E0.out, if_pos rfl] at hp7
                have I7 := Lib.hid (h7.below (Below.refl _ w6).drew)
                have P7 := Lib.hid hp7
                have D6 := Lib.hid (show w6.drew.heap[b6]? = _ from ((st.block _ (Array.getElem?_eq_some_iff.1 N66.out).1 (fun hf => absurd (hfp.out _ hf) (by omega))).trans N66.out))
                have D7 := Lib.hid (show w6.drew.heap[b7]? = _ from ((st.block _ (Array.getElem?_eq_some_iff.1 N76.out).1 (fun hf => absurd (hfp.out _ hf) (by omega))).trans N76.out))
                clear hr h7 hp7 st HT
                have j1 : (j : Int) ≤ (cp4 : Int) := by omega
                obtain ⟨m, hm⟩ : ∃ m : Nat, m = j + 1 := ⟨_, rfl⟩
                have EF : IntKind.i64.wrap ((j : Int) + 1) = (m : Int) := by
                  rw [show (j : Int) + 1 = (m : Int) by omega]
                  exact Lib.wrap_i64_small _ (by omega)
                have j2 : (m : Int) ≤ (k : Int) := by omega
                have j3 : (k : Int) ≤ (cp4 : Int) := by omega
                have j4 : (m : Int) ≤ (cp4 : Int) := by omega
                have HM := Lib.hid hm
                have jm1 : j < m := by omega
                have jm2 : m ≤ j + 1 := by omega
                clear hm
                by_cases hcm : cp4 = m
                · subst hcm
                  go_upto_region 23 with fail
                  go_still_tail 7, (by kernel_rfl)
                  change wpList _ _ _ _ _ w6.drew
                  generalize w6.drew = w7 at *
                  obtain ⟨ii, hii, hz0, hz1, hz2⟩ := info_parts info32
                  go_wp2_with (at_builtin; (refine wpList_append_fits _ rfl (.tmp 83) (.tmp 87) 28 rfl p 32 ii 2 Try.underlying28 hii hz1 g4 j cp4 (pf (ys.take j)) (by simp [Act.eval]) (own_take I7.out.own (by rw [HN.out]; omega)) ⟨g4, 0, none⟩ (k - cp4) 0 (pf (ys.drop cp4)) (by simp [Act.eval]; omega) (by rw [pf_length, List.length_drop, HN.out]) (fun i u hu => by rw [List.drop_of_length_le (by rw [HN.out]; omega)] at hu; simp [pf] at hu) (fun u hu => by obtain ⟨y, _, hy⟩ := List.mem_flatMap.1 hu; simp [pc] at hy; rcases hy with rfl | rfl <;> rfl) (by omega) ?_); intro w8 hown' hgrow)
                  rw [← pf_append] at hown'
                  have hlen : j + (k - cp4) = (ys.take j ++ ys.drop cp4).length := by
                    have := HN.out
                    have := HM.out
                    simp only [List.length_append, List.length_take, List.length_drop]
                    omega
                  have hperm : (ent 32 0 T').Perm (ys.take j ++ ys.drop cp4) := by
                    have h1 := P7.out.symm.trans P.out
                    have h2 := erase_perm HJ.out
                    rw [← HM.out] at h2
                    exact (h1.trans h2).cons_inv
                  have hgb : g4 < b6 := hob.out g4 rfl
                  have FIN := Lib.hid (show Cs p b6 b7 w0 a (ya, yb) q (.slice (some ⟨g4, 0, none⟩) (j + (k - cp4)) cp4) w8 from
                    ⟨T', ys.take j ++ ys.drop cp4, I7.out.cut rfl hlen hown' hgrow, hperm, by have := HM.out; omega, (hgrow.block b6 (Array.getElem?_eq_some_iff.1 D6.out).1 (by simp; omega)).trans D6.out, (hgrow.block b7 (Array.getElem?_eq_some_iff.1 D7.out).1 (by simp; omega)).trans D7.out⟩)
                  clear hown' hgrow hlen hperm hii hz0 hz1 hz2
                  go_wp2_with fail
                  go_meet
                  have hjz : j + (k - cp4) = j := by omega
                  have FO := FIN.out
                  rw [hjz] at FO
                  exact FO
                · go_upto_region 23 with fail
                  go_still_tail 7, (by kernel_rfl)
                  change wpList _ _ _ _ _ w6.drew
                  generalize w6.drew = w7 at *
                  obtain ⟨ii, hii, hz0, hz1, hz2⟩ := info_parts info32
                  go_wp2_with (at_builtin; (refine wpList_append_fits _ rfl (.tmp 83) (.tmp 87) 28 rfl p 32 ii 2 Try.underlying28 hii hz1 g4 j cp4 (pf (ys.take j)) (by simp [Act.eval]) (own_take I7.out.own (by rw [HN.out]; omega)) ⟨g4, m * 2, none⟩ (k - m) (cp4 - m) (pf (ys.drop m)) (by simp [Act.eval]) (by rw [pf_length, List.length_drop, HN.out]) (own_behind I7.out.own) (fun u hu => by obtain ⟨y, _, hy⟩ := List.mem_flatMap.1 hu; simp [pc] at hy; rcases hy with rfl | rfl <;> rfl) (by omega) ?_); intro w8 hown' hgrow)
                  rw [← pf_append] at hown'
                  have hlen : j + (k - m) = (ys.take j ++ ys.drop m).length := by
                    have := HN.out
                    have := HM.out
                    simp only [List.length_append, List.length_take, List.length_drop]
                    omega
                  have hperm : (ent 32 0 T').Perm (ys.take j ++ ys.drop m) := by
                    have h1 := P7.out.symm.trans P.out
                    have h2 := erase_perm HJ.out
                    rw [← HM.out] at h2
                    exact (h1.trans h2).cons_inv
                  have hgb : g4 < b6 := hob.out g4 rfl
                  have FIN := Lib.hid (show Cs p b6 b7 w0 a (ya, yb) q (.slice (some ⟨g4, 0, none⟩) (j + (k - m)) cp4) w8 from
                    ⟨T', ys.take j ++ ys.drop m, I7.out.cut rfl hlen hown' hgrow, hperm, by have := HM.out; omega, (hgrow.block b6 (Array.getElem?_eq_some_iff.1 D6.out).1 (by simp; omega)).trans D6.out, (hgrow.block b7 (Array.getElem?_eq_some_iff.1 D7.out).1 (by simp; omega)).trans D7.out⟩)
                  clear hown' hgrow hlen hperm hii hz0 hz1 hz2
                  go_wp2_with fail
                  go_meet
                  exact FIN.out
            · have HP := Lib.hid (put_any ya yb p T w5 I6.out.tb.td hbk.1 hbk.2 (by rw [P.out.length_eq, HN.out]; omega))
              have HR := Lib.hid fun W => right_any ya yb W hbk.1 hbk.2
              obtain ⟨c, hcd⟩ : ∃ c, putC T ya yb = c := ⟨_, rfl⟩
              obtain ⟨bo, hbo⟩ : ∃ bo, okB ya yb = bo := ⟨_, rfl⟩
              have HCC := Lib.hid (show c = if bo = true then (if bi = true then 6 else 0) else 12 by rw [← hcd, putC, hbo, HIN.out, HBI.out])
              rw [hcd] at HP
              rw [hbo] at HR
              have HC := Lib.hid hcd
              clear hcd hbo
              go_wp2_with fail
              refine HP.out.mono ?_
              rintro e w6 ⟨rfl, hr⟩
              have hr2 := hr
              obtain ⟨T', h7, hp7⟩ := I6.out.put hr
              obtain ⟨_, _, st, _⟩ := hr2
              rw [HC.out] at hp7
              have I7 := Lib.hid h7
              have P7 := Lib.hid hp7
              have D6 := Lib.hid ((st.block _ (Array.getElem?_eq_some_iff.1 N66.out).1 (fun hf => absurd (hfp.out _ hf) (by omega))).trans N66.out)
              have D7 := Lib.hid ((st.block _ (Array.getElem?_eq_some_iff.1 N76.out).1 (fun hf => absurd (hfp.out _ hf) (by omega))).trans N76.out)
              obtain ⟨t0, t1, _, _⟩ := cells_2 D7.out
              dsimp only at t0 t1
              clear hr h7 hp7 st HP s0 s1
              go_wp2_with fail
              refine (HR.out _).mono ?_
              rintro e w7 ⟨rfl, hb⟩
              have I8 := Lib.hid (I7.out.below hb)
              have E6 := Lib.hid ((hb.block _ (Array.getElem?_eq_some_iff.1 D6.out).1).trans D6.out)
              have E7 := Lib.hid ((hb.block _ (Array.getElem?_eq_some_iff.1 D7.out).1).trans D7.out)
              obtain ⟨s0, s1, _, _⟩ := cells_2 E7.out
              dsimp only at s0 s1
              clear hb t0 t1 HR
              cases bo
              · obtain rfl : c = 12 := by simpa using HCC.out
                have FIN := Lib.hid (show Cs p b6 b7 w0 a (ya, yb) q (.slice A4 k cp4) w7 from
                  ⟨T', ys, I8.out, by have := P7.out; rw [if_neg (by decide)] at this; exact this.trans P.out, by rw [HN.out]; omega, E6.out, E7.out⟩)
                go_wp2_with fail
                go_meet
                exact FIN.out
              · cases bi
                · obtain rfl : c = 0 := by simpa using HCC.out
                  have hl5 : ys.length < 1000000 := by rw [HN.out]; omega
                  have hs5 : p ≤ w7.heap.size + 1 := by have := I8.out.tb.td.plt; omega
                  have P9 := Lib.hid (by have := P7.out; rwa [if_pos rfl] at this : (ent 32 0 T').Perm ((ya, yb) :: ent 32 0 T))
                  have HL := Lib.hid hl5
                  clear hl5
                  go_wp2_with (at_builtin; refine wpList_app32 _ rfl (.tmp 102) (.tmp 104) rfl p _ ys (by simp [Act.eval]) (I8.out.own.alloc _) w7.heap.size 1 (ya, yb) (by simp [Act.eval]) (World.alloc_heap_new w7 _) HL.out (by simp; exact hs5) ?_; intro g' cap' w8 hown' hgrow hg4 hg5 hg6)
                  have FIN := Lib.hid (show Cs p b6 b7 w0 a (ya, yb) q (.slice (some ⟨g', 0, none⟩) (ys.length + 1) cap') w8 from
                    ⟨T', ys ++ [(ya, yb)], I8.out.app (by simp) hown' hgrow hg4, (P9.out.trans (P.out.cons _)).trans (List.perm_append_singleton (ya, yb) ys).symm, by simp; rw [HN.out]; omega,
                      (hgrow.block b6 (by have := (Array.getElem?_eq_some_iff.1 E6.out).1; simp; omega) (fun e => absurd (hob.out _ e.symm) (by omega))).trans ((Below.heap_alloc _ _ _ (Array.getElem?_eq_some_iff.1 E6.out).1).trans E6.out),
                      (hgrow.block b7 (by have := (Array.getElem?_eq_some_iff.1 E7.out).1; simp; omega) (fun e => absurd (hob.out _ e.symm) (by omega))).trans ((Below.heap_alloc _ _ _ (Array.getElem?_eq_some_iff.1 E7.out).1).trans E7.out)⟩)
                  clear hown' hgrow hg4 hg5 hg6
                  go_wp2_with fail
                  go_meet
                  exact FIN.out
                · obtain rfl : c = 6 := by simpa using HCC.out
                  have FIN := Lib.hid (show Cs p b6 b7 w0 a (ya, yb) q (.slice A4 k cp4) w7 from
                    ⟨T', ys, I8.out, by have := P7.out; rw [if_neg (by decide)] at this; exact this.trans P.out, by rw [HN.out]; omega, E6.out, E7.out⟩)
                  go_wp2_with fail
                  go_meet
                  exact FIN.out
          case rest =>
            clear I6 N66 N76 HBI HIN HA hgq c60 hob hfp hb67 P HN hl hN120 hs74 op0 op1 HB
            obtain ⟨T2, zs, hI, hP, hl2, hc6, hc7⟩ := hcut
            obtain ⟨A5, cp5, e5⟩ := own_form hI.own
            subst e5
            have c61 : wc.cell? ⟨b6, 1, none⟩ = some (.int .u32 a.base) := by rw [cell_of_row _ _ _ _ _ _ hc6]; rfl
            have ba0 := hok.2.1.1
            have ba1 := hok.2.1.2
            have hlt7 : b7 < wc.heap.size := (Array.getElem?_eq_some_iff.1 hc7).1
            have I := Lib.hid hI
            have P := Lib.hid hP
            have C7 := Lib.hid hc7
            obtain ⟨N2, hN2⟩ : ∃ N2, zs.length = N2 := ⟨_, rfl⟩
            have HN := Lib.hid hN2
            rw [hN2] at hl2 I ⊢
            clear hI hP hc6 hc7 hN2 hok
            go_upto_region 36 with fail
            go_wp2_with fail
            have HI := Lib.hid fun (W : World) (hW : Below wc.heap.size wc W) => I.out.below hW
            obtain ⟨wd, hwd⟩ : ∃ wd, wc.alloc (.cells #[.int .u32 0, .int .i64 0] 32) = wd := ⟨_, rfl⟩
            obtain ⟨xa, hxa⟩ : ∃ xa, 167772160 + a.base % 4096 = xa := ⟨_, rfl⟩
            have xa0 : 0 ≤ xa := by omega
            have xa1 : xa < 4294967296 := by omega
            have D0 : Below wc.heap.size wc wd := hwd ▸ (Below.refl _ wc).alloc (Nat.le_refl _) _
            have BR := Lib.hid (show Br zs xa ya yb wc.heap.size b7 wc 0 false false wd from ⟨(0, 0), by rw [List.take_zero]; exact bs_nil _ _ _, D0, hwd ▸ World.alloc_heap_new wc (cs2 (0, 0)), (D0.block _ hlt7).trans C7.out⟩)
            rw [hwd, hxa]
            clear hwd hxa D0 I C7 c61 ba0 ba1
            generalize wc.heap.size = bb at *
            go_loopg [16, 17, 112] N2 (fun m is ov i wr' => ∃ (r : Nat) (si so : Bool), r + m = N2 ∧ is = .bool si ∧ ov = .bool so ∧ i = .int .i64 (r : Int) ∧ Hid (Br zs xa ya yb bb b7 wc r si so wr'))
            case atStart => exact ⟨0, false, false, by omega, rfl, rfl, rfl, BR.out⟩
            case round =>
              clear BR
              obtain ⟨r, si, so, hr, rfl, rfl, rfl, HH⟩ := hrel
              match gk with
              | 0 =>
                obtain rfl : r = N2 := by omega
                obtain ⟨⟨c1, c2⟩, hBs, hbel, hbest, hb7⟩ := HH.out
                rw [List.take_of_length_le (by rw [HN.out]; omega)] at hBs
                obtain ⟨d1, d2, d3⟩ := hBs.done P.out
                have I9 := Lib.hid (HI.out _ hbel)
                have HLG := Lib.hid (longest_any xa p T2 wr I9.out.tb.td xa0 xa1)
                rw [d1, d2] at HLG
                simp only [bv] at HLG
                have D3 := Lib.hid d3
                have N5 := Lib.hid hbest
                have N7 := Lib.hid hb7
                clear HH hBs hbel hbest hb7 d1 d2 d3 HI
                go_wp2_with fail
                refine HLG.out.mono ?_
                rintro e w3 ⟨rfl, hb⟩
                have I10 := Lib.hid (I9.out.below hb)
                have h5 := (hb.block _ (Array.getElem?_eq_some_iff.1 N5.out).1).trans N5.out
                have h7 := (hb.block _ (Array.getElem?_eq_some_iff.1 N7.out).1).trans N7.out
                have l5 : bb < w3.heap.size := (Array.getElem?_eq_some_iff.1 h5).1
                have l7 : b7 < w3.heap.size := (Array.getElem?_eq_some_iff.1 h7).1
                obtain ⟨q0, q1, _, _⟩ := cells_2 h5
                obtain ⟨q2, q3, _, _⟩ := cells_2 h7
                dsimp only at q0 q1 q2 q3
                have I11 := Lib.hid (I10.out.below ((Below.refl _ w3).alloc (Nat.le_refl _) (.cells #[.int .u32 c1, .int .i64 c2] 32)))
                have HOVL := Lib.hid (overlaps_any ya yb p T2 _ I11.out.tb.td hbk.1 hbk.2)
                rw [D3.out] at HOVL
                have ne1 := run_neq32 c1 c2 c1 c2
                rw [decide_eq_true rfl, Bool.not_true] at ne1
                clear hb h5 h7 N5 N7 HLG I9 I10
                go_wp2_with fail
                refine HOVL.out.mono ?_
                rintro e w5 ⟨rfl, hb⟩
                have I12 := Lib.hid (I11.out.below hb)
                have HLN := Lib.hid (len_any I12.out.tb.td)
                rw [P.out.length_eq, HN.out] at HLN
                clear hb HOVL q0 q1 q2 q3 ne1 l5 l7
                go_wp2_with fail
                refine HLN.out.mono ?_
                rintro e w6 ⟨rfl, rfl⟩
                go_wp2_with fail
                go_roundg g
                case measure => omega
                case rel => exact ⟨q + 1, by omega, by simp, T2, zs, I12.out, P.out, by rw [HN.out]; omega⟩
              | m + 1 =>
                have hrN : r < N2 := by omega
                obtain ⟨⟨z1, z2⟩, hz'⟩ : ∃ z, zs[r]? = some z := ⟨_, List.getElem?_eq_getElem (by rw [HN.out]; omega)⟩
                obtain ⟨⟨c1, c2⟩, hBs, hbel, hbest, hb7⟩ := HH.out
                have o5 := (HI.out _ hbel).own
                rw [← HN.out] at o5
                obtain ⟨g5, cp6, ev5, _, y0, y1⟩ := own_cell o5 hz'
                injection ev5 with f1 f2 f3
                subst f1
                dsimp only at y0 y1
                have hzb := (ent_32 (P.out.mem_iff.2 (List.mem_of_getElem? hz'))).2
                dsimp only at hzb
                have HHas := Lib.hid fun W => has_any z1 z2 xa W hzb.1 hzb.2 xa0 xa1
                have HOv := Lib.hid fun W => overlap_any z1 z2 ya yb W hzb.1 hzb.2 hbk.1 hbk.2
                obtain ⟨hx, hhx⟩ : ∃ hx, hasB z1 z2 xa = hx := ⟨_, rfl⟩
                obtain ⟨ho, hho⟩ : ∃ ho, overB z1 z2 ya yb = ho := ⟨_, rfl⟩
                rw [hhx] at HHas
                rw [hho] at HOv
                have HX := Lib.hid hhx
                have HO := Lib.hid hho
                have BS := Lib.hid hBs
                have HT := Lib.hid (by rw [List.take_add_one, hz']; rfl : zs.take (r + 1) = zs.take r ++ [(z1, z2)])
                have hlb : bb < wr.heap.size := (Array.getElem?_eq_some_iff.1 hbest).1
                have hl7 : b7 < wr.heap.size := (Array.getElem?_eq_some_iff.1 hb7).1
                have J1 : Below wr.heap.size wr (wr.alloc (.cells #[.int .u32 z1, .int .i64 z2] 32)) := (Below.refl _ wr).alloc (Nat.le_refl _) _
                have n19 : (wr.alloc (.cells #[.int .u32 z1, .int .i64 z2] 32)).heap[wr.heap.size]? = some (cs2 (z1, z2)) := World.alloc_heap_new wr _
                have BA := Lib.hid ((hbel.trans (J1.mono (by omega))))
                have NB := Lib.hid ((J1.block _ hlb).trans hbest)
                have N7 := Lib.hid ((J1.block _ hl7).trans hb7)
                have N9 := Lib.hid n19
                clear J1 n19 hbel hbest hb7 hBs hhx hho hz' o5 f2 f3 HH
                go_wp2_with fail
                refine (HHas.out _).mono ?_
                rintro e w2 ⟨rfl, hb⟩
                have B2 := Lib.hid (BA.out.trans (hb.mono (by simp; omega)))
                have E5 := Lib.hid ((hb.block _ (Array.getElem?_eq_some_iff.1 NB.out).1).trans NB.out)
                have E7 := Lib.hid ((hb.block _ (Array.getElem?_eq_some_iff.1 N7.out).1).trans N7.out)
                have E9 := Lib.hid ((hb.block _ (Array.getElem?_eq_some_iff.1 N9.out).1).trans N9.out)
                obtain ⟨q0, q1, q4, q5⟩ := cells_2 E5.out
                obtain ⟨q2, q3, _, _⟩ := cells_2 E9.out
                dsimp only at q0 q1 q2 q3
                clear hb BA NB N7 N9 HHas y0 y1
                cases hx
                · cases so
                  · go_upto_region 41 with fail
                    obtain ⟨p0, p1, _, _⟩ := cells_2 E7.out
                    obtain ⟨p2, p3, _, _⟩ := cells_2 E9.out
                    dsimp only at p0 p1 p2 p3
                    go_wp2_with fail
                    refine (HOv.out _).mono ?_
                    rintro e w4 ⟨rfl, hb⟩
                    have E5' := Lib.hid E5.out
                    have E5 := Lib.hid ((hb.block _ (Array.getElem?_eq_some_iff.1 E5.out).1).trans E5.out)
                    have E7 := Lib.hid ((hb.block _ (Array.getElem?_eq_some_iff.1 E7.out).1).trans E7.out)
                    have B2 := Lib.hid (B2.out.trans (hb.mono (Nat.le_of_lt (Array.getElem?_eq_some_iff.1 E5'.out).1)))
                    clear hb p0 p1 p2 p3
                    go_wp2_with fail
                    go_roundg m
                    case measure => omega
                    case rel => exact ⟨r + 1, si, ho, by omega, rfl, rfl, by simp, (c1, c2), by have := BS.out.leave (y := (z1, z2)) (.inl HX.out); rw [HO.out] at this; rw [HT.out]; exact this, B2.out, E5.out, E7.out⟩
                  · go_upto_region 41 with fail
                    go_wp2_with fail
                    go_roundg m
                    case measure => omega
                    case rel => exact ⟨r + 1, si, true, by omega, rfl, rfl, by simp, (c1, c2), by have := BS.out.leave (y := (z1, z2)) (.inl HX.out); rw [HO.out] at this; rw [HT.out]; exact this, B2.out, E5.out, E7.out⟩
                · cases si
                  · cases so
                    · go_upto_region 41 with fail
                      obtain ⟨e15, eo, eb⟩ := box_set z1 z2 E5.out B2.out
                      generalize (w2.setCell ⟨bb, 0, none⟩ (.int .u32 z1)).setCell ⟨bb, 1, none⟩ (.int .i64 z2) = w3 at *
                      have E5 := Lib.hid e15
                      have E7 := Lib.hid ((eo b7 (by omega)).trans E7.out)
                      have E9 := Lib.hid ((eo wr.heap.size (by omega)).trans E9.out)
                      have B2 := Lib.hid eb
                      clear e15 eo eb q0 q1 q2 q3 q4 q5
                      obtain ⟨p0, p1, _, _⟩ := cells_2 E7.out
                      obtain ⟨p2, p3, _, _⟩ := cells_2 E9.out
                      dsimp only at p0 p1 p2 p3
                      go_wp2_with fail
                      refine (HOv.out _).mono ?_
                      rintro e w4 ⟨rfl, hb⟩
                      have E5' := Lib.hid E5.out
                      have E5 := Lib.hid ((hb.block _ (Array.getElem?_eq_some_iff.1 E5.out).1).trans E5.out)
                      have E7 := Lib.hid ((hb.block _ (Array.getElem?_eq_some_iff.1 E7.out).1).trans E7.out)
                      have B2 := Lib.hid (B2.out.trans (hb.mono (Nat.le_of_lt (Array.getElem?_eq_some_iff.1 E5'.out).1)))
                      clear hb p0 p1 p2 p3
                      go_wp2_with fail
                      go_roundg m
                      case measure => omega
                      case rel => exact ⟨r + 1, true, ho, by omega, rfl, rfl, by simp, (z1, z2), by have := BS.out.take (y := (z1, z2)) HX.out (.inl rfl); rw [HO.out] at this; rw [HT.out]; exact this, B2.out, E5.out, E7.out⟩
                    · go_upto_region 41 with fail
                      obtain ⟨e15, eo, eb⟩ := box_set z1 z2 E5.out B2.out
                      generalize (w2.setCell ⟨bb, 0, none⟩ (.int .u32 z1)).setCell ⟨bb, 1, none⟩ (.int .i64 z2) = w3 at *
                      have E5 := Lib.hid e15
                      have E7 := Lib.hid ((eo b7 (by omega)).trans E7.out)
                      have E9 := Lib.hid ((eo wr.heap.size (by omega)).trans E9.out)
                      have B2 := Lib.hid eb
                      clear e15 eo eb q0 q1 q2 q3 q4 q5
                      go_wp2_with fail
                      go_roundg m
                      case measure => omega
                      case rel => exact ⟨r + 1, true, true, by omega, rfl, rfl, by simp, (z1, z2), by have := BS.out.take (y := (z1, z2)) HX.out (.inl rfl); rw [HO.out] at this; rw [HT.out]; exact this, B2.out, E5.out, E7.out⟩
                  · by_cases hgt : c2 < z2
                    · have hgt2 : z2 > c2 := hgt
                      cases so
                      · go_upto_region 41 with fail
                        obtain ⟨e15, eo, eb⟩ := box_set z1 z2 E5.out B2.out
                        generalize (w2.setCell ⟨bb, 0, none⟩ (.int .u32 z1)).setCell ⟨bb, 1, none⟩ (.int .i64 z2) = w3 at *
                        have E5 := Lib.hid e15
                        have E7 := Lib.hid ((eo b7 (by omega)).trans E7.out)
                        have E9 := Lib.hid ((eo wr.heap.size (by omega)).trans E9.out)
                        have B2 := Lib.hid eb
                        clear e15 eo eb q0 q1 q2 q3 q4 q5
                        obtain ⟨p0, p1, _, _⟩ := cells_2 E7.out
                        obtain ⟨p2, p3, _, _⟩ := cells_2 E9.out
                        dsimp only at p0 p1 p2 p3
                        go_wp2_with fail
                        refine (HOv.out _).mono ?_
                        rintro e w4 ⟨rfl, hb⟩
                        have E5' := Lib.hid E5.out
                        have E5 := Lib.hid ((hb.block _ (Array.getElem?_eq_some_iff.1 E5.out).1).trans E5.out)
                        have E7 := Lib.hid ((hb.block _ (Array.getElem?_eq_some_iff.1 E7.out).1).trans E7.out)
                        have B2 := Lib.hid (B2.out.trans (hb.mono (Nat.le_of_lt (Array.getElem?_eq_some_iff.1 E5'.out).1)))
                        clear hb p0 p1 p2 p3
                        go_wp2_with fail
                        go_roundg m
                        case measure => omega
                        case rel => exact ⟨r + 1, true, ho, by omega, rfl, rfl, by simp, (z1, z2), by have := BS.out.take (y := (z1, z2)) HX.out (.inr hgt); rw [HO.out] at this; rw [HT.out]; exact this, B2.out, E5.out, E7.out⟩
                      · go_upto_region 41 with fail
                        obtain ⟨e15, eo, eb⟩ := box_set z1 z2 E5.out B2.out
                        generalize (w2.setCell ⟨bb, 0, none⟩ (.int .u32 z1)).setCell ⟨bb, 1, none⟩ (.int .i64 z2) = w3 at *
                        have E5 := Lib.hid e15
                        have E7 := Lib.hid ((eo b7 (by omega)).trans E7.out)
                        have E9 := Lib.hid ((eo wr.heap.size (by omega)).trans E9.out)
                        have B2 := Lib.hid eb
                        clear e15 eo eb q0 q1 q2 q3 q4 q5
                        go_wp2_with fail
                        go_roundg m
                        case measure => omega
                        case rel => exact ⟨r + 1, true, true, by omega, rfl, rfl, by simp, (z1, z2), by have := BS.out.take (y := (z1, z2)) HX.out (.inr hgt); rw [HO.out] at this; rw [HT.out]; exact this, B2.out, E5.out, E7.out⟩
                    · have hgt2 : z2 ≤ c2 := by omega
                      cases so
                      · go_upto_region 41 with fail
                        obtain ⟨p0, p1, _, _⟩ := cells_2 E7.out
                        obtain ⟨p2, p3, _, _⟩ := cells_2 E9.out
                        dsimp only at p0 p1 p2 p3
                        go_wp2_with fail
                        refine (HOv.out _).mono ?_
                        rintro e w4 ⟨rfl, hb⟩
                        have E5' := Lib.hid E5.out
                        have E5 := Lib.hid ((hb.block _ (Array.getElem?_eq_some_iff.1 E5.out).1).trans E5.out)
                        have E7 := Lib.hid ((hb.block _ (Array.getElem?_eq_some_iff.1 E7.out).1).trans E7.out)
                        have B2 := Lib.hid (B2.out.trans (hb.mono (Nat.le_of_lt (Array.getElem?_eq_some_iff.1 E5'.out).1)))
                        clear hb p0 p1 p2 p3
                        go_wp2_with fail
                        go_roundg m
                        case measure => omega
                        case rel => exact ⟨r + 1, true, ho, by omega, rfl, rfl, by simp, (c1, c2), by have := BS.out.leave (y := (z1, z2)) (.inr ⟨rfl, hgt2⟩); rw [HO.out] at this; rw [HT.out]; exact this, B2.out, E5.out, E7.out⟩
                      · go_upto_region 41 with fail
                        go_wp2_with fail
                        go_roundg m
                        case measure => omega
                        case rel => exact ⟨r + 1, true, true, by omega, rfl, rfl, by simp, (c1, c2), by have := BS.out.leave (y := (z1, z2)) (.inr ⟨rfl, hgt2⟩); rw [HO.out] at this; rw [HT.out]; exact this, B2.out, E5.out, E7.out⟩
        | m + 1 =>
          have hkN : k < N := by omega
          obtain ⟨z, hz'⟩ : ∃ z, ys[k]? = some z := ⟨_, List.getElem?_eq_getElem (by rw [HN.out]; omega)⟩
          have o4 := (I4.out.below HH.out.2).own
          rw [← HN.out] at o4
          obtain ⟨g4, cp5, ev4, _, y0, y1⟩ := own_cell o4 hz'
          obtain ⟨s0, s1, _, _⟩ := cells_2 ((HH.out.2.block _ hs74).trans N7.out)
          injection ev4 with f1 f2 f3
          subst f1
          obtain ⟨z1, z2⟩ := z
          dsimp only at y0 y1 s0 s1
          have ne := run_eql32 z1 z2 ya yb
          have HZ := Lib.hid hz'
          have HA := Lib.hid HH.out.1
          have hl7 : b7 < wr.heap.size := Nat.lt_of_lt_of_le hs74 HH.out.2.size
          have HBn := Lib.hid (HH.out.2.alloc HH.out.2.size (.cells #[.int .u32 z1, .int .i64 z2] 32))
          clear o4 f2 f3 hz' HH
          by_cases hzy : (z1, z2) = (ya, yb)
          · rw [decide_eq_true hzy] at ne
            have HZY := Lib.hid hzy
            clear hzy
            go_wp2_with fail
            go_roundg m
            case measure => omega
            case rel => exact ⟨k + 1, k, by omega, by simp, rfl, At.hit (HZY.out ▸ HZ.out), HBn.out⟩
          · rw [decide_eq_false hzy] at ne
            have HZY := Lib.hid hzy
            clear hzy
            go_wp2_with fail
            go_roundg m
            case measure => omega
            case rel => exact ⟨k + 1, n, by omega, by simp, rfl, HA.out.miss HZ.out HZY.out, HBn.out⟩
end Go.Proofs.Ytbfkpapankgndaa
