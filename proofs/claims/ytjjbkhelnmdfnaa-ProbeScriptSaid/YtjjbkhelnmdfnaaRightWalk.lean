/-
  ProbeRight's walk: rows are right, if the document says so. Conditions: what comes in lies in memory, and numbers have their bits.
-/
import Derived.BigGuard
import Derived.Test.YtjjbkhelnmdfnaaSom
import Derived.Test.YtjjbkhelnmdfnaaQTail
set_option linter.unusedSimpArgs false
set_option linter.unusedVariables false
namespace Go.Proofs.Ytjjbkhelnmdfnaa
open Go.RowKit

theorem ch_g (x : Hc) : 0 ≤ (ch x).g ∧ (ch x).g ≤ 3 := by unfold ch; dsimp only; omega
theorem ch_f (x : Hc) : 1 ≤ (ch x).f ∧ (ch x).f ≤ 6 := by unfold ch; dsimp only; omega
theorem grown_trans {w w1 w2 : World} {r r' : Option Nat} (h : w.grownBy w1 r) (g : w1.grownBy w2 r') (hr : ∀ k, r' = some k → some k = r ∨ w.heap.size ≤ k) : w.grownBy w2 r :=
  ⟨g.os.trans h.os, g.tape.trans h.tape, g.output.trans h.output, Nat.le_trans h.size g.size, fun k hk hne => (g.block k (Nat.lt_of_lt_of_le hk h.size) (fun e => by
    rcases hr k e.symm with e' | e'
    · exact hne e'
    · omega)).trans (h.block k hk hne)⟩
theorem grown_below {w w' : World} (h : Below w.heap.size w w') (r : Option Nat) : w.grownBy w' r := ⟨h.os, h.tape, h.output, h.size, fun k hk _ => h.block k hk⟩
theorem cs_set : ∀ (ys : List Pr) (i : Nat) (q : Pr), i < ys.length → (((((eP.cs ys).set (i * 5) (.int .u32 q.a)).set (i * 5 + 1) (.int .i64 q.i)).set (i * 5 + 2) (.int .i64 q.s)).set (i * 5 + 3) (.int .i64 q.t)).set (i * 5 + 4) (.int .i64 q.n) = eP.cs (ys.set i q)
  | [], i, q, h => by simp at h
  | y :: r, 0, q, _ => by simp [El.cs, eP, prl]
  | y :: r, i + 1, q, h => by
    have ih := cs_set r i q (by simpa using h)
    have e : eP.cs (y :: r) = prl y ++ eP.cs r := rfl
    have e2 : eP.cs ((y :: r).set (i + 1) q) = prl y ++ eP.cs (r.set i q) := rfl
    rw [e, e2, ← ih]
    have hl : (prl y).length = 5 := rfl
    have g : ∀ (l : List Value) (j : Nat) (v : Value), (prl y ++ l).set ((i + 1) * 5 + j) v = prl y ++ l.set (i * 5 + j) v := fun l j v => by
      rw [List.set_append_right _ _ (by rw [hl]; omega), hl, show (i + 1) * 5 + j - 5 = i * 5 + j by omega]
    have g0 := g (eP.cs r) 0 (.int .u32 q.a)
    simp only [Nat.add_zero] at g0
    rw [g0, g, g, g, g]
theorem own_setrow {w : World} {base g L c : Nat} {ys : List Pr} (h : w.ownsRow base 37 5 (.slice (some ⟨g, 0, none⟩) L c) L (eP.cs ys)) (hl : ys.length = L) {i : Nat} (hi : i < L) (q : Pr) :
    (w.setCells g (i * 5) (prl q)).ownsRow base 37 5 (.slice (some ⟨g, 0, none⟩) L c) L (eP.cs (ys.set i q)) ∧ w.grownBy (w.setCells g (i * 5) (prl q)) (some g) := by
  obtain ⟨o0, g0⟩ := h.stored (i * 5) (.int .u32 q.a)
  obtain ⟨o1, g1⟩ := o0.stored (i * 5 + 1) (.int .i64 q.i)
  obtain ⟨o2, g2⟩ := o1.stored (i * 5 + 2) (.int .i64 q.s)
  obtain ⟨o3, g3⟩ := o2.stored (i * 5 + 3) (.int .i64 q.t)
  obtain ⟨o4, g4⟩ := o3.stored (i * 5 + 4) (.int .i64 q.n)
  rw [cs_set ys i q (by omega)] at o4
  have ht : ∀ k, some g = some k → some k = some g ∨ w.heap.size ≤ k := fun k e => .inl e.symm
  exact ⟨o4, grown_trans (grown_trans (grown_trans (grown_trans g0 g1 ht) g2 ht) g3 ht) g4 ht⟩
theorem own_there {w : World} {base g L c : Nat} {ys : List Pr} (h : w.ownsRow base 37 5 (.slice (some ⟨g, 0, none⟩) L c) L (eP.cs ys)) (hl : ys.length = L) {i : Nat} (hi : i < L) : w.there g (i * 5) 5 := by
  intro j hj
  have hlt : i * 5 + j < L * 5 := by omega
  refine ⟨?_, h.frozenAt _⟩
  rw [h.cellAt _ hlt, List.getElem?_eq_getElem (by rw [cs_length, hl]; exact hlt)]
  rfl
theorem at_storeRow {ops : Array Oper} {rest : List Oper} {o : Oper} {a : Act} {w : World} {Q : Exit → Act → World → Prop} (x y : Operand) (base g L c i : Nat) (ys : List Pr) (q : Pr) (H : w.ownsRow base 37 5 (.slice (some ⟨g, 0, none⟩) L c) L (eP.cs ys)) (hl : ys.length = L) (hi : i < L) (hgd : o.guard = none) (ho : o.op = .store 37 x y) (hx : a.eval x = .pointer (some ⟨g, i * 5, none⟩)) (hy : a.eval y = prv q)
    (h : ∀ w', Hid (w'.ownsRow base 37 5 (.slice (some ⟨g, 0, none⟩) L c) L (eP.cs (ys.set i q))) → Hid (w.grownBy w' (some g)) → wpList Try.prog ops Q rest (a.put o.dst undef) w') : wpList Try.prog ops Q (o :: rest) a w :=
  wpList_store_mid hgd 37 x y ho g (i * 5) (prl q).toArray hx hy (own_there H hl hi) size37 (prl_one q) (h _ (own_setrow H hl hi q).1 (own_setrow H hl hi q).2)

theorem own_slice {α : Type} {E : El α} {w : World} {base : Nat} {e : TypeId} {A : Option Addr} {n m c : Nat} {xs : List α} (h : w.ownsRow base e E.N (.slice A m c) n (E.cs xs)) (hn : xs.length ≤ 140737488355328) : Rw E w A xs := by
  obtain ⟨A', c', e1, -, -, -, hR, -⟩ := own_rw h hn
  injection e1 with e1
  subst e1
  exact hR
set_option maxRecDepth 100000 in
set_option maxHeartbeats 8000000 in
theorem probeRight_walk (A : Option Addr) (raw : List Pr) (cr : Nat) (x : Hc) (B : Option Addr) (ys : List Ac) (cy : Nat) (n : Int) (z : Pr) (w : World) (h : Rw eP w A raw) (hcr : raw.length ≤ cr) (hur : Au raw) (hx : x.Ok) (hB : Rw eC w B ys) (hcy : ys.length ≤ cy) (hok : ∀ y ∈ ys, y.Ok) (hn0 : 0 ≤ n) (hn1 : n < 256) (hz0 : 0 ≤ z.a) (hz1 : z.a < 4294967296) :
    Calls Try.prog 5 #[.slice A raw.length cr, hv x, .slice B ys.length cy, .int .u8 n, prv z] w fun e w' => e = .returned (.bool true) ∧ Below w.heap.size w w' := by
  obtain ⟨an, rfl⟩ := Int.eq_ofNat_of_zero_le hn0
  have B0 := Lib.hid (show Below w.heap.size w ((w.alloc (Hcx x)).alloc (Prx z)) from ((Below.refl _ w).alloc (Nat.le_refl _) _).alloc (by simp) _)
  have M0 := Lib.hid (show Hm ((w.alloc (Hcx x)).alloc (Prx z)) w.heap.size x from (show Hm (w.alloc (Hcx x)) w.heap.size x from hc_box w x).below ((Below.refl _ _).alloc (Nat.le_refl _) _))
  have Z0 := Lib.hid (show Qb ((w.alloc (Hcx x)).alloc (Prx z)) (w.heap.size + 1) z by have := qb_box (w.alloc (Hcx x)) z; simpa using this)
  have HAW := Lib.hid fun (W W' : World) (g : Nat) (hR : Rw eP W A raw) (hg : W.grownBy W' (some g)) (hB : w.heap.size ≤ g) => hR.grownN hg (rw_lt h) hB
  have RA0 := Lib.hid (h.below B0.out)
  have RB0 := Lib.hid (hB.below B0.out)
  have HCH := Lib.hid fun W => choice_any x W hx
  have hag := ch_g x
  have HSO := Lib.hid fun W (hR : Rw eC W B ys) => some_any (ch x) B ys cy W hR hok hcy (by omega)
  obtain ⟨⟨v1, -, v2⟩, v3⟩ := smO_ok (ch x).f (ch x).g (by omega) (ys.take 60) (fun y hy => hok y (List.mem_of_mem_take hy)) (by rw [List.length_take]; omega)
  have hr100 : (raw.take 100).length = min 100 raw.length := List.length_take
  have HRR := Lib.hid fun W (hR : Rw eP W A raw) => right_row A (raw.take 100) cr W (hR.take 100) (by omega)
  have HLR := Lib.hid fun W (hR : Rw eP W A raw) => lright_any A (raw.take 100) cr W (hR.take 100) (by omega) (fun z hz => hur z (List.mem_of_mem_take hz))
  obtain ⟨rr, hrr⟩ : ∃ rr, rgB (raw.take 100) = rr := ⟨_, rfl⟩
  rw [hrr, hr100] at HLR HRR
  obtain ⟨N, hN⟩ : ∃ N, min 100 raw.length = N := ⟨_, rfl⟩
  rw [hN] at HLR HRR
  have hmin : min (raw.length : Int) 100 = (N : Int) := by omega
  have hNc : N ≤ cr := by omega
  have hNc' : (N : Int) ≤ cr := by omega
  have HS29 := run_sl29 A raw.length cr N hNc
  clear hr100 hN hag
  have hrs : (rr == rr) = true := by simp
  clear hrr h hB hok
  generalize raw.length = Lr at *
  generalize ys.length = Ly at *
  generalize smO (ch x).f (ch x).g (ys.take 60) = s at *
  obtain ⟨ss, now⟩ := s
  dsimp only at v1 v2 v3
  have HV := Lib.hid v1
  have hss := v1.r.few
  clear v1 v3
  unfold hv Hcx prv Prx at *
  go_enter Try.func5, Try.ntmps5
  go_wp2_with fail
  generalize (w.alloc (.cells #[.int .u8 x.a, .int .u8 x.b, .int .u8 x.c, .int .u8 x.d, .int .u8 x.e, .int .u8 x.f, .int .u8 x.g, .int .u8 x.h, .int .u8 x.i] 23)).alloc (.cells #[.int .u32 z.a, .int .i64 z.i, .int .i64 z.s, .int .i64 z.t, .int .i64 z.n] 37) = W0 at *
  refine (awake_any W0).mono ?_
  rintro e W1 ⟨rfl, hb⟩
  have B1 := Lib.hid (B0.out.trans (hb.mono B0.out.size))
  have M1 := Lib.hid (M0.out.below hb)
  have Z1 := Lib.hid (Z0.out.below hb)
  have RA1 := Lib.hid (RA0.out.below hb)
  have RB1 := Lib.hid (RB0.out.below hb)
  clear hb M0 Z0 RA0 RB0
  go_wp2_with (refine at_load23 (.tmp 6) rfl rfl _ x rfl M1.out ?_)
  refine (HCH.out W1).mono ?_
  rintro e W2 ⟨rfl, hb⟩
  have B2 := Lib.hid (B1.out.trans (hb.mono B1.out.size))
  have Z2 := Lib.hid (Z1.out.below hb)
  have RA2 := Lib.hid (RA1.out.below hb)
  have RB2 := Lib.hid (RB1.out.below hb)
  clear hb Z1 RA1 RB1 M1
  go_wp2_with fail
  refine (HSO.out W2 RB2.out).mono ?_
  rintro e W3 ⟨As, cs, rfl, hcs, hRs, hb⟩
  dsimp only at hcs hRs
  have B3 := Lib.hid (B2.out.trans (hb.mono B2.out.size))
  have Z3 := Lib.hid (Z2.out.below hb)
  have RA3 := Lib.hid (RA2.out.below hb)
  have RS3 := Lib.hid hRs
  have HCS := Lib.hid hcs
  clear hb Z2 RA2 RB2 hRs hcs
  dsimp only
  have HR1 := Lib.hid (right_row As ss cs W3 RS3.out HCS.out)
  rw [show rgB ss = true from (rg_iff ss).2 HV.out.r] at HR1
  obtain ⟨L, hL⟩ : ∃ L, ss.length = L := ⟨_, rfl⟩
  have HL := Lib.hid hL
  rw [hL] at hss HR1 ⊢
  clear hL
  go_wp2_with fail
  refine HR1.out.mono ?_
  rintro e W4 ⟨rfl, hb⟩
  have B4 := Lib.hid (B3.out.trans (hb.mono B3.out.size))
  have Z4 := Lib.hid (Z3.out.below hb)
  have RA4 := Lib.hid (RA3.out.below hb)
  have RS4 := Lib.hid (RS3.out.below hb)
  clear hb Z3 RA3 RS3 HR1
  have ON4 := Lib.hid (World.ownsRow_nil W4 W4.heap.size 37 5)
  have hlen0 : 0 + L ≤ 1000000000000 := by omega
  go_wp2_with (at_builtin; refine wpList_append_rw tP _ rfl (.const (.slice none 0 0)) (.tmp 31) rfl W4.heap.size (.slice none 0 0) 0 [] (by simp [Act.eval]) ON4.out As L cs ss (by simp [Act.eval, Act.put]) HL.out.symm RS4.out hlen0 (Nat.le_refl _) ?_)
  intro v13 W5 ho13 hg5
  have B5' := Lib.hid (show Below W4.heap.size W4 W5 from (Below.refl _ W4).grown hg5 (Nat.le_refl _) (fun k e => by cases e))
  have B5 := Lib.hid (B4.out.trans (B5'.out.mono B4.out.size))
  have Z5 := Lib.hid (Z4.out.keep B5'.out Z4.out.lt)
  have RA5 := Lib.hid (RA4.out.below B5'.out)
  have O5 := Lib.hid ho13
  clear hg5 ho13 Z4 RA4 RS4 B5' ON4
  by_cases hL0 : 0 < L
  · obtain ⟨g, c, rfl, hLc⟩ : ∃ g c, v13 = .slice (some ⟨g, 0, none⟩) L c ∧ L ≤ c := by
      rcases O5.out.2 with ⟨-, h0⟩ | ⟨g, c, cur, e1, -, -, hle, -⟩
      · omega
      · exact ⟨g, c, e1, hle⟩
    obtain ⟨k, hk⟩ : ∃ k, an % L = k := ⟨_, rfl⟩
    have hkL : k < L := by rw [← hk]; exact Nat.mod_lt _ hL0
    have hkm : (an : Int).tmod (L : Int) = (k : Int) := by rw [← hk, ← Int.ofNat_tmod]
    clear hk
    obtain ⟨z0, z1, z2, z3, z4⟩ := Z5.out.c
    have hgB := Lib.hid (O5.out.lt g rfl)
    have hAU := Lib.hid (show Au (ss.set k z) from fun y hy => by
      rcases List.mem_or_eq_of_mem_set hy with hy | rfl
      · exact HV.out.u y hy
      · exact ⟨hz0, hz1⟩)
    go_wp2_with fail
    refine wp_region_quiet_tail_lit 8 (by kernel_rfl) (by kernel_rfl) ?_
    simp only [List.take_succ_cons, List.take_zero, List.drop_succ_cons, List.drop_zero]
    repeat (go_big_quiet_step (fail))
    refine wpQuiet_nil ?_
    rintro w6 ⟨n6, rfl⟩
    have O6 := Lib.hid (own_keep O5.out (bdrewN (Below.refl _ W5) n6))
    have B6 := Lib.hid (bdrewN B5.out n6)
    have RA6 := Lib.hid (RA5.out.drewN n6)
    clear z0 z1 z2 z3 z4 Z5 O5 RA5
    generalize W5.drewN n6 = W6 at *
    have hbg := Lib.hid (show w.heap.size ≤ g from Nat.le_trans B4.out.size hgB.out.1)
    go_wp2_with (refine at_storeRow _ _ W4.heap.size g L c k ss z O6.out HL.out hkL rfl rfl rfl rfl ?_; intro w7 O7 G7; have B7 := Lib.hid (show Below w.heap.size w w7 from B6.out.grown G7.out B6.out.size (fun k' e => by injection e with e; have := hbg.out; omega)); have RA7 := Lib.hid (HAW.out _ _ _ RA6.out G7.out hbg.out))
    have RY7 := Lib.hid (own_slice (E := eP) O7.out (by rw [List.length_set, HL.out]; omega))
    have hyl : (ss.set k z).length = L := by rw [List.length_set, HL.out]
    have HY1 := Lib.hid fun W hR => right_row (some ⟨g, 0, none⟩) (ss.set k z) c W hR (by rw [hyl]; exact hLc)
    have HY2 := Lib.hid fun W hR => lright_any (some ⟨g, 0, none⟩) (ss.set k z) c W hR (by rw [hyl]; exact hLc) hAU.out
    rw [hyl] at HY1 HY2
    obtain ⟨ry, hry⟩ : ∃ ry, rgB (ss.set k z) = ry := ⟨_, rfl⟩
    rw [hry] at HY1 HY2
    have hys : (ry == ry) = true := by simp
    clear hry hyl
    refine (HY1.out w7 RY7.out).mono ?_
    rintro e W8 ⟨rfl, hb⟩
    have B8 := Lib.hid (B7.out.trans (hb.mono B7.out.size))
    have RA8 := Lib.hid (RA7.out.below hb)
    have RY8 := Lib.hid (RY7.out.below hb)
    clear hb
    go_wp2_with fail
    refine (HY2.out W8 RY8.out).mono ?_
    rintro e W9 ⟨rfl, hb⟩
    have B9 := Lib.hid (B8.out.trans (hb.mono B8.out.size))
    have RA9 := Lib.hid (RA8.out.below hb)
    clear hb
    go_wp2_with fail
    refine (HRR.out W9 RA9.out).mono ?_
    rintro e W10 ⟨rfl, hb⟩
    have B10 := Lib.hid (B9.out.trans (hb.mono B9.out.size))
    have RA10 := Lib.hid (RA9.out.below hb)
    clear hb
    go_wp2_with fail
    refine (HLR.out W10 RA10.out).mono ?_
    rintro e W11 ⟨rfl, hb⟩
    have B11 := Lib.hid (B10.out.trans (hb.mono B10.out.size))
    clear hb
    go_wp2_with fail
    go_ret
    exact ⟨rfl, B11.out⟩
  · obtain rfl : L = 0 := by omega
    obtain rfl : ss = [] := List.eq_nil_of_length_eq_zero HL.out
    have key : ∃ A' c', v13 = .slice A' 0 c' := by
      rcases O5.out.2 with ⟨e1, -⟩ | ⟨g, c, cur, e1, -⟩
      · exact ⟨none, 0, e1⟩
      · exact ⟨_, c, e1⟩
    obtain ⟨A', c, rfl⟩ := key
    have B7 := B5
    have RA7 := RA5
    obtain ⟨w7, rfl⟩ : ∃ w7, w7 = W5 := ⟨_, rfl⟩
    have RY7 := Lib.hid (Rw.nil (E := eP) w7 A')
    have HY1 := Lib.hid fun W hR => right_row A' [] c W hR (by simp)
    have HY2 := Lib.hid fun W hR => lright_any A' [] c W hR (by simp) (fun x hx => by simp at hx)
    rw [List.length_nil] at HY1 HY2
    obtain ⟨ry, hry⟩ : ∃ ry, rgB [] = ry := ⟨_, rfl⟩
    rw [hry] at HY1 HY2
    have hys : (ry == ry) = true := by simp
    clear hry
    go_wp2_with fail
    refine (HY1.out w7 RY7.out).mono ?_
    rintro e W8 ⟨rfl, hb⟩
    have B8 := Lib.hid (B7.out.trans (hb.mono B7.out.size))
    have RA8 := Lib.hid (RA7.out.below hb)
    have RY8 := Lib.hid (RY7.out.below hb)
    clear hb
    go_wp2_with fail
    refine (HY2.out W8 RY8.out).mono ?_
    rintro e W9 ⟨rfl, hb⟩
    have B9 := Lib.hid (B8.out.trans (hb.mono B8.out.size))
    have RA9 := Lib.hid (RA8.out.below hb)
    clear hb
    go_wp2_with fail
    refine (HRR.out W9 RA9.out).mono ?_
    rintro e W10 ⟨rfl, hb⟩
    have B10 := Lib.hid (B9.out.trans (hb.mono B9.out.size))
    have RA10 := Lib.hid (RA9.out.below hb)
    clear hb
    go_wp2_with fail
    refine (HLR.out W10 RA10.out).mono ?_
    rintro e W11 ⟨rfl, hb⟩
    have B11 := Lib.hid (B10.out.trans (hb.mono B10.out.size))
    clear hb
    go_wp2_with fail
    go_ret
    exact ⟨rfl, B11.out⟩
end Go.Proofs.Ytjjbkhelnmdfnaa
