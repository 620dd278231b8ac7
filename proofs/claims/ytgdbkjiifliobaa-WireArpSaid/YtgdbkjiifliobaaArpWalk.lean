/-
  WireArp's walk: for every packet, two numbers and a row of bytes, it returns true, and nothing that was in memory is touched. Conditions: the numbers have their bits, the row has at most 2^47 - 4096 bytes, and not more than its room.
-/
import Derived.Test.YtgdbkjiifliobaaAnyWalk
import Derived.Test.YtgdbkjiifliobaaRy
set_option linter.unusedSimpArgs false
set_option linter.unusedVariables false
namespace Go.Proofs.Ytgdbkjiifliobaa
open Go.RowKit

theorem readArp_any (A : Option Addr) (zs : List Nat) (c : Nat) (w : World) (h : Rd w A zs) (hc : zs.length ≤ c) :
    Calls Try.prog 12 #[.slice A zs.length c] w fun e w' => e = .returned (.tuple #[pv (rap zs), .int .i64 (rae zs)]) ∧ Below w.heap.size w w' := by
  cases hf : fa zs
  · have hr : rae zs = 1 := by unfold rae; rw [hf]; rfl
    have hq : rap zs = zp := by unfold rap; rw [hr]; rfl
    rw [hr, hq]
    exact readArp_form A zs c w h hc hf
  · exact readArp_yes A zs c w h hc hf
theorem arb_bs (p : Pk) (hp : p.Ok) : Bs (arb p) := by
  have := hp.f
  have := hp.t
  have := hp.m0
  have := hp.m1
  have := hp.m2
  have := hp.m3
  have := hp.m4
  have := hp.m5
  intro i
  unfold arb
  match i with
  | 7 => simp; split <;> omega
  | 0 | 1 | 2 | 3 | 4 | 5 | 6 | 8 | 9 | 10 | 11 | 12 | 13 | 14 | 15 | 16 | 17 | 18 | 19 | 20 | 21 | 22 | 23 | 24 | 25 | 26 | 27 => simp; try omega
  | i + 28 => simp
theorem arb_length (p : Pk) : (arb p).length = 28 := rfl
theorem stg_extract (l : List Nat) (a b : Nat) : (stg l).extract a b = stg ((l.take b).drop a) := by
  apply ByteArray.ext
  simp [stg, List.map_drop, List.map_take]
  rw [List.drop_take]
theorem arb_parts {ls : List Nat} (hf : fa ls = true) (hb : Bs ls) : (arb (apk ls)).take 18 = ls.take 18 ∧ (arb (apk ls)).drop 24 = ls.drop 24 := by
  unfold fa at hf
  obtain ⟨hl, hh, hk⟩ := of_decide_eq_true hf
  have t7 : ls.take 7 = [ls.getD 0 0, ls.getD 1 0, ls.getD 2 0, ls.getD 3 0, ls.getD 4 0, ls.getD 5 0, ls.getD 6 0] := by
    have := take_drop_list ls 0 7 (by omega)
    rw [List.drop_zero] at this
    rw [this]
    simp [List.range, List.range.loop]
  have t18 : ls.take 18 = [ls.getD 0 0, ls.getD 1 0, ls.getD 2 0, ls.getD 3 0, ls.getD 4 0, ls.getD 5 0, ls.getD 6 0, ls.getD 7 0, ls.getD 8 0, ls.getD 9 0, ls.getD 10 0, ls.getD 11 0, ls.getD 12 0, ls.getD 13 0, ls.getD 14 0, ls.getD 15 0, ls.getD 16 0, ls.getD 17 0] := by
    have := take_drop_list ls 0 18 (by omega)
    rw [List.drop_zero] at this
    rw [this]
    simp [List.range, List.range.loop]
  have t24 : ls.drop 24 = [ls.getD 24 0, ls.getD 25 0, ls.getD 26 0, ls.getD 27 0] := by
    have := take_drop_list ls 24 4 (by omega)
    rw [List.take_of_length_le (by rw [List.length_drop]; omega)] at this
    rw [this]
    simp [List.range, List.range.loop]
  rw [hh, h7] at t7
  simp only [List.cons.injEq, and_true] at t7
  obtain ⟨g0, g1, g2, g3, g4, g5, g6⟩ := t7
  have i1 := ip4_of (hb 14) (hb 15) (hb 16) (hb 17)
  have i2 := ip4_of (hb 24) (hb 25) (hb 26) (hb 27)
  unfold ip4 at i1 i2
  simp only [List.cons.injEq, and_true] at i1 i2
  obtain ⟨f0, f1, f2, f3⟩ := i1
  obtain ⟨r0, r1, r2, r3⟩ := i2
  have hk' : (if (((ls.getD 7 0 : Nat) : Int) == 2) = true then 2 else 1) = ls.getD 7 0 := by
    rcases hk with hk | hk <;> rw [hk] <;> rfl
  constructor
  · rw [t18]
    unfold arb apk
    simp only [List.take_succ_cons, List.take_zero, List.cons.injEq, and_true, true_and]
    exact ⟨g0, g1, g2, g3, g4, g5, g6, hk', f0, f1, f2, f3⟩
  · rw [t24]
    unfold arb apk
    simp only [List.drop_succ_cons, List.drop_zero, List.cons.injEq, and_true, true_and]
    exact ⟨r0, r1, r2, r3⟩
theorem own_heap {w : World} {base g n cap : Nat} {xs : List Value} (h : w.ownsRow base 5 1 (.slice (some ⟨g, 0, none⟩) n cap) n xs) : ∃ cur, w.heap[g]? = some (.cells cur 5 (0, 0)) ∧ base ≤ g ∧ n ≤ cap := by
  rcases h.2 with ⟨h1, _⟩ | ⟨g', cap', cur, e, hg, hh, hc, _⟩
  · cases h1
  · injection e with e1 e2 e3
    injection e1 with e1
    injection e1 with e1
    subst e1 e3
    exact ⟨cur, hh, hg, hc⟩

set_option maxRecDepth 100000 in
set_option maxHeartbeats 4000000 in
theorem wireArp_walk (p : Pk) (x y : Int) (A : Option Addr) (zs : List Nat) (c : Nat) (w : World) (hp : p.Ok) (hx : 0 ≤ x ∧ x < 256) (hy : 0 ≤ y ∧ y < 256) (h : Rd w A zs) (_hm : zs.length ≤ 140737488351232) (hc : zs.length ≤ c) :
    Calls Try.prog 3 #[pv p, .int .u8 x, .int .u8 y, .slice A zs.length c] w fun e w' => e = .returned (.bool true) ∧ Below w.heap.size w w' := by
  obtain ⟨x, rfl⟩ := Int.eq_ofNat_of_zero_le hx.1
  obtain ⟨y, rfl⟩ := Int.eq_ofNat_of_zero_le hy.1
  have hx := hx.2
  have hy := hy.2
  obtain ⟨T, hT⟩ : ∃ T, stg (arb p) = T := ⟨_, rfl⟩
  have CW := Lib.hid fun W => awake_any W
  have CA := Lib.hid fun W => show Calls Try.prog 10 #[pv p] W _ from arp_any p W hp
  have CT := Lib.hid fun W => hT ▸ arpText_any p W hp
  have HT := Lib.hid hT
  have P0 := Lib.hid (pb_box w p)
  have D0 := Lib.hid ((Below.refl w.heap.size w).alloc (Nat.le_refl _) (Px p))
  have RZ := Lib.hid fun W (hW : Below w.heap.size w W) => h.below hW
  have HB : Hid (Bs (arb p)) := arb_bs p hp
  clear hp h hT
  unfold pv
  go_enter Try.func3, Try.ntmps3
  go_wp2_with fail
  refine (CW.out _).mono ?_
  rintro e w1 ⟨rfl, b1⟩
  have P1 := Lib.hid (P0.out.keep b1 P0.out.lt)
  have D1 := Lib.hid (D0.out.trans (b1.mono D0.out.size))
  clear b1 P0 D0
  go_wp2_with (refine at_load27 _ _ p P1.out.1 rfl rfl rfl ?_)
  refine (CA.out _).mono ?_
  rintro e w2 ⟨rfl, o2, b2⟩
  have P2 := Lib.hid (P1.out.keep b2 P1.out.lt)
  have D2 := Lib.hid (D1.out.trans (b2.mono D1.out.size))
  have hz2 : w.heap.size < w1.heap.size + 1 := by have := P1.out.lt; omega
  have O2 := Lib.hid o2
  clear o2 b2 P1 D1
  generalize w1.heap.size + 1 = g at *
  go_upto_region 4 with fail
  have K1 : ∀ dd os, (convert 28 9 (.slice (some ⟨g, 0, none⟩) 28 28)).run Try.prog (Sort.grow (redrawn w2 dd) os) = .ok (.string T) (Sort.grow (redrawn w2 dd) os) := fun dd os => by
    have := run_stg ((O2.out.rd).below (below_regrown w2 dd os)) 28
    rw [HT.out, arb_length] at this
    exact this
  have HL := Lib.hid fun W (h : ∃ q : Regrown, W = Sort.grow (redrawn w2 q.d) q.os) => show Pm W w.heap.size p by
    obtain ⟨q, rfl⟩ := h
    exact (P2.out.keep (below_grow q) P2.out.lt).1
  have CQ := Lib.hid fun dd os => Calls.regrown_of (w := w2) (d := dd) (os := os) (CT.out _)
  refine wp_region_quiet_below (by kernel_rfl) (by kernel_rfl) ?_
  (try simp only [Act.put])
  repeat (first
    | (refine quiet_load27 (.tmp 4) w.heap.size p HL.out ?_ ?_ ?_ ?_; rotate_left; (with_reducible rfl); rfl; rotate_left; kernel_rfl; simp only [Act.put, List.setIfInBounds_toArray, List.set_cons_zero, List.set_cons_succ])
    | go_big_quiet_step ((go_at_call 11; with_reducible exact CQ.out _ _)))
  refine wpQuiet_nil ?_
  rintro w3 ⟨q3, rfl⟩
  have bb := below_grow (w := w2) q3
  generalize Sort.grow (redrawn w2 q3.d) q3.os = w3 at *
  have R3 := Lib.hid (O2.out.rd.below bb)
  have D3 := Lib.hid (D2.out.trans (bb.mono D2.out.size))
  clear bb K1 HL CQ O2 P2 D2 CT CA CW
  go_upto_region 7 with (at_builtin; refine wpList_append_rd _ rfl (.const (.slice none 0 0)) (.tmp 25) rfl w3.heap.size (.slice none 0 0) 0 [] rfl (World.ownsRow_nil _ _ _ _) (some ⟨g, 0, none⟩) 28 28 (arb p) rfl rfl R3.out (by omega) (by omega) (by simp) ?_; intro g2 cap2 w4 hown hgrow hat hlt4)
  rw [List.nil_append, Nat.zero_add] at hown
  obtain ⟨cur, hh, hb2, hcap⟩ := own_heap hown
  have hf : ∀ k, w4.frozen? ⟨g2, k, none⟩ = false := fun k => by unfold World.frozen?; rw [hh]; simp
  have R4 := (Rd.own hown HB.out (by rw [arb_length]; omega)).2
  have hk1 : x % 28 < 28 := by omega
  have hcc : w4.cell? ⟨g2, x % 28, none⟩ = some (.int .u8 (((arb p).getD (x % 28) 0 : Nat) : Int)) := by
    obtain ⟨q, hq, hqc⟩ := R4.2.2 (x % 28) (by rw [arb_length]; exact hk1)
    injection hq with hq
    subst hq
    rwa [Addr.add_mid, Nat.zero_add] at hqc
  have hfk := hf (x % 28)
  have B4 : Below w3.heap.size w3 w4 := (Below.refl _ w3).grown hgrow (Nat.le_refl _) (fun k e => by cases e)
  have hy2 : y < 256 := by omega
  have R5 := Lib.hid (R4.put (k := x % 28) (v := y) (by rw [arb_length]; exact hk1) hy2)
  have B5 : Below w3.heap.size w3 (w4.setCell ⟨g2, x % 28, none⟩ (.int .u8 (y : Int))) := B4.setCell (p := ⟨g2, x % 28, none⟩) hb2 _
  have R3' := Lib.hid (R3.out.below B5)
  have D5 := Lib.hid (D3.out.trans (B5.mono D3.out.size))
  have hl5 : ((arb p).set (x % 28) y).length = 28 := by rw [List.length_set, arb_length]
  have HL5 := Lib.hid hl5
  clear hown hgrow hat hh hf R4 B4 B5 R3 D3 hl5 hlt4
  go_upto_region 8 with fail
  clear hcc hfk
  generalize w4.setCell ⟨g2, x % 28, none⟩ (.int .u8 (y : Int)) = w5 at *
  have RZ5 := RZ.out _ D5.out
  have bb := (Below.refl _ w5).alloc (Nat.le_refl _) (.cells #[.slice (some ⟨g, 0, none⟩) 28 28, .slice (some ⟨g2, 0, none⟩) 28 cap2, .slice A zs.length c, .slice (some ⟨g2, 0, none⟩) (x % 28) cap2] 28)
  have hh : (w5.alloc (.cells #[.slice (some ⟨g, 0, none⟩) 28 28, .slice (some ⟨g2, 0, none⟩) 28 cap2, .slice A zs.length c, .slice (some ⟨g2, 0, none⟩) (x % 28) cap2] 28)).heap[w5.heap.size]? = some _ := heap_alloc_new w5 _
  have HR : Hid (∀ j, j < 4 → Row (w5.alloc (.cells #[.slice (some ⟨g, 0, none⟩) 28 28, .slice (some ⟨g2, 0, none⟩) 28 cap2, .slice A zs.length c, .slice (some ⟨g2, 0, none⟩) (x % 28) cap2] 28)) w5.heap.size j) := by
    intro j hj
    match j, hj with
    | 0, _ => exact ⟨_, arb p, 28, (cell_of_row _ _ _ _ _ _ hh).trans rfl, R3'.out.below bb, by rw [arb_length]; omega⟩
    | 1, _ => exact ⟨_, (arb p).set (x % 28) y, cap2, (cell_of_row _ _ _ _ _ _ hh).trans (by rw [HL5.out]; rfl), R5.out.below bb, by rw [HL5.out]; exact hcap⟩
    | 2, _ => exact ⟨A, zs, c, (cell_of_row _ _ _ _ _ _ hh).trans rfl, RZ5.below bb, hc⟩
    | 3, _ => exact ⟨_, ((arb p).set (x % 28) y).take (x % 28), cap2, (cell_of_row _ _ _ _ _ _ hh).trans (by rw [List.length_take, HL5.out, Nat.min_eq_left (by omega)]; rfl), (R5.out.take (x % 28)).below bb, by rw [List.length_take, HL5.out]; omega⟩
  have D6 := Lib.hid (D5.out.trans (bb.mono D5.out.size))
  have hc2 : x % 28 ≤ cap2 := by omega
  clear bb hh RZ5 R5 R3' D5 RZ HL5 HT HB
  go_wp2_with fail
  generalize w5.alloc (.cells #[.slice (some ⟨g, 0, none⟩) 28 28, .slice (some ⟨g2, 0, none⟩) 28 cap2, .slice A zs.length c, .slice (some ⟨g2, 0, none⟩) (x % 28) cap2] 28) = w6 at *
  generalize w5.heap.size = g3 at *
  go_loopg [47] 4 (fun m i wr => ∃ j : Nat, j + m = 4 ∧ i = .int .i64 j ∧ Hid (Below w6.heap.size w6 wr))
  case atStart => exact ⟨0, rfl, rfl, Below.refl _ _⟩
  case round =>
    obtain ⟨j, hj, rfl, HW⟩ := hrel
    by_cases hlt : j < 4
    · obtain ⟨B, ls, d, hcell, hrd, hld⟩ := HR.out j hlt
      have cj := (HW.out.cell (World.block_lt_of_cell? _ _ hcell)).trans hcell
      have RL := Lib.hid (hrd.below HW.out)
      have CR := Lib.hid fun W (h : Rd W B ls) => readArp_any B ls d W h hld
      clear hcell hrd
      go_upto_region 11 with fail
      clear cj
      go_wp2_with fail
      refine (CR.out _ RL.out).mono ?_
      rintro e w7 ⟨rfl, b7⟩
      have R7 := RL.out.below b7
      have hz7 := HW.out.trans (b7.mono HW.out.size)
      have PB := Lib.hid (pb_box w7 zp)
      clear CR
      go_upto_region 12 with (refine at_store27 _ _ _ zp (rap ls) PB.out rfl rfl rfl rfl ?_; intro w8 P8 B8')
      have b8 := ((Below.refl _ w7).alloc (Nat.le_refl _) (Px zp)).trans (B8'.out _ (Nat.le_refl _))
      have R8 := Lib.hid (R7.below b8)
      have B8 := Lib.hid (hz7.trans (b8.mono hz7.size))
      clear R7 hz7 PB b7 b8 B8' RL HW HR D6
      generalize w7.heap.size = bq at *
      go_cut [15] from 56 to 76 (fun v wc => v = .bool (fa ls) ∧ w8 = wc)
      case first =>
        by_cases hl : ls.length = 28
        · obtain ⟨q, rfl⟩ := R8.out.some (by omega)
          obtain ⟨T7, hT7⟩ : ∃ T7, stg (ls.take 7) = T7 := ⟨_, rfl⟩
          have R : (convert 28 9 (.slice (some q) 7 d)).run Try.prog w8 = .ok (.string T7) w8 := by
            have := run_stg (R8.out.take 7) d
            rw [List.length_take, hl, hT7] at this
            exact this
          have HB7 : (T7.toList == ([0, 1, 8, 0, 6, 4, 0] : List UInt8)) = decide (ls.take 7 = h7) := by
            rw [← hT7, show ([0, 1, 8, 0, 6, 4, 0] : List UInt8) = (stg h7).toList by rw [ByteArray.toList_eq]; rfl]
            exact stg_eq (R8.out.2.1.take 7) bs_h7
          have c7 := R8.out.at 6 (by omega)
          have F := Lib.hid (show fa ls = decide (ls.take 7 = h7 ∧ (ls.getD 7 0 = 1 ∨ ls.getD 7 0 = 2)) by unfold fa; simp [hl])
          have E : ((ls.length : Int) == 28) = true := by simp; omega
          have hn : 28 ≤ ls.length := by omega
          have hd7 : 7 ≤ d := by omega
          clear hl hT7 R8 P8
          change w8.cell? ⟨q.block, q.off + 7, none⟩ = some (.int .u8 ((ls.getD 7 0 : Nat) : Int)) at c7
          generalize ls.getD 7 0 = z at *
          generalize ls.length = n at *
          by_cases ht : ls.take 7 = h7
          · rw [decide_eq_true ht] at HB7
            by_cases h1 : z = 1
            · have E1 : ((z : Int) == 1) = true := by simp; omega
              have F2 := Lib.hid (show fa ls = true by rw [F.out]; simp [ht, h1])
              clear F h1 ht
              go_wp2_with fail
              go_meet
              exact ⟨by rw [F2.out], rfl⟩
            · have E1 : ((z : Int) == 1) = false := by simp; omega
              have F2 := Lib.hid (show fa ls = ((z : Int) == 2) by rw [F.out, Bool.eq_iff_iff]; simp [ht, h1]; omega)
              clear F h1 ht
              go_wp2_with fail
              go_meet
              exact ⟨by rw [F2.out], rfl⟩
          · rw [decide_eq_false ht] at HB7
            have F2 := Lib.hid (show fa ls = false by rw [F.out]; simp [ht])
            clear F ht
            go_wp2_with fail
            go_meet
            exact ⟨by rw [F2.out], rfl⟩
        · have E : ((ls.length : Int) == 28) = false := by simp; omega
          have F := Lib.hid (show fa ls = false by unfold fa; simp [hl])
          clear hl R8 P8
          generalize ls.length = n at *
          go_wp2_with fail
          go_meet
          exact ⟨by rw [F.out], rfl⟩
      case rest =>
        obtain ⟨rfl, rfl⟩ := hcut
        obtain ⟨f, hf⟩ : ∃ f, fa ls = f := ⟨_, rfl⟩
        rw [hf]
        have HFA := Lib.hid hf
        clear hf
        go_upto_region 13 with fail
        go_cut [83] from 77 to 83 (fun v wc => v = .bool (f && ((ls.getD 7 0 : Nat) : Int) == 2) ∧ w8 = wc)
        case first =>
          cases f
          · clear HFA R8 P8
            generalize ls.length = n at *
            go_wp2_with fail
            go_meet
            exact ⟨by simp, rfl⟩
          · have hfa := HFA.out
            have hl : ls.length = 28 := by unfold fa at hfa; simp at hfa; exact hfa.1
            obtain ⟨q, rfl⟩ := R8.out.some (by omega)
            have c7 : w8.cell? ⟨q.block, q.off + 7, none⟩ = some (.int .u8 ((ls.getD 7 0 : Nat) : Int)) := R8.out.at 6 (by omega)
            have hn : 28 ≤ ls.length := by omega
            clear hfa hl R8 P8
            generalize ls.getD 7 0 = z7 at *
            generalize ls.length = n at *
            go_wp2_with fail
            go_meet
            exact ⟨by simp, rfl⟩
        case rest =>
        obtain ⟨rfl, rfl⟩ := hcut
        go_upto_if 83 with fail
        go_cut [15] from 83 to 97 (fun v wc => v = .bool (decide (rae ls = 0)) ∧ Hid (Below w8.heap.size w8 wc))
        case first =>
          cases f
          · have F := Lib.hid (show decide (rae ls = 0) = false by unfold rae; rw [HFA.out]; rfl)
            clear R8 P8
            rw [Bool.false_and]
            generalize ls.length = n at *
            go_wp2_with fail
            go_meet
            exact ⟨by rw [F.out], Below.refl _ _⟩
          · have hfa := HFA.out
            have hl : ls.length = 28 := by unfold fa at hfa; simp at hfa; exact hfa.1
            obtain ⟨q, rfl⟩ := R8.out.some (by omega)
            have HRAE := Lib.hid (show rae ls = if (((ls.getD 7 0 : Nat) : Int) == 2) = true ∧ (eq6 ((ls.getD 8 0 : Nat) : Int) ((ls.getD 9 0 : Nat) : Int) ((ls.getD 10 0 : Nat) : Int) ((ls.getD 11 0 : Nat) : Int) ((ls.getD 12 0 : Nat) : Int) ((ls.getD 13 0 : Nat) : Int) 0 0 0 0 0 0 || (((ls.getD 8 0 : Nat) : Int) % 2 == 1)) = true then 1 else 0 by unfold rae; rw [if_pos hfa]; rfl)
            have c7 : w8.cell? ⟨q.block, q.off + 7, none⟩ = some (.int .u8 ((ls.getD 7 0 : Nat) : Int)) := R8.out.at 6 (by omega)
            have c8 : w8.cell? ⟨q.block, q.off + 8, none⟩ = some (.int .u8 ((ls.getD 8 0 : Nat) : Int)) := R8.out.at 7 (by omega)
            have c9 : w8.cell? ⟨q.block, q.off + 9, none⟩ = some (.int .u8 ((ls.getD 9 0 : Nat) : Int)) := R8.out.at 8 (by omega)
            have c10 : w8.cell? ⟨q.block, q.off + 10, none⟩ = some (.int .u8 ((ls.getD 10 0 : Nat) : Int)) := R8.out.at 9 (by omega)
            have c11 : w8.cell? ⟨q.block, q.off + 11, none⟩ = some (.int .u8 ((ls.getD 11 0 : Nat) : Int)) := R8.out.at 10 (by omega)
            have c12 : w8.cell? ⟨q.block, q.off + 12, none⟩ = some (.int .u8 ((ls.getD 12 0 : Nat) : Int)) := R8.out.at 11 (by omega)
            have c13 : w8.cell? ⟨q.block, q.off + 13, none⟩ = some (.int .u8 ((ls.getD 13 0 : Nat) : Int)) := R8.out.at 12 (by omega)
            have c9b : w8.cell? ⟨q.block, q.off + 8 + 1, none⟩ = some (.int .u8 ((ls.getD 9 0 : Nat) : Int)) := c9
            have c10b : w8.cell? ⟨q.block, q.off + 8 + 2, none⟩ = some (.int .u8 ((ls.getD 10 0 : Nat) : Int)) := c10
            have c11b : w8.cell? ⟨q.block, q.off + 8 + 3, none⟩ = some (.int .u8 ((ls.getD 11 0 : Nat) : Int)) := c11
            have c12b : w8.cell? ⟨q.block, q.off + 8 + 4, none⟩ = some (.int .u8 ((ls.getD 12 0 : Nat) : Int)) := c12
            have c13b : w8.cell? ⟨q.block, q.off + 8 + 5, none⟩ = some (.int .u8 ((ls.getD 13 0 : Nat) : Int)) := c13
            have AR : ∀ W, (Instr.arrayAt 25 (.slice (some ⟨q.block, q.off + 8, none⟩) 6 (d - 8))).run Try.prog W = .ok (.pointer (some ⟨q.block, q.off + 8, none⟩)) W := fun W => by simp [Instr.arrayAt, run_underlying Try.underlying25]
            have u8 := R8.out.2.1 8
            have hn : 28 ≤ ls.length := by omega
            have hd : 28 ≤ d := by omega
            have hz8 : ¬ d = 8 := by omega
            clear hfa hl R8 P8
            generalize ls.getD 7 0 = z7 at *
            generalize ls.getD 8 0 = z0 at *
            generalize ls.getD 9 0 = z1 at *
            generalize ls.getD 10 0 = z2 at *
            generalize ls.getD 11 0 = z3 at *
            generalize ls.getD 12 0 = z4 at *
            generalize ls.getD 13 0 = z5 at *
            generalize ls.length = n at *
            by_cases hz : z7 = 2
            · have E1 : ((z7 : Int) == 2) = true := by simp; omega
              rw [Bool.true_and]
              rw [E1] at HRAE
              obtain ⟨e1, he1⟩ : ∃ e1, eq6 (z0 : Int) z1 z2 z3 z4 z5 0 0 0 0 0 0 = e1 := ⟨_, rfl⟩
              obtain ⟨e2, he2⟩ : ∃ e2, ((z0 : Int) % 2 == 1) = e2 := ⟨_, rfl⟩
              have HN := Lib.hid (none_any (z0 : Int) z1 z2 z3 z4 z5 w8)
              rw [he1] at HN HRAE
              rw [he2] at HRAE
              have HE2 := Lib.hid he2
              clear he1 he2 hz
              go_wp2_with fail
              refine HN.out.mono ?_
              rintro e w9 ⟨rfl, hb⟩
              have B9 := Lib.hid hb
              cases e1
              · have HG := Lib.hid (group_any (z0 : Int) z1 z2 z3 z4 z5 w9 (by omega) (by omega))
                rw [HE2.out] at HG
                have k8 := (hb.cell (World.block_lt_of_cell? _ _ c8)).trans c8
                have k9 := (hb.cell (World.block_lt_of_cell? _ _ c9)).trans c9
                have k10 := (hb.cell (World.block_lt_of_cell? _ _ c10)).trans c10
                have k11 := (hb.cell (World.block_lt_of_cell? _ _ c11)).trans c11
                have k12 := (hb.cell (World.block_lt_of_cell? _ _ c12)).trans c12
                have k13 := (hb.cell (World.block_lt_of_cell? _ _ c13)).trans c13
                have k9b : w9.cell? ⟨q.block, q.off + 8 + 1, none⟩ = some (.int .u8 (z1 : Int)) := k9
                have k10b : w9.cell? ⟨q.block, q.off + 8 + 2, none⟩ = some (.int .u8 (z2 : Int)) := k10
                have k11b : w9.cell? ⟨q.block, q.off + 8 + 3, none⟩ = some (.int .u8 (z3 : Int)) := k11
                have k12b : w9.cell? ⟨q.block, q.off + 8 + 4, none⟩ = some (.int .u8 (z4 : Int)) := k12
                have k13b : w9.cell? ⟨q.block, q.off + 8 + 5, none⟩ = some (.int .u8 (z5 : Int)) := k13
                clear hb c7 c8 c9 c10 c11 c12 c13 c9b c10b c11b c12b c13b HN
                go_wp2_with fail
                refine HG.out.mono ?_
                rintro e w10 ⟨rfl, hb⟩
                have B10 := Lib.hid (B9.out.trans (hb.mono B9.out.size))
                clear hb k8 k9 k10 k11 k12 k13 HG B9
                cases e2
                · go_wp2_with fail
                  go_meet
                  exact ⟨by rw [HRAE.out]; rfl, B10.out⟩
                · go_wp2_with fail
                  go_meet
                  exact ⟨by rw [HRAE.out]; rfl, B10.out⟩
              · clear hb c7 c8 c9 c10 c11 c12 c13 HN
                go_wp2_with fail
                go_meet
                exact ⟨by rw [HRAE.out]; simp, B9.out⟩
            · have E1 : ((z7 : Int) == 2) = false := by simp; omega
              rw [Bool.true_and]
              rw [E1] at HRAE
              clear hz
              go_wp2_with fail
              go_meet
              exact ⟨by rw [HRAE.out]; simp, Below.refl _ _⟩
        case rest =>
          obtain ⟨rfl, hb9⟩ := hcut
          have P9 := Lib.hid (P8.out.keep hb9.out P8.out.lt)
          have R9 := Lib.hid (R8.out.below hb9.out)
          have B9 := Lib.hid (B8.out.trans (hb9.out.mono B8.out.size))
          clear hb9 P8 R8 B8
          by_cases hr : rae ls = 0
          · have hfa : fa ls = true := by
              cases h : fa ls
              · unfold rae at hr
                rw [h] at hr
                simp at hr
              · rfl
            have hq : rap ls = apk ls := by unfold rap; rw [if_pos hr]
            rw [hq] at P9
            rw [hr, decide_eq_true rfl]
            have HF2 := Lib.hid hfa
            have hl : ls.length = 28 := by unfold fa at hfa; simp at hfa; exact hfa.1
            obtain ⟨q, rfl⟩ := R9.out.some (by omega)
            have hb := R9.out.2.1
            have hok : (apk ls).Ok := by
              refine ⟨?_, ?_, hb 8, hb 9, hb 10, hb 11, hb 12, hb 13⟩
              · show 65536 * (256 * ls.getD 14 0 + ls.getD 15 0) + (256 * ls.getD 16 0 + ls.getD 17 0) < 4294967296
                have := hb 14; have := hb 15; have := hb 16; have := hb 17; omega
              · show 65536 * (256 * ls.getD 24 0 + ls.getD 25 0) + (256 * ls.getD 26 0 + ls.getD 27 0) < 4294967296
                have := hb 24; have := hb 25; have := hb 26; have := hb 27; omega
            obtain ⟨T2, hT2⟩ : ∃ T2, stg (arb (apk ls)) = T2 := ⟨_, rfl⟩
            obtain ⟨U1, hU1⟩ : ∃ U1, stg (ls.take 18) = U1 := ⟨_, rfl⟩
            obtain ⟨U2, hU2⟩ : ∃ U2, stg (ls.drop 24) = U2 := ⟨_, rfl⟩
            have CQ := Lib.hid fun dd os => Calls.regrown_of (w := wc) (d := dd) (os := os) (hT2 ▸ arpText_any (apk ls) (Sort.grow (redrawn wc dd) os) hok)
            have K1 : ∀ dd os, (convert 28 9 (.slice (some q) 18 d)).run Try.prog (Sort.grow (redrawn wc dd) os) = .ok (.string U1) (Sort.grow (redrawn wc dd) os) := fun dd os => by
              have := run_stg ((R9.out.take 18).below (below_regrown wc dd os)) d
              rw [hU1, List.length_take, hl] at this
              exact this
            have K2 : ∀ dd os, (convert 28 9 (.slice (some ⟨q.block, q.off + 24, none⟩) 4 (d - 24))).run Try.prog (Sort.grow (redrawn wc dd) os) = .ok (.string U2) (Sort.grow (redrawn wc dd) os) := fun dd os => by
              have := run_stg ((rd_off R9.out 24 (by omega)).below (below_regrown wc dd os)) (d - 24)
              rw [hU2, List.length_drop, hl] at this
              exact this
            have HL := Lib.hid fun W (h : ∃ q : Regrown, W = Sort.grow (redrawn wc q.d) q.os) => show Pm W bq (apk ls) by
              obtain ⟨q, rfl⟩ := h
              exact (P9.out.keep (below_grow q) P9.out.lt).1
            have m9 : ∀ dd os, (Sort.grow (redrawn wc dd) os).cell? ⟨bq, 9, none⟩ = some (.int .i64 0) := fun dd os => cell_regrown P9.out.1.c9 dd os
            have m10 : ∀ dd os, (Sort.grow (redrawn wc dd) os).cell? ⟨bq, 10, none⟩ = some (.int .i64 0) := fun dd os => cell_regrown P9.out.1.c10 dd os
            have hzs : T2.size = 28 := by rw [← hT2]; rfl
            obtain ⟨ap1, ap2⟩ := arb_parts hfa hb
            have hx1 : T2.extract 0 18 = U1 := by rw [← hT2, ← hU1, stg_extract, List.drop_zero, ap1]
            have hx2 : T2.extract 24 28 = U2 := by rw [← hT2, ← hU2, stg_extract, List.take_of_length_le (by rw [arb_length]; omega), ap2]
            have hn : 28 ≤ ls.length := by omega
            have hn2 : ls.length - 24 = 4 := by omega
            have hd28 : 28 ≤ d := by omega
            have hz24 : ¬ d = 24 := by omega
            clear hr hfa hq HFA hl hb hok hT2 hU1 hU2 R9 P9 HF2 ap1 ap2
            go_upto_region 17 with fail
            refine wp_region_quiet_below (by kernel_rfl) (by kernel_rfl) ?_
            (try simp only [Act.put])
            repeat (first
              | (refine quiet_load27 (.tmp 13) bq (apk ls) HL.out ?_ ?_ ?_ ?_; rotate_left; (with_reducible rfl); rfl; rotate_left; kernel_rfl; simp only [Act.put, List.setIfInBounds_toArray, List.set_cons_zero, List.set_cons_succ])
              | go_big_quiet_step ((go_at_call 11; with_reducible exact CQ.out _ _)))
            refine wpQuiet_nil ?_
            rintro w8 ⟨q8, rfl⟩
            go_wp2_with fail
            go_roundg (gk - 1)
            case measure => omega
            case rel => exact ⟨j + 1, by omega, by go_num, B9.out.trans ((below_grow q8).mono B9.out.size)⟩
          · have hr1 : rae ls = 1 := by
              unfold rae at hr ⊢
              split
              · rename_i h
                rw [if_pos h] at hr
                split
                · rfl
                · rename_i h2
                  rw [if_neg h2] at hr
                  exact absurd rfl hr
              · rfl
            have hq : rap ls = zp := by unfold rap; rw [if_neg hr]
            rw [hq] at P9
            rw [hr1, decide_eq_false (by decide)]
            clear hr hr1 hq HFA R9
            generalize ls.length = n at *
            go_upto_region 17 with (first
              | (refine at_load27g (.tmp 13) bq zp P9.out.1 ?_ ?_ ?_ ?_; rotate_left; (with_reducible rfl); rfl; rotate_left; kernel_rfl; simp only [Act.put, List.setIfInBounds_toArray, List.set_cons_zero, List.set_cons_succ])
              | (refine at_neq27g (.tmp 109) (.tmp 110) zp zp ?_ ?_ ?_ ?_ ?_; rotate_left; (with_reducible rfl); rfl; rfl; rotate_left; kernel_rfl; rw [eqp_refl, Bool.not_true]; simp only [Act.put, List.setIfInBounds_toArray, List.set_cons_zero, List.set_cons_succ]))
            refine wp_region_quiet_below (by kernel_rfl) (by kernel_rfl) ?_
            (try simp only [Act.put])
            repeat go_big_quiet_step (fail)
            refine wpQuiet_nil ?_
            rintro w8 ⟨q8, rfl⟩
            go_wp2_with fail
            go_roundg (gk - 1)
            case measure => omega
            case rel => exact ⟨j + 1, by omega, by go_num, B9.out.trans ((below_grow q8).mono B9.out.size)⟩
    · obtain rfl : j = 4 := by omega
      have D7 := Lib.hid (D6.out.trans (HW.out.mono D6.out.size))
      go_wp2_with fail
      go_ret
      exact ⟨rfl, D7.out⟩
end Go.Proofs.Ytgdbkjiifliobaa
