/-
  WireAny's walk: for every row of bytes, every packet, and two numbers, it returns true, and nothing that was in memory is touched. Conditions: the numbers have their bits, the row has at most 2^47 - 4096 bytes, and not more than its room.
-/
import Derived.Test.YtgdbkjiifliobaaCutWalk
set_option linter.unusedSimpArgs false
namespace Go.Proofs.Ytgdbkjiifliobaa
open Go.RowKit

theorem Rd.put {w : World} {g : Nat} {zs : List Nat} (h : Rd w (.some ⟨g, 0, none⟩) zs) {k v : Nat} (hk : k < zs.length) (hv : v < 256) : Rd (w.setCell ⟨g, k, none⟩ (.int .u8 (v : Int))) (.some ⟨g, 0, none⟩) (zs.set k v) := by
  refine ⟨by rw [List.length_set]; exact h.1, h.2.1.set hk hv, fun i hi => ⟨_, rfl, ?_⟩⟩
  rw [List.length_set] at hi
  obtain ⟨y, hy, hc⟩ := h.2.2 i hi
  injection hy with hy
  subst hy
  rw [Addr.add_mid, Nat.zero_add] at hc ⊢
  rw [getD_set hk]
  by_cases e : i = k
  · subst e
    rw [if_pos rfl]
    exact World.cell?_setCell_same' _ _ _ (by rw [hc]; rfl)
  · rw [if_neg e, World.cell?_setCell_other _ _ _ _ (fun q => e (by injection q with _ q; exact q.symm))]
    exact hc
theorem ecb_bs (p : Pk) (hp : p.Ok) : Bs (ecb p) := by
  have := hp.f
  have := hp.t
  have := lo_lt p.i
  have := lo_lt p.s
  intro i
  unfold ecb hdp bdp
  match i with
  | 20 => simp; split <;> omega
  | 0 | 1 | 2 | 3 | 4 | 5 | 6 | 7 | 8 | 9 | 10 | 11 | 12 | 13 | 14 | 15 | 16 | 17 | 18 | 19 | 21 | 22 | 23 | 24 | 25 | 26 | 27 | 28 | 29 | 30 | 31 => simp; try omega
  | i + 32 => simp
theorem quiet_neq27 {ops : Array Oper} {rest : List Oper} {o : Oper} {a : Act} {C : World → Prop} {Q : Act → Prop} (x y : Operand) (p q : Pk) (hw : Region.wanted o (yielded ops a.tmps) = true) (ho : o.op = .binOp .neq 27 x y 27) (hx : a.eval x = pv p) (hy : a.eval y = pv q) (h : wpQuiet Try.prog ops C Q rest (a.put o.dst (.bool (!eqp p q)))) : wpQuiet Try.prog ops C Q (o :: rest) a :=
  BigFrame.wpQuiet_want hw fun K hK => ⟨.bool (!eqp p q), fun W hC => by
    unfold Oper.quietAt execOp
    simp only [ho, hx, hy, Sem.run_bind, Sem.run_pure, Result.andThen_ok, guard27, run_neq27]
    exact ⟨rfl, rfl⟩, hK _ h⟩
theorem take_drop_list (ls : List Nat) (k n : Nat) (h : k + n ≤ ls.length) : (ls.drop k).take n = (List.range n).map fun i => ls.getD (k + i) 0 := by
  apply List.ext_getElem?
  intro i
  rw [List.getElem?_take, List.getElem?_map]
  by_cases hi : i < n
  · rw [if_pos hi, List.getElem?_drop, List.getElem?_range hi, List.getElem?_eq_getElem (by omega), Option.map_some, List.getD_eq_getElem?_getD, List.getElem?_eq_getElem (by omega)]
    rfl
  · rw [if_neg hi, List.getElem?_eq_none (by simpa using hi)]
    rfl
theorem ip4_of {a b c d : Nat} (_ha : a < 256) (hb : b < 256) (hc : c < 256) (hd : d < 256) : ip4 (65536 * (256 * a + b) + (256 * c + d)) = [a, b, c, d] := by
  unfold ip4
  rw [show (65536 * (256 * a + b) + (256 * c + d)) / 65536 / 256 = a by omega, show (65536 * (256 * a + b) + (256 * c + d)) / 65536 % 256 = b by omega, show (65536 * (256 * a + b) + (256 * c + d)) % 65536 / 256 = c by omega, show (65536 * (256 * a + b) + (256 * c + d)) % 65536 % 256 = d by omega]
theorem tw_of {a b : Nat} (ha : a < 256) (hb : b < 256) : tw ((256 * a + b : Nat) : Int) = [a, b] := by
  unfold tw
  rw [lo_nat (by omega), show (256 * a + b) / 256 = a by omega, show (256 * a + b) % 256 = b by omega]
/-- The j-th of three rows that a law looks at. -/
def Row (w : World) (g j : Nat) : Prop := ∃ A ls c, w.cell? ⟨g, j, none⟩ = some (.slice A (ls : List Nat).length c) ∧ Rd w A ls ∧ ls.length ≤ c

set_option maxRecDepth 100000 in
set_option maxHeartbeats 2000000 in
theorem wireAny_walk (A : Option Addr) (zs : List Nat) (c : Nat) (p : Pk) (x y : Int) (w : World) (h : Rd w A zs) (_hm : zs.length ≤ 140737488351232) (hc : zs.length ≤ c) (hp : p.Ok) (hx : 0 ≤ x ∧ x < 256) (hy : 0 ≤ y ∧ y < 256) :
    Calls Try.prog 5 #[.slice A zs.length c, pv p, .int .u8 x, .int .u8 y] w fun e w' => e = .returned (.bool true) ∧ Below w.heap.size w w' := by
  obtain ⟨x, rfl⟩ := Int.eq_ofNat_of_zero_le hx.1
  obtain ⟨y, rfl⟩ := Int.eq_ofNat_of_zero_le hy.1
  have hx := hx.2
  have hy := hy.2
  obtain ⟨T, hT⟩ : ∃ T, stg (ecb p) = T := ⟨_, rfl⟩
  have CW := Lib.hid fun W => awake_any W
  have CE := Lib.hid fun W => hT ▸ echoText_any p W hp
  have HT := Lib.hid hT
  have P0 := Lib.hid (pb_box w p)
  have D0 := Lib.hid ((Below.refl w.heap.size w).alloc (Nat.le_refl _) (Px p))
  have RZ := Lib.hid fun W (hW : Below w.heap.size w W) => h.below hW
  have HB : Hid (Bs (ecb p)) := ecb_bs p hp
  clear hp h hT
  unfold pv
  go_enter Try.func5, Try.ntmps5
  go_wp2_with fail
  refine (CW.out _).mono ?_
  rintro e w1 ⟨rfl, b1⟩
  have P1 := Lib.hid (P0.out.keep b1 P0.out.lt)
  have D1 := Lib.hid (D0.out.trans (b1.mono D0.out.size))
  clear b1 P0 D0
  go_wp2_with (refine at_load27 _ _ p P1.out.1 rfl rfl rfl ?_)
  refine (CE.out _).mono ?_
  rintro e w2 ⟨rfl, b2⟩
  have D2 := Lib.hid (D1.out.trans (b2.mono D1.out.size))
  clear b2 P1 D1
  go_upto_region 4 with (refine at_bytes _ (ecb p) T HT rfl rfl rfl HB.out (by rw [ecb_length]; omega) ?_; intro cap w3 b3 R3 c3; rw [ecb_length])
  have D3 := Lib.hid (D2.out.trans (b3.out.mono D2.out.size))
  have hz2 := D2.out.size
  clear b3 D2
  obtain ⟨hcap, hfz⟩ := c3.out
  rw [ecb_length] at hcap
  have hk1 : x % 32 < 32 := by omega
  have hf := hfz (x % 32) (by rw [ecb_length]; exact hk1)
  have hcc : w3.cell? ⟨w2.heap.size, x % 32, none⟩ = some (.int .u8 (((ecb p).getD (x % 32) 0 : Nat) : Int)) := by
    obtain ⟨q, hq, hqc⟩ := R3.out.2.2 (x % 32) (by rw [ecb_length]; exact hk1)
    injection hq with hq
    subst hq
    rwa [Addr.add_mid, Nat.zero_add] at hqc
  clear hfz c3
  have R4 := Lib.hid (R3.out.put (k := x % 32) (v := y) (by rw [ecb_length]; exact hk1) (by omega))
  have D4 := Lib.hid (D3.out.setCell (p := ⟨w2.heap.size, x % 32, none⟩) hz2 (.int .u8 (y : Int)))
  have hy2 : y < 256 := by omega
  go_upto_region 5 with fail
  clear hcc hf R3 D3
  generalize w3.setCell ⟨w2.heap.size, x % 32, none⟩ (.int .u8 (y : Int)) = w4 at *
  generalize w2.heap.size = g at *
  have RZ4 := RZ.out _ D4.out
  have bb := (Below.refl _ w4).alloc (Nat.le_refl _) (.cells #[.slice A zs.length c, .slice (some ⟨g, 0, none⟩) 32 cap, .slice (some ⟨g, 0, none⟩) (x % 32) cap] 28)
  have hl : ((ecb p).set (x % 32) y).length = 32 := by rw [List.length_set, ecb_length]
  have hh : (w4.alloc (.cells #[.slice A zs.length c, .slice (some ⟨g, 0, none⟩) 32 cap, .slice (some ⟨g, 0, none⟩) (x % 32) cap] 28)).heap[w4.heap.size]? = some _ := heap_alloc_new w4 _
  have HR : Hid (∀ j, j < 3 → Row (w4.alloc (.cells #[.slice A zs.length c, .slice (some ⟨g, 0, none⟩) 32 cap, .slice (some ⟨g, 0, none⟩) (x % 32) cap] 28)) w4.heap.size j) := by
    intro j hj
    match j, hj with
    | 0, _ => exact ⟨A, zs, c, (cell_of_row _ _ _ _ _ _ hh).trans rfl, RZ4.below bb, hc⟩
    | 1, _ => exact ⟨_, (ecb p).set (x % 32) y, cap, (cell_of_row _ _ _ _ _ _ hh).trans (by rw [hl]; rfl), R4.out.below bb, by rw [hl]; exact hcap⟩
    | 2, _ => exact ⟨_, ((ecb p).set (x % 32) y).take (x % 32), cap, (cell_of_row _ _ _ _ _ _ hh).trans (by rw [List.length_take, hl, Nat.min_eq_left (by omega)]; rfl), (R4.out.take (x % 32)).below bb, by rw [List.length_take, hl]; omega⟩
  have D5 := Lib.hid (D4.out.trans (bb.mono D4.out.size))
  clear bb hl hh RZ4 R4 D4 RZ
  go_wp2_with fail
  generalize w4.alloc (.cells #[.slice A zs.length c, .slice (some ⟨g, 0, none⟩) 32 cap, .slice (some ⟨g, 0, none⟩) (x % 32) cap] 28) = w5 at *
  generalize w4.heap.size = g3 at *
  go_loopg [39] 3 (fun m i wr => ∃ j : Nat, j + m = 3 ∧ i = .int .i64 j ∧ Hid (Below w5.heap.size w5 wr))
  case atStart => exact ⟨0, rfl, rfl, Below.refl _ _⟩
  case round =>
    obtain ⟨j, hj, rfl, HW⟩ := hrel
    by_cases hlt : j < 3
    · obtain ⟨B, ls, d, hcell, hrd, hld⟩ := HR.out j hlt
      have cj := (HW.out.cell (World.block_lt_of_cell? _ _ hcell)).trans hcell
      have RL := Lib.hid (hrd.below HW.out)
      have DR := Lib.hid (D5.out.trans (HW.out.mono D5.out.size))
      clear hcell hrd
      have CR := Lib.hid fun W (h : Rd W B ls) => readEcho_any B ls d W h hld
      go_upto_region 8 with fail
      clear cj
      go_wp2_with fail
      refine (CR.out _ RL.out).mono ?_
      rintro e w6 ⟨rfl, b6⟩
      have R6 := RL.out.below b6
      have hz6 := HW.out.trans (b6.mono HW.out.size)
      have PB := Lib.hid (pb_box w6 zp)
      clear CR
      go_upto_region 9 with (refine at_store27 _ _ _ zp (rpk ls) PB.out rfl rfl rfl rfl ?_; intro w7 P7 B7')
      have b7 := ((Below.refl _ w6).alloc (Nat.le_refl _) (Px zp)).trans (B7'.out _ (Nat.le_refl _))
      have R7 := Lib.hid (R6.below b7)
      have B7 := Lib.hid (hz6.trans (b7.mono hz6.size))
      clear R6 hz6 PB b6 b7 B7' RL HW DR HR D5
      go_upto_region 10 with fail
      go_cut [92] from 48 to 92 (fun v wc => v = .bool (!fe ls) ∧ w7 = wc)
      case first =>
        by_cases hl : ls.length = 32
        · have HF := Lib.hid (show fe ls = decide (ls.getD 0 0 = 69 ∧ 256 * ls.getD 2 0 + ls.getD 3 0 = 32 ∧ ls.getD 9 0 = 1 ∧ (ls.getD 20 0 = 8 ∨ ls.getD 20 0 = 0) ∧ ls.getD 21 0 = 0) by unfold fe; simp [hl])
          obtain ⟨q, rfl⟩ := R7.out.some (by omega)
          have c0 := R7.out.at0 (by omega)
          have c2 : w7.cell? ⟨q.block, q.off + 2, none⟩ = _ := R7.out.at 1 (by omega)
          have c3 : w7.cell? ⟨q.block, q.off + 3, none⟩ = _ := R7.out.at 2 (by omega)
          have c9 : w7.cell? ⟨q.block, q.off + 9, none⟩ = _ := R7.out.at 8 (by omega)
          have c20 : w7.cell? ⟨q.block, q.off + 20, none⟩ = _ := R7.out.at 19 (by omega)
          have c21 : w7.cell? ⟨q.block, q.off + 21, none⟩ = _ := R7.out.at 20 (by omega)
          have b2 := R7.out.2.1 2
          have b3 := R7.out.2.1 3
          simp only [Nat.reduceAdd] at c2 c3 c9 c20 c21
          have E : ((ls.length : Int) != 32) = false := by simp; omega
          have hn : 32 ≤ ls.length := by omega
          clear hl R7 P7
          generalize ls.length = n at *
          generalize ls.getD 0 0 = z0 at *
          generalize ls.getD 2 0 = z2 at *
          generalize ls.getD 3 0 = z3 at *
          generalize ls.getD 9 0 = z9 at *
          generalize ls.getD 20 0 = z20 at *
          generalize ls.getD 21 0 = z21 at *
          by_cases e0 : z0 = 69
          · have E0 : ((z0 : Int) != 69) = false := by simp; omega
            by_cases e1 : z2 = 0
            · have E1 : ((z2 : Int) != 0) = false := by simp; omega
              by_cases e2 : z3 = 32
              · have E2 : ((z3 : Int) != 32) = false := by simp; omega
                by_cases e3 : z9 = 1
                · have E3 : ((z9 : Int) != 1) = false := by simp; omega
                  by_cases e8 : z20 = 0
                  · have E8 : ((z20 : Int) != 0) = false := by simp; omega
                    have F := Lib.hid (show (!fe ls) = ((z21 : Int) != 0) by rw [HF.out, Bool.eq_iff_iff]; simp; omega)
                    clear  e0 e1 e2 e3 e8 HF
                    go_wp2_with fail
                    go_meet
                    exact ⟨by rw [F.out], rfl⟩
                  · have E8 : ((z20 : Int) != 0) = true := by simp; omega
                    by_cases e9 : z20 = 8
                    · have E9 : ((z20 : Int) != 8) = false := by simp; omega
                      have F := Lib.hid (show (!fe ls) = ((z21 : Int) != 0) by rw [HF.out, Bool.eq_iff_iff]; simp; omega)
                      clear  e0 e1 e2 e3 e8 e9 HF
                      go_wp2_with fail
                      go_meet
                      exact ⟨by rw [F.out], rfl⟩
                    · have E9 : ((z20 : Int) != 8) = true := by simp; omega
                      have F := Lib.hid (show (!fe ls) = true by rw [HF.out, Bool.eq_iff_iff]; simp; omega)
                      clear  e0 e1 e2 e3 e8 e9 HF
                      go_wp2_with fail
                      go_meet
                      exact ⟨by rw [F.out], rfl⟩
                · have E3 : ((z9 : Int) != 1) = true := by simp; omega
                  have F := Lib.hid (show (!fe ls) = true by rw [HF.out, Bool.eq_iff_iff]; simp; omega)
                  clear  e0 e1 e2 e3 HF
                  go_wp2_with fail
                  go_meet
                  exact ⟨by rw [F.out], rfl⟩
              · have E2 : ((z3 : Int) != 32) = true := by simp; omega
                have F := Lib.hid (show (!fe ls) = true by rw [HF.out, Bool.eq_iff_iff]; simp; omega)
                clear  e0 e1 e2 HF
                go_wp2_with fail
                go_meet
                exact ⟨by rw [F.out], rfl⟩
            · have E1 : ((z2 : Int) != 0) = true := by simp; omega
              have F := Lib.hid (show (!fe ls) = true by rw [HF.out, Bool.eq_iff_iff]; simp; omega)
              clear  e0 e1 HF
              go_wp2_with fail
              go_meet
              exact ⟨by rw [F.out], rfl⟩
          · have E0 : ((z0 : Int) != 69) = true := by simp; omega
            have F := Lib.hid (show (!fe ls) = true by rw [HF.out, Bool.eq_iff_iff]; simp; omega)
            clear  e0 HF
            go_wp2_with fail
            go_meet
            exact ⟨by rw [F.out], rfl⟩
        · have E : ((ls.length : Int) != 32) = true := by simp; omega
          have F := Lib.hid (show (!fe ls) = true by unfold fe; simp [hl])
          clear hl R7 P7
          generalize ls.length = n at *
          go_wp2_with fail
          go_meet
          exact ⟨by rw [F.out], rfl⟩
      case rest =>
        obtain ⟨rfl, rfl⟩ := hcut
        by_cases hfe : fe ls = true
        · rw [hfe, Bool.not_true]
          have hl : ls.length = 32 := by unfold fe at hfe; simp at hfe; exact hfe.1
          obtain ⟨q, rfl⟩ := R7.out.some (by omega)
          have hn : 20 ≤ ls.length := by omega
          have hd : 32 ≤ d := by omega
          have hz20 : ¬ d = 20 := by omega
          have W1 := words_any (some q) (ls.take 20) d w7 (R7.out.take 20)
          have W2 := words_any _ (ls.drop 20) (d - 20) w7 (rd_off R7.out 20 (by omega))
          rw [List.length_take, Nat.min_eq_left hn] at W1
          rw [List.length_drop] at W2
          have l1 := wd_le (ls.take 20)
          have l2 := wd_le (ls.drop 20)
          have HW1 := Lib.hid W1
          have HW2 := Lib.hid W2
          have HL32 := Lib.hid hl
          have HFE := Lib.hid hfe
          clear W1 W2 hl hfe
          go_upto_region 12 with fail
          go_cut [102] from 93 to 102 (fun v wc => v = .bool (!decide (wd (ls.take 20) = 65535 ∧ wd (ls.drop 20) = 65535)) ∧ w7 = wc)
          case first =>
            by_cases s1 : wd (ls.take 20) = 65535
            · by_cases s2 : wd (ls.drop 20) = 65535
              · have F := Lib.hid (show (!decide (wd (ls.take 20) = 65535 ∧ wd (ls.drop 20) = 65535)) = false by simp [s1, s2])
                rw [s1] at HW1
                rw [s2] at HW2
                clear s1 s2 l1 l2 R7 P7
                generalize ls.length = n at *
                go_wp2_with fail
                refine HW1.out.mono ?_
                rintro e wx ⟨rfl, rfl⟩
                go_wp2_with fail
                refine HW2.out.mono ?_
                rintro e wx ⟨rfl, rfl⟩
                go_wp2_with fail
                go_meet
                exact ⟨by rw [F.out], rfl⟩
              · have F := Lib.hid (show (!decide (wd (ls.take 20) = 65535 ∧ wd (ls.drop 20) = 65535)) = true by simp [s2])
                rw [s1] at HW1
                obtain ⟨v, hv⟩ : ∃ v, v = 65535 - wd (ls.drop 20) := ⟨_, rfl⟩
                rw [← hv] at HW2
                have EV : ((v : Int) != 0) = true := by simp; omega
                clear s1 s2 l1 l2 hv R7 P7
                generalize ls.length = n at *
                go_wp2_with fail
                refine HW1.out.mono ?_
                rintro e wx ⟨rfl, rfl⟩
                go_wp2_with fail
                refine HW2.out.mono ?_
                rintro e wx ⟨rfl, rfl⟩
                go_wp2_with fail
                go_meet
                exact ⟨by rw [F.out], rfl⟩
            · have F := Lib.hid (show (!decide (wd (ls.take 20) = 65535 ∧ wd (ls.drop 20) = 65535)) = true by simp [s1])
              obtain ⟨v, hv⟩ : ∃ v, v = 65535 - wd (ls.take 20) := ⟨_, rfl⟩
              rw [← hv] at HW1
              have EV : ((v : Int) != 0) = true := by simp; omega
              clear s1 l1 l2 hv R7 P7
              generalize ls.length = n at *
              go_wp2_with fail
              refine HW1.out.mono ?_
              rintro e wx ⟨rfl, rfl⟩
              go_wp2_with fail
              go_meet
              exact ⟨by rw [F.out], rfl⟩
          case rest =>
            obtain ⟨rfl, rfl⟩ := hcut
            clear HW1 HW2 l1 l2
            by_cases hs : wd (ls.take 20) = 65535 ∧ wd (ls.drop 20) = 65535
            · have hr : red ls = 0 := by unfold red; rw [if_pos HFE.out, if_pos hs]
              have hq : rpk ls = epk ls := by unfold rpk; rw [hr]; rfl
              rw [hq] at P7
              rw [hr, decide_eq_true hs, Bool.not_true]
              have hl := HL32.out
              have hb := R7.out.2.1
              have EQ : epk ls = (⟨((ls.getD 20 0 : Nat) : Int) == 0, 65536 * (256 * ls.getD 12 0 + ls.getD 13 0) + (256 * ls.getD 14 0 + ls.getD 15 0), 65536 * (256 * ls.getD 16 0 + ls.getD 17 0) + (256 * ls.getD 18 0 + ls.getD 19 0), 0, 0, 0, 0, 0, 0,
                  ((256 * ls.getD 24 0 + ls.getD 25 0 : Nat) : Int), ((256 * ls.getD 26 0 + ls.getD 27 0 : Nat) : Int)⟩ : Pk) := by unfold epk; congr 1; rw [Bool.eq_iff_iff]; simp
              rw [EQ] at P7
              obtain ⟨F, hF⟩ : ∃ F, F = 65536 * (256 * ls.getD 12 0 + ls.getD 13 0) + (256 * ls.getD 14 0 + ls.getD 15 0) := ⟨_, rfl⟩
              obtain ⟨G, hG⟩ : ∃ G, G = 65536 * (256 * ls.getD 16 0 + ls.getD 17 0) + (256 * ls.getD 18 0 + ls.getD 19 0) := ⟨_, rfl⟩
              obtain ⟨I, hI⟩ : ∃ I, I = 256 * ls.getD 24 0 + ls.getD 25 0 := ⟨_, rfl⟩
              obtain ⟨S, hS⟩ : ∃ S, S = 256 * ls.getD 26 0 + ls.getD 27 0 := ⟨_, rfl⟩
              have u12 := hb 12
              have u13 := hb 13
              have u14 := hb 14
              have u15 := hb 15
              have u16 := hb 16
              have u17 := hb 17
              have u18 := hb 18
              have u19 := hb 19
              have u24 := hb 24
              have u25 := hb 25
              have u26 := hb 26
              have u27 := hb 27
              have tF : ip4 F = [ls.getD 12 0, ls.getD 13 0, ls.getD 14 0, ls.getD 15 0] := by rw [hF]; exact ip4_of u12 u13 u14 u15
              have tG : ip4 G = [ls.getD 16 0, ls.getD 17 0, ls.getD 18 0, ls.getD 19 0] := by rw [hG]; exact ip4_of u16 u17 u18 u19
              have tI : tw (I : Int) = [ls.getD 24 0, ls.getD 25 0] := by rw [hI]; exact tw_of u24 u25
              have tS : tw (S : Int) = [ls.getD 26 0, ls.getD 27 0] := by rw [hS]; exact tw_of u26 u27
              have k1 : (ls.drop 12).take 8 = ip4 F ++ ip4 G := by rw [take_drop_list ls 12 8 (by omega), tF, tG]; rfl
              have k2 : (ls.drop 24).take 4 = tw (I : Int) ++ tw (S : Int) := by rw [take_drop_list ls 24 4 (by omega), tI, tS]; rfl
              rw [← hF, ← hG, ← hI, ← hS] at P7
              have hF2 : F < 4294967296 := by omega
              have hG2 : G < 4294967296 := by omega
              obtain ⟨TF, eF⟩ : ∃ t, stg (ip4 F) = t := ⟨_, rfl⟩
              obtain ⟨TG, eG⟩ : ∃ t, stg (ip4 G) = t := ⟨_, rfl⟩
              obtain ⟨TI, eI⟩ : ∃ t, stg (tw (I : Int)) = t := ⟨_, rfl⟩
              obtain ⟨TS, eS⟩ : ∃ t, stg (tw (S : Int)) = t := ⟨_, rfl⟩
              obtain ⟨TB, eB⟩ : ∃ t, stg (ip4 F ++ ip4 G) = t := ⟨_, rfl⟩
              obtain ⟨TD, eD⟩ : ∃ t, stg (tw (I : Int) ++ tw (S : Int)) = t := ⟨_, rfl⟩
              have A1 := fun W => sadd eF eG eB (by simp [ip4]) W
              have A2 := fun W => sadd eI eS eD (by simp [tw]) W
              have CF := Lib.hid fun dd os => Calls.regrown_of (w := w7) (d := dd) (os := os) (eF ▸ ip_any F (Sort.grow (redrawn w7 dd) os) hF2)
              have CG := Lib.hid fun dd os => Calls.regrown_of (w := w7) (d := dd) (os := os) (eG ▸ ip_any G (Sort.grow (redrawn w7 dd) os) hG2)
              have CI := Lib.hid fun dd os => Calls.regrown_of (w := w7) (d := dd) (os := os) (eI ▸ two_any (I : Int) (Sort.grow (redrawn w7 dd) os))
              have CS := Lib.hid fun dd os => Calls.regrown_of (w := w7) (d := dd) (os := os) (eS ▸ two_any (S : Int) (Sort.grow (redrawn w7 dd) os))
              have K1 : ∀ dd os, (convert 28 9 (.slice (some ⟨q.block, q.off + 12, none⟩) 8 (d - 12))).run Try.prog (Sort.grow (redrawn w7 dd) os) = .ok (.string TB) (Sort.grow (redrawn w7 dd) os) := fun dd os => by
                have := run_stg (((rd_off R7.out 12 (by omega)).take 8).below (below_regrown w7 dd os)) (d - 12)
                rw [k1, eB, show (ip4 F ++ ip4 G).length = 8 by rw [tF, tG]; rfl] at this
                exact this
              have K2 : ∀ dd os, (convert 28 9 (.slice (some ⟨q.block, q.off + 24, none⟩) 4 (d - 24))).run Try.prog (Sort.grow (redrawn w7 dd) os) = .ok (.string TD) (Sort.grow (redrawn w7 dd) os) := fun dd os => by
                have := run_stg (((rd_off R7.out 24 (by omega)).take 4).below (below_regrown w7 dd os)) (d - 24)
                rw [k2, eD, show (tw (I : Int) ++ tw (S : Int)).length = 4 by rw [tI, tS]; rfl] at this
                exact this
              have c20 : w7.cell? ⟨q.block, q.off + 20, none⟩ = some (.int .u8 ((ls.getD 20 0 : Nat) : Int)) := R7.out.at 19 (by omega)
              have m0 := fun dd os => cell_regrown P7.out.1.c0 dd os
              have m1 := fun dd os => cell_regrown P7.out.1.c1 dd os
              have m2 := fun dd os => cell_regrown P7.out.1.c2 dd os
              have m9 := fun dd os => cell_regrown P7.out.1.c9 dd os
              have m10 := fun dd os => cell_regrown P7.out.1.c10 dd os
              have m20 := fun dd os => cell_regrown c20 dd os
              have hz12 : ¬ d = 12 := by omega
              have hz24 : ¬ d = 24 := by omega
              have hn28 : 28 ≤ ls.length := by omega
              simp only at m0 m1 m2 m9 m10
              clear hr hq hs EQ hF hG hI hS u12 u13 u14 u15 u16 u17 u18 u19 u24 u25 u26 u27 tF tG tI tS k1 k2 eF eG eI eS eB eD c20 R7 P7 hb hl HL32 HFE
              generalize ls.getD 20 0 = z at *
              generalize ls.length = n at *
              go_upto_region 14 with fail
              refine wp_region_quiet_below (by kernel_rfl) (by kernel_rfl) ?_
              (try simp only [Act.put])
              repeat (go_big_quiet_step (first | (go_at_call 19; first | (with_reducible exact CF.out _ _) | (with_reducible exact CG.out _ _)) | (go_at_call 20; first | (with_reducible exact CI.out _ _) | (with_reducible exact CS.out _ _))))
              refine wpQuiet_nil ?_
              rintro w8 ⟨q8, rfl⟩
              go_wp2_with fail
              go_roundg (gk - 1)
              case measure => omega
              case rel => exact ⟨j + 1, by omega, by go_num, B7.out.trans ((below_grow q8).mono B7.out.size)⟩
            · have hr : red ls = 2 := by unfold red; rw [if_pos HFE.out, if_neg hs]
              rw [decide_eq_false hs, Bool.not_false]
              clear hs HL32 HFE hn
              have hq : rpk ls = zp := by unfold rpk; rw [hr]; rfl
              rw [hq] at P7
              rw [hr]
              clear hr hq
              have HL := Lib.hid fun W (h : ∃ q : Regrown, W = Sort.grow (redrawn w7 q.d) q.os) => show Pm W w6.heap.size zp by
                obtain ⟨q, rfl⟩ := h
                exact (P7.out.keep (below_grow q) P7.out.lt).1
              clear R7 P7
              generalize ls.length = n at *
              go_upto_region 14 with fail
              refine wp_region_quiet_below (by kernel_rfl) (by kernel_rfl) ?_
              (try simp only [Act.put])
              repeat (first
                | (refine quiet_load27 (.tmp 12) w6.heap.size zp HL.out ?_ ?_ ?_ ?_; rotate_left; (with_reducible rfl); rfl; rotate_left; kernel_rfl; simp only [Act.put, List.setIfInBounds_toArray, List.set_cons_zero, List.set_cons_succ])
                | go_big_quiet_step (fail))
              refine quiet_neq27 (.tmp 110) (.tmp 111) zp zp ?_ ?_ ?_ ?_ ?_
              rotate_left
              · with_reducible rfl
              · rfl
              · rfl
              rotate_left
              · kernel_rfl
              rw [eqp_refl, Bool.not_true]
              simp only [Act.put, List.setIfInBounds_toArray, List.set_cons_zero, List.set_cons_succ]
              repeat go_big_quiet_step (fail)
              refine wpQuiet_nil ?_
              rintro w8 ⟨q8, rfl⟩
              go_wp2_with fail
              go_roundg (gk - 1)
              case measure => omega
              case rel => exact ⟨j + 1, by omega, by go_num, B7.out.trans ((below_grow q8).mono B7.out.size)⟩
        · have hr : red ls = 1 := by unfold red; rw [if_neg hfe]
          rw [show fe ls = false by simpa using hfe, Bool.not_false]
          clear hfe
          have hq : rpk ls = zp := by unfold rpk; rw [hr]; rfl
          rw [hq] at P7
          rw [hr]
          clear hr hq
          have HL := Lib.hid fun W (h : ∃ q : Regrown, W = Sort.grow (redrawn w7 q.d) q.os) => show Pm W w6.heap.size zp by
            obtain ⟨q, rfl⟩ := h
            exact (P7.out.keep (below_grow q) P7.out.lt).1
          clear R7 P7
          generalize ls.length = n at *
          go_upto_region 14 with fail
          refine wp_region_quiet_below (by kernel_rfl) (by kernel_rfl) ?_
          (try simp only [Act.put])
          repeat (first
            | (refine quiet_load27 (.tmp 12) w6.heap.size zp HL.out ?_ ?_ ?_ ?_; rotate_left; (with_reducible rfl); rfl; rotate_left; kernel_rfl; simp only [Act.put, List.setIfInBounds_toArray, List.set_cons_zero, List.set_cons_succ])
            | go_big_quiet_step (fail))
          refine quiet_neq27 (.tmp 110) (.tmp 111) zp zp ?_ ?_ ?_ ?_ ?_
          rotate_left
          · with_reducible rfl
          · rfl
          · rfl
          rotate_left
          · kernel_rfl
          rw [eqp_refl, Bool.not_true]
          simp only [Act.put, List.setIfInBounds_toArray, List.set_cons_zero, List.set_cons_succ]
          repeat go_big_quiet_step (fail)
          refine wpQuiet_nil ?_
          rintro w8 ⟨q8, rfl⟩
          go_wp2_with fail
          go_roundg (gk - 1)
          case measure => omega
          case rel => exact ⟨j + 1, by omega, by go_num, B7.out.trans ((below_grow q8).mono B7.out.size)⟩
    · obtain rfl : j = 3 := by omega
      have D6 := Lib.hid (D5.out.trans (HW.out.mono D5.out.size))
      go_wp2_with fail
      go_ret
      exact ⟨rfl, D6.out⟩
end Go.Proofs.Ytgdbkjiifliobaa
