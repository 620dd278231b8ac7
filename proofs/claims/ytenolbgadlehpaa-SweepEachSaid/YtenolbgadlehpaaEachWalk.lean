/-
  SweepEach's walk: a prefix that is swept alone asks each address in its turn. Conditions: the numbers have their bits.
-/
import Derived.BigGuard
import Derived.Test.YtenolbgadlehpaaInt
import Derived.Test.YtenolbgadlehpaaEac
import Derived.Test.YtenolbgadlehpaaPlanWalk
set_option linter.unusedSimpArgs false
set_option linter.unusedVariables false
namespace Go.Proofs.Ytenolbgadlehpaa
open Go.RowKit

theorem each_block (a n : Int) (h0 : 167772160 ≤ a) (h1 : a < 167837696) (g0 : 6 ≤ n) (g1 : n ≤ 12) :
    0 ≤ a - a % p2 (20 + n % 13) ∧ a - a % p2 (20 + n % 13) < 4294967296 ∧ okB (a - a % p2 (20 + n % 13)) (20 + n % 13) = true ∧ 1 ≤ p2 (20 + n % 13) ∧ p2 (20 + n % 13) ≤ 64 := by
  have pb := p2_pos (20 + n % 13)
  have hd := p2_dvd (show (26 : Int) ≤ 20 + n % 13 by omega)
  have h26 : p2 26 = 64 := by decide
  have hle := Int.le_of_dvd (p2_pos 26) hd
  have hok : okB (a - a % p2 (20 + n % 13)) (20 + n % 13) = true := by
    refine ok_iff.2 ⟨by omega, by omega, ?_⟩
    generalize p2 (20 + n % 13) = P at *
    rw [Int.sub_emod, Int.emod_emod_of_dvd _ (Int.dvd_refl P), Int.sub_self, Int.zero_emod]
  have m0 := Int.emod_nonneg a (show p2 (20 + n % 13) ≠ 0 by omega)
  have m1 := Int.emod_lt_of_pos a pb
  refine ⟨by omega, by omega, hok, by omega, by omega⟩
theorem put_first {A B : Int} {P : Nat} (hok : okB A B = true) (hP : p2 B = (P : Int)) (h : P ≤ 64) : putC [] A B = 0 ∧ putR [] A B 1 = [⟨A, B, 1, 0⟩] := by
  have e : putC [] A B = 0 := by
    unfold putC
    rw [if_neg (by rw [hok]; simp), if_neg (by omega), if_neg (by simp [anyB]), if_neg (by simp)]
  refine ⟨e, ?_⟩
  unfold putR
  rw [if_pos e]
  rfl

set_option maxRecDepth 100000 in
set_option maxHeartbeats 16000000 in
theorem sweepEach_walk (a0 a1 a2 a3 a4 : Int) (w : World) (h00 : 0 ≤ a0) (h01 : a0 < 65536) (h10 : 0 ≤ a1) (h11 : a1 < 256) (h20 : 0 ≤ a2) (h21 : a2 < 256) (h30 : 0 ≤ a3) (h31 : a3 < 256) (h40 : 0 ≤ a4) (h41 : a4 < 65536) :
    Calls Try.prog 7 #[.int .u16 a0, .int .u8 a1, .int .u8 a2, .int .u8 a3, .int .u16 a4] w fun e w' => e = .returned (.bool true) ∧ Below w.heap.size w w' := by
  obtain ⟨k0, k1, k2, k3, k4⟩ := each_block (167772160 + a0) (6 + a1 % 7) (by omega) (by omega) (by omega) (by omega)
  have HBK := Lib.hid fun W => block_any (167772160 + a0) (6 + a1 % 7) W (by omega) (by omega) (by omega) (by omega)
  generalize 167772160 + a0 - (167772160 + a0) % p2 (20 + (6 + a1 % 7) % 13) = A at *
  generalize hBt : 20 + (6 + a1 % 7) % 13 = Bt at *
  have hB1 : Bt ≤ 32 := by omega
  have hB0 : 26 ≤ Bt := by omega
  clear hBt
  obtain ⟨P, hP⟩ : ∃ P : Nat, p2 Bt = (P : Int) := ⟨(p2 Bt).toNat, by omega⟩
  have HSZ := Lib.hid fun W => size_eq A Bt (P : Int) W k0 k1 (by unfold sizeOf; rw [if_pos k2, hP])
  have hP0 : 1 ≤ P := by omega
  have hP1 : P ≤ 64 := by omega
  obtain ⟨r, hr⟩ : ∃ r : Nat, 1 + a2 % 16 = (r : Int) := ⟨(1 + a2 % 16).toNat, by omega⟩
  have hr0 : 1 ≤ r := by omega
  have hr1 : r ≤ 16 := by omega
  obtain ⟨q, hq⟩ : ∃ q : Nat, a3 % 30 = (q : Int) := ⟨(a3 % 30).toNat, by omega⟩
  have hEN := en_of (P := P) (E := 0) hr0 hr1 hP0 hP1 (show q < 30 by omega)
  obtain ⟨s, hs⟩ : ∃ s : Nat, 1 + a4 % 200 = (s : Int) := ⟨(1 + a4 % 200).toNat, by omega⟩
  have hs0 : 1 ≤ s := by omega
  have hs1 : s ≤ 200 := by omega
  have hdv : Int.tdiv ((P : Int) + r - 1) r = (((P + r - 1) / r : Nat) : Int) := by
    rw [show (P : Int) + r - 1 = ((P + r - 1 : Nat) : Int) by omega]
    rfl
  have hdv2 : ((P : Int) + r - 1) / r = (((P + r - 1) / r : Nat) : Int) := by
    rw [show (P : Int) + r - 1 = ((P + r - 1 : Nat) : Int) by omega]
    rfl
  generalize (P + r - 1) / r = need at *
  obtain ⟨E, hE⟩ : ∃ E : Nat, need + q = E := ⟨_, rfl⟩
  rw [hE] at hEN
  have hEi : (need : Int) + q = (E : Int) := by omega
  have hE1 := hEN.e1
  obtain ⟨F, hF⟩ : ∃ F : Nat, s + E + need = F := ⟨_, rfl⟩
  have hFi : (s : Int) + E + need = (F : Int) := by omega
  have hFb : F ≤ 400 := by have := hEN.n1; omega
  have hF1 : 1 ≤ F := by omega
  have hE0 : 1 ≤ E := by have := hEN.e0; have := hEN.n0; omega
  have HF := Lib.hid hF
  have HEN := Lib.hid hEN
  have hn0 := hEN.n0
  have hn1 := hEN.n1
  obtain ⟨hpc, hpr⟩ := put_first k2 hP hP1
  have HP := Lib.hid hP
  have HOKB := Lib.hid k2
  have HPU := Lib.hid fun W => put_any A Bt 1 none [] 0 W (Rw.nil _ _) (fun x hx => by simp at hx) (Nat.le_refl _) (by simp) k0 k1
  rw [hpc, hpr] at HPU
  dsimp only [List.length_nil] at HPU
  clear hpc hpr hP k2 k3 k4 hE hF hEN
  go_enter Try.func7, Try.ntmps7
  go_wp2_with fail
  refine (awake_any w).mono ?_
  rintro e W1 ⟨rfl, hb⟩
  have B1 := Lib.hid hb
  clear hb
  go_wp2_with fail
  refine (HBK.out W1).mono ?_
  rintro e W2 ⟨rfl, hb⟩
  have B2 := Lib.hid ((B1.out.trans (hb.mono B1.out.size)).alloc (by have := B1.out.size; have := hb.size; omega) (Bkx A Bt))
  have P2 := Lib.hid (bm_box W2 A Bt)
  clear hb B1 HBK
  obtain ⟨q0, q1⟩ := P2.out
  have hP2 : W2.heap.size < (W2.alloc (Bkx A Bt)).heap.size := by simp
  unfold Bkx at *
  go_wp2_with fail
  generalize W2.alloc (.cells #[.int .u32 A, .int .i64 Bt] 36) = W3 at *
  generalize W2.heap.size = bA at *
  refine (HSZ.out W3).mono ?_
  rintro e W4 ⟨rfl, hb⟩
  have B4 := Lib.hid (B2.out.trans (hb.mono B2.out.size))
  have P4 := Lib.hid (P2.out.below hb)
  clear hb P2 B2 q0 q1 hP2
  obtain ⟨q0, q1⟩ := P4.out
  go_upto_region 7 with fail
  change Code.wp _ _ _ _ (W4.alloc (Cfx ⟨0, 0, 0, (E : Int), 0, 0, 0, 0, 0⟩))
  have B5 := Lib.hid (B4.out.alloc B4.out.size (Cfx ⟨0, 0, 0, (E : Int), 0, 0, 0, 0, 0⟩))
  have P5 := Lib.hid (P4.out.below ((Below.refl _ W4).alloc (Nat.le_refl _) (Cfx ⟨0, 0, 0, (E : Int), 0, 0, 0, 0, 0⟩)))
  have C5 := Lib.hid (cm_box W4 ⟨0, 0, 0, (E : Int), 0, 0, 0, 0, 0⟩)
  clear B4 P4 q0 q1 hdv hdv2 hr hEi HSZ
  generalize W4.alloc (Cfx ⟨0, 0, 0, (E : Int), 0, 0, 0, 0, 0⟩) = W5 at *
  obtain ⟨bC, hbC⟩ : ∃ b, W4.heap.size = b := ⟨_, rfl⟩
  rw [hbC] at C5 ⊢
  clear hbC
  obtain ⟨q0, q1⟩ := P5.out
  go_wp2_with fail
  refine (HPU.out W5).mono ?_
  rintro e W6 ⟨A1, c1, rfl, hc1, -, hR1, hb⟩
  dsimp only [List.length_cons, List.length_nil] at hc1 ⊢
  have B6 := Lib.hid (B5.out.trans (hb.mono B5.out.size))
  have P6 := Lib.hid (P5.out.below hb)
  have C6 := Lib.hid (C5.out.below hb)
  have RL6 := Lib.hid hR1
  have HC1 := Lib.hid hc1
  clear hb hR1 hc1 B5 P5 C5 HPU q0 q1
  obtain ⟨i3, hi3, hz0, hz1, hz2⟩ := info_parts info3
  have hm1 : i3.bytes * P ≤ 281474976710656 := by rw [hz2]; omega
  have hm2 : P ≤ maxLen := by unfold maxLen; omega
  go_wp2_with (at_make; refine wpList_make_full _ rfl (.tmp 61) (.tmp 61) 60 rfl W6.heap.size 3 i3 (.int .i64 0) 1 Try.underlying60 hi3 hz0 hz1 .i64 .i64 (P : Int) (P : Int) P rfl rfl rfl rfl hm1 hm2 (Nat.le_refl _) ?_)
  intro W7 ho hg
  have hmi := made_ints P
  rw [Nat.mul_one] at hmi
  rw [show (madeCells #[Value.int .i64 0] P).toList = eN.cs (List.replicate P 0) from hmi] at ho
  have B67 : Below W6.heap.size W6 W7 := (Below.refl _ W6).grown hg (Nat.le_refl _) (fun k e => by cases e)
  have X7 := Lib.hid (show Ex w bA bC W6.heap.size A Bt E P (List.replicate P 0) A1 ⟨A, Bt, 1, 0⟩ W7 from
    ⟨P6.out.below B67, C6.out.below B67, ho, RL6.out.below B67, B6.out.trans (B67.mono B6.out.size), B6.out.size, P6.out.lt, C6.out.lt⟩)
  clear hmi ho hg B67 hi3 hz0 hz1 hz2 hm1 hm2 P6 C6 RL6 B6
  generalize W6.heap.size = g at *
  have c3 : W7.cell? ⟨bC, 3, none⟩ = some (.int .i64 (E : Int)) := X7.out.cm.c3
  go_wp2_with fail
  clear c3 hFi hs
  have e00 : eS A Bt E r need 0 0 = ⟨A, Bt, 1, 0⟩ := by unfold eS; rw [if_pos (by omega), Nat.zero_mul, Nat.zero_mul]; rfl
  rw [← e00] at X7
  clear e00
  go_loopw [16, 21] (fun v t wr => ∃ (T c o : Nat) (A1 : Option Addr) (c1 : Nat) (ls : List Nat), t = .int .i64 (T : Int) ∧ 1 ≤ T ∧ T ≤ F ∧ v = .slice A1 1 c1 ∧ Hid (1 ≤ c1 ∧ T = 1 + c * E + o ∧ o < E) ∧ Hid (Lst P r E T ls ∧ Ex w bA bC g A Bt E P ls A1 (eS A Bt E r need c o) wr)) (fun _ t _ => F - (intOf t).toNat)
  case atStart => exact ⟨1, 0, 0, A1, c1, _, rfl, by omega, by omega, rfl, Lib.hid ⟨HC1.out, by omega, by omega⟩, Lib.hid ⟨lst_zero, X7.out⟩⟩
  case round =>
    clear X7 HC1
    obtain ⟨T, c, o, A1, c1, ls, rfl, hT0, hT1, rfl, HT, HX⟩ := hrel
    by_cases hTF : T < F
    · obtain ⟨hc1, hTe, hoE⟩ := HT.out
      have hst := each_step (A := A) HEN.out HP.out hoE (c := c) (by omega)
      rw [← hTe] at hst
      have HPL := Lib.hid fun W hR => plan_any ⟨0, 0, 0, (E : Int), 0, 0, 0, 0, 0⟩ (T : Int) (r : Int) A1 [eS A Bt E r need c o] c1 W hR hc1 (by simp) (fun x hx => by
        rw [List.mem_singleton] at hx
        subst hx
        exact eS_sv HEN.out k0 k1 HOKB.out HP.out c o) (by omega) (by omega)
      dsimp only at HPL
      rw [hst] at HPL
      obtain ⟨hn1', hn2'⟩ := nx_at (c := c) hoE
      rw [← hTe] at hn1'
      have hKr : eK P r need o ≤ r := by unfold eK; split <;> omega
      have hKP : eK P r need o = 0 ∨ o * r + eK P r need o ≤ P := by
        unfold eK
        split
        · rename_i hon
          have := HEN.out.below hon
          exact .inr (by omega)
        · exact .inl rfl
      have HLN := Lib.hid fun (ms : List Nat) (hM : Mid (o * r) T (eK P r need o) ls ms) => lst_next (c := c) HEN.out hoE (by rw [← hTe]; exact HX.out.1) (by rw [← hTe]; exact hM)
      rw [← hTe] at HLN
      clear hst hTe hoE
      generalize (nx E c o).1 = c' at *
      generalize (nx E c o).2 = o' at *
      generalize o * r = n at *
      generalize eK P r need o = K at *
      have HL2 := Lib.hid fun (j : Nat) (hj : j < K) => show ((List.range K).map fun (j : Nat) => A + ((n : Int) + (j : Int)))[j]? = some (A + ((n : Int) + (j : Int))) by simp [hj]
      have HLL := Lib.hid (show ((List.range K).map fun (j : Nat) => A + ((n : Int) + (j : Int))).length = K by simp)
      generalize ((List.range K).map fun (j : Nat) => A + ((n : Int) + (j : Int))) = l2 at *
      have HN := Lib.hid (And.intro hn1' hn2')
      clear hn1' hn2' HT
      have HC := Lib.hid HX.out.2.cm
      unfold cfv at *
      go_wp2_with (refine at_load27 (.tmp 15) rfl rfl _ ⟨0, 0, 0, (E : Int), 0, 0, 0, 0, 0⟩ rfl HC.out.at ?_)
      refine (HPL.out _ HX.out.2.row).mono ?_
      rintro e w1 ⟨A2, c2, A3, c3, rfl, hc2, hR2, hR3, hb⟩
      dsimp only [List.length_cons, List.length_nil] at hc2 hR2 hR3 ⊢
      have X1 := Lib.hid (HX.out.2.keep hb hR2)
      have RA1 := Lib.hid hR3
      have HC2 := Lib.hid hc2
      have HLS := Lib.hid HX.out.1.1
      clear hb hR2 hR3 hc2 HX HPL HC
      rw [HLL.out]
      go_wp2_with fail
      go_loopw [89] (fun i wr => ∃ (j : Nat) (ms : List Nat), i = .int .i64 j ∧ j ≤ K ∧ Hid (Mid n T j ls ms ∧ Ex w bA bC g A Bt E P ms A2 (eS A Bt E r need c' o') wr ∧ Rw eA wr A3 l2)) (fun i _ => K - (intOf i).toNat)
      case atStart => exact ⟨0, ls, rfl, by omega, Lib.hid ⟨mid_zero _ _ _, X1.out, RA1.out⟩⟩
      case round =>
        obtain ⟨j, ms, rfl, hj, HM⟩ := hrel
        by_cases hjK : j < K
        · obtain ⟨y3, rfl⟩ := rw_some RA1.out (by rw [HLL.out]; omega)
          obtain ⟨hM1, hX1, hA1⟩ := HM.out
          have kz := ea_at hA1 (HL2.out j hjK)
          obtain ⟨z, hz⟩ : ∃ z : Int, A + ((n : Int) + (j : Int)) = z := ⟨_, rfl⟩
          obtain ⟨m, hm⟩ : ∃ m : Nat, n + j = m := ⟨_, rfl⟩
          have hmP : m < P := by omega
          have hzA : z - A = (m : Int) := by omega
          have hz0 : 0 ≤ z := by omega
          rw [hz] at kz
          have hl : n + j < ls.length := by rw [HLS.out]; omega
          have hml : m < ms.length := by rw [hM1.1]; omega
          have hM2 := mid_next hM1 hl
          rw [hm] at hM2
          have HM2 := Lib.hid hM2
          have HX1 := Lib.hid hX1
          have HA1 := Lib.hid hA1
          have hmo : (m : Int) % (P : Int) = (m : Int) := Int.emod_eq_of_lt (by omega) (by omega)
          have hmt : Int.tmod (m : Int) (P : Int) = (m : Int) := Int.tmod_eq_of_lt (by omega) (by omega)
          obtain ⟨v0, hv0⟩ : ∃ v0, ms[m]? = some v0 := ⟨_, List.getElem?_eq_getElem hml⟩
          obtain ⟨cN, fN⟩ := own_n HX1.out.own hv0
          have qA := HX1.out.bm.1
          clear hM1 hX1 hA1 hM2 hl hml hv0 hz hm HM
          go_wp2_with fail
          go_roundw
          case rel => exact ⟨j + 1, ms.set m T, by go_num, by omega, Lib.hid ⟨HM2.out, HX1.out.set m T, HX1.out.setA HA1.out m T⟩⟩
          case measure => simp [intOf]; omega
        · obtain rfl : K = j := by omega
          have hKr' : decide ((r : Int) < (K : Int)) = false := decide_eq_false (by omega)
          obtain ⟨hM1, hX1, -⟩ := HM.out
          have HL1 := Lib.hid (HLN.out ms hM1)
          have HX1 := Lib.hid hX1
          clear HM hM1 hX1
          go_wp2_with fail
          go_roundw
          case rel => exact ⟨T + 1, c', o', A2, c2, ms, by go_num, by omega, by omega, rfl, Lib.hid ⟨HC2.out, by have := HN.out.1; omega, HN.out.2⟩, Lib.hid ⟨HL1.out, HX1.out⟩⟩
          case measure => simp [intOf]; omega
    · obtain rfl : F = T := by omega
      obtain ⟨wo, rfl⟩ : ∃ wo, wo = wr := ⟨_, rfl⟩
      have HEND := Lib.hid fun k (hk : k < P) => each_end (s := s) HEN.out hs0 (by rw [HF.out]; exact HX.out.1) hk
      go_wp2_with fail
      go_loopw [110] (fun i wr => ∃ k : Nat, i = .int .i64 k ∧ k ≤ P ∧ Hid (wr = wo)) (fun i _ => P - (intOf i).toNat)
      case atStart => exact ⟨0, rfl, by omega, Lib.hid rfl⟩
      case round =>
        obtain ⟨k, rfl, hk, HW⟩ := hrel
        by_cases hkP : k < P
        · obtain ⟨v, hv, hsv⟩ := HEND.out k hkP
          have cN : wr.cell? ⟨g, k, none⟩ = some (.int .i64 (v : Int)) := by rw [HW.out]; exact (own_n HX.out.2.own hv).1
          have hvs : decide (v < s) = false := decide_eq_false (by omega)
          clear hv
          go_wp2_with fail
          go_roundw
          case rel => exact ⟨k + 1, by go_num, by omega, HW⟩
          case measure => simp [intOf]; omega
        · obtain rfl : P = k := by omega
          go_wp2_with fail
          go_ret
          exact ⟨rfl, by rw [HW.out]; exact HX.out.2.bel⟩
end Go.Proofs.Ytenolbgadlehpaa
