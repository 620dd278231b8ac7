/-
  CommandLong's walk: at any length and any command by numbers it returns true, and changes nothing that was in memory. Conditions: the library's variables lie as their texts lay them (Env).
-/
import Derived.Test.YtegbdagmnibfmaaDoorWrd
import Derived.Deep.CutRange
set_option linter.unusedSimpArgs false
set_option linter.unusedVariables false
namespace Go.Proofs.YtegbdagmnibfmaaDoor
open Go.RowKit

theorem run_field0 (x : Ev) (W : World) : (Instr.field 41 (evv x) 0).run Tryd.prog W = .ok (.int .i64 x.k) W := by kernel_rfl
/-- A text of ones. -/
def one (m : Nat) : List UInt8 := List.replicate m 49
theorem one_not (m : Nat) (c : UInt8) (h : c ≠ 49) : c ∉ one m := fun hm => h (List.eq_of_mem_replicate hm)
theorem parse_one (m : Nat) : Ad.parseO (one m) = none := by
  unfold Ad.parseO Ad.parseGo
  rw [Ad.cut_none (one_not m 46 (by decide))]
  rfl
theorem pbl_one (m : Nat) : Ad.pblO (one m) = none := by
  unfold Ad.pblO
  rw [Ad.cut_none (one_not m 47 (by decide))]
  simp only [parse_one]
/-- The text of a round. -/
def lnT (k : Int) (m : Nat) : ByteArray := ⟨(wL k ++ 32 :: one m).toArray⟩
theorem lnT_size (k : Int) (m : Nat) : (lnT k m).size = (wL k).length + 1 + m := by
  show (wL k ++ 32 :: one m).toArray.size = _
  simp [one]; omega
theorem ps_long {k : Int} (hk : Kd k) (m : Nat) : (200 < (lnT k m).size ∧ psO (lnT k m) = (zev, -1, 3)) ∨ ((lnT k m).size ≤ 200 ∧ ∃ a, 0 ≤ a ∧ psO (lnT k m) = (zev, a, 1)) := by
  by_cases hs : (lnT k m).size ≤ 200
  · refine .inr ⟨hs, ?_⟩
    have hw : wl (lnT k m).data.toList = [wL k, one m] := by
      show wl (wL k ++ 32 :: one m) = _
      rw [wl_app hk.word.2.2.1, wl_one (one_not m 32 (by decide))]
    unfold psO
    rw [if_pos hs, hw, psW_cons, if_neg (by rw [knd_wL hk]; unfold Kd at hk; omega), knd_wL hk]
    by_cases h1 : k = 1
    · subst h1
      exact ⟨2, by omega, by rw [if_pos (by simp [loW])]; rfl⟩
    · have e1 : loW k = 2 := if_neg h1
      have e2 : hiW k = 2 := if_neg h1
      rw [if_neg (by rw [e1]; simp), if_neg (by rw [e2]; simp)]
      simp only [knd_wL hk]
      cases ((k == 3) || (k == 4))
      · rw [if_neg (by decide)]
        refine ⟨1, by omega, ?_⟩
        unfold ho2
        rw [show (⟨(one m).toArray⟩ : ByteArray).data.toList = one m from rfl, parse_one]
      · rw [if_pos rfl]
        refine ⟨1, by omega, ?_⟩
        unfold blkO
        rw [show (⟨(one m).toArray⟩ : ByteArray).data.toList = one m from rfl, pbl_one]
  · refine .inl ⟨by omega, ?_⟩
    unfold psO
    rw [if_neg hs]

set_option maxRecDepth 100000 in
set_option maxHeartbeats 4000000 in
theorem long_walk (n : Int) (y : Sy) (w : World) (hn0 : 0 ≤ n) (hn1 : n ≤ 65535) (hs : Sok y) (_ks : y.t.size ≤ 140737488351232) (hE : Env w) :
    Calls Tryd.prog 4 #[.int .u16 n, syv y] w fun e w' => e = .returned (.bool true) ∧ Below w.heap.size w w' := by
  have B0 := Lib.hid ((Below.refl w.heap.size w).alloc (Nat.le_refl _) (Syx y))
  have S0 := Lib.hid (sy_box w y)
  have HAW := Lib.hid (awake_any _ (hE.keep B0.out))
  have HE := Lib.hid hE
  have HES := Lib.hid fun W => event_any y W hs
  have VK := Lib.hid (show Kd (evS y).k by
    have := ek_kd y.wh hs.wh0
    unfold evS
    split
    · exact this
    · split
      · exact .inl rfl
      · exact this)
  have hbd := VK.out.bd
  have hwd := VK.out.word.2.1
  obtain ⟨kk, hkk⟩ : ∃ k, (evS y).k = k := ⟨_, rfl⟩
  rw [hkk] at hbd VK hwd
  have HKK := Lib.hid hkk
  obtain ⟨k0, k1⟩ := hbd
  obtain ⟨K, hK⟩ : ∃ K, nm kk = K := ⟨_, rfl⟩
  have HKN := Lib.hid hK
  have hKE : K = ⟨(wL kk).toArray⟩ := by rw [← hK]; exact arr_eq (nm kk)
  obtain ⟨S1, hS1⟩ : ∃ S : ByteArray, S = ⟨#[32]⟩ := ⟨_, rfl⟩
  have hS2 : S1 = ⟨([32] : List UInt8).toArray⟩ := hS1
  obtain ⟨P1, hP1⟩ : ∃ P : ByteArray, P = ⟨(wL kk ++ [32]).toArray⟩ := ⟨_, rfl⟩
  have a1 := fun W => sadd hKE hS2 hP1 (by simp only [List.length_append, List.length_cons, List.length_nil]; omega) W
  rw [hS1] at a1
  have HP1 := Lib.hid (show P1 = lnT kk 0 by rw [hP1]; rfl)
  have HWD := Lib.hid hwd
  obtain ⟨n0, hn0'⟩ : ∃ n0 : Nat, (n0 : Int) = n % 400 := ⟨(n % 400).toNat, by omega⟩
  have HN0 := Lib.hid hn0'
  unfold Syx at *
  unfold syv at *
  clear hs hE hkk hK hKE hS2 hP1 hwd hn0'
  go_enter Tryd.func4, Tryd.ntmps4
  go_wp2_with fail
  refine (HAW.out).mono ?_
  rintro e w3 ⟨rfl, hb⟩
  have B3 := Lib.hid (B0.out.trans (hb.mono B0.out.size))
  have S3 := Lib.hid (S0.out.belowY hb)
  clear hb HAW
  go_upto_region 3 with fail
  refine wp_region_below [wF, fx (.agg #[.int .u8 y.wh, .int .u32 y.ad, .int .u8 y.bi, .int .u8 y.ow, .int .u8 y.ma, .int .u8 y.sp, .string y.t]), fx (evv (evS y)), fx (.int .i64 kk), pF kk, fx (.string K), fx (.string P1), fx (.string P1)]
    (by kernel_rfl) (by kernel_rfl) (by kernel_rfl) ?_ ?_ ?_
  · simp only [List.mem_cons, List.not_mem_nil, or_false]
    rintro φ (rfl | rfl | rfl | rfl | rfl | rfl | rfl | rfl)
    all_goals first | exact stable_fx _ | exact stable_fr _ _ | exact stable_wF | exact stable_pF _
  · refine OgSteps.cons ?_ (OgSteps.cons ?_ (OgSteps.cons ?_ (OgSteps.cons ?_ (OgSteps.cons ?_ (OgSteps.cons ?_ (OgSteps.cons ?_ (OgSteps.cons ?_ (OgSteps.nil))))))))
    · refine OgStep.calls ?_ ?_
      · rfl
      intro u W hS hp
      refine ⟨13, #[], ?_, words_any W⟩
      simp only [ogMk, Act.put, List.setIfInBounds_toArray, List.set_cons_zero, List.set_cons_succ, Nat.zero_add, Nat.reduceAdd, List.take_succ_cons, List.take_zero, List.drop_succ_cons, List.drop_zero]
      simp [execOp, Act.eval, go_sem]
    · refine OgStep.pure ?_ ?_
      · rfl
      intro u W hS hp
      obtain ⟨R0, R1, R2, R3, R4, R5, R6⟩ := sy_c (S3.out.belowY hS)
      refine ⟨.agg #[.int .u8 y.wh, .int .u32 y.ad, .int .u8 y.bi, .int .u8 y.ow, .int .u8 y.ma, .int .u8 y.sp, .string y.t], ?_, rfl⟩
      simp only [ogMk, Act.put, List.setIfInBounds_toArray, List.set_cons_zero, List.set_cons_succ, Nat.zero_add, Nat.reduceAdd, List.take_succ_cons, List.take_zero, List.drop_succ_cons, List.drop_zero]
      simp [execOp, Act.eval, go_sem, R0, R1, R2, R3, R4, R5, R6]
    · refine OgStep.calls ?_ ?_
      · rfl
      intro u W hS hp
      have h1 : u 1 = .agg #[.int .u8 y.wh, .int .u32 y.ad, .int .u8 y.bi, .int .u8 y.ow, .int .u8 y.ma, .int .u8 y.sp, .string y.t] := hp ⟨1, .data⟩ (by simp) rfl
      refine ⟨14, #[.agg #[.int .u8 y.wh, .int .u32 y.ad, .int .u8 y.bi, .int .u8 y.ow, .int .u8 y.ma, .int .u8 y.sp, .string y.t]], ?_, calls_fx (HES.out W) rfl⟩
      simp only [ogMk, Act.put, List.setIfInBounds_toArray, List.set_cons_zero, List.set_cons_succ, Nat.zero_add, Nat.reduceAdd, List.take_succ_cons, List.take_zero, List.drop_succ_cons, List.drop_zero]
      simp [execOp, Act.eval, go_sem, h1]
    · refine OgStep.pure ?_ ?_
      · rfl
      intro u W hS hp
      have h2 : u 2 = evv (evS y) := hp ⟨2, .data⟩ (by simp) rfl
      refine ⟨.int .i64 kk, ?_, rfl⟩
      simp only [ogMk, Act.put, List.setIfInBounds_toArray, List.set_cons_zero, List.set_cons_succ, Nat.zero_add, Nat.reduceAdd, List.take_succ_cons, List.take_zero, List.drop_succ_cons, List.drop_zero]
      simp [execOp, Act.eval, go_sem, h2, run_field0, HKK.out]
    · refine OgStep.pure ?_ ?_
      · rfl
      intro u W hS hp
      obtain ⟨b0, h0, C0⟩ : wF (u 0) W := hp ⟨0, .data⟩ (by simp) rfl
      have h3 : u 3 = .int .i64 kk := hp ⟨3, .data⟩ (by simp) rfl
      refine ⟨.pointer (some ⟨b0, kk.toNat, none⟩), ?_, ⟨b0, rfl, C0.key _ _ (wdl_at k0 k1)⟩⟩
      simp only [ogMk, Act.put, List.setIfInBounds_toArray, List.set_cons_zero, List.set_cons_succ, Nat.zero_add, Nat.reduceAdd, List.take_succ_cons, List.take_zero, List.drop_succ_cons, List.drop_zero]
      simp [execOp, Act.eval, go_sem, h0, h3, k0, k1]
    · refine OgStep.pure ?_ ?_
      · rfl
      intro u W hS hp
      obtain ⟨b0, h4, C0⟩ : pF kk (u 4) W := hp ⟨4, .data⟩ (by simp) rfl
      rw [HKN.out] at C0
      refine ⟨.string K, ?_, rfl⟩
      simp only [ogMk, Act.put, List.setIfInBounds_toArray, List.set_cons_zero, List.set_cons_succ, Nat.zero_add, Nat.reduceAdd, List.take_succ_cons, List.take_zero, List.drop_succ_cons, List.drop_zero]
      simp [execOp, Act.eval, go_sem, h4, C0]
    · refine OgStep.pure ?_ ?_
      · rfl
      intro u W hS hp
      have h5 : u 5 = .string K := hp ⟨5, .data⟩ (by simp) rfl
      refine ⟨.string P1, ?_, rfl⟩
      simp only [ogMk, Act.put, List.setIfInBounds_toArray, List.set_cons_zero, List.set_cons_succ, Nat.zero_add, Nat.reduceAdd, List.take_succ_cons, List.take_zero, List.drop_succ_cons, List.drop_zero]
      simp [execOp, Act.eval, go_sem, h5, a1]
    · refine OgStep.pure ?_ ?_
      · rfl
      intro u W hS hp
      have h6 : u 6 = .string P1 := hp ⟨6, .data⟩ (by simp) rfl
      refine ⟨.string P1, ?_, rfl⟩
      simp only [ogMk, Act.put, List.setIfInBounds_toArray, List.set_cons_zero, List.set_cons_succ, Nat.zero_add, Nat.reduceAdd, List.take_succ_cons, List.take_zero, List.drop_succ_cons, List.drop_zero]
      simp [execOp, Act.eval, go_sem, h6]
  · intro u W hS hF
    have e1 : u 1 = .agg #[.int .u8 y.wh, .int .u32 y.ad, .int .u8 y.bi, .int .u8 y.ow, .int .u8 y.ma, .int .u8 y.sp, .string y.t] := hF 1 (by decide)
    have e2 : u 2 = evv (evS y) := hF 2 (by decide)
    have e3 : u 3 = .int .i64 kk := hF 3 (by decide)
    have e5 : u 5 = .string K := hF 5 (by decide)
    have e6 : u 6 = .string P1 := hF 6 (by decide)
    have e7 : u 7 = .string P1 := hF 7 (by decide)
    simp only [ogMk, Act.put, List.setIfInBounds_toArray, List.set_cons_zero, List.set_cons_succ, Nat.zero_add, Nat.reduceAdd, List.take_succ_cons, List.take_zero, List.drop_succ_cons, List.drop_zero]
    rw [e1, e2, e3, e5, e6, e7]
    clear e1 e2 e3 e5 e6 e7 hF
    have B4 := Lib.hid (B3.out.trans (hS.mono B3.out.size))
    clear hS
    generalize u 0 = v0
    generalize u 4 = v4
    rw [HP1.out]
    clear a1 k0 k1 HKK HKN HES S0 S3
    go_wp2_with fail
    go_loopg [5, 6] n0 (fun m t i wr => ∃ k : Nat, k + m = n0 ∧ i = .int .i64 (k : Int) ∧ t = .string (lnT kk k) ∧ wr = W)
    case atStart => exact ⟨0, by omega, rfl, rfl, rfl⟩
    case round =>
      obtain ⟨k, hkm, rfl, rfl, rfl⟩ := hrel
      have hk400 : k ≤ 400 := by have := HN0.out; omega
      match gk with
      | 0 =>
        have hk : ¬ (k : Int) < n % 400 := by have := HN0.out; omega
        have hsz := lnT_size kk k
        have hps := ps_long VK.out k
        have hp := fun W => parse_any (lnT kk k) W (by rw [hsz]; have := HWD.out; unfold maxLen; omega)
        have hmx : (lnT kk k).size ≤ 1000 := by rw [hsz]; have := HWD.out; omega
        generalize lnT kk k = T at *
        clear hsz
        rcases hps with ⟨h200, hps⟩ | ⟨h200, a, ha, hps⟩
        · rw [hps] at hp
          have h200' : (200 : Int) < T.size := by omega
          clear hps h200
          have HP := Lib.hid hp
          clear hp
          go_wp2_with fail
          refine (HP.out _).mono ?_
          rintro e w6 ⟨⟨ev, rfl, pe⟩, hb⟩
          have B6 := Lib.hid (B4.out.trans (hb.mono B4.out.size))
          have B7 := Lib.hid (B6.out.alloc B6.out.size (Evx zev))
          have Z7 := Lib.hid (ev_box w6 zev)
          have PE7 := Lib.hid (pe.keep ((Below.refl _ w6).alloc (Nat.le_refl _) (Evx zev)))
          have L6 := Lib.hid B6.out.size
          clear hb pe
          go_wp2_with (refine at_store41 _ _ w6.heap.size zev zev Z7.out rfl rfl rfl rfl ?_; intro w8 P8 C8 G8; have B8 := Lib.hid (B7.out.trans (C8.out _ L6.out)); have PE8 := Lib.hid (PE7.out.store Z7.out G8.out))
          refine (where_any (-1) 3 _ _ PE8.out (HE.out.keep B8.out).et).mono ?_
          rintro e w9 ⟨rfl, hb⟩
          have B9 := Lib.hid (B8.out.trans (hb.mono B8.out.size))
          clear hb
          rw [show whA (-1) 3 = 0 from by decide, show (decide ((3 : Int) ≠ 0 ∧ (0 : Int) ≤ -1)) = false from by decide]
          go_wp2_with fail
          go_ret
          exact ⟨rfl, B9.out⟩
        · rw [hps] at hp
          have h200' : ¬ (200 : Int) < T.size := by omega
          clear hps h200
          have HP := Lib.hid hp
          clear hp
          go_wp2_with fail
          refine (HP.out _).mono ?_
          rintro e w6 ⟨⟨ev, rfl, pe⟩, hb⟩
          have B6 := Lib.hid (B4.out.trans (hb.mono B4.out.size))
          have B7 := Lib.hid (B6.out.alloc B6.out.size (Evx zev))
          have Z7 := Lib.hid (ev_box w6 zev)
          have PE7 := Lib.hid (pe.keep ((Below.refl _ w6).alloc (Nat.le_refl _) (Evx zev)))
          have L6 := Lib.hid B6.out.size
          obtain ⟨bf, rfl⟩ : ∃ bf, ev = eF bf := by
            rcases pe with ⟨h, _⟩ | ⟨_, h, _⟩ | ⟨_, _, bf, h, _⟩
            · cases h
            · exact absurd (show a < 0 from h) (by omega)
            · exact ⟨bf, h⟩
          unfold eF at *
          clear hb pe
          go_wp2_with (refine at_store41 _ _ w6.heap.size zev zev Z7.out rfl rfl rfl rfl ?_; intro w8 P8 C8 G8; have B8 := Lib.hid (B7.out.trans (C8.out _ L6.out)); have PE8 := Lib.hid (PE7.out.store Z7.out G8.out))
          refine (where_any a 1 _ _ PE8.out (HE.out.keep B8.out).et).mono ?_
          rintro e w9 ⟨rfl, hb⟩
          have B9 := Lib.hid (B8.out.trans (hb.mono B8.out.size))
          clear hb
          rw [show (decide ((1 : Int) ≠ 0 ∧ (0 : Int) ≤ a)) = true from decide_eq_true ⟨by decide, ha⟩]
          generalize whA a 1 = wa
          go_wp2_with fail
          go_ret
          exact ⟨rfl, B9.out⟩
      | m + 1 =>
        have hk : (k : Int) < n % 400 := by have := HN0.out; omega
        obtain ⟨T, hT⟩ : ∃ T, lnT kk k = T := ⟨_, rfl⟩
        obtain ⟨U, hU⟩ : ∃ U, lnT kk (k + 1) = U := ⟨_, rfl⟩
        obtain ⟨S, hS⟩ : ∃ S : ByteArray, S = ⟨#[49]⟩ := ⟨_, rfl⟩
        have hadd := fun W => sadd (a := wL kk ++ 32 :: one k) (b := [49]) (s := T) (t := S) (u := U) (by rw [← hT]; rfl) (by rw [hS]) (by rw [← hU]; unfold lnT one; rw [List.replicate_succ']; simp) (by have := HWD.out; simp [one]; omega) W
        rw [hS] at hadd
        have HU := Lib.hid hU
        rw [hT]
        clear hT hU hS
        go_wp2_with fail
        go_roundg m
        case measure => omega
        case rel => exact ⟨k + 1, by omega, by go_num, by rw [HU.out], rfl⟩
end Go.Proofs.YtegbdagmnibfmaaDoor
