/-
  The contract of the statements' own right: it tells what seen.Right tells. Conditions: the row lies in memory.
-/
import Derived.Test.YtcnhagcmklgpkaaRgt
set_option linter.unusedSimpArgs false
set_option linter.unusedVariables false
namespace Go.Proofs.Ytcnhagcmklgpkaa
open Go.RowKit

set_option maxRecDepth 100000 in
set_option maxHeartbeats 8000000 in
theorem rlaw_any (A : Option Addr) (ps : List Kp) (cap : Nat) (w : World) (h : Ks w A ps) (hc : ps.length ≤ cap) :
    Calls Try.prog 18 #[.slice A ps.length cap] w fun e w' => e = .returned (.bool (rightB ps)) ∧ Below w.heap.size w w' := by
  have hln := h.len
  have R := Lib.hid h
  by_cases h96 : 96 < ps.length
  · have HF := Lib.hid (show rightB ps = false by simp [rightB]; omega)
    have h96' : (96 : Int) < ps.length := by omega
    clear h
    generalize ps.length = L at *
    go_enter Try.func18, Try.ntmps18
    go_wp2_with fail
    go_ret
    exact ⟨by rw [HF.out]; rfl, Below.refl _ _⟩
  · have HF := Lib.hid (show rightB ps = kPre ps ps.length by simp [rightB]; omega)
    have h96' : ¬ (96 : Int) < ps.length := by omega
    clear h
    obtain ⟨L, hL⟩ : ∃ L, ps.length = L := ⟨_, rfl⟩
    have HL := Lib.hid hL
    rw [hL] at hc hln h96 h96' HF ⊢
    clear hL
    go_enter Try.func18, Try.ntmps18
    go_wp2_with fail
    go_loopw [13] (fun i wr => ∃ k : Nat, i = .int .i64 k ∧ k ≤ L ∧ Hid (kPre ps k = true ∧ Below w.heap.size w wr)) (fun i _ => L - (intOf i).toNat)
    case atStart => exact ⟨0, rfl, by omega, Lib.hid ⟨kPre_zero _, Below.refl _ _⟩⟩
    case round =>
      obtain ⟨k, rfl, hk, HH⟩ := hrel
      by_cases hlt : k < L
      · obtain ⟨x, hx⟩ : ∃ x, ps[k]? = some x := ⟨_, List.getElem?_eq_getElem (by rw [HL.out]; exact hlt)⟩
        obtain ⟨y, P, c, rfl, hin, hat⟩ := (R.out.below HH.out.2).kn hx
        have HS := Lib.hid (kPre_succ ps k)
        have HN := Lib.hid (kPre_false ps (k + 1) L)
        have HA1 : Below wr.heap.size wr (wr.alloc (.cells #[.int .u32 x.a, .slice P x.ss.length c] 53)) := (Below.refl _ wr).alloc (Nat.le_refl _) _
        have HB1 := Lib.hid (bthen HH.out.2 HA1 HH.out.2.size)
        have HR1 := Lib.hid (hin.lies.below HA1)
        have X0 : 0 ≤ x.a := hin.a0
        have X1 : x.a < 4294967296 := hin.a1
        have hlc : x.ss.length ≤ c := hin.le
        have hl6 := hin.lies.1
        have hRS : rsB x.ss = (decide (1 ≤ x.ss.length ∧ x.ss.length ≤ 8) && rsP x.ss x.ss.length) := rfl
        have b0 : (wr.alloc (.cells #[.int .u32 x.a, .slice P x.ss.length c] 53)).cell? ⟨wr.heap.size, 0, none⟩ = some (.int .u32 x.a) := by simp
        have b1 : (wr.alloc (.cells #[.int .u32 x.a, .slice P x.ss.length c] 53)).cell? ⟨wr.heap.size, 1, none⟩ = some (.slice P x.ss.length c) := by simp
        rcases k with _ | j
        · have HO := Lib.hid (show kOk ps 0 = rsB x.ss by simp [kOk, hx])
          obtain ⟨xa, xs⟩ := x
          clear hx hin
          dsimp only at X0 X1 hlc hl6 hRS hat HO b0 b1 HB1 HR1
          obtain ⟨M, hM⟩ : ∃ M, xs.length = M := ⟨_, rfl⟩
          have HMX := Lib.hid hM
          rw [hM] at hlc hl6 hRS
          clear hM
          by_cases hl : 1 ≤ M ∧ M ≤ 8
          · have hRS' := Lib.hid (show rsB xs = rsP xs M by rw [hRS]; simp [hl.1, hl.2])
            have m1 : decide ((M : Int) < 1) = false := decide_eq_false (by omega)
            have m8 : decide ((8 : Int) < M) = false := decide_eq_false (by omega)
            have HE := Lib.hid (rsP_false xs)
            clear hRS
            go_wp2_with (refine at_load53 _ rfl rfl _ _ rfl hat ?_)
            go_upto_region 6 with fail
            clear hat HA1
            generalize wr.alloc (.cells #[.int .u32 xa, .slice P xs.length c] 53) = W1 at *
            generalize wr.heap.size = N1 at *
            rw [HMX.out] at b1 ⊢
            refine wp_region_quiet_lit (by kernel_rfl) (by kernel_rfl) ?_
            repeat (go_big_quiet_step (fail))
            refine wpQuiet_nil ?_
            rintro w7 ⟨dq, rfl⟩
            have HB7 := Lib.hid (bdrewN HB1.out dq)
            go_wp2_with fail
            go_loopw [5, 46] (fun v i wq => ∃ q : Nat, i = .int .i64 q ∧ q ≤ M ∧ v = .int .i64 (pt xs q) ∧ Hid (rsP xs q = true ∧ Below w.heap.size w wq ∧ Rw eS wq P xs)) (fun _ i _ => M - (intOf i).toNat)
            case atStart => exact ⟨0, rfl, by omega, rfl, Lib.hid ⟨rsP_zero _, HB7.out, HR1.out.drewN dq⟩⟩
            case round =>
              obtain ⟨q, rfl, hq, rfl, HI⟩ := hrel
              by_cases hqt : q < M
              · obtain ⟨s, hs⟩ : ∃ s, xs[q]? = some s := ⟨_, List.getElem?_eq_getElem (by rw [HMX.out]; exact hqt)⟩
                obtain ⟨r, rfl⟩ := rw_some HI.out.2.2 (by rw [HMX.out]; omega)
                have hat2 : ∀ j v, (sl s)[j]? = some v → wr.cell? ((r.add (q * 8)).add j) = some v := HI.out.2.2.at hs
                have HS2 := Lib.hid (rsP_succ xs q)
                have HP1 := Lib.hid (show pt xs (q + 1) = s.t by simp [pt, hs])
                have hO2 : sOk xs q = (isrc s.f && decide (pt xs q ≤ s.t)) := by simp [sOk, hs]
                have HA2 : Below wr.heap.size wr (wr.alloc (Sx s)) := (Below.refl _ wr).alloc (Nat.le_refl _) _
                have HB2 := Lib.hid (bthen HI.out.2.1 HA2 HI.out.2.1.size)
                have HR2 := Lib.hid (HI.out.2.2.below HA2)
                generalize pt xs q = T at *
                clear HA2 hs
                by_cases f0 : s.f < 0
                · have HO1 := Lib.hid (show kOk ps 0 = false by rw [HO.out, hRS'.out]; exact HE.out (q + 1) M (by rw [HS2.out, hO2, show isrc s.f = false from decide_eq_false (by omega)]; simp) (by omega))
                  obtain ⟨sf, x0, x1, x2, x3, x4, x5, st⟩ := s
                  simp only [Sx] at HB2 HR2
                  dsimp only at f0
                  clear hO2
                  go_wp2_with (refine at_load35 _ rfl rfl _ _ rfl hat2 ?_)
                  go_ret
                  exact ⟨ret_bool (by rw [HF.out, HN.out (by rw [HS.out, HO1.out]; simp) (by omega)]), HB2.out⟩
                · by_cases f3 : 3 < s.f
                  · have HO1 := Lib.hid (show kOk ps 0 = false by rw [HO.out, hRS'.out]; exact HE.out (q + 1) M (by rw [HS2.out, hO2, show isrc s.f = false from decide_eq_false (by omega)]; simp) (by omega))
                    obtain ⟨sf, x0, x1, x2, x3, x4, x5, st⟩ := s
                    simp only [Sx] at HB2 HR2
                    dsimp only at f0 f3
                    clear hO2
                    go_wp2_with (refine at_load35 _ rfl rfl _ _ rfl hat2 ?_)
                    go_ret
                    exact ⟨ret_bool (by rw [HF.out, HN.out (by rw [HS.out, HO1.out]; simp) (by omega)]), HB2.out⟩
                  · have hY : isrc s.f = true := decide_eq_true (by omega)
                    by_cases ht : s.t < T
                    · have HO1 := Lib.hid (show kOk ps 0 = false by rw [HO.out, hRS'.out]; exact HE.out (q + 1) M (by rw [HS2.out, hO2, hY, decide_eq_false (by omega)]; simp) (by omega))
                      obtain ⟨sf, x0, x1, x2, x3, x4, x5, st⟩ := s
                      simp only [Sx] at HB2 HR2
                      dsimp only at f0 f3 ht
                      clear hO2 hY
                      go_wp2_with (refine at_load35 _ rfl rfl _ _ rfl hat2 ?_)
                      go_ret
                      exact ⟨ret_bool (by rw [HF.out, HN.out (by rw [HS.out, HO1.out]; simp) (by omega)]), HB2.out⟩
                    · have HO2 := Lib.hid (show rsP xs (q + 1) = true by rw [HS2.out, HI.out.1, hO2, hY, decide_eq_true (by omega)]; rfl)
                      obtain ⟨sf, x0, x1, x2, x3, x4, x5, st⟩ := s
                      simp only [Sx] at HB2 HR2
                      dsimp only at f0 f3 ht HP1
                      clear hO2 hY
                      go_wp2_with (refine at_load35 _ rfl rfl _ _ rfl hat2 ?_)
                      go_roundw
                      case rel => exact ⟨q + 1, by go_num, by omega, by rw [HP1.out], Lib.hid ⟨HO2.out, HB2.out, HR2.out⟩⟩
                      case measure => simp [intOf]; omega
              · obtain rfl : q = M := by omega
                have HO1 := Lib.hid (show kOk ps 0 = true by rw [HO.out, hRS'.out]; exact HI.out.1)
                go_wp2_with fail
                go_roundw
                case rel => exact ⟨0 + 1, by go_num, by omega, Lib.hid ⟨by rw [HS.out, HH.out.1, HO1.out]; rfl, HI.out.2.1⟩⟩
                case measure => simp [intOf]; omega
          · have HO1 := Lib.hid (show kOk ps 0 = false by rw [HO.out, hRS]; simp only [hl, decide_false, Bool.false_and])
            have hl2 : M = 0 ∨ 8 < M := by omega
            clear hRS HO
            rcases hl2 with h0 | h8
            · have m1 : decide ((M : Int) < 1) = true := decide_eq_true (by omega)
              clear h0
              go_wp2_with (refine at_load53 _ rfl rfl _ _ rfl hat ?_)
              go_upto_region 6 with fail
              clear hat HA1
              generalize wr.alloc (.cells #[.int .u32 xa, .slice P xs.length c] 53) = W1 at *
              generalize wr.heap.size = N1 at *
              rw [HMX.out] at b1 ⊢
              refine wp_region_quiet_lit (by kernel_rfl) (by kernel_rfl) ?_
              repeat (go_big_quiet_step (fail))
              refine wpQuiet_nil ?_
              rintro w7 ⟨dq, rfl⟩
              have HB7 := Lib.hid (bdrewN HB1.out dq)
              go_wp2_with fail
              go_ret
              exact ⟨ret_bool (by rw [HF.out, HN.out (by rw [HS.out, HO1.out]; simp) (by omega)]), HB7.out⟩
            · have m1 : decide ((M : Int) < 1) = false := decide_eq_false (by omega)
              have m8 : decide ((8 : Int) < M) = true := decide_eq_true (by omega)
              go_wp2_with (refine at_load53 _ rfl rfl _ _ rfl hat ?_)
              go_upto_region 6 with fail
              clear hat HA1
              generalize wr.alloc (.cells #[.int .u32 xa, .slice P xs.length c] 53) = W1 at *
              generalize wr.heap.size = N1 at *
              rw [HMX.out] at b1 ⊢
              refine wp_region_quiet_lit (by kernel_rfl) (by kernel_rfl) ?_
              repeat (go_big_quiet_step (fail))
              refine wpQuiet_nil ?_
              rintro w7 ⟨dq, rfl⟩
              have HB7 := Lib.hid (bdrewN HB1.out dq)
              go_wp2_with fail
              go_ret
              exact ⟨ret_bool (by rw [HF.out, HN.out (by rw [HS.out, HO1.out]; simp) (by omega)]), HB7.out⟩
        · obtain ⟨z, hz⟩ : ∃ z, ps[j]? = some z := ⟨_, List.getElem?_eq_getElem (by rw [HL.out]; omega)⟩
          obtain ⟨y', P', c', hy', hin', hat'⟩ := (R.out.below HH.out.2).kn hz
          obtain rfl : y = y' := by injection hy'
          have c0 : (wr.alloc (.cells #[.int .u32 x.a, .slice P x.ss.length c] 53)).cell? (y.add (j * 2)) = some (.int .u32 z.a) := by
            have h0 := hat' 0 _ rfl
            rw [Addr.add_add, Nat.add_zero] at h0
            rw [HA1.cell (World.block_lt_of_cell? _ _ h0)]
            exact h0
          have hO : kOk ps (j + 1) = (decide (z.a < x.a) && rsB x.ss) := by simp [kOk, hx, hz]
          have hj : IntKind.i64.wrap (j : Int) = (j : Int) := i64_nat (by omega)
          have hjL : (j : Int) < L := by omega
          clear hat' hy' hin'
          by_cases hlt2 : z.a < x.a
          · have HO := Lib.hid (show kOk ps (j + 1) = rsB x.ss by rw [hO, decide_eq_true hlt2]; rfl)
            have hle2 : ¬ x.a ≤ z.a := by omega
            obtain ⟨xa, xs⟩ := x
            dsimp only at hle2 X0 X1 hlc hl6 hRS hat HO b0 b1 c0 HB1 HR1
            have hle3 : decide (xa ≤ z.a) = false := decide_eq_false hle2
            clear hx hz hO hin
            obtain ⟨M, hM⟩ : ∃ M, xs.length = M := ⟨_, rfl⟩
            have HMX := Lib.hid hM
            rw [hM] at hlc hl6 hRS
            clear hM
            by_cases hl : 1 ≤ M ∧ M ≤ 8
            · have hRS' := Lib.hid (show rsB xs = rsP xs M by rw [hRS]; simp [hl.1, hl.2])
              have m1 : decide ((M : Int) < 1) = false := decide_eq_false (by omega)
              have m8 : decide ((8 : Int) < M) = false := decide_eq_false (by omega)
              have HE := Lib.hid (rsP_false xs)
              clear hRS
              go_wp2_with (refine at_load53 _ rfl rfl _ _ rfl hat ?_)
              go_upto_region 6 with fail
              clear hat HA1
              generalize wr.alloc (.cells #[.int .u32 xa, .slice P xs.length c] 53) = W1 at *
              generalize wr.heap.size = N1 at *
              rw [HMX.out] at b1 ⊢
              refine wp_region_quiet_lit (by kernel_rfl) (by kernel_rfl) ?_
              repeat (go_big_quiet_step (fail))
              refine wpQuiet_nil ?_
              rintro w7 ⟨dq, rfl⟩
              have HB7 := Lib.hid (bdrewN HB1.out dq)
              go_wp2_with fail
              go_loopw [5, 46] (fun v i wq => ∃ q : Nat, i = .int .i64 q ∧ q ≤ M ∧ v = .int .i64 (pt xs q) ∧ Hid (rsP xs q = true ∧ Below w.heap.size w wq ∧ Rw eS wq P xs)) (fun _ i _ => M - (intOf i).toNat)
              case atStart => exact ⟨0, rfl, by omega, rfl, Lib.hid ⟨rsP_zero _, HB7.out, HR1.out.drewN dq⟩⟩
              case round =>
                obtain ⟨q, rfl, hq, rfl, HI⟩ := hrel
                by_cases hqt : q < M
                · obtain ⟨s, hs⟩ : ∃ s, xs[q]? = some s := ⟨_, List.getElem?_eq_getElem (by rw [HMX.out]; exact hqt)⟩
                  obtain ⟨r, rfl⟩ := rw_some HI.out.2.2 (by rw [HMX.out]; omega)
                  have hat2 : ∀ j v, (sl s)[j]? = some v → wr.cell? ((r.add (q * 8)).add j) = some v := HI.out.2.2.at hs
                  have HS2 := Lib.hid (rsP_succ xs q)
                  have HP1 := Lib.hid (show pt xs (q + 1) = s.t by simp [pt, hs])
                  have hO2 : sOk xs q = (isrc s.f && decide (pt xs q ≤ s.t)) := by simp [sOk, hs]
                  have HA2 : Below wr.heap.size wr (wr.alloc (Sx s)) := (Below.refl _ wr).alloc (Nat.le_refl _) _
                  have HB2 := Lib.hid (bthen HI.out.2.1 HA2 HI.out.2.1.size)
                  have HR2 := Lib.hid (HI.out.2.2.below HA2)
                  generalize pt xs q = T at *
                  clear HA2 hs
                  by_cases f0 : s.f < 0
                  · have HO1 := Lib.hid (show kOk ps (j + 1) = false by rw [HO.out, hRS'.out]; exact HE.out (q + 1) M (by rw [HS2.out, hO2, show isrc s.f = false from decide_eq_false (by omega)]; simp) (by omega))
                    obtain ⟨sf, x0, x1, x2, x3, x4, x5, st⟩ := s
                    simp only [Sx] at HB2 HR2
                    dsimp only at f0
                    clear hO2
                    go_wp2_with (refine at_load35 _ rfl rfl _ _ rfl hat2 ?_)
                    go_ret
                    exact ⟨ret_bool (by rw [HF.out, HN.out (by rw [HS.out, HO1.out]; simp) (by omega)]), HB2.out⟩
                  · by_cases f3 : 3 < s.f
                    · have HO1 := Lib.hid (show kOk ps (j + 1) = false by rw [HO.out, hRS'.out]; exact HE.out (q + 1) M (by rw [HS2.out, hO2, show isrc s.f = false from decide_eq_false (by omega)]; simp) (by omega))
                      obtain ⟨sf, x0, x1, x2, x3, x4, x5, st⟩ := s
                      simp only [Sx] at HB2 HR2
                      dsimp only at f0 f3
                      clear hO2
                      go_wp2_with (refine at_load35 _ rfl rfl _ _ rfl hat2 ?_)
                      go_ret
                      exact ⟨ret_bool (by rw [HF.out, HN.out (by rw [HS.out, HO1.out]; simp) (by omega)]), HB2.out⟩
                    · have hY : isrc s.f = true := decide_eq_true (by omega)
                      by_cases ht : s.t < T
                      · have HO1 := Lib.hid (show kOk ps (j + 1) = false by rw [HO.out, hRS'.out]; exact HE.out (q + 1) M (by rw [HS2.out, hO2, hY, decide_eq_false (by omega)]; simp) (by omega))
                        obtain ⟨sf, x0, x1, x2, x3, x4, x5, st⟩ := s
                        simp only [Sx] at HB2 HR2
                        dsimp only at f0 f3 ht
                        clear hO2 hY
                        go_wp2_with (refine at_load35 _ rfl rfl _ _ rfl hat2 ?_)
                        go_ret
                        exact ⟨ret_bool (by rw [HF.out, HN.out (by rw [HS.out, HO1.out]; simp) (by omega)]), HB2.out⟩
                      · have HO2 := Lib.hid (show rsP xs (q + 1) = true by rw [HS2.out, HI.out.1, hO2, hY, decide_eq_true (by omega)]; rfl)
                        obtain ⟨sf, x0, x1, x2, x3, x4, x5, st⟩ := s
                        simp only [Sx] at HB2 HR2
                        dsimp only at f0 f3 ht HP1
                        clear hO2 hY
                        go_wp2_with (refine at_load35 _ rfl rfl _ _ rfl hat2 ?_)
                        go_roundw
                        case rel => exact ⟨q + 1, by go_num, by omega, by rw [HP1.out], Lib.hid ⟨HO2.out, HB2.out, HR2.out⟩⟩
                        case measure => simp [intOf]; omega
                · obtain rfl : q = M := by omega
                  have HO1 := Lib.hid (show kOk ps (j + 1) = true by rw [HO.out, hRS'.out]; exact HI.out.1)
                  go_wp2_with fail
                  go_roundw
                  case rel => exact ⟨(j + 1) + 1, by go_num, by omega, Lib.hid ⟨by rw [HS.out, HH.out.1, HO1.out]; rfl, HI.out.2.1⟩⟩
                  case measure => simp [intOf]; omega
            · have HO1 := Lib.hid (show kOk ps (j + 1) = false by rw [HO.out, hRS]; simp only [hl, decide_false, Bool.false_and])
              have hl2 : M = 0 ∨ 8 < M := by omega
              clear hRS HO
              rcases hl2 with h0 | h8
              · have m1 : decide ((M : Int) < 1) = true := decide_eq_true (by omega)
                clear h0
                go_wp2_with (refine at_load53 _ rfl rfl _ _ rfl hat ?_)
                go_upto_region 6 with fail
                clear hat HA1
                generalize wr.alloc (.cells #[.int .u32 xa, .slice P xs.length c] 53) = W1 at *
                generalize wr.heap.size = N1 at *
                rw [HMX.out] at b1 ⊢
                refine wp_region_quiet_lit (by kernel_rfl) (by kernel_rfl) ?_
                repeat (go_big_quiet_step (fail))
                refine wpQuiet_nil ?_
                rintro w7 ⟨dq, rfl⟩
                have HB7 := Lib.hid (bdrewN HB1.out dq)
                go_wp2_with fail
                go_ret
                exact ⟨ret_bool (by rw [HF.out, HN.out (by rw [HS.out, HO1.out]; simp) (by omega)]), HB7.out⟩
              · have m1 : decide ((M : Int) < 1) = false := decide_eq_false (by omega)
                have m8 : decide ((8 : Int) < M) = true := decide_eq_true (by omega)
                go_wp2_with (refine at_load53 _ rfl rfl _ _ rfl hat ?_)
                go_upto_region 6 with fail
                clear hat HA1
                generalize wr.alloc (.cells #[.int .u32 xa, .slice P xs.length c] 53) = W1 at *
                generalize wr.heap.size = N1 at *
                rw [HMX.out] at b1 ⊢
                refine wp_region_quiet_lit (by kernel_rfl) (by kernel_rfl) ?_
                repeat (go_big_quiet_step (fail))
                refine wpQuiet_nil ?_
                rintro w7 ⟨dq, rfl⟩
                have HB7 := Lib.hid (bdrewN HB1.out dq)
                go_wp2_with fail
                go_ret
                exact ⟨ret_bool (by rw [HF.out, HN.out (by rw [HS.out, HO1.out]; simp) (by omega)]), HB7.out⟩
          · have HO := Lib.hid (show kOk ps (j + 1) = false by rw [hO, decide_eq_false hlt2]; rfl)
            have hle2 : x.a ≤ z.a := by omega
            obtain ⟨xa, xs⟩ := x
            dsimp only at hle2 X0 X1 hlc hl6 hRS hat HO b0 b1 c0 HB1 HR1
            have hle3 : decide (xa ≤ z.a) = true := decide_eq_true hle2
            clear hx hz hO hin
            have HO1 := HO
            obtain ⟨M, hM⟩ : ∃ M, xs.length = M := ⟨_, rfl⟩
            have HMX := Lib.hid hM
            rw [hM] at hlc hl6
            clear hM hRS
            go_wp2_with (refine at_load53 _ rfl rfl _ _ rfl hat ?_)
            go_upto_region 6 with fail
            clear hat HA1
            generalize wr.alloc (.cells #[.int .u32 xa, .slice P xs.length c] 53) = W1 at *
            generalize wr.heap.size = N1 at *
            rw [HMX.out] at b1 ⊢
            refine wp_region_quiet_lit (by kernel_rfl) (by kernel_rfl) ?_
            repeat (go_big_quiet_step (fail))
            refine wpQuiet_nil ?_
            rintro w7 ⟨dq, rfl⟩
            have HB7 := Lib.hid (bdrewN HB1.out dq)
            go_wp2_with fail
            go_ret
            exact ⟨ret_bool (by rw [HF.out, HN.out (by rw [HS.out, HO1.out]; simp) (by omega)]), HB7.out⟩
      · obtain rfl : k = L := by omega
        go_wp2_with fail
        go_ret
        exact ⟨ret_bool (by rw [HF.out, HH.out.1]), HH.out.2⟩
end Go.Proofs.Ytcnhagcmklgpkaa
