/-
  WalScript's walk: for every number and every row of deeds it returns true, and nothing that was in memory is touched. Conditions: the numbers have their bits; a row has at most 2^47 members, and not more than its room.
-/
import Derived.Test.YtjkfgdeiciligaaTake
import Derived.Deep.CutRange
import Derived.Deep.CutBlock
import Derived.IntWalk
set_option linter.unusedSimpArgs false
namespace Go.Proofs.Ytjkfgdeiciligaa
open Go.RowKit

theorem rf6_12 {L : Lk} {n : Nat} {room : Int} (h1 : L.broken = false) (h2 : 16384 < n) : rf6 L n room = 12 := by
  unfold rf6
  rw [if_neg (by rw [h1]; simp), if_pos h2]
theorem rf6_4 {L : Lk} {n : Nat} {room : Int} (h1 : L.broken = false) (h2 : ¬ 16384 < n) (h3 : room < ((sct n : Nat) : Int)) : rf6 L n room = 4 := by
  unfold rf6
  rw [if_neg (by rw [h1]; simp), if_neg h2, if_pos h3]
theorem rf6_0 {L : Lk} {n : Nat} {room : Int} (h1 : L.broken = false) (h2 : ¬ 16384 < n) (h3 : ¬ room < ((sct n : Nat) : Int)) : rf6 L n room = 0 := by
  unfold rf6
  rw [if_neg (by rw [h1]; simp), if_neg h2, if_neg h3]

set_option maxHeartbeats 8000000 in
set_option maxRecDepth 100000 in
theorem walScript_walk (s : Nat) (A : Option Addr) (xs : List Dd) (c : Nat) (w : World) (h : Ra w A xs) (hc : xs.length ≤ c) (hs : s < 65536) :
    Calls Try.prog 3 #[.int .u16 (s : Int), .slice A xs.length c] w fun e w' => e = .returned (.bool true) ∧ Below w.heap.size w w' := by
  have AW := Lib.hid (awake_any w)
  obtain ⟨n, hn⟩ : ∃ n, n = min xs.length 60 := ⟨_, rfl⟩
  have EX : min (xs.length : Int) 60 = (n : Int) := by omega
  have hnc : n ≤ c := by omega
  have hn60 : n ≤ 60 := by omega
  have HNX := Lib.hid (show n ≤ xs.length by omega)
  have H := Lib.hid h
  have hxl := h.1
  clear h hn
  obtain ⟨hf, hhf⟩ : ∃ hf : Nat, hf = 4 + s % 253 := ⟨_, rfl⟩
  have E1 : 4 + (s : Int) % 253 = (hf : Int) := by omega
  obtain ⟨nn, hnn⟩ : ∃ nn : Nat, nn = 2 * hf + s % 2 := ⟨_, rfl⟩
  have E2 : 2 * (hf : Int) + (s : Int) % 2 = (nn : Int) := by omega
  have hf4 : 4 ≤ hf := by omega
  have hf256 : hf ≤ 256 := by omega
  obtain ⟨md, hmd⟩ : ∃ md : Nat, md = min nn 512 := ⟨_, rfl⟩
  have HMD := Lib.hid (show md / 2 = hf ∧ md ≤ 512 by omega)
  have HEM := Lib.hid (show min (max (nn : Int) 0) 512 = (md : Int) by omega)
  clear hhf hnn hmd
  go_enter Try.func3, Try.ntmps3
  go_wp2_with fail
  refine AW.out.mono ?_
  rintro e w1 ⟨rfl, b1⟩
  have B1 := Lib.hid b1
  clear b1 AW
  go_wp2_with fail
  refine (of_at (N := w.heap.size) (w0 := w) nn md HEM.out w1 B1.out (Nat.le_refl _)).mono ?_
  rintro e w2 ⟨p, k, rfl, a2⟩
  have C2 := Lib.hid (open_new md a2 (by have := HMD.out.1; omega) HMD.out.2)
  rw [HMD.out.1] at C2
  clear a2
  go_wp2_with fail
  refine C2.out.mono ?_
  rintro e w3 ⟨q, pv3, rv3, M3, rfl, a3, s3, k3⟩
  have A3 := Lib.hid a3
  have S3 := Lib.hid s3
  have K3 := Lib.hid k3
  clear a3 s3 k3 C2
  have C4 : Hid (∀ e w', (e = Ending.returned (.bool true) ∧ Below (w3.alloc (.cells #[.string ⟨#[]⟩] 9)).heap.size (w3.alloc (.cells #[.string ⟨#[]⟩] 9)) w') → True) := fun _ _ _ => trivial
  have CS : Hid (Calls Try.prog 11 #[.pointer (some ⟨q, 0, none⟩), .slice (some ⟨w3.heap.size, 0, none⟩) 1 1, .int .i64 1] (w3.alloc (.cells #[.string ⟨#[]⟩] 9)) fun e w' => e = .returned (.bool true) ∧ Below (w3.alloc (.cells #[.string ⟨#[]⟩] 9)).heap.size (w3.alloc (.cells #[.string ⟨#[]⟩] 9)) w') := by
    have hb := (Below.refl _ w3).alloc (Nat.le_refl _) (.cells #[.string ⟨#[]⟩] 9)
    obtain ⟨A', c', e', hst⟩ := (Sr.one w3 (fs (ft p k pv3) q rv3) [] (fun i => by simp) (fun b hb => A3.out.lt hb)).shape
    injection e' with e1 _ e2
    subst e1 e2
    exact shows_yes _ [[]] 1 1 (A3.out.l.below hb) (by show 1 ≤ 1000; omega) hst rfl rfl
  clear C4
  go_wp2_with fail
  refine CS.out.mono ?_
  rintro e w5 ⟨rfl, b5⟩
  have A5 := Lib.hid ((A3.out.below (Nat.le_refl _) ((Below.refl _ w3).alloc (Nat.le_refl _) (.cells #[.string ⟨#[]⟩] 9))).below (Nat.le_refl _) b5)
  have W5 : Hid (Wt w.heap.size w (w5.alloc (.cells #[.string ⟨#[]⟩] 9)) p k pv3 M3 q rv3 ⟨hf, hf, 1, 2, [[]], false⟩ (.slice (some ⟨w5.heap.size, 0, none⟩) 1 1) [[]] md 0) := by
    refine ⟨A5.out.below (Nat.le_refl _) ((Below.refl _ w5).alloc (Nat.le_refl _) _), S3.out, Tr.new w5 _ _ A5.out.b.size [] (fun i => by simp) (fun b hb => A5.out.lt hb), K3.out.n, K3.out.stop rfl, K3.out.fail rfl, ?_, by show 1 ≤ 1 + 0; omega⟩
    have h1 := K3.out.calls
    have e : (⟨md, fun _ => zer, [], 0, none, none, false⟩ : Dk).calls = 0 := rfl
    rw [e] at h1
    omega
  clear b5 CS A3 A5 S3 K3 HEM
  go_upto_block 0 with fail
  generalize hw5 : w5.alloc _ = w6 at *
  clear hw5
  go_wp2_with fail
  go_loopg [7, 9, 10, 11, 54] n (fun m v7 v9 v10 v11 v54 wr => ∃ (i q : Nat) (pv : Value) (M : Dk) (rv : Value) (L : Lk) (Av : Option Addr) (cv : Nat), i + m = n ∧ v54 = .int .i64 (i : Int) ∧ v7 = .pointer (some ⟨q, 0, none⟩) ∧ v9 = .slice Av L.recs.length cv ∧ v10 = .int .i64 (L.turn : Int) ∧ v11 = .int .i64 (L.fin : Int) ∧ Hid (Wt w.heap.size w wr p k pv M q rv L (.slice Av L.recs.length cv) L.recs md i))
  case atStart => exact ⟨0, q, _, _, _, _, _, _, by omega, rfl, rfl, rfl, rfl, rfl, W5.out⟩
  case round =>
    clear W5
    obtain ⟨i, q, pv, M, rv, L, Av, cv, hi, rfl, rfl, rfl, rfl, rfl, HH⟩ := hrel
    match gk with
    | 0 =>
      obtain rfl : i = n := by omega
      have BF := Lib.hid HH.out.at'.b
      go_wp2_with fail
      go_ret
      exact ⟨rfl, BF.out⟩
    | m + 1 =>
      have hin : i < n := by omega
      have hi60 : i ≤ 60 := by omega
      obtain ⟨a, ha⟩ : ∃ a, xs[i]? = some a := ⟨_, List.getElem?_eq_getElem (by have := HNX.out; omega)⟩
      have HRA := H.out.below (HH.out.at'.b.mono (Nat.le_refl _))
      obtain ⟨hok, y, hAy, hcy⟩ := HRA.2 i a ha
      have HOK0 := Lib.hid (H.out.2 i a ha).1
      subst hAy
      have hop := hok.op
      have HOK := Lib.hid hok
      have hld : ∀ j v, (dc a)[j]? = some v → wr.cell? ((y.add (i * 3)).add j) = some v := fun j v hv => by rw [Addr.add_add]; exact hcy j v hv
      have TA := thereOA wr ZA
      have RA := Lib.hid (heldA_range wr a)
      have BA := Lib.hid (heldA_below wr a)
      clear hcy HRA hok ha
      unfold heldA at *
      go_upto_region 12 with (first
        | (with_reducible show wpList _ _ _ _ _ wr; first | (refine at_load35 (.tmp 56) rfl rfl (y.add (i * 3)) a (by simp [Act.eval, Act.put]) hld ?_) | (refine at_alloc35 rfl rfl ?_))
        | (with_reducible show wpList _ _ _ _ _ (wr.alloc (OA ZA)); refine at_store35 (.tmp 13) (.tmp 57) rfl rfl wr.heap.size 0 a (by simp [Act.eval, Act.put]) (by simp [Act.eval, Act.put]) TA ?_))
      have WA := Lib.hid (HH.out.below (Nat.le_refl _) BA.out)
      have HOK1 := Lib.hid (HOK.out.below BA.out)
      have hld2 : ∀ j v, (dc a)[j]? = some v → ((wr.alloc (OA ZA)).setCells wr.heap.size 0 (dc a)).cell? ((⟨wr.heap.size, 0, none⟩ : Addr).add j) = some v := fun j v hv => by rw [Addr.add_mid]; exact RA.out j v hv
      have hNa : wr.heap.size < ((wr.alloc (OA ZA)).setCells wr.heap.size 0 (dc a)).heap.size := heldA_size wr a
      generalize (wr.alloc (OA ZA)).setCells wr.heap.size 0 (dc a) = wa at *
      generalize wr.heap.size = Na at *
      have cA0 : wa.cell? ⟨Na, 0, none⟩ = some (.int .u8 (a.op : Int)) := by have := hld2 0 _ rfl; rwa [Addr.add_mid] at this
      have CA0 := Lib.hid cA0
      clear HH BA TA hld RA HOK cA0
      go_wp2_with (refine at_load35 (.tmp 13) ?_ ?_ ⟨Na, 0, none⟩ a ?_ hld2 ?_; (with_reducible rfl); (with_reducible rfl); rfl)
      refine (bytes_any a wa HOK1.out).mono ?_
      rintro e wb ⟨Ab, cb, zs, rfl, hrd, hzc, hzl, hbb, haw⟩
      have WB := Lib.hid (WA.out.below (Nat.le_refl _) hbb)
      have HRD := Lib.hid hrd
      have AWY : Hid (∀ x, zs ≠ [] → Ab = some x → ¬ fs (ft p k pv) q rv x.block) := fun x hx hA hfs => by
        rcases haw x hx hA with h1 | ⟨h1, h2⟩
        · have := WA.out.at'.lt hfs; omega
        · have h3 := rd_lt HOK0.out.rd x h2 (h1 ▸ hA)
          have h4 := WA.out.at'.new _ hfs
          omega
      have cA0 : wb.cell? ⟨Na, 0, none⟩ = some (.int .u8 (a.op : Int)) := by rw [hbb.cell (p := ⟨Na, 0, none⟩) hNa]; exact CA0.out
      have hmd : md ≤ 512 := HMD.out.2
      have hLs : L.size = hf := by have h1 := WB.out.sys.half; have h2 := WB.out.n; have h3 := HMD.out.1; rw [h2, h3] at h1; exact h1.symm
      have hsm := WB.out.sys.small (by have := WB.out.n; omega)
      have hbk := WB.out.sys.ok
      have HBK := Lib.hid hbk
      have hLt := WB.out.turn
      clear WA hrd hbb haw hld2 HOK1 CA0 hbk
      go_upto_block 2 with fail
      clear cA0 hNa
      have HLS := Lib.hid hLs
      clear hLs
      go_cut [7, 9, 10, 11, 15, 16] from 55 to 141 (fun v7 v9 v10 v11 v15 v16 wc => ∃ (q2 : Nat) (pv2 : Value) (M2 : Dk) (rv2 : Value) (L2 : Lk) (A2 : Option Addr) (c2 : Nat) (er : Int), v7 = .pointer (some ⟨q2, 0, none⟩) ∧ v9 = .slice A2 L2.recs.length c2 ∧ v10 = .int .i64 (L2.turn : Int) ∧ v11 = .int .i64 (L2.fin : Int) ∧ v15 = .int .i64 er ∧ v16 = .int .i64 er ∧ Hid (Wt w.heap.size w wc p k pv2 M2 q2 rv2 L2 (.slice A2 L2.recs.length c2) L2.recs md (i + 1)))
      case first => as_aux_lemma =>
        have hmd : md ≤ 512 := HMD.out.2
        have CN := Lib.hid fun W => need_any zs.length W (by omega)
        have hsb : sct zs.length ≤ 300 := by unfold sct; omega
        have WT := Lib.hid (show IntKind.i64.wrap ((L.turn : Int) + 1) = (L.turn : Int) + 1 from IntWalk.i64_in _ (by omega))
        have WS := Lib.hid (show IntKind.i64.wrap (1 + ((sct zs.length : Nat) : Int)) = 1 + ((sct zs.length : Nat) : Int) from IntWalk.i64_in _ (by omega))
        by_cases h0 : a.op % 8 = 0
        · have e0 : (((a.op : Int) % 8) == 0) = true := by rw [beq_iff_eq]; omega
          have CO := Lib.hid (open_calm WB.out (Nat.le_refl _) hmd hi60)
          go_wp2_with fail
          refine CO.out.mono ?_
          rintro e wc ⟨q', pv', rv', M', rfl, hw⟩
          have HW := Lib.hid hw
          clear hw CO
          go_wp2_with fail
          go_meet
          case rel => exact ⟨q', pv', M', rv', L, Av, cv, 0, rfl, rfl, rfl, rfl, rfl, rfl, HW.out⟩
        · have e0 : (((a.op : Int) % 8) == 0) = false := by rw [beq_eq_false_iff_ne]; omega
          have hls := HLS.out
          by_cases h1 : a.op % 8 = 1
          · have e1 : (((a.op : Int) % 8) == 1) = true := by rw [beq_iff_eq]; omega
            by_cases hz : 16384 < zs.length
            · have hz' : (16384 : Int) < (zs.length : Int) := by omega
              have CE := Lib.hid (begin_err Ab zs cb WB.out (Nat.le_refl _) hmd hi60 HRD.out AWY.out hzc hzl (rf6_12 HBK.out hz) (by decide))
              go_wp2_with fail
              refine CE.out.mono ?_
              rintro e wc ⟨rfl, pv', rv', hw⟩
              have HW := Lib.hid hw
              clear hw CE
              go_wp2_with fail
              go_meet
              case rel => exact ⟨q, pv', M, rv', L, Av, cv, 12, rfl, rfl, rfl, rfl, rfl, rfl, HW.out⟩
            · have hz' : ¬ (16384 : Int) < (zs.length : Int) := by omega
              by_cases hq : ((L.size : Int) - 1) < ((sct zs.length : Nat) : Int)
              · have hqn : hf < 1 + sct zs.length := by omega
                have hqd : decide (hf < 1 + sct zs.length) = true := decide_eq_true hqn
                have hq' : (hf : Int) < 1 + ((sct zs.length : Nat) : Int) := by omega
                have CE := Lib.hid (begin_err Ab zs cb WB.out (Nat.le_refl _) hmd hi60 HRD.out AWY.out hzc hzl (rf6_4 HBK.out hz hq) (by decide))
                go_wp2_with fail
                refine CE.out.mono ?_
                rintro e wc ⟨rfl, pv', rv', hw⟩
                have HW := Lib.hid hw
                clear hw CE
                go_wp2_with fail
                refine (CN.out _).mono ?_
                rintro e wd ⟨rfl, rfl⟩
                go_wp2_with fail
                go_meet
                case rel => exact ⟨q, pv', M, rv', L, Av, cv, 4, rfl, rfl, rfl, rfl, rfl, rfl, HW.out⟩
              · have hqn : ¬ hf < 1 + sct zs.length := by omega
                have hqd : decide (hf < 1 + sct zs.length) = false := decide_eq_false hqn
                have hq' : ¬ (hf : Int) < 1 + ((sct zs.length : Nat) : Int) := by omega
                have CE := Lib.hid (begin_did Ab zs cb WB.out (Nat.le_refl _) hmd hi60 HRD.out AWY.out hzc hzl (rf6_0 HBK.out hz hq))
                go_wp2_with fail
                refine CE.out.mono ?_
                rintro e wc ⟨rfl, pv', rv', M', hw, hrd2⟩
                have HW := Lib.hid hw
                have CV0 : (convert 33 9 (.slice Ab zs.length cb)).run Try.prog wc.drew = .ok (.string (stg zs)) wc.drew := run_stg hrd2.drew cb
                have HF : Hid (Wt w.heap.size w (wc.drew.alloc (.cells #[.string (stg zs)] 9)) p k pv' M' q rv' (L.next zs) (.slice (some ⟨wc.heap.size, 0, none⟩) (L.next zs).recs.length 1) (L.next zs).recs md (i + 1)) :=
                  ((HW.out.drawn (Nat.le_refl _)).below (Nat.le_refl _) ((Below.refl _ wc.drew).alloc (Nat.le_refl _) _)).set (Tr.new wc.drew _ _ HW.out.at'.b.size zs HRD.out.2.1 (fun b hb => HW.out.at'.lt hb))
                clear hw CE
                go_wp2_with fail
                refine (CN.out _).mono ?_
                rintro e wd ⟨rfl, rfl⟩
                go_upto_region 32 with fail
                go_region_with (go_simp; go_at_call 14; refine (CN.out _).mono ?_; rintro e wd ⟨rfl, rfl⟩)
                all_goals
                  go_wp2_with fail
                  go_meet
                  case rel => exact ⟨q, pv', M', rv', L.next zs, some ⟨wc.heap.size, 0, none⟩, 1, 0, rfl, rfl, by simp [Lk.next, WT.out], by simp [Lk.next, WS.out], rfl, rfl, HF.out⟩
          · have e1 : (((a.op : Int) % 8) == 1) = false := by rw [beq_eq_false_iff_ne]; omega
            by_cases h2 : a.op % 8 = 2
            · have e2 : (((a.op : Int) % 8) == 2) = true := by rw [beq_iff_eq]; omega
              by_cases hz : 16384 < zs.length
              · have hz' : (16384 : Int) < (zs.length : Int) := by omega
                have CE := Lib.hid (begin_err Ab zs cb WB.out (Nat.le_refl _) hmd hi60 HRD.out AWY.out hzc hzl (rf6_12 HBK.out hz) (by decide))
                go_wp2_with fail
                refine CE.out.mono ?_
                rintro e wc ⟨rfl, pv', rv', hw⟩
                have HW := Lib.hid hw
                clear hw CE
                go_wp2_with fail
                go_meet
                case rel => exact ⟨q, pv', M, rv', L, Av, cv, 12, rfl, rfl, rfl, rfl, rfl, rfl, HW.out⟩
              · have hz' : ¬ (16384 : Int) < (zs.length : Int) := by omega
                by_cases hq : ((L.size : Int) - 1) < ((sct zs.length : Nat) : Int)
                · have hqn : hf < 1 + sct zs.length := by omega
                  have hqd : decide (hf < 1 + sct zs.length) = true := decide_eq_true hqn
                  have hq' : (hf : Int) < 1 + ((sct zs.length : Nat) : Int) := by omega
                  have CE := Lib.hid (begin_err Ab zs cb WB.out (Nat.le_refl _) hmd hi60 HRD.out AWY.out hzc hzl (rf6_4 HBK.out hz hq) (by decide))
                  go_wp2_with fail
                  refine CE.out.mono ?_
                  rintro e wc ⟨rfl, pv', rv', hw⟩
                  have HW := Lib.hid hw
                  clear hw CE
                  go_wp2_with fail
                  refine (CN.out _).mono ?_
                  rintro e wd ⟨rfl, rfl⟩
                  go_wp2_with fail
                  go_meet
                  case rel => exact ⟨q, pv', M, rv', L, Av, cv, 4, rfl, rfl, rfl, rfl, rfl, rfl, HW.out⟩
                · have hqn : ¬ hf < 1 + sct zs.length := by omega
                  have hqd : decide (hf < 1 + sct zs.length) = false := decide_eq_false hqn
                  have hq' : ¬ (hf : Int) < 1 + ((sct zs.length : Nat) : Int) := by omega
                  have CE := Lib.hid (begin_did Ab zs cb WB.out (Nat.le_refl _) hmd hi60 HRD.out AWY.out hzc hzl (rf6_0 HBK.out hz hq))
                  go_wp2_with fail
                  refine CE.out.mono ?_
                  rintro e wc ⟨rfl, pv', rv', M', hw, hrd2⟩
                  have HW := Lib.hid hw
                  have CV0 : (convert 33 9 (.slice Ab zs.length cb)).run Try.prog wc.drew = .ok (.string (stg zs)) wc.drew := run_stg hrd2.drew cb
                  have HF : Hid (Wt w.heap.size w (wc.drew.alloc (.cells #[.string (stg zs)] 9)) p k pv' M' q rv' (L.next zs) (.slice (some ⟨wc.heap.size, 0, none⟩) (L.next zs).recs.length 1) (L.next zs).recs md (i + 1)) :=
                    ((HW.out.drawn (Nat.le_refl _)).below (Nat.le_refl _) ((Below.refl _ wc.drew).alloc (Nat.le_refl _) _)).set (Tr.new wc.drew _ _ HW.out.at'.b.size zs HRD.out.2.1 (fun b hb => HW.out.at'.lt hb))
                  clear hw CE
                  go_wp2_with fail
                  refine (CN.out _).mono ?_
                  rintro e wd ⟨rfl, rfl⟩
                  go_upto_region 32 with fail
                  go_region_with (go_simp; go_at_call 14; refine (CN.out _).mono ?_; rintro e wd ⟨rfl, rfl⟩)
                  all_goals
                    go_wp2_with fail
                    go_meet
                    case rel => exact ⟨q, pv', M', rv', L.next zs, some ⟨wc.heap.size, 0, none⟩, 1, 0, rfl, rfl, by simp [Lk.next, WT.out], by simp [Lk.next, WS.out], rfl, rfl, HF.out⟩
            · have e2 : (((a.op : Int) % 8) == 2) = false := by rw [beq_eq_false_iff_ne]; omega
              by_cases hz : 16384 < zs.length
              · have hz' : (16384 : Int) < (zs.length : Int) := by omega
                have CE := Lib.hid (append_err Ab zs cb WB.out (Nat.le_refl _) hmd hi60 HRD.out AWY.out hzc hzl (rf6_12 HBK.out hz) (by decide))
                go_wp2_with fail
                refine CE.out.mono ?_
                rintro e wc ⟨rfl, pv', rv', hw⟩
                have HW := Lib.hid hw
                clear hw CE
                go_wp2_with fail
                go_meet
                case rel => exact ⟨q, pv', M, rv', L, Av, cv, 12, rfl, rfl, rfl, rfl, rfl, rfl, HW.out⟩
              · have hz' : ¬ (16384 : Int) < (zs.length : Int) := by omega
                by_cases hq : ((L.size : Int) - (L.fin : Int)) < ((sct zs.length : Nat) : Int)
                · have hqn : hf < L.fin + sct zs.length := by omega
                  have hqd : decide (hf < L.fin + sct zs.length) = true := decide_eq_true hqn
                  have hq' : (hf : Int) < (L.fin : Int) + ((sct zs.length : Nat) : Int) := by omega
                  have CE := Lib.hid (append_err Ab zs cb WB.out (Nat.le_refl _) hmd hi60 HRD.out AWY.out hzc hzl (rf6_4 HBK.out hz hq) (by decide))
                  go_wp2_with fail
                  refine CE.out.mono ?_
                  rintro e wc ⟨rfl, pv', rv', hw⟩
                  have HW := Lib.hid hw
                  clear hw CE
                  go_wp2_with fail
                  refine (CN.out _).mono ?_
                  rintro e wd ⟨rfl, rfl⟩
                  go_wp2_with fail
                  go_meet
                  case rel => exact ⟨q, pv', M, rv', L, Av, cv, 4, rfl, rfl, rfl, rfl, rfl, rfl, HW.out⟩
                · have hqn : ¬ hf < L.fin + sct zs.length := by omega
                  have hqd : decide (hf < L.fin + sct zs.length) = false := decide_eq_false hqn
                  have hq' : ¬ (hf : Int) < (L.fin : Int) + ((sct zs.length : Nat) : Int) := by omega
                  have CE := Lib.hid (append_did Ab zs cb WB.out (Nat.le_refl _) hmd hi60 HRD.out AWY.out hzc hzl (rf6_0 HBK.out hz hq))
                  go_wp2_with fail
                  refine CE.out.mono ?_
                  rintro e wc ⟨rfl, pv', rv', M', hw, hrd2⟩
                  have HW := Lib.hid hw
                  have CV0 : (convert 33 9 (.slice Ab zs.length cb)).run Try.prog wc = .ok (.string (stg zs)) wc := run_stg hrd2 cb
                  have HWA := Lib.hid (HW.out.below (Nat.le_refl _) ((Below.refl _ wc).alloc (Nat.le_refl _) (.cells #[.string (stg zs)] 9)))
                  have HC : Hid ((wc.alloc (.cells #[.string (stg zs)] 9)).cell? ⟨wc.heap.size, 0, none⟩ = some (.string (stg zs))) := by
                    show _ = _
                    rw [cell_of_row _ _ _ _ _ _ (heap_alloc_new wc _)]
                    rfl
                  have hrl : L.recs.length < 1000000 := by have := hsm.2.2.2; omega
                  clear hw CE
                  go_wp2_with fail
                  refine (CN.out _).mono ?_
                  rintro e wd ⟨rfl, rfl⟩
                  go_wp2_with (at_builtin; refine at_texts HWA.out (Nat.le_refl _) zs HRD.out.2.1 hrl wc.heap.size 1 HC.out (.tmp 76) (.tmp 79) rfl rfl (by simp [Act.eval, Act.put]) (by simp [Act.eval, Act.put]) ?_; intro g3 cap3 w9 HG)
                  refine (CN.out _).mono ?_
                  rintro e wd ⟨rfl, rfl⟩
                  have HF : Hid (Wt w.heap.size w w9 p k pv' M' q rv' (L.more zs) (.slice (some ⟨g3, 0, none⟩) (L.more zs).recs.length cap3) (L.more zs).recs md (i + 1)) := by
                    show Wt _ _ _ _ _ _ _ _ _ _ (.slice _ (L.recs ++ [zs]).length _) (L.recs ++ [zs]) _ _
                    rw [List.length_append, List.length_singleton]
                    exact HG.out
                  go_wp2_with fail
                  go_meet
                  case rel => exact ⟨q, pv', M', rv', L.more zs, some ⟨g3, 0, none⟩, cap3, 0, rfl, by simp [Lk.more], by simp [Lk.more], by simp [Lk.more], rfl, rfl, HF.out⟩
      case rest => as_aux_lemma =>
        obtain ⟨q2, pv2, M2, rv2, L2, A2, c2, er, rfl, rfl, rfl, rfl, rfl, rfl, HW⟩ := hcut
        generalize wc = wd at *
        have hmd : md ≤ 512 := HMD.out.2
        have hLs2 : L2.size = hf := by have h1 := HW.out.sys.half; have h2 := HW.out.n; have h3 := HMD.out.1; rw [h2, h3] at h1; exact h1.symm
        obtain ⟨hs1, _, hs2, hs3⟩ := HW.out.sys.small (by have := HW.out.n; omega)
        obtain ⟨A', c', e', hst⟩ := HW.out.sr.sr.shape
        injection e' with e1 _ e2
        subst e1 e2
        have CS := Lib.hid (shows_yes A2 L2.recs c2 (L2.turn : Int) HW.out.at'.l (by omega) hst rfl rfl)
        clear hst
        go_wp2_with fail
        refine CS.out.mono ?_
        rintro e we ⟨rfl, b6⟩
        have HX := Lib.hid (HW.out.below (Nat.le_refl _) b6)
        have CR := Lib.hid (room_any HX.out.at'.l (by omega) (by omega))
        rw [hLs2] at CR
        clear b6 CS HW
        go_wp2_with fail
        refine CR.out.mono ?_
        rintro e wf ⟨rfl, b7⟩
        have HY := Lib.hid (HX.out.below (Nat.le_refl _) b7)
        have CB := Lib.hid (broken_any HY.out.at'.l)
        rw [HY.out.sys.ok] at CB
        clear b7 CR HX
        go_wp2_with fail
        refine CB.out.mono ?_
        rintro e wg ⟨rfl, rfl⟩
        go_wp2_with fail
        go_roundg m
        case measure => omega
        case rel => exact ⟨i + 1, q2, pv2, M2, rv2, L2, A2, c2, by omega, by go_num, rfl, rfl, rfl, rfl, HY.out⟩
end Go.Proofs.Ytjkfgdeiciligaa
