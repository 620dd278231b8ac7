/-
  ProbeEnds's walk: a question that nobody answers is gone, when it was asked often enough, and waited each time. Conditions: what comes in lies in memory, and numbers have their bits.
-/
import Derived.BigGuard
import Derived.Test.YtjjbkhelnmdfnaaRightWalk
set_option linter.unusedSimpArgs false
set_option linter.unusedVariables false
namespace Go.Proofs.Ytjjbkhelnmdfnaa
open Go.RowKit

/-- When a question is gone at last. -/
def dl (wt ag : Int) (x : Pr) : Int := x.t + (if ag ≤ x.n then wt else wt * (1 + ag - x.n))
/-- All questions are gone in time. -/
def Jn (wt ag n0 E now : Int) (xs : List Pr) : Prop := ∀ x ∈ xs, dl wt ag x ≤ E ∧ (n0 < now → now < x.t + wt) ∧ x.t ≤ now
theorem jn_step {wt ag n0 E now : Int} {xs : List Pr} (hv : V xs) (hw0 : 1 ≤ wt) (hw1 : wt ≤ 6) (hg0 : 0 ≤ ag) (hg1 : ag ≤ 3) (h0 : 0 ≤ n0) (h1 : n0 ≤ now) (h2 : now ≤ 1000000) (hE : E = n0 + (ag + 1) * wt) (h : Jn wt ag n0 E now xs) : Jn wt ag n0 E (now + 1) (ltO wt ag (now + 1) 64 xs).1 := by
  intro p hp
  obtain ⟨x, hx, hc⟩ := lt_mem hp
  obtain ⟨g1, g2, g3⟩ := h x hx
  obtain ⟨-, -, -, t0, t1, m0, m1⟩ := rq_out (hv.r.all x hx)
  have hl := hv.r.few
  have hsi : si (now + 1) x.t = now + 1 - x.t := by unfold si; rw [cl_in (by omega) (by omega), cl_in t0 t1]
  rw [hsi] at hc
  rcases hc with ⟨rfl, hc⟩ | ⟨rfl, hc, hn⟩
  · exact ⟨g1, fun _ => by omega, by omega⟩
  · have ht : (nx (now + 1) x).t = now + 1 := cl_in (by omega) (by omega)
    have hnn : (nx (now + 1) x).n = x.n + 1 := rfl
    refine ⟨?_, fun _ => by rw [ht]; omega, by rw [ht]; exact Int.le_refl _⟩
    unfold dl at g1 ⊢
    rw [ht, hnn]
    rw [if_neg (by omega)] at g1
    obtain ⟨m, hm⟩ : ∃ m, x.n = m := ⟨_, rfl⟩
    rw [hm] at g1 hn m0 ⊢
    have hag : ag = 1 ∨ ag = 2 ∨ ag = 3 := by omega
    have hmm : m = 0 ∨ m = 1 ∨ m = 2 := by omega
    rcases hag with rfl | rfl | rfl <;> rcases hmm with rfl | rfl | rfl
    all_goals first | (exfalso; omega) | skip
    all_goals split
    all_goals first | (exfalso; omega) | skip
    all_goals (by_cases hlt : n0 < now)
    all_goals first | (have := g2 hlt; omega) | omega
theorem jn_start {wt ag n0 E : Int} {s : List Pr × Int} (hv : Vn s) (hw0 : 1 ≤ wt) (hg0 : 0 ≤ ag) (hg1 : ag ≤ 3) (hn : s.2 = n0) (hE : E = n0 + (ag + 1) * wt) : Jn wt ag n0 E n0 s.1 := by
  intro x hx
  have h := hv.now x hx
  obtain ⟨-, -, -, t0, t1, m0, m1⟩ := rq_out (hv.v.r.all x hx)
  refine ⟨?_, fun h => absurd h (by omega), by omega⟩
  unfold dl
  have hag : ag = 0 ∨ ag = 1 ∨ ag = 2 ∨ ag = 3 := by omega
  split
  · rcases hag with rfl | rfl | rfl | rfl <;> omega
  · obtain ⟨m, hm⟩ : ∃ m, x.n = m := ⟨_, rfl⟩
    rename_i hlt
    rw [hm] at m0 hlt ⊢
    have hmm : m = 0 ∨ m = 1 ∨ m = 2 := by omega
    rcases hag with rfl | rfl | rfl | rfl <;> rcases hmm with rfl | rfl | rfl
    all_goals omega
theorem jn_end {wt ag n0 E now : Int} {xs : List Pr} (hv : V xs) (hw0 : 1 ≤ wt) (hlt : n0 < now) (hE : E ≤ now) (h : Jn wt ag n0 E now xs) : xs = [] := by
  cases xs with
  | nil => rfl
  | cons x r =>
    exfalso
    obtain ⟨g1, g2, g3⟩ := h x (by simp)
    have := g2 hlt
    obtain ⟨-, -, -, t0, t1, m0, m1⟩ := rq_out (hv.r.all x (by simp))
    unfold dl at g1
    split at g1
    · omega
    · rename_i hn
      have : wt * 1 ≤ wt * (1 + ag - x.n) := Int.mul_le_mul_of_nonneg_left (by omega) (by omega)
      omega

set_option maxRecDepth 100000 in
set_option maxHeartbeats 8000000 in
theorem probeEnds_walk (x : Hc) (B : Option Addr) (ys : List Ac) (cy : Nat) (w : World) (hx : x.Ok) (hB : Rw eC w B ys) (hcy : ys.length ≤ cy) (hok : ∀ y ∈ ys, y.Ok) :
    Calls Try.prog 6 #[hv x, .slice B ys.length cy] w fun e w' => e = .returned (.bool true) ∧ Below w.heap.size w w' := by
  have B0 := Lib.hid (show Below w.heap.size w (w.alloc (Hcx x)) from (Below.refl _ w).alloc (Nat.le_refl _) _)
  have M0 := Lib.hid (show Hm (w.alloc (Hcx x)) w.heap.size x from hc_box w x)
  have RB0 := Lib.hid (hB.below B0.out)
  have HCH := Lib.hid fun W => choice_any x W hx
  obtain ⟨hg0, hg1⟩ := ch_g x
  obtain ⟨hf0, hf1⟩ := ch_f x
  have HSO := Lib.hid fun W (hR : Rw eC W B ys) => some_any (ch x) B ys cy W hR hok hcy (by omega)
  obtain ⟨vn, v3⟩ := smO_ok (ch x).f (ch x).g (by omega) (ys.take 60) (fun y hy => hok y (List.mem_of_mem_take hy)) (by rw [List.length_take]; omega)
  have v4 : (smO (ch x).f (ch x).g (ys.take 60)).2 ≤ 240 := by rw [List.length_take] at v3; omega
  generalize smO (ch x).f (ch x).g (ys.take 60) = s at *
  generalize ch x = C at *
  generalize ys.length = Ly at *
  obtain ⟨K, hK⟩ : ∃ K : Nat, (C.g + 1) * C.f = K := ⟨((C.g + 1) * C.f).toNat, by
    have : 0 ≤ (C.g + 1) * C.f := Int.mul_nonneg (by omega) (by omega)
    omega⟩
  have hK1 : 1 ≤ K ∧ K ≤ 24 := by
    have hag : C.g = 0 ∨ C.g = 1 ∨ C.g = 2 ∨ C.g = 3 := by omega
    rcases hag with h | h | h | h <;> rw [h] at hK <;> omega
  obtain ⟨hK0, hK1⟩ := hK1
  have HJ0 := Lib.hid (jn_start (wt := C.f) (ag := C.g) vn hf0 hg0 hg1 rfl rfl)
  have HJS := Lib.hid (fun now xs hv h1 h2 h => jn_step (wt := C.f) (ag := C.g) (n0 := s.2) (now := now) (xs := xs) hv hf0 hf1 hg0 hg1 vn.n0 h1 h2 rfl h)
  have HJE := Lib.hid (fun now xs hv hlt hE h => jn_end (wt := C.f) (ag := C.g) (n0 := s.2) (E := s.2 + (C.g + 1) * C.f) (now := now) (xs := xs) hv hf0 hlt hE h)
  rw [hK] at HJ0 HJS HJE
  have HLN := Lib.hid (fun now xs => lt_len C.f C.g now 64 xs)
  have HLO := Lib.hid (fun now xs (h : V xs) => lt_ok (wt := C.f) (ag := C.g) (now := now) (room := 64) h (by omega))
  have HLT := Lib.hid fun now A ss cs W hR hl hv => late_any C now 64 A ss cs W hR hl (V.n hv)
  have HMU := Lib.hid hK
  have hn0 := vn.n0
  have HV := Lib.hid vn.v
  clear hB hok v3 vn hK
  obtain ⟨ss, nw⟩ := s
  dsimp only at *
  unfold hv Hcx cfv at *
  go_enter Try.func6, Try.ntmps6
  go_wp2_with fail
  generalize w.alloc (.cells #[.int .u8 x.a, .int .u8 x.b, .int .u8 x.c, .int .u8 x.d, .int .u8 x.e, .int .u8 x.f, .int .u8 x.g, .int .u8 x.h, .int .u8 x.i] 23) = W0 at *
  refine (awake_any W0).mono ?_
  rintro e W1 ⟨rfl, hb⟩
  have B1 := Lib.hid (B0.out.trans (hb.mono B0.out.size))
  have M1 := Lib.hid (M0.out.below hb)
  have RB1 := Lib.hid (RB0.out.below hb)
  clear hb M0 RB0
  go_wp2_with (refine at_load23 (.tmp 2) rfl rfl _ x rfl M1.out ?_)
  refine (HCH.out W1).mono ?_
  rintro e W2 ⟨rfl, hb⟩
  have B2a := Lib.hid (B1.out.trans (hb.mono B1.out.size))
  have RB2a := Lib.hid (RB1.out.below hb)
  have C2 := Lib.hid (cm_box W2 C)
  have B2 := Lib.hid (B2a.out.alloc B2a.out.size (Cfx C))
  have RB2 := Lib.hid (RB2a.out.below ((Below.refl _ W2).alloc (Nat.le_refl _) (Cfx C)))
  clear hb RB1 M1 B2a RB2a
  go_upto_region 4 with fail
  change Code.wp _ _ _ _ (W2.alloc (Cfx C))
  generalize W2.alloc (Cfx C) = W3 at *
  obtain ⟨bc, hbc⟩ : ∃ bc, W2.heap.size = bc := ⟨_, rfl⟩
  rw [hbc] at C2 ⊢
  clear hbc
  go_wp2_with (refine at_load27 (.tmp 5) rfl rfl _ C rfl C2.out.at ?_)
  refine (HSO.out W3 RB2.out).mono ?_
  rintro e W4 ⟨As, cs, rfl, hcs, hRs, hb⟩
  dsimp only at hcs hRs
  have B4 := Lib.hid (B2.out.trans (hb.mono B2.out.size))
  have C4 := Lib.hid (C2.out.below hb)
  have RS4 := Lib.hid hRs
  have HCS := Lib.hid hcs
  clear hb hRs hcs B2 C2
  dsimp only
  go_wp2_with fail
  go_loopw [6, 7, 8] (fun v t i wr => ∃ (k : Nat) (xs : List Pr) (L : Nat) (A1 : Option Addr) (c1 : Nat), i = .int .i64 k ∧ k ≤ K ∧ v = .slice A1 L c1 ∧ L ≤ 16 ∧ t = .int .i64 (nw + k) ∧ Hid (xs.length = L ∧ L ≤ c1 ∧ Rw eP wr A1 xs ∧ V xs ∧ Jn C.f C.g nw (nw + K) (nw + k) xs ∧ Below w.heap.size w wr ∧ Cm wr bc C)) (fun _ _ i _ => K - (intOf i).toNat)
  case atStart => exact ⟨0, ss, ss.length, As, cs, rfl, by omega, rfl, HV.out.r.few, by simp, Lib.hid ⟨rfl, HCS.out, RS4.out, HV.out, by simpa using HJ0.out, B4.out, C4.out⟩⟩
  case round =>
    obtain ⟨k, xs, L, A1, c1, rfl, hk, rfl, hL16, rfl, HR⟩ := hrel
    obtain ⟨HL, hc1, hR, hV, hJ, hBB, hC⟩ := HR.out
    have R1 := Lib.hid hR
    have V1 := Lib.hid hV
    have J1 := Lib.hid hJ
    have C1 := Lib.hid hC
    have BB := Lib.hid hBB
    have HL := Lib.hid HL
    have HC1 := Lib.hid hc1
    have c5 := hC.c5
    have c6 := hC.c6
    have hmul : wrap64 ((C.g + 1) * C.f) = K := by rw [HMU.out]; unfold wrap64; omega
    clear hR hV hJ hC hBB hc1 HR
    by_cases hkK : k < K
    · by_cases hL0 : 0 < L
      · have h63 : (L : Int) ≤ 16 := by omega
        have HLA := Lib.hid (HLT.out (nw + k + 1) A1 xs c1)
        have HO := Lib.hid (HLO.out (nw + k + 1) xs V1.out)
        obtain ⟨l1, l2⟩ := HLN.out (nw + k + 1) xs
        have HJ := Lib.hid (HJS.out (nw + k) xs V1.out (by omega) (by omega) J1.out)
        rw [HL.out] at HLA l1
        generalize ltO C.f C.g (nw + k + 1) 64 xs = S at *
        obtain ⟨S1, S2⟩ := S
        dsimp only at HO l1 l2 HJ
        have hf9 := HL.out
        go_wp2_with (refine at_load27 (.tmp 5) rfl rfl _ C rfl C1.out.at ?_)
        refine (HLA.out wr R1.out (by omega) V1.out).mono ?_
        rintro e W5 ⟨A2, c2, A3, c3, rfl, hc2, -, hR2, -, hb⟩
        dsimp only at hc2 hR2 ⊢
        have B5 := Lib.hid (BB.out.trans (hb.mono BB.out.size))
        have C5 := Lib.hid (C1.out.below hb)
        have R5 := Lib.hid hR2
        have HC5 := Lib.hid hc2
        clear hb hR2 hc2 c5 c6
        obtain ⟨n1, hn1⟩ : ∃ n, S1.length = n := ⟨_, rfl⟩
        obtain ⟨n2, hn2⟩ : ∃ n, S2.length = n := ⟨_, rfl⟩
        have HN1 := Lib.hid hn1
        rw [hn1] at l1 l2 HC5 ⊢
        rw [hn2] at l2 ⊢
        clear hn1 hn2
        have g1 : decide (L < n1) = false := decide_eq_false (by omega)
        have g2 : decide (n1 < n2) = false := decide_eq_false (by omega)
        have hn16 : n1 ≤ 16 := by omega
        go_wp2_with fail
        go_roundw
        case rel => exact ⟨k + 1, S1, n1, A2, c2, by go_num, by omega, rfl, hn16, by go_num, Lib.hid ⟨HN1.out, HC5.out, R5.out, HO.out, by have := HJ.out; rwa [show nw + (k : Int) + 1 = nw + ((k + 1 : Nat) : Int) by omega] at this, B5.out, C5.out⟩⟩
        case measure => simp [intOf]; omega
      · obtain rfl : L = 0 := by omega
        go_wp2_with fail
        go_ret
        exact ⟨rfl, BB.out⟩
    · obtain rfl : K = k := by omega
      have h0 := HJE.out (nw + K) xs V1.out (by omega) (by omega) J1.out
      have hL := HL.out
      rw [h0] at hL
      obtain rfl : L = 0 := by simpa using hL.symm
      clear h0 hL
      go_wp2_with fail
      go_ret
      exact ⟨rfl, BB.out⟩
end Go.Proofs.Ytjjbkhelnmdfnaa
