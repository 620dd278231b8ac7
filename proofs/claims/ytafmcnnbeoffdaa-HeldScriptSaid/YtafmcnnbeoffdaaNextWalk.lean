/-
  HeldNext, walked. Conditions: the row that came in has not more than its room; the prefix's base is a number of 32 bits.
-/
import Derived.Test.YtafmcnnbeoffdaaSrt
set_option linter.unusedSimpArgs false
set_option linter.unusedVariables false
namespace Go.Proofs.Ytafmcnnbeoffdaa
open Go.RowKit

theorem Ra.oks {w : World} {A : Option Addr} {xs : List Ac} (h : Ra w A xs) : ∀ a ∈ xs, a.ok := by
  intro a ha
  obtain ⟨q, hq, rfl⟩ := List.mem_iff_getElem.1 ha
  exact (h.2 q _ (List.getElem?_eq_getElem hq)).1
def fv (a : Int) : Option Nat → Int
  | some j => a + j
  | none => 0
def fb : Option Nat → Bool
  | some _ => true
  | none => false
theorem fr_lt {ys : List Hr} {a : Int} : ∀ {k j : Nat}, fr ys a k = some j → j < k
  | 0, j, h => by simp [fr] at h
  | k + 1, j, h => by
    rw [fr] at h
    split at h
    · rename_i j' e
      injection h with h
      subst h
      have := fr_lt e
      omega
    · split at h
      · cases h
      · injection h with h; omega

set_option maxRecDepth 100000 in
set_option maxHeartbeats 4000000 in
theorem heldNext_walk (A : Option Addr) (xs : List Ac) (cap : Nat) (p q ra rb : Int) (w : World) (h : Ra w A xs) (hcap : xs.length ≤ cap) (p0 : 0 ≤ p) (p1 : p < 256) (q0 : 0 ≤ q) (q1 : q < 256) (r0 : 0 ≤ ra) (r1 : ra < 4294967296) :
    Calls Try.prog 6 #[.slice A xs.length cap, .int .u8 p, .int .u8 q, .agg #[.int .u32 ra, .int .i64 rb]] w fun e w' => e = .returned (.bool true) ∧ Below w.heap.size w w' := by
  obtain ⟨n, hn⟩ : ∃ n : Int, 26 + q % 7 = n := ⟨_, rfl⟩
  have n0 : 26 ≤ n := by omega
  have n1 : n ≤ 32 := by omega
  have hnn := near_in p
  have HN := Lib.hid fun W => near_any p W p0 p1
  generalize near p = na at *
  have hbs := bs_eq (n := n) hnn.1 hnn.2
  have hbi := bs_in (n := n) hnn.1 hnn.2
  have hok : okB (bs na n) n = true := bs_ok (by omega) (by omega)
  generalize bs na n = a at *
  obtain ⟨Z, hZ⟩ : ∃ Z : Nat, p2 n = Z := ⟨(p2 n).toNat, by have := p2_pos n; omega⟩
  have hz2 : (2 : Int) ^ (32 - n).toNat = Z := hZ
  rw [hz2] at hbs
  have hZ64 : Z ≤ 64 := by
    have h1 : p2 26 = 64 := by decide
    have h2 := Int.le_of_dvd (by rw [h1]; decide) (p2_dvd (a := 26) (b := n) n0)
    omega
  have hZ1 : 1 ≤ Z := by have := p2_pos n; omega
  have hrm := room hok hbi.2
  rw [hZ] at hrm
  have hsz : sizeOf a n = Z := by simp [sizeOf, hok, hZ]
  have HGD := Lib.hid (SM_good xs h.oks (min xs.length 60))
  have HSO := Lib.hid fun W (hW : Below w.heap.size w W) => some_any A xs cap W (h.below hW) hcap
  generalize SM xs (min xs.length 60) = ys at *
  have hnf := next_fr HGD.out.1 hsz
  have hcu := cn_used hok hZ ys
  obtain ⟨YL, hYL⟩ : ∃ YL, ys.length = YL := ⟨_, rfl⟩
  have HYL := Lib.hid hYL
  have HNF := Lib.hid hnf
  have HCU := Lib.hid hcu
  have HCS := Lib.hid fun k => cn_succ HGD.out.1 a k
  have HC0 := Lib.hid (cn_zero ys a)
  clear hok hZ hsz h hnf hcu hYL
  have hZi : (Z : Int) ≤ 64 := by omega
  go_enter Try.func6, Try.ntmps6
  go_wp2_with fail
  refine (awake_any _).mono ?_
  rintro e w1 ⟨rfl, hb1⟩
  have c0 : w1.cell? ⟨w.heap.size, 0, none⟩ = some (.int .u32 ra) := by rw [hb1.cell (p := ⟨w.heap.size, 0, none⟩) (by simp)]; simp
  have c1 : w1.cell? ⟨w.heap.size, 1, none⟩ = some (.int .i64 rb) := by rw [hb1.cell (p := ⟨w.heap.size, 1, none⟩) (by simp)]; simp
  have z1 : w.heap.size < w1.heap.size := by have := hb1.size; simp at this; omega
  have B1 := Lib.hid (hx_below _ hb1)
  clear hb1
  go_wp2_with fail
  refine (HSO.out _ B1.out).mono ?_
  rintro e w2 ⟨A2, c2, rfl, hc2, _, hH2, hb2⟩
  have B2 := Lib.hid (B1.out.trans (hb2.mono B1.out.size))
  have R2 := Lib.hid hH2
  rw [HYL.out] at hc2 ⊢
  have hY47 : YL ≤ 140737488355328 := by rw [← HYL.out]; exact hH2.1
  have d0 : w2.cell? ⟨w.heap.size, 0, none⟩ = some (.int .u32 ra) := by rw [hb2.cell (p := ⟨w.heap.size, 0, none⟩) z1]; exact c0
  have d1 : w2.cell? ⟨w.heap.size, 1, none⟩ = some (.int .i64 rb) := by rw [hb2.cell (p := ⟨w.heap.size, 1, none⟩) z1]; exact c1
  have z2 : w.heap.size < w2.heap.size := by have := hb2.size; omega
  clear hb2 hH2 HSO c0 c1 z1 B1
  go_wp2_with fail
  refine (HN.out _).mono ?_
  rintro e w3 ⟨rfl, rfl⟩
  have HB := Lib.hid (show ∀ wr, Below (w3.alloc (.cells #[.int .u32 a, .int .i64 n] 50)).heap.size (w3.alloc (.cells #[.int .u32 a, .int .i64 n] 50)) wr → wr.cell? ⟨w.heap.size, 0, none⟩ = some (.int .u32 ra) ∧ wr.cell? ⟨w.heap.size, 1, none⟩ = some (.int .i64 rb) ∧ wr.cell? ⟨w3.heap.size, 0, none⟩ = some (.int .u32 a) ∧ wr.cell? ⟨w3.heap.size, 1, none⟩ = some (.int .i64 n) ∧ w3.heap.size < wr.heap.size ∧ Below w.heap.size w wr ∧ Hs wr A2 ys from fun wr hW => by
    obtain ⟨e0, e1, e2, e3⟩ := bx_cells a n w3 wr hW
    refine ⟨?_, ?_, e0, e1, e2, B2.out.trans (e3.mono B2.out.size), R2.out.below e3⟩
    · rw [e3.cell (p := ⟨w.heap.size, 0, none⟩) z2]; exact d0
    · rw [e3.cell (p := ⟨w.heap.size, 1, none⟩) z2]; exact d1)
  have HGT := Lib.hid fun (v : Int) (h0 : 0 ≤ v) (h1 : v < 4294967296) W (hW : Hs W A2 ys) => get_any v A2 ys c2 W hW (by rw [HYL.out]; exact hc2) h0 h1
  rw [HYL.out] at HGT
  have HNX := Lib.hid fun (u v : Int) (h0 : 0 ≤ u) (h1 : u < 4294967296) W (hW : Hs W A2 ys) => next_any u v A2 ys c2 W hW (by rw [HYL.out]; exact hc2) h0 h1
  rw [HYL.out] at HNX
  have HUS := Lib.hid fun (u v : Int) (h0 : 0 ≤ u) (h1 : u < 4294967296) W (hW : Hs W A2 ys) => used_any u v A2 ys c2 W hW (by rw [HYL.out]; exact hc2) h0 h1
  rw [HYL.out] at HUS
  have HNN := Lib.hid hn
  clear HN d0 d1
  go_wp2_with fail
  generalize hw0 : w3.alloc (.cells #[.int .u32 a, .int .i64 n] 50) = W0 at *
  clear hn hbs
  go_loopw [12, 13, 14, 15] (fun u v b i wr => ∃ k : Nat, i = .int .i64 k ∧ k ≤ Z ∧ u = .int .i64 (cn ys a k : Nat) ∧ v = .int .u32 (fv a (fr ys a k)) ∧ b = .bool (fb (fr ys a k)) ∧ Hid (Below W0.heap.size W0 wr)) (fun _ _ _ i _ => Z - (intOf i).toNat)
  case atStart => exact ⟨0, rfl, by omega, by rw [HC0.out]; rfl, rfl, rfl, Below.refl _ _⟩
  case round =>
    obtain ⟨k, rfl, hk, rfl, rfl, rfl, HH⟩ := hrel
    obtain ⟨d0, d1, c0, c1, z3, hbw, hH⟩ := HB.out wr HH.out
    have BW := Lib.hid hbw
    have RW := Lib.hid hH
    clear hbw hH
    have hck : cn ys a k ≤ YL := by
      unfold cn
      have := List.length_filter_le (fun x : Hr => decide (a ≤ x.a ∧ x.a < a + k)) ys
      rw [HYL.out] at this
      exact this
    by_cases hlt : k < Z
    · have HG := Lib.hid fun W (hW : Hs W A2 ys) => HGT.out (a + k) (by omega) (by omega) W hW
      have HS := Lib.hid (HCS.out k)
      have HF := Lib.hid (show fr ys a (k + 1) = match fr ys a k with
        | some j => some j
        | none => if isAt ys (a + k) = true then none else some k from rfl)
      have hak : a + (k : Int) < 4294967296 := by omega
      generalize gt ys (a + k) = G at *
      generalize isAt ys (a + k) = B at *
      obtain ⟨g0, g1, e0, e1, e2, e3, e4, e5⟩ := G
      simp only [hv] at HG
      generalize cn ys a k = C at *
      cases hF : fr ys a k with
      | none =>
        rw [hF] at HF
        clear hF
        simp only [fv, fb]
        cases B
        · go_wp2_with fail
          refine (HG.out _ RW.out).mono ?_
          rintro e w4 ⟨rfl, hb⟩
          have B4 := Lib.hid ((HH.out.trans (hb.mono HH.out.size)))
          clear hb
          go_wp2_with fail
          go_roundw
          case rel => exact ⟨k + 1, by go_num, by omega, by rw [HS.out]; rfl, by rw [HF.out]; rfl, by rw [HF.out]; rfl, B4.out.alloc B4.out.size _⟩
          case measure => simp [intOf]; omega
        · go_wp2_with fail
          refine (HG.out _ RW.out).mono ?_
          rintro e w4 ⟨rfl, hb⟩
          have B4 := Lib.hid ((HH.out.trans (hb.mono HH.out.size)))
          clear hb
          go_wp2_with fail
          go_roundw
          case rel => exact ⟨k + 1, by go_num, by omega, by rw [HS.out]; go_num, by rw [HF.out]; rfl, by rw [HF.out]; rfl, B4.out.alloc B4.out.size _⟩
          case measure => simp [intOf]; omega
      | some j =>
        have HJ := Lib.hid (fr_lt hF)
        rw [hF] at HF
        clear hF
        simp only [fv, fb]
        cases B
        · go_wp2_with fail
          refine (HG.out _ RW.out).mono ?_
          rintro e w4 ⟨rfl, hb⟩
          have B4 := Lib.hid ((HH.out.trans (hb.mono HH.out.size)))
          clear hb
          go_wp2_with fail
          go_roundw
          case rel => exact ⟨k + 1, by go_num, by omega, by rw [HS.out]; rfl, by rw [HF.out], by rw [HF.out], B4.out.alloc B4.out.size _⟩
          case measure => simp [intOf]; omega
        · go_wp2_with fail
          refine (HG.out _ RW.out).mono ?_
          rintro e w4 ⟨rfl, hb⟩
          have B4 := Lib.hid ((HH.out.trans (hb.mono HH.out.size)))
          clear hb
          go_wp2_with fail
          go_roundw
          case rel => exact ⟨k + 1, by go_num, by omega, by rw [HS.out]; go_num, by rw [HF.out], by rw [HF.out], B4.out.alloc B4.out.size _⟩
          case measure => simp [intOf]; omega
    · obtain rfl : k = Z := by omega
      have HNB := Lib.hid (show nextB a n ys = fb (fr ys a k) ∧ nextA a n ys = fv a (fr ys a k) by
        have := HNF.out
        cases hF : fr ys a k with
        | none => rw [hF] at this; exact this
        | some j => rw [hF] at this; exact this)
      have HX := Lib.hid fun W (hW : Hs W A2 ys) => HNX.out a n hbi.1 hbi.2 W hW
      rw [HNB.out.1, HNB.out.2] at HX
      have HY := Lib.hid fun W (hW : Hs W A2 ys) => HNX.out ra rb r0 r1 W hW
      have HU := Lib.hid fun W (hW : Hs W A2 ys) => HUS.out a n hbi.1 hbi.2 W hW
      rw [← HCU.out] at HU
      have HR := Lib.hid fun W => right_any ra rb W r0 r1
      generalize fv a (fr ys a k) = F at *
      generalize fb (fr ys a k) = G at *
      generalize cn ys a k = C at *
      have hYA : nextB ra rb ys = false → nextA ra rb ys = 0 := fun e => by unfold nextA; rw [if_neg (by rw [e]; simp)]
      have hYB : nextB ra rb ys = true → okB ra rb = true ∧ 0 ≤ nextA ra rb ys ∧ nextA ra rb ys < 4294967296 ∧ hasB ra rb (nextA ra rb ys) = true := fun e => by
        have hlt' : nextK ra rb ys < sizeOf ra rb := by unfold nextB at e; simpa using e
        have hk0 := (nxk_in ra rb ys ys.length).1
        have hk0 : 0 ≤ nextK ra rb ys := hk0
        have ho : okB ra rb = true := by
          cases ho : okB ra rb
          · unfold sizeOf at hlt'; rw [ho] at hlt'; simp at hlt'; omega
          · rfl
        have hs : sizeOf ra rb = p2 rb := by simp [sizeOf, ho]
        have hr := room ho r1
        have hA : nextA ra rb ys = ra + nextK ra rb ys := by unfold nextA; rw [if_pos e]
        exact ⟨ho, by omega, by omega, (has_iff ho).2 (by omega)⟩
      obtain ⟨YB, hYBe⟩ : ∃ YB, nextB ra rb ys = YB := ⟨_, rfl⟩
      rw [hYBe] at hYA hYB HY
      generalize nextA ra rb ys = YA at *
      clear hYBe HGT HNX HUS HCS HNF HCU HGD hck
      go_wp2_with fail
      refine (HX.out _ RW.out).mono ?_
      rintro e w5 ⟨rfl, hb⟩
      have R5 := Lib.hid (RW.out.below hb)
      have B5 := Lib.hid (BW.out.trans (hb.mono BW.out.size))
      have B5' := Lib.hid (HH.out.trans (hb.mono HH.out.size))
      obtain ⟨d50, d51, c50, c51, z5, _, _⟩ := HB.out w5 B5'.out
      clear hb d0 d1 c0 c1 z3
      go_wp2_with fail
      refine (HY.out _ R5.out).mono ?_
      rintro e w6 ⟨rfl, hb⟩
      have R6 := Lib.hid (R5.out.below hb)
      have B6' := Lib.hid (B5'.out.trans (hb.mono B5'.out.size))
      obtain ⟨d60, d61, c60, c61, z6, _, _⟩ := HB.out w6 B6'.out
      clear hb d50 d51 c50 c51 z5
      go_wp2_with fail
      refine (HR.out _).mono ?_
      rintro e w7 ⟨rfl, hb⟩
      have R7 := Lib.hid (R6.out.below hb)
      have B7' := Lib.hid (B6'.out.trans (hb.mono B6'.out.size))
      obtain ⟨d70, d71, c70, c71, z7, _, _⟩ := HB.out w7 B7'.out
      clear hb d60 d61 c60 c61 z6
      cases YB
      · have hY0 := hYA rfl
        subst hY0
        clear hYA hYB
        generalize okB ra rb = O at *
        cases O
        all_goals
          go_wp2_with fail
          refine (HU.out _ R7.out).mono ?_
          rintro e w8 ⟨rfl, hb⟩
          have B8' := Lib.hid (B7'.out.trans (hb.mono B7'.out.size))
          have B8 := Lib.hid (HB.out w8 B8'.out).2.2.2.2.2.1
          clear hb
          go_wp2_with fail
          go_ret
          exact ⟨rfl, B8.out⟩
      · obtain ⟨ho, hy0, hy1, hh⟩ := hYB rfl
        have HHS := Lib.hid fun W => has_eq ra rb YA true W r0 r1 hy0 hy1 hh
        rw [ho]
        clear hYA hYB ho hh
        go_wp2_with fail
        refine (HHS.out _).mono ?_
        rintro e w8 ⟨rfl, hb⟩
        have R8 := Lib.hid (R7.out.below hb)
        have B8' := Lib.hid (B7'.out.trans (hb.mono B7'.out.size))
        obtain ⟨d80, d81, c80, c81, z8, _, _⟩ := HB.out w8 B8'.out
        clear hb d70 d71 c70 c71 z7
        go_wp2_with fail
        refine (HU.out _ R8.out).mono ?_
        rintro e w9 ⟨rfl, hb⟩
        have B9' := Lib.hid (B8'.out.trans (hb.mono B8'.out.size))
        have B9 := Lib.hid (HB.out w9 B9'.out).2.2.2.2.2.1
        clear hb
        go_wp2_with fail
        go_ret
        exact ⟨rfl, B9.out⟩
end Go.Proofs.Ytafmcnnbeoffdaa
