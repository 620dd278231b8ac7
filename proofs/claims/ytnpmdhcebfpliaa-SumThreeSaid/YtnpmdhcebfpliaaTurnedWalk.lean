/-
  SumTurned's walk: for every row of bytes, and two numbers, it returns true, and nothing that was in memory is touched. Conditions: a row has at most 2^47 bytes, and not more than its room; the numbers have 8 bits.
-/
import Derived.Test.YtnpmdhcebfpliaaAppend
namespace Go.Proofs.Ytnpmdhcebfpliaa
open Go.RowKit

/-- The row with its sum behind it. -/
def sld (xs : List Nat) : List Nat := xs ++ [(65535 - wd xs) / 256, (65535 - wd xs) % 256]
theorem sld_length (xs : List Nat) : (sld xs).length = xs.length + 2 := by unfold sld; simp
theorem sld_bs {xs : List Nat} (h : Bs xs) : Bs (sld xs) := h.append (Bs.two (by omega) (by omega))
theorem tot_sld {xs : List Nat} (he : xs.length % 2 = 0) : tot (sld xs) (xs.length + 2) = tot xs xs.length + (65535 - wd xs) := by
  rw [tot_two he, tot_same (zs := sld xs) (ys := xs) xs.length (fun i hi => getD_left hi)]
  unfold sld
  rw [getD_right (Nat.le_refl _), getD_right (by omega), Nat.sub_self, show xs.length + 1 - xs.length = 1 by omega]
  simp only [List.getD_cons_zero, List.getD_cons_succ]
  omega
theorem wd_sld {xs : List Nat} (he : xs.length % 2 = 0) (h0 : 0 < xs.getD 0 0) (hn : 0 < xs.length) : wd (sld xs) = 65535 := by
  unfold wd
  rw [sld_length, tot_sld he]
  exact can_seal (tot_first h0 _ hn)
theorem wd_turned {xs : List Nat} (hb : Bs xs) (hs : wd xs = 65535) {k v : Nat} (hk : k < xs.length) (hv : v < 256) : decide (wd (xs.set k v) = 65535) = decide (xs.getD k 0 = v) := by
  by_cases he : xs.getD k 0 = v
  · have : xs.set k v = xs := by
      rw [← he, List.getD_eq_getElem?_getD, List.getElem?_eq_getElem hk]
      simp
    rw [this, hs, he]
    simp
  · have := tot_other (zs := xs.set k v) (ys := xs) (j := k) (fun i hi => by rw [getD_set hk, if_neg hi]) xs.length hk
    rw [getD_set hk, if_pos rfl] at this
    have h2 := can_other (t := tot xs xs.length) (j := k) hs this (hb k) hv he
    have h3 : ¬ wd (xs.set k v) = 65535 := by unfold wd; rw [List.length_set]; exact h2
    rw [decide_eq_false h3, decide_eq_false he]

theorem Rd.drewN {w : World} {A : Option Addr} {zs : List Nat} (h : Rd w A zs) (n : Nat) : Rd (w.drewN n) A zs := h

theorem q_left {P : Program} {f : FuncId} {args : Array Value} {w : World} {n : Nat} {v : Value} (h : Calls P f args (w.drewN n) fun e w' => e = .returned v ∧ w.drewN n = w') :
    Calls P f args (w.drewN n) fun e w'' => e = .returned v ∧ ∃ m, w'' = w.drewN m := h.mono fun _ _ ⟨he, hm⟩ => ⟨he, n, hm.symm⟩
theorem below_drewN {B : Nat} {a w : World} (h : Below B a w) (n : Nat) : Below B a (w.drewN n) := ⟨h.os, h.tape, h.output, h.size, h.block⟩

set_option maxRecDepth 100000 in
theorem sumTurned_walk (A : Option Addr) (zs : List Nat) (c : Nat) (p q : Int) (w : World) (h : Rd w A zs) (hcap : zs.length ≤ c) (hp : 0 ≤ p ∧ p < 256) (hq : 0 ≤ q ∧ q < 256) :
    Calls Try.prog 5 #[.slice A zs.length c, .int .u8 p, .int .u8 q] w fun e w' => e = .returned (.bool true) ∧ Below w.heap.size w w' := by
  obtain ⟨p, rfl⟩ := Int.eq_ofNat_of_zero_le hp.1
  obtain ⟨q, rfl⟩ := Int.eq_ofNat_of_zero_le hq.1
  have hp := hp.2
  have hq := hq.2
  have AW := Lib.hid (awake_any w)
  have H := Lib.hid h
  have hl := h.1
  clear h
  obtain ⟨m, hm⟩ : ∃ m, m = min zs.length 100 / 2 * 2 := ⟨_, rfl⟩
  have m1 : m ≤ zs.length := by omega
  have m2 : m ≤ 100 := by omega
  have m3 : m % 2 = 0 := by omega
  have HM := Lib.hid hm
  have E1 : min (zs.length : Int) 100 / 2 * 2 = (m : Int) := by omega
  clear hm
  go_enter Try.func5, Try.ntmps5
  go_wp2_with fail
  refine AW.out.mono ?_
  rintro e w1 ⟨rfl, hb⟩
  have R := Lib.hid (H.out.below hb)
  have B := Lib.hid hb
  clear hb
  have hby : (zs.take m).length = m := by rw [List.length_take]; omega
  have HY := Lib.hid hby
  clear hby
  go_wp2_with (at_builtin; refine wpList_append_rd _ rfl (.tmp 13) (.tmp 20) rfl w1.heap.size _ 2 [69, 0] rfl (own_two w1 _ (Nat.le_refl _) 69 0) A m c (zs.take m) rfl HY.out.symm ((R.out.take m).below ((Below.refl _ w1).alloc (Nat.le_refl _) _)) (by omega) (by omega) (by simp) ?_)
  intro g cap w2 hown hgrow hat hlt
  have hg : w1.heap.size ≤ g := by
    rcases hat with hat | hat
    · simp [Value.ownBlock] at hat; omega
    · omega
  have B2 := Lib.hid (((B.out.alloc B.out.size _).grown hgrow (by have := B.out.size; simp; omega) (fun k hk => by simp [Value.ownBlock] at hk; have := B.out.size; omega)))
  clear hgrow hat
  have hlen : (69 :: 0 :: zs.take m).length = 2 + m := by have := HY.out; simp only [List.length_cons]; omega
  have hbx : Bs (69 :: 0 :: zs.take m) := (Bs.two (a := 69) (b := 0) (by omega) (by omega)).append (H.out.2.1.take m)
  have hx0 : 0 < (69 :: 0 :: zs.take m).getD 0 0 := by simp
  generalize 69 :: 0 :: zs.take m = xs at *
  have C1 := words_any _ xs cap _ (Rd.own hown hbx (by omega)).2
  rw [hlen] at C1
  have HC1 := Lib.hid C1
  have OW := Lib.hid hown
  have HL := Lib.hid hlen
  have HB := Lib.hid hbx
  have H0 := Lib.hid hx0
  clear C1 hown hlen hbx hx0
  go_wp2_with fail
  refine HC1.out.mono ?_
  rintro e w3 ⟨rfl, rfl⟩
  obtain ⟨s, hs⟩ : ∃ s, s = 65535 - wd xs := ⟨_, rfl⟩
  rw [← hs]
  have hs1 : s ≤ 65535 := by omega
  obtain ⟨a, ha⟩ : ∃ a, a = s / 256 := ⟨_, rfl⟩
  obtain ⟨b, hb⟩ : ∃ b, b = s % 256 := ⟨_, rfl⟩
  have ha1 : a < 256 := by omega
  have hb1 : b < 256 := by omega
  have ES := Lib.hid (show xs ++ [a, b] = sld xs by rw [ha, hb, hs]; rfl)
  have EA : (s : Int) / 256 = (a : Int) := by omega
  have EB : (s : Int) % 256 = (b : Int) := by omega
  clear ha hb hs
  go_wp2_with (at_builtin; refine wpList_append_rd _ rfl (.tmp 24) (.tmp 30) rfl w1.heap.size _ (2 + m) xs rfl (OW.out.alloc _) (some ⟨w2.heap.size, 0, none⟩) 2 2 [a, b] rfl rfl (Rd.two w2 ha1 hb1) (by omega) (by omega) (by simp; omega) ?_)
  intro g2 cap2 w3 hown hgrow hat hlt
  have hg2 : w1.heap.size ≤ g2 := by
    rcases hat with hat | hat
    · simp [Value.ownBlock] at hat; omega
    · omega
  have B3 := Lib.hid (((B2.out.alloc B2.out.size _).grown hgrow (by have := B2.out.size; simp; omega) (fun k hk => by simp [Value.ownBlock] at hk; have := B.out.size; omega)))
  rw [ES.out] at hown
  have hlen : (sld xs).length = 2 + m + 2 := by rw [sld_length, HL.out]
  have hbx := sld_bs HB.out
  have hsl : wd (sld xs) = 65535 := wd_sld (by rw [HL.out]; omega) H0.out (by rw [HL.out]; omega)
  clear hgrow hat EA EB OW HC1 ES ha1 hb1
  have R3 := (Rd.own hown hbx (by omega)).2
  generalize sld xs = ys at *
  have hL0 : 0 < 2 + m + 2 := by omega
  have hL1 : 2 + m + 2 ≤ 104 := by omega
  generalize 2 + m + 2 = L at *
  have C2 := sealed_any _ ys cap2 _ R3
  rw [hlen, decide_eq_true hsl] at C2
  have HC2 := Lib.hid C2
  have OW := Lib.hid hown
  have HLY := Lib.hid hlen
  have HBY := Lib.hid hbx
  have HSL := Lib.hid hsl
  clear C2 hown hlen hbx hsl R3
  go_wp2_with fail
  refine HC2.out.mono ?_
  rintro e w4 ⟨rfl, rfl⟩
  have hk : p % L < L := Nat.mod_lt _ hL0
  have E : (p : Int) % (L : Int) = ((p % L : Nat) : Int) := rfl
  have b1 := HBY.out (p % L)
  have hc : w3.cell? ⟨g2, p % L, none⟩ = some (.int .u8 ((ys.getD (p % L) 0 : Nat) : Int)) := (OW.out.cellAt _ (by omega)).trans (cel_at (by rw [HLY.out]; exact hk))
  have hf := OW.out.frozenAt (p % L)
  obtain ⟨k, hkk⟩ : ∃ k, k = p % L := ⟨_, rfl⟩
  rw [← hkk] at hk E b1 hc hf
  clear hkk
  obtain ⟨v, hv⟩ : ∃ v, v = (ys.getD k 0 + q) % 256 := ⟨_, rfl⟩
  have hv1 : v < 256 := by omega
  have ST := OW.out.stored k (.int .u8 (v : Int))
  rw [← cel_set] at ST
  have R4 := (Rd.own ST.1 (HBY.out.set (by rw [HLY.out]; exact hk) hv1) (by rw [List.length_set, HLY.out]; omega)).2
  have C4 := fun n => sealed_any _ _ cap2 _ (R4.drewN n)
  rw [List.length_set, HLY.out, wd_turned HBY.out HSL.out (by rw [HLY.out]; exact hk) hv1] at C4
  have HC4 := Lib.hid C4
  have HV := Lib.hid hv
  have hc2 : (w3.setCell ⟨g2, k, none⟩ (.int .u8 (v : Int))).cell? ⟨g2, k, none⟩ = some (.int .u8 (v : Int)) := by
    rw [ST.1.cellAt k (by omega), cel_set, List.getElem?_set]
    simp [cel_length, HLY.out, hk]
  have B5 := Lib.hid (B3.out.setCell (p := ⟨g2, k, none⟩) (by have := B.out.size; show w.heap.size ≤ g2; omega) (.int .u8 (v : Int)))
  clear ST R4 C4 hv
  generalize ys.getD k 0 = r at *
  by_cases hw : r + q < 256
  · have EV : (r : Int) + (q : Int) = (v : Int) := by have := HV.out; omega
    go_wp2_with fail
    generalize w3.setCell ⟨g2, k, none⟩ (.int .u8 (v : Int)) = w5 at *
    go_quiet ((go_at_call 12; exact q_left (HC4.out _)))
    go_wp2_with fail
    go_ret
    exact ⟨ret_bool (by rw [beq_iff_eq, Bool.eq_iff_iff, decide_eq_true_iff, beq_iff_eq]; omega), below_drewN B5.out nq⟩
  · have EV : ((r : Int) + (q : Int)) % 256 = (v : Int) := by have := HV.out; omega
    go_wp2_with fail
    generalize w3.setCell ⟨g2, k, none⟩ (.int .u8 (v : Int)) = w5 at *
    go_quiet ((go_at_call 12; exact q_left (HC4.out _)))
    go_wp2_with fail
    go_ret
    exact ⟨ret_bool (by rw [beq_iff_eq, Bool.eq_iff_iff, decide_eq_true_iff, beq_iff_eq]; omega), below_drewN B5.out nq⟩
end Go.Proofs.Ytnpmdhcebfpliaa
