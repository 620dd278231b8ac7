/-
  SumSeal's walk: for every row of bytes, and a number, it returns true, and nothing that was in memory is touched. Conditions: a row has at most 2^47 bytes, and not more than its room; the number has 8 bits.
-/
import Derived.Test.YtnpmdhcebfpliaaTurnedWalk
import Derived.Deep.RegionHeld3
import Derived.Deep.CutRange
namespace Go.Proofs.Ytnpmdhcebfpliaa
open Go.RowKit

theorem own_one (w : World) (base : Nat) (hb : base ≤ w.heap.size) (a : Nat) : (w.alloc (.cells #[.int .u8 (a : Int)] 5)).ownsRow base 5 1 (.slice (some ⟨w.heap.size, 0, none⟩) 1 1) 1 (cel [a]) :=
  World.ownsRow_lit w _ 1 hb (by unfold maxLen; omega) rfl
theorem Bs.one {a : Nat} (ha : a < 256) : Bs [a] := by
  intro i
  match i with
  | 0 => exact ha
  | i + 1 => simp
theorem Rd.one (w : World) {a : Nat} (ha : a < 256) : Rd (w.alloc (.cells #[.int .u8 (a : Int)] 5)) (some ⟨w.heap.size, 0, none⟩) [a] :=
  Rd.block (heap_alloc_new w _) rfl (Bs.one ha) (by simp)

theorem getD_drop (zs : List Nat) (k i : Nat) : (zs.drop k).getD i 0 = zs.getD (k + i) 0 := by
  rw [List.getD_eq_getElem?_getD, List.getElem?_drop, List.getD_eq_getElem?_getD]
theorem Rd.drop {w : World} {g : Nat} {zs : List Nat} (h : Rd w (some ⟨g, 0, none⟩) zs) {k cap : Nat} (hc : zs.length ≤ cap) : Rd w (if cap = k then some ⟨g, 0, none⟩ else some ⟨g, k, none⟩) (zs.drop k) := by
  refine ⟨by have := h.1; rw [List.length_drop]; omega, fun i => by rw [getD_drop]; exact h.2.1 _, fun i hi => ?_⟩
  rw [List.length_drop] at hi
  rw [if_neg (by omega)]
  obtain ⟨x, hx, hcell⟩ := h.2.2 (k + i) (by omega)
  injection hx with hx
  subst hx
  refine ⟨_, rfl, ?_⟩
  rw [getD_drop, ← hcell]
  congr 1
  unfold Addr.add
  split <;> split <;> simp_all <;> omega

/-- What the row is ahead of the two bytes. -/
def Mid (w : World) (base : Nat) (v : Value) (wc : World) : Prop :=
  ∃ (g cap L : Nat) (xs : List Nat), v = .slice (some ⟨g, 0, none⟩) L cap ∧ wc.ownsRow base 5 1 (.slice (some ⟨g, 0, none⟩) L cap) L (cel xs) ∧ Bs xs ∧ xs.length = L ∧ L % 2 = 0 ∧ 2 ≤ L ∧ L ≤ 203 ∧ xs.getD 0 0 = 1 ∧ Below w.heap.size w wc ∧ base ≤ wc.heap.size ∧ base ≤ g ∧ w.heap.size ≤ base

theorem ins_at {ys : List Nat} {k : Nat} (hk : k ≤ ys.length) (h1 : 2 ≤ k) : (ys.take k ++ [0, 0] ++ ys.drop k).getD 0 0 = ys.getD 0 0 ∧ (ys.take k ++ [0, 0] ++ ys.drop k).getD k 0 = 0 ∧ (ys.take k ++ [0, 0] ++ ys.drop k).getD (k + 1) 0 = 0 := by
  have hl : (ys.take k).length = k := by rw [List.length_take]; omega
  refine ⟨?_, ?_, ?_⟩
  · rw [List.append_assoc, getD_left (by omega), getD_take (by omega)]
  · rw [List.append_assoc, getD_right (by omega), getD_left (by simp; omega), hl, Nat.sub_self]
    rfl
  · rw [List.append_assoc, getD_right (by omega), getD_left (by simp; omega), hl, show k + 1 - k = 1 by omega]
    rfl
theorem wd_put {us : List Nat} {k : Nat} (hk : k + 1 < us.length) (he : k % 2 = 0) (h0 : 0 < us.getD 0 0) (h1 : us.getD k 0 = 0) (h2 : us.getD (k + 1) 0 = 0) : wd ((us.set k ((65535 - wd us) / 256)).set (k + 1) ((65535 - wd us) % 256)) = 65535 := by
  have e1 := tot_other (zs := us.set k ((65535 - wd us) / 256)) (ys := us) (j := k) (fun i hi => by rw [getD_set (by omega), if_neg hi]) us.length (by omega)
  have e2 := tot_other (zs := (us.set k ((65535 - wd us) / 256)).set (k + 1) ((65535 - wd us) % 256)) (ys := us.set k ((65535 - wd us) / 256)) (j := k + 1) (fun i hi => by rw [getD_set (by rw [List.length_set]; omega), if_neg hi]) us.length hk
  rw [getD_set (by omega), if_pos rfl, h1] at e1
  have g1 : (us.set k ((65535 - wd us) / 256)).getD (k + 1) 0 = 0 := by rw [getD_set (by omega), if_neg (by omega), h2]
  have g2 : ((us.set k ((65535 - wd us) / 256)).set (k + 1) ((65535 - wd us) % 256)).getD (k + 1) 0 = (65535 - wd us) % 256 := by rw [getD_set (by rw [List.length_set]; omega), if_pos rfl]
  rw [g1, g2] at e2
  simp only [vl, he, show (k + 1) % 2 ≠ 0 by omega, if_true, if_false, Nat.mul_zero, Nat.add_zero] at e1 e2
  have e3 : tot ((us.set k ((65535 - wd us) / 256)).set (k + 1) ((65535 - wd us) % 256)) us.length = tot us us.length + (65535 - wd us) := by omega
  have hp := tot_first h0 us.length (by omega)
  unfold wd at e3 ⊢
  rw [List.length_set, List.length_set]
  exact (congrArg can e3).trans (can_seal hp)
/-- What the row is with the two bytes, which are 0. -/
def Fin (w : World) (base k L : Nat) (v : Value) (wc : World) : Prop :=
  ∃ (g cap : Nat) (xs : List Nat), v = .slice (some ⟨g, 0, none⟩) (L + 2) cap ∧ wc.ownsRow base 5 1 (.slice (some ⟨g, 0, none⟩) (L + 2) cap) (L + 2) (cel xs) ∧ Bs xs ∧ xs.length = L + 2 ∧ xs.getD 0 0 = 1 ∧ xs.getD k 0 = 0 ∧ xs.getD (k + 1) 0 = 0 ∧ Below w.heap.size w wc ∧ base ≤ wc.heap.size ∧ base ≤ g
theorem ownsRow_le {w : World} {base base' : Nat} {v : Value} {n : Nat} {xs : List Value} (h : w.ownsRow base 5 1 v n xs) (hb : base' ≤ base) : w.ownsRow base' 5 1 v n xs :=
  ⟨h.1, h.2.elim Or.inl fun ⟨g, cap, cur, hv, hg, r⟩ => Or.inr ⟨g, cap, cur, hv, Nat.le_trans hb hg, r⟩⟩
theorem own_cap {w : World} {base g L cap : Nat} {xs : List Value} (h : w.ownsRow base 5 1 (.slice (some ⟨g, 0, none⟩) L cap) L xs) : L ≤ cap ∧ cap ≤ maxLen ∧ g < w.heap.size := by
  have hl := h.lt g rfl
  rcases h.2 with ⟨h0, _⟩ | ⟨g', cap', cur, h1, _, _, h2, h3, _⟩
  · cases h0
  · injection h1 with _ _ h1
    subst h1
    exact ⟨h2, h3, hl.2⟩

set_option maxRecDepth 100000 in
set_option maxHeartbeats 4000000 in
theorem sumSeal_walk (A : Option Addr) (zs : List Nat) (c : Nat) (p : Int) (w : World) (h : Rd w A zs) (hcap : zs.length ≤ c) (hp : 0 ≤ p ∧ p < 256) :
    Calls Try.prog 4 #[.slice A zs.length c, .int .u8 p] w fun e w' => e = .returned (.bool true) ∧ Below w.heap.size w w' := by
  obtain ⟨p, rfl⟩ := Int.eq_ofNat_of_zero_le hp.1
  have hp := hp.2
  have AW := Lib.hid (awake_any w)
  have H := Lib.hid h
  have hl := h.1
  clear h
  obtain ⟨m, hm⟩ : ∃ m, m = min zs.length 200 := ⟨_, rfl⟩
  have m1 : m ≤ zs.length := by omega
  have m2 : m ≤ 200 := by omega
  have HM := Lib.hid hm
  have E1 : min (zs.length : Int) 200 = (m : Int) := by omega
  clear hm
  go_enter Try.func4, Try.ntmps4
  go_wp2_with fail
  refine AW.out.mono ?_
  rintro e w1 ⟨rfl, hb⟩
  have R := Lib.hid (H.out.below hb)
  have B := Lib.hid hb
  clear hb
  have hby : (zs.take m).length = m := by rw [List.length_take]; omega
  have HY := Lib.hid hby
  clear hby
  go_wp2_with (at_builtin; refine wpList_append_rd _ rfl (.tmp 18) (.tmp 19) rfl w1.heap.size _ 2 [1, m] rfl (own_two w1 _ (Nat.le_refl _) 1 m) A m c (zs.take m) rfl HY.out.symm ((R.out.take m).below ((Below.refl _ w1).alloc (Nat.le_refl _) _)) (by omega) (by omega) (by simp) ?_)
  intro g cap w2 hown hgrow hat hlt
  have hg : w1.heap.size ≤ g := by
    rcases hat with hat | hat
    · simp [Value.ownBlock] at hat; omega
    · omega
  have B2 := Lib.hid (((B.out.alloc B.out.size _).grown hgrow (by have := B.out.size; simp; omega) (fun k hk => by simp [Value.ownBlock] at hk; have := B.out.size; omega)))
  clear hgrow hat
  have hlen : (1 :: m :: zs.take m).length = 2 + m := by have := HY.out; simp only [List.length_cons]; omega
  have hbx : Bs (1 :: m :: zs.take m) := (Bs.two (a := 1) (b := m) (by omega) (by omega)).append (H.out.2.1.take m)
  have hx0 : (1 :: m :: zs.take m).getD 0 0 = 1 := by simp
  generalize 1 :: m :: zs.take m = xs at *
  have OW := Lib.hid hown
  have HL := Lib.hid hlen
  have HB := Lib.hid hbx
  have H0 := Lib.hid hx0
  clear hown hlen hbx hx0
  have hz1 := B.out.size
  have hz2 : w1.heap.size ≤ w2.heap.size := by omega
  go_upto_if 24 with (fail)
  go_cut [5] from 23 to 72 (fun v wc => Mid w w1.heap.size v wc)
  case first =>
    by_cases hpar : m % 2 = 1
    · have F : ((2 : Int) + (m : Int)) % 2 = 1 := by omega
      go_wp2_with (at_builtin; refine wpList_append_rd _ rfl (.tmp 25) (.tmp 26) rfl w1.heap.size _ (2 + m) xs rfl (OW.out.alloc _) (some ⟨w2.heap.size, 0, none⟩) 1 1 [0] rfl rfl (Rd.one (a := 0) w2 (by omega)) (by omega) (by omega) (by simp; omega) ?_)
      intro g2 cap2 w3 hown hgrow hat hlt
      have hg2 : w1.heap.size ≤ g2 := by
        rcases hat with hat | hat
        · simp [Value.ownBlock] at hat; omega
        · omega
      have hsz := hgrow.size
      have B3 := Lib.hid (((B2.out.alloc B2.out.size _).grown hgrow (by have := B2.out.size; simp; omega) (fun k hk => by simp [Value.ownBlock] at hk; omega)))
      have MID := Lib.hid (show Mid w w1.heap.size (.slice (some ⟨g2, 0, none⟩) (2 + m + 1) cap2) w3 from
        ⟨g2, cap2, 2 + m + 1, xs ++ [0], rfl, hown, HB.out.append (Bs.one (by omega)), by rw [List.length_append, HL.out]; rfl, by omega, by omega, by omega, by rw [getD_left (by rw [HL.out]; omega)]; exact H0.out, B3.out, by simp at hsz; omega, hg2, hz1⟩)
      clear hown hgrow hat hsz
      go_wp2_with fail
      go_meet
      exact MID.out
    · have F : ((2 : Int) + (m : Int)) % 2 = 0 := by omega
      have MID := Lib.hid (show Mid w w1.heap.size (.slice (some ⟨g, 0, none⟩) (2 + m) cap) w2 from
        ⟨g, cap, 2 + m, xs, rfl, OW.out, HB.out, HL.out, by omega, by omega, by omega, H0.out, B2.out, hz2, hg, hz1⟩)
      go_wp2_with fail
      go_meet
      exact MID.out
  case rest =>
    clear OW HL HB H0 B2 hlt hg HY hz2
    obtain ⟨g3, cap3, L, ys, rfl, hown, hbx, hlen, hpar, hL0, hL1, hx0, B3, hb3, hg3, _⟩ := hcut
    have OW := Lib.hid hown
    have HL := Lib.hid hlen
    have HB := Lib.hid hbx
    have H0 := Lib.hid hx0
    have HP := Lib.hid hpar
    have BB := Lib.hid B3
    clear hown hlen hbx hx0 hpar B3
    clear E1
    obtain ⟨k, hk⟩ : ∃ k, k = 2 + p % L / 2 * 2 := ⟨_, rfl⟩
    have hmod : p % L < L := Nat.mod_lt _ (by omega)
    have k1 : 2 ≤ k := by omega
    have k2 : k ≤ L := by have := HP.out; omega
    have k3 : k % 2 = 0 := by omega
    have E2 : (2 : Int) + (p : Int) % (L : Int) / 2 * 2 = (k : Int) := by rw [hk]; push_cast; rfl
    have HK := Lib.hid k3
    clear hk hmod k3
    have i1 : (0 : Int) ≤ (p : Int) % (L : Int) := Int.emod_nonneg _ (by omega)
    have i2 : (p : Int) % (L : Int) < (L : Int) := Int.emod_lt_of_pos _ (by omega)
    go_upto_region 8 with (fail)
    go_cut [5] from 36 to 72 (fun v wd => Fin w w1.heap.size k L v wd)
    case first =>
      obtain ⟨c1, c2, c3⟩ := own_cap OW.out
      unfold maxLen at c2
      have E3 : min (k : Int) (L : Int) = (k : Int) := by omega
      have j1 : (0 : Int) ≤ (k : Int) := by omega
      have j2 : (k : Int) ≤ (L : Int) := by omega
      have j3 : (L : Int) ≤ (cap3 : Int) := by omega
      have j4 : (k : Int) ≤ (cap3 : Int) := by omega
      have RX := Lib.hid fun (W : World) (hW : Below wc.heap.size wc W) => ((Rd.own OW.out HB.out (by have := HL.out; omega)).2.below hW).take k
      have SZ := Lib.hid fun (W : World) (hW : Below wc.heap.size wc W) => hW.size
      have RY := Lib.hid fun (W : World) (hW : Below wc.heap.size wc W) => ((Rd.own OW.out HB.out (by have := HL.out; omega)).2.below hW).drop (k := k) (cap := cap3) (by rw [HL.out]; exact c1)
      obtain ⟨Z, EZ⟩ : ∃ Z, (if cap3 = k then some (⟨g3, 0, none⟩ : Addr) else some ⟨g3, k, none⟩) = Z := ⟨_, rfl⟩
      rw [EZ] at RY
      have KD := Lib.hid (show L - k = (ys.drop k).length by rw [List.length_drop, HL.out])
      have KT := Lib.hid (show k = (ys.take k).length by rw [List.length_take, HL.out]; omega)
      go_region_held3 (fun w' => Below wc.heap.size wc w')
        (first | assumption | exact Below.refl _ _ | exact (Below.refl _ _).drew | exact Below.drew (by assumption) | exact Below.alloc (by assumption) (SZ.out _ (by assumption)) _ | exact Below.grown (by assumption) hgc (SZ.out _ (by assumption)) (fun i hi => (hob.lt i hi).1) | exact Below.grown (by assumption) hgb (SZ.out _ (by assumption)) (fun i hi => (hoa.lt i hi).1) | exact Below.grown (by assumption) hga (SZ.out _ (by assumption)) (by simp))
        (first
          | (refine step_append_new _ (by rfl) (.const (.slice none 0 0)) (.tmp 41) (by rfl) wc.heap.size (by rfl) (some ⟨g3, 0, none⟩) k cap3 (ys.take k) (by rfl) KT.out (RX.out _ (by assumption)) (by omega) (by omega) (SZ.out _ (by assumption)) ?_; intro ga ca wa hoa hga hata hlta; clear hata)
          | (refine step_append_rd _ (by rfl) (.tmp 42) (.tmp 43) (by rfl) wc.heap.size _ k (ys.take k) (by rfl) (hoa.alloc _) (some ⟨wa.heap.size, 0, none⟩) 2 2 [0, 0] (by rfl) rfl (Rd.two (a := 0) (b := 0) wa (by omega) (by omega)) (by omega) (by omega) (SZ.out _ (by assumption)) ?_; intro gb cb wb hob hgb hatb hltb; clear hatb)
          | (refine step_append_rd _ (by rfl) (.tmp 42) (.tmp 43) (by rfl) wc.heap.size _ k (ys.take k) (by rfl) hoa (some ⟨wc.heap.size, 0, none⟩) 2 2 [0, 0] (by rfl) rfl ((Rd.two (a := 0) (b := 0) wc.drew (by omega) (by omega)).grown hga (by simp)) (by omega) (by omega) (SZ.out _ (by assumption)) ?_; intro gb cb wb hob hgb hatb hltb; clear hatb)
          | (refine step_append_rd _ (by rfl) (.tmp 44) (.tmp 50) (by rfl) wc.heap.size _ (k + 2) (ys.take k ++ [0, 0]) (by rfl) hob Z (L - k) (cap3 - k) (ys.drop k) (by rfl) KD.out (RY.out _ (by assumption)) (by omega) (by omega) (SZ.out _ (by assumption)) ?_; intro gc cc we hoc hgc hatc hltc; clear hatc)
          | fail)
      all_goals
        have FIN := Lib.hid (show Fin w w1.heap.size k L (.slice (some ⟨gc, 0, none⟩) (k + 2 + (L - k)) cc) we from by
          have hle : k + 2 + (L - k) = L + 2 := by omega
          have hB : Below wc.heap.size wc we := by assumption
          rw [hle] at hoc ⊢
          obtain ⟨i1, i2, i3⟩ := ins_at (ys := ys) (k := k) (by rw [HL.out]; exact k2) k1
          exact ⟨gc, cc, _, rfl, ownsRow_le hoc hb3, ((HB.out.take k).append (Bs.two (by omega) (by omega))).append (fun i => by rw [getD_drop]; exact HB.out _), by have := hoc.1; rw [cel_length] at this; omega, i1.trans H0.out, i2, i3, BB.out.trans (hB.mono BB.out.size), Nat.le_trans hb3 hB.size, Nat.le_trans hb3 (hoc.lt gc rfl).1⟩)
        clear hoc hgc hob hgb hoa hga
        go_wp2_with fail
        go_meet
        exact FIN.out
    case rest =>
      obtain ⟨g5, cap5, us, rfl, hown, hbx, hlen, hx0, hxk, hxk1, B5, hb5, hg5⟩ := hcut
      have C1 := words_any _ us cap5 _ (Rd.own hown hbx (by omega)).2
      rw [hlen] at C1
      have HC1 := Lib.hid C1
      have OW5 := Lib.hid hown
      have HL5 := Lib.hid hlen
      have HB5 := Lib.hid hbx
      have H05 := Lib.hid hx0
      have HK5 := Lib.hid hxk
      have HK6 := Lib.hid hxk1
      have BB5 := Lib.hid B5
      clear C1 hown hlen hbx hx0 hxk hxk1 B5 E2 i1 i2
      have E3 : min (k : Int) (L : Int) = (k : Int) := by omega
      have E4 : min (k : Int) ((L : Int) + 2 - 2) = (k : Int) := by omega
      go_wp2_with fail
      refine HC1.out.mono ?_
      rintro e w6 ⟨rfl, rfl⟩
      clear E3 E4
      obtain ⟨s, hs⟩ : ∃ s, s = 65535 - wd us := ⟨_, rfl⟩
      rw [← hs]
      have hs1 : s ≤ 65535 := by omega
      obtain ⟨a, ha⟩ : ∃ a, a = s / 256 := ⟨_, rfl⟩
      obtain ⟨b, hb⟩ : ∃ b, b = s % 256 := ⟨_, rfl⟩
      have ha1 : a < 256 := by omega
      have hb1 : b < 256 := by omega
      have EA : (s : Int) / 256 = (a : Int) := by omega
      have EB : (s : Int) % 256 = (b : Int) := by omega
      have FU := Lib.hid (show wd ((us.set k a).set (k + 1) b) = 65535 by rw [ha, hb, hs]; exact wd_put (by rw [HL5.out]; omega) HK.out (by rw [H05.out]; omega) HK5.out HK6.out)
      clear ha hb hs
      have hc1 : wc.cell? ⟨g5, k, none⟩ = some (.int .u8 ((us.getD k 0 : Nat) : Int)) := (OW5.out.cellAt _ (by omega)).trans (cel_at (by rw [HL5.out]; omega))
      have hc2 : wc.cell? ⟨g5, k + 1, none⟩ = some (.int .u8 ((us.getD (k + 1) 0 : Nat) : Int)) := (OW5.out.cellAt _ (by omega)).trans (cel_at (by rw [HL5.out]; omega))
      have hf1 := OW5.out.frozenAt k
      have hf2 := OW5.out.frozenAt (k + 1)
      have ST := ((OW5.out.stored k (.int .u8 (a : Int))).1.stored (k + 1) (.int .u8 (b : Int))).1
      rw [← cel_set, ← cel_set] at ST
      have C6 := sealed_any _ _ cap5 _ (Rd.own ST ((HB5.out.set (by rw [HL5.out]; omega) ha1).set (by rw [List.length_set, HL5.out]; omega) hb1) (by rw [List.length_set, List.length_set, HL5.out]; omega)).2
      rw [List.length_set, List.length_set, HL5.out, decide_eq_true FU.out] at C6
      have HC6 := Lib.hid C6
      have B7 := Lib.hid ((BB5.out.setCell (p := ⟨g5, k, none⟩) (by show w.heap.size ≤ g5; omega) (.int .u8 (a : Int))).setCell (p := ⟨g5, k + 1, none⟩) (by show w.heap.size ≤ g5; omega) (.int .u8 (b : Int)))
      clear ST C6 HC1
      generalize us.getD k 0 = o1 at *
      generalize us.getD (k + 1) 0 = o2 at *
      go_wp2_with fail
      refine HC6.out.mono ?_
      rintro e w7 ⟨rfl, rfl⟩
      go_wp2_with fail
      go_ret
      exact ⟨rfl, B7.out⟩
end Go.Proofs.Ytnpmdhcebfpliaa
