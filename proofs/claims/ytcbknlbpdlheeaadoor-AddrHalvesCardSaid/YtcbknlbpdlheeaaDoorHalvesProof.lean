/-
  AddrHalves returns true for every two addresses and numbers of bits, and leaves its arguments as they were: the tied card of the row. Conditions: those of the given card, no others.
-/
import Derived.Test.YtcbknlbpdlheeaaDoorHalvesB
import Derived.Test.YtcbknlbpdlheeaaDoorHalvesC
import Derived.Test.YtcbknlbpdlheeaaDoorFrame
import Derived.Test.YtcbknlbpdlheeaaDoorCards
import Derived.Lib.SmallJoins
namespace Go.Proofs.YtcbknlbpdlheeaaDoor.addrHalves
open Go.ChangeShapes Go.WideShapes Go.ChangeAt Go.RowKit Go.Joins
open Go.ChangeMaps (open_string shut_string)

theorem pow_one {b : Int} (h0 : 1 ≤ b) (h1 : b ≤ 32) : (2 : Int) ^ (32 - b).toNat % 4294967296 = p2 b := by
  have e := p2_succ (b - 1) (by omega)
  rw [show b - 1 + 1 = b by omega] at e
  have l := p2_le (b - 1) (by omega)
  have p := p2_pos b
  show p2 b % 4294967296 = p2 b
  omega

theorem odd_of {A b C : Int} (hA : okB A b = true) (h1 : 1 ≤ b) (hA0 : 0 ≤ A) (hA1 : A < 4294967296) (hC : C = (A + p2 b) % 4294967296) (hw : wholeB A b C b = false) : (A / 2 ^ (32 - b).toNat).tmod 2 = 1 := by
  obtain ⟨b0, b1, m⟩ := ok_out hA
  have hp := p2_pos b
  show (A / p2 b).tmod 2 = 1
  have hk : 0 ≤ A / p2 b := Int.ediv_nonneg hA0 (Int.le_of_lt hp)
  rw [Int.tmod_eq_emod_of_nonneg hk]
  have e1 := Int.mul_ediv_add_emod A (p2 b)
  rw [m, Int.add_zero] at e1
  have e2 := p2_succ (b - 1) (by omega)
  rw [show b - 1 + 1 = b by omega] at e2
  by_cases h : A / p2 b % 2 = 1
  · exact h
  · exfalso
    have h2 : A / p2 b = 2 * (A / p2 b / 2) := by omega
    have hd : A % p2 (b - 1) = 0 := by
      refine Int.emod_eq_zero_of_dvd ⟨A / p2 b / 2, ?_⟩
      rw [e2, Int.mul_comm 2 (p2 b), Int.mul_assoc, ← h2]
      exact e1.symm
    have hr := room (ok_iff.2 ⟨by omega, by omega, hd⟩) hA1
    have : wholeB A b C b = true := by
      unfold wholeB
      exact decide_eq_true ⟨h1, b1, hd, rfl, by omega⟩
    rw [hw] at this
    cases this

theorem zero_halves (W : World) : Calls Tryd.prog 26 #[.agg #[.int .u32 0, .int .i64 0]] W fun e w' => e = .returned (.tuple #[.agg #[.int .u32 0, .int .i64 1], .agg #[.int .u32 2147483648, .int .i64 1], .bool true]) ∧ Below W.heap.size W w' := by
  have := halves_yes 0 0 W (by decide) (by decide) (by decide)
  rwa [show (0 : Int) + p2 (0 + 1) = 2147483648 from by decide, show (0 : Int) + 1 = 1 from rfl] at this

theorem walk0 (a0 a1 a2 a3 A b C d : Int) (w : World) (h1 : 0 ≤ a1) (hb : 1 ≤ b) (hA : okB A b = true) (hA0 : 0 ≤ A) (hA1 : A < 4294967296) (HT : Hid (Tab w))
    (HX : Hid (∀ W, Calls Tryd.prog 21 #[.int .u32 a0, .int .u8 a1] W fun e w' => e = .returned (.agg #[.int .u32 A, .int .i64 b]) ∧ Below W.heap.size W w')) (HY : Hid (∀ W, Calls Tryd.prog 21 #[.int .u32 a2, .int .u8 a3] W fun e w' => e = .returned (.agg #[.int .u32 C, .int .i64 d]) ∧ Below W.heap.size W w')) :
    Calls Tryd.prog 8 #[.int .u32 a0, .int .u8 a1, .int .u32 a2, .int .u8 a3] w fun e w' => e = .returned (.bool true) ∧ Below w.heap.size w w' := by
  obtain ⟨b0, b1, _⟩ := ok_out hA
  have H5 := Lib.hid fun W => whole_any A b C d W hA0 hA1 (by omega) (by omega)
  cases hw : wholeB A b C d
  · rw [show wholeV A b C d = .tuple #[.agg #[.int .u32 0, .int .i64 0], .bool false] by rw [wholeV, hw]; rfl] at H5
    have H6 := Lib.hid zero_halves
    by_cases hd : d = b
    · subst hd
      by_cases hC : C = (A + p2 d) % 4294967296
      · have q2 := odd_of hA hb hA0 hA1 hC hw
        by_cases h32 : d < 32
        · exact halves_1n3 a0 a1 a2 a3 A d C _ w h1 b0 h32 hA0 hA1 hA HT HX (pow_one hb b1) hC q2 HY H5 H6
        · exact halves_2n3 a0 a1 a2 a3 A d C _ w (by omega) b1 hA0 hA1 HT HX (pow_one hb b1) hC q2 HY H5 H6
      · have q1 : (C == (A + p2 d) % 4294967296) = false := by simp only [beq_eq_false_iff_ne]; exact hC
        have q1' : (C != (A + p2 d) % 4294967296) = true := by rw [bne, q1]; rfl
        by_cases h32 : d < 32
        · exact halves_1n2 a0 a1 a2 a3 A d C _ w h1 b0 h32 hA0 hA1 hA HT HX (pow_one hb b1) q1 q1' HY H5 H6
        · exact halves_2n2 a0 a1 a2 a3 A d C _ w (by omega) b1 hA0 hA1 HT HX (pow_one hb b1) q1 q1' HY H5 H6
    · have q1 : (b == d) = false := by simp only [beq_eq_false_iff_ne]; exact fun e => hd e.symm
      have q1' : (b != d) = true := by rw [bne, q1]; rfl
      by_cases h32 : b < 32
      · exact halves_1n1 a0 a1 a2 a3 A b C d w h1 b0 h32 hA0 hA1 hA HT HX q1 q1' HY H5 H6
      · exact halves_2n1 a0 a1 a2 a3 A b C d w (by omega) b1 hA0 hA1 HT HX q1 q1' HY H5 H6
  · rw [show wholeV A b C d = .tuple #[.agg #[.int .u32 A, .int .i64 (b - 1)], .bool true] by rw [wholeV, if_pos hw]] at H5
    obtain ⟨_, _, hm, hd, hC⟩ := of_decide_eq_true hw
    have H6 := Lib.hid fun W => halves_yes A (b - 1) W hA0 hA1 (by
      simp only [halvesB, Bool.and_eq_true, decide_eq_true_eq]
      exact ⟨ok_iff.2 ⟨by omega, by omega, hm⟩, by omega⟩)
    rw [show b - 1 + 1 = b by omega, ← hC] at H6
    subst hd
    by_cases h32 : d < 32
    · exact halves_1y a0 a1 a2 a3 A d C w h1 b0 h32 hA0 hA1 hA HT HX HY H5 H6
    · exact halves_2y a0 a1 a2 a3 A d C w (by omega) b1 hA0 hA1 HT HX HY H5 H6

theorem walk (a0 a1 a2 a3 : Int) (w : World) (w0 : (Lit.int .u32 a0).wf = true) (w1 : (Lit.int .u8 a1).wf = true) (w2 : (Lit.int .u32 a2).wf = true) (w3 : (Lit.int .u8 a3).wf = true) (ht : Tab w) :
    Calls Tryd.prog 8 #[.int .u32 a0, .int .u8 a1, .int .u32 a2, .int .u8 a3] w fun e w' => e = .returned (.bool true) ∧ Below w.heap.size w w' := by
  obtain ⟨b0, b0'⟩ := bounds_u32 w0
  obtain ⟨b1, b1'⟩ := bounds_u8 w1
  obtain ⟨b2, b2'⟩ := bounds_u32 w2
  obtain ⟨b3, b3'⟩ := bounds_u8 w3
  have l0 := made_lo a0 (20 + a1 % 13) b0
  have HX := Lib.hid fun W => block_any a0 a1 W b0 (by omega) b1 (by omega)
  have HY := Lib.hid fun W => block_any a2 a3 W b2 (by omega) b3 (by omega)
  exact walk0 a0 a1 a2 a3 _ _ _ _ w b1 (by omega) (made_ok a0 _ (by omega) (by omega)) l0.1 (by omega) ht HX HY

set_option maxRecDepth 100000 in
theorem lifted (os : Os) (started : os.Started) (H : Type) (enc : TypeId × Value → H) :
    ReturnsInHanded {} Tryd.checked os 8 .any (fun w args => (Rows.addrHalvesSpec.pre enc Tryd.prog Tryd.f8 [] false w args ∧ laidMetH Tryd.prog laid3 w) ∧ sizedMet enc Tryd.prog Tryd.f8 (OpenSpec.ofChange Rows.addrHalvesSpec) false w args)
      (Rows.addrHalvesSpec.post enc Tryd.prog Tryd.f8 false true false false) := by
  refine returnsInHanded_of_change_and (C := Tryd.checked) (X := fun w _ => laidMetH Tryd.prog laid3 w) (fun _ _ _ hh h => h.of_heap hh) own started (by kernel_rfl) Tryd.func8
    (ChangeSpec.witness_shaped (enc := enc) (C := Tryd.checked) (os := os) (X := fun w _ => laidMetH Tryd.prog laid3 w) false (World.doorLaid Tryd.prog 24 os) #[.int .u32 0, .int .u8 0, .int .u32 0, .int .u8 0] 8 rfl (World.shaped_of_RefB (by kernel_rfl) (by kernel_rfl)) (by kernel_rfl) (by kernel_rfl) (by kernel_rfl) (door_met os _)) ?_
  intro W base args ds gs before hval0 hW _ _ hL _
  have hval : ∀ (j : Nat) t v, Tryd.f8.params[j]? = some t → args[j]? = some v → Value.okWide Tryd.prog W .any base t v := hval0
  have hW' := hW
  obtain ⟨p, q, hA0, hV, rfl, hfz, hnd⟩ := hW
  have hA : DataW.TrodAll enc Tryd.prog W 0 (fun _ => true) true Tryd.f8.params.toList args.toList ds p := hA0
  rw [Tryd.params8] at hA hval
  obtain ⟨v0, vs0, d0, ds0, p0, q0, hargs, rfl, rfl, h0, r0⟩ := trodAll_cons hA
  obtain ⟨v1, vs1, d1, ds1, p1, q1, rfl, rfl, rfl, h1, r1⟩ := trodAll_cons r0
  obtain ⟨v2, vs2, d2, ds2, p2, q2, rfl, rfl, rfl, h2, r2⟩ := trodAll_cons r1
  obtain ⟨v3, vs3, d3, ds3, p3, q3, rfl, rfl, rfl, h3, r3⟩ := trodAll_cons r2
  obtain ⟨rfl, rfl, rfl⟩ := trodAll_nil r3
  obtain rfl : args = #[v0, v1, v2, v3] := by cases args; simp_all
  obtain ⟨rfl, rfl⟩ := trodVars_none hV
  obtain ⟨a0, rfl, rfl, rfl, w0⟩ := open_int Tryd.underlying22 (hval 0 22 v0 rfl rfl) h0
  obtain ⟨a1, rfl, rfl, rfl, w1⟩ := open_int Tryd.underlying5 (hval 1 5 v1 rfl rfl) h1
  obtain ⟨a2, rfl, rfl, rfl, w2⟩ := open_int Tryd.underlying22 (hval 2 22 v2 rfl rfl) h2
  obtain ⟨a3, rfl, rfl, rfl, w3⟩ := open_int Tryd.underlying5 (hval 3 5 v3 rfl rfl) h3
  clear hA0 hval0
  refine (walk a0 a1 a2 a3 W w0 w1 w2 w3 (tab_of_laid hL)).mono fun e W' ⟨he, bel⟩ => ?_
  subst he
  exact ⟨_, rfl, _, _, _, [], [], [], hW', trodAll_mk1 (shut_bool Tryd.underlying4 _), (trodAll_cons_mk (shut_int Tryd.underlying22 w0) (trodAll_cons_mk (shut_int Tryd.underlying5 w1) (trodAll_cons_mk (shut_int Tryd.underlying22 w2) (trodAll_cons_mk (shut_int Tryd.underlying5 w3) trodAll_mk0)))), rfl, bel.frame _, fun h => by cases h⟩

theorem over : Rows.AddrHalvesSaid :=
  OpenClaim.holds_of_wide 8 Tryd.f8 rfl rfl rfl rfl rfl rfl rfl ⟨rfl, rfl, rfl, rfl, rfl⟩ rfl rfl rfl rfl rfl (by kernel_rfl) Tryd.func8 (by kernel_rfl)
    (of_decide_eq_true (by kernel_rfl)) (by unfold Func.isWrapper; first | (rw [if_pos (by decide +kernel)]; kernel_rfl) | (rw [if_neg (by decide +kernel)]; exact ⟨rfl, rfl⟩))
    (fun os started H enc _ => lifted os started H enc)

theorem holds : Rows.AddrHalvesCardSaid :=
  Claim7.holds_tied_plain_at .later [] [.data, .data, .data] true (true, "20be242a6cd02bb50dd9a0b4d9478c802f75634cc6d26fe87662346e55cc61f5") false
    over (fun _ h => by cases h) (by kernel_rfl) (fun _ h => by cases h) addrHalves_row_tie rfl ⟨rfl, rfl⟩ (by kernel_rfl) rfl
    (fun f fn hf hfn => by
      obtain rfl : f = 8 := Option.some.inj ((show Tryd.prog.funcNamed Rows.addrHalvesRow.func = some 8 by kernel_rfl).symm.trans hf) |>.symm
      obtain rfl : fn = Tryd.f8 := (Option.some.inj (Tryd.func8.symm.trans hfn)).symm
      exact ⟨by kernel_rfl, fun j t ht => by
        rw [Tryd.params8] at ht
        have hm : t ∈ [22, 5, 22, 5] := by simpa using Array.mem_of_getElem? ht
        have hall : ([22, 5, 22, 5].all fun u => !Tryd.prog.wantsStandIn u) = true := by kernel_rfl
        exact (show Tryd.prog.wantsStandIn t = false by simpa using List.all_eq_true.1 hall t hm)⟩)
    (by kernel_rfl)
end Go.Proofs.YtcbknlbpdlheeaaDoor.addrHalves
