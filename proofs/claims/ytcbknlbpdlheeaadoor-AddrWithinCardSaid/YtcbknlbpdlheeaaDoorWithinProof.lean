/-
  AddrWithin returns true for every two addresses and numbers of bits, and leaves its arguments as they were: the tied card of the row. Conditions: those of the given card, no others.
-/
import Derived.Test.YtcbknlbpdlheeaaDoorWithinB
import Derived.Test.YtcbknlbpdlheeaaDoorFrame
import Derived.Test.YtcbknlbpdlheeaaDoorCards
import Derived.Lib.SmallJoins
namespace Go.Proofs.YtcbknlbpdlheeaaDoor.addrWithin
open Go.ChangeShapes Go.WideShapes Go.ChangeAt Go.RowKit Go.Joins
open Go.ChangeMaps (open_string shut_string)

theorem walk_a (a0 a1 a2 a3 A x B y : Int) (w : World) (h1 : 0 ≤ a1) (h2 : a1 ≤ 128) (hA : okB A x = true) (hB : okB B y = true) (hA0 : 0 ≤ A) (hA2 : A < 4294967296) (hB0 : 0 ≤ B) (hB2 : B < 4294967296) (HT : Hid (Tab w))
    (HX : Hid (∀ W, Calls Tryd.prog 21 #[.int .u32 a0, .int .u8 a1] W fun e w' => e = .returned (.agg #[.int .u32 A, .int .i64 x]) ∧ Below W.heap.size W w')) (HY : Hid (∀ W, Calls Tryd.prog 21 #[.int .u32 a2, .int .u8 a3] W fun e w' => e = .returned (.agg #[.int .u32 B, .int .i64 y]) ∧ Below W.heap.size W w')) :
    Calls Tryd.prog 7 #[.int .u32 a0, .int .u8 a1, .int .u32 a2, .int .u8 a3] w fun e w' => e = .returned (.bool true) ∧ Below w.heap.size w w' := by
  obtain ⟨hx0, hx1, _⟩ := ok_out hA
  obtain ⟨hy0, hy1, _⟩ := ok_out hB
  have hA1 := room hA hA2
  have hB1 := room hB hB2
  have px := p2_pos x
  have py := p2_pos y
  by_cases q1 : B + p2 y ≤ A
  · have HW1 := Lib.hid fun W => within_eq A x B y false W hA0 hA2 hB0 hB2 (by rw [within_in hA hB]; exact decide_eq_false (by omega))
    have HW2 := Lib.hid fun W => within_eq B y A x false W hB0 hB2 hA0 hA2 (by rw [within_in hB hA]; exact decide_eq_false (by omega))
    have HO := Lib.hid fun W => overlap_eq A x B y false W hA0 hA2 hB0 hB2 (by rw [over_in hA hB]; exact decide_eq_false (by omega))
    exact within_a_l a0 a1 a2 a3 A x B y w h1 h2 hx0 hx1 hy0 hy1 hA0 hA1 hB0 hB1 q1 HT HX HY HW1 HW2 HO
  · by_cases q2 : A + p2 x ≤ B
    · have HW1 := Lib.hid fun W => within_eq A x B y false W hA0 hA2 hB0 hB2 (by rw [within_in hA hB]; exact decide_eq_false (by omega))
      have HW2 := Lib.hid fun W => within_eq B y A x false W hB0 hB2 hA0 hA2 (by rw [within_in hB hA]; exact decide_eq_false (by omega))
      have HO := Lib.hid fun W => overlap_eq A x B y false W hA0 hA2 hB0 hB2 (by rw [over_in hA hB]; exact decide_eq_false (by omega))
      exact within_a_r a0 a1 a2 a3 A x B y w h1 h2 hx0 hx1 hy0 hy1 hA0 hA1 hB0 hB1 q2 HT HX HY HW1 HW2 HO
    · rcases meet hA hB (by omega) (by omega) with ⟨m1, m2⟩ | ⟨m1, m2⟩
      · by_cases q3 : A ≤ B
        · by_cases q4 : B + p2 y ≤ A + p2 x
          · have HW1 := Lib.hid fun W => within_eq A x B y true W hA0 hA2 hB0 hB2 (by rw [within_in hA hB]; exact decide_eq_true (by omega))
            have HW2 := Lib.hid fun W => within_eq B y A x true W hB0 hB2 hA0 hA2 (by rw [within_in hB hA]; exact decide_eq_true (by omega))
            have HO := Lib.hid fun W => overlap_eq A x B y true W hA0 hA2 hB0 hB2 (by rw [over_in hA hB]; exact decide_eq_true (by omega))
            exact within_a_e a0 a1 a2 a3 A x B y w h1 h2 hx0 hx1 hy0 hy1 hA0 hA1 hB0 hB1 m1 q3 q4 m2 HT HX HY HW1 HW2 HO
          · have HW1 := Lib.hid fun W => within_eq A x B y true W hA0 hA2 hB0 hB2 (by rw [within_in hA hB]; exact decide_eq_true (by omega))
            have HW2 := Lib.hid fun W => within_eq B y A x false W hB0 hB2 hA0 hA2 (by rw [within_in hB hA]; exact decide_eq_false (by omega))
            have HO := Lib.hid fun W => overlap_eq A x B y true W hA0 hA2 hB0 hB2 (by rw [over_in hA hB]; exact decide_eq_true (by omega))
            exact within_a_i2 a0 a1 a2 a3 A x B y w h1 h2 hx0 hx1 hy0 hy1 hA0 hA1 hB0 hB1 m1 q3 (by omega) HT HX HY HW1 HW2 HO
        · have HW1 := Lib.hid fun W => within_eq A x B y true W hA0 hA2 hB0 hB2 (by rw [within_in hA hB]; exact decide_eq_true (by omega))
          have HW2 := Lib.hid fun W => within_eq B y A x false W hB0 hB2 hA0 hA2 (by rw [within_in hB hA]; exact decide_eq_false (by omega))
          have HO := Lib.hid fun W => overlap_eq A x B y true W hA0 hA2 hB0 hB2 (by rw [over_in hA hB]; exact decide_eq_true (by omega))
          exact within_a_i1 a0 a1 a2 a3 A x B y w h1 h2 hx0 hx1 hy0 hy1 hA0 hA1 hB0 hB1 (by omega) m2 HT HX HY HW1 HW2 HO
      · by_cases q3 : B ≤ A
        · by_cases q4 : A + p2 x ≤ B + p2 y
          · have HW1 := Lib.hid fun W => within_eq A x B y true W hA0 hA2 hB0 hB2 (by rw [within_in hA hB]; exact decide_eq_true (by omega))
            have HW2 := Lib.hid fun W => within_eq B y A x true W hB0 hB2 hA0 hA2 (by rw [within_in hB hA]; exact decide_eq_true (by omega))
            have HO := Lib.hid fun W => overlap_eq A x B y true W hA0 hA2 hB0 hB2 (by rw [over_in hA hB]; exact decide_eq_true (by omega))
            exact within_a_e a0 a1 a2 a3 A x B y w h1 h2 hx0 hx1 hy0 hy1 hA0 hA1 hB0 hB1 q3 m1 m2 q4 HT HX HY HW1 HW2 HO
          · have HW1 := Lib.hid fun W => within_eq A x B y false W hA0 hA2 hB0 hB2 (by rw [within_in hA hB]; exact decide_eq_false (by omega))
            have HW2 := Lib.hid fun W => within_eq B y A x true W hB0 hB2 hA0 hA2 (by rw [within_in hB hA]; exact decide_eq_true (by omega))
            have HO := Lib.hid fun W => overlap_eq A x B y true W hA0 hA2 hB0 hB2 (by rw [over_in hA hB]; exact decide_eq_true (by omega))
            exact within_a_o2 a0 a1 a2 a3 A x B y w h1 h2 hx0 hx1 hy0 hy1 hA0 hA1 hB0 hB1 q3 m1 (by omega) HT HX HY HW1 HW2 HO
        · have HW1 := Lib.hid fun W => within_eq A x B y false W hA0 hA2 hB0 hB2 (by rw [within_in hA hB]; exact decide_eq_false (by omega))
          have HW2 := Lib.hid fun W => within_eq B y A x true W hB0 hB2 hA0 hA2 (by rw [within_in hB hA]; exact decide_eq_true (by omega))
          have HO := Lib.hid fun W => overlap_eq A x B y true W hA0 hA2 hB0 hB2 (by rw [over_in hA hB]; exact decide_eq_true (by omega))
          exact within_a_o1 a0 a1 a2 a3 A x B y w h1 h2 hx0 hx1 hy0 hy1 hA0 hA1 hB0 hB1 (by omega) m2 HT HX HY HW1 HW2 HO

theorem walk_b (a0 a1 a2 a3 A x B y C z : Int) (w : World) (h0 : 0 ≤ a2) (h1 : 128 < a1) (h2 : a1 < 256) (hA : okB A x = true) (hB : okB B y = true) (hA0 : 0 ≤ A) (hA2 : A < 4294967296) (hB0 : 0 ≤ B) (hB2 : B < 4294967296) (HT : Hid (Tab w))
    (HX : Hid (∀ W, Calls Tryd.prog 21 #[.int .u32 a0, .int .u8 a1] W fun e w' => e = .returned (.agg #[.int .u32 A, .int .i64 x]) ∧ Below W.heap.size W w')) (HY : Hid (∀ W, Calls Tryd.prog 21 #[.int .u32 a2, .int .u8 a3] W fun e w' => e = .returned (.agg #[.int .u32 C, .int .i64 z]) ∧ Below W.heap.size W w')) (HZ : Hid (∀ W, Calls Tryd.prog 21 #[.int .u32 (bits .xor .u32 a0 (a2 % 64)), .int .u8 a3] W fun e w' => e = .returned (.agg #[.int .u32 B, .int .i64 y]) ∧ Below W.heap.size W w')) :
    Calls Tryd.prog 7 #[.int .u32 a0, .int .u8 a1, .int .u32 a2, .int .u8 a3] w fun e w' => e = .returned (.bool true) ∧ Below w.heap.size w w' := by
  obtain ⟨hx0, hx1, _⟩ := ok_out hA
  obtain ⟨hy0, hy1, _⟩ := ok_out hB
  have hA1 := room hA hA2
  have hB1 := room hB hB2
  have px := p2_pos x
  have py := p2_pos y
  by_cases q1 : B + p2 y ≤ A
  · have HW1 := Lib.hid fun W => within_eq A x B y false W hA0 hA2 hB0 hB2 (by rw [within_in hA hB]; exact decide_eq_false (by omega))
    have HW2 := Lib.hid fun W => within_eq B y A x false W hB0 hB2 hA0 hA2 (by rw [within_in hB hA]; exact decide_eq_false (by omega))
    have HO := Lib.hid fun W => overlap_eq A x B y false W hA0 hA2 hB0 hB2 (by rw [over_in hA hB]; exact decide_eq_false (by omega))
    exact within_b_l a0 a1 a2 a3 A x B y C z w h0 h1 h2 hx0 hx1 hy0 hy1 hA0 hA1 hB0 hB1 q1 HT HX HY HZ HW1 HW2 HO
  · by_cases q2 : A + p2 x ≤ B
    · have HW1 := Lib.hid fun W => within_eq A x B y false W hA0 hA2 hB0 hB2 (by rw [within_in hA hB]; exact decide_eq_false (by omega))
      have HW2 := Lib.hid fun W => within_eq B y A x false W hB0 hB2 hA0 hA2 (by rw [within_in hB hA]; exact decide_eq_false (by omega))
      have HO := Lib.hid fun W => overlap_eq A x B y false W hA0 hA2 hB0 hB2 (by rw [over_in hA hB]; exact decide_eq_false (by omega))
      exact within_b_r a0 a1 a2 a3 A x B y C z w h0 h1 h2 hx0 hx1 hy0 hy1 hA0 hA1 hB0 hB1 q2 HT HX HY HZ HW1 HW2 HO
    · rcases meet hA hB (by omega) (by omega) with ⟨m1, m2⟩ | ⟨m1, m2⟩
      · by_cases q3 : A ≤ B
        · by_cases q4 : B + p2 y ≤ A + p2 x
          · have HW1 := Lib.hid fun W => within_eq A x B y true W hA0 hA2 hB0 hB2 (by rw [within_in hA hB]; exact decide_eq_true (by omega))
            have HW2 := Lib.hid fun W => within_eq B y A x true W hB0 hB2 hA0 hA2 (by rw [within_in hB hA]; exact decide_eq_true (by omega))
            have HO := Lib.hid fun W => overlap_eq A x B y true W hA0 hA2 hB0 hB2 (by rw [over_in hA hB]; exact decide_eq_true (by omega))
            exact within_b_e a0 a1 a2 a3 A x B y C z w h0 h1 h2 hx0 hx1 hy0 hy1 hA0 hA1 hB0 hB1 m1 q3 q4 m2 HT HX HY HZ HW1 HW2 HO
          · have HW1 := Lib.hid fun W => within_eq A x B y true W hA0 hA2 hB0 hB2 (by rw [within_in hA hB]; exact decide_eq_true (by omega))
            have HW2 := Lib.hid fun W => within_eq B y A x false W hB0 hB2 hA0 hA2 (by rw [within_in hB hA]; exact decide_eq_false (by omega))
            have HO := Lib.hid fun W => overlap_eq A x B y true W hA0 hA2 hB0 hB2 (by rw [over_in hA hB]; exact decide_eq_true (by omega))
            exact within_b_i2 a0 a1 a2 a3 A x B y C z w h0 h1 h2 hx0 hx1 hy0 hy1 hA0 hA1 hB0 hB1 m1 q3 (by omega) HT HX HY HZ HW1 HW2 HO
        · have HW1 := Lib.hid fun W => within_eq A x B y true W hA0 hA2 hB0 hB2 (by rw [within_in hA hB]; exact decide_eq_true (by omega))
          have HW2 := Lib.hid fun W => within_eq B y A x false W hB0 hB2 hA0 hA2 (by rw [within_in hB hA]; exact decide_eq_false (by omega))
          have HO := Lib.hid fun W => overlap_eq A x B y true W hA0 hA2 hB0 hB2 (by rw [over_in hA hB]; exact decide_eq_true (by omega))
          exact within_b_i1 a0 a1 a2 a3 A x B y C z w h0 h1 h2 hx0 hx1 hy0 hy1 hA0 hA1 hB0 hB1 (by omega) m2 HT HX HY HZ HW1 HW2 HO
      · by_cases q3 : B ≤ A
        · by_cases q4 : A + p2 x ≤ B + p2 y
          · have HW1 := Lib.hid fun W => within_eq A x B y true W hA0 hA2 hB0 hB2 (by rw [within_in hA hB]; exact decide_eq_true (by omega))
            have HW2 := Lib.hid fun W => within_eq B y A x true W hB0 hB2 hA0 hA2 (by rw [within_in hB hA]; exact decide_eq_true (by omega))
            have HO := Lib.hid fun W => overlap_eq A x B y true W hA0 hA2 hB0 hB2 (by rw [over_in hA hB]; exact decide_eq_true (by omega))
            exact within_b_e a0 a1 a2 a3 A x B y C z w h0 h1 h2 hx0 hx1 hy0 hy1 hA0 hA1 hB0 hB1 q3 m1 m2 q4 HT HX HY HZ HW1 HW2 HO
          · have HW1 := Lib.hid fun W => within_eq A x B y false W hA0 hA2 hB0 hB2 (by rw [within_in hA hB]; exact decide_eq_false (by omega))
            have HW2 := Lib.hid fun W => within_eq B y A x true W hB0 hB2 hA0 hA2 (by rw [within_in hB hA]; exact decide_eq_true (by omega))
            have HO := Lib.hid fun W => overlap_eq A x B y true W hA0 hA2 hB0 hB2 (by rw [over_in hA hB]; exact decide_eq_true (by omega))
            exact within_b_o2 a0 a1 a2 a3 A x B y C z w h0 h1 h2 hx0 hx1 hy0 hy1 hA0 hA1 hB0 hB1 q3 m1 (by omega) HT HX HY HZ HW1 HW2 HO
        · have HW1 := Lib.hid fun W => within_eq A x B y false W hA0 hA2 hB0 hB2 (by rw [within_in hA hB]; exact decide_eq_false (by omega))
          have HW2 := Lib.hid fun W => within_eq B y A x true W hB0 hB2 hA0 hA2 (by rw [within_in hB hA]; exact decide_eq_true (by omega))
          have HO := Lib.hid fun W => overlap_eq A x B y true W hA0 hA2 hB0 hB2 (by rw [over_in hA hB]; exact decide_eq_true (by omega))
          exact within_b_o1 a0 a1 a2 a3 A x B y C z w h0 h1 h2 hx0 hx1 hy0 hy1 hA0 hA1 hB0 hB1 (by omega) m2 HT HX HY HZ HW1 HW2 HO

theorem walk (a0 a1 a2 a3 : Int) (w : World) (w0 : (Lit.int .u32 a0).wf = true) (w1 : (Lit.int .u8 a1).wf = true) (w2 : (Lit.int .u32 a2).wf = true) (w3 : (Lit.int .u8 a3).wf = true) (ht : Tab w) :
    Calls Tryd.prog 7 #[.int .u32 a0, .int .u8 a1, .int .u32 a2, .int .u8 a3] w fun e w' => e = .returned (.bool true) ∧ Below w.heap.size w w' := by
  obtain ⟨b0, b0'⟩ := bounds_u32 w0
  obtain ⟨b1, b1'⟩ := bounds_u8 w1
  obtain ⟨b2, b2'⟩ := bounds_u32 w2
  obtain ⟨b3, b3'⟩ := bounds_u8 w3
  have l0 := made_lo a0 (20 + a1 % 13) b0
  have HX := Lib.hid fun W => block_any a0 a1 W b0 (by omega) b1 (by omega)
  have HY := Lib.hid fun W => block_any a2 a3 W b2 (by omega) b3 (by omega)
  by_cases hn : a1 ≤ 128
  · have l2 := made_lo a2 (20 + a3 % 13) b2
    exact walk_a a0 a1 a2 a3 _ _ _ _ w b1 hn (made_ok a0 _ (by omega) (by omega)) (made_ok a2 _ (by omega) (by omega)) l0.1 (by omega) l2.1 (by omega) ht HX HY
  · obtain ⟨x0, x1⟩ := xor_bd a0 (a2 % 64) b0 (by omega) (by omega) (by omega)
    have l2 := made_lo (bits .xor .u32 a0 (a2 % 64)) (20 + a3 % 13) x0
    have HZ := Lib.hid fun W => block_any (bits .xor .u32 a0 (a2 % 64)) a3 W x0 x1 b3 (by omega)
    exact walk_b a0 a1 a2 a3 _ _ _ _ _ _ w b2 (by omega) (by omega) (made_ok a0 _ (by omega) (by omega)) (made_ok _ _ (by omega) (by omega)) l0.1 (by omega) l2.1 (by omega) ht HX HY HZ

set_option maxRecDepth 100000 in
theorem lifted (os : Os) (started : os.Started) (H : Type) (enc : TypeId × Value → H) :
    ReturnsInHanded {} Tryd.checked os 7 .any (fun w args => (Rows.addrWithinSpec.pre enc Tryd.prog Tryd.f7 [] false w args ∧ laidMetH Tryd.prog laid3 w) ∧ sizedMet enc Tryd.prog Tryd.f7 (OpenSpec.ofChange Rows.addrWithinSpec) false w args)
      (Rows.addrWithinSpec.post enc Tryd.prog Tryd.f7 false true false false) := by
  refine returnsInHanded_of_change_and (C := Tryd.checked) (X := fun w _ => laidMetH Tryd.prog laid3 w) (fun _ _ _ hh h => h.of_heap hh) own started (by kernel_rfl) Tryd.func7
    (ChangeSpec.witness_shaped (enc := enc) (C := Tryd.checked) (os := os) (X := fun w _ => laidMetH Tryd.prog laid3 w) false (World.doorLaid Tryd.prog 24 os) #[.int .u32 0, .int .u8 0, .int .u32 0, .int .u8 0] 8 rfl (World.shaped_of_RefB (by kernel_rfl) (by kernel_rfl)) (by kernel_rfl) (by kernel_rfl) (by kernel_rfl) (door_met os _)) ?_
  intro W base args ds gs before hval0 hW _ _ hL _
  have hval : ∀ (j : Nat) t v, Tryd.f7.params[j]? = some t → args[j]? = some v → Value.okWide Tryd.prog W .any base t v := hval0
  have hW' := hW
  obtain ⟨p, q, hA0, hV, rfl, hfz, hnd⟩ := hW
  have hA : DataW.TrodAll enc Tryd.prog W 0 (fun _ => true) true Tryd.f7.params.toList args.toList ds p := hA0
  rw [Tryd.params7] at hA hval
  obtain ⟨v0, vs0, d0, ds0, p0, q0, hargs, rfl, rfl, h0, r0⟩ := trodAll_cons hA
  obtain ⟨v1, vs1, d1, ds1, p1, q1, rfl, rfl, rfl, h1, r1⟩ := trodAll_cons r0
  obtain ⟨v2, vs2, d2, ds2, p2, q2, rfl, rfl, rfl, h2, r2⟩ := trodAll_cons r1
  obtain ⟨v3, vs3, d3, ds3, p3, q3, rfl, rfl, rfl, h3, r3⟩ := trodAll_cons r2
  obtain ⟨rfl, rfl, rfl⟩ := trodAll_nil r3
  obtain rfl : args = #[v0, v1, v2, v3] := by cases args; simp_all
  obtain ⟨rfl, rfl⟩ := trodVars_none hV
  obtain ⟨a0, rfl, rfl, rfl, w0⟩ := open_int Tryd.underlying22 (hval 0 22 v0 rfl rfl) h0
  obtain ⟨a1, rfl, rfl, rfl, w1⟩ := open_int Tryd.underlying5 (hval 1 5 v1 rfl rfl) h1
  obtain ⟨a2, rfl, rfl, rfl, w2⟩ := open_int Tryd.underlying22 (hval 2 22 v2 rfl rfl) h2
  obtain ⟨a3, rfl, rfl, rfl, w3⟩ := open_int Tryd.underlying5 (hval 3 5 v3 rfl rfl) h3
  clear hA0 hval0
  refine (walk a0 a1 a2 a3 W w0 w1 w2 w3 (tab_of_laid hL)).mono fun e W' ⟨he, bel⟩ => ?_
  subst he
  exact ⟨_, rfl, _, _, _, [], [], [], hW', trodAll_mk1 (shut_bool Tryd.underlying4 _), (trodAll_cons_mk (shut_int Tryd.underlying22 w0) (trodAll_cons_mk (shut_int Tryd.underlying5 w1) (trodAll_cons_mk (shut_int Tryd.underlying22 w2) (trodAll_cons_mk (shut_int Tryd.underlying5 w3) trodAll_mk0)))), rfl, bel.frame _, fun h => by cases h⟩

theorem over : Rows.AddrWithinSaid :=
  OpenClaim.holds_of_wide 7 Tryd.f7 rfl rfl rfl rfl rfl rfl rfl ⟨rfl, rfl, rfl, rfl, rfl⟩ rfl rfl rfl rfl rfl (by kernel_rfl) Tryd.func7 (by kernel_rfl)
    (of_decide_eq_true (by kernel_rfl)) (by unfold Func.isWrapper; first | (rw [if_pos (by decide +kernel)]; kernel_rfl) | (rw [if_neg (by decide +kernel)]; exact ⟨rfl, rfl⟩))
    (fun os started H enc _ => lifted os started H enc)

theorem holds : Rows.AddrWithinCardSaid :=
  Claim7.holds_tied_plain_at .later [] [.data, .data, .data] true (true, "20be242a6cd02bb50dd9a0b4d9478c802f75634cc6d26fe87662346e55cc61f5") false
    over (fun _ h => by cases h) (by kernel_rfl) (fun _ h => by cases h) addrWithin_row_tie rfl ⟨rfl, rfl⟩ (by kernel_rfl) rfl
    (fun f fn hf hfn => by
      obtain rfl : f = 7 := Option.some.inj ((show Tryd.prog.funcNamed Rows.addrWithinRow.func = some 7 by kernel_rfl).symm.trans hf) |>.symm
      obtain rfl : fn = Tryd.f7 := (Option.some.inj (Tryd.func7.symm.trans hfn)).symm
      exact ⟨by kernel_rfl, fun j t ht => by
        rw [Tryd.params7] at ht
        have hm : t ∈ [22, 5, 22, 5] := by simpa using Array.mem_of_getElem? ht
        have hall : ([22, 5, 22, 5].all fun u => !Tryd.prog.wantsStandIn u) = true := by kernel_rfl
        exact (show Tryd.prog.wantsStandIn t = false by simpa using List.all_eq_true.1 hall t hm)⟩)
    (by kernel_rfl)
end Go.Proofs.YtcbknlbpdlheeaaDoor.addrWithin
