/-
  AddrBlock returns true for every address, number of bits, prefix and text, and leaves its arguments as they were: the tied card of the row. Conditions: those of the given card, no others.
-/
import Derived.Test.YtcbknlbpdlheeaaDoorBlockB
import Derived.Test.YtcbknlbpdlheeaaDoorFrame
import Derived.Test.YtcbknlbpdlheeaaDoorCards
import Derived.Lib.SmallJoins
namespace Go.Proofs.YtcbknlbpdlheeaaDoor.addrBlock
open Go.ChangeShapes Go.WideShapes Go.ChangeAt Go.RowKit Go.Joins
open Go.ChangeMaps (open_string shut_string)

theorem walk (a0 a1 b2 n2 : Int) (a3 : ByteArray) (w : World) (w0 : (Lit.int .u32 a0).wf = true) (w1 : (Lit.int .i8 a1).wf = true) (wb2 : (Lit.int .u32 b2).wf = true) (_wn2 : (Lit.int .i64 n2).wf = true) (w3 : a3.size ≤ maxLen) (ht : Tab w) :
    Calls Tryd.prog 5 #[.int .u32 a0, .int .i8 a1, .agg #[.int .u32 b2, .int .i64 n2], .string a3] w fun e w' => e = .returned (.bool true) ∧ Below w.heap.size w w' := by
  obtain ⟨c0, c0'⟩ := bounds_u32 w0
  obtain ⟨c1, c1'⟩ := bounds_i8 w1
  obtain ⟨c2, c2'⟩ := bounds_u32 wb2
  by_cases h0 : a1 < 0
  · cases q24 : okB b2 24
    · cases qs : pblO a3.data.toList with
      | none => exact block_lo_n_n a0 a1 b2 n2 a3 w c0 (by omega) c1 c1' c2 (by omega) h0 q24 w3 qs ht
      | some z => exact block_lo_n_y a0 a1 b2 n2 z.1 z.2 a3 w c0 (by omega) c1 c1' c2 (by omega) h0 q24 w3 qs ht
    · cases qs : pblO a3.data.toList with
      | none => exact block_lo_y_n a0 a1 b2 n2 a3 w c0 (by omega) c1 c1' c2 (by omega) h0 q24 w3 qs ht
      | some z => exact block_lo_y_y a0 a1 b2 n2 z.1 z.2 a3 w c0 (by omega) c1 c1' c2 (by omega) h0 q24 w3 qs ht
  · by_cases h1 : 32 < a1
    · cases q24 : okB b2 24
      · cases qs : pblO a3.data.toList with
        | none => exact block_hi_n_n a0 a1 b2 n2 a3 w c0 (by omega) c1 c1' c2 (by omega) h1 q24 w3 qs ht
        | some z => exact block_hi_n_y a0 a1 b2 n2 z.1 z.2 a3 w c0 (by omega) c1 c1' c2 (by omega) h1 q24 w3 qs ht
      · cases qs : pblO a3.data.toList with
        | none => exact block_hi_y_n a0 a1 b2 n2 a3 w c0 (by omega) c1 c1' c2 (by omega) h1 q24 w3 qs ht
        | some z => exact block_hi_y_y a0 a1 b2 n2 z.1 z.2 a3 w c0 (by omega) c1 c1' c2 (by omega) h1 q24 w3 qs ht
    · cases q24 : okB b2 24
      · cases qs : pblO a3.data.toList with
        | none => exact block_v_n_n a0 a1 b2 n2 a3 w c0 (by omega) c1 c1' c2 (by omega) (by omega) (by omega) q24 w3 qs ht
        | some z => exact block_v_n_y a0 a1 b2 n2 z.1 z.2 a3 w c0 (by omega) c1 c1' c2 (by omega) (by omega) (by omega) q24 w3 qs ht
      · cases qs : pblO a3.data.toList with
        | none => exact block_v_y_n a0 a1 b2 n2 a3 w c0 (by omega) c1 c1' c2 (by omega) (by omega) (by omega) q24 w3 qs ht
        | some z => exact block_v_y_y a0 a1 b2 n2 z.1 z.2 a3 w c0 (by omega) c1 c1' c2 (by omega) (by omega) (by omega) q24 w3 qs ht

set_option maxRecDepth 100000 in
theorem lifted (os : Os) (started : os.Started) (H : Type) (enc : TypeId × Value → H) :
    ReturnsInHanded {} Tryd.checked os 5 .any (fun w args => (Rows.addrBlockSpec.pre enc Tryd.prog Tryd.f5 [] false w args ∧ laidMetH Tryd.prog laid3 w) ∧ sizedMet enc Tryd.prog Tryd.f5 (OpenSpec.ofChange Rows.addrBlockSpec) false w args)
      (Rows.addrBlockSpec.post enc Tryd.prog Tryd.f5 false true false false) := by
  refine returnsInHanded_of_change_and (C := Tryd.checked) (X := fun w _ => laidMetH Tryd.prog laid3 w) (fun _ _ _ hh h => h.of_heap hh) own started (by kernel_rfl) Tryd.func5
    (ChangeSpec.witness_shaped (enc := enc) (C := Tryd.checked) (os := os) (X := fun w _ => laidMetH Tryd.prog laid3 w) false (World.doorLaid Tryd.prog 24 os) #[.int .u32 0, .int .i8 0, .agg #[.int .u32 0, .int .i64 0], .string ByteArray.empty] 8 rfl (World.shaped_of_RefB (by kernel_rfl) (by kernel_rfl)) (by kernel_rfl) (by kernel_rfl) (by kernel_rfl) (door_met os _)) ?_
  intro W base args ds gs before hval0 hW _ _ hL _
  have hval : ∀ (j : Nat) t v, Tryd.f5.params[j]? = some t → args[j]? = some v → Value.okWide Tryd.prog W .any base t v := hval0
  have hW' := hW
  obtain ⟨p, q, hA0, hV, rfl, hfz, hnd⟩ := hW
  have hA : DataW.TrodAll enc Tryd.prog W 0 (fun _ => true) true Tryd.f5.params.toList args.toList ds p := hA0
  rw [Tryd.params5] at hA hval
  obtain ⟨v0, vs0, d0, ds0, p0, q0, hargs, rfl, rfl, h0, r0⟩ := trodAll_cons hA
  obtain ⟨v1, vs1, d1, ds1, p1, q1, rfl, rfl, rfl, h1, r1⟩ := trodAll_cons r0
  obtain ⟨v2, vs2, d2, ds2, p2, q2, rfl, rfl, rfl, h2, r2⟩ := trodAll_cons r1
  obtain ⟨v3, vs3, d3, ds3, p3, q3, rfl, rfl, rfl, h3, r3⟩ := trodAll_cons r2
  obtain ⟨rfl, rfl, rfl⟩ := trodAll_nil r3
  obtain rfl : args = #[v0, v1, v2, v3] := by cases args; simp_all
  obtain ⟨rfl, rfl⟩ := trodVars_none hV
  obtain ⟨a0, rfl, rfl, rfl, w0⟩ := open_int Tryd.underlying22 (hval 0 22 v0 rfl rfl) h0
  obtain ⟨a1, rfl, rfl, rfl, w1⟩ := open_int Tryd.underlying34 (hval 1 34 v1 rfl rfl) h1
  obtain ⟨cb2, cn2, yb2, yn2, m2, rfl, rfl, rfl, hyb2, hyn2⟩ := open_agg2 Tryd.underlying36 (by kernel_rfl) (show Tryd.prog.cellsOf 36 = 2 by kernel_rfl) (hval 2 36 v2 rfl rfl) h2
  obtain ⟨b2, eb2, rfl, wb2⟩ := DataW.trod_int Tryd.underlying24 hyb2
  obtain ⟨n2, en2, rfl, wn2⟩ := DataW.trod_int Tryd.underlying3 hyn2
  simp at eb2 en2
  subst eb2 en2
  obtain ⟨a3, rfl, rfl, rfl, w3⟩ := open_string Tryd.underlying9 (hval 3 9 v3 rfl rfl) h3
  clear hA0 hval0
  refine (walk a0 a1 b2 n2 a3 W w0 w1 wb2 wn2 w3 (tab_of_laid hL)).mono fun e W' ⟨he, bel⟩ => ?_
  subst he
  exact ⟨_, rfl, _, _, _, [], [], [], hW', trodAll_mk1 (shut_bool Tryd.underlying4 _), (trodAll_cons_mk (shut_int Tryd.underlying22 w0) (trodAll_cons_mk (shut_int Tryd.underlying34 w1) (trodAll_cons_mk (shut_agg2 (y0 := (.lit (.int .u32 b2), [])) (y1 := (.lit (.int .i64 n2), [])) Tryd.underlying36 (by kernel_rfl) (show Tryd.prog.cellsOf 36 = 2 by kernel_rfl) ⟨1, by simp [DataW.trod, Tryd.underlying24, wb2]⟩ ⟨1, by simp [DataW.trod, Tryd.underlying3, wn2]⟩) (trodAll_cons_mk (shut_string Tryd.underlying9 w3) trodAll_mk0)))), rfl, bel.frame _, fun h => by cases h⟩

theorem over : Rows.AddrBlockSaid :=
  OpenClaim.holds_of_wide 5 Tryd.f5 rfl rfl rfl rfl rfl rfl rfl ⟨rfl, rfl, rfl, rfl, rfl⟩ rfl rfl rfl rfl rfl (by kernel_rfl) Tryd.func5 (by kernel_rfl)
    (of_decide_eq_true (by kernel_rfl)) (by unfold Func.isWrapper; first | (rw [if_pos (by decide +kernel)]; kernel_rfl) | (rw [if_neg (by decide +kernel)]; exact ⟨rfl, rfl⟩))
    (fun os started H enc _ => lifted os started H enc)

theorem holds : Rows.AddrBlockCardSaid :=
  Claim7.holds_tied_plain_at .later [] [.data, .data, .data] true (true, "20be242a6cd02bb50dd9a0b4d9478c802f75634cc6d26fe87662346e55cc61f5") false
    over (fun _ h => by cases h) (by kernel_rfl) (fun _ h => by cases h) addrBlock_row_tie rfl ⟨rfl, rfl⟩ (by kernel_rfl) rfl
    (fun f fn hf hfn => by
      obtain rfl : f = 5 := Option.some.inj ((show Tryd.prog.funcNamed Rows.addrBlockRow.func = some 5 by kernel_rfl).symm.trans hf) |>.symm
      obtain rfl : fn = Tryd.f5 := (Option.some.inj (Tryd.func5.symm.trans hfn)).symm
      exact ⟨by kernel_rfl, fun j t ht => by
        rw [Tryd.params5] at ht
        have hm : t ∈ [22, 34, 36, 9] := by simpa using Array.mem_of_getElem? ht
        have hall : ([22, 34, 36, 9].all fun u => !Tryd.prog.wantsStandIn u) = true := by kernel_rfl
        exact (show Tryd.prog.wantsStandIn t = false by simpa using List.all_eq_true.1 hall t hm)⟩)
    (by kernel_rfl)
end Go.Proofs.YtcbknlbpdlheeaaDoor.addrBlock
