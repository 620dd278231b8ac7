/-
  AddrRaw returns true for every two prefixes, address and number, and leaves its arguments as they were: the tied card of the row. Conditions: those of the given card, no others.
-/
import Derived.Test.YtcbknlbpdlheeaaDoorRaw
import Derived.Test.YtcbknlbpdlheeaaDoorFrame
import Derived.Test.YtcbknlbpdlheeaaDoorCards
import Derived.Lib.SmallJoins
namespace Go.Proofs.YtcbknlbpdlheeaaDoor.addrRaw
open Go.ChangeShapes Go.WideShapes Go.ChangeAt Go.RowKit Go.Joins
open Go.ChangeMaps (open_string shut_string)

theorem walk (b0 n0 b1 n1 a2 a3 : Int) (w : World) (wb0 : (Lit.int .u32 b0).wf = true) (wn0 : (Lit.int .i64 n0).wf = true) (wb1 : (Lit.int .u32 b1).wf = true) (_wn1 : (Lit.int .i64 n1).wf = true) (w2 : (Lit.int .u32 a2).wf = true) (_w3 : (Lit.int .i64 a3).wf = true) (ht : Tab w) :
    Calls Tryd.prog 9 #[.agg #[.int .u32 b0, .int .i64 n0], .agg #[.int .u32 b1, .int .i64 n1], .int .u32 a2, .int .i64 a3] w fun e w' => e = .returned (.bool true) ∧ Below w.heap.size w w' := by
  obtain ⟨c0, c0'⟩ := bounds_u32 wb0
  obtain ⟨c1, c1'⟩ := bounds_u32 wb1
  obtain ⟨c2, c2'⟩ := bounds_u32 w2
  obtain ⟨e0, e0'⟩ := bounds_i64 wn0
  cases h1 : okB b0 n0
  · exact raw_none b0 n0 b1 n1 a2 a3 w c0 (by omega) c1 (by omega) (by omega) (by omega) c2 (by omega) h1 ht
  · cases h2 : okB b1 n1
    · exact raw_other b0 n0 b1 n1 a2 a3 w c0 (by omega) c1 (by omega) (by omega) (by omega) h1 h2 ht
    · exact raw_both b0 n0 b1 n1 a2 a3 w c0 (by omega) c1 (by omega) h1 h2 ht

set_option maxRecDepth 100000 in
theorem lifted (os : Os) (started : os.Started) (H : Type) (enc : TypeId × Value → H) :
    ReturnsInHanded {} Tryd.checked os 9 .any (fun w args => (Rows.addrRawSpec.pre enc Tryd.prog Tryd.f9 [] false w args ∧ laidMetH Tryd.prog laid3 w) ∧ sizedMet enc Tryd.prog Tryd.f9 (OpenSpec.ofChange Rows.addrRawSpec) false w args)
      (Rows.addrRawSpec.post enc Tryd.prog Tryd.f9 false true false false) := by
  refine returnsInHanded_of_change_and (C := Tryd.checked) (X := fun w _ => laidMetH Tryd.prog laid3 w) (fun _ _ _ hh h => h.of_heap hh) own started (by kernel_rfl) Tryd.func9
    (ChangeSpec.witness_shaped (enc := enc) (C := Tryd.checked) (os := os) (X := fun w _ => laidMetH Tryd.prog laid3 w) false (World.doorLaid Tryd.prog 24 os) #[.agg #[.int .u32 0, .int .i64 0], .agg #[.int .u32 0, .int .i64 0], .int .u32 0, .int .i64 0] 8 rfl (World.shaped_of_RefB (by kernel_rfl) (by kernel_rfl)) (by kernel_rfl) (by kernel_rfl) (by kernel_rfl) (door_met os _)) ?_
  intro W base args ds gs before hval0 hW _ _ hL _
  have hval : ∀ (j : Nat) t v, Tryd.f9.params[j]? = some t → args[j]? = some v → Value.okWide Tryd.prog W .any base t v := hval0
  have hW' := hW
  obtain ⟨p, q, hA0, hV, rfl, hfz, hnd⟩ := hW
  have hA : DataW.TrodAll enc Tryd.prog W 0 (fun _ => true) true Tryd.f9.params.toList args.toList ds p := hA0
  rw [Tryd.params9] at hA hval
  obtain ⟨v0, vs0, d0, ds0, p0, q0, hargs, rfl, rfl, h0, r0⟩ := trodAll_cons hA
  obtain ⟨v1, vs1, d1, ds1, p1, q1, rfl, rfl, rfl, h1, r1⟩ := trodAll_cons r0
  obtain ⟨v2, vs2, d2, ds2, p2, q2, rfl, rfl, rfl, h2, r2⟩ := trodAll_cons r1
  obtain ⟨v3, vs3, d3, ds3, p3, q3, rfl, rfl, rfl, h3, r3⟩ := trodAll_cons r2
  obtain ⟨rfl, rfl, rfl⟩ := trodAll_nil r3
  obtain rfl : args = #[v0, v1, v2, v3] := by cases args; simp_all
  obtain ⟨rfl, rfl⟩ := trodVars_none hV
  obtain ⟨cb0, cn0, yb0, yn0, m0, rfl, rfl, rfl, hyb0, hyn0⟩ := open_agg2 Tryd.underlying36 (by kernel_rfl) (show Tryd.prog.cellsOf 36 = 2 by kernel_rfl) (hval 0 36 v0 rfl rfl) h0
  obtain ⟨b0, eb0, rfl, wb0⟩ := DataW.trod_int Tryd.underlying24 hyb0
  obtain ⟨n0, en0, rfl, wn0⟩ := DataW.trod_int Tryd.underlying3 hyn0
  simp at eb0 en0
  subst eb0 en0
  obtain ⟨cb1, cn1, yb1, yn1, m1, rfl, rfl, rfl, hyb1, hyn1⟩ := open_agg2 Tryd.underlying36 (by kernel_rfl) (show Tryd.prog.cellsOf 36 = 2 by kernel_rfl) (hval 1 36 v1 rfl rfl) h1
  obtain ⟨b1, eb1, rfl, wb1⟩ := DataW.trod_int Tryd.underlying24 hyb1
  obtain ⟨n1, en1, rfl, wn1⟩ := DataW.trod_int Tryd.underlying3 hyn1
  simp at eb1 en1
  subst eb1 en1
  obtain ⟨a2, rfl, rfl, rfl, w2⟩ := open_int Tryd.underlying22 (hval 2 22 v2 rfl rfl) h2
  obtain ⟨a3, rfl, rfl, rfl, w3⟩ := open_int Tryd.underlying3 (hval 3 3 v3 rfl rfl) h3
  clear hA0 hval0
  refine (walk b0 n0 b1 n1 a2 a3 W wb0 wn0 wb1 wn1 w2 w3 (tab_of_laid hL)).mono fun e W' ⟨he, bel⟩ => ?_
  subst he
  exact ⟨_, rfl, _, _, _, [], [], [], hW', trodAll_mk1 (shut_bool Tryd.underlying4 _), (trodAll_cons_mk (shut_agg2 (y0 := (.lit (.int .u32 b0), [])) (y1 := (.lit (.int .i64 n0), [])) Tryd.underlying36 (by kernel_rfl) (show Tryd.prog.cellsOf 36 = 2 by kernel_rfl) ⟨1, by simp [DataW.trod, Tryd.underlying24, wb0]⟩ ⟨1, by simp [DataW.trod, Tryd.underlying3, wn0]⟩) (trodAll_cons_mk (shut_agg2 (y0 := (.lit (.int .u32 b1), [])) (y1 := (.lit (.int .i64 n1), [])) Tryd.underlying36 (by kernel_rfl) (show Tryd.prog.cellsOf 36 = 2 by kernel_rfl) ⟨1, by simp [DataW.trod, Tryd.underlying24, wb1]⟩ ⟨1, by simp [DataW.trod, Tryd.underlying3, wn1]⟩) (trodAll_cons_mk (shut_int Tryd.underlying22 w2) (trodAll_cons_mk (shut_int Tryd.underlying3 w3) trodAll_mk0)))), rfl, bel.frame _, fun h => by cases h⟩

theorem over : Rows.AddrRawSaid :=
  OpenClaim.holds_of_wide 9 Tryd.f9 rfl rfl rfl rfl rfl rfl rfl ⟨rfl, rfl, rfl, rfl, rfl⟩ rfl rfl rfl rfl rfl (by kernel_rfl) Tryd.func9 (by kernel_rfl)
    (of_decide_eq_true (by kernel_rfl)) (by unfold Func.isWrapper; first | (rw [if_pos (by decide +kernel)]; kernel_rfl) | (rw [if_neg (by decide +kernel)]; exact ⟨rfl, rfl⟩))
    (fun os started H enc _ => lifted os started H enc)

theorem holds : Rows.AddrRawCardSaid :=
  Claim7.holds_tied_plain_at .later [] [.data, .data, .data] true (true, "20be242a6cd02bb50dd9a0b4d9478c802f75634cc6d26fe87662346e55cc61f5") false
    over (fun _ h => by cases h) (by kernel_rfl) (fun _ h => by cases h) addrRaw_row_tie rfl ⟨rfl, rfl⟩ (by kernel_rfl) rfl
    (fun f fn hf hfn => by
      obtain rfl : f = 9 := Option.some.inj ((show Tryd.prog.funcNamed Rows.addrRawRow.func = some 9 by kernel_rfl).symm.trans hf) |>.symm
      obtain rfl : fn = Tryd.f9 := (Option.some.inj (Tryd.func9.symm.trans hfn)).symm
      exact ⟨by kernel_rfl, fun j t ht => by
        rw [Tryd.params9] at ht
        have hm : t ∈ [36, 36, 22, 3] := by simpa using Array.mem_of_getElem? ht
        have hall : ([36, 36, 22, 3].all fun u => !Tryd.prog.wantsStandIn u) = true := by kernel_rfl
        exact (show Tryd.prog.wantsStandIn t = false by simpa using List.all_eq_true.1 hall t hm)⟩)
    (by kernel_rfl)
end Go.Proofs.YtcbknlbpdlheeaaDoor.addrRaw
