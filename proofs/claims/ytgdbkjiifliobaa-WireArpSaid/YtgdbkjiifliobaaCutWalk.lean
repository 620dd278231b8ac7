/-
  WireCut's walk: for every packet, a number, and a row of bytes, it returns true, and nothing that was in memory is touched. Conditions: the numbers have their bits, the row has at most 2^47 - 4096 bytes, and not more than its room.
-/
import Derived.Test.YtgdbkjiifliobaaReadArp
set_option linter.unusedSimpArgs false
namespace Go.Proofs.Ytgdbkjiifliobaa
open Go.RowKit

/-- A row of bytes of the call's own that may be written. -/
def fow (zs : List Nat) (n : Nat) : Value → World → Prop := fun v w => ∃ g, v = .slice (some ⟨g, 0, none⟩) n n ∧ Ow g g n zs w
theorem stable_fow (zs : List Nat) {n : Nat} (hn : 0 < n) : Stable (fow zs n) := fun _ _ _ ⟨g, h1, h2⟩ hb => ⟨g, h1, h2.below hn hb⟩
theorem calls_fow {f : FuncId} {args : Array Value} {W : World} {zs : List Nat} {n g : Nat} {Φ : List (Value → World → Prop)} {i : Nat} (h : Calls Try.prog f args W fun e w' => e = .returned (.slice (some ⟨g, 0, none⟩) n n) ∧ Ow g g n zs w' ∧ Below W.heap.size W w') (hi : fAt Φ i = fow zs n) :
    Calls Try.prog f args W fun e w' => ∃ v, e = .returned v ∧ Below W.heap.size W w' ∧ fAt Φ i v w' := h.mono fun _ _ ⟨he, ho, hb⟩ => ⟨_, he, hb, by rw [hi]; exact ⟨g, rfl, ho⟩⟩
theorem run_load27 {ev : Operand → Value} {o : Oper} {x : Operand} {W : World} {b : Nat} {p : Pk} (ho : o.op = .load 27 x) (hx : ev x = .pointer (some ⟨b, 0, none⟩)) (H : Pm W b p) : (execOp ev o).run Try.prog W = .ok (.value (pv p)) W := by
  unfold execOp
  simp only [ho, hx, Sem.run_bind, Sem.run_pure, Result.andThen_ok, loadAt27 H]
theorem red_more (p : Pk) (ms : List Nat) : (red (ecb p ++ ms) = 0) ↔ ms.length = 0 := by
  constructor
  · intro h
    unfold red at h
    split at h
    · rename_i hf
      unfold fe at hf
      simp [ecb_length] at hf
      have := hf.1
      simp [this]
    · omega
  · intro h
    obtain rfl := List.eq_nil_of_length_eq_zero h
    rw [List.append_nil]
    exact ecb_red p
theorem fe_short {zs : List Nat} (h : zs.length < 32) : fe zs = false := by unfold fe; simp; omega
theorem fa_short {zs : List Nat} (h : zs.length < 28) : fa zs = false := by unfold fa; simp; omega

set_option maxRecDepth 100000 in
set_option maxHeartbeats 2000000 in
theorem wireCut_walk (p : Pk) (x : Int) (A : Option Addr) (ms : List Nat) (c : Nat) (w : World) (hp : p.Ok) (hx : 0 ≤ x ∧ x < 256) (h : Rd w A ms) (hm : ms.length ≤ 140737488351232) (_hc : ms.length ≤ c) :
    Calls Try.prog 7 #[pv p, .int .u8 x, .slice A ms.length c] w fun e w' => e = .returned (.bool true) ∧ Below w.heap.size w w' := by
  obtain ⟨x, rfl⟩ := Int.eq_ofNat_of_zero_le hx.1
  have hx := hx.2
  have CW := Lib.hid fun W => awake_any W
  have CE := Lib.hid fun W => show Calls Try.prog 15 #[pv p] W _ from echo_any p W hp
  have CA := Lib.hid fun W => show Calls Try.prog 10 #[pv p] W _ from arp_any p W hp
  have P0 := Lib.hid (pb_box w p)
  have D0 := Lib.hid ((Below.refl w.heap.size w).alloc (Nat.le_refl _) (Px p))
  have RM := Lib.hid fun W (hW : Below w.heap.size w W) => h.below hW
  have RC := Lib.hid fun A (zs : List Nat) c W (h : Rd W A zs) hc => readEcho_any A zs c W h hc
  have FF := Lib.hid (red_more p ms)
  clear hp h
  unfold pv
  go_enter Try.func7, Try.ntmps7
  go_wp2_with fail
  refine (CW.out _).mono ?_
  rintro e w1 ⟨rfl, b1⟩
  have P1 := Lib.hid (P0.out.keep b1 P0.out.lt)
  have D1 := Lib.hid (D0.out.trans (b1.mono D0.out.size))
  clear b1 P0 D0
  go_upto_region 3 with fail
  refine wp_region_below [fx (pv p), fow (arb p) 28, fx (pv p), fow (ecb p) 32, fow (arb p) 28, fow (ecb p) 32]
    (by kernel_rfl) (by kernel_rfl) (by kernel_rfl) ?_ ?_ ?_
  · simp only [List.mem_cons, List.not_mem_nil, or_false]
    rintro φ (rfl | rfl | rfl | rfl | rfl | rfl)
    all_goals first | exact stable_fx _ | exact stable_fow _ (by omega)
  · refine OgSteps.cons ?_ (OgSteps.cons ?_ (OgSteps.cons ?_ (OgSteps.cons ?_ (OgSteps.cons ?_ (OgSteps.cons ?_ (OgSteps.nil))))))
    · refine OgStep.pure ?_ ?_
      · rfl
      intro u W hS hp
      refine ⟨pv p, ?_, rfl⟩
      simp only [ogMk, Act.put, List.setIfInBounds_toArray, List.set_cons_zero, List.set_cons_succ, Nat.zero_add, Nat.reduceAdd]
      exact run_load27 rfl rfl (P1.out.keep hS P1.out.lt).1
    · refine OgStep.calls ?_ ?_
      · rfl
      intro u W hS hp
      have h0 : u 0 = pv p := hp ⟨0, .data⟩ (by simp) rfl
      refine ⟨10, #[pv p], ?_, calls_fow (CA.out W) rfl⟩
      simp only [ogMk, Act.put, List.setIfInBounds_toArray, List.set_cons_zero, List.set_cons_succ, Nat.zero_add, Nat.reduceAdd]
      simp [execOp, Act.eval, go_sem, h0]
    · refine OgStep.pure ?_ ?_
      · rfl
      intro u W hS hp
      refine ⟨pv p, ?_, rfl⟩
      simp only [ogMk, Act.put, List.setIfInBounds_toArray, List.set_cons_zero, List.set_cons_succ, Nat.zero_add, Nat.reduceAdd]
      exact run_load27 rfl rfl (P1.out.keep hS P1.out.lt).1
    · refine OgStep.calls ?_ ?_
      · rfl
      intro u W hS hp
      have h2 : u 2 = pv p := hp ⟨2, .data⟩ (by simp) rfl
      refine ⟨15, #[pv p], ?_, calls_fow (CE.out W) rfl⟩
      simp only [ogMk, Act.put, List.setIfInBounds_toArray, List.set_cons_zero, List.set_cons_succ, Nat.zero_add, Nat.reduceAdd]
      simp [execOp, Act.eval, go_sem, h2]
    · refine OgStep.made ?_ ?_
      · rfl
      intro u W hS hp
      obtain ⟨g, h1, h2⟩ : fow (arb p) 28 (u 1) W := hp ⟨1, .data⟩ (by simp) rfl
      refine ⟨.slice (some ⟨g, 0, none⟩) 28 28, _, ?_, Below.refl _ W, show fow (arb p) 28 _ _ from ⟨g, rfl, h2⟩⟩
      simp only [ogMk, Act.put, List.setIfInBounds_toArray, List.set_cons_zero, List.set_cons_succ, Nat.zero_add, Nat.reduceAdd]
      simp [execOp, Act.eval, go_sem, h1]
    · refine OgStep.made ?_ ?_
      · rfl
      intro u W hS hp
      obtain ⟨g, h1, h2⟩ : fow (ecb p) 32 (u 3) W := hp ⟨3, .data⟩ (by simp) rfl
      refine ⟨.slice (some ⟨g, 0, none⟩) 32 32, _, ?_, Below.refl _ W, show fow (ecb p) 32 _ _ from ⟨g, rfl, h2⟩⟩
      simp only [ogMk, Act.put, List.setIfInBounds_toArray, List.set_cons_zero, List.set_cons_succ, Nat.zero_add, Nat.reduceAdd]
      simp [execOp, Act.eval, go_sem, h1]
  · intro u W hS hF
    obtain ⟨ga, v4, o4⟩ : fow (arb p) 28 (u 4) W := hF 4 (by decide)
    obtain ⟨ge, v5, o5⟩ : fow (ecb p) 32 (u 5) W := hF 5 (by decide)
    have e0 : u 0 = pv p := hF 0 (by decide)
    have e2 : u 2 = pv p := hF 2 (by decide)
    simp only [ogMk, Act.put, List.setIfInBounds_toArray, List.set_cons_zero, List.set_cons_succ, Nat.zero_add, Nat.reduceAdd]
    rw [e0, e2]
    clear e0 e2 hF
    rw [v4, v5]
    clear v4 v5
    generalize u 1 = x1
    generalize u 3 = x3
    clear u
    have D2 := Lib.hid (D1.out.trans (hS.mono D1.out.size))
    have OA := Lib.hid o4
    have OE := Lib.hid o5
    clear hS o4 o5 P1 D1
    obtain ⟨k, hk⟩ : ∃ k, k = x % 28 := ⟨_, rfl⟩
    obtain ⟨l, hl⟩ : ∃ l, l = x % 32 := ⟨_, rfl⟩
    have hk1 : k < 28 := by omega
    have hl1 : l < 32 := by omega
    have EK : (x : Int) % 28 = (k : Int) := by omega
    have EL : (x : Int) % 32 = (l : Int) := by omega
    clear hk hl
    have hka : ((arb p).take k).length = k := by rw [List.length_take]; show min k 28 = k; omega
    have hla : ((ecb p).take l).length = l := by rw [List.length_take]; show min l 32 = l; omega
    have C1 := Lib.hid (readArp_form _ ((arb p).take k) 28 W (OA.out.rd.take k) (by rw [hka]; omega) (fa_short (by rw [hka]; exact hk1)))
    rw [hka] at C1
    have C2 := Lib.hid fun W2 (h : Rd W2 (some ⟨ge, 0, none⟩) ((ecb p).take l)) => readEcho_form _ ((ecb p).take l) 32 W2 h (by rw [hla]; omega) (fe_short (by rw [hla]; exact hl1))
    rw [hla] at C2
    clear hka hla
    go_wp2_with fail
    refine C1.out.mono ?_
    rintro e w3 ⟨rfl, b3⟩
    have D3 := Lib.hid (D2.out.trans (b3.mono D2.out.size))
    have O3 := Lib.hid (OE.out.below (by omega) b3)
    clear b3 D2 OA OE C1
    have PB := Lib.hid (pb_box w3 zp)
    have bb := (Below.refl _ w3).alloc (Nat.le_refl _) (Px zp)
    have D4 := Lib.hid (D3.out.trans (bb.mono D3.out.size))
    have O4 := Lib.hid (O3.out.below (by omega) bb)
    have hz4 := (O3.out.block (by omega)).2
    have hz3 := D3.out.size
    clear bb D3 O3
    go_upto_region 5 with (refine at_store27 _ _ _ zp zp PB.out rfl rfl rfl rfl ?_; intro w4 P4 B4)
    have bb := B4.out w3.heap.size (Nat.le_refl _)
    have O5 := Lib.hid (show Ow ge ge 32 (ecb p) w4 from ow_of_heap (by rw [bb.block _ hz4]; exact O4.out.heap) O4.out.len O4.out.2.1 O4.out.2.2 (Nat.le_refl _))
    have D5 := Lib.hid (D4.out.trans (B4.out _ hz3))
    clear bb B4 P4 PB D4 O4 hz4 hz3
    go_wp2_with fail
    refine (C2.out _ (O5.out.rd.take l)).mono ?_
    rintro e w5 ⟨rfl, b5⟩
    have D6 := Lib.hid (D5.out.trans (b5.mono D5.out.size))
    have O6 := Lib.hid (O5.out.below (by omega) b5)
    clear b5 D5 O5 C2 EK EL
    have PB := Lib.hid (pb_box w5 zp)
    have bb := (Below.refl _ w5).alloc (Nat.le_refl _) (Px zp)
    have D7 := Lib.hid (D6.out.trans (bb.mono D6.out.size))
    have O7 := Lib.hid (O6.out.below (by omega) bb)
    have hz4 := (O6.out.block (by omega)).2
    have hz3 := D6.out.size
    clear bb D6 O6
    go_upto_region 6 with (refine at_store27 _ _ _ zp zp PB.out rfl rfl rfl rfl ?_; intro w6 P6 B6)
    have bb := B6.out w5.heap.size (Nat.le_refl _)
    have O8 := Lib.hid (show Ow ge ge 32 (ecb p) w6 from ow_of_heap (by rw [bb.block _ hz4]; exact O7.out.heap) O7.out.len O7.out.2.1 O7.out.2.2 (Nat.le_refl _))
    have D8 := Lib.hid (D7.out.trans (B6.out _ hz3))
    clear bb B6 P6 PB D7 O7 hz4 hz3
    have RM8 := Lib.hid (RM.out _ D8.out)
    have hge := (O8.out.block (by omega)).2
    have BE : Hid (Bs (ecb p)) := O8.out.2.1
    have hz6 := D8.out.size
    have HBM : Hid (Bs ms) := RM8.out.2.1
    have HLN : Hid ((ecb p ++ ms).length = 32 + ms.length) := by show _ = _; rw [List.length_append, ecb_length]
    go_wp2_with (first
      | (at_builtin; refine wpList_append_rd _ rfl (.const (.slice none 0 0)) (.tmp 44) rfl w6.heap.size (.slice none 0 0) 0 [] rfl (World.ownsRow_nil _ _ _ _) (some ⟨ge, 0, none⟩) 32 32 (ecb p) rfl rfl O8.out.rd (by omega) (by omega) (Nat.le_refl _) ?_; intro g1 cap1 w7 hown1 hgrow1 hat1 hlt1; simp only [Nat.zero_add, List.nil_append] at hown1 ⊢; have D9 := Lib.hid (D8.out.grown hgrow1 hz6 (fun k hk => by simp [Value.ownBlock] at hk)); have RM9 := Lib.hid (RM.out _ D9.out); have W1 := Lib.hid hown1; have hs7 := hgrow1.size; clear hown1 hgrow1 hat1)
      | (at_builtin; refine wpList_append_rd _ rfl (.tmp 45) (.tmp 46) rfl w6.heap.size (.slice (some ⟨g1, 0, none⟩) 32 cap1) 32 (ecb p) rfl W1.out A ms.length c ms rfl rfl RM9.out (by omega) (by omega) hs7 ?_; intro g2 cap2 w8 hown2 hgrow2 hat2 hlt2; have D10 := Lib.hid (D9.out.grown hgrow2 (by omega) (fun k hk => by have := (W1.out.lt g1 rfl).1; simp [Value.ownBlock] at hk; omega)); have W2 := Lib.hid hown2; clear hown2 hgrow2 hat2)
      | fail)
    have C3 := Lib.hid (RC.out _ (ecb p ++ ms) cap2 _ (Rd.own W2.out (BE.out.append HBM.out) (by rw [HLN.out]; omega)).2 (by rw [HLN.out]; exact (own_cap W2.out).1))
    rw [HLN.out] at C3
    generalize rpk (ecb p ++ ms) = q at *
    generalize red (ecb p ++ ms) = r at *
    refine C3.out.mono ?_
    rintro e w9 ⟨rfl, b9⟩
    have D11 := Lib.hid (D10.out.trans (b9.mono D10.out.size))
    clear b9 D10 D9 W1 W2 C3 RM9
    have PB := Lib.hid (pb_box w9 zp)
    have D12 := Lib.hid (D11.out.alloc D11.out.size (Px zp))
    have hn : (0 : Int) ≤ (ms.length : Int) := by omega
    go_wp2_with (refine at_store27 _ _ _ zp q PB.out rfl rfl rfl rfl ?_; intro w10 P10 B10)
    go_ret
    exact ⟨ret_bool (by rw [beq_iff_eq, Bool.eq_iff_iff, beq_iff_eq, beq_iff_eq]; have := FF.out; omega), D12.out.trans (B10.out _ D11.out.size)⟩
end Go.Proofs.Ytgdbkjiifliobaa
