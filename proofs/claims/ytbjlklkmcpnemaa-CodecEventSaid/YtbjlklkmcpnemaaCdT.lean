/-
  The contracts of a reader's take, number and addr. Conditions: the reader and its bytes lie in memory, the bytes below it; at most eight bytes make a number.
-/
import Derived.Test.YtbjlklkmcpnemaaCdR
set_option linter.unusedSimpArgs false
set_option linter.unusedVariables false
namespace Go.Proofs.Ytbjlklkmcpnemaa
open Go.RowKit

/-- A reader as plain data: the bytes that are left, and whether some were missing. -/
structure Rs where
  zs : List UInt8
  sh : Bool
/-- A reader in a variable. -/
def Rd (w : World) (b : Nat) (x : Rs) : Prop := ∃ A c, Cx w b [.slice A x.zs.length c, .bool x.sh] ∧ Rw eB w A x.zs ∧ x.zs.length ≤ c ∧ c ≤ 9223372036854775807 ∧ ∀ p, A = some p → p.block < b
theorem Rd.lt {w : World} {b : Nat} {x : Rs} (h : Rd w b x) : b < w.heap.size := by
  obtain ⟨A, c, h, -⟩ := h
  exact h.lt
theorem rw_ob {w w' : World} {b : Nat} {A : Option Addr} {l : List UInt8} (h : Rw eB w A l) (hA : ∀ p, A = some p → p.block < b) (hb : Ob b w w') : Rw eB w' A l :=
  h.cells_keep fun y a v hy ha hc => by
    rw [← hc]
    unfold World.cell?
    rw [hb.bel.block _ (by rw [ha]; exact hA y hy)]
theorem Rd.below {w w' : World} {b : Nat} {x : Rs} (h : Rd w b x) (hb : Below w.heap.size w w') : Rd w' b x := by
  obtain ⟨A, c, h1, h2, h3, h4, h5⟩ := h
  exact ⟨A, c, Cx.below h1 hb, h2.below hb, h3, h4, h5⟩
theorem run_sizeB (w : World) : (Go.sizeOf 5).run Try.prog w = .ok 1 w := by
  have : (Try.prog.info? 5).map (·.size) = some 1 := by kernel_rfl
  obtain ⟨i, hi, hs⟩ := Option.map_eq_some_iff.1 this
  rw [← hs]
  simp [Go.sizeOf, typeInfo, hi]
theorem sl_h (A : Option Addr) (n c i : Nat) (hi : i ≤ c) (W : World) : (Instr.slice 37 (.slice A n c) none (some (.int .i64 (i : Int))) none).run Try.prog W = .ok (.slice A i c) W := by
  have h1 : (i : Int) ≤ c := by omega
  have h2 : A.map (·.add (0 * 1)) = A := by cases A <;> simp [Addr.add]
  unfold Instr.slice Instr.sliceBounds Instr.sliceBound
  simp only [Sem.run_bind, run_underlying Try.underlying37, Result.andThen_ok, Sem.run_pure, run_sizeB, asIntOf]
  try simp only [Option.isSome_none, Bool.false_eq_true, if_false, Sem.run_bind, Sem.run_pure, Result.andThen_ok]
  rw [if_pos ⟨by omega, h1⟩]
  simp only [Sem.run_bind, Sem.run_pure, Result.andThen_ok, h2, ite_self, Nat.sub_zero, Int.toNat_natCast]
theorem sl_l (A : Option Addr) (n c k : Nat) (hk : k ≤ n) (hc : n ≤ c) (W : World) : (Instr.slice 37 (.slice A n c) (some (.int .i64 (k : Int))) none none).run Try.prog W = .ok (.slice (dA 1 A c k) (n - k) (c - k)) W := by
  have h1 : (k : Int) ≤ n := by omega
  unfold Instr.slice Instr.sliceBounds Instr.sliceBound
  simp only [Sem.run_bind, run_underlying Try.underlying37, Result.andThen_ok, Sem.run_pure, run_sizeB, asIntOf]
  try simp only [Option.isSome_none, Bool.false_eq_true, if_false, Sem.run_bind, Sem.run_pure, Result.andThen_ok]
  rw [if_pos ⟨by omega, h1⟩]
  simp only [Sem.run_bind, Sem.run_pure, Result.andThen_ok, Int.toNat_natCast]
  rfl
theorem add_blk (a : Addr) (n : Nat) : (a.add n).block = a.block := by unfold Addr.add; split <;> rfl
/-- What n bytes are, and what is left. -/
def tkP (n : Nat) (x : Rs) : List UInt8 := if x.zs.length < n then [] else x.zs.take n
def tkS (n : Nat) (x : Rs) : Rs := if x.zs.length < n then ⟨[], true⟩ else ⟨x.zs.drop n, x.sh⟩
theorem sizeB1 : (Try.prog.info? 37).map (·.size) = some 1 := by kernel_rfl
theorem sizeL1 : (Try.prog.info? 4).map (·.size) = some 1 := by kernel_rfl
/-- What a call that takes off a reader gives. -/
def TkPost (w : World) (b : Nat) (n : Nat) (x : Rs) (e : Ending) (w' : World) : Prop :=
  ∃ A c, e = .returned (.slice A (tkP n x).length c) ∧ Rw eB w' A (tkP n x) ∧ (tkP n x).length ≤ c ∧ c ≤ 9223372036854775807 ∧ (∀ p, A = some p → p.block < b) ∧ Rd w' b (tkS n x) ∧ Ob b w w'
set_option maxRecDepth 100000 in
set_option maxHeartbeats 4000000 in
theorem take_any (x : Rs) (n : Nat) (b : Nat) (w : World) (H : Rd w b x) (hn : n ≤ 1000000000) :
    Calls Try.prog 76 #[.pointer (some ⟨b, 0, none⟩), .int .i64 (n : Int)] w (TkPost w b n x) := by
  obtain ⟨A, c, hC, hR, hlc, hc, hA⟩ := H
  obtain ⟨zs, sh⟩ := x
  dsimp only at hC hR hlc
  have C0 := Lib.hid hC
  have R0 := Lib.hid hR
  have HA := Lib.hid hA
  have hln := hR.1
  have k0 := hC.key 0 _ rfl
  obtain ⟨L, hL⟩ : ∃ L, zs.length = L := ⟨_, rfl⟩
  have HL := Lib.hid hL
  rw [hL] at k0 hlc hln
  clear hC hR hA hL
  by_cases hlt : L < n
  · have hd : decide ((n : Int) > (L : Int)) = true := decide_eq_true (by omega)
    have HQ := Lib.hid (show tkP n ⟨zs, sh⟩ = [] ∧ tkS n ⟨zs, sh⟩ = ⟨[], true⟩ from ⟨by unfold tkP; rw [if_pos (by rw [HL.out]; exact hlt)], by unfold tkS; rw [if_pos (by rw [HL.out]; exact hlt)]⟩)
    go_enter Try.func76, Try.ntmps76
    go_wp2_with (first
      | (refine at_put1 37 (.tmp 16) _ b [] (.slice A zs.length c) (.slice none 0 0) [.bool sh] (by simpa using C0.out) sizeB1 rfl rfl rfl rfl rfl rfl ?_; intro w1 C1 hb1 hk1)
      | (refine at_put1 4 (.tmp 18) _ b [.slice none 0 0] (.bool sh) (.bool true) [] (by simpa using C1.out) sizeL1 rfl rfl rfl rfl rfl rfl ?_; intro w2 C2 hb2 hk2))
    go_ret
    unfold TkPost
    rw [HQ.out.1, HQ.out.2]
    refine ⟨none, 0, rfl, Rw.nil _ _, Nat.le_refl _, by omega, fun p h => (by cases h), ⟨none, 0, by simpa using C2.out, Rw.nil _ _, Nat.le_refl _, by omega, fun p h => (by cases h)⟩, (Ob.put hb1.out hk1.out).trans (Ob.put hb2.out hk2.out)⟩
  · have hd : decide ((n : Int) > (L : Int)) = false := decide_eq_false (by omega)
    have HQ := Lib.hid (show tkP n ⟨zs, sh⟩ = zs.take n ∧ tkS n ⟨zs, sh⟩ = ⟨zs.drop n, sh⟩ from ⟨by unfold tkP; rw [if_neg (by rw [HL.out]; exact hlt)], by unfold tkS; rw [if_neg (by rw [HL.out]; exact hlt)]⟩)
    have R1 := Lib.hid (show Rw eB w A (zs.take n) from by
      refine ⟨by have := R0.out.1; rw [List.length_take]; omega, fun q z hq => R0.out.2 q z ?_⟩
      rw [List.getElem?_take] at hq
      split at hq
      · exact hq
      · cases hq)
    have R2 := Lib.hid (show Rw eB w (dA 1 A c n) (zs.drop n) from R0.out.rest (show zs.length ≤ c by rw [HL.out]; exact hlc) n)
    have hA2 := Lib.hid (show ∀ p, dA 1 A c n = some p → p.block < b from fun p hp => by
      unfold dA at hp
      split at hp
      · exact HA.out p hp
      · cases A with
        | none => cases hp
        | some y =>
          have hp' : some (y.add (n * 1)) = some p := hp
          injection hp' with hp'
          subst hp'
          rw [add_blk]
          exact HA.out y rfl)
    have DA := Lib.hid (show dA 1 A c n = if c = n then A else A.map (·.add (n * 1)) from rfl)
    obtain ⟨D, hD⟩ : ∃ D, dA 1 A c n = D := ⟨_, rfl⟩
    have s2 := fun W => sl_l A L c n (by omega) hlc W
    rw [hD] at s2 hA2 R2
    go_enter Try.func76, Try.ntmps76
    go_wp2_with (first
      | (refine at_put1 37 (.tmp 33) _ b [] (.slice A zs.length c) (.slice D (L - n) (c - n)) [.bool sh] (by simpa using C0.out) sizeB1 rfl rfl rfl rfl rfl rfl ?_; intro w1 C1 hb1 hk1))
    go_ret
    have hl1 : (zs.take n).length = n := by rw [List.length_take, HL.out]; omega
    have hl2 : (zs.drop n).length = L - n := by rw [List.length_drop, HL.out]
    have hob := Ob.put hb1.out hk1.out
    unfold TkPost
    rw [HQ.out.1, HQ.out.2]
    refine ⟨A, c, by rw [hl1]; rfl, rw_ob R1.out HA.out hob, by omega, hc, HA.out, ⟨D, c - n, ?_, rw_ob R2.out hA2 hob, ?_, by omega, hA2⟩, hob⟩
    · show Cx w1 b [.slice D (zs.drop n).length (c - n), .bool sh]
      rw [hl2]
      simpa using C1.out
    · show (zs.drop n).length ≤ c - n
      omega
theorem tkP_le (n : Nat) (x : Rs) : (tkP n x).length ≤ n := by
  unfold tkP
  split
  · simp
  · rw [List.length_take]; omega
theorem rw_b0 {w : World} {y : Addr} {l : List UInt8} (h : Rw eB w (some y) l) {k : Nat} {u : UInt8} (hu : l[k]? = some u) : w.cell? (y.add k) = some (.int .u8 (u.toNat : Int)) := by
  have := h.at hu 0 _ rfl
  rwa [show (y.add (k * eB.N)).add 0 = y.add k from by show (y.add (k * 1)).add 0 = _; rw [Nat.mul_one]; rfl] at this
set_option maxRecDepth 100000 in
set_option maxHeartbeats 4000000 in
theorem rnumber_any (x : Rs) (n : Nat) (b : Nat) (w : World) (H : Rd w b x) (hn : n ≤ 8) :
    Calls Try.prog 49 #[.pointer (some ⟨b, 0, none⟩), .int .i64 (n : Int)] w fun e w' => e = .returned (.int .i64 (vl (tkP n x))) ∧ Rd w' b (tkS n x) ∧ Ob b w w' := by
  have HT := Lib.hid (take_any x n b w H (by omega))
  have hle := tkP_le n x
  clear H
  go_enter Try.func49, Try.ntmps49
  go_wp2_with fail
  refine HT.out.mono ?_
  rintro e w1 ⟨A, c, rfl, hR, hlc, hc, hA, hRd, hob⟩
  obtain ⟨P, hP⟩ : ∃ P, tkP n x = P := ⟨_, rfl⟩
  rw [hP] at hR hlc hle ⊢
  have HP := Lib.hid (show tkP n x = P from hP)
  have R1 := Lib.hid hR
  have E1 := Lib.hid (And.intro hRd hob)
  obtain ⟨L, hL⟩ : ∃ L, P.length = L := ⟨_, rfl⟩
  have HL := Lib.hid hL
  rw [hL] at hlc hle ⊢
  clear hP hL hR hRd hob hA HT
  go_wp2_with fail
  go_loopw [5, 12] (fun r i wr => ∃ k : Nat, r = .int .i64 (vl (P.take k)) ∧ i = .int .i64 k ∧ k ≤ L ∧ wr = w1) (fun _ i _ => L - (intOf i).toNat)
  case atStart => exact ⟨0, by rw [List.take_zero, vl_nil], rfl, by omega, rfl⟩
  case round =>
    obtain ⟨k, rfl, rfl, hk, rfl⟩ := hrel
    by_cases hkL : k < L
    · obtain ⟨u, hu⟩ : ∃ u, P[k]? = some u := ⟨_, List.getElem?_eq_getElem (by rw [HL.out]; exact hkL)⟩
      obtain ⟨y, rfl⟩ := rw_some R1.out (by rw [HL.out]; omega)
      have hat := rw_b0 R1.out hu
      have hs := vl_small (l := P.take k) (by rw [List.length_take]; omega)
      have HN := Lib.hid (show vl (P.take (k + 1)) = wrap64 ((un (P.take k) * 256 + u.toNat : Nat) : Int) from by
        unfold vl
        rw [List.take_add_one, hu]
        show wrap64 ((un (P.take k ++ [u]) : Nat) : Int) = _
        rw [un_snoc])
      rw [hs.1]
      obtain ⟨r, hr⟩ : ∃ r, un (P.take k) = r := ⟨_, rfl⟩
      have hu8 := u.toNat_lt
      rw [hr] at hs HN ⊢
      obtain ⟨cu, hcu⟩ : ∃ c, u.toNat = c := ⟨_, rfl⟩
      rw [hcu] at hat HN hu8
      have X := Lib.hid (or_step r cu (by omega) (by omega))
      clear hu hr hcu hs
      go_wp2_with fail
      go_roundw
      case rel => exact ⟨k + 1, by rw [X.out, HN.out], by go_num, by omega, by first | trivial | rfl⟩
      case measure => simp [intOf] <;> omega
    · obtain rfl : k = L := by omega
      rw [List.take_of_length_le (by rw [HL.out]; exact Nat.le_refl _)]
      go_wp2_with fail
      go_ret
      rw [HP.out]
      exact ⟨rfl, E1.out⟩
end Go.Proofs.Ytbjlklkmcpnemaa
