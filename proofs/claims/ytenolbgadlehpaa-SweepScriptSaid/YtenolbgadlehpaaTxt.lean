/-
  What SweepScript's walk carries from deed to deed. Conditions: those that each theorem names.
-/
import Derived.Test.YtenolbgadlehpaaSom
import Derived.Test.YtenolbgadlehpaaHcm
import Derived.Test.YtenolbgadlehpaaLpl
set_option linter.unusedSimpArgs false
set_option linter.unusedVariables false
namespace Go.Proofs.Ytenolbgadlehpaa
open Go.RowKit

theorem bab_ok (x : Ac) (h : x.Ok) : okB (ba x) (bn x) = true := by
  obtain ⟨b0, b1⟩ := bn_in x h
  refine ok_iff.2 ⟨by omega, by omega, ?_⟩
  have pb := p2_pos (bn x)
  unfold ba
  generalize p2 (bn x) = P at *
  generalize 167772160 + x.p * 4 = a
  rw [Int.sub_emod, Int.emod_emod_of_dvd _ (Int.dvd_refl P), Int.sub_self, Int.zero_emod]
/-- Whether one of a row is this prefix. -/
def eqA (xs : List Sw) (a b : Int) : Bool := xs.any fun x => eqb x.a x.b a b
theorem eqA_take {xs : List Sw} {a b : Int} {k : Nat} {x : Sw} (hx : xs[k]? = some x) : eqA (xs.take (k + 1)) a b = (eqA (xs.take k) a b || eqb x.a x.b a b) := by
  unfold eqA
  rw [List.take_add_one, hx]
  simp
theorem eqA_at {xs : List Sw} (h : Vr xs) (a b : Int) : eqA xs a b = isAt xs a b := by
  rw [Bool.eq_iff_iff, isAt_iff h]
  unfold eqA
  rw [List.any_eq_true]
  constructor
  · rintro ⟨x, hx, he⟩
    obtain ⟨k, hk, rfl⟩ := List.mem_iff_getElem.1 hx
    exact ⟨k, _, List.getElem?_eq_getElem hk, he⟩
  · rintro ⟨k, x, hx, he⟩
    exact ⟨x, List.mem_of_getElem? hx, he⟩
theorem ch_e (x : Hc) : 0 ≤ (ch x).e ∧ (ch x).e ≤ 9 := by unfold ch; dsimp only; omega
theorem put_full {xs : List Sw} {a b now : Int} {C : Int} (hC : putC xs a b = C) (h : C ≠ 0) : putR xs a b now = [] := by unfold putR; rw [hC, if_neg h]
/-- A variable with a deed: what the deed does. -/
def Am (W : World) (b : Nat) (o : Int) : Prop := W.cell? ⟨b, 0, none⟩ = some (.int .u8 o)
theorem Am.below {W W' : World} {b : Nat} {o : Int} (h : Am W b o) (hb : Below W.heap.size W W') : Am W' b o := (hb.cell (World.block_lt_of_cell? _ _ h)).trans h
/-- The row, the deeds and the choice, from deed to deed. -/
structure Tx (w : World) (C : Cf) (bc : Nat) (B : Option Addr) (zs : List Ac) (ss : List Sw) (L : Nat) (A : Option Addr) (c : Nat) (wr : World) : Prop where
  v : V ss
  len : ss.length = L
  cap : L ≤ c
  row : Rw eW wr A ss
  acts : Rw eC wr B zs
  cm : Cm wr bc C
  bel : Below w.heap.size w wr
section
variable {w wr w' : World} {C : Cf} {bc : Nat} {B : Option Addr} {zs : List Ac} {ss ss' : List Sw} {L L' : Nat} {A A' : Option Addr} {c c' : Nat}
theorem Tx.below (h : Tx w C bc B zs ss L A c wr) (hb : Below wr.heap.size wr w') : Tx w C bc B zs ss L A c w' :=
  ⟨h.v, h.len, h.cap, h.row.below hb, h.acts.below hb, h.cm.below hb, h.bel.trans (hb.mono h.bel.size)⟩
theorem Tx.turn (h : Tx w C bc B zs ss L A c wr) (hv : V ss') (hl : ss'.length = L') (hc : L' ≤ c') (hr : Rw eW w' A' ss') (hb : Below wr.heap.size wr w') : Tx w C bc B zs ss' L' A' c' w' :=
  ⟨hv, hl, hc, hr, h.acts.below hb, h.cm.below hb, h.bel.trans (hb.mono h.bel.size)⟩
theorem Tx.right (h : Tx w C bc B zs ss L A c wr) (W : World) (hR : Rw eW W A ss) : Calls Try.prog 19 #[.slice A L c] W fun e w' => e = .returned (.bool true) ∧ Below W.heap.size W w' := by
  have := right_row A ss c W hR h.v.u (by rw [h.len]; exact h.cap)
  rwa [(rg_iff ss).2 h.v.r, h.len] at this
theorem Tx.lright (h : Tx w C bc B zs ss L A c wr) (W : World) (hR : Rw eW W A ss) : Calls Try.prog 18 #[.slice A L c] W fun e w' => e = .returned (.bool true) ∧ Below W.heap.size W w' := by
  have := lright_any A ss c W hR h.v.u
  rwa [(lg_iff ss).2 h.v.r, h.len] at this
theorem Tx.few (h : Tx w C bc B zs ss L A c wr) : L ≤ 16 := by have := h.v.r.few; have := h.len; omega
theorem Tx.drew (h : Tx w C bc B zs ss L A c wr) (n : Nat) : Tx w C bc B zs ss L A c (wr.drewN n) := h.below (bdrewN (Below.refl _ _) n)
end
end Go.Proofs.Ytenolbgadlehpaa
