/-
  The contract of status.isRogue: without a holder, and with one that lies in memory. Conditions: the row of stations lies in memory.
-/
import Derived.Test.YtpiieagdgickgaaFr
set_option linter.unusedSimpArgs false
set_option linter.unusedVariables false
namespace Go.Proofs.Ytpiieagdgickgaa
open Go.RowKit

/-- A variable with a holder of this station. -/
structure Hm (W : World) (b : Nat) (m : Mc) : Prop where
  lt : b < W.heap.size
  c2 : W.cell? ⟨b, 2, none⟩ = some (.int .u8 m.b0)
  c3 : W.cell? ⟨b, 3, none⟩ = some (.int .u8 m.b1)
  c4 : W.cell? ⟨b, 4, none⟩ = some (.int .u8 m.b2)
  c5 : W.cell? ⟨b, 5, none⟩ = some (.int .u8 m.b3)
  c6 : W.cell? ⟨b, 6, none⟩ = some (.int .u8 m.b4)
  c7 : W.cell? ⟨b, 7, none⟩ = some (.int .u8 m.b5)
theorem Hm.keep {W W' : World} {b B : Nat} {s : Mc} (h : Hm W b s) (hb : Below B W W') (hB : b < B) (hs : W.heap.size ≤ W'.heap.size) : Hm W' b s :=
  ⟨Nat.lt_of_lt_of_le h.lt hs, by rw [hb.cell (p := ⟨b, 2, none⟩) hB]; exact h.c2, by rw [hb.cell (p := ⟨b, 3, none⟩) hB]; exact h.c3,
    by rw [hb.cell (p := ⟨b, 4, none⟩) hB]; exact h.c4, by rw [hb.cell (p := ⟨b, 5, none⟩) hB]; exact h.c5, by rw [hb.cell (p := ⟨b, 6, none⟩) hB]; exact h.c6, by rw [hb.cell (p := ⟨b, 7, none⟩) hB]; exact h.c7⟩
theorem Hm.below {W W' : World} {b : Nat} {s : Mc} (h : Hm W b s) (hb : Below W.heap.size W W') : Hm W' b s := h.keep hb h.lt hb.size
def Hx (a : Int) (o : Value) (m : Mc) : Obj := .cells #[.int .u32 a, o, .int .u8 m.b0, .int .u8 m.b1, .int .u8 m.b2, .int .u8 m.b3, .int .u8 m.b4, .int .u8 m.b5] 38
theorem hm_box (w : World) (a : Int) (o : Value) (m : Mc) : Hm (w.alloc (Hx a o m)) w.heap.size m := ⟨by simp, by simp [Hx], by simp [Hx], by simp [Hx], by simp [Hx], by simp [Hx], by simp [Hx]⟩

set_option maxRecDepth 100000 in
set_option maxHeartbeats 2000000 in
theorem rogue_nil (A B : Option Addr) (n c k d : Nat) (w : World) : Calls Try.prog 20 #[.pointer none, .slice A n c, .slice B k d] w fun e w' => e = .returned (.bool (decide (0 < n))) ∧ w' = w := by
  by_cases h : 0 < n
  · have h' : (0 : Int) < n := by omega
    go_enter Try.func20, Try.ntmps20
    go_wp2_with fail
    go_ret
    exact ⟨ret_bool (by simp [h]), rfl⟩
  · have h' : ¬ (0 : Int) < n := by omega
    go_enter Try.func20, Try.ntmps20
    go_wp2_with fail
    go_ret
    exact ⟨ret_bool (by simp [h]), rfl⟩
set_option maxRecDepth 100000 in
set_option maxHeartbeats 2000000 in
theorem rogue_some (b : Nat) (m : Mc) (A B : Option Addr) (n c d : Nat) (ys : List Mc) (w : World) (hm : Hm w b m) (h : Rw eM w B ys) (hd : ys.length ≤ d) :
    Calls Try.prog 20 #[.pointer (some ⟨b, 0, none⟩), .slice A n c, .slice B ys.length d] w fun e w' => e = .returned (.bool (!noB m && anyO ys m)) ∧ Below w.heap.size w w' := by
  have HN := Lib.hid fun W => none_any m W
  have HO := Lib.hid fun W (hW : Rw eM W B ys) => anyOther_any m B ys d W hW hd
  have HM := Lib.hid hm
  have R := Lib.hid h
  have d1 := hm.c2
  have d2 := hm.c3
  have d3 := hm.c4
  have d4 := hm.c5
  have d5 := hm.c6
  have d6 := hm.c7
  obtain ⟨e, he⟩ : ∃ e, noB m = e := ⟨_, rfl⟩
  rw [he] at HN ⊢
  obtain ⟨q, hq⟩ : ∃ q, anyO ys m = q := ⟨_, rfl⟩
  rw [hq] at HO ⊢
  obtain ⟨a0, a1, a2, a3, a4, a5⟩ := m
  dsimp only at d1 d2 d3 d4 d5 d6
  simp only [mv] at HN HO
  clear hm h he hq
  cases e
  · go_enter Try.func20, Try.ntmps20
    go_wp2_with fail
    refine (HN.out _).mono ?_
    rintro e w2 ⟨rfl, hb⟩
    have HB := Lib.hid hb
    have M2 := HM.out.below hb
    have d1 := M2.c2
    have d2 := M2.c3
    have d3 := M2.c4
    have d4 := M2.c5
    have d5 := M2.c6
    have d6 := M2.c7
    dsimp only at d1 d2 d3 d4 d5 d6
    have R2 := Lib.hid (R.out.below hb)
    clear hb M2
    go_wp2_with fail
    refine (HO.out _ R2.out).mono ?_
    rintro e w3 ⟨rfl, hb⟩
    have HB3 := Lib.hid (bthen HB.out hb HB.out.size)
    clear hb
    go_wp2_with fail
    go_ret
    exact ⟨ret_bool (by simp), HB3.out⟩
  · go_enter Try.func20, Try.ntmps20
    go_wp2_with fail
    refine (HN.out _).mono ?_
    rintro e w2 ⟨rfl, hb⟩
    have HB := Lib.hid hb
    clear hb
    go_wp2_with fail
    go_ret
    exact ⟨ret_bool (by simp), HB.out⟩
end Go.Proofs.Ytpiieagdgickgaa
