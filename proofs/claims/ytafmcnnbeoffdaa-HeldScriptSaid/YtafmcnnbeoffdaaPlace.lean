/-
  The contracts of held.place and held.Get: where an address stands in a row, and who has it. Conditions: the row lies in memory.
-/
import Derived.Test.YtafmcnnbeoffdaaMay
set_option linter.unusedSimpArgs false
set_option linter.unusedVariables false
namespace Go.Proofs.Ytafmcnnbeoffdaa
open Go.RowKit

/-- How many holders of a row stand ahead of an address. -/
def lo : List Hr → Int → Nat
  | [], _ => 0
  | x :: r, a => if x.a < a then lo r a + 1 else 0
theorem lo_le (a : Int) : ∀ xs, lo xs a ≤ xs.length
  | [] => Nat.le_refl _
  | x :: r => by
    unfold lo
    have := lo_le a r
    split <;> simp
    omega
theorem lo_lt (a : Int) : ∀ (xs : List Hr) (k : Nat) (x : Hr), k < lo xs a → xs[k]? = some x → x.a < a
  | [], k, x, h, _ => by simp [lo] at h
  | y :: r, k, x, h, hx => by
    unfold lo at h
    split at h
    · rename_i hy
      cases k with
      | zero => simp at hx; subst hx; exact hy
      | succ k => exact lo_lt a r k x (by omega) (by simpa using hx)
    · omega
theorem lo_ge (a : Int) : ∀ (xs : List Hr) (x : Hr), xs[lo xs a]? = some x → ¬ x.a < a
  | [], x, hx => by simp at hx
  | y :: r, x, hx => by
    unfold lo at hx
    split at hx
    · exact lo_ge a r x (by simpa using hx)
    · rename_i hy
      simp at hx
      subst hx
      exact hy
/-- Whether the address has a holder there. -/
def isAt (xs : List Hr) (a : Int) : Bool := match xs[lo xs a]? with
  | some x => decide (x.a = a)
  | none => false
/-- Who has it. -/
def gt (xs : List Hr) (a : Int) : Hr := if isAt xs a = true then xs[lo xs a]?.getD zh else zh
theorem isAt_some {xs : List Hr} {a : Int} (h : isAt xs a = true) : ∃ x, xs[lo xs a]? = some x ∧ x.a = a ∧ lo xs a < xs.length := by
  unfold isAt at h
  split at h
  · rename_i x hx
    exact ⟨x, hx, by simpa using h, (List.getElem?_eq_some_iff.1 hx).1⟩
  · cases h

set_option maxRecDepth 100000 in
set_option maxHeartbeats 2000000 in
theorem place_any (a : Int) (A : Option Addr) (xs : List Hr) (cap : Nat) (w : World) (h : Hs w A xs) (ha0 : 0 ≤ a) (ha1 : a < 4294967296) :
    Calls Try.prog 25 #[.slice A xs.length cap, .int .u32 a] w fun e w' => e = .returned (.tuple #[.int .i64 (lo xs a), .bool (isAt xs a)]) ∧ ∃ n, w' = w.drewN n := by
  have hle := lo_le a xs
  have hln := h.1
  have R := Lib.hid h
  clear h
  have HI := Lib.hid (show isAt xs a = _ by unfold isAt; rfl)
  obtain ⟨L, hL⟩ : ∃ L, xs.length = L := ⟨_, rfl⟩
  have HL := Lib.hid hL
  rw [hL] at hle hln ⊢
  clear hL
  obtain ⟨P, hP⟩ : ∃ P, lo xs a = P := ⟨_, rfl⟩
  have HP := Lib.hid hP
  rw [hP] at hle ⊢
  clear hP
  go_enter Try.func25, Try.ntmps25
  go_wp2_with fail
  go_loop [6] (fun i => ∃ k : Nat, i = .int .i64 k ∧ k ≤ P) (fun i => P - (intOf i).toNat)
  case atStart => exact ⟨0, rfl, by omega⟩
  case round =>
    obtain ⟨k, rfl, hk⟩ := hrel
    by_cases hkL : k < L
    · obtain ⟨x, hx⟩ : ∃ x, xs[k]? = some x := ⟨_, List.getElem?_eq_getElem (by rw [HL.out]; exact hkL)⟩
      obtain ⟨y, rfl⟩ := hs_some R.out (by rw [HL.out]; omega)
      have hok := R.out.ok hx
      have c0 : w.cell? (y.add (k * 8)) = some (.int .u32 x.a) := by
        have := R.out.at hx 0 _ rfl
        rwa [Addr.add_add] at this
      have X0 : 0 ≤ x.a := hok.1
      have X1 : x.a < 4294967296 := hok.2.1
      by_cases hlt : k < P
      · have hxa : x.a < a := lo_lt a xs k x (by rw [HP.out]; exact hlt) hx
        clear hx hok
        go_wp2_with fail
        go_round
        case rel => exact ⟨k + 1, by go_num, by omega⟩
        case measure => simp [intOf]; omega
      · obtain rfl : k = P := by omega
        have hxa : ¬ x.a < a := lo_ge a xs x (by rw [HP.out]; exact hx)
        have HA := Lib.hid (show isAt xs a = decide (x.a = a) by rw [HI.out, HP.out, hx])
        clear hx hok
        by_cases he : x.a = a
        · have he2 : (x.a == a) = true := by simpa using he
          have HE := Lib.hid he
          clear he
          go_wp2_with fail
          go_quiet (fail)
          go_wp2_with fail
          go_ret2
          refine ⟨?_, _, rfl⟩
          rw [HA.out, decide_eq_true HE.out]; rfl
        · have he2 : (x.a == a) = false := by simpa using he
          have HE := Lib.hid he
          clear he
          go_wp2_with fail
          go_quiet (fail)
          go_wp2_with fail
          go_ret2
          refine ⟨?_, _, rfl⟩
          rw [HA.out, decide_eq_false HE.out]; rfl
    · obtain rfl : k = L := by omega
      obtain rfl : k = P := by omega
      have HA := Lib.hid (show isAt xs a = false by rw [HI.out, HP.out, List.getElem?_eq_none (by rw [HL.out]; exact Nat.le_refl _)])
      go_wp2_with fail
      go_quiet (fail)
      go_wp2_with fail
      go_ret2
      refine ⟨?_, _, rfl⟩
      rw [HA.out]; rfl

theorem place_below {a : Int} {A : Option Addr} {xs : List Hr} {cap : Nat} {w : World} (h : Hs w A xs) (ha0 : 0 ≤ a) (ha1 : a < 4294967296) :
    Calls Try.prog 25 #[.slice A xs.length cap, .int .u32 a] w fun e w' => e = .returned (.tuple #[.int .i64 (lo xs a), .bool (isAt xs a)]) ∧ Below w.heap.size w w' :=
  (place_any a A xs cap w h ha0 ha1).mono fun _ _ ⟨he, n, hn⟩ => ⟨he, hn ▸ bdrewN (Below.refl _ _) n⟩
theorem Hs.drewN {w : World} {A : Option Addr} {xs : List Hr} (h : Hs w A xs) (n : Nat) : Hs (w.drewN n) A xs := h.below (bdrewN (Below.refl _ _) n)
theorem set8h {w w1 : World} {b : Nat} (h : Below w.heap.size w w1) (hb : w.heap.size ≤ b) (v0 v1 v2 v3 v4 v5 v6 v7 : Value) :
    Below w.heap.size w ((((((((w1.setCell ⟨b, 0, none⟩ v0).setCell ⟨b, 1, none⟩ v1).setCell ⟨b, 2, none⟩ v2).setCell ⟨b, 3, none⟩ v3).setCell ⟨b, 4, none⟩ v4).setCell ⟨b, 5, none⟩ v5).setCell ⟨b, 6, none⟩ v6).setCell ⟨b, 7, none⟩ v7) :=
  (((((((h.setCell hb v0).setCell hb v1).setCell hb v2).setCell hb v3).setCell hb v4).setCell hb v5).setCell hb v6).setCell hb v7

set_option maxRecDepth 100000 in
set_option maxHeartbeats 2000000 in
theorem get_any (a : Int) (A : Option Addr) (xs : List Hr) (cap : Nat) (w : World) (h : Hs w A xs) (hc : xs.length ≤ cap) (ha0 : 0 ≤ a) (ha1 : a < 4294967296) :
    Calls Try.prog 11 #[.slice A xs.length cap, .int .u32 a] w fun e w' => e = .returned (.tuple #[hv (gt xs a), .bool (isAt xs a)]) ∧ Below w.heap.size w w' := by
  have hle := lo_le a xs
  have hln := h.1
  have R := Lib.hid h
  have HP := Lib.hid (place_any a A xs cap (w.alloc (.cells #[.int .u32 0, .string ⟨#[]⟩, .int .u8 0, .int .u8 0, .int .u8 0, .int .u8 0, .int .u8 0, .int .u8 0] 33)) (h.below ((Below.refl _ w).alloc (Nat.le_refl _) _)) ha0 ha1)
  have HG := Lib.hid (show gt xs a = _ by unfold gt; rfl)
  have HS := Lib.hid (@isAt_some xs a)
  clear h
  obtain ⟨L, hL⟩ : ∃ L, xs.length = L := ⟨_, rfl⟩
  have HL := Lib.hid hL
  rw [hL] at hle hln HP hc ⊢
  clear hL
  obtain ⟨G, hG⟩ : ∃ G, gt xs a = G := ⟨_, rfl⟩
  rw [hG] at HG ⊢
  clear hG
  obtain ⟨P, hP⟩ : ∃ P, lo xs a = P := ⟨_, rfl⟩
  have HPP := Lib.hid hP
  rw [hP] at hle HP
  clear hP
  obtain ⟨B, hB⟩ : ∃ B, isAt xs a = B := ⟨_, rfl⟩
  have HB := Lib.hid hB
  rw [hB] at HP HG ⊢
  clear hB
  go_enter Try.func11, Try.ntmps11
  go_wp2_with fail
  refine HP.out.mono ?_
  rintro e w1 ⟨rfl, n1, hw1⟩
  have B1 : Below w.heap.size w w1 := hw1 ▸ bdrewN ((Below.refl _ w).alloc (Nat.le_refl _) _) n1
  have k0 : w1.cell? ⟨w.heap.size, 0, none⟩ = some (.int .u32 0) := by rw [hw1]; simp
  have k1 : w1.cell? ⟨w.heap.size, 1, none⟩ = some (.string ⟨#[]⟩) := by rw [hw1]; simp
  have k2 : w1.cell? ⟨w.heap.size, 2, none⟩ = some (.int .u8 0) := by rw [hw1]; simp
  have k3 : w1.cell? ⟨w.heap.size, 3, none⟩ = some (.int .u8 0) := by rw [hw1]; simp
  have k4 : w1.cell? ⟨w.heap.size, 4, none⟩ = some (.int .u8 0) := by rw [hw1]; simp
  have k5 : w1.cell? ⟨w.heap.size, 5, none⟩ = some (.int .u8 0) := by rw [hw1]; simp
  have k6 : w1.cell? ⟨w.heap.size, 6, none⟩ = some (.int .u8 0) := by rw [hw1]; simp
  have k7 : w1.cell? ⟨w.heap.size, 7, none⟩ = some (.int .u8 0) := by rw [hw1]; simp
  have f8 : ∀ k, w1.frozen? ⟨w.heap.size, k, none⟩ = false := by intro k; rw [hw1]; simp
  have R1 := Lib.hid (R.out.below B1)
  have BB := Lib.hid B1
  clear hw1 B1 HP
  cases B
  · go_wp2_with fail
    exact bodyPost_ret (v := .tuple #[hv zh, .bool false]) (by simp [results, Try.results11, go_sem, hv, zh, k0, k1, k2, k3, k4, k5, k6, k7]) rfl ⟨by rw [HG.out]; rfl, set8h BB.out (Nat.le_refl _) _ _ _ _ _ _ _ _⟩
  · obtain ⟨x, hx, hxa, hlt⟩ := HS.out HB.out
    rw [HPP.out] at hx hlt
    rw [HL.out] at hlt
    have HGx := Lib.hid (show G = x by rw [HG.out]; simp [HPP.out, hx])
    obtain ⟨y, rfl⟩ := hs_some R.out (by rw [HL.out]; omega)
    have hat := R1.out.at hx
    obtain ⟨xa, xT, x0, x1, x2, x3, x4, x5⟩ := x
    clear hx hxa
    go_wp2_with (refine at_load33 _ rfl rfl _ _ rfl hat ?_)
    exact bodyPost_ret (v := .tuple #[hv ⟨xa, xT, x0, x1, x2, x3, x4, x5⟩, .bool true]) (by simp [results, Try.results11, go_sem, hv, k0, k1, k2, k3, k4, k5, k6, k7]) rfl ⟨by rw [HGx.out], set8h BB.out (Nat.le_refl _) _ _ _ _ _ _ _ _⟩
end Go.Proofs.Ytafmcnnbeoffdaa
