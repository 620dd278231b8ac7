/-
  The contract of held.Right. Conditions: the row lies in memory.
-/
import Derived.Test.YtafmcnnbeoffdaaChg
set_option linter.unusedSimpArgs false
set_option linter.unusedVariables false
namespace Go.Proofs.Ytafmcnnbeoffdaa
open Go.RowKit

/-- Whether a holder stands right in its row. -/
def rOk (xs : List Hr) (i : Nat) : Bool := match xs[i]? with
  | some x => mayB x.T && (i == 0 || (match xs[i - 1]? with
    | some y => decide (y.a < x.a)
    | none => false))
  | none => true
def rPre (xs : List Hr) (k : Nat) : Bool := (List.range k).all (rOk xs)
def rightB (xs : List Hr) : Bool := decide (xs.length ≤ 48) && rPre xs xs.length
theorem rPre_zero (xs : List Hr) : rPre xs 0 = true := rfl
theorem rPre_succ (xs : List Hr) (k : Nat) : rPre xs (k + 1) = (rPre xs k && rOk xs k) := by
  unfold rPre
  rw [List.range_succ, List.all_append]
  simp
theorem rPre_false (xs : List Hr) (k n : Nat) (h : rPre xs k = false) (hk : k ≤ n) : rPre xs n = false := by
  induction hk with
  | refl => exact h
  | step h1 ih => rw [rPre_succ, ih]; rfl
theorem i64_nat {j : Nat} (h : j ≤ 140737488355328) : IntKind.i64.wrap (j : Int) = (j : Int) := by rw [IntKind.wrap_i64]; omega

set_option maxRecDepth 100000 in
set_option maxHeartbeats 4000000 in
theorem right15_any (A : Option Addr) (xs : List Hr) (cap : Nat) (w : World) (h : Hs w A xs) (hc : xs.length ≤ cap) :
    Calls Try.prog 15 #[.slice A xs.length cap] w fun e w' => e = .returned (.bool (rightB xs)) ∧ Below w.heap.size w w' := by
  have hln := h.1
  have R := Lib.hid h
  by_cases h48 : 48 < xs.length
  · have HF := Lib.hid (show rightB xs = false by simp [rightB]; omega)
    have h48' : (48 : Int) < xs.length := by omega
    clear h
    generalize xs.length = L at *
    go_enter Try.func15, Try.ntmps15
    go_wp2_with fail
    go_ret
    exact ⟨by rw [HF.out]; rfl, Below.refl _ _⟩
  · have HF := Lib.hid (show rightB xs = rPre xs xs.length by simp [rightB]; omega)
    have h48' : ¬ (48 : Int) < xs.length := by omega
    clear h
    obtain ⟨L, hL⟩ : ∃ L, xs.length = L := ⟨_, rfl⟩
    have HL := Lib.hid hL
    rw [hL] at hc hln h48 h48' HF ⊢
    clear hL
    go_enter Try.func15, Try.ntmps15
    go_wp2_with fail
    go_loopw [10] (fun i wr => ∃ k : Nat, i = .int .i64 k ∧ k ≤ L ∧ Hid (rPre xs k = true ∧ Below w.heap.size w wr)) (fun i _ => L - (intOf i).toNat)
    case atStart => exact ⟨0, rfl, by omega, Lib.hid ⟨rPre_zero _, Below.refl _ _⟩⟩
    case round =>
      obtain ⟨k, rfl, hk, HH⟩ := hrel
      by_cases hlt : k < L
      · obtain ⟨x, hx⟩ : ∃ x, xs[k]? = some x := ⟨_, List.getElem?_eq_getElem (by rw [HL.out]; exact hlt)⟩
        obtain ⟨y, rfl⟩ := hs_some R.out (by rw [HL.out]; omega)
        have R1 := Lib.hid (R.out.below HH.out.2)
        have hok := R.out.ok hx
        have hat := R1.out.at hx
        have HS := Lib.hid (rPre_succ xs k)
        have HN := Lib.hid (rPre_false xs (k + 1) L)
        have HM := Lib.hid fun W => may_any x.T W hok.2.2
        have X0 : 0 ≤ x.a := hok.1
        have X1 : x.a < 4294967296 := hok.2.1
        cases hY : mayB x.T
        · rw [hY] at HM
          have HO := Lib.hid (show rOk xs k = false by simp [rOk, hx, hY])
          obtain ⟨xa, xT, x0, x1, x2, x3, x4, x5⟩ := x
          clear hx hok hY
          go_wp2_with (refine at_load33 _ rfl rfl _ _ rfl hat ?_)
          go_quiet ((go_at_call 16; exact Calls.quiet_of_same (HM.out _)))
          go_wp2_with fail
          go_ret
          exact ⟨ret_bool (by rw [HF.out, HN.out (by rw [HS.out, HO.out]; simp) (by omega)]), bdrewN (HH.out.2.alloc HH.out.2.size _) _⟩
        · rw [hY] at HM
          rcases k with _ | j
          · have HO := Lib.hid (show rOk xs 0 = true by simp [rOk, hx, hY])
            obtain ⟨xa, xT, x0, x1, x2, x3, x4, x5⟩ := x
            clear hx hok hY
            go_wp2_with (refine at_load33 _ rfl rfl _ _ rfl hat ?_)
            go_quiet ((go_at_call 16; exact Calls.quiet_of_same (HM.out _)))
            go_wp2_with fail
            go_roundw
            case rel => exact ⟨1, by go_num, by omega, Lib.hid ⟨by rw [HS.out, HH.out.1, HO.out]; rfl, bdrewN (HH.out.2.alloc HH.out.2.size _) _⟩⟩
            case measure => simp [intOf]; omega
          · obtain ⟨z, hz⟩ : ∃ z, xs[j]? = some z := ⟨_, List.getElem?_eq_getElem (by rw [HL.out]; omega)⟩
            have c0 : wr.cell? (y.add (j * 8)) = some (.int .u32 z.a) := by
              have := R1.out.at hz 0 _ rfl
              rwa [Addr.add_add] at this
            have hO : rOk xs (j + 1) = decide (z.a < x.a) := by simp [rOk, hx, hY, hz]
            have hj : IntKind.i64.wrap (j : Int) = (j : Int) := i64_nat (by omega)
            have hjL : (j : Int) < L := by omega
            have hyb := World.block_lt_of_cell? _ _ c0
            have hyn : (y.add (j * 8)).block ≠ wr.heap.size := by omega
            by_cases hlt2 : z.a < x.a
            · have HO := Lib.hid (show rOk xs (j + 1) = true by rw [hO]; simpa using hlt2)
              have hle2 : ¬ x.a ≤ z.a := by omega
              obtain ⟨xa, xT, x0, x1, x2, x3, x4, x5⟩ := x
              clear hx hz hok hY hO
              go_wp2_with (refine at_load33 _ rfl rfl _ _ rfl hat ?_)
              go_quiet ((go_at_call 16; exact Calls.quiet_of_same (HM.out _)))
              go_wp2_with fail
              go_roundw
              case rel => exact ⟨j + 2, by go_num, by omega, Lib.hid ⟨by rw [HS.out, HH.out.1, HO.out]; rfl, bdrewN (HH.out.2.alloc HH.out.2.size _) _⟩⟩
              case measure => simp [intOf]; omega
            · have HO := Lib.hid (show rOk xs (j + 1) = false by rw [hO]; simpa using hlt2)
              have hle2 : x.a ≤ z.a := by omega
              obtain ⟨xa, xT, x0, x1, x2, x3, x4, x5⟩ := x
              clear hx hz hok hY hO
              go_wp2_with (refine at_load33 _ rfl rfl _ _ rfl hat ?_)
              go_quiet ((go_at_call 16; exact Calls.quiet_of_same (HM.out _)))
              go_wp2_with fail
              go_ret
              exact ⟨ret_bool (by rw [HF.out, HN.out (by rw [HS.out, HO.out]; simp) (by omega)]), bdrewN (HH.out.2.alloc HH.out.2.size _) _⟩
      · obtain rfl : k = L := by omega
        go_wp2_with fail
        go_ret
        exact ⟨ret_bool (by rw [HF.out, HH.out.1]), HH.out.2⟩
end Go.Proofs.Ytafmcnnbeoffdaa
