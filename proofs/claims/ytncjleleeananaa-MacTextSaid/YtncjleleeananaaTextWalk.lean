/-
  The walk of MacText: called at any number, choice of letters and separator it returns true and changes nothing that was in memory.
-/
import Derived.Test.YtncjleleeananaaAwake
namespace Go.Proofs.Ytncjleleeananaa
open Go.RowKit

/-- The digits, small or great. -/
def tabOf (g : Bool) : ByteArray := if g then ⟨#[48, 49, 50, 51, 52, 53, 54, 55, 56, 57, 65, 66, 67, 68, 69, 70]⟩ else ⟨#[48, 49, 50, 51, 52, 53, 54, 55, 56, 57, 97, 98, 99, 100, 101, 102]⟩
theorem tab_size (g : Bool) : (tabOf g).size = 16 := by cases g <;> rfl
theorem tab_cut (g : Bool) (p : Int) (h0 : 0 ≤ p) (h1 : p < 16) : (tabOf g).extract p.toNat (p + 1).toNat = strOf [hxg g p] := by
  have h : ∀ (g : Bool) (m : Fin 16), (tabOf g).extract m.val (m.val + 1) = strOf [hxg g (m.val : Int)] := by decide +kernel
  have := h g ⟨p.toNat, by omega⟩
  simp only [Int.toNat_of_nonneg h0] at this
  rw [show (p + 1).toNat = p.toNat + 1 by omega]
  exact this
theorem run_cut (g : Bool) (p : Int) (h0 : 0 ≤ p) (h1 : p < 16) (W : World) :
    (Instr.slice 9 (.string (tabOf g)) (some (.int .u8 p)) (some (.int .u8 (p + 1))) none).run Try.prog W = .ok (.string (strOf [hxg g p])) W := by
  rw [run_slice_string W 9 (tabOf g) .u8 .u8 p (p + 1) Try.underlying9 h0 (by omega) (by rw [tab_size]; omega), tab_cut g p h0 h1]
theorem str_app (a b : List Int) : strOf a ++ strOf b = strOf (a ++ b) := by
  apply ByteArray.ext
  simp [strOf, ByteArray.data_append]
theorem run_join (a b : List Int) (h : a.length + b.length ≤ 1000) (W : World) : (Op.stringOp .add (strOf a) (strOf b)).run Try.prog W = .ok (.string (strOf (a ++ b))) W := by
  rw [run_string_add_sum W _ _ (by rw [str_size, str_size]; omega), str_app]

theorem lawPair_any (c : Int) (g : Bool) (w : World) (h0 : 0 ≤ c) (h1 : c < 256) :
    Calls Try.prog 9 #[.int .u8 c, .bool g] w fun e w' => e = .returned (.string (strOf (duog g c))) ∧ ∃ n, w' = w.drewN n := by
  have e1 : IntKind.u8.wrap (c.tdiv 16) = c / 16 := by rw [IntKind.wrap_u8', Int.tdiv_eq_ediv_of_nonneg h0]; omega
  have e2 : c.tmod 16 = c % 16 := Int.tmod_eq_emod_of_nonneg h0
  have p0 : 0 ≤ c / 16 := by omega
  have p1 : c / 16 < 16 := by omega
  have q0 : 0 ≤ c % 16 := by omega
  have q1 : c % 16 < 16 := by omega
  unfold duog
  generalize c / 16 = p at *
  generalize c % 16 = q at *
  have e3 : IntKind.u8.wrap (p + 1) = p + 1 := by rw [IntKind.wrap_u8']; omega
  have e4 : IntKind.u8.wrap (q + 1) = q + 1 := by rw [IntKind.wrap_u8']; omega
  have e5 : IntKind.u8.wrap q = q := by rw [IntKind.wrap_u8']; omega
  have r1 := fun W => run_cut g p p0 p1 W
  have r2 := fun W => run_cut g q q0 q1 W
  have r3 := fun W => run_join [hxg g p] [hxg g q] (by simp) W
  cases g
  all_goals
    simp only [tabOf, Bool.false_eq_true, if_true, if_false, List.cons_append, List.nil_append] at r1 r2 r3
    go_enter Try.func9, Try.ntmps9
    go_wp2
    go_quiet (fail)
    go_wp2
    go_ret
    exact ⟨rfl, nq, rfl⟩
/-- Whether the letters of byte k are great. -/
def greatB (n : Int) (k : Nat) : Bool := n / 2 ^ k % 2 == 1
theorem run_sepA (a : List Int) (h : a.length ≤ 900) (W : World) : (Op.stringOp .add (strOf a) ⟨#[58]⟩).run Try.prog W = .ok (.string (strOf (a ++ [58]))) W := run_join a [58] (by rw [List.length_singleton]; omega) W
theorem run_sepB (a : List Int) (h : a.length ≤ 900) (W : World) : (Op.stringOp .add (strOf a) ⟨#[45]⟩).run Try.prog W = .ok (.string (strOf (a ++ [45]))) W := run_join a [45] (by rw [List.length_singleton]; omega) W

set_option maxHeartbeats 2000000 in
theorem macText_walk (b0 b1 b2 b3 b4 b5 n : Int) (stroke : Bool) (w : World) (h : Six b0 b1 b2 b3 b4 b5) (hn0 : 0 ≤ n) (hn1 : n < 256) :
    Calls Try.prog 3 #[.agg #[.int .u8 b0, .int .u8 b1, .int .u8 b2, .int .u8 b3, .int .u8 b4, .int .u8 b5], .int .u8 n, .bool stroke] w fun e w' => e = .returned (.bool true) ∧ Below w.heap.size w w' := by
  go_enter Try.func3, Try.ntmps3
  go_wp2_with fail
  refine (awake_any _).mono ?_
  rintro e w1 ⟨rfl, hb⟩
  have HB := Lib.hid (show Below w.heap.size w w1 from ((Below.refl _ w).alloc (Nat.le_refl _) _).trans (hb.mono (by simp)))
  obtain ⟨hc, hf⟩ := bcell hb
  have f0 : w1.cell? ⟨w.heap.size, 0, none⟩ = some (.int .u8 b0) := by go_simp
  have f1 : w1.cell? ⟨w.heap.size, 1, none⟩ = some (.int .u8 b1) := by go_simp
  have f2 : w1.cell? ⟨w.heap.size, 2, none⟩ = some (.int .u8 b2) := by go_simp
  have f3 : w1.cell? ⟨w.heap.size, 3, none⟩ = some (.int .u8 b3) := by go_simp
  have f4 : w1.cell? ⟨w.heap.size, 4, none⟩ = some (.int .u8 b4) := by go_simp
  have f5 : w1.cell? ⟨w.heap.size, 5, none⟩ = some (.int .u8 b5) := by go_simp
  have hz : w.heap.size < w1.heap.size := by have := hb.size; simp at this; omega
  clear hb hc hf
  cases stroke
  · go_wp2_with fail
    go_loopw [7, 8, 20] (fun s t i wr => ∃ k m : Nat, k ≤ 6 ∧ i = .int .i64 k ∧ s = .string (strOf (txg 58 (fun _ => false) [b0, b1, b2, b3, b4, b5] k)) ∧ t = .string (strOf (txg 58 (greatB n) [b0, b1, b2, b3, b4, b5] k)) ∧ wr = w1.drewN m) (fun _ _ i _ => 6 - (intOf i).toNat)
    case atStart => exact ⟨0, 0, by omega, rfl, rfl, rfl, rfl⟩
    case round =>
      obtain ⟨k, m, hk, rfl, rfl, rfl, rfl⟩ := hrel
      rcases (show k = 0 ∨ k = 1 ∨ k = 2 ∨ k = 3 ∨ k = 4 ∨ k = 5 ∨ k = 6 by omega) with rfl | rfl | rfl | rfl | rfl | rfl | rfl
      · have e0 := fun W => run_at6 b0 b1 b2 b3 b4 b5 0 (by omega) W
        simp only [List.getD_cons_zero, Int.cast_ofNat_Int] at e0
        have j3 := fun W => run_join (txg 58 (fun _ => false) [b0, b1, b2, b3, b4, b5] 0) (duog false b0) (by simp [txg, duog]) W
        have j4 := fun W => run_join (txg 58 (greatB n) [b0, b1, b2, b3, b4, b5] 0) (duog (greatB n 0) b0) (by simp [txg, duog]) W
        have HP1 := Lib.hid fun W => lawPair_any b0 false W h.h0 h.g0
        have HP2 := Lib.hid fun W => lawPair_any b0 (greatB n 0) W h.h0 h.g0
        have eg : (bits .and .u8 (n) 1 == 1) = greatB n 0 := by rw [and1 (n) (by omega) (by omega)]; simp [greatB]
        obtain ⟨s2, hs2⟩ : ∃ x, x = strOf (txg 58 (fun _ => false) [b0, b1, b2, b3, b4, b5] 0 ++ duog false b0) := ⟨_, rfl⟩
        obtain ⟨t2, ht2⟩ : ∃ x, x = strOf (txg 58 (greatB n) [b0, b1, b2, b3, b4, b5] 0 ++ duog (greatB n 0) b0) := ⟨_, rfl⟩
        rw [← hs2] at j3
        rw [← ht2] at j4
        have HS2 := Lib.hid hs2
        have HT2 := Lib.hid ht2
        clear hs2 ht2
        generalize strOf (txg 58 (fun _ => false) [b0, b1, b2, b3, b4, b5] 0) = s0 at j3 ⊢
        generalize strOf (txg 58 (greatB n) [b0, b1, b2, b3, b4, b5] 0) = t0 at j4 ⊢
        generalize strOf (duog false b0) = p1 at *
        generalize strOf (duog (greatB n 0) b0) = p2 at *
        generalize hG : greatB n 0 = G at HP2 eg
        clear hG
        generalize hW : w1.drewN m = W at *
        have HW := Lib.hid hW
        clear hW
        go_wp2_with fail
        go_quiet ((go_at_call 9; first | (with_reducible exact Calls.quiet_of (HP1.out _)) | (with_reducible exact Calls.quiet_of (HP2.out _))))
        go_wp2_with fail
        go_roundw
        case measure => simp [intOf]
        case rel => exact ⟨1, m + nq, by omega, rfl, by rw [HS2.out]; rfl, by rw [HT2.out]; rfl, by rw [← HW.out, World.drewN_drewN]⟩
      · have e0 := fun W => run_at6 b0 b1 b2 b3 b4 b5 1 (by omega) W
        simp only [List.getD_cons_zero, List.getD_cons_succ, Int.cast_ofNat_Int] at e0
        have j1 := fun W => run_sepA (txg 58 (fun _ => false) [b0, b1, b2, b3, b4, b5] 1) (by simp [txg, duog]) W
        have j2 := fun W => run_sepA (txg 58 (greatB n) [b0, b1, b2, b3, b4, b5] 1) (by simp [txg, duog]) W
        have j3 := fun W => run_join (txg 58 (fun _ => false) [b0, b1, b2, b3, b4, b5] 1 ++ [58]) (duog false b1) (by simp [txg, duog]) W
        have j4 := fun W => run_join (txg 58 (greatB n) [b0, b1, b2, b3, b4, b5] 1 ++ [58]) (duog (greatB n 1) b1) (by simp [txg, duog]) W
        have HP1 := Lib.hid fun W => lawPair_any b1 false W h.h1 h.g1
        have HP2 := Lib.hid fun W => lawPair_any b1 (greatB n 1) W h.h1 h.g1
        have eg : (bits .and .u8 (n / 2) 1 == 1) = greatB n 1 := by rw [and1 (n / 2) (by omega) (by omega)]; simp [greatB]
        obtain ⟨s2, hs2⟩ : ∃ x, x = strOf (txg 58 (fun _ => false) [b0, b1, b2, b3, b4, b5] 1 ++ [58] ++ duog false b1) := ⟨_, rfl⟩
        obtain ⟨t2, ht2⟩ : ∃ x, x = strOf (txg 58 (greatB n) [b0, b1, b2, b3, b4, b5] 1 ++ [58] ++ duog (greatB n 1) b1) := ⟨_, rfl⟩
        rw [← hs2] at j3
        rw [← ht2] at j4
        have HS2 := Lib.hid hs2
        have HT2 := Lib.hid ht2
        clear hs2 ht2
        generalize strOf (txg 58 (fun _ => false) [b0, b1, b2, b3, b4, b5] 1 ++ [58]) = s1 at j1 j3 ⊢
        generalize strOf (txg 58 (greatB n) [b0, b1, b2, b3, b4, b5] 1 ++ [58]) = t1 at j2 j4 ⊢
        generalize strOf (txg 58 (fun _ => false) [b0, b1, b2, b3, b4, b5] 1) = s0 at j1 ⊢
        generalize strOf (txg 58 (greatB n) [b0, b1, b2, b3, b4, b5] 1) = t0 at j2 ⊢
        generalize strOf (duog false b1) = p1 at *
        generalize strOf (duog (greatB n 1) b1) = p2 at *
        generalize hG : greatB n 1 = G at HP2 eg
        clear hG
        generalize hW : w1.drewN m = W at *
        have HW := Lib.hid hW
        clear hW
        go_wp2_with fail
        go_quiet ((go_at_call 9; first | (with_reducible exact Calls.quiet_of (HP1.out _)) | (with_reducible exact Calls.quiet_of (HP2.out _))))
        go_wp2_with fail
        go_roundw
        case measure => simp [intOf]
        case rel => exact ⟨2, m + nq, by omega, rfl, by rw [HS2.out]; rfl, by rw [HT2.out]; rfl, by rw [← HW.out, World.drewN_drewN]⟩
      · have e0 := fun W => run_at6 b0 b1 b2 b3 b4 b5 2 (by omega) W
        simp only [List.getD_cons_zero, List.getD_cons_succ, Int.cast_ofNat_Int] at e0
        have j1 := fun W => run_sepA (txg 58 (fun _ => false) [b0, b1, b2, b3, b4, b5] 2) (by simp [txg, duog]) W
        have j2 := fun W => run_sepA (txg 58 (greatB n) [b0, b1, b2, b3, b4, b5] 2) (by simp [txg, duog]) W
        have j3 := fun W => run_join (txg 58 (fun _ => false) [b0, b1, b2, b3, b4, b5] 2 ++ [58]) (duog false b2) (by simp [txg, duog]) W
        have j4 := fun W => run_join (txg 58 (greatB n) [b0, b1, b2, b3, b4, b5] 2 ++ [58]) (duog (greatB n 2) b2) (by simp [txg, duog]) W
        have HP1 := Lib.hid fun W => lawPair_any b2 false W h.h2 h.g2
        have HP2 := Lib.hid fun W => lawPair_any b2 (greatB n 2) W h.h2 h.g2
        have eg : (bits .and .u8 (n / 4) 1 == 1) = greatB n 2 := by rw [and1 (n / 4) (by omega) (by omega)]; simp [greatB]
        obtain ⟨s2, hs2⟩ : ∃ x, x = strOf (txg 58 (fun _ => false) [b0, b1, b2, b3, b4, b5] 2 ++ [58] ++ duog false b2) := ⟨_, rfl⟩
        obtain ⟨t2, ht2⟩ : ∃ x, x = strOf (txg 58 (greatB n) [b0, b1, b2, b3, b4, b5] 2 ++ [58] ++ duog (greatB n 2) b2) := ⟨_, rfl⟩
        rw [← hs2] at j3
        rw [← ht2] at j4
        have HS2 := Lib.hid hs2
        have HT2 := Lib.hid ht2
        clear hs2 ht2
        generalize strOf (txg 58 (fun _ => false) [b0, b1, b2, b3, b4, b5] 2 ++ [58]) = s1 at j1 j3 ⊢
        generalize strOf (txg 58 (greatB n) [b0, b1, b2, b3, b4, b5] 2 ++ [58]) = t1 at j2 j4 ⊢
        generalize strOf (txg 58 (fun _ => false) [b0, b1, b2, b3, b4, b5] 2) = s0 at j1 ⊢
        generalize strOf (txg 58 (greatB n) [b0, b1, b2, b3, b4, b5] 2) = t0 at j2 ⊢
        generalize strOf (duog false b2) = p1 at *
        generalize strOf (duog (greatB n 2) b2) = p2 at *
        generalize hG : greatB n 2 = G at HP2 eg
        clear hG
        generalize hW : w1.drewN m = W at *
        have HW := Lib.hid hW
        clear hW
        go_wp2_with fail
        go_quiet ((go_at_call 9; first | (with_reducible exact Calls.quiet_of (HP1.out _)) | (with_reducible exact Calls.quiet_of (HP2.out _))))
        go_wp2_with fail
        go_roundw
        case measure => simp [intOf]
        case rel => exact ⟨3, m + nq, by omega, rfl, by rw [HS2.out]; rfl, by rw [HT2.out]; rfl, by rw [← HW.out, World.drewN_drewN]⟩
      · have e0 := fun W => run_at6 b0 b1 b2 b3 b4 b5 3 (by omega) W
        simp only [List.getD_cons_zero, List.getD_cons_succ, Int.cast_ofNat_Int] at e0
        have j1 := fun W => run_sepA (txg 58 (fun _ => false) [b0, b1, b2, b3, b4, b5] 3) (by simp [txg, duog]) W
        have j2 := fun W => run_sepA (txg 58 (greatB n) [b0, b1, b2, b3, b4, b5] 3) (by simp [txg, duog]) W
        have j3 := fun W => run_join (txg 58 (fun _ => false) [b0, b1, b2, b3, b4, b5] 3 ++ [58]) (duog false b3) (by simp [txg, duog]) W
        have j4 := fun W => run_join (txg 58 (greatB n) [b0, b1, b2, b3, b4, b5] 3 ++ [58]) (duog (greatB n 3) b3) (by simp [txg, duog]) W
        have HP1 := Lib.hid fun W => lawPair_any b3 false W h.h3 h.g3
        have HP2 := Lib.hid fun W => lawPair_any b3 (greatB n 3) W h.h3 h.g3
        have eg : (bits .and .u8 (n / 8) 1 == 1) = greatB n 3 := by rw [and1 (n / 8) (by omega) (by omega)]; simp [greatB]
        obtain ⟨s2, hs2⟩ : ∃ x, x = strOf (txg 58 (fun _ => false) [b0, b1, b2, b3, b4, b5] 3 ++ [58] ++ duog false b3) := ⟨_, rfl⟩
        obtain ⟨t2, ht2⟩ : ∃ x, x = strOf (txg 58 (greatB n) [b0, b1, b2, b3, b4, b5] 3 ++ [58] ++ duog (greatB n 3) b3) := ⟨_, rfl⟩
        rw [← hs2] at j3
        rw [← ht2] at j4
        have HS2 := Lib.hid hs2
        have HT2 := Lib.hid ht2
        clear hs2 ht2
        generalize strOf (txg 58 (fun _ => false) [b0, b1, b2, b3, b4, b5] 3 ++ [58]) = s1 at j1 j3 ⊢
        generalize strOf (txg 58 (greatB n) [b0, b1, b2, b3, b4, b5] 3 ++ [58]) = t1 at j2 j4 ⊢
        generalize strOf (txg 58 (fun _ => false) [b0, b1, b2, b3, b4, b5] 3) = s0 at j1 ⊢
        generalize strOf (txg 58 (greatB n) [b0, b1, b2, b3, b4, b5] 3) = t0 at j2 ⊢
        generalize strOf (duog false b3) = p1 at *
        generalize strOf (duog (greatB n 3) b3) = p2 at *
        generalize hG : greatB n 3 = G at HP2 eg
        clear hG
        generalize hW : w1.drewN m = W at *
        have HW := Lib.hid hW
        clear hW
        go_wp2_with fail
        go_quiet ((go_at_call 9; first | (with_reducible exact Calls.quiet_of (HP1.out _)) | (with_reducible exact Calls.quiet_of (HP2.out _))))
        go_wp2_with fail
        go_roundw
        case measure => simp [intOf]
        case rel => exact ⟨4, m + nq, by omega, rfl, by rw [HS2.out]; rfl, by rw [HT2.out]; rfl, by rw [← HW.out, World.drewN_drewN]⟩
      · have e0 := fun W => run_at6 b0 b1 b2 b3 b4 b5 4 (by omega) W
        simp only [List.getD_cons_zero, List.getD_cons_succ, Int.cast_ofNat_Int] at e0
        have j1 := fun W => run_sepA (txg 58 (fun _ => false) [b0, b1, b2, b3, b4, b5] 4) (by simp [txg, duog]) W
        have j2 := fun W => run_sepA (txg 58 (greatB n) [b0, b1, b2, b3, b4, b5] 4) (by simp [txg, duog]) W
        have j3 := fun W => run_join (txg 58 (fun _ => false) [b0, b1, b2, b3, b4, b5] 4 ++ [58]) (duog false b4) (by simp [txg, duog]) W
        have j4 := fun W => run_join (txg 58 (greatB n) [b0, b1, b2, b3, b4, b5] 4 ++ [58]) (duog (greatB n 4) b4) (by simp [txg, duog]) W
        have HP1 := Lib.hid fun W => lawPair_any b4 false W h.h4 h.g4
        have HP2 := Lib.hid fun W => lawPair_any b4 (greatB n 4) W h.h4 h.g4
        have eg : (bits .and .u8 (n / 16) 1 == 1) = greatB n 4 := by rw [and1 (n / 16) (by omega) (by omega)]; simp [greatB]
        obtain ⟨s2, hs2⟩ : ∃ x, x = strOf (txg 58 (fun _ => false) [b0, b1, b2, b3, b4, b5] 4 ++ [58] ++ duog false b4) := ⟨_, rfl⟩
        obtain ⟨t2, ht2⟩ : ∃ x, x = strOf (txg 58 (greatB n) [b0, b1, b2, b3, b4, b5] 4 ++ [58] ++ duog (greatB n 4) b4) := ⟨_, rfl⟩
        rw [← hs2] at j3
        rw [← ht2] at j4
        have HS2 := Lib.hid hs2
        have HT2 := Lib.hid ht2
        clear hs2 ht2
        generalize strOf (txg 58 (fun _ => false) [b0, b1, b2, b3, b4, b5] 4 ++ [58]) = s1 at j1 j3 ⊢
        generalize strOf (txg 58 (greatB n) [b0, b1, b2, b3, b4, b5] 4 ++ [58]) = t1 at j2 j4 ⊢
        generalize strOf (txg 58 (fun _ => false) [b0, b1, b2, b3, b4, b5] 4) = s0 at j1 ⊢
        generalize strOf (txg 58 (greatB n) [b0, b1, b2, b3, b4, b5] 4) = t0 at j2 ⊢
        generalize strOf (duog false b4) = p1 at *
        generalize strOf (duog (greatB n 4) b4) = p2 at *
        generalize hG : greatB n 4 = G at HP2 eg
        clear hG
        generalize hW : w1.drewN m = W at *
        have HW := Lib.hid hW
        clear hW
        go_wp2_with fail
        go_quiet ((go_at_call 9; first | (with_reducible exact Calls.quiet_of (HP1.out _)) | (with_reducible exact Calls.quiet_of (HP2.out _))))
        go_wp2_with fail
        go_roundw
        case measure => simp [intOf]
        case rel => exact ⟨5, m + nq, by omega, rfl, by rw [HS2.out]; rfl, by rw [HT2.out]; rfl, by rw [← HW.out, World.drewN_drewN]⟩
      · have e0 := fun W => run_at6 b0 b1 b2 b3 b4 b5 5 (by omega) W
        simp only [List.getD_cons_zero, List.getD_cons_succ, Int.cast_ofNat_Int] at e0
        have j1 := fun W => run_sepA (txg 58 (fun _ => false) [b0, b1, b2, b3, b4, b5] 5) (by simp [txg, duog]) W
        have j2 := fun W => run_sepA (txg 58 (greatB n) [b0, b1, b2, b3, b4, b5] 5) (by simp [txg, duog]) W
        have j3 := fun W => run_join (txg 58 (fun _ => false) [b0, b1, b2, b3, b4, b5] 5 ++ [58]) (duog false b5) (by simp [txg, duog]) W
        have j4 := fun W => run_join (txg 58 (greatB n) [b0, b1, b2, b3, b4, b5] 5 ++ [58]) (duog (greatB n 5) b5) (by simp [txg, duog]) W
        have HP1 := Lib.hid fun W => lawPair_any b5 false W h.h5 h.g5
        have HP2 := Lib.hid fun W => lawPair_any b5 (greatB n 5) W h.h5 h.g5
        have eg : (bits .and .u8 (n / 32) 1 == 1) = greatB n 5 := by rw [and1 (n / 32) (by omega) (by omega)]; simp [greatB]
        obtain ⟨s2, hs2⟩ : ∃ x, x = strOf (txg 58 (fun _ => false) [b0, b1, b2, b3, b4, b5] 5 ++ [58] ++ duog false b5) := ⟨_, rfl⟩
        obtain ⟨t2, ht2⟩ : ∃ x, x = strOf (txg 58 (greatB n) [b0, b1, b2, b3, b4, b5] 5 ++ [58] ++ duog (greatB n 5) b5) := ⟨_, rfl⟩
        rw [← hs2] at j3
        rw [← ht2] at j4
        have HS2 := Lib.hid hs2
        have HT2 := Lib.hid ht2
        clear hs2 ht2
        generalize strOf (txg 58 (fun _ => false) [b0, b1, b2, b3, b4, b5] 5 ++ [58]) = s1 at j1 j3 ⊢
        generalize strOf (txg 58 (greatB n) [b0, b1, b2, b3, b4, b5] 5 ++ [58]) = t1 at j2 j4 ⊢
        generalize strOf (txg 58 (fun _ => false) [b0, b1, b2, b3, b4, b5] 5) = s0 at j1 ⊢
        generalize strOf (txg 58 (greatB n) [b0, b1, b2, b3, b4, b5] 5) = t0 at j2 ⊢
        generalize strOf (duog false b5) = p1 at *
        generalize strOf (duog (greatB n 5) b5) = p2 at *
        generalize hG : greatB n 5 = G at HP2 eg
        clear hG
        generalize hW : w1.drewN m = W at *
        have HW := Lib.hid hW
        clear hW
        go_wp2_with fail
        go_quiet ((go_at_call 9; first | (with_reducible exact Calls.quiet_of (HP1.out _)) | (with_reducible exact Calls.quiet_of (HP2.out _))))
        go_wp2_with fail
        go_roundw
        case measure => simp [intOf]
        case rel => exact ⟨6, m + nq, by omega, rfl, by rw [HS2.out]; rfl, by rw [HT2.out]; rfl, by rw [← HW.out, World.drewN_drewN]⟩
      · have HP1 := Lib.hid fun W => parse_txg 58 (fun _ => false) b0 b1 b2 b3 b4 b5 W (by omega) h
        have HP2 := Lib.hid fun W => parse_txg 58 (greatB n) b0 b1 b2 b3 b4 b5 W (by omega) h
        have HT := Lib.hid fun W => text_six b0 b1 b2 b3 b4 b5 W h
        have he := fun W => run_eq6 b0 b1 b2 b3 b4 b5 b0 b1 b2 b3 b4 b5 W
        rw [show eq6 b0 b1 b2 b3 b4 b5 b0 b1 b2 b3 b4 b5 = true by simp [eq6]] at he
        generalize strOf (txg 58 (fun _ => false) [b0, b1, b2, b3, b4, b5] 6) = s0 at HP1 HT ⊢
        generalize strOf (txg 58 (greatB n) [b0, b1, b2, b3, b4, b5] 6) = t0 at HP2 ⊢
        have HB1 := Lib.hid (bdrewN HB.out m)
        replace f0 : (w1.drewN m).cell? ⟨w.heap.size, 0, none⟩ = some (.int .u8 b0) := by go_simp
        replace f1 : (w1.drewN m).cell? ⟨w.heap.size, 1, none⟩ = some (.int .u8 b1) := by go_simp
        replace f2 : (w1.drewN m).cell? ⟨w.heap.size, 2, none⟩ = some (.int .u8 b2) := by go_simp
        replace f3 : (w1.drewN m).cell? ⟨w.heap.size, 3, none⟩ = some (.int .u8 b3) := by go_simp
        replace f4 : (w1.drewN m).cell? ⟨w.heap.size, 4, none⟩ = some (.int .u8 b4) := by go_simp
        replace f5 : (w1.drewN m).cell? ⟨w.heap.size, 5, none⟩ = some (.int .u8 b5) := by go_simp
        replace hz : w.heap.size < (w1.drewN m).heap.size := by go_simp
        generalize w1.drewN m = W at *
        go_wp2_with fail
        refine (HP1.out _).mono ?_
        rintro e w2 ⟨rfl, hb⟩
        have HB2 := Lib.hid (bthen HB1.out hb)
        obtain ⟨hc, hf⟩ := bcell hb
        have hz2 : w.heap.size < w2.heap.size := by have := hb.size; omega
        clear hb
        go_wp2_with fail
        refine (HP2.out _).mono ?_
        rintro e w3 ⟨rfl, hb⟩
        have HB3 := Lib.hid (bthen (bnew HB2.out _) hb)
        obtain ⟨hc3, hf3⟩ := bcell hb
        have hz3 : w2.heap.size < w3.heap.size := by have := hb.size; simp at this; omega
        have hz3' : w.heap.size < w3.heap.size := by omega
        have hy2 : w.heap.size < w2.heap.size + 1 := by omega
        clear hb
        go_wp2_with fail
        refine (HT.out _).mono ?_
        rintro e w4 ⟨rfl, hb⟩
        have HB4 := Lib.hid (bthen (bnew HB3.out _) hb)
        obtain ⟨hc4, hf4⟩ := bcell hb
        have hy3 : w2.heap.size < w3.heap.size + 1 := by omega
        have hy4 : w.heap.size < w3.heap.size + 1 := by omega
        clear hb
        go_wp2_with fail
        go_ret
        exact ⟨rfl, HB4.out⟩
  · go_wp2_with fail
    go_loopw [7, 8, 20] (fun s t i wr => ∃ k m : Nat, k ≤ 6 ∧ i = .int .i64 k ∧ s = .string (strOf (txg 58 (fun _ => false) [b0, b1, b2, b3, b4, b5] k)) ∧ t = .string (strOf (txg 45 (greatB n) [b0, b1, b2, b3, b4, b5] k)) ∧ wr = w1.drewN m) (fun _ _ i _ => 6 - (intOf i).toNat)
    case atStart => exact ⟨0, 0, by omega, rfl, rfl, rfl, rfl⟩
    case round =>
      obtain ⟨k, m, hk, rfl, rfl, rfl, rfl⟩ := hrel
      rcases (show k = 0 ∨ k = 1 ∨ k = 2 ∨ k = 3 ∨ k = 4 ∨ k = 5 ∨ k = 6 by omega) with rfl | rfl | rfl | rfl | rfl | rfl | rfl
      · have e0 := fun W => run_at6 b0 b1 b2 b3 b4 b5 0 (by omega) W
        simp only [List.getD_cons_zero, Int.cast_ofNat_Int] at e0
        have j3 := fun W => run_join (txg 58 (fun _ => false) [b0, b1, b2, b3, b4, b5] 0) (duog false b0) (by simp [txg, duog]) W
        have j4 := fun W => run_join (txg 45 (greatB n) [b0, b1, b2, b3, b4, b5] 0) (duog (greatB n 0) b0) (by simp [txg, duog]) W
        have HP1 := Lib.hid fun W => lawPair_any b0 false W h.h0 h.g0
        have HP2 := Lib.hid fun W => lawPair_any b0 (greatB n 0) W h.h0 h.g0
        have eg : (bits .and .u8 (n) 1 == 1) = greatB n 0 := by rw [and1 (n) (by omega) (by omega)]; simp [greatB]
        obtain ⟨s2, hs2⟩ : ∃ x, x = strOf (txg 58 (fun _ => false) [b0, b1, b2, b3, b4, b5] 0 ++ duog false b0) := ⟨_, rfl⟩
        obtain ⟨t2, ht2⟩ : ∃ x, x = strOf (txg 45 (greatB n) [b0, b1, b2, b3, b4, b5] 0 ++ duog (greatB n 0) b0) := ⟨_, rfl⟩
        rw [← hs2] at j3
        rw [← ht2] at j4
        have HS2 := Lib.hid hs2
        have HT2 := Lib.hid ht2
        clear hs2 ht2
        generalize strOf (txg 58 (fun _ => false) [b0, b1, b2, b3, b4, b5] 0) = s0 at j3 ⊢
        generalize strOf (txg 45 (greatB n) [b0, b1, b2, b3, b4, b5] 0) = t0 at j4 ⊢
        generalize strOf (duog false b0) = p1 at *
        generalize strOf (duog (greatB n 0) b0) = p2 at *
        generalize hG : greatB n 0 = G at HP2 eg
        clear hG
        generalize hW : w1.drewN m = W at *
        have HW := Lib.hid hW
        clear hW
        go_wp2_with fail
        go_quiet ((go_at_call 9; first | (with_reducible exact Calls.quiet_of (HP1.out _)) | (with_reducible exact Calls.quiet_of (HP2.out _))))
        go_wp2_with fail
        go_roundw
        case measure => simp [intOf]
        case rel => exact ⟨1, m + nq, by omega, rfl, by rw [HS2.out]; rfl, by rw [HT2.out]; rfl, by rw [← HW.out, World.drewN_drewN]⟩
      · have e0 := fun W => run_at6 b0 b1 b2 b3 b4 b5 1 (by omega) W
        simp only [List.getD_cons_zero, List.getD_cons_succ, Int.cast_ofNat_Int] at e0
        have j1 := fun W => run_sepA (txg 58 (fun _ => false) [b0, b1, b2, b3, b4, b5] 1) (by simp [txg, duog]) W
        have j2 := fun W => run_sepB (txg 45 (greatB n) [b0, b1, b2, b3, b4, b5] 1) (by simp [txg, duog]) W
        have j3 := fun W => run_join (txg 58 (fun _ => false) [b0, b1, b2, b3, b4, b5] 1 ++ [58]) (duog false b1) (by simp [txg, duog]) W
        have j4 := fun W => run_join (txg 45 (greatB n) [b0, b1, b2, b3, b4, b5] 1 ++ [45]) (duog (greatB n 1) b1) (by simp [txg, duog]) W
        have HP1 := Lib.hid fun W => lawPair_any b1 false W h.h1 h.g1
        have HP2 := Lib.hid fun W => lawPair_any b1 (greatB n 1) W h.h1 h.g1
        have eg : (bits .and .u8 (n / 2) 1 == 1) = greatB n 1 := by rw [and1 (n / 2) (by omega) (by omega)]; simp [greatB]
        obtain ⟨s2, hs2⟩ : ∃ x, x = strOf (txg 58 (fun _ => false) [b0, b1, b2, b3, b4, b5] 1 ++ [58] ++ duog false b1) := ⟨_, rfl⟩
        obtain ⟨t2, ht2⟩ : ∃ x, x = strOf (txg 45 (greatB n) [b0, b1, b2, b3, b4, b5] 1 ++ [45] ++ duog (greatB n 1) b1) := ⟨_, rfl⟩
        rw [← hs2] at j3
        rw [← ht2] at j4
        have HS2 := Lib.hid hs2
        have HT2 := Lib.hid ht2
        clear hs2 ht2
        generalize strOf (txg 58 (fun _ => false) [b0, b1, b2, b3, b4, b5] 1 ++ [58]) = s1 at j1 j3 ⊢
        generalize strOf (txg 45 (greatB n) [b0, b1, b2, b3, b4, b5] 1 ++ [45]) = t1 at j2 j4 ⊢
        generalize strOf (txg 58 (fun _ => false) [b0, b1, b2, b3, b4, b5] 1) = s0 at j1 ⊢
        generalize strOf (txg 45 (greatB n) [b0, b1, b2, b3, b4, b5] 1) = t0 at j2 ⊢
        generalize strOf (duog false b1) = p1 at *
        generalize strOf (duog (greatB n 1) b1) = p2 at *
        generalize hG : greatB n 1 = G at HP2 eg
        clear hG
        generalize hW : w1.drewN m = W at *
        have HW := Lib.hid hW
        clear hW
        go_wp2_with fail
        go_quiet ((go_at_call 9; first | (with_reducible exact Calls.quiet_of (HP1.out _)) | (with_reducible exact Calls.quiet_of (HP2.out _))))
        go_wp2_with fail
        go_roundw
        case measure => simp [intOf]
        case rel => exact ⟨2, m + nq, by omega, rfl, by rw [HS2.out]; rfl, by rw [HT2.out]; rfl, by rw [← HW.out, World.drewN_drewN]⟩
      · have e0 := fun W => run_at6 b0 b1 b2 b3 b4 b5 2 (by omega) W
        simp only [List.getD_cons_zero, List.getD_cons_succ, Int.cast_ofNat_Int] at e0
        have j1 := fun W => run_sepA (txg 58 (fun _ => false) [b0, b1, b2, b3, b4, b5] 2) (by simp [txg, duog]) W
        have j2 := fun W => run_sepB (txg 45 (greatB n) [b0, b1, b2, b3, b4, b5] 2) (by simp [txg, duog]) W
        have j3 := fun W => run_join (txg 58 (fun _ => false) [b0, b1, b2, b3, b4, b5] 2 ++ [58]) (duog false b2) (by simp [txg, duog]) W
        have j4 := fun W => run_join (txg 45 (greatB n) [b0, b1, b2, b3, b4, b5] 2 ++ [45]) (duog (greatB n 2) b2) (by simp [txg, duog]) W
        have HP1 := Lib.hid fun W => lawPair_any b2 false W h.h2 h.g2
        have HP2 := Lib.hid fun W => lawPair_any b2 (greatB n 2) W h.h2 h.g2
        have eg : (bits .and .u8 (n / 4) 1 == 1) = greatB n 2 := by rw [and1 (n / 4) (by omega) (by omega)]; simp [greatB]
        obtain ⟨s2, hs2⟩ : ∃ x, x = strOf (txg 58 (fun _ => false) [b0, b1, b2, b3, b4, b5] 2 ++ [58] ++ duog false b2) := ⟨_, rfl⟩
        obtain ⟨t2, ht2⟩ : ∃ x, x = strOf (txg 45 (greatB n) [b0, b1, b2, b3, b4, b5] 2 ++ [45] ++ duog (greatB n 2) b2) := ⟨_, rfl⟩
        rw [← hs2] at j3
        rw [← ht2] at j4
        have HS2 := Lib.hid hs2
        have HT2 := Lib.hid ht2
        clear hs2 ht2
        generalize strOf (txg 58 (fun _ => false) [b0, b1, b2, b3, b4, b5] 2 ++ [58]) = s1 at j1 j3 ⊢
        generalize strOf (txg 45 (greatB n) [b0, b1, b2, b3, b4, b5] 2 ++ [45]) = t1 at j2 j4 ⊢
        generalize strOf (txg 58 (fun _ => false) [b0, b1, b2, b3, b4, b5] 2) = s0 at j1 ⊢
        generalize strOf (txg 45 (greatB n) [b0, b1, b2, b3, b4, b5] 2) = t0 at j2 ⊢
        generalize strOf (duog false b2) = p1 at *
        generalize strOf (duog (greatB n 2) b2) = p2 at *
        generalize hG : greatB n 2 = G at HP2 eg
        clear hG
        generalize hW : w1.drewN m = W at *
        have HW := Lib.hid hW
        clear hW
        go_wp2_with fail
        go_quiet ((go_at_call 9; first | (with_reducible exact Calls.quiet_of (HP1.out _)) | (with_reducible exact Calls.quiet_of (HP2.out _))))
        go_wp2_with fail
        go_roundw
        case measure => simp [intOf]
        case rel => exact ⟨3, m + nq, by omega, rfl, by rw [HS2.out]; rfl, by rw [HT2.out]; rfl, by rw [← HW.out, World.drewN_drewN]⟩
      · have e0 := fun W => run_at6 b0 b1 b2 b3 b4 b5 3 (by omega) W
        simp only [List.getD_cons_zero, List.getD_cons_succ, Int.cast_ofNat_Int] at e0
        have j1 := fun W => run_sepA (txg 58 (fun _ => false) [b0, b1, b2, b3, b4, b5] 3) (by simp [txg, duog]) W
        have j2 := fun W => run_sepB (txg 45 (greatB n) [b0, b1, b2, b3, b4, b5] 3) (by simp [txg, duog]) W
        have j3 := fun W => run_join (txg 58 (fun _ => false) [b0, b1, b2, b3, b4, b5] 3 ++ [58]) (duog false b3) (by simp [txg, duog]) W
        have j4 := fun W => run_join (txg 45 (greatB n) [b0, b1, b2, b3, b4, b5] 3 ++ [45]) (duog (greatB n 3) b3) (by simp [txg, duog]) W
        have HP1 := Lib.hid fun W => lawPair_any b3 false W h.h3 h.g3
        have HP2 := Lib.hid fun W => lawPair_any b3 (greatB n 3) W h.h3 h.g3
        have eg : (bits .and .u8 (n / 8) 1 == 1) = greatB n 3 := by rw [and1 (n / 8) (by omega) (by omega)]; simp [greatB]
        obtain ⟨s2, hs2⟩ : ∃ x, x = strOf (txg 58 (fun _ => false) [b0, b1, b2, b3, b4, b5] 3 ++ [58] ++ duog false b3) := ⟨_, rfl⟩
        obtain ⟨t2, ht2⟩ : ∃ x, x = strOf (txg 45 (greatB n) [b0, b1, b2, b3, b4, b5] 3 ++ [45] ++ duog (greatB n 3) b3) := ⟨_, rfl⟩
        rw [← hs2] at j3
        rw [← ht2] at j4
        have HS2 := Lib.hid hs2
        have HT2 := Lib.hid ht2
        clear hs2 ht2
        generalize strOf (txg 58 (fun _ => false) [b0, b1, b2, b3, b4, b5] 3 ++ [58]) = s1 at j1 j3 ⊢
        generalize strOf (txg 45 (greatB n) [b0, b1, b2, b3, b4, b5] 3 ++ [45]) = t1 at j2 j4 ⊢
        generalize strOf (txg 58 (fun _ => false) [b0, b1, b2, b3, b4, b5] 3) = s0 at j1 ⊢
        generalize strOf (txg 45 (greatB n) [b0, b1, b2, b3, b4, b5] 3) = t0 at j2 ⊢
        generalize strOf (duog false b3) = p1 at *
        generalize strOf (duog (greatB n 3) b3) = p2 at *
        generalize hG : greatB n 3 = G at HP2 eg
        clear hG
        generalize hW : w1.drewN m = W at *
        have HW := Lib.hid hW
        clear hW
        go_wp2_with fail
        go_quiet ((go_at_call 9; first | (with_reducible exact Calls.quiet_of (HP1.out _)) | (with_reducible exact Calls.quiet_of (HP2.out _))))
        go_wp2_with fail
        go_roundw
        case measure => simp [intOf]
        case rel => exact ⟨4, m + nq, by omega, rfl, by rw [HS2.out]; rfl, by rw [HT2.out]; rfl, by rw [← HW.out, World.drewN_drewN]⟩
      · have e0 := fun W => run_at6 b0 b1 b2 b3 b4 b5 4 (by omega) W
        simp only [List.getD_cons_zero, List.getD_cons_succ, Int.cast_ofNat_Int] at e0
        have j1 := fun W => run_sepA (txg 58 (fun _ => false) [b0, b1, b2, b3, b4, b5] 4) (by simp [txg, duog]) W
        have j2 := fun W => run_sepB (txg 45 (greatB n) [b0, b1, b2, b3, b4, b5] 4) (by simp [txg, duog]) W
        have j3 := fun W => run_join (txg 58 (fun _ => false) [b0, b1, b2, b3, b4, b5] 4 ++ [58]) (duog false b4) (by simp [txg, duog]) W
        have j4 := fun W => run_join (txg 45 (greatB n) [b0, b1, b2, b3, b4, b5] 4 ++ [45]) (duog (greatB n 4) b4) (by simp [txg, duog]) W
        have HP1 := Lib.hid fun W => lawPair_any b4 false W h.h4 h.g4
        have HP2 := Lib.hid fun W => lawPair_any b4 (greatB n 4) W h.h4 h.g4
        have eg : (bits .and .u8 (n / 16) 1 == 1) = greatB n 4 := by rw [and1 (n / 16) (by omega) (by omega)]; simp [greatB]
        obtain ⟨s2, hs2⟩ : ∃ x, x = strOf (txg 58 (fun _ => false) [b0, b1, b2, b3, b4, b5] 4 ++ [58] ++ duog false b4) := ⟨_, rfl⟩
        obtain ⟨t2, ht2⟩ : ∃ x, x = strOf (txg 45 (greatB n) [b0, b1, b2, b3, b4, b5] 4 ++ [45] ++ duog (greatB n 4) b4) := ⟨_, rfl⟩
        rw [← hs2] at j3
        rw [← ht2] at j4
        have HS2 := Lib.hid hs2
        have HT2 := Lib.hid ht2
        clear hs2 ht2
        generalize strOf (txg 58 (fun _ => false) [b0, b1, b2, b3, b4, b5] 4 ++ [58]) = s1 at j1 j3 ⊢
        generalize strOf (txg 45 (greatB n) [b0, b1, b2, b3, b4, b5] 4 ++ [45]) = t1 at j2 j4 ⊢
        generalize strOf (txg 58 (fun _ => false) [b0, b1, b2, b3, b4, b5] 4) = s0 at j1 ⊢
        generalize strOf (txg 45 (greatB n) [b0, b1, b2, b3, b4, b5] 4) = t0 at j2 ⊢
        generalize strOf (duog false b4) = p1 at *
        generalize strOf (duog (greatB n 4) b4) = p2 at *
        generalize hG : greatB n 4 = G at HP2 eg
        clear hG
        generalize hW : w1.drewN m = W at *
        have HW := Lib.hid hW
        clear hW
        go_wp2_with fail
        go_quiet ((go_at_call 9; first | (with_reducible exact Calls.quiet_of (HP1.out _)) | (with_reducible exact Calls.quiet_of (HP2.out _))))
        go_wp2_with fail
        go_roundw
        case measure => simp [intOf]
        case rel => exact ⟨5, m + nq, by omega, rfl, by rw [HS2.out]; rfl, by rw [HT2.out]; rfl, by rw [← HW.out, World.drewN_drewN]⟩
      · have e0 := fun W => run_at6 b0 b1 b2 b3 b4 b5 5 (by omega) W
        simp only [List.getD_cons_zero, List.getD_cons_succ, Int.cast_ofNat_Int] at e0
        have j1 := fun W => run_sepA (txg 58 (fun _ => false) [b0, b1, b2, b3, b4, b5] 5) (by simp [txg, duog]) W
        have j2 := fun W => run_sepB (txg 45 (greatB n) [b0, b1, b2, b3, b4, b5] 5) (by simp [txg, duog]) W
        have j3 := fun W => run_join (txg 58 (fun _ => false) [b0, b1, b2, b3, b4, b5] 5 ++ [58]) (duog false b5) (by simp [txg, duog]) W
        have j4 := fun W => run_join (txg 45 (greatB n) [b0, b1, b2, b3, b4, b5] 5 ++ [45]) (duog (greatB n 5) b5) (by simp [txg, duog]) W
        have HP1 := Lib.hid fun W => lawPair_any b5 false W h.h5 h.g5
        have HP2 := Lib.hid fun W => lawPair_any b5 (greatB n 5) W h.h5 h.g5
        have eg : (bits .and .u8 (n / 32) 1 == 1) = greatB n 5 := by rw [and1 (n / 32) (by omega) (by omega)]; simp [greatB]
        obtain ⟨s2, hs2⟩ : ∃ x, x = strOf (txg 58 (fun _ => false) [b0, b1, b2, b3, b4, b5] 5 ++ [58] ++ duog false b5) := ⟨_, rfl⟩
        obtain ⟨t2, ht2⟩ : ∃ x, x = strOf (txg 45 (greatB n) [b0, b1, b2, b3, b4, b5] 5 ++ [45] ++ duog (greatB n 5) b5) := ⟨_, rfl⟩
        rw [← hs2] at j3
        rw [← ht2] at j4
        have HS2 := Lib.hid hs2
        have HT2 := Lib.hid ht2
        clear hs2 ht2
        generalize strOf (txg 58 (fun _ => false) [b0, b1, b2, b3, b4, b5] 5 ++ [58]) = s1 at j1 j3 ⊢
        generalize strOf (txg 45 (greatB n) [b0, b1, b2, b3, b4, b5] 5 ++ [45]) = t1 at j2 j4 ⊢
        generalize strOf (txg 58 (fun _ => false) [b0, b1, b2, b3, b4, b5] 5) = s0 at j1 ⊢
        generalize strOf (txg 45 (greatB n) [b0, b1, b2, b3, b4, b5] 5) = t0 at j2 ⊢
        generalize strOf (duog false b5) = p1 at *
        generalize strOf (duog (greatB n 5) b5) = p2 at *
        generalize hG : greatB n 5 = G at HP2 eg
        clear hG
        generalize hW : w1.drewN m = W at *
        have HW := Lib.hid hW
        clear hW
        go_wp2_with fail
        go_quiet ((go_at_call 9; first | (with_reducible exact Calls.quiet_of (HP1.out _)) | (with_reducible exact Calls.quiet_of (HP2.out _))))
        go_wp2_with fail
        go_roundw
        case measure => simp [intOf]
        case rel => exact ⟨6, m + nq, by omega, rfl, by rw [HS2.out]; rfl, by rw [HT2.out]; rfl, by rw [← HW.out, World.drewN_drewN]⟩
      · have HP1 := Lib.hid fun W => parse_txg 58 (fun _ => false) b0 b1 b2 b3 b4 b5 W (by omega) h
        have HP2 := Lib.hid fun W => parse_txg 45 (greatB n) b0 b1 b2 b3 b4 b5 W (by omega) h
        have HT := Lib.hid fun W => text_six b0 b1 b2 b3 b4 b5 W h
        have he := fun W => run_eq6 b0 b1 b2 b3 b4 b5 b0 b1 b2 b3 b4 b5 W
        rw [show eq6 b0 b1 b2 b3 b4 b5 b0 b1 b2 b3 b4 b5 = true by simp [eq6]] at he
        generalize strOf (txg 58 (fun _ => false) [b0, b1, b2, b3, b4, b5] 6) = s0 at HP1 HT ⊢
        generalize strOf (txg 45 (greatB n) [b0, b1, b2, b3, b4, b5] 6) = t0 at HP2 ⊢
        have HB1 := Lib.hid (bdrewN HB.out m)
        replace f0 : (w1.drewN m).cell? ⟨w.heap.size, 0, none⟩ = some (.int .u8 b0) := by go_simp
        replace f1 : (w1.drewN m).cell? ⟨w.heap.size, 1, none⟩ = some (.int .u8 b1) := by go_simp
        replace f2 : (w1.drewN m).cell? ⟨w.heap.size, 2, none⟩ = some (.int .u8 b2) := by go_simp
        replace f3 : (w1.drewN m).cell? ⟨w.heap.size, 3, none⟩ = some (.int .u8 b3) := by go_simp
        replace f4 : (w1.drewN m).cell? ⟨w.heap.size, 4, none⟩ = some (.int .u8 b4) := by go_simp
        replace f5 : (w1.drewN m).cell? ⟨w.heap.size, 5, none⟩ = some (.int .u8 b5) := by go_simp
        replace hz : w.heap.size < (w1.drewN m).heap.size := by go_simp
        generalize w1.drewN m = W at *
        go_wp2_with fail
        refine (HP1.out _).mono ?_
        rintro e w2 ⟨rfl, hb⟩
        have HB2 := Lib.hid (bthen HB1.out hb)
        obtain ⟨hc, hf⟩ := bcell hb
        have hz2 : w.heap.size < w2.heap.size := by have := hb.size; omega
        clear hb
        go_wp2_with fail
        refine (HP2.out _).mono ?_
        rintro e w3 ⟨rfl, hb⟩
        have HB3 := Lib.hid (bthen (bnew HB2.out _) hb)
        obtain ⟨hc3, hf3⟩ := bcell hb
        have hz3 : w2.heap.size < w3.heap.size := by have := hb.size; simp at this; omega
        have hz3' : w.heap.size < w3.heap.size := by omega
        have hy2 : w.heap.size < w2.heap.size + 1 := by omega
        clear hb
        go_wp2_with fail
        refine (HT.out _).mono ?_
        rintro e w4 ⟨rfl, hb⟩
        have HB4 := Lib.hid (bthen (bnew HB3.out _) hb)
        obtain ⟨hc4, hf4⟩ := bcell hb
        have hy3 : w2.heap.size < w3.heap.size + 1 := by omega
        have hy4 : w.heap.size < w3.heap.size + 1 := by omega
        clear hb
        go_wp2_with fail
        go_ret
        exact ⟨rfl, HB4.out⟩
end Go.Proofs.Ytncjleleeananaa
