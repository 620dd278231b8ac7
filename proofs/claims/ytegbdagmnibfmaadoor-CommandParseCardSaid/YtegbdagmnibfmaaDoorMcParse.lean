/-
  Contract of Parse (package mac): what it returns, for every text that a process can hold, and that nothing that was in memory has changed.
-/
import Derived.Test.YtegbdagmnibfmaaDoorMcPair
import Derived.Deep.OwnRows
namespace Go.Proofs.YtegbdagmnibfmaaDoor.Mc
open Go.RowKit

/-- The number of the pair at a place. -/
def mb (s : ByteArray) (i : Nat) : Int := digN (at_ s (3 * i)) * 16 + digN (at_ s (3 * i + 1))
/-- Whether the places ahead of k that want digits have them. -/
def DigTo (s : ByteArray) (k : Nat) : Prop := ∀ i, i < k → i % 3 < 2 → digB (at_ s i) = true
instance (s : ByteArray) (k : Nat) : Decidable (DigTo s k) := inferInstanceAs (Decidable (∀ i, i < k → i % 3 < 2 → digB (at_ s i) = true))
/-- Whether a text is a number's. -/
def okB (s : ByteArray) : Bool := decide (s.size = 17) && sepB s && decide (DigTo s 17)
/-- A number's value. -/
def macV (b0 b1 b2 b3 b4 b5 : Int) : Value := .agg #[.int .u8 b0, .int .u8 b1, .int .u8 b2, .int .u8 b3, .int .u8 b4, .int .u8 b5]
/-- What Parse returns. -/
def parseV (s : ByteArray) : Value := if okB s then .tuple #[macV (mb s 0) (mb s 1) (mb s 2) (mb s 3) (mb s 4) (mb s 5), .bool true] else .tuple #[macV 0 0 0 0 0 0, .bool false]

theorem parseV_no {s : ByteArray} (h : okB s = false) : parseV s = .tuple #[.agg #[.int .u8 0, .int .u8 0, .int .u8 0, .int .u8 0, .int .u8 0, .int .u8 0], .bool false] := by simp [parseV, h, macV]
theorem parseV_yes {s : ByteArray} (h : okB s = true) : parseV s = .tuple #[.agg #[.int .u8 (mb s 0), .int .u8 (mb s 1), .int .u8 (mb s 2), .int .u8 (mb s 3), .int .u8 (mb s 4), .int .u8 (mb s 5)], .bool true] := by simp [parseV, h, macV]

theorem parse_len (s : ByteArray) (w : World) (hs : s.size ≠ 17) :
    Calls Tryd.prog 31 #[.string s] w fun e w' => e = .returned (.tuple #[.agg #[.int .u8 0, .int .u8 0, .int .u8 0, .int .u8 0, .int .u8 0, .int .u8 0], .bool false]) ∧ Below w.heap.size w w' := by
  have t1 : ((s.size : Int) != 17) = true := by simp; omega
  clear hs
  go_enter Tryd.func31, Tryd.ntmps31
  go_wp2
  exact bodyPost_ret (v := .tuple #[.agg #[.int .u8 0, .int .u8 0, .int .u8 0, .int .u8 0, .int .u8 0, .int .u8 0], .bool false]) (by simp [results, Tryd.results31, go_sem]) rfl ⟨rfl, ((Below.refl _ _).alloc (Nat.le_refl _) _).alloc (by simp) _⟩
theorem parse_sep (s : ByteArray) (w : World) (hs : s.size = 17) (h : sepB s = false) :
    Calls Tryd.prog 31 #[.string s] w fun e w' => e = .returned (.tuple #[.agg #[.int .u8 0, .int .u8 0, .int .u8 0, .int .u8 0, .int .u8 0, .int .u8 0], .bool false]) ∧ Below w.heap.size w w' := by
  have t1 : ((s.size : Int) != 17) = false := by rw [hs]; rfl
  have HS := Lib.hid fun W => separated_any s W hs
  rw [h] at HS
  clear hs h
  go_enter Tryd.func31, Tryd.ntmps31
  go_wp2_with fail
  refine (HS.out _).mono ?_
  rintro e w1 ⟨rfl, rfl⟩
  go_wp2_with fail
  exact bodyPost_ret (v := .tuple #[.agg #[.int .u8 0, .int .u8 0, .int .u8 0, .int .u8 0, .int .u8 0, .int .u8 0], .bool false]) (by simp [results, Tryd.results31, go_sem]) rfl ⟨rfl, ((Below.refl _ _).alloc (Nat.le_refl _) _).alloc (by simp) _⟩

/-- The cells of the number that Parse makes, behind k rounds. -/
def arrF (s : ByteArray) (k : Nat) (i : Nat) : Value := .int .u8 (if i < k then mb s i else 0)
theorem pair_at (s : ByteArray) (k a b : Nat) (ha : a < s.size) (hb : b < s.size) (e1 : a = 3 * k) (e2 : b = 3 * k + 1) (w : World) :
    Calls Tryd.prog 46 #[.int .u8 (s[a].toNat : Int), .int .u8 (s[b].toNat : Int)] w fun e w' => e = .returned (.tuple #[.int .u8 (mb s k), .bool (digB (at_ s a) && digB (at_ s b))]) ∧ w' = w := by
  have h := pair_any (at_ s a) (at_ s b) w (at_bd _ _).1 (at_bd _ _).2 (at_bd _ _).1 (at_bd _ _).2
  rw [at_get s a ha, at_get s b hb]
  refine h.mono fun e w' hh => ?_
  obtain ⟨rfl, rfl⟩ := hh
  subst e1 e2
  exact ⟨rfl, rfl⟩
theorem DigTo.step {s : ByteArray} {k : Nat} (h : DigTo s (3 * k)) (hk : (digB (at_ s (3 * k)) && digB (at_ s (3 * k + 1))) = true) : DigTo s (3 * (k + 1)) := by
  intro i hi hm'
  rw [Bool.and_eq_true] at hk
  by_cases e : i < 3 * k
  · exact h i e hm'
  · rcases (show i = 3 * k ∨ i = 3 * k + 1 by omega) with e | e
    · rw [e]; exact hk.1
    · rw [e]; exact hk.2
theorem ok_no {s : ByteArray} (k : Nat) (hk : k < 6) (h : (digB (at_ s (3 * k)) && digB (at_ s (3 * k + 1))) = false) : okB s = false := by
  unfold okB
  rw [show decide (DigTo s 17) = false from ?_, Bool.and_false]
  rw [decide_eq_false_iff_not]
  intro hd
  rw [hd (3 * k) (by omega) (by omega), hd (3 * k + 1) (by omega) (by omega)] at h
  cases h
theorem arr_set {s : ByteArray} {w : World} {b k : Nat} (h : w.rowIs b 32 6 (arrF s k)) : (w.setCell ⟨b, k, none⟩ (.int .u8 (mb s k))).rowIs b 32 6 (arrF s (k + 1)) := by
  refine (h.set k (.int .u8 (mb s k))).congr fun i hi => ?_
  unfold arrF
  by_cases e : i = k
  · subst e; simp
  · rw [if_neg e]
    by_cases g : i < k
    · rw [if_pos g, if_pos (by omega)]
    · rw [if_neg g, if_neg (by omega)]

set_option maxHeartbeats 2000000 in
theorem parse_loop (s : ByteArray) (w : World) (hs : s.size = 17) (h : sepB s = true) :
    Calls Tryd.prog 31 #[.string s] w fun e w' => e = .returned (parseV s) ∧ Below w.heap.size w w' := by
  have t1 : ((s.size : Int) != 17) = false := by rw [hs]; rfl
  have HS := Lib.hid fun W => separated_any s W hs
  have hs1 : s.size ≤ 17 := by omega
  have hs2 : 17 ≤ s.size := by omega
  have HY := Lib.hid (show DigTo s (3 * 6) → okB s = true from fun hd => by
    unfold okB; rw [h, hs, decide_eq_true (show DigTo s 17 from fun i hi => hd i (by omega))]; rfl)
  rw [h] at HS
  clear hs h
  go_enter Tryd.func31, Tryd.ntmps31
  go_wp2_with fail
  refine (HS.out _).mono ?_
  rintro e w1 ⟨rfl, rfl⟩
  go_wp2_with fail
  go_loopw [18] (fun i wr => ∃ k : Nat, k ≤ 6 ∧ i = .int .i64 k ∧ wr.rowIs w.heap.size 32 6 (fun _ => .int .u8 0) ∧ wr.rowIs (w.heap.size + 1) 32 6 (arrF s k) ∧ Below w.heap.size w wr ∧ DigTo s (3 * k)) (fun i _ => 6 - (intOf i).toNat)
  case atStart =>
    refine ⟨0, by omega, rfl, (World.rowIs_alloc _ _ _ _ ?_).alloc _, ?_, ((Below.refl _ _).alloc (Nat.le_refl _) _).alloc (by simp) _, fun i hi => by omega⟩
    · intro i hi; rcases (show i = 0 ∨ i = 1 ∨ i = 2 ∨ i = 3 ∨ i = 4 ∨ i = 5 by simp at hi; omega) with rfl | rfl | rfl | rfl | rfl | rfl <;> rfl
    · have h := World.rowIs_alloc (w.alloc (.cells #[.int .u8 0, .int .u8 0, .int .u8 0, .int .u8 0, .int .u8 0, .int .u8 0] 32)) #[.int .u8 0, .int .u8 0, .int .u8 0, .int .u8 0, .int .u8 0, .int .u8 0] 32 (arrF s 0) (by
        intro i hi; rcases (show i = 0 ∨ i = 1 ∨ i = 2 ∨ i = 3 ∨ i = 4 ∨ i = 5 by simp at hi; omega) with rfl | rfl | rfl | rfl | rfl | rfl <;> rfl)
      simpa using h
  case round =>
    obtain ⟨k, hk, rfl, hR, hM, hB, hD⟩ := hrel
    have r0 := hR.cell (i := 0) (by omega)
    have r1 := hR.cell (i := 1) (by omega)
    have r2 := hR.cell (i := 2) (by omega)
    have r3 := hR.cell (i := 3) (by omega)
    have r4 := hR.cell (i := 4) (by omega)
    have r5 := hR.cell (i := 5) (by omega)
    have f0 := hR.frozen 0
    have f1 := hR.frozen 1
    have f2 := hR.frozen 2
    have f3 := hR.frozen 3
    have f4 := hR.frozen 4
    have f5 := hR.frozen 5
    have HR := Lib.hid hR
    have HM := Lib.hid hM
    have HB := Lib.hid hB
    have HD := Lib.hid hD
    clear hR hM hB hD
    rcases (show k = 0 ∨ k = 1 ∨ k = 2 ∨ k = 3 ∨ k = 4 ∨ k = 5 ∨ k = 6 by omega) with rfl | rfl | rfl | rfl | rfl | rfl | rfl
    · have ha : 0 < s.size := by omega
      have hb : 1 < s.size := by omega
      have c := HM.out.cell (i := 0) (by omega)
      have f := HM.out.frozen 0
      have hai : (0 : Int) < (s.size : Int) := by omega
      have hbi : (1 : Int) < (s.size : Int) := by omega
      have e1 : IntKind.i64.wrap 0 = 0 := rfl
      have e2 : IntKind.i64.wrap 1 = 1 := rfl
      have HP := Lib.hid fun W => pair_at s 0 0 1 ha hb rfl rfl W
      by_cases hd : (digB (at_ s 0) && digB (at_ s 1)) = true
      · rw [hd] at HP
        have HE := Lib.hid hd
        clear hd
        go_wp2_with fail
        go_quiet ((go_at_call 46; exact Calls.quiet_of_same (HP.out _)))
        go_wp2_with fail
        go_roundw
        case rel => exact ⟨1, by omega, rfl, (HR.out.setOther (by simp) _), arr_set (k := 0) HM.out, (bdrewN HB.out _).setCell (by simp) _, HD.out.step HE.out⟩
        case measure => simp [intOf]
      · have HE := Lib.hid (ok_no (s := s) 0 (by omega) (by simpa using hd))
        rw [show (digB (at_ s 0) && digB (at_ s 1)) = false by simpa using hd] at HP
        clear hd
        go_wp2_with fail
        go_quiet ((go_at_call 46; exact Calls.quiet_of_same (HP.out _)))
        go_wp2_with fail
        rw [parseV_no HE.out]
        exact bodyPost_ret (v := .tuple #[.agg #[.int .u8 0, .int .u8 0, .int .u8 0, .int .u8 0, .int .u8 0, .int .u8 0], .bool false]) (by simp [results, Tryd.results31, go_sem, r0, r1, r2, r3, r4, r5]) rfl ⟨rfl, ((((((bdrewN HB.out _).setCell (Nat.le_refl _) _).setCell (Nat.le_refl _) _).setCell (Nat.le_refl _) _).setCell (Nat.le_refl _) _).setCell (Nat.le_refl _) _).setCell (Nat.le_refl _) _⟩
    · have ha : 3 < s.size := by omega
      have hb : 4 < s.size := by omega
      have c := HM.out.cell (i := 1) (by omega)
      have f := HM.out.frozen 1
      have hai : (3 : Int) < (s.size : Int) := by omega
      have hbi : (4 : Int) < (s.size : Int) := by omega
      have e1 : IntKind.i64.wrap 3 = 3 := rfl
      have e2 : IntKind.i64.wrap 4 = 4 := rfl
      have HP := Lib.hid fun W => pair_at s 1 3 4 ha hb rfl rfl W
      by_cases hd : (digB (at_ s 3) && digB (at_ s 4)) = true
      · rw [hd] at HP
        have HE := Lib.hid hd
        clear hd
        go_wp2_with fail
        go_quiet ((go_at_call 46; exact Calls.quiet_of_same (HP.out _)))
        go_wp2_with fail
        go_roundw
        case rel => exact ⟨2, by omega, rfl, (HR.out.setOther (by simp) _), arr_set (k := 1) HM.out, (bdrewN HB.out _).setCell (by simp) _, HD.out.step HE.out⟩
        case measure => simp [intOf]
      · have HE := Lib.hid (ok_no (s := s) 1 (by omega) (by simpa using hd))
        rw [show (digB (at_ s 3) && digB (at_ s 4)) = false by simpa using hd] at HP
        clear hd
        go_wp2_with fail
        go_quiet ((go_at_call 46; exact Calls.quiet_of_same (HP.out _)))
        go_wp2_with fail
        rw [parseV_no HE.out]
        exact bodyPost_ret (v := .tuple #[.agg #[.int .u8 0, .int .u8 0, .int .u8 0, .int .u8 0, .int .u8 0, .int .u8 0], .bool false]) (by simp [results, Tryd.results31, go_sem, r0, r1, r2, r3, r4, r5]) rfl ⟨rfl, ((((((bdrewN HB.out _).setCell (Nat.le_refl _) _).setCell (Nat.le_refl _) _).setCell (Nat.le_refl _) _).setCell (Nat.le_refl _) _).setCell (Nat.le_refl _) _).setCell (Nat.le_refl _) _⟩
    · have ha : 6 < s.size := by omega
      have hb : 7 < s.size := by omega
      have c := HM.out.cell (i := 2) (by omega)
      have f := HM.out.frozen 2
      have hai : (6 : Int) < (s.size : Int) := by omega
      have hbi : (7 : Int) < (s.size : Int) := by omega
      have e1 : IntKind.i64.wrap 6 = 6 := rfl
      have e2 : IntKind.i64.wrap 7 = 7 := rfl
      have HP := Lib.hid fun W => pair_at s 2 6 7 ha hb rfl rfl W
      by_cases hd : (digB (at_ s 6) && digB (at_ s 7)) = true
      · rw [hd] at HP
        have HE := Lib.hid hd
        clear hd
        go_wp2_with fail
        go_quiet ((go_at_call 46; exact Calls.quiet_of_same (HP.out _)))
        go_wp2_with fail
        go_roundw
        case rel => exact ⟨3, by omega, rfl, (HR.out.setOther (by simp) _), arr_set (k := 2) HM.out, (bdrewN HB.out _).setCell (by simp) _, HD.out.step HE.out⟩
        case measure => simp [intOf]
      · have HE := Lib.hid (ok_no (s := s) 2 (by omega) (by simpa using hd))
        rw [show (digB (at_ s 6) && digB (at_ s 7)) = false by simpa using hd] at HP
        clear hd
        go_wp2_with fail
        go_quiet ((go_at_call 46; exact Calls.quiet_of_same (HP.out _)))
        go_wp2_with fail
        rw [parseV_no HE.out]
        exact bodyPost_ret (v := .tuple #[.agg #[.int .u8 0, .int .u8 0, .int .u8 0, .int .u8 0, .int .u8 0, .int .u8 0], .bool false]) (by simp [results, Tryd.results31, go_sem, r0, r1, r2, r3, r4, r5]) rfl ⟨rfl, ((((((bdrewN HB.out _).setCell (Nat.le_refl _) _).setCell (Nat.le_refl _) _).setCell (Nat.le_refl _) _).setCell (Nat.le_refl _) _).setCell (Nat.le_refl _) _).setCell (Nat.le_refl _) _⟩
    · have ha : 9 < s.size := by omega
      have hb : 10 < s.size := by omega
      have c := HM.out.cell (i := 3) (by omega)
      have f := HM.out.frozen 3
      have hai : (9 : Int) < (s.size : Int) := by omega
      have hbi : (10 : Int) < (s.size : Int) := by omega
      have e1 : IntKind.i64.wrap 9 = 9 := rfl
      have e2 : IntKind.i64.wrap 10 = 10 := rfl
      have HP := Lib.hid fun W => pair_at s 3 9 10 ha hb rfl rfl W
      by_cases hd : (digB (at_ s 9) && digB (at_ s 10)) = true
      · rw [hd] at HP
        have HE := Lib.hid hd
        clear hd
        go_wp2_with fail
        go_quiet ((go_at_call 46; exact Calls.quiet_of_same (HP.out _)))
        go_wp2_with fail
        go_roundw
        case rel => exact ⟨4, by omega, rfl, (HR.out.setOther (by simp) _), arr_set (k := 3) HM.out, (bdrewN HB.out _).setCell (by simp) _, HD.out.step HE.out⟩
        case measure => simp [intOf]
      · have HE := Lib.hid (ok_no (s := s) 3 (by omega) (by simpa using hd))
        rw [show (digB (at_ s 9) && digB (at_ s 10)) = false by simpa using hd] at HP
        clear hd
        go_wp2_with fail
        go_quiet ((go_at_call 46; exact Calls.quiet_of_same (HP.out _)))
        go_wp2_with fail
        rw [parseV_no HE.out]
        exact bodyPost_ret (v := .tuple #[.agg #[.int .u8 0, .int .u8 0, .int .u8 0, .int .u8 0, .int .u8 0, .int .u8 0], .bool false]) (by simp [results, Tryd.results31, go_sem, r0, r1, r2, r3, r4, r5]) rfl ⟨rfl, ((((((bdrewN HB.out _).setCell (Nat.le_refl _) _).setCell (Nat.le_refl _) _).setCell (Nat.le_refl _) _).setCell (Nat.le_refl _) _).setCell (Nat.le_refl _) _).setCell (Nat.le_refl _) _⟩
    · have ha : 12 < s.size := by omega
      have hb : 13 < s.size := by omega
      have c := HM.out.cell (i := 4) (by omega)
      have f := HM.out.frozen 4
      have hai : (12 : Int) < (s.size : Int) := by omega
      have hbi : (13 : Int) < (s.size : Int) := by omega
      have e1 : IntKind.i64.wrap 12 = 12 := rfl
      have e2 : IntKind.i64.wrap 13 = 13 := rfl
      have HP := Lib.hid fun W => pair_at s 4 12 13 ha hb rfl rfl W
      by_cases hd : (digB (at_ s 12) && digB (at_ s 13)) = true
      · rw [hd] at HP
        have HE := Lib.hid hd
        clear hd
        go_wp2_with fail
        go_quiet ((go_at_call 46; exact Calls.quiet_of_same (HP.out _)))
        go_wp2_with fail
        go_roundw
        case rel => exact ⟨5, by omega, rfl, (HR.out.setOther (by simp) _), arr_set (k := 4) HM.out, (bdrewN HB.out _).setCell (by simp) _, HD.out.step HE.out⟩
        case measure => simp [intOf]
      · have HE := Lib.hid (ok_no (s := s) 4 (by omega) (by simpa using hd))
        rw [show (digB (at_ s 12) && digB (at_ s 13)) = false by simpa using hd] at HP
        clear hd
        go_wp2_with fail
        go_quiet ((go_at_call 46; exact Calls.quiet_of_same (HP.out _)))
        go_wp2_with fail
        rw [parseV_no HE.out]
        exact bodyPost_ret (v := .tuple #[.agg #[.int .u8 0, .int .u8 0, .int .u8 0, .int .u8 0, .int .u8 0, .int .u8 0], .bool false]) (by simp [results, Tryd.results31, go_sem, r0, r1, r2, r3, r4, r5]) rfl ⟨rfl, ((((((bdrewN HB.out _).setCell (Nat.le_refl _) _).setCell (Nat.le_refl _) _).setCell (Nat.le_refl _) _).setCell (Nat.le_refl _) _).setCell (Nat.le_refl _) _).setCell (Nat.le_refl _) _⟩
    · have ha : 15 < s.size := by omega
      have hb : 16 < s.size := by omega
      have c := HM.out.cell (i := 5) (by omega)
      have f := HM.out.frozen 5
      have hai : (15 : Int) < (s.size : Int) := by omega
      have hbi : (16 : Int) < (s.size : Int) := by omega
      have e1 : IntKind.i64.wrap 15 = 15 := rfl
      have e2 : IntKind.i64.wrap 16 = 16 := rfl
      have HP := Lib.hid fun W => pair_at s 5 15 16 ha hb rfl rfl W
      by_cases hd : (digB (at_ s 15) && digB (at_ s 16)) = true
      · rw [hd] at HP
        have HE := Lib.hid hd
        clear hd
        go_wp2_with fail
        go_quiet ((go_at_call 46; exact Calls.quiet_of_same (HP.out _)))
        go_wp2_with fail
        go_roundw
        case rel => exact ⟨6, by omega, rfl, (HR.out.setOther (by simp) _), arr_set (k := 5) HM.out, (bdrewN HB.out _).setCell (by simp) _, HD.out.step HE.out⟩
        case measure => simp [intOf]
      · have HE := Lib.hid (ok_no (s := s) 5 (by omega) (by simpa using hd))
        rw [show (digB (at_ s 15) && digB (at_ s 16)) = false by simpa using hd] at HP
        clear hd
        go_wp2_with fail
        go_quiet ((go_at_call 46; exact Calls.quiet_of_same (HP.out _)))
        go_wp2_with fail
        rw [parseV_no HE.out]
        exact bodyPost_ret (v := .tuple #[.agg #[.int .u8 0, .int .u8 0, .int .u8 0, .int .u8 0, .int .u8 0, .int .u8 0], .bool false]) (by simp [results, Tryd.results31, go_sem, r0, r1, r2, r3, r4, r5]) rfl ⟨rfl, ((((((bdrewN HB.out _).setCell (Nat.le_refl _) _).setCell (Nat.le_refl _) _).setCell (Nat.le_refl _) _).setCell (Nat.le_refl _) _).setCell (Nat.le_refl _) _).setCell (Nat.le_refl _) _⟩
    · have HE := Lib.hid (HY.out HD.out)
      have m0 := HM.out.cell (i := 0) (by omega)
      have m1 := HM.out.cell (i := 1) (by omega)
      have m2 := HM.out.cell (i := 2) (by omega)
      have m3 := HM.out.cell (i := 3) (by omega)
      have m4 := HM.out.cell (i := 4) (by omega)
      have m5 := HM.out.cell (i := 5) (by omega)
      rw [show arrF s 6 0 = .int .u8 (mb s 0) from rfl] at m0
      rw [show arrF s 6 1 = .int .u8 (mb s 1) from rfl] at m1
      rw [show arrF s 6 2 = .int .u8 (mb s 2) from rfl] at m2
      rw [show arrF s 6 3 = .int .u8 (mb s 3) from rfl] at m3
      rw [show arrF s 6 4 = .int .u8 (mb s 4) from rfl] at m4
      rw [show arrF s 6 5 = .int .u8 (mb s 5) from rfl] at m5
      go_wp2_with fail
      rw [parseV_yes HE.out]
      exact bodyPost_ret (v := .tuple #[.agg #[.int .u8 (mb s 0), .int .u8 (mb s 1), .int .u8 (mb s 2), .int .u8 (mb s 3), .int .u8 (mb s 4), .int .u8 (mb s 5)], .bool true]) (by simp [results, Tryd.results31, go_sem, r0, r1, r2, r3, r4, r5]) rfl ⟨rfl, (((((HB.out.setCell (Nat.le_refl _) _).setCell (Nat.le_refl _) _).setCell (Nat.le_refl _) _).setCell (Nat.le_refl _) _).setCell (Nat.le_refl _) _).setCell (Nat.le_refl _) _⟩

theorem parse_any (s : ByteArray) (w : World) :
    Calls Tryd.prog 31 #[.string s] w fun e w' => e = .returned (parseV s) ∧ Below w.heap.size w w' := by
  by_cases hs : s.size = 17
  · by_cases h : sepB s = true
    · exact parse_loop s w hs h
    · have h' : sepB s = false := by simpa using h
      rw [parseV_no (show okB s = false by simp [okB, h'])]
      exact parse_sep s w hs h'
  · rw [parseV_no (show okB s = false by simp [okB, hs])]
    exact parse_len s w hs
theorem parse_no (s : ByteArray) (w : World) (h : okB s = false) :
    Calls Tryd.prog 31 #[.string s] w fun e w' => e = .returned (.tuple #[.agg #[.int .u8 0, .int .u8 0, .int .u8 0, .int .u8 0, .int .u8 0, .int .u8 0], .bool false]) ∧ Below w.heap.size w w' := by
  have := parse_any s w; rwa [parseV_no h] at this
theorem parse_yes (s : ByteArray) (w : World) (h : okB s = true) :
    Calls Tryd.prog 31 #[.string s] w fun e w' => e = .returned (.tuple #[.agg #[.int .u8 (mb s 0), .int .u8 (mb s 1), .int .u8 (mb s 2), .int .u8 (mb s 3), .int .u8 (mb s 4), .int .u8 (mb s 5)], .bool true]) ∧ Below w.heap.size w w' := by
  have := parse_any s w; rwa [parseV_yes h] at this
end Go.Proofs.YtegbdagmnibfmaaDoor.Mc
