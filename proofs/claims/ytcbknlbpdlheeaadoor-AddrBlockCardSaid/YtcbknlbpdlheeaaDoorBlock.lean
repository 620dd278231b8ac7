/-
  The walks of AddrBlock where the number of bits is from 0 to 32. Conditions: those that each theorem names; the library's table of powers of ten lies as its text lays it.
-/
import Derived.Test.YtcbknlbpdlheeaaDoorHas
import Derived.Test.YtcbknlbpdlheeaaDoorBlockText
namespace Go.Proofs.YtcbknlbpdlheeaaDoor
open Go.RowKit

theorem dig_24 : dig 24 = [50, 52] := (numO_back (most := 32) (by decide)).symm

theorem pbl_at (s : ByteArray) (l : List UInt8) (v : Option (Int × Int)) (w : World) (hl : s.data.toList = l) (hs : l.length ≤ 1000) (hv : pblO l = v) :
    Calls Tryd.prog 19 #[.string s] w fun e w' => e = .returned (pblV v) ∧ Below w.heap.size w w' := by
  have := parseBlock_any s w (by rw [Lib.size_eq, hl]; unfold maxLen; omega)
  rwa [hl, hv] at this

theorem text24 (R : Int) : (⟨(textL R ++ 47 :: dig 24).toArray⟩ : ByteArray) = ⟨(textL R).toArray⟩ ++ ⟨#[47, 50, 52]⟩ := by
  rw [dig_24, show (⟨#[47, 50, 52]⟩ : ByteArray) = ⟨[47, 50, 52].toArray⟩ from rfl, cat]

theorem set1 {B k : Nat} {w w1 : World} (h : Below B w w1) (hk : B ≤ k) (v : Value) : Below B w (w1.setCell ⟨k, 1, none⟩ v) := h.setCell (p := ⟨k, 1, none⟩) hk v

theorem rightL_eq2 (a b : Int) (t : Bool) (w : World) (ha0 : 0 ≤ a) (ha1 : a < 4294967296) (h : okB a b = t) :
    Calls Tryd.prog 17 #[.agg #[.int .u32 a, .int .i64 b]] w fun e w' => e = .returned (.bool t) ∧ Below w.heap.size w w' := by
  have := rightL_any a b w ha0 ha1; rwa [h] at this

set_option maxHeartbeats 4000000 in
set_option maxRecDepth 100000 in
theorem block_v_n_n (a m R n : Int) (s : ByteArray) (w : World) (_a0 : 0 ≤ a) (_a1 : a < 4294967296) (_m0 : -128 ≤ m) (_m1 : m ≤ 127) (R0 : 0 ≤ R) (R1 : R < 4294967296) (q0 : 0 ≤ m) (q1 : m ≤ 32) (q24 : okB R 24 = false) (hs : s.size ≤ maxLen) (qs : pblO s.data.toList = none) (ht : Tab w) :
    Calls Tryd.prog 5 #[.int .u32 a, .int .i8 m, .agg #[.int .u32 R, .int .i64 n], .string s] w fun e w' => e = .returned (.bool true) ∧ Below w.heap.size w w' := by
  have HT := Lib.hid (ht.below ((Below.refl _ w).alloc (Nat.le_refl _) (.cells #[.int .u32 R, .int .i64 n] 36)))
  have HR := Lib.hid (ht)
  clear ht
  have HX := Lib.hid fun W => textL_any R W R0 R1
  have d1 := textL_len R R1
  have HBT := Lib.hid fun W (h : Tab W) => blockText_any R 24 W R0 R1 (by decide) (by decide) h
  rw [text24] at HBT
  have hTL : ∃ l, l = textL R := ⟨_, rfl⟩
  obtain ⟨l, hl⟩ := hTL
  rw [← hl] at HX d1 HBT
  have HL := Lib.hid hl
  clear hl
  have HPT := Lib.hid (show pblO (l ++ [47, 50, 52]) = none by have := pbl_text R 24 R0 R1 (by decide) (by decide); rw [if_neg (by rw [q24]; decide), dig_24, ← HL.out] at this; exact this)
  have H24 := Lib.hid fun W => rightL_eq2 R 24 false W R0 R1 q24
  have HPS := Lib.hid fun W => parseBlock_any s W hs
  rw [qs] at HPS
  clear qs q24
  have HM := Lib.hid fun W => make_yes a m W _a0 _a1 q0 q1
  obtain ⟨hl0, hl1⟩ := made_lo a m _a0
  have H17 := Lib.hid fun W => rightL_eq2 (a - a % p2 m) m true W hl0 (by omega) (made_ok a m q0 q1)
  have H18 := Lib.hid fun W => has_eq (a - a % p2 m) m a true W hl0 (by omega) _a0 _a1 (by rw [hasB, made_ok a m q0 q1]; simp)
  generalize a - a % p2 m = B at *
  go_enter Tryd.func5, Tryd.ntmps5
  go_wp2_with fail
  refine (awake_any _ HT.out).mono ?_
  rintro e w1 ⟨rfl, hb1⟩
  have HB1 := Lib.hid (((Below.refl _ w).alloc (Nat.le_refl _) _).trans (hb1.mono (by simp)))
  obtain ⟨hc1, hf1⟩ := bcell hb1
  have z1 : w.heap.size < w1.heap.size := by have := hb1.size; simp at this; omega
  clear hb1
  go_wp2_with fail
  refine (HM.out _).mono ?_
  rintro e w2 ⟨rfl, hb2⟩
  have HB2 := Lib.hid (HB1.out.trans (hb2.mono HB1.out.size))
  obtain ⟨hc2, hf2⟩ := bcell hb2
  have z2 : w.heap.size < w2.heap.size := by have := hb2.size; omega
  have z2' : w.heap.size < w2.heap.size + 1 := by omega
  clear hb2
  go_wp2_with fail
  have HB3 := Lib.hid (HB2.out.alloc HB2.out.size (.cells #[.int .u32 B, .int .i64 m] 36))
  have f60 : (w2.alloc (.cells #[.int .u32 B, .int .i64 m] 36)).cell? ⟨w.heap.size, 0, none⟩ = some (.int .u32 R) := by go_simp
  have f61 : (w2.alloc (.cells #[.int .u32 B, .int .i64 m] 36)).cell? ⟨w.heap.size, 1, none⟩ = some (.int .i64 n) := by go_simp
  have e61 : (w2.alloc (.cells #[.int .u32 B, .int .i64 m] 36)).frozen? ⟨w.heap.size, 1, none⟩ = false := by go_simp
  have f90 : (w2.alloc (.cells #[.int .u32 B, .int .i64 m] 36)).cell? ⟨w2.heap.size, 0, none⟩ = some (.int .u32 B) := by go_simp
  have f91 : (w2.alloc (.cells #[.int .u32 B, .int .i64 m] 36)).cell? ⟨w2.heap.size, 1, none⟩ = some (.int .i64 m) := by go_simp
  have y3 : w.heap.size < (w2.alloc (.cells #[.int .u32 B, .int .i64 m] 36)).heap.size := by simp; omega
  have y3' : w2.heap.size < (w2.alloc (.cells #[.int .u32 B, .int .i64 m] 36)).heap.size := by simp
  clear hc1 hf1 hc2 hf2
  generalize w2.alloc (.cells #[.int .u32 B, .int .i64 m] 36) = W3 at *
  have g60 := cell_regrown f60
  have g61 := cell_regrown f61
  have g90 := cell_regrown f90
  have g91 := cell_regrown f91
  have CR := Lib.hid fun (d : Nat) (os : Array Obj) => Calls.regrown_of (right_any R n (Sort.grow (redrawn W3 d) os) R0 R1)
  have CL := Lib.hid fun (d : Nat) (os : Array Obj) => Calls.regrown_of (rightL_any R n (Sort.grow (redrawn W3 d) os) R0 R1)
  refine wp_region_quiet_below (by kernel_rfl) (by kernel_rfl) ?_
  repeat (go_big_quiet_step (first | (go_at_call 16; exact CR.out _ _) | (go_at_call 17; exact CL.out _ _)))
  refine wpQuiet_nil ?_
  intro _ hw'
  obtain ⟨⟨dq, osq⟩, hw''⟩ := hw'
  subst hw''
  have hbq := below_regrown W3 dq osq
  have HB4 := Lib.hid (HB3.out.trans (hbq.mono HB3.out.size))
  have y4 : w.heap.size < (Sort.grow (redrawn W3 dq) osq).heap.size := Nat.lt_of_lt_of_le y3 hbq.size
  have y4' : w2.heap.size < (Sort.grow (redrawn W3 dq) osq).heap.size := Nat.lt_of_lt_of_le y3' hbq.size
  have k60 := g60 dq osq
  have k61 := g61 dq osq
  have k90 := g90 dq osq
  have k91 := g91 dq osq
  have j61 : (Sort.grow (redrawn W3 dq) osq).frozen? ⟨w.heap.size, 1, none⟩ = false := by rw [hbq.frozen (p := ⟨w.heap.size, 1, none⟩) y3]; exact e61
  clear g60 g61 g90 g91 f60 f61 f90 f91 e61 hbq CR CL
  generalize Sort.grow (redrawn W3 dq) osq = W4 at *
  go_wp2_with fail
  refine (H17.out _).mono ?_
  rintro e w5 ⟨rfl, hb5⟩
  have HB5 := Lib.hid (HB4.out.trans (hb5.mono HB4.out.size))
  obtain ⟨hc5, hf5⟩ := bcell hb5
  have y5 : w.heap.size < w5.heap.size := by have := hb5.size; omega
  have y5' : w2.heap.size < w5.heap.size := by have := hb5.size; omega
  clear hb5
  go_wp2_with fail
  refine (H18.out _).mono ?_
  rintro e w6 ⟨rfl, hb6⟩
  have HB6 := Lib.hid (HB5.out.trans (hb6.mono HB5.out.size))
  have k60 : w6.cell? ⟨w.heap.size, 0, none⟩ = some (.int .u32 R) := by rw [hb6.cell (p := ⟨w.heap.size, 0, none⟩) y5, hc5 _ _ y4]; exact k60
  have k61 : w6.cell? ⟨w.heap.size, 1, none⟩ = some (.int .i64 n) := by rw [hb6.cell (p := ⟨w.heap.size, 1, none⟩) y5, hc5 _ _ y4]; exact k61
  have j61 : w6.frozen? ⟨w.heap.size, 1, none⟩ = false := by rw [hb6.frozen (p := ⟨w.heap.size, 1, none⟩) y5, hf5 _ _ y4]; exact j61
  have y6 : w.heap.size < w6.heap.size := by have := hb6.size; omega
  clear hb6 hc5 hf5
  go_wp2_with fail
  refine (HX.out _).mono ?_
  rintro e w7 ⟨rfl, hb7⟩
  have HB7 := Lib.hid (HB6.out.trans (hb7.mono HB6.out.size))
  have q60 : w7.cell? ⟨w.heap.size, 0, none⟩ = some (.int .u32 R) := by rw [hb7.cell (p := ⟨w.heap.size, 0, none⟩) y6]; exact k60
  have q61 : w7.cell? ⟨w.heap.size, 1, none⟩ = some (.int .i64 n) := by rw [hb7.cell (p := ⟨w.heap.size, 1, none⟩) y6]; exact k61
  have r61 : w7.frozen? ⟨w.heap.size, 1, none⟩ = false := by rw [hb7.frozen (p := ⟨w.heap.size, 1, none⟩) y6]; exact j61
  have y7 : w.heap.size < w7.heap.size := by have := hb7.size; omega
  clear hb7 k60 k61 j61
  go_wp2_with fail
  have HB8 := Lib.hid (set1 HB7.out (Nat.le_refl _) (.int .i64 24))
  have s60 : (w7.setCell ⟨w.heap.size, 1, none⟩ (.int .i64 24)).cell? ⟨w.heap.size, 0, none⟩ = some (.int .u32 R) := by go_simp
  have s61 : (w7.setCell ⟨w.heap.size, 1, none⟩ (.int .i64 24)).cell? ⟨w.heap.size, 1, none⟩ = some (.int .i64 24) := by go_simp
  have y8 : w.heap.size < (w7.setCell ⟨w.heap.size, 1, none⟩ (.int .i64 24)).heap.size := by simp [World.setCell]; exact y7
  clear q60 q61 r61
  generalize w7.setCell ⟨w.heap.size, 1, none⟩ (.int .i64 24) = W8 at *
  refine (pbl_at _ (l ++ [47, 50, 52]) _ _ (by simp [ByteArray.data_append]) (by simp; omega) HPT.out).mono ?_
  rintro e w9 ⟨rfl, hb9⟩
  have HB9 := Lib.hid (HB8.out.trans (hb9.mono HB8.out.size))
  have t60 : w9.cell? ⟨w.heap.size, 0, none⟩ = some (.int .u32 R) := by rw [hb9.cell (p := ⟨w.heap.size, 0, none⟩) y8]; exact s60
  have t61 : w9.cell? ⟨w.heap.size, 1, none⟩ = some (.int .i64 24) := by rw [hb9.cell (p := ⟨w.heap.size, 1, none⟩) y8]; exact s61
  have y9 : w.heap.size < w9.heap.size := by have := hb9.size; omega
  clear hb9 s60 s61
  simp only [pblV]
  go_wp2_with fail
  refine (H24.out _).mono ?_
  rintro e w10 ⟨rfl, hb10⟩
  have HB10 := Lib.hid ((HB9.out.alloc HB9.out.size _).trans (hb10.mono (by have := HB9.out.size; simp; omega)))
  obtain ⟨hc10, hf10⟩ := bcell hb10
  have y10 : w.heap.size < w10.heap.size := by have := hb10.size; simp at this; omega
  have y10' : w9.heap.size < w10.heap.size := by have := hb10.size; simp at this; omega
  clear hb10
  go_wp2_with fail
  refine (HBT.out _ (HR.out.below HB10.out)).mono ?_
  rintro e w11 ⟨rfl, hb11⟩
  have HB11 := Lib.hid (HB10.out.trans (hb11.mono HB10.out.size))
  clear hb11 hc10 hf10
  go_wp2_with fail
  refine (HPS.out _).mono ?_
  rintro e w12 ⟨rfl, hb12⟩
  have HB12 := Lib.hid (HB11.out.trans (hb12.mono HB11.out.size))
  clear hb12
  simp only [pblV]
  go_wp2_with fail
  go_ret
  exact ⟨rfl, HB12.out.alloc HB12.out.size _⟩
set_option maxHeartbeats 4000000 in
set_option maxRecDepth 100000 in
theorem block_v_n_y (a m R n za zb : Int) (s : ByteArray) (w : World) (_a0 : 0 ≤ a) (_a1 : a < 4294967296) (_m0 : -128 ≤ m) (_m1 : m ≤ 127) (R0 : 0 ≤ R) (R1 : R < 4294967296) (q0 : 0 ≤ m) (q1 : m ≤ 32) (q24 : okB R 24 = false) (hs : s.size ≤ maxLen) (qs : pblO s.data.toList = some (za, zb)) (ht : Tab w) :
    Calls Tryd.prog 5 #[.int .u32 a, .int .i8 m, .agg #[.int .u32 R, .int .i64 n], .string s] w fun e w' => e = .returned (.bool true) ∧ Below w.heap.size w w' := by
  have HT := Lib.hid (ht.below ((Below.refl _ w).alloc (Nat.le_refl _) (.cells #[.int .u32 R, .int .i64 n] 36)))
  have HR := Lib.hid (ht)
  clear ht
  have HX := Lib.hid fun W => textL_any R W R0 R1
  have d1 := textL_len R R1
  have HBT := Lib.hid fun W (h : Tab W) => blockText_any R 24 W R0 R1 (by decide) (by decide) h
  rw [text24] at HBT
  have hTL : ∃ l, l = textL R := ⟨_, rfl⟩
  obtain ⟨l, hl⟩ := hTL
  rw [← hl] at HX d1 HBT
  have HL := Lib.hid hl
  clear hl
  have HPT := Lib.hid (show pblO (l ++ [47, 50, 52]) = none by have := pbl_text R 24 R0 R1 (by decide) (by decide); rw [if_neg (by rw [q24]; decide), dig_24, ← HL.out] at this; exact this)
  have H24 := Lib.hid fun W => rightL_eq2 R 24 false W R0 R1 q24
  have HPS := Lib.hid fun W => parseBlock_any s W hs
  rw [qs] at HPS
  obtain ⟨es, kz, ⟨z0, z1⟩, x0, x1⟩ := pbl_back qs
  have HZ := Lib.hid fun W => rightL_eq2 za zb true W z0 z1 kz
  have HZT := Lib.hid fun W (h : Tab W) => blockText_any za zb W z0 z1 x0 x1 h
  have et : s = ⟨(textL za ++ 47 :: dig zb).toArray⟩ := by rw [← es]
  generalize textL za ++ 47 :: dig zb = lz at *
  subst et
  clear qs q24 es kz
  have HM := Lib.hid fun W => make_yes a m W _a0 _a1 q0 q1
  obtain ⟨hl0, hl1⟩ := made_lo a m _a0
  have H17 := Lib.hid fun W => rightL_eq2 (a - a % p2 m) m true W hl0 (by omega) (made_ok a m q0 q1)
  have H18 := Lib.hid fun W => has_eq (a - a % p2 m) m a true W hl0 (by omega) _a0 _a1 (by rw [hasB, made_ok a m q0 q1]; simp)
  generalize a - a % p2 m = B at *
  go_enter Tryd.func5, Tryd.ntmps5
  go_wp2_with fail
  refine (awake_any _ HT.out).mono ?_
  rintro e w1 ⟨rfl, hb1⟩
  have HB1 := Lib.hid (((Below.refl _ w).alloc (Nat.le_refl _) _).trans (hb1.mono (by simp)))
  obtain ⟨hc1, hf1⟩ := bcell hb1
  have z1 : w.heap.size < w1.heap.size := by have := hb1.size; simp at this; omega
  clear hb1
  go_wp2_with fail
  refine (HM.out _).mono ?_
  rintro e w2 ⟨rfl, hb2⟩
  have HB2 := Lib.hid (HB1.out.trans (hb2.mono HB1.out.size))
  obtain ⟨hc2, hf2⟩ := bcell hb2
  have z2 : w.heap.size < w2.heap.size := by have := hb2.size; omega
  have z2' : w.heap.size < w2.heap.size + 1 := by omega
  clear hb2
  go_wp2_with fail
  have HB3 := Lib.hid (HB2.out.alloc HB2.out.size (.cells #[.int .u32 B, .int .i64 m] 36))
  have f60 : (w2.alloc (.cells #[.int .u32 B, .int .i64 m] 36)).cell? ⟨w.heap.size, 0, none⟩ = some (.int .u32 R) := by go_simp
  have f61 : (w2.alloc (.cells #[.int .u32 B, .int .i64 m] 36)).cell? ⟨w.heap.size, 1, none⟩ = some (.int .i64 n) := by go_simp
  have e61 : (w2.alloc (.cells #[.int .u32 B, .int .i64 m] 36)).frozen? ⟨w.heap.size, 1, none⟩ = false := by go_simp
  have f90 : (w2.alloc (.cells #[.int .u32 B, .int .i64 m] 36)).cell? ⟨w2.heap.size, 0, none⟩ = some (.int .u32 B) := by go_simp
  have f91 : (w2.alloc (.cells #[.int .u32 B, .int .i64 m] 36)).cell? ⟨w2.heap.size, 1, none⟩ = some (.int .i64 m) := by go_simp
  have y3 : w.heap.size < (w2.alloc (.cells #[.int .u32 B, .int .i64 m] 36)).heap.size := by simp; omega
  have y3' : w2.heap.size < (w2.alloc (.cells #[.int .u32 B, .int .i64 m] 36)).heap.size := by simp
  clear hc1 hf1 hc2 hf2
  generalize w2.alloc (.cells #[.int .u32 B, .int .i64 m] 36) = W3 at *
  have g60 := cell_regrown f60
  have g61 := cell_regrown f61
  have g90 := cell_regrown f90
  have g91 := cell_regrown f91
  have CR := Lib.hid fun (d : Nat) (os : Array Obj) => Calls.regrown_of (right_any R n (Sort.grow (redrawn W3 d) os) R0 R1)
  have CL := Lib.hid fun (d : Nat) (os : Array Obj) => Calls.regrown_of (rightL_any R n (Sort.grow (redrawn W3 d) os) R0 R1)
  refine wp_region_quiet_below (by kernel_rfl) (by kernel_rfl) ?_
  repeat (go_big_quiet_step (first | (go_at_call 16; exact CR.out _ _) | (go_at_call 17; exact CL.out _ _)))
  refine wpQuiet_nil ?_
  intro _ hw'
  obtain ⟨⟨dq, osq⟩, hw''⟩ := hw'
  subst hw''
  have hbq := below_regrown W3 dq osq
  have HB4 := Lib.hid (HB3.out.trans (hbq.mono HB3.out.size))
  have y4 : w.heap.size < (Sort.grow (redrawn W3 dq) osq).heap.size := Nat.lt_of_lt_of_le y3 hbq.size
  have y4' : w2.heap.size < (Sort.grow (redrawn W3 dq) osq).heap.size := Nat.lt_of_lt_of_le y3' hbq.size
  have k60 := g60 dq osq
  have k61 := g61 dq osq
  have k90 := g90 dq osq
  have k91 := g91 dq osq
  have j61 : (Sort.grow (redrawn W3 dq) osq).frozen? ⟨w.heap.size, 1, none⟩ = false := by rw [hbq.frozen (p := ⟨w.heap.size, 1, none⟩) y3]; exact e61
  clear g60 g61 g90 g91 f60 f61 f90 f91 e61 hbq CR CL
  generalize Sort.grow (redrawn W3 dq) osq = W4 at *
  go_wp2_with fail
  refine (H17.out _).mono ?_
  rintro e w5 ⟨rfl, hb5⟩
  have HB5 := Lib.hid (HB4.out.trans (hb5.mono HB4.out.size))
  obtain ⟨hc5, hf5⟩ := bcell hb5
  have y5 : w.heap.size < w5.heap.size := by have := hb5.size; omega
  have y5' : w2.heap.size < w5.heap.size := by have := hb5.size; omega
  clear hb5
  go_wp2_with fail
  refine (H18.out _).mono ?_
  rintro e w6 ⟨rfl, hb6⟩
  have HB6 := Lib.hid (HB5.out.trans (hb6.mono HB5.out.size))
  have k60 : w6.cell? ⟨w.heap.size, 0, none⟩ = some (.int .u32 R) := by rw [hb6.cell (p := ⟨w.heap.size, 0, none⟩) y5, hc5 _ _ y4]; exact k60
  have k61 : w6.cell? ⟨w.heap.size, 1, none⟩ = some (.int .i64 n) := by rw [hb6.cell (p := ⟨w.heap.size, 1, none⟩) y5, hc5 _ _ y4]; exact k61
  have j61 : w6.frozen? ⟨w.heap.size, 1, none⟩ = false := by rw [hb6.frozen (p := ⟨w.heap.size, 1, none⟩) y5, hf5 _ _ y4]; exact j61
  have y6 : w.heap.size < w6.heap.size := by have := hb6.size; omega
  clear hb6 hc5 hf5
  go_wp2_with fail
  refine (HX.out _).mono ?_
  rintro e w7 ⟨rfl, hb7⟩
  have HB7 := Lib.hid (HB6.out.trans (hb7.mono HB6.out.size))
  have q60 : w7.cell? ⟨w.heap.size, 0, none⟩ = some (.int .u32 R) := by rw [hb7.cell (p := ⟨w.heap.size, 0, none⟩) y6]; exact k60
  have q61 : w7.cell? ⟨w.heap.size, 1, none⟩ = some (.int .i64 n) := by rw [hb7.cell (p := ⟨w.heap.size, 1, none⟩) y6]; exact k61
  have r61 : w7.frozen? ⟨w.heap.size, 1, none⟩ = false := by rw [hb7.frozen (p := ⟨w.heap.size, 1, none⟩) y6]; exact j61
  have y7 : w.heap.size < w7.heap.size := by have := hb7.size; omega
  clear hb7 k60 k61 j61
  go_wp2_with fail
  have HB8 := Lib.hid (set1 HB7.out (Nat.le_refl _) (.int .i64 24))
  have s60 : (w7.setCell ⟨w.heap.size, 1, none⟩ (.int .i64 24)).cell? ⟨w.heap.size, 0, none⟩ = some (.int .u32 R) := by go_simp
  have s61 : (w7.setCell ⟨w.heap.size, 1, none⟩ (.int .i64 24)).cell? ⟨w.heap.size, 1, none⟩ = some (.int .i64 24) := by go_simp
  have y8 : w.heap.size < (w7.setCell ⟨w.heap.size, 1, none⟩ (.int .i64 24)).heap.size := by simp [World.setCell]; exact y7
  clear q60 q61 r61
  generalize w7.setCell ⟨w.heap.size, 1, none⟩ (.int .i64 24) = W8 at *
  refine (pbl_at _ (l ++ [47, 50, 52]) _ _ (by simp [ByteArray.data_append]) (by simp; omega) HPT.out).mono ?_
  rintro e w9 ⟨rfl, hb9⟩
  have HB9 := Lib.hid (HB8.out.trans (hb9.mono HB8.out.size))
  have t60 : w9.cell? ⟨w.heap.size, 0, none⟩ = some (.int .u32 R) := by rw [hb9.cell (p := ⟨w.heap.size, 0, none⟩) y8]; exact s60
  have t61 : w9.cell? ⟨w.heap.size, 1, none⟩ = some (.int .i64 24) := by rw [hb9.cell (p := ⟨w.heap.size, 1, none⟩) y8]; exact s61
  have y9 : w.heap.size < w9.heap.size := by have := hb9.size; omega
  clear hb9 s60 s61
  simp only [pblV]
  go_wp2_with fail
  refine (H24.out _).mono ?_
  rintro e w10 ⟨rfl, hb10⟩
  have HB10 := Lib.hid ((HB9.out.alloc HB9.out.size _).trans (hb10.mono (by have := HB9.out.size; simp; omega)))
  obtain ⟨hc10, hf10⟩ := bcell hb10
  have y10 : w.heap.size < w10.heap.size := by have := hb10.size; simp at this; omega
  have y10' : w9.heap.size < w10.heap.size := by have := hb10.size; simp at this; omega
  clear hb10
  go_wp2_with fail
  refine (HBT.out _ (HR.out.below HB10.out)).mono ?_
  rintro e w11 ⟨rfl, hb11⟩
  have HB11 := Lib.hid (HB10.out.trans (hb11.mono HB10.out.size))
  clear hb11 hc10 hf10
  go_wp2_with fail
  refine (HPS.out _).mono ?_
  rintro e w12 ⟨rfl, hb12⟩
  have HB12 := Lib.hid (HB11.out.trans (hb12.mono HB11.out.size))
  clear hb12
  simp only [pblV]
  go_wp2_with fail
  refine (HZ.out _).mono ?_
  rintro e w13 ⟨rfl, hb13⟩
  have HB13 := Lib.hid ((HB12.out.alloc HB12.out.size _).trans (hb13.mono (by have := HB12.out.size; simp; omega)))
  obtain ⟨hc13, hf13⟩ := bcell hb13
  clear hb13
  go_wp2_with fail
  refine (HZT.out _ (HR.out.below HB13.out)).mono ?_
  rintro e w14 ⟨rfl, hb14⟩
  have HB14 := Lib.hid (HB13.out.trans (hb14.mono HB13.out.size))
  clear hb14
  go_wp2_with fail
  go_ret
  exact ⟨rfl, HB14.out⟩
set_option maxHeartbeats 4000000 in
set_option maxRecDepth 100000 in
theorem block_v_y_n (a m R n : Int) (s : ByteArray) (w : World) (_a0 : 0 ≤ a) (_a1 : a < 4294967296) (_m0 : -128 ≤ m) (_m1 : m ≤ 127) (R0 : 0 ≤ R) (R1 : R < 4294967296) (q0 : 0 ≤ m) (q1 : m ≤ 32) (q24 : okB R 24 = true) (hs : s.size ≤ maxLen) (qs : pblO s.data.toList = none) (ht : Tab w) :
    Calls Tryd.prog 5 #[.int .u32 a, .int .i8 m, .agg #[.int .u32 R, .int .i64 n], .string s] w fun e w' => e = .returned (.bool true) ∧ Below w.heap.size w w' := by
  have HT := Lib.hid (ht.below ((Below.refl _ w).alloc (Nat.le_refl _) (.cells #[.int .u32 R, .int .i64 n] 36)))
  have HR := Lib.hid (ht)
  clear ht
  have HX := Lib.hid fun W => textL_any R W R0 R1
  have d1 := textL_len R R1
  have HBT := Lib.hid fun W (h : Tab W) => blockText_any R 24 W R0 R1 (by decide) (by decide) h
  rw [text24] at HBT
  have hTL : ∃ l, l = textL R := ⟨_, rfl⟩
  obtain ⟨l, hl⟩ := hTL
  rw [← hl] at HX d1 HBT
  have HL := Lib.hid hl
  clear hl
  have HPT := Lib.hid (show pblO (l ++ [47, 50, 52]) = some (R, 24) by have := pbl_text R 24 R0 R1 (by decide) (by decide); rw [if_pos q24, dig_24, ← HL.out] at this; exact this)
  have H24 := Lib.hid fun W => rightL_eq2 R 24 true W R0 R1 q24
  have HPS := Lib.hid fun W => parseBlock_any s W hs
  rw [qs] at HPS
  clear qs q24
  have HM := Lib.hid fun W => make_yes a m W _a0 _a1 q0 q1
  obtain ⟨hl0, hl1⟩ := made_lo a m _a0
  have H17 := Lib.hid fun W => rightL_eq2 (a - a % p2 m) m true W hl0 (by omega) (made_ok a m q0 q1)
  have H18 := Lib.hid fun W => has_eq (a - a % p2 m) m a true W hl0 (by omega) _a0 _a1 (by rw [hasB, made_ok a m q0 q1]; simp)
  generalize a - a % p2 m = B at *
  go_enter Tryd.func5, Tryd.ntmps5
  go_wp2_with fail
  refine (awake_any _ HT.out).mono ?_
  rintro e w1 ⟨rfl, hb1⟩
  have HB1 := Lib.hid (((Below.refl _ w).alloc (Nat.le_refl _) _).trans (hb1.mono (by simp)))
  obtain ⟨hc1, hf1⟩ := bcell hb1
  have z1 : w.heap.size < w1.heap.size := by have := hb1.size; simp at this; omega
  clear hb1
  go_wp2_with fail
  refine (HM.out _).mono ?_
  rintro e w2 ⟨rfl, hb2⟩
  have HB2 := Lib.hid (HB1.out.trans (hb2.mono HB1.out.size))
  obtain ⟨hc2, hf2⟩ := bcell hb2
  have z2 : w.heap.size < w2.heap.size := by have := hb2.size; omega
  have z2' : w.heap.size < w2.heap.size + 1 := by omega
  clear hb2
  go_wp2_with fail
  have HB3 := Lib.hid (HB2.out.alloc HB2.out.size (.cells #[.int .u32 B, .int .i64 m] 36))
  have f60 : (w2.alloc (.cells #[.int .u32 B, .int .i64 m] 36)).cell? ⟨w.heap.size, 0, none⟩ = some (.int .u32 R) := by go_simp
  have f61 : (w2.alloc (.cells #[.int .u32 B, .int .i64 m] 36)).cell? ⟨w.heap.size, 1, none⟩ = some (.int .i64 n) := by go_simp
  have e61 : (w2.alloc (.cells #[.int .u32 B, .int .i64 m] 36)).frozen? ⟨w.heap.size, 1, none⟩ = false := by go_simp
  have f90 : (w2.alloc (.cells #[.int .u32 B, .int .i64 m] 36)).cell? ⟨w2.heap.size, 0, none⟩ = some (.int .u32 B) := by go_simp
  have f91 : (w2.alloc (.cells #[.int .u32 B, .int .i64 m] 36)).cell? ⟨w2.heap.size, 1, none⟩ = some (.int .i64 m) := by go_simp
  have y3 : w.heap.size < (w2.alloc (.cells #[.int .u32 B, .int .i64 m] 36)).heap.size := by simp; omega
  have y3' : w2.heap.size < (w2.alloc (.cells #[.int .u32 B, .int .i64 m] 36)).heap.size := by simp
  clear hc1 hf1 hc2 hf2
  generalize w2.alloc (.cells #[.int .u32 B, .int .i64 m] 36) = W3 at *
  have g60 := cell_regrown f60
  have g61 := cell_regrown f61
  have g90 := cell_regrown f90
  have g91 := cell_regrown f91
  have CR := Lib.hid fun (d : Nat) (os : Array Obj) => Calls.regrown_of (right_any R n (Sort.grow (redrawn W3 d) os) R0 R1)
  have CL := Lib.hid fun (d : Nat) (os : Array Obj) => Calls.regrown_of (rightL_any R n (Sort.grow (redrawn W3 d) os) R0 R1)
  refine wp_region_quiet_below (by kernel_rfl) (by kernel_rfl) ?_
  repeat (go_big_quiet_step (first | (go_at_call 16; exact CR.out _ _) | (go_at_call 17; exact CL.out _ _)))
  refine wpQuiet_nil ?_
  intro _ hw'
  obtain ⟨⟨dq, osq⟩, hw''⟩ := hw'
  subst hw''
  have hbq := below_regrown W3 dq osq
  have HB4 := Lib.hid (HB3.out.trans (hbq.mono HB3.out.size))
  have y4 : w.heap.size < (Sort.grow (redrawn W3 dq) osq).heap.size := Nat.lt_of_lt_of_le y3 hbq.size
  have y4' : w2.heap.size < (Sort.grow (redrawn W3 dq) osq).heap.size := Nat.lt_of_lt_of_le y3' hbq.size
  have k60 := g60 dq osq
  have k61 := g61 dq osq
  have k90 := g90 dq osq
  have k91 := g91 dq osq
  have j61 : (Sort.grow (redrawn W3 dq) osq).frozen? ⟨w.heap.size, 1, none⟩ = false := by rw [hbq.frozen (p := ⟨w.heap.size, 1, none⟩) y3]; exact e61
  clear g60 g61 g90 g91 f60 f61 f90 f91 e61 hbq CR CL
  generalize Sort.grow (redrawn W3 dq) osq = W4 at *
  go_wp2_with fail
  refine (H17.out _).mono ?_
  rintro e w5 ⟨rfl, hb5⟩
  have HB5 := Lib.hid (HB4.out.trans (hb5.mono HB4.out.size))
  obtain ⟨hc5, hf5⟩ := bcell hb5
  have y5 : w.heap.size < w5.heap.size := by have := hb5.size; omega
  have y5' : w2.heap.size < w5.heap.size := by have := hb5.size; omega
  clear hb5
  go_wp2_with fail
  refine (H18.out _).mono ?_
  rintro e w6 ⟨rfl, hb6⟩
  have HB6 := Lib.hid (HB5.out.trans (hb6.mono HB5.out.size))
  have k60 : w6.cell? ⟨w.heap.size, 0, none⟩ = some (.int .u32 R) := by rw [hb6.cell (p := ⟨w.heap.size, 0, none⟩) y5, hc5 _ _ y4]; exact k60
  have k61 : w6.cell? ⟨w.heap.size, 1, none⟩ = some (.int .i64 n) := by rw [hb6.cell (p := ⟨w.heap.size, 1, none⟩) y5, hc5 _ _ y4]; exact k61
  have j61 : w6.frozen? ⟨w.heap.size, 1, none⟩ = false := by rw [hb6.frozen (p := ⟨w.heap.size, 1, none⟩) y5, hf5 _ _ y4]; exact j61
  have y6 : w.heap.size < w6.heap.size := by have := hb6.size; omega
  clear hb6 hc5 hf5
  go_wp2_with fail
  refine (HX.out _).mono ?_
  rintro e w7 ⟨rfl, hb7⟩
  have HB7 := Lib.hid (HB6.out.trans (hb7.mono HB6.out.size))
  have q60 : w7.cell? ⟨w.heap.size, 0, none⟩ = some (.int .u32 R) := by rw [hb7.cell (p := ⟨w.heap.size, 0, none⟩) y6]; exact k60
  have q61 : w7.cell? ⟨w.heap.size, 1, none⟩ = some (.int .i64 n) := by rw [hb7.cell (p := ⟨w.heap.size, 1, none⟩) y6]; exact k61
  have r61 : w7.frozen? ⟨w.heap.size, 1, none⟩ = false := by rw [hb7.frozen (p := ⟨w.heap.size, 1, none⟩) y6]; exact j61
  have y7 : w.heap.size < w7.heap.size := by have := hb7.size; omega
  clear hb7 k60 k61 j61
  go_wp2_with fail
  have HB8 := Lib.hid (set1 HB7.out (Nat.le_refl _) (.int .i64 24))
  have s60 : (w7.setCell ⟨w.heap.size, 1, none⟩ (.int .i64 24)).cell? ⟨w.heap.size, 0, none⟩ = some (.int .u32 R) := by go_simp
  have s61 : (w7.setCell ⟨w.heap.size, 1, none⟩ (.int .i64 24)).cell? ⟨w.heap.size, 1, none⟩ = some (.int .i64 24) := by go_simp
  have y8 : w.heap.size < (w7.setCell ⟨w.heap.size, 1, none⟩ (.int .i64 24)).heap.size := by simp [World.setCell]; exact y7
  clear q60 q61 r61
  generalize w7.setCell ⟨w.heap.size, 1, none⟩ (.int .i64 24) = W8 at *
  refine (pbl_at _ (l ++ [47, 50, 52]) _ _ (by simp [ByteArray.data_append]) (by simp; omega) HPT.out).mono ?_
  rintro e w9 ⟨rfl, hb9⟩
  have HB9 := Lib.hid (HB8.out.trans (hb9.mono HB8.out.size))
  have t60 : w9.cell? ⟨w.heap.size, 0, none⟩ = some (.int .u32 R) := by rw [hb9.cell (p := ⟨w.heap.size, 0, none⟩) y8]; exact s60
  have t61 : w9.cell? ⟨w.heap.size, 1, none⟩ = some (.int .i64 24) := by rw [hb9.cell (p := ⟨w.heap.size, 1, none⟩) y8]; exact s61
  have y9 : w.heap.size < w9.heap.size := by have := hb9.size; omega
  clear hb9 s60 s61
  simp only [pblV]
  go_wp2_with fail
  refine (H24.out _).mono ?_
  rintro e w10 ⟨rfl, hb10⟩
  have HB10 := Lib.hid ((HB9.out.alloc HB9.out.size _).trans (hb10.mono (by have := HB9.out.size; simp; omega)))
  obtain ⟨hc10, hf10⟩ := bcell hb10
  have y10 : w.heap.size < w10.heap.size := by have := hb10.size; simp at this; omega
  have y10' : w9.heap.size < w10.heap.size := by have := hb10.size; simp at this; omega
  clear hb10
  go_wp2_with fail
  refine (HBT.out _ (HR.out.below HB10.out)).mono ?_
  rintro e w11 ⟨rfl, hb11⟩
  have HB11 := Lib.hid (HB10.out.trans (hb11.mono HB10.out.size))
  clear hb11 hc10 hf10
  go_wp2_with fail
  refine (HPS.out _).mono ?_
  rintro e w12 ⟨rfl, hb12⟩
  have HB12 := Lib.hid (HB11.out.trans (hb12.mono HB11.out.size))
  clear hb12
  simp only [pblV]
  go_wp2_with fail
  go_ret
  exact ⟨rfl, HB12.out.alloc HB12.out.size _⟩
set_option maxHeartbeats 4000000 in
set_option maxRecDepth 100000 in
theorem block_v_y_y (a m R n za zb : Int) (s : ByteArray) (w : World) (_a0 : 0 ≤ a) (_a1 : a < 4294967296) (_m0 : -128 ≤ m) (_m1 : m ≤ 127) (R0 : 0 ≤ R) (R1 : R < 4294967296) (q0 : 0 ≤ m) (q1 : m ≤ 32) (q24 : okB R 24 = true) (hs : s.size ≤ maxLen) (qs : pblO s.data.toList = some (za, zb)) (ht : Tab w) :
    Calls Tryd.prog 5 #[.int .u32 a, .int .i8 m, .agg #[.int .u32 R, .int .i64 n], .string s] w fun e w' => e = .returned (.bool true) ∧ Below w.heap.size w w' := by
  have HT := Lib.hid (ht.below ((Below.refl _ w).alloc (Nat.le_refl _) (.cells #[.int .u32 R, .int .i64 n] 36)))
  have HR := Lib.hid (ht)
  clear ht
  have HX := Lib.hid fun W => textL_any R W R0 R1
  have d1 := textL_len R R1
  have HBT := Lib.hid fun W (h : Tab W) => blockText_any R 24 W R0 R1 (by decide) (by decide) h
  rw [text24] at HBT
  have hTL : ∃ l, l = textL R := ⟨_, rfl⟩
  obtain ⟨l, hl⟩ := hTL
  rw [← hl] at HX d1 HBT
  have HL := Lib.hid hl
  clear hl
  have HPT := Lib.hid (show pblO (l ++ [47, 50, 52]) = some (R, 24) by have := pbl_text R 24 R0 R1 (by decide) (by decide); rw [if_pos q24, dig_24, ← HL.out] at this; exact this)
  have H24 := Lib.hid fun W => rightL_eq2 R 24 true W R0 R1 q24
  have HPS := Lib.hid fun W => parseBlock_any s W hs
  rw [qs] at HPS
  obtain ⟨es, kz, ⟨z0, z1⟩, x0, x1⟩ := pbl_back qs
  have HZ := Lib.hid fun W => rightL_eq2 za zb true W z0 z1 kz
  have HZT := Lib.hid fun W (h : Tab W) => blockText_any za zb W z0 z1 x0 x1 h
  have et : s = ⟨(textL za ++ 47 :: dig zb).toArray⟩ := by rw [← es]
  generalize textL za ++ 47 :: dig zb = lz at *
  subst et
  clear qs q24 es kz
  have HM := Lib.hid fun W => make_yes a m W _a0 _a1 q0 q1
  obtain ⟨hl0, hl1⟩ := made_lo a m _a0
  have H17 := Lib.hid fun W => rightL_eq2 (a - a % p2 m) m true W hl0 (by omega) (made_ok a m q0 q1)
  have H18 := Lib.hid fun W => has_eq (a - a % p2 m) m a true W hl0 (by omega) _a0 _a1 (by rw [hasB, made_ok a m q0 q1]; simp)
  generalize a - a % p2 m = B at *
  go_enter Tryd.func5, Tryd.ntmps5
  go_wp2_with fail
  refine (awake_any _ HT.out).mono ?_
  rintro e w1 ⟨rfl, hb1⟩
  have HB1 := Lib.hid (((Below.refl _ w).alloc (Nat.le_refl _) _).trans (hb1.mono (by simp)))
  obtain ⟨hc1, hf1⟩ := bcell hb1
  have z1 : w.heap.size < w1.heap.size := by have := hb1.size; simp at this; omega
  clear hb1
  go_wp2_with fail
  refine (HM.out _).mono ?_
  rintro e w2 ⟨rfl, hb2⟩
  have HB2 := Lib.hid (HB1.out.trans (hb2.mono HB1.out.size))
  obtain ⟨hc2, hf2⟩ := bcell hb2
  have z2 : w.heap.size < w2.heap.size := by have := hb2.size; omega
  have z2' : w.heap.size < w2.heap.size + 1 := by omega
  clear hb2
  go_wp2_with fail
  have HB3 := Lib.hid (HB2.out.alloc HB2.out.size (.cells #[.int .u32 B, .int .i64 m] 36))
  have f60 : (w2.alloc (.cells #[.int .u32 B, .int .i64 m] 36)).cell? ⟨w.heap.size, 0, none⟩ = some (.int .u32 R) := by go_simp
  have f61 : (w2.alloc (.cells #[.int .u32 B, .int .i64 m] 36)).cell? ⟨w.heap.size, 1, none⟩ = some (.int .i64 n) := by go_simp
  have e61 : (w2.alloc (.cells #[.int .u32 B, .int .i64 m] 36)).frozen? ⟨w.heap.size, 1, none⟩ = false := by go_simp
  have f90 : (w2.alloc (.cells #[.int .u32 B, .int .i64 m] 36)).cell? ⟨w2.heap.size, 0, none⟩ = some (.int .u32 B) := by go_simp
  have f91 : (w2.alloc (.cells #[.int .u32 B, .int .i64 m] 36)).cell? ⟨w2.heap.size, 1, none⟩ = some (.int .i64 m) := by go_simp
  have y3 : w.heap.size < (w2.alloc (.cells #[.int .u32 B, .int .i64 m] 36)).heap.size := by simp; omega
  have y3' : w2.heap.size < (w2.alloc (.cells #[.int .u32 B, .int .i64 m] 36)).heap.size := by simp
  clear hc1 hf1 hc2 hf2
  generalize w2.alloc (.cells #[.int .u32 B, .int .i64 m] 36) = W3 at *
  have g60 := cell_regrown f60
  have g61 := cell_regrown f61
  have g90 := cell_regrown f90
  have g91 := cell_regrown f91
  have CR := Lib.hid fun (d : Nat) (os : Array Obj) => Calls.regrown_of (right_any R n (Sort.grow (redrawn W3 d) os) R0 R1)
  have CL := Lib.hid fun (d : Nat) (os : Array Obj) => Calls.regrown_of (rightL_any R n (Sort.grow (redrawn W3 d) os) R0 R1)
  refine wp_region_quiet_below (by kernel_rfl) (by kernel_rfl) ?_
  repeat (go_big_quiet_step (first | (go_at_call 16; exact CR.out _ _) | (go_at_call 17; exact CL.out _ _)))
  refine wpQuiet_nil ?_
  intro _ hw'
  obtain ⟨⟨dq, osq⟩, hw''⟩ := hw'
  subst hw''
  have hbq := below_regrown W3 dq osq
  have HB4 := Lib.hid (HB3.out.trans (hbq.mono HB3.out.size))
  have y4 : w.heap.size < (Sort.grow (redrawn W3 dq) osq).heap.size := Nat.lt_of_lt_of_le y3 hbq.size
  have y4' : w2.heap.size < (Sort.grow (redrawn W3 dq) osq).heap.size := Nat.lt_of_lt_of_le y3' hbq.size
  have k60 := g60 dq osq
  have k61 := g61 dq osq
  have k90 := g90 dq osq
  have k91 := g91 dq osq
  have j61 : (Sort.grow (redrawn W3 dq) osq).frozen? ⟨w.heap.size, 1, none⟩ = false := by rw [hbq.frozen (p := ⟨w.heap.size, 1, none⟩) y3]; exact e61
  clear g60 g61 g90 g91 f60 f61 f90 f91 e61 hbq CR CL
  generalize Sort.grow (redrawn W3 dq) osq = W4 at *
  go_wp2_with fail
  refine (H17.out _).mono ?_
  rintro e w5 ⟨rfl, hb5⟩
  have HB5 := Lib.hid (HB4.out.trans (hb5.mono HB4.out.size))
  obtain ⟨hc5, hf5⟩ := bcell hb5
  have y5 : w.heap.size < w5.heap.size := by have := hb5.size; omega
  have y5' : w2.heap.size < w5.heap.size := by have := hb5.size; omega
  clear hb5
  go_wp2_with fail
  refine (H18.out _).mono ?_
  rintro e w6 ⟨rfl, hb6⟩
  have HB6 := Lib.hid (HB5.out.trans (hb6.mono HB5.out.size))
  have k60 : w6.cell? ⟨w.heap.size, 0, none⟩ = some (.int .u32 R) := by rw [hb6.cell (p := ⟨w.heap.size, 0, none⟩) y5, hc5 _ _ y4]; exact k60
  have k61 : w6.cell? ⟨w.heap.size, 1, none⟩ = some (.int .i64 n) := by rw [hb6.cell (p := ⟨w.heap.size, 1, none⟩) y5, hc5 _ _ y4]; exact k61
  have j61 : w6.frozen? ⟨w.heap.size, 1, none⟩ = false := by rw [hb6.frozen (p := ⟨w.heap.size, 1, none⟩) y5, hf5 _ _ y4]; exact j61
  have y6 : w.heap.size < w6.heap.size := by have := hb6.size; omega
  clear hb6 hc5 hf5
  go_wp2_with fail
  refine (HX.out _).mono ?_
  rintro e w7 ⟨rfl, hb7⟩
  have HB7 := Lib.hid (HB6.out.trans (hb7.mono HB6.out.size))
  have q60 : w7.cell? ⟨w.heap.size, 0, none⟩ = some (.int .u32 R) := by rw [hb7.cell (p := ⟨w.heap.size, 0, none⟩) y6]; exact k60
  have q61 : w7.cell? ⟨w.heap.size, 1, none⟩ = some (.int .i64 n) := by rw [hb7.cell (p := ⟨w.heap.size, 1, none⟩) y6]; exact k61
  have r61 : w7.frozen? ⟨w.heap.size, 1, none⟩ = false := by rw [hb7.frozen (p := ⟨w.heap.size, 1, none⟩) y6]; exact j61
  have y7 : w.heap.size < w7.heap.size := by have := hb7.size; omega
  clear hb7 k60 k61 j61
  go_wp2_with fail
  have HB8 := Lib.hid (set1 HB7.out (Nat.le_refl _) (.int .i64 24))
  have s60 : (w7.setCell ⟨w.heap.size, 1, none⟩ (.int .i64 24)).cell? ⟨w.heap.size, 0, none⟩ = some (.int .u32 R) := by go_simp
  have s61 : (w7.setCell ⟨w.heap.size, 1, none⟩ (.int .i64 24)).cell? ⟨w.heap.size, 1, none⟩ = some (.int .i64 24) := by go_simp
  have y8 : w.heap.size < (w7.setCell ⟨w.heap.size, 1, none⟩ (.int .i64 24)).heap.size := by simp [World.setCell]; exact y7
  clear q60 q61 r61
  generalize w7.setCell ⟨w.heap.size, 1, none⟩ (.int .i64 24) = W8 at *
  refine (pbl_at _ (l ++ [47, 50, 52]) _ _ (by simp [ByteArray.data_append]) (by simp; omega) HPT.out).mono ?_
  rintro e w9 ⟨rfl, hb9⟩
  have HB9 := Lib.hid (HB8.out.trans (hb9.mono HB8.out.size))
  have t60 : w9.cell? ⟨w.heap.size, 0, none⟩ = some (.int .u32 R) := by rw [hb9.cell (p := ⟨w.heap.size, 0, none⟩) y8]; exact s60
  have t61 : w9.cell? ⟨w.heap.size, 1, none⟩ = some (.int .i64 24) := by rw [hb9.cell (p := ⟨w.heap.size, 1, none⟩) y8]; exact s61
  have y9 : w.heap.size < w9.heap.size := by have := hb9.size; omega
  clear hb9 s60 s61
  simp only [pblV]
  go_wp2_with fail
  refine (H24.out _).mono ?_
  rintro e w10 ⟨rfl, hb10⟩
  have HB10 := Lib.hid ((HB9.out.alloc HB9.out.size _).trans (hb10.mono (by have := HB9.out.size; simp; omega)))
  obtain ⟨hc10, hf10⟩ := bcell hb10
  have y10 : w.heap.size < w10.heap.size := by have := hb10.size; simp at this; omega
  have y10' : w9.heap.size < w10.heap.size := by have := hb10.size; simp at this; omega
  clear hb10
  go_wp2_with fail
  refine (HBT.out _ (HR.out.below HB10.out)).mono ?_
  rintro e w11 ⟨rfl, hb11⟩
  have HB11 := Lib.hid (HB10.out.trans (hb11.mono HB10.out.size))
  clear hb11 hc10 hf10
  go_wp2_with fail
  refine (HPS.out _).mono ?_
  rintro e w12 ⟨rfl, hb12⟩
  have HB12 := Lib.hid (HB11.out.trans (hb12.mono HB11.out.size))
  clear hb12
  simp only [pblV]
  go_wp2_with fail
  refine (HZ.out _).mono ?_
  rintro e w13 ⟨rfl, hb13⟩
  have HB13 := Lib.hid ((HB12.out.alloc HB12.out.size _).trans (hb13.mono (by have := HB12.out.size; simp; omega)))
  obtain ⟨hc13, hf13⟩ := bcell hb13
  clear hb13
  go_wp2_with fail
  refine (HZT.out _ (HR.out.below HB13.out)).mono ?_
  rintro e w14 ⟨rfl, hb14⟩
  have HB14 := Lib.hid (HB13.out.trans (hb14.mono HB13.out.size))
  clear hb14
  go_wp2_with fail
  go_ret
  exact ⟨rfl, HB14.out⟩
end Go.Proofs.YtcbknlbpdlheeaaDoor
