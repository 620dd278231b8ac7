/-
  The contract of command.Text at events that a command may mean. Conditions: kinds of commands, numbers in their bounds, a short owner; the library's table of powers of ten lies as its text lays it.
-/
import Derived.Test.YtegbdagmnibfmaaDoorPrs
import Derived.Deep.CutRange
set_option linter.unusedSimpArgs false
set_option linter.unusedVariables false
namespace Go.Proofs.YtegbdagmnibfmaaDoor
open Go.RowKit

/-- The word of a kind, as bytes. -/
def wL (k : Int) : List UInt8 := (nm k).data.toList
/-- Whether a station is none. -/
def no6 (x : Ev) : Bool := Mc.eq6 x.c0 x.c1 x.c2 x.c3 x.c4 x.c5 0 0 0 0 0 0
def txL (x : Ev) : List UInt8 :=
  if ((x.k == 3) || (x.k == 4)) = true then wL x.k ++ 32 :: (Ad.textL x.b ++ 47 :: Ad.dig x.n)
  else if (x.k == 1) = false then wL x.k ++ 32 :: Ad.textL x.a
  else if no6 x = true then wL x.k ++ 32 :: (Ad.textL x.a ++ 32 :: x.o.data.toList)
  else wL x.k ++ 32 :: (Ad.textL x.a ++ 32 :: (x.o.data.toList ++ 32 :: (mt x.c0 x.c1 x.c2 x.c3 x.c4 x.c5).data.toList))
/-- An event as a command. -/
def txt (x : Ev) : ByteArray := ⟨(txL x).toArray⟩
/-- Kinds that commands have. -/
def Kd (k : Int) : Prop := k = 1 ∨ k = 2 ∨ k = 3 ∨ k = 4 ∨ k = 6 ∨ k = 7
theorem Kd.word {k : Int} (h : Kd k) : (nm k).toList.isEmpty = false ∧ (wL k).length ≤ 7 ∧ (32 : UInt8) ∉ wL k ∧ knd (nm k) = k := by
  rcases h with rfl | rfl | rfl | rfl | rfl | rfl <;> decide +kernel
theorem Kd.bd {k : Int} (h : Kd k) : 0 ≤ k ∧ k < 8 := by unfold Kd at h; omega
theorem lst_ne {z : ByteArray} (h : z.toList.isEmpty = false) : (z.toList = []) = False := by
  simp
  intro hh
  rw [hh] at h
  cases h
theorem arr_eq (s : ByteArray) : s = ⟨s.data.toList.toArray⟩ := by cases s; simp
theorem Cx.belowX {w w' : World} {b : Nat} {x : Ev} (h : Cx w b (evl x)) (hb : Below w.heap.size w w') : Cx w' b (evl x) := h.belowE hb

set_option maxRecDepth 100000 in
set_option maxHeartbeats 4000000 in
theorem text_blk (x : Ev) (w : World) (hk : Kd x.k) (h3 : ((x.k == 3) || (x.k == 4)) = true) (b0 : 0 ≤ x.b) (b1 : x.b < 4294967296) (n0 : 0 ≤ x.n) (n1 : x.n ≤ 32) (ht : Tab w) :
    Calls Tryd.prog 15 #[evv x] w fun e w' => e = .returned (.string (txt x)) ∧ Below w.heap.size w w' := by
  obtain ⟨hw1, hw2, -, -⟩ := hk.word
  have hw3 := lst_ne hw1
  have HN := Lib.hid fun W => name_any x.k W hk.bd.1 hk.bd.2
  have HB := Lib.hid fun W => ofBlock_any x.k W
  have P0 := Lib.hid (ev_box w x)
  have B0 := Lib.hid ((Below.refl w.heap.size w).alloc (Nat.le_refl _) (Evx x))
  have HT0 := Lib.hid (ht.below B0.out)
  have hn := arr_eq (nm x.k)
  have hE : nm x.k = ⟨(wL x.k).toArray⟩ := hn
  obtain ⟨K, hK⟩ : ∃ K, nm x.k = K := ⟨_, rfl⟩
  rw [hK] at hE hw1 hw3 HN
  obtain ⟨S1, hS1⟩ : ∃ S : ByteArray, S = ⟨#[32]⟩ := ⟨_, rfl⟩
  have hS2 : S1 = ⟨([32] : List UInt8).toArray⟩ := hS1
  obtain ⟨P1, hP1⟩ : ∃ P : ByteArray, P = ⟨(wL x.k ++ [32]).toArray⟩ := ⟨_, rfl⟩
  have a1 := fun W => sadd hE hS2 hP1 (by simp only [List.length_append, List.length_cons, List.length_nil]; omega) W
  rw [hS1] at a1
  have HX := Lib.hid fun W (h : Tab W) => Ad.blockText_any x.b x.n W b0 b1 n0 n1 h
  have d1 := Ad.textL_len x.b b1
  have d2 := Ad.dig_len (n := x.n) (by omega)
  obtain ⟨T, hT⟩ : ∃ T : ByteArray, T = ⟨(Ad.textL x.b ++ 47 :: Ad.dig x.n).toArray⟩ := ⟨_, rfl⟩
  rw [← hT] at HX
  obtain ⟨P2, hP2⟩ : ∃ P : ByteArray, P = ⟨((wL x.k ++ [32]) ++ (Ad.textL x.b ++ 47 :: Ad.dig x.n)).toArray⟩ := ⟨_, rfl⟩
  have a2 := fun W => sadd hP1 hT hP2 (by simp only [List.length_append, List.length_cons, List.length_nil]; omega) W
  have hT2 := hP2
  rw [h3] at HB
  have HEQ := Lib.hid (show txt x = P2 from by rw [hT2]; unfold txt txL; rw [if_pos h3]; simp)
  unfold Evx at *
  clear hn hK hE hP1 hS2 hk hw2 ht
  unfold evv
  go_enter Tryd.func15, Tryd.ntmps15
  go_wp2_with fail
  refine (HN.out _).mono ?_
  rintro e w1 ⟨rfl, rfl⟩
  go_wp2_with fail
  refine (HB.out _).mono ?_
  rintro e w1 ⟨rfl, rfl⟩
  clear hT hP2 hT2 h3 d1 d2 b0 b1 n0 n1
  go_wp2_with fail
  refine (HX.out _ HT0.out).mono ?_
  rintro e w2 ⟨rfl, hb⟩
  have B2 := Lib.hid (B0.out.trans (hb.mono B0.out.size))
  clear hb
  go_wp2_with fail
  go_ret
  exact ⟨by rw [HEQ.out]; rfl, B2.out⟩

set_option maxRecDepth 100000 in
set_option maxHeartbeats 4000000 in
theorem text_one (x : Ev) (w : World) (hk : Kd x.k) (h3 : ((x.k == 3) || (x.k == 4)) = false) (h1 : (x.k == 1) = false) (b0 : 0 ≤ x.a) (b1 : x.a < 4294967296) (ht : Tab w) :
    Calls Tryd.prog 15 #[evv x] w fun e w' => e = .returned (.string (txt x)) ∧ Below w.heap.size w w' := by
  obtain ⟨hw1, hw2, -, -⟩ := hk.word
  have hw3 := lst_ne hw1
  have HN := Lib.hid fun W => name_any x.k W hk.bd.1 hk.bd.2
  have HB := Lib.hid fun W => ofBlock_any x.k W
  have P0 := Lib.hid (ev_box w x)
  have B0 := Lib.hid ((Below.refl w.heap.size w).alloc (Nat.le_refl _) (Evx x))
  have HT0 := Lib.hid (ht.below B0.out)
  have hn := arr_eq (nm x.k)
  have hE : nm x.k = ⟨(wL x.k).toArray⟩ := hn
  obtain ⟨K, hK⟩ : ∃ K, nm x.k = K := ⟨_, rfl⟩
  rw [hK] at hE hw1 hw3 HN
  obtain ⟨S1, hS1⟩ : ∃ S : ByteArray, S = ⟨#[32]⟩ := ⟨_, rfl⟩
  have hS2 : S1 = ⟨([32] : List UInt8).toArray⟩ := hS1
  obtain ⟨P1, hP1⟩ : ∃ P : ByteArray, P = ⟨(wL x.k ++ [32]).toArray⟩ := ⟨_, rfl⟩
  have a1 := fun W => sadd hE hS2 hP1 (by simp only [List.length_append, List.length_cons, List.length_nil]; omega) W
  rw [hS1] at a1
  have HX := Lib.hid fun W (h : Tab W) => Ad.text_any x.a W b0 b1 h
  have d1 := Ad.textL_len x.a b1
  obtain ⟨T, hT⟩ : ∃ T : ByteArray, T = ⟨(Ad.textL x.a).toArray⟩ := ⟨_, rfl⟩
  rw [← hT] at HX
  obtain ⟨P2, hP2⟩ : ∃ P : ByteArray, P = ⟨((wL x.k ++ [32]) ++ Ad.textL x.a).toArray⟩ := ⟨_, rfl⟩
  have a2 := fun W => sadd hP1 hT hP2 (by simp only [List.length_append, List.length_cons, List.length_nil]; omega) W
  rw [h3] at HB
  have hT2 := hP2
  have HEQ := Lib.hid (show txt x = P2 from by rw [hT2]; unfold txt txL; rw [if_neg (by rw [h3]; decide), if_pos h1]; simp)
  unfold Evx at *
  clear hn hK hE hP1 hS2 hk hw2 ht
  unfold evv
  go_enter Tryd.func15, Tryd.ntmps15
  go_wp2_with fail
  refine (HN.out _).mono ?_
  rintro e w1 ⟨rfl, rfl⟩
  go_wp2_with fail
  refine (HB.out _).mono ?_
  rintro e w1 ⟨rfl, rfl⟩
  clear hT hP2 hT2 h3 d1 b0 b1
  go_wp2_with fail
  refine (HX.out _ HT0.out).mono ?_
  rintro e w2 ⟨rfl, hb⟩
  have B2 := Lib.hid (B0.out.trans (hb.mono B0.out.size))
  have P2' := Lib.hid (P0.out.belowX hb)
  have k0 := P2'.out.key 0 _ rfl
  have k2 := P2'.out.key 2 _ rfl
  clear hb
  go_wp2_with fail
  go_ret
  exact ⟨by rw [HEQ.out]; rfl, B2.out⟩

set_option maxRecDepth 100000 in
set_option maxHeartbeats 4000000 in
theorem text_none (x : Ev) (w : World) (hk : Kd x.k) (h1 : (x.k == 1) = true) (b0 : 0 ≤ x.a) (b1 : x.a < 4294967296) (ho : x.o.size ≤ 8) (h6 : no6 x = true) (ht : Tab w) :
    Calls Tryd.prog 15 #[evv x] w fun e w' => e = .returned (.string (txt x)) ∧ Below w.heap.size w w' := by
  obtain ⟨hw1, hw2, -, -⟩ := hk.word
  have hw3 := lst_ne hw1
  have HN := Lib.hid fun W => name_any x.k W hk.bd.1 hk.bd.2
  have HB := Lib.hid fun W => ofBlock_any x.k W
  have P0 := Lib.hid (ev_box w x)
  have B0 := Lib.hid ((Below.refl w.heap.size w).alloc (Nat.le_refl _) (Evx x))
  have HT0 := Lib.hid (ht.below B0.out)
  have hn := arr_eq (nm x.k)
  have hE : nm x.k = ⟨(wL x.k).toArray⟩ := hn
  obtain ⟨K, hK⟩ : ∃ K, nm x.k = K := ⟨_, rfl⟩
  rw [hK] at hE hw1 hw3 HN
  obtain ⟨S1, hS1⟩ : ∃ S : ByteArray, S = ⟨#[32]⟩ := ⟨_, rfl⟩
  have hS2 : S1 = ⟨([32] : List UInt8).toArray⟩ := hS1
  obtain ⟨P1, hP1⟩ : ∃ P : ByteArray, P = ⟨(wL x.k ++ [32]).toArray⟩ := ⟨_, rfl⟩
  have a1 := fun W => sadd hE hS2 hP1 (by simp only [List.length_append, List.length_cons, List.length_nil]; omega) W
  rw [hS1] at a1
  have h3 : ((x.k == 3) || (x.k == 4)) = false := by rw [eq_of_beq h1]; decide
  have HX := Lib.hid fun W (h : Tab W) => Ad.text_any x.a W b0 b1 h
  have d1 := Ad.textL_len x.a b1
  obtain ⟨T, hT⟩ : ∃ T : ByteArray, T = ⟨(Ad.textL x.a).toArray⟩ := ⟨_, rfl⟩
  rw [← hT] at HX
  obtain ⟨P2, hP2⟩ : ∃ P : ByteArray, P = ⟨((wL x.k ++ [32]) ++ Ad.textL x.a).toArray⟩ := ⟨_, rfl⟩
  have a2 := fun W => sadd hP1 hT hP2 (by simp only [List.length_append, List.length_cons, List.length_nil]; omega) W
  rw [h3] at HB
  obtain ⟨P3, hP3⟩ : ∃ P : ByteArray, P = ⟨([32] ++ x.o.data.toList).toArray⟩ := ⟨_, rfl⟩
  have ho2 : x.o.data.toList.length ≤ 8 := by rw [← Lib.size_eq]; exact ho
  have a3 := fun W => sadd hS2 (arr_eq x.o) hP3 (by simp only [List.length_append, List.length_cons, List.length_nil]; omega) W
  rw [hS1] at a3
  obtain ⟨P4, hP4⟩ : ∃ P : ByteArray, P = ⟨(((wL x.k ++ [32]) ++ Ad.textL x.a) ++ ([32] ++ x.o.data.toList)).toArray⟩ := ⟨_, rfl⟩
  have a4 := fun W => sadd hP2 hP3 hP4 (by simp only [List.length_append, List.length_cons, List.length_nil]; omega) W
  have hT2 := hP4
  have HO := Lib.hid fun W => Mc.none_any x.c0 x.c1 x.c2 x.c3 x.c4 x.c5 W
  have h6' := h6
  unfold no6 at h6'
  rw [h6'] at HO
  have HEQ := Lib.hid (show txt x = P4 from by rw [hT2]; unfold txt txL; rw [if_neg (by rw [h3]; decide), if_neg (by rw [h1]; decide), if_pos h6]; simp)
  unfold Evx at *
  clear hn hK hE hP1 hS2 hk hw2 ht
  unfold evv
  go_enter Tryd.func15, Tryd.ntmps15
  go_wp2_with fail
  refine (HN.out _).mono ?_
  rintro e w1 ⟨rfl, rfl⟩
  go_wp2_with fail
  refine (HB.out _).mono ?_
  rintro e w1 ⟨rfl, rfl⟩
  clear hT hP2 hT2 h3 d1 b0 b1 h6 h6' hP3 hP4 ho2 ho
  go_wp2_with fail
  refine (HX.out _ HT0.out).mono ?_
  rintro e w2 ⟨rfl, hb⟩
  have B2 := Lib.hid (B0.out.trans (hb.mono B0.out.size))
  have P2' := Lib.hid (P0.out.belowX hb)
  have k0 := P2'.out.key 0 _ rfl
  have k2 := P2'.out.key 2 _ rfl
  clear hb
  have m0 := P2'.out.key 3 _ rfl
  have m1 := P2'.out.key 4 _ rfl
  have m2 := P2'.out.key 5 _ rfl
  have m3 := P2'.out.key 6 _ rfl
  have m4 := P2'.out.key 7 _ rfl
  have m5 := P2'.out.key 8 _ rfl
  go_wp2_with fail
  refine (HO.out _).mono ?_
  rintro e w3 ⟨rfl, hb⟩
  have B3 := Lib.hid (B2.out.trans (hb.mono B2.out.size))
  have P3' := Lib.hid (P2'.out.belowX hb)
  clear hb m0 m1 m2 m3 m4 m5 k0 k2
  go_wp2_with fail
  go_ret
  exact ⟨by rw [HEQ.out]; rfl, B3.out⟩

set_option maxRecDepth 100000 in
set_option maxHeartbeats 4000000 in
theorem text_mac (x : Ev) (w : World) (hk : Kd x.k) (h1 : (x.k == 1) = true) (b0 : 0 ≤ x.a) (b1 : x.a < 4294967296) (ho : x.o.size ≤ 8) (six : Mc.Six x.c0 x.c1 x.c2 x.c3 x.c4 x.c5) (h6 : no6 x = false) (ht : Tab w) :
    Calls Tryd.prog 15 #[evv x] w fun e w' => e = .returned (.string (txt x)) ∧ Below w.heap.size w w' := by
  obtain ⟨hw1, hw2, -, -⟩ := hk.word
  have hw3 := lst_ne hw1
  have HN := Lib.hid fun W => name_any x.k W hk.bd.1 hk.bd.2
  have HB := Lib.hid fun W => ofBlock_any x.k W
  have P0 := Lib.hid (ev_box w x)
  have B0 := Lib.hid ((Below.refl w.heap.size w).alloc (Nat.le_refl _) (Evx x))
  have HT0 := Lib.hid (ht.below B0.out)
  have hn := arr_eq (nm x.k)
  have hE : nm x.k = ⟨(wL x.k).toArray⟩ := hn
  obtain ⟨K, hK⟩ : ∃ K, nm x.k = K := ⟨_, rfl⟩
  rw [hK] at hE hw1 hw3 HN
  obtain ⟨S1, hS1⟩ : ∃ S : ByteArray, S = ⟨#[32]⟩ := ⟨_, rfl⟩
  have hS2 : S1 = ⟨([32] : List UInt8).toArray⟩ := hS1
  obtain ⟨P1, hP1⟩ : ∃ P : ByteArray, P = ⟨(wL x.k ++ [32]).toArray⟩ := ⟨_, rfl⟩
  have a1 := fun W => sadd hE hS2 hP1 (by simp only [List.length_append, List.length_cons, List.length_nil]; omega) W
  rw [hS1] at a1
  have h3 : ((x.k == 3) || (x.k == 4)) = false := by rw [eq_of_beq h1]; decide
  have HX := Lib.hid fun W (h : Tab W) => Ad.text_any x.a W b0 b1 h
  have d1 := Ad.textL_len x.a b1
  obtain ⟨T, hT⟩ : ∃ T : ByteArray, T = ⟨(Ad.textL x.a).toArray⟩ := ⟨_, rfl⟩
  rw [← hT] at HX
  obtain ⟨P2, hP2⟩ : ∃ P : ByteArray, P = ⟨((wL x.k ++ [32]) ++ Ad.textL x.a).toArray⟩ := ⟨_, rfl⟩
  have a2 := fun W => sadd hP1 hT hP2 (by simp only [List.length_append, List.length_cons, List.length_nil]; omega) W
  rw [h3] at HB
  obtain ⟨P3, hP3⟩ : ∃ P : ByteArray, P = ⟨([32] ++ x.o.data.toList).toArray⟩ := ⟨_, rfl⟩
  have ho2 : x.o.data.toList.length ≤ 8 := by rw [← Lib.size_eq]; exact ho
  have a3 := fun W => sadd hS2 (arr_eq x.o) hP3 (by simp only [List.length_append, List.length_cons, List.length_nil]; omega) W
  rw [hS1] at a3
  obtain ⟨P4, hP4⟩ : ∃ P : ByteArray, P = ⟨(((wL x.k ++ [32]) ++ Ad.textL x.a) ++ ([32] ++ x.o.data.toList)).toArray⟩ := ⟨_, rfl⟩
  have a4 := fun W => sadd hP2 hP3 hP4 (by simp only [List.length_append, List.length_cons, List.length_nil]; omega) W
  have HO := Lib.hid fun W => Mc.none_any x.c0 x.c1 x.c2 x.c3 x.c4 x.c5 W
  have h6' := h6
  unfold no6 at h6'
  rw [h6'] at HO
  have HM := Lib.hid fun W => Mc.text_six x.c0 x.c1 x.c2 x.c3 x.c4 x.c5 W six
  obtain ⟨M, hM⟩ : ∃ M : ByteArray, M = mt x.c0 x.c1 x.c2 x.c3 x.c4 x.c5 := ⟨_, rfl⟩
  have hM3 := mt_len x.c0 x.c1 x.c2 x.c3 x.c4 x.c5
  have hM4 : M = ⟨(mt x.c0 x.c1 x.c2 x.c3 x.c4 x.c5).data.toList.toArray⟩ := hM.trans (arr_eq _)
  rw [show Mc.strOf (Mc.txg 58 (fun _ => false) [x.c0, x.c1, x.c2, x.c3, x.c4, x.c5] 6) = M from hM.symm] at HM
  obtain ⟨P5, hP5⟩ : ∃ P : ByteArray, P = ⟨((((wL x.k ++ [32]) ++ Ad.textL x.a) ++ ([32] ++ x.o.data.toList)) ++ [32]).toArray⟩ := ⟨_, rfl⟩
  have a5 := fun W => sadd hP4 hS2 hP5 (by simp only [List.length_append, List.length_cons, List.length_nil]; omega) W
  rw [hS1] at a5
  obtain ⟨P6, hP6⟩ : ∃ P : ByteArray, P = ⟨(((((wL x.k ++ [32]) ++ Ad.textL x.a) ++ ([32] ++ x.o.data.toList)) ++ [32]) ++ (mt x.c0 x.c1 x.c2 x.c3 x.c4 x.c5).data.toList).toArray⟩ := ⟨_, rfl⟩
  have a6 := fun W => sadd hP5 hM4 hP6 (by simp only [List.length_append, List.length_cons, List.length_nil]; omega) W
  have hT2 := hP6
  have HEQ := Lib.hid (show txt x = P6 from by rw [hT2]; unfold txt txL; rw [if_neg (by rw [h3]; decide), if_neg (by rw [h1]; decide), if_neg (by rw [h6]; decide)]; simp)
  unfold Evx at *
  clear hn hK hE hP1 hS2 hk hw2 ht
  unfold evv
  go_enter Tryd.func15, Tryd.ntmps15
  go_wp2_with fail
  refine (HN.out _).mono ?_
  rintro e w1 ⟨rfl, rfl⟩
  go_wp2_with fail
  refine (HB.out _).mono ?_
  rintro e w1 ⟨rfl, rfl⟩
  clear hT hP2 hT2 h3 d1 b0 b1 h6 h6' hP3 hP4 hP5 hP6 ho2 ho hM hM3 hM4 six
  go_wp2_with fail
  refine (HX.out _ HT0.out).mono ?_
  rintro e w2 ⟨rfl, hb⟩
  have B2 := Lib.hid (B0.out.trans (hb.mono B0.out.size))
  have P2' := Lib.hid (P0.out.belowX hb)
  have k0 := P2'.out.key 0 _ rfl
  have k2 := P2'.out.key 2 _ rfl
  clear hb
  have m0 := P2'.out.key 3 _ rfl
  have m1 := P2'.out.key 4 _ rfl
  have m2 := P2'.out.key 5 _ rfl
  have m3 := P2'.out.key 6 _ rfl
  have m4 := P2'.out.key 7 _ rfl
  have m5 := P2'.out.key 8 _ rfl
  go_wp2_with fail
  refine (HO.out _).mono ?_
  rintro e w3 ⟨rfl, hb⟩
  have B3 := Lib.hid (B2.out.trans (hb.mono B2.out.size))
  have P3' := Lib.hid (P2'.out.belowX hb)
  clear hb m0 m1 m2 m3 m4 m5 k0 k2
  have m0 := P3'.out.key 3 _ rfl
  have m1 := P3'.out.key 4 _ rfl
  have m2 := P3'.out.key 5 _ rfl
  have m3 := P3'.out.key 6 _ rfl
  have m4 := P3'.out.key 7 _ rfl
  have m5 := P3'.out.key 8 _ rfl
  go_wp2_with fail
  refine (HM.out _).mono ?_
  rintro e w4 ⟨rfl, hb⟩
  have B4 := Lib.hid (B3.out.trans (hb.mono B3.out.size))
  clear hb
  go_wp2_with fail
  go_ret
  exact ⟨by rw [HEQ.out]; rfl, B4.out⟩
end Go.Proofs.YtegbdagmnibfmaaDoor
