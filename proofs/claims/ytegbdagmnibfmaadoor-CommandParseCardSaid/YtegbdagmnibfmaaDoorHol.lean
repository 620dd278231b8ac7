/-
  Contracts of command.blockEvent and holderEvent. Conditions: the words lie in memory; texts are ones that a process can hold.
-/
import Derived.Test.YtegbdagmnibfmaaDoorNam
set_option linter.unusedSimpArgs false
set_option linter.unusedVariables false
namespace Go.Proofs.YtegbdagmnibfmaaDoor
open Go.RowKit

theorem Mc.mb_bd (y : ByteArray) (k : Nat) : 0 ≤ Mc.mb y k ∧ Mc.mb y k < 256 := by
  unfold Mc.mb
  have h1 := Mc.digN_bd (Mc.at_ y (3 * k))
  have h2 := Mc.digN_bd (Mc.at_ y (3 * k + 1))
  omega
/-- What a command about a prefix means, by its second word. -/
def blkO (k : Int) (X : ByteArray) : Ev × Int × Int :=
  match Ad.pblO X.data.toList with
  | none => (zev, 1, 1)
  | some (a, b) => (⟨k, 0, ⟨#[]⟩, 0, 0, 0, 0, 0, 0, a, b⟩, 0, 0)
/-- Whether a number is no station's. -/
def badB (y : ByteArray) : Bool := Mc.eq6 (Mc.mb y 0) (Mc.mb y 1) (Mc.mb y 2) (Mc.mb y 3) (Mc.mb y 4) (Mc.mb y 5) 0 0 0 0 0 0 || (Mc.mb y 0 % 2 == 1)
/-- What a command about a holder means, by its words behind the first one. -/
def ho2 (k : Int) (X : ByteArray) : Ev × Int × Int :=
  match Ad.parseO X.data.toList with
  | none => (zev, 1, 1)
  | some a => (⟨k, a, ⟨#[]⟩, 0, 0, 0, 0, 0, 0, 0, 0⟩, 0, 0)
def ho3 (k : Int) (X Y : ByteArray) : Ev × Int × Int :=
  match Ad.parseO X.data.toList with
  | none => (zev, 1, 1)
  | some a => if Hd.mayB Y = true then (⟨k, a, Y, 0, 0, 0, 0, 0, 0, 0, 0⟩, 0, 0) else (zev, 2, 3)
def ho4 (k : Int) (X Y Z : ByteArray) : Ev × Int × Int :=
  match Ad.parseO X.data.toList with
  | none => (zev, 1, 1)
  | some a => if Hd.mayB Y = true then
      (if Mc.okB Z = true then (if badB Z = true then (zev, 3, 1) else (⟨k, a, Y, Mc.mb Z 0, Mc.mb Z 1, Mc.mb Z 2, Mc.mb Z 3, Mc.mb Z 4, Mc.mb Z 5, 0, 0⟩, 0, 0)) else (zev, 3, 1))
    else (zev, 2, 3)

theorem pblO_bd {l : List UInt8} {a b : Int} (h : Ad.pblO l = some (a, b)) : 0 ≤ a ∧ a < 4294967296 ∧ 0 ≤ b ∧ b ≤ 32 := by
  unfold Ad.pblO at h
  split at h
  · cases h
  · rename_i x hx
    split at h
    · cases h
    · rename_i y hy
      split at h
      · injection h with h
        injection h with h1 h2
        subst h1 h2
        have := Ad.parseO_bd hx
        have := Ad.numO_bd (by decide) hy
        omega
      · cases h

set_option maxRecDepth 100000 in
set_option maxHeartbeats 2000000 in
theorem blockEvent_any (k : Int) (g n c : Nat) (X : ByteArray) (w : World) (hn : 2 ≤ n) (hX : X.size ≤ maxLen) (hc : w.cell? ⟨g, 1, none⟩ = some (.string X)) :
    Calls Tryd.prog 25 #[.int .i64 k, .slice (some ⟨g, 0, none⟩) n c] w (PPost w (blkO k X)) := by
  have HP := Lib.hid fun W => Ad.parseBlock_any X W hX
  have P0 := Lib.hid (ev_box w zev)
  have B0 := Lib.hid ((Below.refl w.heap.size w).alloc (Nat.le_refl _) (Evx zev))
  have c0 : (w.alloc (Evx zev)).cell? ⟨g, 1, none⟩ = some (.string X) := by
    have := World.block_lt_of_cell? _ _ hc
    rw [World.cell?_alloc_lt _ _ ⟨g, 1, none⟩ this]; exact hc
  have hn1 : (1 : Int) < n := by omega
  have HW := Lib.hid fun W => wrongP 1 1 W (by decide) (by decide)
  have HO := Lib.hid (show blkO k X = match Ad.pblO X.data.toList with | none => (zev, 1, 1) | some (a, b) => (⟨k, 0, ⟨#[]⟩, 0, 0, 0, 0, 0, 0, a, b⟩, 0, 0) from rfl)
  unfold Evx zev at c0
  clear hc hX hn
  cases hO : Ad.pblO X.data.toList with
  | none =>
    rw [hO] at HP HO
    clear hO
    go_enter Tryd.func25, Tryd.ntmps25
    go_wp2_with fail
    refine (HP.out _).mono ?_
    rintro e w1 ⟨rfl, hb⟩
    simp only [Ad.pblV]
    have P1 := Lib.hid (P0.out.belowE hb)
    have B1 := Lib.hid (B0.out.trans (hb.mono B0.out.size))
    clear hb
    go_wp2_with fail
    refine (HW.out _).mono ?_
    rintro e w2 ⟨⟨bf, rfl, hl1, hl2, pe⟩, hb⟩
    have P2 := Lib.hid (P1.out.keep (((Below.refl _ w1).alloc (Nat.le_refl _) _).trans (hb.mono (by simp))) P1.out.ltE)
    have B2 := Lib.hid ((B1.out.alloc B1.out.size _).trans (hb.mono (by simp; have := B1.out.size; omega)))
    have PE := Lib.hid pe
    have HNE := Lib.hid (show bf ≠ w.heap.size by have := P1.out.ltE; simp at hl1; omega)
    clear hb pe
    go_wp2_with (refine at_store41 _ _ w.heap.size zev zev P2.out rfl rfl rfl rfl ?_; intro w3 P3 B3 G3)
    refine bodyPost_ret (results_cell2 rfl _ _ _ _ _ rfl rfl (loadv41 P3.out)) rfl ?_
    exact ⟨⟨_, by rw [HO.out], by rw [HO.out]; exact PE.out.other G3.out HNE.out⟩, B2.out.trans (B3.out _ (Nat.le_refl _))⟩
  | some p =>
    obtain ⟨a, b⟩ := p
    rw [hO] at HP HO
    clear hO
    go_enter Tryd.func25, Tryd.ntmps25
    go_wp2_with fail
    refine (HP.out _).mono ?_
    rintro e w1 ⟨rfl, hb⟩
    simp only [Ad.pblV]
    have P1 := Lib.hid (P0.out.belowE hb)
    have B1 := Lib.hid (B0.out.trans (hb.mono B0.out.size))
    clear hb
    have P2 := Lib.hid (P1.out.belowE ((Below.refl _ w1).alloc (Nat.le_refl _) (.cells #[.int .u32 a, .int .i64 b] 36)))
    have B2 := Lib.hid (B1.out.alloc B1.out.size (.cells #[.int .u32 a, .int .i64 b] 36))
    go_wp2_with (refine at_store41 _ _ w.heap.size zev ⟨k, 0, ⟨#[]⟩, 0, 0, 0, 0, 0, 0, a, b⟩ P2.out rfl rfl rfl rfl ?_; intro w3 P3 B3 G3)
    refine bodyPost_ret (results_cell2 rfl _ _ _ _ _ rfl rfl (loadv41 P3.out)) rfl ?_
    exact ⟨⟨_, by rw [HO.out], by rw [HO.out]; exact .inl ⟨rfl, rfl⟩⟩, B2.out.trans (B3.out _ (Nat.le_refl _))⟩
/-! ### A command about a holder -/
theorem at_load34 {ops : Array Oper} {rest : List Oper} {o : Oper} {a : Act} {w : World} {Q : Exit → Act → World → Prop} (x : Operand) (b : Nat) (p : Ev) (H : Cx w b (hll p)) (hgd : o.guard = none) (ho : o.op = .load 34 x) (hx : a.eval x = .pointer (some ⟨b, 0, none⟩))
    (h : wpList Tryd.prog ops Q rest (a.put o.dst (.agg #[.int .u32 p.a, .string p.o, .int .u8 p.c0, .int .u8 p.c1, .int .u8 p.c2, .int .u8 p.c3, .int .u8 p.c4, .int .u8 p.c5])) w) : wpList Tryd.prog ops Q (o :: rest) a w :=
  at_get 34 _ x b [] (hll p) [] (by simpa using H) Tryd.underlying34 rfl size34 hgd ho hx h
theorem keepC {w W : World} {g j : Nat} {v : Value} (hb : Below w.heap.size w W) (hc : w.cell? ⟨g, j, none⟩ = some v) : W.cell? ⟨g, j, none⟩ = some v := (hb.cell (p := ⟨g, j, none⟩) (World.block_lt_of_cell? _ _ hc)).trans hc

set_option maxRecDepth 100000 in
set_option maxHeartbeats 4000000 in
theorem holder2_any (k : Int) (g c : Nat) (X : ByteArray) (w : World) (hX : X.size ≤ maxLen) (hc1 : w.cell? ⟨g, 1, none⟩ = some (.string X)) :
    Calls Tryd.prog 26 #[.int .i64 k, .slice (some ⟨g, 0, none⟩) 2 c] w (PPost w (ho2 k X)) := by
  have HP := Lib.hid fun W => Ad.parse_any X W hX
  have P0 := Lib.hid (ev_box w zev)
  have B0 := Lib.hid ((Below.refl w.heap.size w).alloc (Nat.le_refl _) (Evx zev))
  have C1 := Lib.hid hc1
  have c1 := keepC B0.out hc1
  unfold Evx zev at c1
  have HW1 := Lib.hid fun W => wrongP 1 1 W (by decide) (by decide)
  obtain ⟨R, hR⟩ : ∃ R, ho2 k X = R := ⟨_, rfl⟩
  rw [hR]
  unfold ho2 at hR
  clear hX hc1
  cases hO : Ad.parseO X.data.toList with
  | none =>
    rw [hO] at HP hR
    clear hO
    have HO := Lib.hid hR.symm
    clear hR
    go_enter Tryd.func26, Tryd.ntmps26
    go_wp2_with fail
    refine (HP.out _).mono ?_
    rintro e w1 ⟨rfl, hb⟩
    simp only [Ad.parseV]
    have P1 := Lib.hid (P0.out.belowE hb)
    have B1 := Lib.hid (B0.out.trans (hb.mono B0.out.size))
    clear hb c1
    go_wp2_with fail
    refine (HW1.out _).mono ?_
    rintro e wz ⟨⟨bf, rfl, hl1, hl2, pe⟩, hb⟩
    have PZ := Lib.hid (P1.out.belowE hb)
    have BZ := Lib.hid (B1.out.trans (hb.mono B1.out.size))
    have PE := Lib.hid pe
    have HNE := Lib.hid (show bf ≠ w.heap.size by have := P1.out.ltE; omega)
    clear hb pe
    go_wp2_with (refine at_store41 _ _ w.heap.size zev zev PZ.out rfl rfl rfl rfl ?_; intro wy PY BY GY)
    refine bodyPost_ret (results_cell2 rfl _ _ _ _ _ rfl rfl (loadv41 PY.out)) rfl ?_
    exact ⟨⟨_, by rw [HO.out], by rw [HO.out]; exact PE.out.other GY.out HNE.out⟩, BZ.out.trans (BY.out _ (Nat.le_refl _))⟩
  | some a =>
    rw [hO] at HP hR
    clear hO
    have HO := Lib.hid hR.symm
    clear hR
    go_enter Tryd.func26, Tryd.ntmps26
    go_wp2_with fail
    refine (HP.out _).mono ?_
    rintro e w1 ⟨rfl, hb⟩
    simp only [Ad.parseV]
    have P1 := Lib.hid (P0.out.belowE hb)
    have B1 := Lib.hid (B0.out.trans (hb.mono B0.out.size))
    clear hb c1
    
    have P4 := Lib.hid (P1.out.belowE ((Below.refl _ w1).alloc (Nat.le_refl _) (.cells #[.int .u32 a, .string ⟨#[]⟩, .int .u8 0, .int .u8 0, .int .u8 0, .int .u8 0, .int .u8 0, .int .u8 0] 34)))
    have B4 := Lib.hid (B1.out.alloc B1.out.size (.cells #[.int .u32 a, .string ⟨#[]⟩, .int .u8 0, .int .u8 0, .int .u8 0, .int .u8 0, .int .u8 0, .int .u8 0] 34))
    have H4 := Lib.hid (cx_box w1 (hll ⟨k, a, ⟨#[]⟩, 0, 0, 0, 0, 0, 0, 0, 0⟩) #[.int .u32 a, .string ⟨#[]⟩, .int .u8 0, .int .u8 0, .int .u8 0, .int .u8 0, .int .u8 0, .int .u8 0] 34 rfl)
    have L4 := Lib.hid P1.out.ltE
    go_wp2_with (first | (refine at_load34 _ w1.heap.size (⟨k, a, ⟨#[]⟩, 0, 0, 0, 0, 0, 0, 0, 0⟩ : Ev) H4.out rfl rfl rfl ?_) | (refine at_store41 _ _ w.heap.size zev (⟨k, a, ⟨#[]⟩, 0, 0, 0, 0, 0, 0, 0, 0⟩ : Ev) P4.out rfl rfl rfl rfl ?_; intro wy PY BY GY))
    refine bodyPost_ret (results_cell2 rfl _ _ _ _ _ rfl rfl (loadv41 PY.out)) rfl ?_
    exact ⟨⟨_, by rw [HO.out], by rw [HO.out]; exact .inl ⟨rfl, rfl⟩⟩, B4.out.trans (BY.out _ (Nat.le_refl _))⟩

set_option maxRecDepth 100000 in
set_option maxHeartbeats 4000000 in
theorem holder3_any (k : Int) (g c : Nat) (X Y : ByteArray) (w : World) (hX : X.size ≤ maxLen) (hY : Y.size ≤ maxLen) (hc1 : w.cell? ⟨g, 1, none⟩ = some (.string X)) (hc2 : w.cell? ⟨g, 2, none⟩ = some (.string Y)) :
    Calls Tryd.prog 26 #[.int .i64 k, .slice (some ⟨g, 0, none⟩) 3 c] w (PPost w (ho3 k X Y)) := by
  have HP := Lib.hid fun W => Ad.parse_any X W hX
  have P0 := Lib.hid (ev_box w zev)
  have B0 := Lib.hid ((Below.refl w.heap.size w).alloc (Nat.le_refl _) (Evx zev))
  have C1 := Lib.hid hc1
  have C2 := Lib.hid hc2
  have c1 := keepC B0.out hc1
  unfold Evx zev at c1
  have HW1 := Lib.hid fun W => wrongP 1 1 W (by decide) (by decide)
  have HW2 := Lib.hid fun W => wrongP 2 3 W (by decide) (by decide)
  have HM := Lib.hid fun W => Hd.may_any Y W (by unfold maxLen at hY; omega)
  obtain ⟨R, hR⟩ : ∃ R, ho3 k X Y = R := ⟨_, rfl⟩
  rw [hR]
  unfold ho3 at hR
  clear hX hY hc1 hc2
  cases hO : Ad.parseO X.data.toList with
  | none =>
    rw [hO] at HP hR
    clear hO
    have HO := Lib.hid hR.symm
    clear hR
    go_enter Tryd.func26, Tryd.ntmps26
    go_wp2_with fail
    refine (HP.out _).mono ?_
    rintro e w1 ⟨rfl, hb⟩
    simp only [Ad.parseV]
    have P1 := Lib.hid (P0.out.belowE hb)
    have B1 := Lib.hid (B0.out.trans (hb.mono B0.out.size))
    clear hb c1
    go_wp2_with fail
    refine (HW1.out _).mono ?_
    rintro e wz ⟨⟨bf, rfl, hl1, hl2, pe⟩, hb⟩
    have PZ := Lib.hid (P1.out.belowE hb)
    have BZ := Lib.hid (B1.out.trans (hb.mono B1.out.size))
    have PE := Lib.hid pe
    have HNE := Lib.hid (show bf ≠ w.heap.size by have := P1.out.ltE; omega)
    clear hb pe
    go_wp2_with (refine at_store41 _ _ w.heap.size zev zev PZ.out rfl rfl rfl rfl ?_; intro wy PY BY GY)
    refine bodyPost_ret (results_cell2 rfl _ _ _ _ _ rfl rfl (loadv41 PY.out)) rfl ?_
    exact ⟨⟨_, by rw [HO.out], by rw [HO.out]; exact PE.out.other GY.out HNE.out⟩, BZ.out.trans (BY.out _ (Nat.le_refl _))⟩
  | some a =>
    rw [hO] at HP hR
    clear hO
    cases hM : Hd.mayB Y
    · rw [hM] at HM hR
      have HO := Lib.hid (hR.symm.trans (if_neg (by decide)))
      clear hR hM
      go_enter Tryd.func26, Tryd.ntmps26
      go_wp2_with fail
      refine (HP.out _).mono ?_
      rintro e w1 ⟨rfl, hb⟩
      simp only [Ad.parseV]
      have P1 := Lib.hid (P0.out.belowE hb)
      have B1 := Lib.hid (B0.out.trans (hb.mono B0.out.size))
      clear hb c1
      
      have P4 := Lib.hid (P1.out.belowE ((Below.refl _ w1).alloc (Nat.le_refl _) (.cells #[.int .u32 a, .string ⟨#[]⟩, .int .u8 0, .int .u8 0, .int .u8 0, .int .u8 0, .int .u8 0, .int .u8 0] 34)))
      have B4 := Lib.hid (B1.out.alloc B1.out.size (.cells #[.int .u32 a, .string ⟨#[]⟩, .int .u8 0, .int .u8 0, .int .u8 0, .int .u8 0, .int .u8 0, .int .u8 0] 34))
      have H4 := Lib.hid (cx_box w1 (hll ⟨k, a, ⟨#[]⟩, 0, 0, 0, 0, 0, 0, 0, 0⟩) #[.int .u32 a, .string ⟨#[]⟩, .int .u8 0, .int .u8 0, .int .u8 0, .int .u8 0, .int .u8 0, .int .u8 0] 34 rfl)
      have L4 := Lib.hid P1.out.ltE
      have c2 := keepC B4.out C2.out
      go_wp2_with fail
      refine (HM.out _).mono ?_
      rintro e wm ⟨rfl, rfl⟩
      go_wp2_with fail
      refine (HW2.out _).mono ?_
      rintro e wz ⟨⟨bf, rfl, hl1, hl2, pe⟩, hb⟩
      have PZ := Lib.hid (P4.out.belowE hb)
      have BZ := Lib.hid (B4.out.trans (hb.mono B4.out.size))
      have PE := Lib.hid pe
      have HNE := Lib.hid (show bf ≠ w.heap.size by have := P4.out.ltE; omega)
      clear hb pe
      go_wp2_with (refine at_store41 _ _ w.heap.size zev zev PZ.out rfl rfl rfl rfl ?_; intro wy PY BY GY)
      refine bodyPost_ret (results_cell2 rfl _ _ _ _ _ rfl rfl (loadv41 PY.out)) rfl ?_
      exact ⟨⟨_, by rw [HO.out], by rw [HO.out]; exact PE.out.other GY.out HNE.out⟩, BZ.out.trans (BY.out _ (Nat.le_refl _))⟩
    · rw [hM] at HM hR
      have HO := Lib.hid (hR.symm.trans (if_pos rfl))
      clear hR hM
      go_enter Tryd.func26, Tryd.ntmps26
      go_wp2_with fail
      refine (HP.out _).mono ?_
      rintro e w1 ⟨rfl, hb⟩
      simp only [Ad.parseV]
      have P1 := Lib.hid (P0.out.belowE hb)
      have B1 := Lib.hid (B0.out.trans (hb.mono B0.out.size))
      clear hb c1
      
      have P4 := Lib.hid (P1.out.belowE ((Below.refl _ w1).alloc (Nat.le_refl _) (.cells #[.int .u32 a, .string ⟨#[]⟩, .int .u8 0, .int .u8 0, .int .u8 0, .int .u8 0, .int .u8 0, .int .u8 0] 34)))
      have B4 := Lib.hid (B1.out.alloc B1.out.size (.cells #[.int .u32 a, .string ⟨#[]⟩, .int .u8 0, .int .u8 0, .int .u8 0, .int .u8 0, .int .u8 0, .int .u8 0] 34))
      have H4 := Lib.hid (cx_box w1 (hll ⟨k, a, ⟨#[]⟩, 0, 0, 0, 0, 0, 0, 0, 0⟩) #[.int .u32 a, .string ⟨#[]⟩, .int .u8 0, .int .u8 0, .int .u8 0, .int .u8 0, .int .u8 0, .int .u8 0] 34 rfl)
      have L4 := Lib.hid P1.out.ltE
      have P5 := Lib.hid (P1.out.belowE ((Below.refl _ w1).alloc (Nat.le_refl _) (.cells #[.int .u32 a, .string Y, .int .u8 0, .int .u8 0, .int .u8 0, .int .u8 0, .int .u8 0, .int .u8 0] 34)))
      have B5 := Lib.hid (B1.out.alloc B1.out.size (.cells #[.int .u32 a, .string Y, .int .u8 0, .int .u8 0, .int .u8 0, .int .u8 0, .int .u8 0, .int .u8 0] 34))
      have H5 := Lib.hid (cx_box w1 (hll (⟨k, a, Y, 0, 0, 0, 0, 0, 0, 0, 0⟩ : Ev)) #[.int .u32 a, .string Y, .int .u8 0, .int .u8 0, .int .u8 0, .int .u8 0, .int .u8 0, .int .u8 0] 34 rfl)
      have c2 := keepC B4.out C2.out
      go_wp2_with fail
      refine (HM.out _).mono ?_
      rintro e wm ⟨rfl, rfl⟩
      go_wp2_with (first | (refine at_load34 _ w1.heap.size (⟨k, a, Y, 0, 0, 0, 0, 0, 0, 0, 0⟩ : Ev) H5.out rfl rfl rfl ?_) | (refine at_store41 _ _ w.heap.size zev (⟨k, a, Y, 0, 0, 0, 0, 0, 0, 0, 0⟩ : Ev) P5.out rfl rfl rfl rfl ?_; intro wy PY BY GY))
      refine bodyPost_ret (results_cell2 rfl _ _ _ _ _ rfl rfl (loadv41 PY.out)) rfl ?_
      exact ⟨⟨_, by rw [HO.out], by rw [HO.out]; exact .inl ⟨rfl, rfl⟩⟩, B5.out.trans (BY.out _ (Nat.le_refl _))⟩

set_option maxRecDepth 100000 in
set_option maxHeartbeats 4000000 in
theorem holder4_any (k : Int) (g c : Nat) (X Y Z : ByteArray) (w : World) (hX : X.size ≤ maxLen) (hY : Y.size ≤ maxLen) (hc1 : w.cell? ⟨g, 1, none⟩ = some (.string X)) (hc2 : w.cell? ⟨g, 2, none⟩ = some (.string Y)) (hc3 : w.cell? ⟨g, 3, none⟩ = some (.string Z)) :
    Calls Tryd.prog 26 #[.int .i64 k, .slice (some ⟨g, 0, none⟩) 4 c] w (PPost w (ho4 k X Y Z)) := by
  have HP := Lib.hid fun W => Ad.parse_any X W hX
  have P0 := Lib.hid (ev_box w zev)
  have B0 := Lib.hid ((Below.refl w.heap.size w).alloc (Nat.le_refl _) (Evx zev))
  have C1 := Lib.hid hc1
  have C2 := Lib.hid hc2
  have C3 := Lib.hid hc3
  have c1 := keepC B0.out hc1
  unfold Evx zev at c1
  have HW1 := Lib.hid fun W => wrongP 1 1 W (by decide) (by decide)
  have HW2 := Lib.hid fun W => wrongP 2 3 W (by decide) (by decide)
  have HM := Lib.hid fun W => Hd.may_any Y W (by unfold maxLen at hY; omega)
  have HW3 := Lib.hid fun W => wrongP 3 1 W (by decide) (by decide)
  obtain ⟨R, hR⟩ : ∃ R, ho4 k X Y Z = R := ⟨_, rfl⟩
  rw [hR]
  unfold ho4 at hR
  clear hX hY hc1 hc2 hc3
  cases hO : Ad.parseO X.data.toList with
  | none =>
    rw [hO] at HP hR
    clear hO
    have HO := Lib.hid hR.symm
    clear hR
    go_enter Tryd.func26, Tryd.ntmps26
    go_wp2_with fail
    refine (HP.out _).mono ?_
    rintro e w1 ⟨rfl, hb⟩
    simp only [Ad.parseV]
    have P1 := Lib.hid (P0.out.belowE hb)
    have B1 := Lib.hid (B0.out.trans (hb.mono B0.out.size))
    clear hb c1
    go_wp2_with fail
    refine (HW1.out _).mono ?_
    rintro e wz ⟨⟨bf, rfl, hl1, hl2, pe⟩, hb⟩
    have PZ := Lib.hid (P1.out.belowE hb)
    have BZ := Lib.hid (B1.out.trans (hb.mono B1.out.size))
    have PE := Lib.hid pe
    have HNE := Lib.hid (show bf ≠ w.heap.size by have := P1.out.ltE; omega)
    clear hb pe
    go_wp2_with (refine at_store41 _ _ w.heap.size zev zev PZ.out rfl rfl rfl rfl ?_; intro wy PY BY GY)
    refine bodyPost_ret (results_cell2 rfl _ _ _ _ _ rfl rfl (loadv41 PY.out)) rfl ?_
    exact ⟨⟨_, by rw [HO.out], by rw [HO.out]; exact PE.out.other GY.out HNE.out⟩, BZ.out.trans (BY.out _ (Nat.le_refl _))⟩
  | some a =>
    rw [hO] at HP hR
    clear hO
    cases hM : Hd.mayB Y
    · rw [hM] at HM hR
      have HO := Lib.hid (hR.symm.trans (if_neg (by decide)))
      clear hR hM
      go_enter Tryd.func26, Tryd.ntmps26
      go_wp2_with fail
      refine (HP.out _).mono ?_
      rintro e w1 ⟨rfl, hb⟩
      simp only [Ad.parseV]
      have P1 := Lib.hid (P0.out.belowE hb)
      have B1 := Lib.hid (B0.out.trans (hb.mono B0.out.size))
      clear hb c1
      
      have P4 := Lib.hid (P1.out.belowE ((Below.refl _ w1).alloc (Nat.le_refl _) (.cells #[.int .u32 a, .string ⟨#[]⟩, .int .u8 0, .int .u8 0, .int .u8 0, .int .u8 0, .int .u8 0, .int .u8 0] 34)))
      have B4 := Lib.hid (B1.out.alloc B1.out.size (.cells #[.int .u32 a, .string ⟨#[]⟩, .int .u8 0, .int .u8 0, .int .u8 0, .int .u8 0, .int .u8 0, .int .u8 0] 34))
      have H4 := Lib.hid (cx_box w1 (hll ⟨k, a, ⟨#[]⟩, 0, 0, 0, 0, 0, 0, 0, 0⟩) #[.int .u32 a, .string ⟨#[]⟩, .int .u8 0, .int .u8 0, .int .u8 0, .int .u8 0, .int .u8 0, .int .u8 0] 34 rfl)
      have L4 := Lib.hid P1.out.ltE
      have c2 := keepC B4.out C2.out
      go_wp2_with fail
      refine (HM.out _).mono ?_
      rintro e wm ⟨rfl, rfl⟩
      go_wp2_with fail
      refine (HW2.out _).mono ?_
      rintro e wz ⟨⟨bf, rfl, hl1, hl2, pe⟩, hb⟩
      have PZ := Lib.hid (P4.out.belowE hb)
      have BZ := Lib.hid (B4.out.trans (hb.mono B4.out.size))
      have PE := Lib.hid pe
      have HNE := Lib.hid (show bf ≠ w.heap.size by have := P4.out.ltE; omega)
      clear hb pe
      go_wp2_with (refine at_store41 _ _ w.heap.size zev zev PZ.out rfl rfl rfl rfl ?_; intro wy PY BY GY)
      refine bodyPost_ret (results_cell2 rfl _ _ _ _ _ rfl rfl (loadv41 PY.out)) rfl ?_
      exact ⟨⟨_, by rw [HO.out], by rw [HO.out]; exact PE.out.other GY.out HNE.out⟩, BZ.out.trans (BY.out _ (Nat.le_refl _))⟩
    · rw [hM] at HM hR
      replace hR := hR.symm.trans (if_pos rfl)
      clear hM
      cases hK : Mc.okB Z
      · have HK := Lib.hid fun W => Mc.parse_no Z W hK
        have HO := Lib.hid (hR.trans (if_neg (by rw [hK]; decide)))
        clear hR hK
        go_enter Tryd.func26, Tryd.ntmps26
        go_wp2_with fail
        refine (HP.out _).mono ?_
        rintro e w1 ⟨rfl, hb⟩
        simp only [Ad.parseV]
        have P1 := Lib.hid (P0.out.belowE hb)
        have B1 := Lib.hid (B0.out.trans (hb.mono B0.out.size))
        clear hb c1
        
        have P4 := Lib.hid (P1.out.belowE ((Below.refl _ w1).alloc (Nat.le_refl _) (.cells #[.int .u32 a, .string ⟨#[]⟩, .int .u8 0, .int .u8 0, .int .u8 0, .int .u8 0, .int .u8 0, .int .u8 0] 34)))
        have B4 := Lib.hid (B1.out.alloc B1.out.size (.cells #[.int .u32 a, .string ⟨#[]⟩, .int .u8 0, .int .u8 0, .int .u8 0, .int .u8 0, .int .u8 0, .int .u8 0] 34))
        have H4 := Lib.hid (cx_box w1 (hll ⟨k, a, ⟨#[]⟩, 0, 0, 0, 0, 0, 0, 0, 0⟩) #[.int .u32 a, .string ⟨#[]⟩, .int .u8 0, .int .u8 0, .int .u8 0, .int .u8 0, .int .u8 0, .int .u8 0] 34 rfl)
        have L4 := Lib.hid P1.out.ltE
        have P5 := Lib.hid (P1.out.belowE ((Below.refl _ w1).alloc (Nat.le_refl _) (.cells #[.int .u32 a, .string Y, .int .u8 0, .int .u8 0, .int .u8 0, .int .u8 0, .int .u8 0, .int .u8 0] 34)))
        have B5 := Lib.hid (B1.out.alloc B1.out.size (.cells #[.int .u32 a, .string Y, .int .u8 0, .int .u8 0, .int .u8 0, .int .u8 0, .int .u8 0, .int .u8 0] 34))
        have H5 := Lib.hid (cx_box w1 (hll (⟨k, a, Y, 0, 0, 0, 0, 0, 0, 0, 0⟩ : Ev)) #[.int .u32 a, .string Y, .int .u8 0, .int .u8 0, .int .u8 0, .int .u8 0, .int .u8 0, .int .u8 0] 34 rfl)
        have c2 := keepC B4.out C2.out
        go_wp2_with fail
        refine (HM.out _).mono ?_
        rintro e wm ⟨rfl, rfl⟩
        have c3 := keepC B5.out C3.out
        go_wp2_with fail
        refine (HK.out _).mono ?_
        rintro e w6 ⟨rfl, hb⟩
        have P6 := Lib.hid (P5.out.belowE hb)
        have B6 := Lib.hid (B5.out.trans (hb.mono B5.out.size))
        have H6 := Lib.hid (show Cx w6 w1.heap.size (hll (⟨k, a, Y, 0, 0, 0, 0, 0, 0, 0, 0⟩ : Ev)) from H5.out.keep hb (Cx.lt H5.out))
        clear hb
        have P7 := Lib.hid (P6.out.belowE ((Below.refl _ w6).alloc (Nat.le_refl _) (.cells #[.int .u8 0, .int .u8 0, .int .u8 0, .int .u8 0, .int .u8 0, .int .u8 0] 32)))
        have B7 := Lib.hid (B6.out.alloc B6.out.size (.cells #[.int .u8 0, .int .u8 0, .int .u8 0, .int .u8 0, .int .u8 0, .int .u8 0] 32))
        go_wp2_with fail
        refine (HW3.out _).mono ?_
        rintro e wz ⟨⟨bf, rfl, hl1, hl2, pe⟩, hb⟩
        have PZ := Lib.hid (P7.out.belowE hb)
        have BZ := Lib.hid (B7.out.trans (hb.mono B7.out.size))
        have PE := Lib.hid pe
        have HNE := Lib.hid (show bf ≠ w.heap.size by have := P7.out.ltE; omega)
        clear hb pe
        go_wp2_with (refine at_store41 _ _ w.heap.size zev zev PZ.out rfl rfl rfl rfl ?_; intro wy PY BY GY)
        refine bodyPost_ret (results_cell2 rfl _ _ _ _ _ rfl rfl (loadv41 PY.out)) rfl ?_
        exact ⟨⟨_, by rw [HO.out], by rw [HO.out]; exact PE.out.other GY.out HNE.out⟩, BZ.out.trans (BY.out _ (Nat.le_refl _))⟩
      · have HK := Lib.hid fun W => Mc.parse_yes Z W hK
        replace hR := hR.trans (if_pos hK)
        unfold badB at hR
        have hm := Mc.mb_bd Z 0
        have HN := Lib.hid fun W => Mc.none_any (Mc.mb Z 0) (Mc.mb Z 1) (Mc.mb Z 2) (Mc.mb Z 3) (Mc.mb Z 4) (Mc.mb Z 5) W
        have HG := Lib.hid fun W => Mc.group_any (Mc.mb Z 0) (Mc.mb Z 1) (Mc.mb Z 2) (Mc.mb Z 3) (Mc.mb Z 4) (Mc.mb Z 5) W hm.1 hm.2
        generalize Mc.eq6 (Mc.mb Z 0) (Mc.mb Z 1) (Mc.mb Z 2) (Mc.mb Z 3) (Mc.mb Z 4) (Mc.mb Z 5) 0 0 0 0 0 0 = NN at *
        generalize (Mc.mb Z 0 % 2 == 1) = GG at *
        generalize Mc.mb Z 0 = m0 at *
        generalize Mc.mb Z 1 = m1 at *
        generalize Mc.mb Z 2 = m2 at *
        generalize Mc.mb Z 3 = m3 at *
        generalize Mc.mb Z 4 = m4 at *
        generalize Mc.mb Z 5 = m5 at *
        clear hm hK
        cases NN
        · cases GG
          · have HO := Lib.hid (hR.trans (if_neg (by decide)))
            clear hR
            go_enter Tryd.func26, Tryd.ntmps26
            go_wp2_with fail
            refine (HP.out _).mono ?_
            rintro e w1 ⟨rfl, hb⟩
            simp only [Ad.parseV]
            have P1 := Lib.hid (P0.out.belowE hb)
            have B1 := Lib.hid (B0.out.trans (hb.mono B0.out.size))
            clear hb c1
            
            have P4 := Lib.hid (P1.out.belowE ((Below.refl _ w1).alloc (Nat.le_refl _) (.cells #[.int .u32 a, .string ⟨#[]⟩, .int .u8 0, .int .u8 0, .int .u8 0, .int .u8 0, .int .u8 0, .int .u8 0] 34)))
            have B4 := Lib.hid (B1.out.alloc B1.out.size (.cells #[.int .u32 a, .string ⟨#[]⟩, .int .u8 0, .int .u8 0, .int .u8 0, .int .u8 0, .int .u8 0, .int .u8 0] 34))
            have H4 := Lib.hid (cx_box w1 (hll ⟨k, a, ⟨#[]⟩, 0, 0, 0, 0, 0, 0, 0, 0⟩) #[.int .u32 a, .string ⟨#[]⟩, .int .u8 0, .int .u8 0, .int .u8 0, .int .u8 0, .int .u8 0, .int .u8 0] 34 rfl)
            have L4 := Lib.hid P1.out.ltE
            have P5 := Lib.hid (P1.out.belowE ((Below.refl _ w1).alloc (Nat.le_refl _) (.cells #[.int .u32 a, .string Y, .int .u8 0, .int .u8 0, .int .u8 0, .int .u8 0, .int .u8 0, .int .u8 0] 34)))
            have B5 := Lib.hid (B1.out.alloc B1.out.size (.cells #[.int .u32 a, .string Y, .int .u8 0, .int .u8 0, .int .u8 0, .int .u8 0, .int .u8 0, .int .u8 0] 34))
            have H5 := Lib.hid (cx_box w1 (hll (⟨k, a, Y, 0, 0, 0, 0, 0, 0, 0, 0⟩ : Ev)) #[.int .u32 a, .string Y, .int .u8 0, .int .u8 0, .int .u8 0, .int .u8 0, .int .u8 0, .int .u8 0] 34 rfl)
            have c2 := keepC B4.out C2.out
            go_wp2_with fail
            refine (HM.out _).mono ?_
            rintro e wm ⟨rfl, rfl⟩
            have c3 := keepC B5.out C3.out
            go_wp2_with fail
            refine (HK.out _).mono ?_
            rintro e w6 ⟨rfl, hb⟩
            have P6 := Lib.hid (P5.out.belowE hb)
            have B6 := Lib.hid (B5.out.trans (hb.mono B5.out.size))
            have H6 := Lib.hid (show Cx w6 w1.heap.size (hll (⟨k, a, Y, 0, 0, 0, 0, 0, 0, 0, 0⟩ : Ev)) from H5.out.keep hb (Cx.lt H5.out))
            clear hb
            have P7 := Lib.hid (P6.out.belowE ((Below.refl _ w6).alloc (Nat.le_refl _) (.cells #[.int .u8 m0, .int .u8 m1, .int .u8 m2, .int .u8 m3, .int .u8 m4, .int .u8 m5] 32)))
            have B7 := Lib.hid (B6.out.alloc B6.out.size (.cells #[.int .u8 m0, .int .u8 m1, .int .u8 m2, .int .u8 m3, .int .u8 m4, .int .u8 m5] 32))
            have M7 := Lib.hid (cx_box w6 [.int .u8 m0, .int .u8 m1, .int .u8 m2, .int .u8 m3, .int .u8 m4, .int .u8 m5] #[.int .u8 m0, .int .u8 m1, .int .u8 m2, .int .u8 m3, .int .u8 m4, .int .u8 m5] 32 rfl)
            have H7 := Lib.hid (show Cx (w6.alloc (.cells #[.int .u8 m0, .int .u8 m1, .int .u8 m2, .int .u8 m3, .int .u8 m4, .int .u8 m5] 32)) w1.heap.size (hll (⟨k, a, Y, 0, 0, 0, 0, 0, 0, 0, 0⟩ : Ev)) from H6.out.keep ((Below.refl _ w6).alloc (Nat.le_refl _) _) (Cx.lt H6.out))
            go_wp2_with fail
            refine (HN.out _).mono ?_
            rintro e w8 ⟨rfl, hb⟩
            have P8 := Lib.hid (P7.out.belowE hb)
            have B8 := Lib.hid (B7.out.trans (hb.mono B7.out.size))
            have H8 := Lib.hid (show Cx w8 w1.heap.size (hll (⟨k, a, Y, 0, 0, 0, 0, 0, 0, 0, 0⟩ : Ev)) from H7.out.keep hb (Cx.lt H7.out))
            have M8 := Lib.hid (show Cx w8 w6.heap.size [.int .u8 m0, .int .u8 m1, .int .u8 m2, .int .u8 m3, .int .u8 m4, .int .u8 m5] from M7.out.keep hb (Cx.lt M7.out))
            clear hb
            have em0 := M8.out.key 0 _ rfl
            have em1 := M8.out.key 1 _ rfl
            have em2 := M8.out.key 2 _ rfl
            have em3 := M8.out.key 3 _ rfl
            have em4 := M8.out.key 4 _ rfl
            have em5 := M8.out.key 5 _ rfl
            go_wp2_with fail
            refine (HG.out _).mono ?_
            rintro e w9 ⟨rfl, hb⟩
            clear em0 em1 em2 em3 em4 em5
            have P9 := Lib.hid (P8.out.belowE hb)
            have B9 := Lib.hid (B8.out.trans (hb.mono B8.out.size))
            have H9 := Lib.hid (show Cx w9 w1.heap.size (hll (⟨k, a, Y, 0, 0, 0, 0, 0, 0, 0, 0⟩ : Ev)) from H8.out.keep hb (Cx.lt H8.out))
            have M9 := Lib.hid (show Cx w9 w6.heap.size [.int .u8 m0, .int .u8 m1, .int .u8 m2, .int .u8 m3, .int .u8 m4, .int .u8 m5] from M8.out.keep hb (Cx.lt M8.out))
            clear hb
            go_wp2_with (first | (refine at_get 32 _ _ w6.heap.size [] [.int .u8 m0, .int .u8 m1, .int .u8 m2, .int .u8 m3, .int .u8 m4, .int .u8 m5] [] (by simpa using M9.out) Tryd.underlying32 rfl size32 rfl rfl rfl ?_) | (refine at_put 32 _ _ w1.heap.size [.int .u32 a, .string Y] [.int .u8 0, .int .u8 0, .int .u8 0, .int .u8 0, .int .u8 0, .int .u8 0] [.int .u8 m0, .int .u8 m1, .int .u8 m2, .int .u8 m3, .int .u8 m4, .int .u8 m5] [] H9.out rfl size32 (by simp [Value.oneCell']) rfl rfl rfl rfl ?_; intro wx HX BX GX; have PX := Lib.hid (P9.out.keep (BX.out _ (Nat.le_refl _)) L4.out)) | (refine at_load34 _ w1.heap.size (⟨k, a, Y, m0, m1, m2, m3, m4, m5, 0, 0⟩ : Ev) HX.out rfl rfl rfl ?_) | (refine at_store41 _ _ w.heap.size zev (⟨k, a, Y, m0, m1, m2, m3, m4, m5, 0, 0⟩ : Ev) PX.out rfl rfl rfl rfl ?_; intro wy PY BY GY))
            refine bodyPost_ret (results_cell2 rfl _ _ _ _ _ rfl rfl (loadv41 PY.out)) rfl ?_
            exact ⟨⟨_, by rw [HO.out], by rw [HO.out]; exact .inl ⟨rfl, rfl⟩⟩, (B9.out.trans (BX.out _ (Nat.le_of_lt L4.out))).trans (BY.out _ (Nat.le_refl _))⟩
          · have HO := Lib.hid (hR.trans (if_pos rfl))
            clear hR
            go_enter Tryd.func26, Tryd.ntmps26
            go_wp2_with fail
            refine (HP.out _).mono ?_
            rintro e w1 ⟨rfl, hb⟩
            simp only [Ad.parseV]
            have P1 := Lib.hid (P0.out.belowE hb)
            have B1 := Lib.hid (B0.out.trans (hb.mono B0.out.size))
            clear hb c1
            
            have P4 := Lib.hid (P1.out.belowE ((Below.refl _ w1).alloc (Nat.le_refl _) (.cells #[.int .u32 a, .string ⟨#[]⟩, .int .u8 0, .int .u8 0, .int .u8 0, .int .u8 0, .int .u8 0, .int .u8 0] 34)))
            have B4 := Lib.hid (B1.out.alloc B1.out.size (.cells #[.int .u32 a, .string ⟨#[]⟩, .int .u8 0, .int .u8 0, .int .u8 0, .int .u8 0, .int .u8 0, .int .u8 0] 34))
            have H4 := Lib.hid (cx_box w1 (hll ⟨k, a, ⟨#[]⟩, 0, 0, 0, 0, 0, 0, 0, 0⟩) #[.int .u32 a, .string ⟨#[]⟩, .int .u8 0, .int .u8 0, .int .u8 0, .int .u8 0, .int .u8 0, .int .u8 0] 34 rfl)
            have L4 := Lib.hid P1.out.ltE
            have P5 := Lib.hid (P1.out.belowE ((Below.refl _ w1).alloc (Nat.le_refl _) (.cells #[.int .u32 a, .string Y, .int .u8 0, .int .u8 0, .int .u8 0, .int .u8 0, .int .u8 0, .int .u8 0] 34)))
            have B5 := Lib.hid (B1.out.alloc B1.out.size (.cells #[.int .u32 a, .string Y, .int .u8 0, .int .u8 0, .int .u8 0, .int .u8 0, .int .u8 0, .int .u8 0] 34))
            have H5 := Lib.hid (cx_box w1 (hll (⟨k, a, Y, 0, 0, 0, 0, 0, 0, 0, 0⟩ : Ev)) #[.int .u32 a, .string Y, .int .u8 0, .int .u8 0, .int .u8 0, .int .u8 0, .int .u8 0, .int .u8 0] 34 rfl)
            have c2 := keepC B4.out C2.out
            go_wp2_with fail
            refine (HM.out _).mono ?_
            rintro e wm ⟨rfl, rfl⟩
            have c3 := keepC B5.out C3.out
            go_wp2_with fail
            refine (HK.out _).mono ?_
            rintro e w6 ⟨rfl, hb⟩
            have P6 := Lib.hid (P5.out.belowE hb)
            have B6 := Lib.hid (B5.out.trans (hb.mono B5.out.size))
            have H6 := Lib.hid (show Cx w6 w1.heap.size (hll (⟨k, a, Y, 0, 0, 0, 0, 0, 0, 0, 0⟩ : Ev)) from H5.out.keep hb (Cx.lt H5.out))
            clear hb
            have P7 := Lib.hid (P6.out.belowE ((Below.refl _ w6).alloc (Nat.le_refl _) (.cells #[.int .u8 m0, .int .u8 m1, .int .u8 m2, .int .u8 m3, .int .u8 m4, .int .u8 m5] 32)))
            have B7 := Lib.hid (B6.out.alloc B6.out.size (.cells #[.int .u8 m0, .int .u8 m1, .int .u8 m2, .int .u8 m3, .int .u8 m4, .int .u8 m5] 32))
            have M7 := Lib.hid (cx_box w6 [.int .u8 m0, .int .u8 m1, .int .u8 m2, .int .u8 m3, .int .u8 m4, .int .u8 m5] #[.int .u8 m0, .int .u8 m1, .int .u8 m2, .int .u8 m3, .int .u8 m4, .int .u8 m5] 32 rfl)
            have H7 := Lib.hid (show Cx (w6.alloc (.cells #[.int .u8 m0, .int .u8 m1, .int .u8 m2, .int .u8 m3, .int .u8 m4, .int .u8 m5] 32)) w1.heap.size (hll (⟨k, a, Y, 0, 0, 0, 0, 0, 0, 0, 0⟩ : Ev)) from H6.out.keep ((Below.refl _ w6).alloc (Nat.le_refl _) _) (Cx.lt H6.out))
            go_wp2_with fail
            refine (HN.out _).mono ?_
            rintro e w8 ⟨rfl, hb⟩
            have P8 := Lib.hid (P7.out.belowE hb)
            have B8 := Lib.hid (B7.out.trans (hb.mono B7.out.size))
            have H8 := Lib.hid (show Cx w8 w1.heap.size (hll (⟨k, a, Y, 0, 0, 0, 0, 0, 0, 0, 0⟩ : Ev)) from H7.out.keep hb (Cx.lt H7.out))
            have M8 := Lib.hid (show Cx w8 w6.heap.size [.int .u8 m0, .int .u8 m1, .int .u8 m2, .int .u8 m3, .int .u8 m4, .int .u8 m5] from M7.out.keep hb (Cx.lt M7.out))
            clear hb
            have em0 := M8.out.key 0 _ rfl
            have em1 := M8.out.key 1 _ rfl
            have em2 := M8.out.key 2 _ rfl
            have em3 := M8.out.key 3 _ rfl
            have em4 := M8.out.key 4 _ rfl
            have em5 := M8.out.key 5 _ rfl
            go_wp2_with fail
            refine (HG.out _).mono ?_
            rintro e w9 ⟨rfl, hb⟩
            clear em0 em1 em2 em3 em4 em5
            have P9 := Lib.hid (P8.out.belowE hb)
            have B9 := Lib.hid (B8.out.trans (hb.mono B8.out.size))
            have H9 := Lib.hid (show Cx w9 w1.heap.size (hll (⟨k, a, Y, 0, 0, 0, 0, 0, 0, 0, 0⟩ : Ev)) from H8.out.keep hb (Cx.lt H8.out))
            have M9 := Lib.hid (show Cx w9 w6.heap.size [.int .u8 m0, .int .u8 m1, .int .u8 m2, .int .u8 m3, .int .u8 m4, .int .u8 m5] from M8.out.keep hb (Cx.lt M8.out))
            clear hb
            go_wp2_with fail
            refine (HW3.out _).mono ?_
            rintro e wz ⟨⟨bf, rfl, hl1, hl2, pe⟩, hb⟩
            have PZ := Lib.hid (P9.out.belowE hb)
            have BZ := Lib.hid (B9.out.trans (hb.mono B9.out.size))
            have PE := Lib.hid pe
            have HNE := Lib.hid (show bf ≠ w.heap.size by have := P9.out.ltE; omega)
            clear hb pe
            go_wp2_with (refine at_store41 _ _ w.heap.size zev zev PZ.out rfl rfl rfl rfl ?_; intro wy PY BY GY)
            refine bodyPost_ret (results_cell2 rfl _ _ _ _ _ rfl rfl (loadv41 PY.out)) rfl ?_
            exact ⟨⟨_, by rw [HO.out], by rw [HO.out]; exact PE.out.other GY.out HNE.out⟩, BZ.out.trans (BY.out _ (Nat.le_refl _))⟩
        · have HO := Lib.hid (hR.trans (if_pos rfl))
          clear hR
          go_enter Tryd.func26, Tryd.ntmps26
          go_wp2_with fail
          refine (HP.out _).mono ?_
          rintro e w1 ⟨rfl, hb⟩
          simp only [Ad.parseV]
          have P1 := Lib.hid (P0.out.belowE hb)
          have B1 := Lib.hid (B0.out.trans (hb.mono B0.out.size))
          clear hb c1
          
          have P4 := Lib.hid (P1.out.belowE ((Below.refl _ w1).alloc (Nat.le_refl _) (.cells #[.int .u32 a, .string ⟨#[]⟩, .int .u8 0, .int .u8 0, .int .u8 0, .int .u8 0, .int .u8 0, .int .u8 0] 34)))
          have B4 := Lib.hid (B1.out.alloc B1.out.size (.cells #[.int .u32 a, .string ⟨#[]⟩, .int .u8 0, .int .u8 0, .int .u8 0, .int .u8 0, .int .u8 0, .int .u8 0] 34))
          have H4 := Lib.hid (cx_box w1 (hll ⟨k, a, ⟨#[]⟩, 0, 0, 0, 0, 0, 0, 0, 0⟩) #[.int .u32 a, .string ⟨#[]⟩, .int .u8 0, .int .u8 0, .int .u8 0, .int .u8 0, .int .u8 0, .int .u8 0] 34 rfl)
          have L4 := Lib.hid P1.out.ltE
          have P5 := Lib.hid (P1.out.belowE ((Below.refl _ w1).alloc (Nat.le_refl _) (.cells #[.int .u32 a, .string Y, .int .u8 0, .int .u8 0, .int .u8 0, .int .u8 0, .int .u8 0, .int .u8 0] 34)))
          have B5 := Lib.hid (B1.out.alloc B1.out.size (.cells #[.int .u32 a, .string Y, .int .u8 0, .int .u8 0, .int .u8 0, .int .u8 0, .int .u8 0, .int .u8 0] 34))
          have H5 := Lib.hid (cx_box w1 (hll (⟨k, a, Y, 0, 0, 0, 0, 0, 0, 0, 0⟩ : Ev)) #[.int .u32 a, .string Y, .int .u8 0, .int .u8 0, .int .u8 0, .int .u8 0, .int .u8 0, .int .u8 0] 34 rfl)
          have c2 := keepC B4.out C2.out
          go_wp2_with fail
          refine (HM.out _).mono ?_
          rintro e wm ⟨rfl, rfl⟩
          have c3 := keepC B5.out C3.out
          go_wp2_with fail
          refine (HK.out _).mono ?_
          rintro e w6 ⟨rfl, hb⟩
          have P6 := Lib.hid (P5.out.belowE hb)
          have B6 := Lib.hid (B5.out.trans (hb.mono B5.out.size))
          have H6 := Lib.hid (show Cx w6 w1.heap.size (hll (⟨k, a, Y, 0, 0, 0, 0, 0, 0, 0, 0⟩ : Ev)) from H5.out.keep hb (Cx.lt H5.out))
          clear hb
          have P7 := Lib.hid (P6.out.belowE ((Below.refl _ w6).alloc (Nat.le_refl _) (.cells #[.int .u8 m0, .int .u8 m1, .int .u8 m2, .int .u8 m3, .int .u8 m4, .int .u8 m5] 32)))
          have B7 := Lib.hid (B6.out.alloc B6.out.size (.cells #[.int .u8 m0, .int .u8 m1, .int .u8 m2, .int .u8 m3, .int .u8 m4, .int .u8 m5] 32))
          have M7 := Lib.hid (cx_box w6 [.int .u8 m0, .int .u8 m1, .int .u8 m2, .int .u8 m3, .int .u8 m4, .int .u8 m5] #[.int .u8 m0, .int .u8 m1, .int .u8 m2, .int .u8 m3, .int .u8 m4, .int .u8 m5] 32 rfl)
          have H7 := Lib.hid (show Cx (w6.alloc (.cells #[.int .u8 m0, .int .u8 m1, .int .u8 m2, .int .u8 m3, .int .u8 m4, .int .u8 m5] 32)) w1.heap.size (hll (⟨k, a, Y, 0, 0, 0, 0, 0, 0, 0, 0⟩ : Ev)) from H6.out.keep ((Below.refl _ w6).alloc (Nat.le_refl _) _) (Cx.lt H6.out))
          go_wp2_with fail
          refine (HN.out _).mono ?_
          rintro e w8 ⟨rfl, hb⟩
          have P8 := Lib.hid (P7.out.belowE hb)
          have B8 := Lib.hid (B7.out.trans (hb.mono B7.out.size))
          have H8 := Lib.hid (show Cx w8 w1.heap.size (hll (⟨k, a, Y, 0, 0, 0, 0, 0, 0, 0, 0⟩ : Ev)) from H7.out.keep hb (Cx.lt H7.out))
          have M8 := Lib.hid (show Cx w8 w6.heap.size [.int .u8 m0, .int .u8 m1, .int .u8 m2, .int .u8 m3, .int .u8 m4, .int .u8 m5] from M7.out.keep hb (Cx.lt M7.out))
          clear hb
          go_wp2_with fail
          refine (HW3.out _).mono ?_
          rintro e wz ⟨⟨bf, rfl, hl1, hl2, pe⟩, hb⟩
          have PZ := Lib.hid (P8.out.belowE hb)
          have BZ := Lib.hid (B8.out.trans (hb.mono B8.out.size))
          have PE := Lib.hid pe
          have HNE := Lib.hid (show bf ≠ w.heap.size by have := P8.out.ltE; omega)
          clear hb pe
          go_wp2_with (refine at_store41 _ _ w.heap.size zev zev PZ.out rfl rfl rfl rfl ?_; intro wy PY BY GY)
          refine bodyPost_ret (results_cell2 rfl _ _ _ _ _ rfl rfl (loadv41 PY.out)) rfl ?_
          exact ⟨⟨_, by rw [HO.out], by rw [HO.out]; exact PE.out.other GY.out HNE.out⟩, BZ.out.trans (BY.out _ (Nat.le_refl _))⟩
end Go.Proofs.YtegbdagmnibfmaaDoor
