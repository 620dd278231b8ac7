/-
  What a command says that Text wrote: the event that it was written of. Conditions: the event is one that a command means.
-/
import Derived.Test.YtegbdagmnibfmaaDoorTx
set_option linter.unusedSimpArgs false
set_option linter.unusedVariables false
namespace Go.Proofs.YtegbdagmnibfmaaDoor
open Go.RowKit

/-- Events that commands mean: about a prefix, about a holder, 'hold'. -/
structure Vb (x : Ev) : Prop where
  k : ((x.k == 3) || (x.k == 4)) = true
  z : x = ⟨x.k, 0, ⟨#[]⟩, 0, 0, 0, 0, 0, 0, x.b, x.n⟩
  b0 : 0 ≤ x.b
  b1 : x.b < 4294967296
  ok : Ad.okB x.b x.n = true
structure V1 (x : Ev) : Prop where
  k : x.k = 2 ∨ x.k = 6 ∨ x.k = 7
  z : x = ⟨x.k, x.a, ⟨#[]⟩, 0, 0, 0, 0, 0, 0, 0, 0⟩
  a0 : 0 ≤ x.a
  a1 : x.a < 4294967296
structure Vh (x : Ev) : Prop where
  k : x.k = 1
  z : x = ⟨1, x.a, x.o, x.c0, x.c1, x.c2, x.c3, x.c4, x.c5, 0, 0⟩
  a0 : 0 ≤ x.a
  a1 : x.a < 4294967296
  may : Hd.mayB x.o = true
  six : Mc.Six x.c0 x.c1 x.c2 x.c3 x.c4 x.c5
  grp : no6 x = true ∨ (x.c0 % 2 == 1) = false
/-- Events that commands mean. -/
def Ve (x : Ev) : Prop := Vb x ∨ V1 x ∨ Vh x
theorem may_bytes {s : ByteArray} (h : Hd.mayB s = true) : s.size ≤ 8 ∧ (32 : UInt8) ∉ s.data.toList := by
  unfold Hd.mayB at h
  simp only [Bool.and_eq_true, decide_eq_true_eq] at h
  refine ⟨h.1.2, fun hm => ?_⟩
  have h2 := h.2
  unfold Hd.obs at h2
  rw [List.all_eq_true] at h2
  have e : s.data.toList.take s.size = s.data.toList := List.take_of_length_le (by rw [Lib.size_eq]; exact Nat.le_refl _)
  rw [e] at h2
  have := h2 32 hm
  revert this
  decide
theorem eq6_all {a0 a1 a2 a3 a4 a5 b0 b1 b2 b3 b4 b5 : Int} (h : Mc.eq6 a0 a1 a2 a3 a4 a5 b0 b1 b2 b3 b4 b5 = true) : a0 = b0 ∧ a1 = b1 ∧ a2 = b2 ∧ a3 = b3 ∧ a4 = b4 ∧ a5 = b5 := by
  unfold Mc.eq6 at h
  exact of_decide_eq_true h
theorem psO_words {s : ByteArray} {x0 : List UInt8} {r : List (List UInt8)} {k : Int} (hs : s.size ≤ 200) (hw : wl s.data.toList = x0 :: r) (hk : knd ⟨x0.toArray⟩ = k) (h0 : k ≠ 0) (hl : ¬ ((x0 :: r).length : Int) < loW k) (hh : ¬ hiW k < ((x0 :: r).length : Int)) :
    psO s = match x0 :: r with
      | [a, x] => if ((knd ⟨a.toArray⟩ == 3) || (knd ⟨a.toArray⟩ == 4)) = true then blkO (knd ⟨a.toArray⟩) ⟨x.toArray⟩ else ho2 (knd ⟨a.toArray⟩) ⟨x.toArray⟩
      | [a, x, y] => ho3 (knd ⟨a.toArray⟩) ⟨x.toArray⟩ ⟨y.toArray⟩
      | [a, x, y, z] => ho4 (knd ⟨a.toArray⟩) ⟨x.toArray⟩ ⟨y.toArray⟩ ⟨z.toArray⟩
      | _ => (zev, 0, 1) := by
  unfold psO
  rw [if_pos hs, hw, psW_cons, if_neg (by rw [hk]; exact h0), if_neg (by rw [hk]; exact hl), if_neg (by rw [hk]; exact hh)]
  rfl
theorem size_txt (x : Ev) : (txt x).size = (txL x).length := by show (txL x).toArray.size = _; simp
theorem knd_wL {k : Int} (h : Kd k) : knd ⟨(wL k).toArray⟩ = k := by
  have : (⟨(wL k).toArray⟩ : ByteArray) = nm k := (arr_eq (nm k)).symm
  rw [this]
  exact h.word.2.2.2
theorem pbl_text {b n : Int} (b0 : 0 ≤ b) (b1 : b < 4294967296) (hok : Ad.okB b n = true) : Ad.pblO (Ad.textL b ++ 47 :: Ad.dig n) = some (b, n) := by
  obtain ⟨n0, n1, -⟩ := Ad.ok_out hok
  unfold Ad.pblO
  rw [Ad.cut_at (Ad.text_not b 47 (by decide) (by decide))]
  simp only [Ad.parse_text b b0 b1, Ad.numO_dig 32 n n0 n1, hok, if_true]
theorem ps_blk {x : Ev} (h : Vb x) : psO (txt x) = (x, 0, 0) := by
  have hk : Kd x.k := by have := h.k; unfold Kd; simp at this; omega
  obtain ⟨n0, n1, -⟩ := Ad.ok_out h.ok
  have d1 := Ad.textL_len x.b h.b1
  have d2 := Ad.dig_len (n := x.n) (by omega)
  have hL : txL x = wL x.k ++ 32 :: (Ad.textL x.b ++ 47 :: Ad.dig x.n) := by unfold txL; rw [if_pos h.k]
  have h32 : (32 : UInt8) ∉ Ad.textL x.b ++ 47 :: Ad.dig x.n := by
    intro hm
    rcases List.mem_append.1 hm with hm | hm
    · exact Ad.text_not x.b 32 (by decide) (by decide) hm
    · rcases List.mem_cons.1 hm with hm | hm
      · exact absurd hm (by decide)
      · exact Ad.dig_not x.n 32 (by decide) hm
  have hw : wl (txt x).data.toList = [wL x.k, Ad.textL x.b ++ 47 :: Ad.dig x.n] := by
    show wl (txL x) = _
    rw [hL, wl_app hk.word.2.2.1, wl_one h32]
  have hlo : loW x.k = 2 ∧ hiW x.k = 2 := by have := h.k; simp at this; unfold loW hiW; rw [if_neg (by omega), if_neg (by omega)]; exact ⟨rfl, rfl⟩
  rw [psO_words (by rw [size_txt, hL]; have := hk.word.2.1; simp only [List.length_append, List.length_cons]; omega) hw (knd_wL hk) (by have := h.k; simp at this; omega) (by rw [hlo.1]; simp) (by rw [hlo.2]; simp)]
  simp only [knd_wL hk, h.k, if_true]
  unfold blkO
  rw [show (⟨(Ad.textL x.b ++ 47 :: Ad.dig x.n).toArray⟩ : ByteArray).data.toList = Ad.textL x.b ++ 47 :: Ad.dig x.n from rfl, pbl_text h.b0 h.b1 h.ok]
  simp only
  rw [← h.z]
theorem ps_one {x : Ev} (h : V1 x) : psO (txt x) = (x, 0, 0) := by
  have hk : Kd x.k := by have := h.k; unfold Kd; omega
  have d1 := Ad.textL_len x.a h.a1
  have h3 : ((x.k == 3) || (x.k == 4)) = false := by rcases h.k with e | e | e <;> rw [e] <;> decide
  have h1 : (x.k == 1) = false := by rcases h.k with e | e | e <;> rw [e] <;> decide
  have hL : txL x = wL x.k ++ 32 :: Ad.textL x.a := by unfold txL; rw [if_neg (by rw [h3]; decide), if_pos h1]
  have h32 := Ad.text_not x.a 32 (by decide) (by decide)
  have hw : wl (txt x).data.toList = [wL x.k, Ad.textL x.a] := by
    show wl (txL x) = _
    rw [hL, wl_app hk.word.2.2.1, wl_one h32]
  have hlo : loW x.k = 2 ∧ hiW x.k = 2 := by have := h.k; unfold loW hiW; rw [if_neg (by omega), if_neg (by omega)]; exact ⟨rfl, rfl⟩
  rw [psO_words (by rw [size_txt, hL]; have := hk.word.2.1; simp only [List.length_append, List.length_cons]; omega) hw (knd_wL hk) (by have := h.k; omega) (by rw [hlo.1]; simp) (by rw [hlo.2]; simp)]
  simp only [knd_wL hk, h3]
  rw [if_neg (by decide)]
  unfold ho2
  rw [show (⟨(Ad.textL x.a).toArray⟩ : ByteArray).data.toList = Ad.textL x.a from rfl, Ad.parse_text x.a h.a0 h.a1]
  simp only
  rw [← h.z]
theorem ps_hold {x : Ev} (h : Vh x) : psO (txt x) = (x, 0, 0) := by
  have hk : Kd x.k := .inl h.k
  have d1 := Ad.textL_len x.a h.a1
  obtain ⟨m1, m2⟩ := may_bytes h.may
  have m1' : x.o.data.toList.length ≤ 8 := by rw [← Lib.size_eq]; exact m1
  have h3 : ((x.k == 3) || (x.k == 4)) = false := by rw [h.k]; decide
  have h1 : (x.k == 1) = true := by rw [h.k]; decide
  have h32 := Ad.text_not x.a 32 (by decide) (by decide)
  have hlo : loW x.k = 3 ∧ hiW x.k = 4 := by rw [h.k]; decide
  have hpa : Ad.parseO (⟨(Ad.textL x.a).toArray⟩ : ByteArray).data.toList = some x.a := Ad.parse_text x.a h.a0 h.a1
  have hO : (⟨x.o.data.toList.toArray⟩ : ByteArray) = x.o := (arr_eq x.o).symm
  cases h6 : no6 x
  · have hL : txL x = wL x.k ++ 32 :: (Ad.textL x.a ++ 32 :: (x.o.data.toList ++ 32 :: (mt x.c0 x.c1 x.c2 x.c3 x.c4 x.c5).data.toList)) := by
      unfold txL; rw [if_neg (by rw [h3]; decide), if_neg (by rw [h1]; decide), if_neg (by rw [h6]; decide)]
    have hM := mt_len x.c0 x.c1 x.c2 x.c3 x.c4 x.c5
    have hw : wl (txt x).data.toList = [wL x.k, Ad.textL x.a, x.o.data.toList, (mt x.c0 x.c1 x.c2 x.c3 x.c4 x.c5).data.toList] := by
      show wl (txL x) = _
      rw [hL, wl_app hk.word.2.2.1, wl_app h32, wl_app m2, wl_one (mt_not h.six)]
    rw [psO_words (by rw [size_txt, hL]; have := hk.word.2.1; simp only [List.length_append, List.length_cons]; omega) hw (knd_wL hk) (by rw [h.k]; decide) (by rw [hlo.1]; simp) (by rw [hlo.2]; simp)]
    simp only [knd_wL hk]
    have e2 : Mc.okB (mt x.c0 x.c1 x.c2 x.c3 x.c4 x.c5) = true := Mc.txg_ok _ (.inl rfl) h.six
    have g0 : Mc.mb (mt x.c0 x.c1 x.c2 x.c3 x.c4 x.c5) 0 = x.c0 := Mc.txg_mb _ (.inl rfl) h.six 0 (by omega)
    have g1 : Mc.mb (mt x.c0 x.c1 x.c2 x.c3 x.c4 x.c5) 1 = x.c1 := Mc.txg_mb _ (.inl rfl) h.six 1 (by omega)
    have g2 : Mc.mb (mt x.c0 x.c1 x.c2 x.c3 x.c4 x.c5) 2 = x.c2 := Mc.txg_mb _ (.inl rfl) h.six 2 (by omega)
    have g3 : Mc.mb (mt x.c0 x.c1 x.c2 x.c3 x.c4 x.c5) 3 = x.c3 := Mc.txg_mb _ (.inl rfl) h.six 3 (by omega)
    have g4 : Mc.mb (mt x.c0 x.c1 x.c2 x.c3 x.c4 x.c5) 4 = x.c4 := Mc.txg_mb _ (.inl rfl) h.six 4 (by omega)
    have g5 : Mc.mb (mt x.c0 x.c1 x.c2 x.c3 x.c4 x.c5) 5 = x.c5 := Mc.txg_mb _ (.inl rfl) h.six 5 (by omega)
    have hbad : badB (mt x.c0 x.c1 x.c2 x.c3 x.c4 x.c5) = false := by
      unfold badB
      rw [g0, g1, g2, g3, g4, g5]
      have e1 : Mc.eq6 x.c0 x.c1 x.c2 x.c3 x.c4 x.c5 0 0 0 0 0 0 = false := h6
      rw [e1]
      rcases h.grp with hg | hg
      · rw [h6] at hg; cases hg
      · rw [hg]; rfl
    have hMM : (⟨(mt x.c0 x.c1 x.c2 x.c3 x.c4 x.c5).data.toList.toArray⟩ : ByteArray) = mt x.c0 x.c1 x.c2 x.c3 x.c4 x.c5 := (arr_eq _).symm
    unfold ho4
    rw [hpa, hO, hMM]
    simp only [h.may, e2, hbad, g0, g1, g2, g3, g4, g5, if_true, Bool.false_eq_true, if_false, h.k]
    rw [← h.z]
  · have hL : txL x = wL x.k ++ 32 :: (Ad.textL x.a ++ 32 :: x.o.data.toList) := by
      unfold txL; rw [if_neg (by rw [h3]; decide), if_neg (by rw [h1]; decide), if_pos h6]
    have hw : wl (txt x).data.toList = [wL x.k, Ad.textL x.a, x.o.data.toList] := by
      show wl (txL x) = _
      rw [hL, wl_app hk.word.2.2.1, wl_app h32, wl_one m2]
    rw [psO_words (by rw [size_txt, hL]; have := hk.word.2.1; simp only [List.length_append, List.length_cons]; omega) hw (knd_wL hk) (by rw [h.k]; decide) (by rw [hlo.1]; simp) (by rw [hlo.2]; simp)]
    simp only [knd_wL hk]
    unfold ho3
    rw [hpa, hO]
    simp only [h.may, if_true, h.k]
    obtain ⟨e0, e1, e2, e3, e4, e5⟩ := eq6_all h6
    have hz := h.z
    rw [e0, e1, e2, e3, e4, e5] at hz
    rw [← hz]
theorem ps_txt {x : Ev} (h : Ve x) : psO (txt x) = (x, 0, 0) := by
  rcases h with h | h | h
  · exact ps_blk h
  · exact ps_one h
  · exact ps_hold h
/-- Unlike events have unlike commands. -/
theorem txt_inj {x y : Ev} (hx : Ve x) (hy : Ve y) (h : txt x = txt y) : x = y := by
  have h1 := ps_txt hx
  rw [h, ps_txt hy] at h1
  injection h1 with h1 _
  exact h1.symm
theorem text_any (x : Ev) (w : World) (h : Ve x) (ht : Tab w) : Calls Tryd.prog 15 #[evv x] w fun e w' => e = .returned (.string (txt x)) ∧ Below w.heap.size w w' := by
  rcases h with h | h | h
  · obtain ⟨n0, n1, -⟩ := Ad.ok_out h.ok
    exact text_blk x w (by have := h.k; unfold Kd; simp at this; omega) h.k h.b0 h.b1 n0 n1 ht
  · exact text_one x w (by have := h.k; unfold Kd; omega) (by rcases h.k with e | e | e <;> rw [e] <;> decide) (by rcases h.k with e | e | e <;> rw [e] <;> decide) h.a0 h.a1 ht
  · have h1 : (x.k == 1) = true := by rw [h.k]; decide
    cases h6 : no6 x
    · exact text_mac x w (.inl h.k) h1 h.a0 h.a1 (may_bytes h.may).1 h.six h6 ht
    · exact text_none x w (.inl h.k) h1 h.a0 h.a1 (may_bytes h.may).1 h6 ht
end Go.Proofs.YtegbdagmnibfmaaDoor
