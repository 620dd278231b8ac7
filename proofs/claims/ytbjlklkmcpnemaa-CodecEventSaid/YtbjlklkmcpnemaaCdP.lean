/-
  What is read of an event's bytes: laws of plain data. No condition.
-/
import Derived.Test.YtbjlklkmcpnemaaCdQ
set_option linter.unusedSimpArgs false
set_option linter.unusedVariables false
namespace Go.Proofs.Ytbjlklkmcpnemaa
open Go.RowKit

theorem tk_app {n : Nat} {a : List UInt8} (h : a.length = n) (b : List UInt8) (sh : Bool) : tkP n ⟨a ++ b, sh⟩ = a ∧ tkS n ⟨a ++ b, sh⟩ = ⟨b, sh⟩ := by
  have hl : ¬ (a ++ b).length < n := by rw [List.length_append]; omega
  unfold tkP tkS
  rw [if_neg hl, if_neg hl]
  subst h
  simp
theorem tk_none {n : Nat} (h : 0 < n) (sh : Bool) : tkP n ⟨[], sh⟩ = [] ∧ tkS n ⟨[], sh⟩ = ⟨[], true⟩ := by
  unfold tkP tkS
  rw [if_pos (by simpa using h), if_pos (by simpa using h)]
  exact ⟨rfl, rfl⟩
theorem vl_nb1 (n : Int) : vl (nb 1 n) = n % 256 := by
  have h := byt_nat n
  rw [(vl_small (l := nb 1 n) (by rw [nb_length]; omega)).1]
  simp [nb, un]
  exact h
theorem un_nb4 {a : Int} (h0 : 0 ≤ a) (h1 : a < 4294967296) : (un (nb 4 a) : Int) = a := by
  have b0 := byt_nat (a / 16777216)
  have b1 := byt_nat (a / 65536)
  have b2 := byt_nat (a / 256)
  have b3 := byt_nat a
  have e : un (nb 4 a) = (byt (a / 16777216)).toNat * 16777216 + ((byt (a / 65536)).toNat * 65536 + ((byt (a / 256)).toNat * 256 + (byt a).toNat)) := by
    simp [nb, un]
  rw [e]
  omega
theorem mq_mc {m0 m1 m2 m3 m4 m5 : Int} (h : By6 m0 m1 m2 m3 m4 m5) (b : List UInt8) (sh : Bool) :
    mq ⟨mcB m0 m1 m2 m3 m4 m5 ++ b, sh⟩ 0 = m0 ∧ mq ⟨mcB m0 m1 m2 m3 m4 m5 ++ b, sh⟩ 1 = m1 ∧ mq ⟨mcB m0 m1 m2 m3 m4 m5 ++ b, sh⟩ 2 = m2 ∧ mq ⟨mcB m0 m1 m2 m3 m4 m5 ++ b, sh⟩ 3 = m3 ∧ mq ⟨mcB m0 m1 m2 m3 m4 m5 ++ b, sh⟩ 4 = m4 ∧ mq ⟨mcB m0 m1 m2 m3 m4 m5 ++ b, sh⟩ 5 = m5 := by
  unfold mq
  rw [(tk_app (n := 6) (a := mcB m0 m1 m2 m3 m4 m5) rfl b sh).1]
  exact ⟨byt_in h.a, byt_in h.b, byt_in h.c, byt_in h.d, byt_in h.e, byt_in h.f⟩
theorem ow_app {n : Int} {T : ByteArray} (hT : T.size ≤ 255) (b : List UInt8) (sh : Bool) : owP ⟨nb 1 (T.size : Int) ++ (T.data.toList ++ b), sh⟩ = T ∧ owS ⟨nb 1 (T.size : Int) ++ (T.data.toList ++ b), sh⟩ = ⟨b, sh⟩ := by
  have h1 := tk_app (n := 1) (a := nb 1 (T.size : Int)) (nb_length _ _) (T.data.toList ++ b) sh
  have hl : T.data.toList.length = T.size := by show T.data.toList.length = T.data.size; simp
  have h2 := tk_app (n := T.size) (a := T.data.toList) hl b sh
  have hv : (vl (nb 1 (T.size : Int))).toNat = T.size := by rw [vl_nb1]; omega
  unfold owP owS owL
  rw [h1.1, h1.2, hv, h2.1, h2.2]
  exact ⟨st_str T, rfl⟩
theorem rd_ok (e : Ev) (h : e.Ok) (hT : e.T.size ≤ 255) (h0 : 0 ≤ e.k) (h1 : e.k < 256) : rdE ⟨evB e, false⟩ = (baE e, ⟨[], false⟩) := by
  obtain ⟨k, a, T, m0, m1, m2, m3, m4, m5, b, n, f, s0, s1, s2, s3, s4, s5, t⟩ := e
  have ha0 := h.a0
  have ha1 := h.a1
  have hb0 := h.b0
  have hb1 := h.b1
  have hm := h.m
  have hs := h.s
  dsimp only at ha0 ha1 hb0 hb1 hm hs hT h0 h1
  have ha := un_nb4 ha0 ha1
  have hb := un_nb4 hb0 hb1
  have hk : k % 256 = k := by omega
  unfold evB baE
  dsimp only
  generalize hR : (if k = 1 then hdB a T m0 m1 m2 m3 m4 m5 else if k = 2 ∨ k = 6 ∨ k = 7 then nb 4 a else if k = 3 ∨ k = 4 then nb 4 b ++ nb 1 n else if k = 5 then nb 4 a ++ (nb 1 f ++ mcB s0 s1 s2 s3 s4 s5) else []) = R
  have t1 := tk_app (n := 1) (a := nb 1 k) (nb_length _ _) R false
  unfold rdE
  simp only [t1.1, t1.2, vl_nb1, hk]
  by_cases e1 : k = 1
  · subst e1
    rw [if_pos rfl] at hR
    rw [if_pos rfl, if_pos rfl]
    have hR' : R = nb 4 a ++ (nb 1 (T.size : Int) ++ (T.data.toList ++ (mcB m0 m1 m2 m3 m4 m5 ++ []))) := by rw [← hR]; simp [hdB]
    subst hR'
    have t4 := tk_app (n := 4) (a := nb 4 a) (nb_length _ _) (nb 1 (T.size : Int) ++ (T.data.toList ++ (mcB m0 m1 m2 m3 m4 m5 ++ []))) false
    have tw := ow_app (n := 0) hT (mcB m0 m1 m2 m3 m4 m5 ++ []) false
    have tm := mq_mc hm [] false
    have t6 := tk_app (n := 6) (a := mcB m0 m1 m2 m3 m4 m5) rfl [] false
    unfold adP
    rw [t4.1, t4.2, tw.1, tw.2, tm.1, tm.2.1, tm.2.2.1, tm.2.2.2.1, tm.2.2.2.2.1, tm.2.2.2.2.2, t6.2, ha]
  · rw [if_neg e1] at hR
    rw [if_neg e1, if_neg e1]
    by_cases e2 : k = 2 ∨ k = 6 ∨ k = 7
    · rw [if_pos e2] at hR
      rw [if_pos e2, if_pos e2]
      have hR' : R = nb 4 a ++ [] := by rw [← hR, List.append_nil]
      subst hR'
      have t4 := tk_app (n := 4) (a := nb 4 a) (nb_length _ _) [] false
      unfold adP
      rw [t4.1, t4.2, ha]
    · rw [if_neg e2] at hR
      rw [if_neg e2, if_neg e2]
      by_cases e3 : k = 3 ∨ k = 4
      · rw [if_pos e3] at hR
        rw [if_pos e3, if_pos e3]
        have hR' : R = nb 4 b ++ (nb 1 n ++ []) := by rw [← hR, List.append_nil]
        subst hR'
        have t4 := tk_app (n := 4) (a := nb 4 b) (nb_length _ _) (nb 1 n ++ []) false
        have t5 := tk_app (n := 1) (a := nb 1 n) (nb_length _ _) [] false
        unfold adP
        rw [t4.1, t4.2, t5.1, t5.2, hb, vl_nb1]
      · rw [if_neg e3] at hR
        rw [if_neg e3, if_neg e3]
        by_cases e5 : k = 5
        · subst e5
          rw [if_pos rfl] at hR
          rw [if_pos rfl, if_pos rfl]
          have hR' : R = nb 4 a ++ (nb 1 f ++ (mcB s0 s1 s2 s3 s4 s5 ++ [])) := by rw [← hR, List.append_nil]
          subst hR'
          have t4 := tk_app (n := 4) (a := nb 4 a) (nb_length _ _) (nb 1 f ++ (mcB s0 s1 s2 s3 s4 s5 ++ [])) false
          have t5 := tk_app (n := 1) (a := nb 1 f) (nb_length _ _) (mcB s0 s1 s2 s3 s4 s5 ++ []) false
          have tm := mq_mc hs [] false
          have t6 := tk_app (n := 6) (a := mcB s0 s1 s2 s3 s4 s5) rfl [] false
          unfold adP
          rw [t4.1, t4.2, t5.1, t5.2, tm.1, tm.2.1, tm.2.2.1, tm.2.2.2.1, tm.2.2.2.2.1, tm.2.2.2.2.2, t6.2, ha, vl_nb1]
        · rw [if_neg e5] at hR
          rw [if_neg e5, if_neg e5]
          subst hR
          rfl
theorem rg_my (e : Ev) (h0 : 0 ≤ e.k) : rgE (baE e) = myE (baE e) := by
  have hk : (baE e).k = e.k := by
    unfold baE
    split
    · rename_i h; exact h.symm ▸ rfl
    split
    · rfl
    split
    · rfl
    split
    · rfl
    · rfl
  unfold rgE myE
  rw [hk]
  by_cases e1 : e.k = 1
  · rw [if_pos e1, if_pos e1]
  · rw [if_neg e1, if_neg e1]
    by_cases e5 : e.k = 5
    · rw [if_pos e5, if_pos e5]
      have hf : (baE e).f = e.f % 256 := by
        unfold baE
        rw [if_neg e1, if_neg (by omega), if_neg (by omega), if_pos e5]
      rw [hf]
      have : 0 ≤ e.f % 256 := by omega
      by_cases hlt : e.f % 256 < 4
      · rw [decide_eq_true hlt, decide_eq_true ⟨this, by omega⟩]
      · rw [decide_eq_false hlt, decide_eq_false (by omega)]
    · rw [if_neg e5, if_neg e5]
      by_cases hlt : e.k < 8
      · rw [decide_eq_true hlt, decide_eq_true ⟨h0, hlt⟩]
      · rw [decide_eq_false hlt, decide_eq_false (by omega)]
/-- What is read of an event's bytes, if its kind is one byte. -/
theorem rev_in (e : Ev) (h : e.Ok) (hT : e.T.size ≤ 255) (h0 : 0 ≤ e.k) (h1 : e.k < 256) : rev (evB e) = if myE (baE e) = true then (baE e, true) else (zev, false) := by
  unfold rev
  rw [rd_ok e h hT h0 h1, rg_my e h0]
  rfl
/-- And of others: only what ends in a byte 0 is read. -/
theorem rev_out (e : Ev) (h : e.k < 0 ∨ 255 < e.k) : rev (evB e) = if e.k % 256 = 0 then (zev, true) else (zev, false) := by
  have hb : evB e = nb 1 e.k ++ [] := by
    unfold evB
    rw [if_neg (by omega), if_neg (by omega), if_neg (by omega), if_neg (by omega)]
  have t1 := tk_app (n := 1) (a := nb 1 e.k) (nb_length _ _) [] false
  have t4 := tk_none (n := 4) (by omega) false
  unfold rev
  rw [hb]
  have key : (rdE ⟨nb 1 e.k ++ [], false⟩).2.sh = true ∨ (rdE ⟨nb 1 e.k ++ [], false⟩ = (⟨e.k % 256, 0, ⟨#[]⟩, 0, 0, 0, 0, 0, 0, 0, 0, 0, 0, 0, 0, 0, 0, 0, 0⟩, ⟨[], false⟩) ∧ e.k % 256 ≠ 1 ∧ e.k % 256 ≠ 5) := by
    have sh : ∀ (n : Nat) (x : Rs), x.sh = true → (tkS n x).sh = true := fun n x hx => by
      unfold tkS
      split
      · rfl
      · exact hx
    unfold rdE
    rw [t1.1, t1.2, vl_nb1, t4.2]
    split
    · exact .inl (sh _ _ (sh _ _ (sh _ _ rfl)))
    split
    · exact .inl rfl
    split
    · exact .inl (sh _ _ rfl)
    split
    · exact .inl (sh _ _ (sh _ _ rfl))
    · rename_i h1 _ _ h5
      exact .inr ⟨rfl, h1, h5⟩
  rcases key with hs | ⟨hr, h1, h5⟩
  · have hne : ¬ e.k % 256 = 0 := fun h0 => by
      have : rdE ⟨nb 1 e.k ++ [], false⟩ = (⟨0, 0, ⟨#[]⟩, 0, 0, 0, 0, 0, 0, 0, 0, 0, 0, 0, 0, 0, 0, 0, 0⟩, ⟨[], false⟩) := by
        unfold rdE
        rw [t1.1, t1.2, vl_nb1, h0]
        rfl
      rw [this] at hs
      cases hs
    rw [hs, if_neg hne]
    rfl
  · rw [hr]
    unfold rgE
    dsimp only
    rw [if_neg h1, if_neg h5]
    by_cases h0 : e.k % 256 = 0
    · rw [h0]
      rfl
    · rw [if_neg h0]
      by_cases h8 : e.k % 256 < 8
      · exfalso
        have hx : rdE ⟨nb 1 e.k ++ [], false⟩ = (⟨e.k % 256, 0, ⟨#[]⟩, 0, 0, 0, 0, 0, 0, 0, 0, 0, 0, 0, 0, 0, 0, 0, 0⟩, ⟨[], false⟩) := hr
        unfold rdE at hx
        rw [t1.1, t1.2, vl_nb1, t4.2] at hx
        rw [if_neg h1] at hx
        by_cases g2 : e.k % 256 = 2 ∨ e.k % 256 = 6 ∨ e.k % 256 = 7
        · rw [if_pos g2] at hx
          have := congrArg (fun p => p.2.sh) hx
          cases this
        · rw [if_neg g2] at hx
          by_cases g3 : e.k % 256 = 3 ∨ e.k % 256 = 4
          · rw [if_pos g3] at hx
            have := congrArg (fun p => p.2.sh) hx
            have h' : (tkS 1 ⟨[], true⟩).sh = false := this
            rw [(tk_none (n := 1) (by omega) true).2] at h'
            cases h'
          · omega
      · rw [decide_eq_false h8]
        rfl
end Go.Proofs.Ytbjlklkmcpnemaa
