/-
  The contract of the statements' own 'number': the int of a text as it is printed, or none. Conditions: the text has at most 1000 bytes.
-/
import Derived.Test.YthpgmlijfcfddaaGreatDoorSp
import Derived.Test.YthpgmlijfcfddaaGreatDoorEr
set_option linter.unusedSimpArgs false
set_option linter.unusedVariables false
namespace Go.Proofs.YthpgmlijfcfddaaGreatDoor
open Go.RowKit

/-- The value of digits. -/
def dvl (l : List UInt8) : Nat := l.foldl (fun n c => 10 * n + (c.toNat - 48)) 0
theorem dvl_snoc (l : List UInt8) (c : UInt8) : dvl (l ++ [c]) = 10 * dvl l + (c.toNat - 48) := by simp [dvl]
theorem dvl_dd (u : Nat) : dvl (Lib.decDigits u) = u := by
  induction u using Nat.strongRecOn with
  | _ u ih =>
    have hd : ∀ d, d < 10 → (UInt8.ofNat (48 + d)).toNat = 48 + d := fun d hd => by rw [UInt8.toNat_ofNat']; omega
    by_cases h : u < 10
    · rw [Ad.dd_small h]
      simp only [dvl, List.foldl_cons, List.foldl_nil]
      rw [hd u h]
      omega
    · rw [Ad.dd_big h, dvl_snoc, ih (u / 10) (by omega), hd (u % 10) (by omega)]
      omega
theorem dd_nil (u : Nat) : Lib.decDigits u ≠ [] := by
  by_cases h : u < 10
  · rw [Ad.dd_small h]; simp
  · rw [Ad.dd_big h]; simp
theorem itoa_dd {v : Int} (h : 0 ≤ v) : Lib.itoa v = Lib.decDigits v.toNat := Ad.itoa_pos h
/-- What is put together of the digits behind the sign. -/
def fin (kk : Nat) (l : List UInt8) : Int := if kk = 0 then wrap64 (dvl l) else wrap64 (-(wrap64 (dvl (l.drop 1))))
def Dgt (kk : Nat) (l : List UInt8) : Prop := ∀ j (h : j < l.length), kk ≤ j → 48 ≤ l[j].toNat ∧ l[j].toNat ≤ 57 ∧ j ≤ 24
theorem key0 {v : Int} {l : List UInt8} (h0 : -9223372036854775808 ≤ v) (h1 : v ≤ 9223372036854775807) (hl : Lib.itoa v = l) (hn : ¬ (1 < l.length ∧ l.head? = some 45)) : Dgt 0 l ∧ fin 0 l = v ∧ l ≠ [] := by
  by_cases hv : 0 ≤ v
  · rw [itoa_dd hv] at hl
    subst hl
    have hlen := dd_len 19 v.toNat (by omega)
    refine ⟨fun j hj _ => ?_, ?_, dd_nil _⟩
    · have := Ad.dd_mem v.toNat _ (List.getElem_mem hj)
      exact ⟨this.1, this.2, by omega⟩
    · unfold fin
      rw [if_pos rfl, dvl_dd]
      unfold wrap64
      omega
  · exfalso
    obtain ⟨u, hu⟩ := Int.eq_ofNat_of_zero_le (show 0 ≤ -v by omega)
    obtain rfl : v = -(u : Int) := by omega
    rw [itoa_neg' u (by omega)] at hl
    subst hl
    refine hn ⟨?_, rfl⟩
    have := List.length_pos_iff.2 (dd_nil u)
    simp
    omega
theorem key1 {v : Int} {l : List UInt8} (h0 : -9223372036854775808 ≤ v) (h1 : v ≤ 9223372036854775807) (hl : Lib.itoa v = l) (hn : l.head? = some 45) : Dgt 1 l ∧ fin 1 l = v ∧ l ≠ [] := by
  by_cases hv : 0 ≤ v
  · exfalso
    rw [itoa_dd hv] at hl
    subst hl
    have := Ad.dd_mem v.toNat 45 (List.mem_of_head? hn)
    exact absurd this.1 (by decide)
  · obtain ⟨u, hu⟩ := Int.eq_ofNat_of_zero_le (show 0 ≤ -v by omega)
    obtain rfl : v = -(u : Int) := by omega
    rw [itoa_neg' u (by omega)] at hl
    subst hl
    have hlen := dd_len 19 u (by omega)
    refine ⟨fun j hj h1 => ?_, ?_, by simp⟩
    · obtain ⟨i, rfl⟩ : ∃ i, j = i + 1 := ⟨j - 1, by omega⟩
      have hi : i < (Lib.decDigits u).length := by simpa using hj
      have := Ad.dd_mem u _ (List.getElem_mem hi)
      exact ⟨by simpa using this.1, by simpa using this.2, by omega⟩
    · unfold fin
      rw [if_neg (by decide), List.drop_one, List.tail_cons, dvl_dd]
      unfold wrap64
      omega
/-- What number gives: an int whose text it is, or none is. -/
def NPost (s : ByteArray) (w : World) (e : Ending) (w' : World) : Prop := (∃ (n : Int) (ok : Bool), e = .returned (.tuple #[.int .i64 n, .bool ok]) ∧ -9223372036854775808 ≤ n ∧ n ≤ 9223372036854775807 ∧ (ok = true → Lib.itoa n = s.data.toList) ∧
  (ok = false → ∀ v, -9223372036854775808 ≤ v → v ≤ 9223372036854775807 → Lib.itoa v ≠ s.data.toList)) ∧ w' = w
theorem npost_no (s : ByteArray) (w : World) (h : ∀ v, -9223372036854775808 ≤ v → v ≤ 9223372036854775807 → Lib.itoa v ≠ s.data.toList) : NPost s w (.returned (.tuple #[.int .i64 0, .bool false])) w :=
  ⟨⟨0, false, rfl, by decide, by decide, (by intro h; cases h), fun _ => h⟩, rfl⟩
theorem wrap_range (x : Int) : -9223372036854775808 ≤ wrap64 x ∧ wrap64 x ≤ 9223372036854775807 := by unfold wrap64; omega
theorem npost_yes (s : ByteArray) (w : World) (n : Int) (h0 : -9223372036854775808 ≤ n) (h1 : n ≤ 9223372036854775807) (h : ∀ v, -9223372036854775808 ≤ v → v ≤ 9223372036854775807 → Lib.itoa v = s.data.toList → n = v) : NPost s w (.returned (.tuple #[.int .i64 n, .bool (decide (Lib.itoa n = s.data.toList))])) w :=
  ⟨⟨n, _, rfl, h0, h1, (fun h => of_decide_eq_true h), fun hf v hv0 hv1 hv => by have := h v hv0 hv1 hv; subst this; exact (of_decide_eq_false hf) hv⟩, rfl⟩
/-- The sum of the digits of a text up to a place. -/
def upto (kk : Nat) (s : ByteArray) (j : Nat) : Int := wrap64 (dvl ((s.data.toList.drop kk).take (j - kk)))
theorem upto_next (kk : Nat) (s : ByteArray) (j : Nat) (hk : kk ≤ j) (hj : j < s.size) (hd : 48 ≤ s[j].toNat) : wrap64 (wrap64 (upto kk s j * 10) + ((s[j].toNat : Int) - 48)) = upto kk s (j + 1) := by
  have ht : (s.data.toList.drop kk).take (j + 1 - kk) = (s.data.toList.drop kk).take (j - kk) ++ [s[j]] := by
    rw [show j + 1 - kk = j - kk + 1 by omega, List.take_add_one, List.getElem?_drop, show kk + (j - kk) = j by omega, List.getElem?_eq_getElem (by rw [← Lib.size_eq]; exact hj)]; rfl
  unfold upto
  rw [ht, dvl_snoc]
  generalize dvl _ = D
  have hd2 : (((10 * D + (s[j].toNat - 48) : Nat)) : Int) = 10 * (D : Int) + ((s[j].toNat : Int) - 48) := by omega
  rw [hd2]
  unfold wrap64
  omega
theorem upto_all0 (s : ByteArray) : upto 0 s s.size = fin 0 s.data.toList := by
  unfold upto fin
  rw [if_pos rfl, List.drop_zero, List.take_of_length_le (by rw [Lib.size_eq]; omega)]
theorem upto_all1 (s : ByteArray) (h : 1 ≤ s.size) : wrap64 (-(upto 1 s s.size)) = fin 1 s.data.toList := by
  unfold upto fin
  rw [if_neg (by decide), List.take_of_length_le (by rw [List.length_drop, ← Lib.size_eq]; omega)]
theorem upto_start (kk : Nat) (s : ByteArray) : upto kk s kk = 0 := by
  unfold upto
  rw [Nat.sub_self]
  simp [dvl, wrap64]
theorem str_eq (I : ByteArray) (l : List UInt8) (s : ByteArray) (hI : I = ⟨l.toArray⟩) (T : Bool) (hT : decide (l = s.data.toList) = T) : (I.toList == s.toList) = T := by
  rw [Lib.toList_data, Lib.toList_data, hI, ← hT]
  simp only
  rw [Bool.eq_iff_iff]
  simp

set_option maxRecDepth 100000 in
set_option maxHeartbeats 4000000 in
theorem number_short (s : ByteArray) (w : World) (hs : s.size ≤ 1000) (h1 : s.size ≤ 1) : Calls Tryz.prog 25 #[.string s] w (NPost s w) := by
  have HK := Lib.hid fun v a b (e : Lib.itoa v = s.data.toList) => key0 (l := s.data.toList) a b e (fun h => by have := h.1; rw [← Lib.size_eq] at this; omega)
  have HDG := Lib.hid fun n W h0 h1 => digits_any n W h0 h1
  go_enter Tryz.func25, Tryz.ntmps25
  go_wp2_with fail
  go_loopg [4, 6] (s.size - 0) (fun m n i wr => ∃ j : Nat, j + m = s.size ∧ 0 ≤ j ∧ i = .int .i64 (j : Int) ∧ n = .int .i64 (upto 0 s j) ∧ wr = w)
  case atStart => exact ⟨0, by omega, Nat.le_refl _, rfl, by rw [upto_start], rfl⟩
  case round =>
    obtain ⟨j, hjm, hkj, rfl, rfl, rfl⟩ := hrel
    match gk with
    | 0 =>
      obtain rfl : j = s.size := by omega
      have HF := Lib.hid (fun v a b (e : Lib.itoa v = s.data.toList) => (upto_all0 s).trans (HK.out v a b e).2.1)
      have hN := wrap_range (dvl ((s.data.toList.drop 0).take (s.size - 0)))
      change -9223372036854775808 ≤ upto 0 s s.size ∧ upto 0 s s.size ≤ 9223372036854775807 at hN
      generalize upto 0 s s.size = N at *
      obtain ⟨T, hT⟩ : ∃ T, decide (Lib.itoa N = s.data.toList) = T := ⟨_, rfl⟩
      obtain ⟨I, hI⟩ : ∃ I : ByteArray, I = ⟨(Lib.itoa N).toArray⟩ := ⟨_, rfl⟩
      have HD := Lib.hid fun W => HDG.out N W hN.1 hN.2
      rw [← hI] at HD
      have e1 := str_eq I _ s hI T hT
      have HT := Lib.hid (hT ▸ npost_yes s wr N hN.1 hN.2 HF.out)
      by_cases hz : s.size = 0
      · have hs0 : s = ⟨#[]⟩ := by apply ByteArray.ext; exact Array.eq_empty_of_size_eq_zero hz
        subst hs0
        as_aux_lemma =>
        go_wp2_with fail
        go_ret2
        have hno : decide (Lib.itoa N = (⟨#[]⟩ : ByteArray).data.toList) = false := decide_eq_false fun e => (HK.out N hN.1 hN.2 e).2.2 rfl
        have := npost_yes (⟨#[]⟩ : ByteArray) wr N hN.1 hN.2 HF.out
        rw [hno] at this
        exact this
      · have t0 : s.toList ≠ [] := fun e => hz (by rw [Lib.size_eq, ← Lib.toList_data, e]; rfl)
        have t1 : (s.toList == []) = false := by simpa using t0
        have t2 : s.toList.isEmpty = false := by simpa using t0
        clear HK HDG HF hT hI
        as_aux_lemma =>
        go_wp2_with fail
        refine (HD.out _).mono ?_
        rintro e w2 ⟨rfl, rfl⟩
        go_wp2_with fail
        go_ret2
        exact HT.out
    | m + 1 =>
      have hj : j < s.size := by omega
      have hj2 : j < s.data.toList.length := by rw [← Lib.size_eq]; exact hj
      have hjc : s.data.toList[j] = s[j] := rfl
      have hbad : ¬ (48 ≤ s[j].toNat ∧ s[j].toNat ≤ 57 ∧ j ≤ 24) → ∀ v, -9223372036854775808 ≤ v → v ≤ 9223372036854775807 → Lib.itoa v ≠ s.data.toList := by
        intro hb v a b e
        have := (HK.out v a b e).1 j hj2 hkj
        rw [hjc] at this
        exact hb this
      by_cases c1 : 48 ≤ s[j].toNat
      · by_cases c2 : s[j].toNat ≤ 57
        · by_cases c3 : j ≤ 24
          · have HU := Lib.hid (upto_next 0 s j hkj hj c1)
            have hN := wrap_range (dvl ((s.data.toList.drop 0).take (j - 0)))
            change -9223372036854775808 ≤ upto 0 s j ∧ upto 0 s j ≤ 9223372036854775807 at hN
            clear hbad hjc HDG HK
            generalize upto 0 s j = N at *
            go_wp2_with fail
            go_roundg m
            case measure => omega
            case rel => exact ⟨j + 1, by omega, by omega, by go_num, by rw [← HU.out], rfl⟩
          · have HB := Lib.hid (hbad (fun h => c3 h.2.2))
            clear hbad hjc HDG HK
            go_wp2_with fail
            all_goals go_ret2
            all_goals exact npost_no s _ HB.out
        · have HB := Lib.hid (hbad (fun h => c2 h.2.1))
          clear hbad hjc HDG HK
          go_wp2_with fail
          go_ret2
          exact npost_no s _ HB.out
      · have HB := Lib.hid (hbad (fun h => c1 h.1))
        clear hbad hjc HDG HK
        go_wp2_with fail
        go_ret2
        exact npost_no s _ HB.out

set_option maxRecDepth 100000 in
set_option maxHeartbeats 4000000 in
theorem number_plus (s : ByteArray) (w : World) (hs : s.size ≤ 1000) (h1 : 1 < s.size) (h2 : s[0] ≠ 45) : Calls Tryz.prog 25 #[.string s] w (NPost s w) := by
  have hq : s.data.toList.head? = some s[0] := by
    rw [List.head?_eq_getElem?, List.getElem?_eq_getElem (by rw [← Lib.size_eq]; omega)]; rfl
  have HK := Lib.hid fun v a b (e : Lib.itoa v = s.data.toList) => key0 (l := s.data.toList) a b e (fun h => by have := h.2; rw [hq] at this; exact h2 (Option.some.inj this))
  have e0 : ((s[0].toNat : Int) == 45) = false := by
    have : s[0].toNat ≠ 45 := fun h => h2 (UInt8.toNat_inj.1 h)
    simp; omega
  clear hq h2
  have HDG := Lib.hid fun n W h0 h1 => digits_any n W h0 h1
  go_enter Tryz.func25, Tryz.ntmps25
  go_wp2_with fail
  go_loopg [4, 6] (s.size - 0) (fun m n i wr => ∃ j : Nat, j + m = s.size ∧ 0 ≤ j ∧ i = .int .i64 (j : Int) ∧ n = .int .i64 (upto 0 s j) ∧ wr = w)
  case atStart => exact ⟨0, by omega, Nat.le_refl _, rfl, by rw [upto_start], rfl⟩
  case round =>
    obtain ⟨j, hjm, hkj, rfl, rfl, rfl⟩ := hrel
    match gk with
    | 0 =>
      obtain rfl : j = s.size := by omega
      have HF := Lib.hid (fun v a b (e : Lib.itoa v = s.data.toList) => (upto_all0 s).trans (HK.out v a b e).2.1)
      have hN := wrap_range (dvl ((s.data.toList.drop 0).take (s.size - 0)))
      change -9223372036854775808 ≤ upto 0 s s.size ∧ upto 0 s s.size ≤ 9223372036854775807 at hN
      generalize upto 0 s s.size = N at *
      have hM : -9223372036854775808 ≤ N ∧ N ≤ 9223372036854775807 := hN
      obtain ⟨T, hT⟩ : ∃ T, decide (Lib.itoa (N) = s.data.toList) = T := ⟨_, rfl⟩
      obtain ⟨I, hI⟩ : ∃ I : ByteArray, I = ⟨(Lib.itoa (N)).toArray⟩ := ⟨_, rfl⟩
      have HD := Lib.hid fun W => HDG.out (N) W hM.1 hM.2
      rw [← hI] at HD
      have e1 := str_eq I _ s hI T hT
      have HT := Lib.hid (hT ▸ npost_yes s wr (N) hM.1 hM.2 HF.out)
      have t0 : s.toList ≠ [] := fun e => (show s.size ≠ 0 by omega) (by rw [Lib.size_eq, ← Lib.toList_data, e]; rfl)
      have t1 : (s.toList == []) = false := by simpa using t0
      have t2 : s.toList.isEmpty = false := by simpa using t0
      clear HK HDG HF hT hI hM
      as_aux_lemma =>
      go_wp2_with fail
      refine (HD.out _).mono ?_
      rintro e w2 ⟨rfl, rfl⟩
      go_wp2_with fail
      go_ret2
      exact HT.out
    | m + 1 =>
      have hj : j < s.size := by omega
      have hj2 : j < s.data.toList.length := by rw [← Lib.size_eq]; exact hj
      have hjc : s.data.toList[j] = s[j] := rfl
      have hbad : ¬ (48 ≤ s[j].toNat ∧ s[j].toNat ≤ 57 ∧ j ≤ 24) → ∀ v, -9223372036854775808 ≤ v → v ≤ 9223372036854775807 → Lib.itoa v ≠ s.data.toList := by
        intro hb v a b e
        have := (HK.out v a b e).1 j hj2 hkj
        rw [hjc] at this
        exact hb this
      by_cases c1 : 48 ≤ s[j].toNat
      · by_cases c2 : s[j].toNat ≤ 57
        · by_cases c3 : j ≤ 24
          · have HU := Lib.hid (upto_next 0 s j hkj hj c1)
            have hN := wrap_range (dvl ((s.data.toList.drop 0).take (j - 0)))
            change -9223372036854775808 ≤ upto 0 s j ∧ upto 0 s j ≤ 9223372036854775807 at hN
            clear hbad hjc HDG HK
            generalize upto 0 s j = N at *
            go_wp2_with fail
            go_roundg m
            case measure => omega
            case rel => exact ⟨j + 1, by omega, by omega, by go_num, by rw [← HU.out], rfl⟩
          · have HB := Lib.hid (hbad (fun h => c3 h.2.2))
            clear hbad hjc HDG HK
            go_wp2_with fail
            all_goals go_ret2
            all_goals exact npost_no s _ HB.out
        · have HB := Lib.hid (hbad (fun h => c2 h.2.1))
          clear hbad hjc HDG HK
          go_wp2_with fail
          go_ret2
          exact npost_no s _ HB.out
      · have HB := Lib.hid (hbad (fun h => c1 h.1))
        clear hbad hjc HDG HK
        go_wp2_with fail
        go_ret2
        exact npost_no s _ HB.out

set_option maxRecDepth 100000 in
set_option maxHeartbeats 4000000 in
theorem number_minus (s : ByteArray) (w : World) (hs : s.size ≤ 1000) (h1 : 1 < s.size) (h2 : s[0] = 45) : Calls Tryz.prog 25 #[.string s] w (NPost s w) := by
  have hq : s.data.toList.head? = some s[0] := by
    rw [List.head?_eq_getElem?, List.getElem?_eq_getElem (by rw [← Lib.size_eq]; omega)]; rfl
  have HK := Lib.hid fun v a b (e : Lib.itoa v = s.data.toList) => key1 (l := s.data.toList) a b e (by rw [hq, h2])
  have e0 : ((s[0].toNat : Int) == 45) = true := by rw [h2]; rfl
  clear hq h2
  have HDG := Lib.hid fun n W h0 h1 => digits_any n W h0 h1
  go_enter Tryz.func25, Tryz.ntmps25
  go_wp2_with fail
  go_loopg [4, 6] (s.size - 1) (fun m n i wr => ∃ j : Nat, j + m = s.size ∧ 1 ≤ j ∧ i = .int .i64 (j : Int) ∧ n = .int .i64 (upto 1 s j) ∧ wr = w)
  case atStart => exact ⟨1, by omega, Nat.le_refl _, rfl, by rw [upto_start], rfl⟩
  case round =>
    obtain ⟨j, hjm, hkj, rfl, rfl, rfl⟩ := hrel
    match gk with
    | 0 =>
      obtain rfl : j = s.size := by omega
      have HF := Lib.hid (fun v a b (e : Lib.itoa v = s.data.toList) => (upto_all1 s (by omega)).trans (HK.out v a b e).2.1)
      have hN := wrap_range (dvl ((s.data.toList.drop 1).take (s.size - 1)))
      change -9223372036854775808 ≤ upto 1 s s.size ∧ upto 1 s s.size ≤ 9223372036854775807 at hN
      generalize upto 1 s s.size = N at *
      have hM : -9223372036854775808 ≤ wrap64 (-N) ∧ wrap64 (-N) ≤ 9223372036854775807 := (wrap_range (-N))
      obtain ⟨T, hT⟩ : ∃ T, decide (Lib.itoa (wrap64 (-N)) = s.data.toList) = T := ⟨_, rfl⟩
      obtain ⟨I, hI⟩ : ∃ I : ByteArray, I = ⟨(Lib.itoa (wrap64 (-N))).toArray⟩ := ⟨_, rfl⟩
      have HD := Lib.hid fun W => HDG.out (wrap64 (-N)) W hM.1 hM.2
      rw [← hI] at HD
      have e1 := str_eq I _ s hI T hT
      have HT := Lib.hid (hT ▸ npost_yes s wr (wrap64 (-N)) hM.1 hM.2 HF.out)
      have t0 : s.toList ≠ [] := fun e => (show s.size ≠ 0 by omega) (by rw [Lib.size_eq, ← Lib.toList_data, e]; rfl)
      have t1 : (s.toList == []) = false := by simpa using t0
      have t2 : s.toList.isEmpty = false := by simpa using t0
      clear HK HDG HF hT hI hM
      as_aux_lemma =>
      go_wp2_with fail
      refine (HD.out _).mono ?_
      rintro e w2 ⟨rfl, rfl⟩
      go_wp2_with fail
      go_ret2
      exact HT.out
    | m + 1 =>
      have hj : j < s.size := by omega
      have hj2 : j < s.data.toList.length := by rw [← Lib.size_eq]; exact hj
      have hjc : s.data.toList[j] = s[j] := rfl
      have hbad : ¬ (48 ≤ s[j].toNat ∧ s[j].toNat ≤ 57 ∧ j ≤ 24) → ∀ v, -9223372036854775808 ≤ v → v ≤ 9223372036854775807 → Lib.itoa v ≠ s.data.toList := by
        intro hb v a b e
        have := (HK.out v a b e).1 j hj2 hkj
        rw [hjc] at this
        exact hb this
      by_cases c1 : 48 ≤ s[j].toNat
      · by_cases c2 : s[j].toNat ≤ 57
        · by_cases c3 : j ≤ 24
          · have HU := Lib.hid (upto_next 1 s j hkj hj c1)
            have hN := wrap_range (dvl ((s.data.toList.drop 1).take (j - 1)))
            change -9223372036854775808 ≤ upto 1 s j ∧ upto 1 s j ≤ 9223372036854775807 at hN
            clear hbad hjc HDG HK
            generalize upto 1 s j = N at *
            go_wp2_with fail
            go_roundg m
            case measure => omega
            case rel => exact ⟨j + 1, by omega, by omega, by go_num, by rw [← HU.out], rfl⟩
          · have HB := Lib.hid (hbad (fun h => c3 h.2.2))
            clear hbad hjc HDG HK
            go_wp2_with fail
            all_goals go_ret2
            all_goals exact npost_no s _ HB.out
        · have HB := Lib.hid (hbad (fun h => c2 h.2.1))
          clear hbad hjc HDG HK
          go_wp2_with fail
          go_ret2
          exact npost_no s _ HB.out
      · have HB := Lib.hid (hbad (fun h => c1 h.1))
        clear hbad hjc HDG HK
        go_wp2_with fail
        go_ret2
        exact npost_no s _ HB.out

theorem numl_any (s : ByteArray) (w : World) (hs : s.size ≤ 1000) : Calls Tryz.prog 25 #[.string s] w (NPost s w) := by
  by_cases h1 : s.size ≤ 1
  · exact number_short s w hs h1
  · by_cases h2 : s[0] = 45
    · exact number_minus s w hs (by omega) h2
    · exact number_plus s w hs (by omega) h2
end Go.Proofs.YthpgmlijfcfddaaGreatDoor
