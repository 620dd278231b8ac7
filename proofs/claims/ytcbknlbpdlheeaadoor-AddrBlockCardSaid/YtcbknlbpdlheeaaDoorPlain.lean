/-
  Plain facts on texts: a number is read back from its digits and from no other text, an address from its text and from no other, a prefix from its text and from no other. No condition but the ranges that each theorem names.
-/
import Derived.Test.YtcbknlbpdlheeaaDoorText
namespace Go.Proofs.YtcbknlbpdlheeaaDoor
theorem dd_small {u : Nat} (h : u < 10) : Lib.decDigits u = [UInt8.ofNat (48 + u)] := by rw [Lib.decDigits, dif_pos h]
theorem dd_big {u : Nat} (h : ¬ u < 10) : Lib.decDigits u = Lib.decDigits (u / 10) ++ [UInt8.ofNat (48 + u % 10)] := by rw [Lib.decDigits, dif_neg h]

theorem dd_mem (u : Nat) : ∀ c ∈ Lib.decDigits u, 48 ≤ c.toNat ∧ c.toNat ≤ 57 := by
  induction u using Nat.strongRecOn with
  | _ u ih =>
    by_cases h : u < 10
    · rw [dd_small h]
      intro c hc
      simp only [List.mem_singleton] at hc
      subst hc
      simp
      omega
    · rw [dd_big h]
      intro c hc
      rcases List.mem_append.1 hc with hc | hc
      · exact ih (u / 10) (by omega) c hc
      · simp only [List.mem_singleton] at hc
        subst hc
        simp
        omega

theorem numGo_append (most : Int) : ∀ (l r : List UInt8) (n : Int), numGo most n (l ++ r) = (numGo most n l).bind fun k => numGo most k r
  | [], r, n => rfl
  | c :: l, r, n => by
    simp only [List.cons_append, numGo]
    split
    · rfl
    · split
      · rfl
      · exact numGo_append most l r _

theorem numGo_one (most n : Int) (d : Nat) (hd : d < 10) (h : n * 10 + d ≤ most) : numGo most n [UInt8.ofNat (48 + d)] = some (n * 10 + d) := by
  have e : (UInt8.ofNat (48 + d)).toNat = 48 + d := by simp; omega
  simp only [numGo, e]
  rw [if_neg (by omega), if_neg (by omega)]
  congr 1
  omega

theorem numGo_dd (most : Int) (u : Nat) (h : (u : Int) ≤ most) : numGo most 0 (Lib.decDigits u) = some (u : Int) := by
  induction u using Nat.strongRecOn with
  | _ u ih =>
    by_cases hu : u < 10
    · rw [dd_small hu, numGo_one most 0 u hu (by omega)]
      congr 1
      omega
    · rw [dd_big hu, numGo_append, ih (u / 10) (by omega) (by omega)]
      show numGo most _ _ = _
      rw [numGo_one most _ (u % 10) (by omega) (by omega)]
      congr 1
      omega

theorem dd_head (u : Nat) (h : 1 ≤ u) : ∃ c r, Lib.decDigits u = c :: r ∧ c ≠ 48 := by
  induction u using Nat.strongRecOn with
  | _ u ih =>
    by_cases hu : u < 10
    · refine ⟨_, [], dd_small hu, fun e => ?_⟩
      have := congrArg UInt8.toNat e
      simp at this
      omega
    · obtain ⟨c, r, h1, h2⟩ := ih (u / 10) (by omega) (by omega)
      exact ⟨c, r ++ [UInt8.ofNat (48 + u % 10)], by rw [dd_big hu, h1]; rfl, h2⟩

theorem numO_dig (most n : Int) (h0 : 0 ≤ n) (h1 : n ≤ most) : numO most (dig n) = some n := by
  obtain ⟨u, rfl⟩ := Int.eq_ofNat_of_zero_le h0
  have hg := numGo_dd most u h1
  unfold dig
  rw [Int.toNat_natCast]
  by_cases hu : u = 0
  · subst hu
    rw [dd_small (by decide)] at hg ⊢
    exact hg
  · obtain ⟨c, r, h2, h3⟩ := dd_head u (by omega)
    rw [h2] at hg ⊢
    simp only [numO]
    rw [if_neg fun h => h3 h.1]
    exact hg

theorem numGo_back (most : Int) : ∀ (l : List UInt8) (n : Nat) (m : Int), 1 ≤ n → numGo most n l = some m → 0 ≤ m ∧ Lib.decDigits m.toNat = Lib.decDigits n ++ l
  | [], n, m, h0, h => by
    simp only [numGo, Option.some.injEq] at h
    subst h
    exact ⟨by omega, by simp⟩
  | c :: r, n, m, h0, h => by
    simp only [numGo] at h
    split at h
    · cases h
    · split at h
      · cases h
      · have e : (n : Int) * 10 + ((c.toNat : Int) - 48) = ((n * 10 + (c.toNat - 48) : Nat) : Int) := by omega
        rw [e] at h
        obtain ⟨hm, hd⟩ := numGo_back most r _ m (by omega) h
        refine ⟨hm, ?_⟩
        rw [hd, dd_big (by omega), show (n * 10 + (c.toNat - 48)) / 10 = n by omega, show 48 + (n * 10 + (c.toNat - 48)) % 10 = c.toNat by omega]
        simp

theorem numO_back {most n : Int} {l : List UInt8} (h : numO most l = some n) : l = dig n := by
  cases l with
  | nil => cases h
  | cons c r =>
    simp only [numO] at h
    split at h
    · cases h
    · rename_i hc
      by_cases h48 : c = 48
      · subst h48
        have hr : r = [] := by
          cases r with
          | nil => rfl
          | cons x y => exact absurd ⟨rfl, by simp⟩ hc
        subst hr
        simp only [numGo] at h
        rw [if_neg (by decide)] at h
        split at h
        · cases h
        · have : n = 0 := by
            have := Option.some.inj h
            simp at this
            omega
          subst this
          show _ = Lib.decDigits 0
          rw [dd_small (by decide)]
          rfl
      · simp only [numGo] at h
        split at h
        · cases h
        · split at h
          · cases h
          · have hne : c.toNat ≠ 48 := fun e => h48 (UInt8.toNat_inj.1 (by simpa using e))
            have e : (0 : Int) * 10 + ((c.toNat : Int) - 48) = ((c.toNat - 48 : Nat) : Int) := by omega
            rw [e] at h
            obtain ⟨_, hd⟩ := numGo_back most r _ n (by omega) h
            show _ = Lib.decDigits n.toNat
            rw [hd, dd_small (by omega), show 48 + (c.toNat - 48) = c.toNat by omega]
            simp

theorem index_none {c : UInt8} : ∀ {l : List UInt8}, c ∉ l → Lib.indexByte l c = -1
  | [], _ => rfl
  | b :: l, h => by
    have h1 : ¬ b = c := fun e => h (by simp [e])
    have h2 := index_none (c := c) (l := l) (fun m => h (by simp [m]))
    simp [Lib.indexByte, h1, h2]

theorem index_at {c : UInt8} : ∀ {l r : List UInt8}, c ∉ l → Lib.indexByte (l ++ c :: r) c = l.length
  | [], r, _ => by simp [Lib.indexByte]
  | b :: l, r, h => by
    have h1 : ¬ b = c := fun e => h (by simp [e])
    have h2 := index_at (c := c) (l := l) (r := r) (fun m => h (by simp [m]))
    simp only [List.cons_append, Lib.indexByte, h2]
    rw [if_neg (by simpa using h1), if_neg (by simp)]
    simp

theorem cut_none {c : UInt8} {l : List UInt8} (h : c ∉ l) : cutL c l = (l, [], false) := by rw [cutL, if_pos (index_none h)]
theorem cut_at {c : UInt8} {l r : List UInt8} (h : c ∉ l) : cutL c (l ++ c :: r) = (l, r, true) := by
  rw [cutL, index_at h, if_neg (by omega)]
  simp

theorem cut_back (c : UInt8) (l : List UInt8) : (cutL c l).2.2 = true ∧ l = (cutL c l).1 ++ c :: (cutL c l).2.1 ∨ (cutL c l).2.2 = false ∧ l = (cutL c l).1 ∧ (cutL c l).2.1 = [] := by
  by_cases h : Lib.indexByte l c = -1
  · exact .inr (by simp [cutL, h])
  · have := Lib.indexByte_ge l c
    obtain ⟨i, hi⟩ := Int.eq_ofNat_of_zero_le (show 0 ≤ Lib.indexByte l c by omega)
    have hs := (Lib.indexByte_some hi).1
    refine .inl ?_
    rw [cutL, if_neg h, hi, Int.toNat_natCast]
    refine ⟨rfl, ?_⟩
    obtain ⟨hlt, he⟩ := List.getElem?_eq_some_iff.1 hs
    show l = l.take i ++ c :: l.drop (i + 1)
    rw [← he, ← List.drop_eq_getElem_cons hlt, List.take_append_drop]

theorem dig_not (n : Int) (c : UInt8) (h : c.toNat < 48) : c ∉ dig n := fun m => by have := (dd_mem _ c m).1; omega

theorem parse_text (a : Int) (h0 : 0 ≤ a) (h1 : a < 4294967296) : parseO (textL a) = some a := by
  unfold parseO textL
  have n46 : ∀ n, (46 : UInt8) ∉ dig n := fun n => dig_not n 46 (by decide)
  simp only [parseGo, cut_at (n46 _), cut_none (n46 _)]
  rw [numO_dig 255 (a / 16777216) (by omega) (by omega), numO_dig 255 (a / 65536 % 256) (by omega) (by omega), numO_dig 255 (a / 256 % 256) (by omega) (by omega), numO_dig 255 (a % 256) (by omega) (by omega)]
  simp
  omega

theorem parse_back {l : List UInt8} {z : Int} (h : parseO l = some z) : l = textL z := by
  unfold parseO at h
  simp only [parseGo] at h
  split at h
  · rename_i c1
    split at h
    · rename_i n1 e1
      split at h
      · rename_i c2
        split at h
        · rename_i n2 e2
          split at h
          · rename_i c3
            split at h
            · rename_i n3 e3
              split at h
              · rename_i c4
                split at h
                · rename_i n4 e4
                  have hz := Option.some.inj h
                  obtain ⟨a0, a1⟩ := numO_bd (by decide) e1
                  obtain ⟨b0, b1⟩ := numO_bd (by decide) e2
                  obtain ⟨d0, d1⟩ := numO_bd (by decide) e3
                  obtain ⟨f0, f1⟩ := numO_bd (by decide) e4
                  have p1 := numO_back e1
                  have p2 := numO_back e2
                  have p3 := numO_back e3
                  have p4 := numO_back e4
                  have q1 := cut_back 46 l
                  have q2 := cut_back 46 (cutL 46 l).2.1
                  have q3 := cut_back 46 (cutL 46 (cutL 46 l).2.1).2.1
                  have q4 := cut_back 46 (cutL 46 (cutL 46 (cutL 46 l).2.1).2.1).2.1
                  rw [c1] at q1
                  rw [c2] at q2
                  rw [c3] at q3
                  rw [c4] at q4
                  simp at q1 q2 q3 q4
                  rw [p1] at q1
                  rw [p2] at q2
                  rw [p3] at q3
                  rw [p4] at q4
                  rw [q1, q2, q3, q4.1]
                  subst hz
                  unfold textL
                  congr 1
                  · congr 1; omega
                  · congr 1
                    congr 1
                    · congr 1; omega
                    · congr 1
                      congr 1
                      · congr 1; omega
                      · congr 2; omega
                · cases h
              · cases h
            · cases h
          · cases h
        · cases h
      · cases h
    · cases h
  · cases h

theorem text_not (a : Int) (c : UInt8) (h : c.toNat < 48) (h2 : c ≠ 46) : c ∉ textL a := by
  unfold textL
  have := fun n => dig_not n c h
  simp [this, h2]

theorem pbl_text (a b : Int) (h0 : 0 ≤ a) (h1 : a < 4294967296) (h2 : 0 ≤ b) (h3 : b ≤ 32) : pblO (textL a ++ 47 :: dig b) = if okB a b = true then some (a, b) else none := by
  simp only [pblO, cut_at (text_not a 47 (by decide) (by decide)), parse_text a h0 h1, numO_dig 32 b h2 h3]

theorem pbl_back {l : List UInt8} {a b : Int} (h : pblO l = some (a, b)) : l = textL a ++ 47 :: dig b ∧ okB a b = true ∧ (0 ≤ a ∧ a < 4294967296) ∧ 0 ≤ b ∧ b ≤ 32 := by
  simp only [pblO] at h
  split at h
  · cases h
  · rename_i a' ha
    split at h
    · cases h
    · rename_i b' hb
      split at h
      · rename_i hk
        simp only [Option.some.injEq, Prod.mk.injEq] at h
        obtain ⟨rfl, rfl⟩ := h
        refine ⟨?_, hk, parseO_bd ha, numO_bd (by decide) hb⟩
        rcases cut_back 47 l with ⟨_, e⟩ | ⟨_, _, e⟩
        · rw [e, ← parse_back ha, ← numO_back hb, ← e]
        · rw [e] at hb
          cases hb
      · cases h
end Go.Proofs.YtcbknlbpdlheeaaDoor
