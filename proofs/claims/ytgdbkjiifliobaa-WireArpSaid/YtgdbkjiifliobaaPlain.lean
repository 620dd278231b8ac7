/-
  An echo's bytes are formed, sealed, and read as they were written; and of one byte turned they are not. Plain numbers; conditions: numbers have their bits.
-/
import Derived.Test.YtgdbkjiifliobaaEq
namespace Go.Proofs.Ytgdbkjiifliobaa
open Go.RowKit

theorem can_shut (t : Nat) : can (t + (65535 - can t)) = 65535 := by
  rcases Nat.eq_zero_or_pos t with rfl | h
  · decide
  · exact can_seal h
theorem wd_put {us : List Nat} {k : Nat} (hk : k + 1 < us.length) (he : k % 2 = 0) (h1 : us.getD k 0 = 0) (h2 : us.getD (k + 1) 0 = 0) : wd ((us.set k ((65535 - wd us) / 256)).set (k + 1) ((65535 - wd us) % 256)) = 65535 := by
  have e1 := tot_other (zs := us.set k ((65535 - wd us) / 256)) (ys := us) (j := k) (fun i hi => by rw [getD_set (by omega), if_neg hi]) us.length (by omega)
  have e2 := tot_other (zs := (us.set k ((65535 - wd us) / 256)).set (k + 1) ((65535 - wd us) % 256)) (ys := us.set k ((65535 - wd us) / 256)) (j := k + 1) (fun i hi => by rw [getD_set (by rw [List.length_set]; omega), if_neg hi]) us.length hk
  rw [getD_set (by omega), if_pos rfl, h1] at e1
  have g1 : (us.set k ((65535 - wd us) / 256)).getD (k + 1) 0 = 0 := by rw [getD_set (by omega), if_neg (by omega), h2]
  have g2 : ((us.set k ((65535 - wd us) / 256)).set (k + 1) ((65535 - wd us) % 256)).getD (k + 1) 0 = (65535 - wd us) % 256 := by rw [getD_set (by rw [List.length_set]; omega), if_pos rfl]
  rw [g1, g2] at e2
  simp only [vl, he, show (k + 1) % 2 ≠ 0 by omega, if_true, if_false, Nat.mul_zero, Nat.add_zero] at e1 e2
  have e3 : tot ((us.set k ((65535 - wd us) / 256)).set (k + 1) ((65535 - wd us) % 256)) us.length = tot us us.length + (65535 - wd us) := by omega
  unfold wd at e3 ⊢
  rw [List.length_set, List.length_set]
  exact (congrArg can e3).trans (can_shut _)

theorem ecb_length (p : Pk) : (ecb p).length = 32 := rfl
theorem ecb_take (p : Pk) : wd ((ecb p).take 20) = 65535 := wd_put (us := hdp p 0 0) (k := 10) (by show 11 < 20; omega) rfl rfl rfl
theorem ecb_drop (p : Pk) : wd ((ecb p).drop 20) = 65535 := wd_put (us := bdp p 0 0) (k := 2) (by show 3 < 12; omega) rfl rfl rfl
theorem ecb_fe (p : Pk) : fe (ecb p) = true := by
  have h : (ecb p).getD 20 0 = if p.a = true then 0 else 8 := rfl
  unfold fe
  rw [h]
  simp only [ecb_length, decide_true, Bool.true_and, decide_eq_true_eq]
  refine ⟨rfl, rfl, rfl, ?_, rfl⟩
  split
  · exact .inr rfl
  · exact .inl rfl
theorem ecb_epk (p : Pk) : epk (ecb p) = ⟨p.a, p.f, p.t, 0, 0, 0, 0, 0, 0, (lo p.i : Int), (lo p.s : Int)⟩ := by
  have h : (ecb p).getD 20 0 = if p.a = true then 0 else 8 := rfl
  unfold epk
  rw [h]
  congr 1
  · cases p.a <;> rfl
  · show 65536 * (256 * (p.f / 65536 / 256) + p.f / 65536 % 256) + (256 * (p.f % 65536 / 256) + p.f % 65536 % 256) = p.f
    omega
  · show 65536 * (256 * (p.t / 65536 / 256) + p.t / 65536 % 256) + (256 * (p.t % 65536 / 256) + p.t % 65536 % 256) = p.t
    omega
  · show ((256 * (lo p.i / 256) + lo p.i % 256 : Nat) : Int) = _
    omega
  · show ((256 * (lo p.s / 256) + lo p.s % 256 : Nat) : Int) = _
    omega
/-- Whether an echo's bytes are read. -/
def red (zs : List Nat) : Int := if fe zs = true then (if wd (zs.take 20) = 65535 ∧ wd (zs.drop 20) = 65535 then 0 else 2) else 1
def rpk (zs : List Nat) : Pk := if red zs = 0 then epk zs else zp
theorem readEcho_any (A : Option Addr) (zs : List Nat) (c : Nat) (w : World) (h : Rd w A zs) (hc : zs.length ≤ c) :
    Calls Try.prog 16 #[.slice A zs.length c] w fun e w' => e = .returned (.tuple #[pv (rpk zs), .int .i64 (red zs)]) ∧ Below w.heap.size w w' := by
  unfold rpk
  by_cases hf : fe zs = true
  · by_cases hs : wd (zs.take 20) = 65535 ∧ wd (zs.drop 20) = 65535
    · have : red zs = 0 := by unfold red; rw [if_pos hf, if_pos hs]
      rw [this, if_pos rfl]
      exact readEcho_ok A zs c w h hc hf hs.1 hs.2
    · have : red zs = 2 := by unfold red; rw [if_pos hf, if_neg hs]
      rw [this, if_neg (by omega)]
      exact readEcho_sum A zs c w h hc hf hs
  · have : red zs = 1 := by unfold red; rw [if_neg hf]
    rw [this, if_neg (by omega)]
    exact readEcho_form A zs c w h hc (by simpa using hf)
theorem ecb_red (p : Pk) : red (ecb p) = 0 := by unfold red; rw [if_pos (ecb_fe p), if_pos ⟨ecb_take p, ecb_drop p⟩]
theorem ecb_rpk (p : Pk) : rpk (ecb p) = ⟨p.a, p.f, p.t, 0, 0, 0, 0, 0, 0, (lo p.i : Int), (lo p.s : Int)⟩ := by unfold rpk; rw [if_pos (ecb_red p), ecb_epk]
/-- One byte turned: none. -/
theorem ecb_turned (p : Pk) (hb : Bs (ecb p)) {k v : Nat} (hk : k < 32) (hv : v < 256) : (red ((ecb p).set k v) = 0) ↔ (ecb p).getD k 0 = v := by
  constructor
  · intro h
    have h1 : wd (((ecb p).set k v).take 20) = 65535 ∧ wd (((ecb p).set k v).drop 20) = 65535 := by
      unfold red at h
      split at h
      · split at h
        · assumption
        · omega
      · omega
    rcases Nat.lt_or_ge k 20 with h2 | h2
    · have e : ((ecb p).set k v).take 20 = ((ecb p).take 20).set k v := by rw [List.take_set]
      rw [e] at h1
      have := wd_turned (xs := (ecb p).take 20) (hb.take 20) (ecb_take p) (k := k) (v := v) (by rw [List.length_take, ecb_length]; omega) hv
      rw [decide_eq_true h1.1, getD_take h2] at this
      exact of_decide_eq_true this.symm
    · have e : ((ecb p).set k v).drop 20 = ((ecb p).drop 20).set (k - 20) v := by rw [List.drop_set, if_neg (by omega)]
      rw [e] at h1
      have := wd_turned (xs := (ecb p).drop 20) (hb.drop 20) (ecb_drop p) (k := k - 20) (v := v) (by rw [List.length_drop, ecb_length]; omega) hv
      rw [decide_eq_true h1.2, getD_drop, show 20 + (k - 20) = k by omega] at this
      exact of_decide_eq_true this.symm
  · intro h
    have : (ecb p).set k v = ecb p := by
      rw [← h, List.getD_eq_getElem?_getD, List.getElem?_eq_getElem (by rw [ecb_length]; exact hk)]
      simp
    rw [this]
    exact ecb_red p
end Go.Proofs.Ytgdbkjiifliobaa
