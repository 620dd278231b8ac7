/-
  What a tick asks, address by address: none twice, each one of a swept prefix that is due. No condition but that the row is right.
-/
import Derived.Test.YtenolbgadlehpaaSem
import Derived.Test.YtenolbgadlehpaaLps
set_option linter.unusedSimpArgs false
set_option linter.unusedVariables false
namespace Go.Proofs.Ytenolbgadlehpaa
open Go.RowKit

theorem asl_in {x : Sw} (h : Sv x) {room : Int} {z : Int} (hz : z ∈ asl x (tk x room)) : x.a ≤ z ∧ z < x.a + p2 x.b := by
  unfold asl at hz
  rw [List.mem_map] at hz
  obtain ⟨j, hj, rfl⟩ := hz
  rw [List.mem_range] at hj
  have := h.n0
  have := h.n1
  unfold tk at hj
  omega
theorem asl_nodup (x : Sw) (k : Nat) : (asl x k).Nodup := by
  unfold asl
  rw [List.Nodup, List.pairwise_map]
  exact List.pairwise_lt_range.imp fun {a b} hab => by omega
theorem ap_apart {xs : List Sw} (h : xs.Pairwise ap) {i j : Nat} {x y : Sw} (hx : xs[i]? = some x) (hy : xs[j]? = some y) (hij : i ≠ j) {z : Int} (h1 : x.a ≤ z ∧ z < x.a + p2 x.b) (h2 : y.a ≤ z ∧ z < y.a + p2 y.b) : False := by
  obtain ⟨hi, ex⟩ := List.getElem?_eq_some_iff.1 hx
  obtain ⟨hj, ey⟩ := List.getElem?_eq_some_iff.1 hy
  rw [List.pairwise_iff_getElem] at h
  rcases Nat.lt_or_gt_of_ne hij with hl | hl
  · have := h i j hi hj hl
    rw [ex, ey] at this
    unfold ap at this
    omega
  · have := h j i hj hi hl
    rw [ex, ey] at this
    unfold ap at this
    omega
theorem planL_asks {xs : List Sw} (h : V xs) (every room : Int) (l : List Nat) (hn : l.Nodup) (hl : ∀ i ∈ l, i < xs.length) : ∀ t, t ≤ l.length →
    (planL xs every room (l.take t)).2.Nodup ∧ ∀ z ∈ (planL xs every room (l.take t)).2, ∃ i ∈ l.take t, ∃ x, xs[i]? = some x ∧ x.a ≤ z ∧ z < x.a + p2 x.b := by
  intro t
  induction t with
  | zero => intro _; exact ⟨by simp [planL], fun z hz => by simp [planL] at hz⟩
  | succ t ih =>
    intro ht
    obtain ⟨h1, h2⟩ := ih (by omega)
    have e : l.take (t + 1) = l.take t ++ [l[t]] := by
      rw [List.take_add_one, List.getElem?_eq_getElem (by omega : t < l.length)]
      rfl
    have hlt := hl l[t] (List.getElem_mem _)
    have hx := List.getElem?_eq_getElem hlt
    have hnt : l[t] ∉ l.take t := fun hm => by
      obtain ⟨j, hj, ej⟩ := List.mem_iff_getElem.1 hm
      rw [List.length_take] at hj
      rw [List.getElem_take] at ej
      have := (List.pairwise_iff_getElem.1 hn) j t (by omega) (by omega) (by omega)
      exact this ej
    rw [e, planL_snoc]
    simp only [plan1, hx, Option.getD_some]
    generalize (planL xs every room (l.take t)).2 = S at h1 h2 ⊢
    have hin : ∀ z ∈ asl xs[l[t]] (tk xs[l[t]] (room - S.length)), xs[l[t]].a ≤ z ∧ z < xs[l[t]].a + p2 xs[l[t]].b := fun z hz => asl_in (h.sv _ (List.getElem_mem _)) hz
    refine ⟨?_, fun z hz => ?_⟩
    · rw [List.Nodup, List.pairwise_append]
      refine ⟨h1, asl_nodup _ _, fun a ha b hb hab => ?_⟩
      subst hab
      obtain ⟨i, hi, x, hxi, g⟩ := h2 a ha
      exact ap_apart h.r.rise hxi hx (fun e' => hnt (e' ▸ hi)) g (hin a hb)
    · rcases List.mem_append.1 hz with hz | hz
      · obtain ⟨i, hi, x, hxi, g⟩ := h2 z hz
        exact ⟨i, List.mem_append_left _ hi, x, hxi, g⟩
      · exact ⟨l[t], by first | exact List.mem_append_right _ (List.mem_singleton.2 rfl) | (rw [e]; exact List.mem_append_right _ (List.mem_singleton.2 rfl)), _, hx, hin z hz⟩
/-- Whether one of a row has an address, and is due. -/
def anyD (xs : List Sw) (z t : Int) : Bool := xs.any fun x => hasB x.a x.b z && decide (x.d ≤ t)
theorem anyD_take {xs : List Sw} {z t : Int} {k : Nat} {x : Sw} (hx : xs[k]? = some x) : anyD (xs.take (k + 1)) z t = (anyD (xs.take k) z t || (hasB x.a x.b z && decide (x.d ≤ t))) := by
  unfold anyD
  rw [List.take_add_one, hx]
  simp
theorem has_in {x : Sw} (h : Sv x) {z : Int} (h1 : x.a ≤ z) (h2 : z < x.a + p2 x.b) : hasB x.a x.b z = true := by
  obtain ⟨b0, b1, bm⟩ := ok_out h.ok
  have pb := p2_pos x.b
  have hcm : z % p2 x.b = z - x.a := by
    have e : z = (z - x.a) + x.a := by omega
    rw [e, Int.add_emod, bm, Int.add_zero, Int.emod_emod_of_dvd _ (Int.dvd_refl _), Int.emod_eq_of_lt (by omega) (by omega)]
    omega
  exact has_iff.2 ⟨h.ok, by omega⟩
theorem once_ok {xs : List Sw} (h : V xs) (every now room : Int) :
    (planO xs every now room).2.Nodup ∧ ∀ z ∈ (planO xs every now room).2, 0 ≤ z ∧ z < 4294967296 ∧ anyD xs z now = true := by
  have ho := ord_is xs now
  have hk := planL_asks h every room (ord xs now) (ord_nodup ho) (fun i hi => ((ho.mem i).1 hi).1) (ord xs now).length (Nat.le_refl _)
  rw [List.take_length] at hk
  refine ⟨hk.1, fun z hz => ?_⟩
  obtain ⟨i, hi, x, hx, g1, g2⟩ := hk.2 z hz
  have hm := List.mem_of_getElem? hx
  have hs := h.sv x hm
  have hr := Ytenolbgadlehpaa.room hs.ok hs.a1
  have := hs.a0
  refine ⟨by omega, by omega, List.any_eq_true.2 ⟨x, hm, ?_⟩⟩
  have hd := ((ho.mem i).1 hi).2
  rw [du_at hx] at hd
  rw [has_in hs g1 g2, decide_eq_true hd]
  rfl
theorem fresh_at {zs : List Int} (h : zs.Nodup) {k : Nat} {z : Int} (hz : zs[k]? = some z) : (zs.take k).contains z = false := by
  rw [Bool.eq_false_iff]
  intro hc
  obtain ⟨j, hj, ej⟩ := List.mem_iff_getElem.1 (List.contains_iff_mem.1 hc)
  rw [List.length_take] at hj
  rw [List.getElem_take] at ej
  obtain ⟨hk, ek⟩ := List.getElem?_eq_some_iff.1 hz
  have := (List.pairwise_iff_getElem.1 h) j k (by omega) hk (by omega)
  exact this (ej.trans ek.symm)
end Go.Proofs.Ytenolbgadlehpaa
