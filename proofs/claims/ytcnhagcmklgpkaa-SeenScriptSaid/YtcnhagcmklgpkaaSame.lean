/-
  The contracts of the statements' own same, of seen's rightSights and Right, and of the statements' own right. Conditions: the rows lie in memory.
-/
import Derived.Test.YtcnhagcmklgpkaaOf
set_option linter.unusedSimpArgs false
set_option linter.unusedVariables false
namespace Go.Proofs.Ytcnhagcmklgpkaa
open Go.RowKit

instance : DecidableEq Sg := fun x y => if h : eqs x y = true then .isTrue ((eqs_iff x y).1 h) else .isFalse fun e => h ((eqs_iff x y).2 e)
/-- Whether two rows of sightings are the same; up to the first k. -/
def sameB (xs ys : List Sg) : Bool := decide (xs = ys)
theorem same_len {xs ys : List Sg} (h : xs.length ≠ ys.length) : sameB xs ys = false := decide_eq_false fun e => h (by rw [e])
theorem same_at {xs ys : List Sg} {k : Nat} {x y : Sg} (hx : xs[k]? = some x) (hy : ys[k]? = some y) (h : eqs x y = false) : sameB xs ys = false := decide_eq_false fun e => by
  subst e
  rw [hx] at hy
  injection hy with hy
  subst hy
  rw [eqs_self] at h
  cases h
theorem same_all {xs ys : List Sg} (hl : xs.length = ys.length) (h : xs.take xs.length = ys.take xs.length) : sameB xs ys = true := decide_eq_true (by
  rw [List.take_length, hl, List.take_length] at h
  exact h)
theorem take_snoc {xs ys : List Sg} {k : Nat} {x y : Sg} (h : xs.take k = ys.take k) (hx : xs[k]? = some x) (hy : ys[k]? = some y) (he : eqs x y = true) : xs.take (k + 1) = ys.take (k + 1) := by
  rw [List.take_add_one, List.take_add_one, h, hx, hy, (eqs_iff x y).1 he]

set_option maxRecDepth 100000 in
set_option maxHeartbeats 4000000 in
theorem same_any (A B : Option Addr) (xs ys : List Sg) (c d : Nat) (w : World) (h : Rw eS w A xs) (g : Rw eS w B ys) (hc : xs.length ≤ c) (hd : ys.length ≤ d) :
    Calls Try.prog 13 #[.slice A xs.length c, .slice B ys.length d] w fun e w' => e = .returned (.bool (sameB xs ys)) ∧ ∃ n, w' = w.drewN n := by
  have hx0 := h.1
  have hy0 := g.1
  by_cases hl : xs.length = ys.length
  · have R := Lib.hid h
    have S := Lib.hid g
    have HE := Lib.hid hl
    obtain ⟨L, hL⟩ : ∃ L, xs.length = L := ⟨_, rfl⟩
    have HL := Lib.hid hL
    rw [← hl, hL] at hd hy0 ⊢
    rw [hL] at hc hx0
    clear h g hl hL
    go_enter Try.func13, Try.ntmps13
    go_wp2_with fail
    go_loopw [13] (fun i wr => ∃ k : Nat, i = .int .i64 k ∧ k ≤ L ∧ Hid (xs.take k = ys.take k ∧ ∃ n, wr = w.drewN n)) (fun i _ => L - (intOf i).toNat)
    case atStart => exact ⟨0, rfl, by omega, Lib.hid ⟨by simp, 0, rfl⟩⟩
    case round =>
      obtain ⟨k, rfl, hk, HH⟩ := hrel
      obtain ⟨ht, n, rfl⟩ := HH.out
      have HT := Lib.hid ht
      clear HH ht
      by_cases hlt : k < L
      · obtain ⟨x, hx⟩ : ∃ x, xs[k]? = some x := ⟨_, List.getElem?_eq_getElem (by rw [HL.out]; exact hlt)⟩
        obtain ⟨y, hy⟩ : ∃ y, ys[k]? = some y := ⟨_, List.getElem?_eq_getElem (by rw [← HE.out, HL.out]; exact hlt)⟩
        obtain ⟨a, rfl⟩ := rw_some R.out (by rw [HL.out]; omega)
        obtain ⟨b, rfl⟩ := rw_some S.out (by rw [← HE.out, HL.out]; omega)
        have HX := Lib.hid (show ∀ W, (∃ m, W = (w.drewN n).drewN m) → ∀ j v, (sl x)[j]? = some v → W.cell? ((a.add (k * 8)).add j) = some v from fun W hW => by
          obtain ⟨m, rfl⟩ := hW
          exact R.out.at hx)
        have HY := Lib.hid (show ∀ W, (∃ m, W = (w.drewN n).drewN m) → ∀ j v, (sl y)[j]? = some v → W.cell? ((b.add (k * 8)).add j) = some v from fun W hW => by
          obtain ⟨m, rfl⟩ := hW
          exact S.out.at hy)
        cases hq : eqs x y
        · have HF := Lib.hid (same_at hx hy hq)
          have HQ := Lib.hid hq
          clear hx hy hq
          go_upto_region 6 with fail
          refine wp_region_quiet_lit (by kernel_rfl) (by kernel_rfl) ?_
          (try simp only [Act.put])
          repeat (first
            | (refine quiet_load35 (.tmp 18) (a.add (k * 8)) x HX.out ?_ ?_ ?_ ?_; rotate_left; (with_reducible rfl); rfl; rotate_left; kernel_rfl; simp only [Act.put, List.setIfInBounds_toArray, List.set_cons_zero, List.set_cons_succ, sv])
            | (refine quiet_load35 (.tmp 22) (b.add (k * 8)) y HY.out ?_ ?_ ?_ ?_; rotate_left; (with_reducible rfl); rfl; rotate_left; kernel_rfl; simp only [Act.put, List.setIfInBounds_toArray, List.set_cons_zero, List.set_cons_succ, sv])
            | (refine quiet_neq35 (.tmp 19) (.tmp 23) x y ?_ ?_ ?_ ?_ ?_; rotate_left; (with_reducible rfl); rfl; rfl; rotate_left; kernel_rfl; simp only [Act.put, List.setIfInBounds_toArray, List.set_cons_zero, List.set_cons_succ, HQ.out, Bool.not_true, Bool.not_false])
            | go_big_quiet_step (fail))
          refine wpQuiet_nil ?_
          rintro w8 ⟨m, rfl⟩
          go_wp2_with fail
          go_ret
          exact ⟨ret_bool HF.out.symm, _, by first | rfl | (simp only [World.drewN_drewN]; rfl)⟩
        · have HT1 := Lib.hid (take_snoc HT.out hx hy hq)
          have HQ := Lib.hid hq
          clear hx hy hq
          go_upto_region 6 with fail
          refine wp_region_quiet_lit (by kernel_rfl) (by kernel_rfl) ?_
          (try simp only [Act.put])
          repeat (first
            | (refine quiet_load35 (.tmp 18) (a.add (k * 8)) x HX.out ?_ ?_ ?_ ?_; rotate_left; (with_reducible rfl); rfl; rotate_left; kernel_rfl; simp only [Act.put, List.setIfInBounds_toArray, List.set_cons_zero, List.set_cons_succ, sv])
            | (refine quiet_load35 (.tmp 22) (b.add (k * 8)) y HY.out ?_ ?_ ?_ ?_; rotate_left; (with_reducible rfl); rfl; rotate_left; kernel_rfl; simp only [Act.put, List.setIfInBounds_toArray, List.set_cons_zero, List.set_cons_succ, sv])
            | (refine quiet_neq35 (.tmp 19) (.tmp 23) x y ?_ ?_ ?_ ?_ ?_; rotate_left; (with_reducible rfl); rfl; rfl; rotate_left; kernel_rfl; simp only [Act.put, List.setIfInBounds_toArray, List.set_cons_zero, List.set_cons_succ, HQ.out, Bool.not_true, Bool.not_false])
            | go_big_quiet_step (fail))
          refine wpQuiet_nil ?_
          rintro w8 ⟨m, rfl⟩
          go_wp2_with fail
          go_roundw
          case rel => exact ⟨k + 1, by go_num, by omega, Lib.hid ⟨HT1.out, _, by first | rfl | (simp only [World.drewN_drewN]; rfl)⟩⟩
          case measure => simp [intOf]; omega
      · obtain rfl : k = L := by omega
        have HF := Lib.hid (same_all (HE.out) (by rw [HL.out]; exact HT.out))
        go_wp2_with fail
        go_ret
        exact ⟨ret_bool HF.out.symm, _, rfl⟩
  · have HF := Lib.hid (same_len hl)
    have hl' : (xs.length : Int) ≠ (ys.length : Int) := by omega
    clear hl h g
    generalize xs.length = L at *
    generalize ys.length = M at *
    go_enter Try.func13, Try.ntmps13
    go_wp2_with fail
    go_ret
    exact ⟨ret_bool HF.out.symm, 0, rfl⟩

/-- Whether a sighting stands right among its kind; the first k do; all. -/
def pt (ss : List Sg) : Nat → Int
  | 0 => 0
  | i + 1 => (ss[i]?.getD zs).t
def sOk (ss : List Sg) (i : Nat) : Bool := match ss[i]? with
  | some x => isrc x.f && decide (pt ss i ≤ x.t)
  | none => true
def rsP (ss : List Sg) (k : Nat) : Bool := (List.range k).all (sOk ss)
def rsB (ss : List Sg) : Bool := decide (1 ≤ ss.length ∧ ss.length ≤ 8) && rsP ss ss.length
theorem rsP_zero (ss : List Sg) : rsP ss 0 = true := rfl
theorem rsP_succ (ss : List Sg) (k : Nat) : rsP ss (k + 1) = (rsP ss k && sOk ss k) := by
  unfold rsP
  rw [List.range_succ, List.all_append]
  simp
theorem rsP_false (ss : List Sg) (k n : Nat) (h : rsP ss k = false) (hk : k ≤ n) : rsP ss n = false := by
  induction hk with
  | refl => exact h
  | step h1 ih => rw [rsP_succ, ih]; rfl

set_option maxRecDepth 100000 in
set_option maxHeartbeats 4000000 in
theorem rights_any (A : Option Addr) (ss : List Sg) (c : Nat) (w : World) (h : Rw eS w A ss) (hc : ss.length ≤ c) :
    Calls Try.prog 28 #[.slice A ss.length c] w fun e w' => e = .returned (.bool (rsB ss)) ∧ Below w.heap.size w w' := by
  have hln := h.1
  have R := Lib.hid h
  by_cases hl : 1 ≤ ss.length ∧ ss.length ≤ 8
  · have HF := Lib.hid (show rsB ss = rsP ss ss.length by simp [rsB, hl.1, hl.2])
    obtain ⟨L, hL⟩ : ∃ L, ss.length = L := ⟨_, rfl⟩
    have HL := Lib.hid hL
    rw [hL] at hc hln HF hl ⊢
    have hl0 : ¬ (L : Int) = 0 := by omega
    have hl8 : ¬ (8 : Int) < L := by omega
    clear hL h
    go_enter Try.func28, Try.ntmps28
    go_wp2_with fail
    go_loopw [3, 16] (fun v i wr => ∃ k : Nat, i = .int .i64 k ∧ k ≤ L ∧ v = .int .i64 (pt ss k) ∧ Hid (rsP ss k = true ∧ Below w.heap.size w wr)) (fun _ i _ => L - (intOf i).toNat)
    case atStart => exact ⟨0, rfl, by omega, rfl, Lib.hid ⟨rsP_zero _, Below.refl _ _⟩⟩
    case round =>
      obtain ⟨k, rfl, hk, rfl, HH⟩ := hrel
      by_cases hlt : k < L
      · obtain ⟨x, hx⟩ : ∃ x, ss[k]? = some x := ⟨_, List.getElem?_eq_getElem (by rw [HL.out]; exact hlt)⟩
        obtain ⟨y, rfl⟩ := rw_some R.out (by rw [HL.out]; omega)
        have hat : ∀ j v, (sl x)[j]? = some v → wr.cell? ((y.add (k * 8)).add j) = some v := (R.out.below HH.out.2).at hx
        have HS := Lib.hid (rsP_succ ss k)
        have HN := Lib.hid (rsP_false ss (k + 1) L)
        have HM := Lib.hid fun W => src_any x.f W
        have HP1 := Lib.hid (show pt ss (k + 1) = x.t by simp [pt, hx])
        have hO : sOk ss k = (isrc x.f && decide (pt ss k ≤ x.t)) := by simp [sOk, hx]
        generalize pt ss k = T at *
        cases hY : isrc x.f
        · have HO := Lib.hid (show sOk ss k = false by rw [hO, hY]; rfl)
          rw [hY] at HM
          obtain ⟨xf, x0, x1, x2, x3, x4, x5, xt⟩ := x
          clear hx hY hO
          go_wp2_with (refine at_load35 _ rfl rfl _ _ rfl hat ?_)
          refine (HM.out _).mono ?_
          rintro e w1 ⟨rfl, rfl⟩
          go_wp2_with fail
          go_ret
          exact ⟨ret_bool (by rw [HF.out, HN.out (by rw [HS.out, HO.out]; simp) (by omega)]), HH.out.2.alloc HH.out.2.size _⟩
        · rw [hY] at HM
          by_cases ht : x.t < T
          · have HO := Lib.hid (show sOk ss k = false by rw [hO, hY]; simp; omega)
            obtain ⟨xf, x0, x1, x2, x3, x4, x5, xt⟩ := x
            dsimp only at ht
            clear hx hY hO
            go_wp2_with (refine at_load35 _ rfl rfl _ _ rfl hat ?_)
            refine (HM.out _).mono ?_
            rintro e w1 ⟨rfl, rfl⟩
            go_wp2_with fail
            go_ret
            exact ⟨ret_bool (by rw [HF.out, HN.out (by rw [HS.out, HO.out]; simp) (by omega)]), HH.out.2.alloc HH.out.2.size _⟩
          · have HO := Lib.hid (show sOk ss k = true by rw [hO, hY]; simp; omega)
            obtain ⟨xf, x0, x1, x2, x3, x4, x5, xt⟩ := x
            dsimp only at ht HP1
            clear hx hY hO
            go_wp2_with (refine at_load35 _ rfl rfl _ _ rfl hat ?_)
            refine (HM.out _).mono ?_
            rintro e w1 ⟨rfl, rfl⟩
            go_wp2_with fail
            go_roundw
            case rel => exact ⟨k + 1, by go_num, by omega, by rw [HP1.out], Lib.hid ⟨by rw [HS.out, HH.out.1, HO.out]; rfl, HH.out.2.alloc HH.out.2.size _⟩⟩
            case measure => simp [intOf]; omega
      · obtain rfl : k = L := by omega
        go_wp2_with fail
        go_ret
        exact ⟨ret_bool (by rw [HF.out, HH.out.1]), HH.out.2⟩
  · have HF := Lib.hid (show rsB ss = false by simp only [rsB, hl, decide_false, Bool.false_and])
    have hl2 : (ss.length : Int) = 0 ∨ ¬ (ss.length : Int) = 0 ∧ (8 : Int) < ss.length := by omega
    clear hl h
    generalize ss.length = L at *
    rcases hl2 with h0 | ⟨h0, h8⟩
    · go_enter Try.func28, Try.ntmps28
      go_wp2_with fail
      go_ret
      exact ⟨ret_bool HF.out.symm, Below.refl _ _⟩
    · go_enter Try.func28, Try.ntmps28
      go_wp2_with fail
      go_ret
      exact ⟨ret_bool HF.out.symm, Below.refl _ _⟩
end Go.Proofs.Ytcnhagcmklgpkaa
