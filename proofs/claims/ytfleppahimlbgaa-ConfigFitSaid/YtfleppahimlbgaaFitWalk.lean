/-
  ConfigFit's walk: for every choice, and every nine bytes, it returns true, and nothing that lay in memory is touched. Conditions: bytes are bytes.
-/
import Derived.Test.YtfleppahimlbgaaLaws
namespace Go.Proofs.Ytfleppahimlbgaa
open Go.RowKit

/-- The least of place k, where Old's is the nearest Fresh. -/
def lf (x : Cf) (k : Nat) : Int := if k = 1 then (ft x).a else lw x k

/-- The rows of a choice, in which Old's least is n. -/
def rln (x : Cf) (n : Int) : List Value := [.int .i64 x.a, .int .i64 1, .int .i64 1000, .int .i64 x.b, .int .i64 n, .int .i64 10000, .int .i64 x.c, .int .i64 1, .int .i64 6, .int .i64 x.d, .int .i64 1, .int .i64 1000, .int .i64 x.e, .int .i64 1, .int .i64 64,
  .int .i64 x.f, .int .i64 1, .int .i64 100, .int .i64 x.g, .int .i64 0, .int .i64 8, .int .i64 x.h, .int .i64 1, .int .i64 1000, .int .i64 x.i, .int .i64 0, .int .i64 1000]
theorem rows_set {w : World} {h : Nat} {x : Cf} (H : Rb w h (rl x)) (n : Int) : Rb (w.setCell ⟨h, 4, none⟩ (.int .i64 n)) h (rln x n) := by
  refine ⟨fun j v hv => ?_, fun j hj => ?_⟩
  · rw [Nat.zero_add]
    by_cases e : j = 4
    · subst e
      rw [World.cell?_setCell_same _ _ _ (show w.cell? ⟨h, 4, none⟩ = _ from H.1 4 _ rfl), ← hv]
      rfl
    · rw [World.cell?_setCell_other _ _ _ _ (by intro q; injection q with _ q; exact e q.symm)]
      have hj : j < 27 := (List.getElem?_eq_some_iff.1 hv).1
      have := H.1 j v (by
        rw [← hv]
        match j, e with
        | 0, _ => rfl
        | 1, _ => rfl
        | 2, _ => rfl
        | 3, _ => rfl
        | n + 5, _ => rfl)
      rwa [Nat.zero_add] at this
  · have := H.2 j hj
    refine ⟨?_, ?_⟩
    · obtain ⟨u, hu⟩ := Option.isSome_iff_exists.1 this.1
      by_cases e : (⟨h, 4, none⟩ : Addr) = ⟨h, 0 + j, none⟩
      · rw [e, World.cell?_setCell_same _ _ _ hu]; rfl
      · rw [World.cell?_setCell_other _ _ _ _ e, hu]; rfl
    · rw [World.frozen?_setCell]; exact this.2
theorem rows_at {w : World} {h : Nat} {x : Cf} (H : Rb w h (rln x (ft x).a)) {k : Nat} (hk : k < 9) : w.cell? ⟨h, k * 3, none⟩ = some (.int .i64 (x.at k)) ∧ w.cell? ⟨h, k * 3 + 1, none⟩ = some (.int .i64 (lf x k)) ∧ w.cell? ⟨h, k * 3 + 2, none⟩ = some (.int .i64 (hw k)) := by
  have key : ∀ j v, (rln x (ft x).a)[j]? = some v → w.cell? ⟨h, j, none⟩ = some v := fun j v hv => by
    have := H.1 j v hv
    rwa [Nat.zero_add] at this
  rcases nine hk with rfl | rfl | rfl | rfl | rfl | rfl | rfl | rfl | rfl <;> exact ⟨key _ _ rfl, key _ _ rfl, key _ _ rfl⟩

set_option maxRecDepth 100000 in
set_option maxHeartbeats 2000000 in
theorem configFit_walk (x : Cf) (y : Hc) (w : World) (hy : y.Ok) : Calls Try.prog 4 #[cv x, hv y] w fun e w' => e = .returned (.bool true) ∧ Below w.heap.size w w' := by
  have CA := Lib.hid awake_any
  have CT := Lib.hid (fit_any x)
  have CO := Lib.hid (row_any x)
  have CO2 := Lib.hid (row_any (ft x))
  have B0 := Lib.hid (((Below.refl w.heap.size w).alloc (Nat.le_refl _) (Cx x 23)).alloc (by simp) (Hx y))
  have X0 := Lib.hid ((cm_box w x 23).below ((Below.refl _ (w.alloc (Cx x 23))).alloc (Nat.le_refl _) (Hx y)))
  have Y0 := Lib.hid (hm_box (w.alloc (Cx x 23)) y)
  rw [World.size_alloc] at Y0
  unfold cv hv
  go_enter Try.func4, Try.ntmps4
  go_wp2_with fail
  refine (CA.out _).mono ?_
  rintro e w1 ⟨rfl, hb⟩
  have B1 := Lib.hid (B0.out.trans (hb.mono B0.out.size))
  have X1 := Lib.hid (X0.out.below hb)
  have Y1 := Lib.hid (Y0.out.below hb)
  clear hb B0 X0 Y0
  go_wp2_with (refine at_load23 _ w.heap.size x X1.out rfl rfl rfl ?_)
  refine (CT.out _).mono ?_
  rintro e w2 ⟨rfl, hb⟩
  have B2 := Lib.hid (B1.out.trans (hb.mono B1.out.size))
  have X2 := Lib.hid (X1.out.below hb)
  have Y2 := Lib.hid (Y1.out.below hb)
  have P2 := Lib.hid (cb_box w2 z9 23)
  clear hb B1 X1 Y1
  go_upto_region 4 with (refine at_store23 _ _ _ z9 (ft x) P2.out rfl rfl rfl rfl ?_; intro w3 P3 B3)
  have D3 := Lib.hid (((Below.refl _ w2).alloc (Nat.le_refl _) (Cx z9 23)).trans (B3.out _ (Nat.le_refl _)))
  have X3 := Lib.hid (X2.out.below D3.out)
  have Y3 := Lib.hid (Y2.out.below D3.out)
  have E3 := Lib.hid (B2.out.trans (D3.out.mono B2.out.size))
  generalize w2.heap.size = g at *
  clear P2 B3 D3 B2 X2 Y2
  have LX := Lib.hid fun W (h : Rg w3 W) => X3.out.below (below_rg h)
  have LY := Lib.hid fun W (h : Rg w3 W) => Y3.out.below (below_rg h)
  have LF := Lib.hid fun W (h : Rg w3 W) => P3.out.1.below (below_rg h)
  have R1 := Lib.hid fun d os => Calls.regrown_of (rt_ft x ▸ right_any (ft x) (Sort.grow (redrawn w3 d) os))
  have R2 := Lib.hid fun d os => Calls.regrown_of (right_any x (Sort.grow (redrawn w3 d) os))
  have F1 := Lib.hid fun d os => Calls.regrown_of (ft_ft x ▸ fit_any (ft x) (Sort.grow (redrawn w3 d) os))
  have F2 := Lib.hid fun d os => Calls.regrown_of (ft_ch y ▸ fit_any (ch y) (Sort.grow (redrawn w3 d) os))
  have H1 := Lib.hid fun d os => Calls.regrown_of (choice_any y (Sort.grow (redrawn w3 d) os) hy)
  obtain ⟨q, hq⟩ : ∃ q, q = (rt x == -1) := ⟨_, rfl⟩
  have EQ := Lib.hid (show eqc (ft x) x = q by rw [eqc_ft, hq])
  have E : (rt x == -1) = q := hq.symm
  clear hq
  refine wp_region_quiet_below (by kernel_rfl) (by kernel_rfl) ?_
  (try simp only [Act.put])
  repeat (first
    | (refine quiet_load23 (.tmp 5) g (ft x) LF.out ?_ ?_ ?_ ?_; rotate_left; (with_reducible rfl); rfl; rotate_left; kernel_rfl; simp only [Act.put, List.setIfInBounds_toArray, List.set_cons_zero, List.set_cons_succ])
    | (refine quiet_load23 (.tmp 2) w.heap.size x LX.out ?_ ?_ ?_ ?_; rotate_left; (with_reducible rfl); rfl; rotate_left; kernel_rfl; simp only [Act.put, List.setIfInBounds_toArray, List.set_cons_zero, List.set_cons_succ])
    | (refine quiet_load25 (.tmp 3) (w.heap.size + 1) y LY.out ?_ ?_ ?_ ?_; rotate_left; (with_reducible rfl); rfl; rotate_left; kernel_rfl; simp only [Act.put, List.setIfInBounds_toArray, List.set_cons_zero, List.set_cons_succ])
    | (refine quiet_same23 (.tmp 18) (.tmp 19) (ft x) ?_ ?_ ?_ ?_ ?_; rotate_left; (with_reducible rfl); rfl; rfl; rotate_left; kernel_rfl; simp only [Act.put, List.setIfInBounds_toArray, List.set_cons_zero, List.set_cons_succ])
    | (refine quiet_same23 (.tmp 25) (.tmp 27) (ch y) ?_ ?_ ?_ ?_ ?_; rotate_left; (with_reducible rfl); rfl; rfl; rotate_left; kernel_rfl; simp only [Act.put, List.setIfInBounds_toArray, List.set_cons_zero, List.set_cons_succ])
    | (refine quiet_eql23 (.tmp 31) (.tmp 32) (ft x) x ?_ ?_ ?_ ?_ ?_; rotate_left; (with_reducible rfl); rfl; rfl; rotate_left; kernel_rfl; simp only [Act.put, List.setIfInBounds_toArray, List.set_cons_zero, List.set_cons_succ]; rw [EQ.out])
    | go_big_quiet_step (first | (go_at_call 9; first | (with_reducible exact R1.out _ _) | (with_reducible exact R2.out _ _)) | (go_at_call 12; first | (with_reducible exact F1.out _ _) | (with_reducible exact F2.out _ _)) | (go_at_call 10; with_reducible exact H1.out _ _)))
  refine wpQuiet_nil ?_
  intro w4 hw4
  have D4 := Lib.hid (below_rg hw4)
  clear hw4 LX LY LF R1 R2 F1 F2 H1 EQ E
  have X4 := Lib.hid (X3.out.below D4.out)
  have P4 := Lib.hid (P3.out.below D4.out)
  have E4 := Lib.hid (E3.out.trans (D4.out.mono E3.out.size))
  clear X3 P3 E3 D4 Y3
  go_upto_region 6 with fail
  go_wp2_with (refine at_load23 (.tmp 2) w.heap.size x X4.out ?_ ?_ ?_ ?_; (with_reducible rfl); (with_reducible rfl); rfl)
  refine (CO.out _).mono ?_
  rintro e w5 ⟨rfl, hb⟩
  have P5 := Lib.hid (P4.out.below hb)
  have E5 := Lib.hid (E4.out.trans (hb.mono E4.out.size))
  have T5 := Lib.hid (zx_there w5)
  clear hb X4 P4 E4
  go_upto_region 7 with (refine at_store28 _ _ _ x T5.out rfl rfl rfl rfl ?_; intro w6 R6 B6)
  have D6 := Lib.hid (((Below.refl _ w5).alloc (Nat.le_refl _) Zx).trans (B6.out _ (Nat.le_refl _)))
  have P6 := Lib.hid (P5.out.below D6.out)
  have E6 := Lib.hid (E5.out.trans (D6.out.mono E5.out.size))
  have hg : g < w5.heap.size := P5.out.1.lt
  have hwh0 : w.heap.size ≤ w5.heap.size := E5.out.size
  generalize w5.heap.size = h at *
  clear B6 D6 P5 E5 T5
  have c0 := P6.out.1.at (k := 0) (by omega)
  have c4 : w6.cell? ⟨h, 4, none⟩ = some (.int .i64 x.a) := R6.out.1 4 _ rfl
  have f4 : w6.frozen? ⟨h, 4, none⟩ = false := (R6.out.2 4 (by omega)).2
  go_upto_region 8 with fail
  clear c0 c4 f4
  have D7 := Lib.hid ((Below.refl h w6).setCell (p := ⟨h, 4, none⟩) (Nat.le_refl _) (.int .i64 ((ft x).at 0)))
  have P7 := Lib.hid (P6.out.keep D7.out hg)
  have hwh : w.heap.size ≤ h := hwh0
  have E7 := Lib.hid (E6.out.trans (D7.out.mono hwh))
  have R7 := Lib.hid (rows_set R6.out ((ft x).at 0))
  clear R6 D7 P6 E6
  generalize w6.setCell ⟨h, 4, none⟩ (.int .i64 ((ft x).at 0)) = w7 at *
  go_wp2_with (refine at_load23 (.tmp 5) g (ft x) P7.out.1 ?_ ?_ ?_ ?_; (with_reducible rfl); (with_reducible rfl); rfl)
  refine (CO2.out _).mono ?_
  rintro e w8 ⟨rfl, hb⟩
  have E8 := Lib.hid (E7.out.trans (hb.mono E7.out.size))
  have R8 := Lib.hid (R7.out.below hb)
  clear hb R7 P7 E7
  go_wp2_with fail
  go_loopw [47] (fun i wr => ∃ k : Nat, k ≤ 9 ∧ i = .int .i64 k ∧ Below w8.heap.size w8 wr) (fun i _ => 9 - (intOf i).toNat)
  case atStart => exact ⟨0, by omega, rfl, Below.refl _ _⟩
  case round =>
    obtain ⟨k, hk, rfl, hB⟩ := hrel
    have HB := Lib.hid hB
    clear hB
    by_cases hlt : k < 9
    · have RR := R8.out.below HB.out
      obtain ⟨c0, c1, c2⟩ := rows_at RR hlt
      have hh := there_lt RR.2
      have hh2 : h ≠ wr.heap.size := by omega
      clear RR
      have EM : max (lf x k) (min (x.at k) (hw k)) = (ft x).at k := (ft_at hlt).symm
      go_upto_region 11 with (refine at_index28 (.tmp 46) (.tmp 47) (ft x) k hlt ?_ ?_ ?_ ?_ ?_; (with_reducible rfl); (with_reducible rfl); rfl; rfl)
      go_quiet (fail)
      have hsz := HB.out.size
      have BB := Lib.hid (HB.out.alloc hsz (.cells #[.int .i64 ((ft x).at k), .int .i64 (lw (ft x) k), .int .i64 (hw k)] 27))
      go_wp2_with fail
      go_roundw
      case rel => exact ⟨k + 1, by omega, by go_num, below_drewN BB.out _⟩
      case measure => simp [intOf]; omega
    · obtain rfl : k = 9 := by omega
      have E9 := Lib.hid (E8.out.trans (HB.out.mono E8.out.size))
      go_wp2_with fail
      go_ret
      exact ⟨rfl, E9.out⟩
end Go.Proofs.Ytfleppahimlbgaa
