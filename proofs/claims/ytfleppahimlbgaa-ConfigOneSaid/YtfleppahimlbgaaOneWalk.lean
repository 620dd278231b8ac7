/-
  ConfigOne's walk: for every nine bytes, every place and every number it returns true, and nothing that lay in memory is touched. Conditions: bytes are bytes.
-/
import Derived.Test.YtfleppahimlbgaaLaws
namespace Go.Proofs.Ytfleppahimlbgaa
open Go.RowKit

theorem st_at (x : Cf) (k : Nat) (n : Int) {j : Nat} (hj : j < 9) : (st x k n).at j = if j = k then n else x.at j := by
  rcases nine hj with rfl | rfl | rfl | rfl | rfl | rfl | rfl | rfl | rfl <;> simp [Cf.at, Cf.l, st, eq_comm]
theorem cl_st (x : Cf) (k : Nat) (n : Int) {j : Nat} (hj : j < 9) (h : j ≠ k) : (cl (st x k n))[j]? = (cl x)[j]? := by rw [cl_at hj, cl_at hj, st_at x k n hj, if_neg h]
theorem cb_set {w : World} {g : Nat} {x : Cf} (H : Cb w g x) {k : Nat} (hk : k < 9) (n : Int) : Cb (w.setCell ⟨g, k, none⟩ (.int .i64 n)) g (st x k n) := by
  refine ⟨fun j v hv => ?_, fun j hj => ?_⟩
  · rw [Nat.zero_add]
    have hj : j < 9 := (List.getElem?_eq_some_iff.1 hv).1
    by_cases e : j = k
    · subst e
      rw [World.cell?_setCell_same _ _ _ (H.1.at hk), ← hv, cl_at hk, st_at x j n hk, if_pos rfl]
    · rw [World.cell?_setCell_other _ _ _ _ (by intro q; injection q with _ q; exact e q.symm)]
      rw [cl_st x k n hj e] at hv
      have := H.1 j v hv
      rwa [Nat.zero_add] at this
  · have := H.2 j hj
    refine ⟨?_, ?_⟩
    · obtain ⟨u, hu⟩ := Option.isSome_iff_exists.1 this.1
      by_cases e : (⟨g, k, none⟩ : Addr) = ⟨g, 0 + j, none⟩
      · rw [e, World.cell?_setCell_same _ _ _ hu]; rfl
      · rw [World.cell?_setCell_other _ _ _ _ e, hu]; rfl
    · rw [World.frozen?_setCell]; exact this.2
theorem rows_of {w : World} {h : Nat} {x : Cf} (H : Rb w h (rl x)) {k : Nat} (hk : k < 9) : w.cell? ⟨h, k * 3, none⟩ = some (.int .i64 (x.at k)) ∧ w.cell? ⟨h, k * 3 + 1, none⟩ = some (.int .i64 (lw x k)) ∧ w.cell? ⟨h, k * 3 + 2, none⟩ = some (.int .i64 (hw k)) := by
  have key : ∀ j v, (rl x)[j]? = some v → w.cell? ⟨h, j, none⟩ = some v := fun j v hv => by
    have := H.1 j v hv
    rwa [Nat.zero_add] at this
  rcases nine hk with rfl | rfl | rfl | rfl | rfl | rfl | rfl | rfl | rfl <;> exact ⟨key _ _ rfl, key _ _ rfl, key _ _ rfl⟩

set_option maxRecDepth 100000 in
set_option maxHeartbeats 4000000 in
theorem configOne_walk (y : Hc) (at9 n : Int) (w : World) (hy : y.Ok) (hat : 0 ≤ at9 ∧ at9 < 256) : Calls Try.prog 5 #[hv y, .int .u8 at9, .int .i64 n] w fun e w' => e = .returned (.bool true) ∧ Below w.heap.size w w' := by
  have CA := Lib.hid awake_any
  have CH := Lib.hid fun W => choice_any y W hy
  have B0 := Lib.hid ((Below.refl w.heap.size w).alloc (Nat.le_refl _) (Hx y))
  have Y0 := Lib.hid (hm_box w y)
  obtain ⟨k, hk⟩ : ∃ k : Nat, at9 % 9 = k := ⟨(at9 % 9).toNat, by omega⟩
  have hk9 : k < 9 := by omega
  have HK := Lib.hid hk
  obtain ⟨h0, h1⟩ := hat
  have OK := Lib.hid (ch_ok y)
  clear hk hy
  unfold hv
  go_enter Try.func5, Try.ntmps5
  go_wp2_with fail
  refine (CA.out _).mono ?_
  rintro e w1 ⟨rfl, hb⟩
  have B1 := Lib.hid (B0.out.trans (hb.mono B0.out.size))
  have Y1 := Lib.hid (Y0.out.below hb)
  clear hb B0 Y0
  go_wp2_with (refine at_load25 (.tmp 3) w.heap.size y Y1.out ?_ ?_ ?_ ?_; rotate_left; (with_reducible rfl); rfl; rotate_left; kernel_rfl)
  refine (CH.out _).mono ?_
  rintro e w2 ⟨rfl, hb⟩
  generalize ch y = x at *
  have B2 := Lib.hid (B1.out.trans (hb.mono B1.out.size))
  have P2 := Lib.hid (cb_box w2 z9 23)
  have hw2 := B2.out.size
  clear hb B1 Y1
  go_upto_region 4 with (refine at_store23 _ _ _ z9 x P2.out rfl rfl rfl rfl ?_; intro w3 P3 B3)
  have B4 := Lib.hid ((B2.out.alloc hw2 (Cx z9 23)).trans (B3.out _ hw2))
  clear P2 B3 B2
  generalize w2.heap.size = g at *
  simp only [Act.put]
  go_cut [8] from 17 to 30 (fun v wc => v = .pointer (some ⟨g, k, none⟩) ∧ Below w3.heap.size w3 wc)
  case first =>
    have hkk := HK.out
    rcases nine hk9 with rfl | rfl | rfl | rfl | rfl | rfl | rfl | rfl | rfl
    all_goals
      push_cast at hkk
      go_wp2_with fail
      go_meet
      exact ⟨rfl, (Below.refl _ _).alloc (Nat.le_refl _) _⟩
  case rest =>
    obtain ⟨rfl, hb⟩ := hcut
    have hbs := hb.size
    have hg := P3.out.1.lt
    have E5 := Lib.hid (B4.out.trans (hb.mono (by omega)))
    have P5 := P3.out.below hb
    have c : wc.cell? ⟨g, k, none⟩ = some (.int .i64 (x.at k)) := P5.1.at hk9
    have f : wc.frozen? ⟨g, k, none⟩ = false := by have := (P5.2 k hk9).2; rwa [Nat.zero_add] at this
    have P6 := Lib.hid (cb_set P5 hk9 n)
    have E6 := Lib.hid (E5.out.setCell (p := ⟨g, k, none⟩) hw2 (.int .i64 n))
    have ST := Lib.hid (rt_st OK.out hk9 n)
    clear hb P3 P5 B4 E5 OK
    go_upto_region 6 with fail
    clear c f
    generalize wc.setCell ⟨g, k, none⟩ (.int .i64 n) = w6 at *
    generalize st x k n = z at *
    have CO := Lib.hid (row_any z)
    have CR := Lib.hid (right_any z)
    go_wp2_with (refine at_load23 (.tmp 7) g z P6.out.1 ?_ ?_ ?_ ?_; (with_reducible rfl); (with_reducible rfl); rfl)
    refine (CO.out _).mono ?_
    rintro e w7 ⟨rfl, hb⟩
    have P7 := Lib.hid (P6.out.below hb)
    have E7 := Lib.hid (E6.out.trans (hb.mono E6.out.size))
    have T7 := Lib.hid (zx_there w7)
    clear hb P6 E6
    go_upto_region 7 with (refine at_store28 _ _ _ z T7.out rfl rfl rfl rfl ?_; intro w8 R8 B8)
    have D8 := Lib.hid (((Below.refl _ w7).alloc (Nat.le_refl _) Zx).trans (B8.out _ (Nat.le_refl _)))
    have P8 := Lib.hid (P7.out.below D8.out)
    have E8 := Lib.hid (E7.out.trans (D8.out.mono E7.out.size))
    generalize w7.heap.size = h at *
    clear B8 D8 P7 E7 T7
    have hkk := HK.out
    simp only [Act.put]
    go_upto_region 8 with fail
    clear hkk
    obtain ⟨c0, c1, c2⟩ := rows_of R8.out hk9
    have HD := Lib.hid (show bad z k = (decide (z.at k < lw z k) || decide (hw k < z.at k)) from rfl)
    go_cut [11] from 39 to 58 (fun v wd => v = .bool (bad z k) ∧ ∃ m, wd = w8.drewN m)
    case first =>
      by_cases ha : z.at k < lw z k
      · rw [decide_eq_true ha, Bool.true_or] at HD
        have ha' : decide (z.at k < lw z k) = true := decide_eq_true ha
        go_quiet (fail)
        go_wp2_with fail
        go_meet
        exact ⟨by rw [HD.out], _, rfl⟩
      · have ha' : decide (z.at k < lw z k) = false := decide_eq_false ha
        rw [decide_eq_false ha, Bool.false_or] at HD
        go_quiet (fail)
        go_wp2_with fail
        go_meet
        exact ⟨by rw [HD.out], _, rfl⟩
    case rest =>
      obtain ⟨rfl, m, rfl⟩ := hcut
      clear c0 c1 c2 HD
      have P9 := Lib.hid (P8.out.drewN m)
      have E9 := Lib.hid (below_drewN E8.out m)
      clear P8 E8 R8 CO
      obtain ⟨S1, S2, S3⟩ := ST.out
      by_cases hb : bad z k = true
      · have r := S1 hb
        rw [r] at CR
        rw [hb]
        clear S1 S2 S3 ST hb r
        by_cases h0 : k = 0
        · subst h0
          go_wp2_with (refine at_load23 (.tmp 7) g z P9.out.1 ?_ ?_ ?_ ?_; (with_reducible rfl); (with_reducible rfl); rfl)
          refine (CR.out _).mono ?_
          rintro e w9 ⟨rfl, hb⟩
          have P10 := Lib.hid (P9.out.below hb)
          have E10 := Lib.hid (E9.out.trans (hb.mono E9.out.size))
          have c0 : w9.cell? ⟨g, 0, none⟩ = some (.int .i64 z.a) := P10.out.1.at (k := 0) (by omega)
          have c1 : w9.cell? ⟨g, 1, none⟩ = some (.int .i64 z.b) := P10.out.1.at (k := 1) (by omega)
          clear hb
          go_wp2_with fail
          go_ret
          exact ⟨rfl, E10.out⟩
        · have e0 : ((k : Int) == 0) = false := by simpa using h0
          have e1 : ((k : Int) == (k : Int)) = true := by simp
          go_wp2_with (refine at_load23 (.tmp 7) g z P9.out.1 ?_ ?_ ?_ ?_; (with_reducible rfl); (with_reducible rfl); rfl)
          refine (CR.out _).mono ?_
          rintro e w9 ⟨rfl, hb⟩
          have P10 := Lib.hid (P9.out.below hb)
          have E10 := Lib.hid (E9.out.trans (hb.mono E9.out.size))
          have c0 : w9.cell? ⟨g, 0, none⟩ = some (.int .i64 z.a) := P10.out.1.at (k := 0) (by omega)
          have c1 : w9.cell? ⟨g, 1, none⟩ = some (.int .i64 z.b) := P10.out.1.at (k := 1) (by omega)
          clear hb
          go_wp2_with fail
          go_ret
          exact ⟨rfl, E10.out⟩
      · have hb' : bad z k = false := by simpa using hb
        clear hb
        rw [hb']
        by_cases h0 : k = 0
        · by_cases hlt : z.b < z.a
          · have r := S2 hb' h0 hlt
            rw [r] at CR
            subst h0
            clear S1 S2 S3 ST hb' r
            go_wp2_with (refine at_load23 (.tmp 7) g z P9.out.1 ?_ ?_ ?_ ?_; (with_reducible rfl); (with_reducible rfl); rfl)
            refine (CR.out _).mono ?_
            rintro e w9 ⟨rfl, hb⟩
            have P10 := Lib.hid (P9.out.below hb)
            have E10 := Lib.hid (E9.out.trans (hb.mono E9.out.size))
            have c0 : w9.cell? ⟨g, 0, none⟩ = some (.int .i64 z.a) := P10.out.1.at (k := 0) (by omega)
            have c1 : w9.cell? ⟨g, 1, none⟩ = some (.int .i64 z.b) := P10.out.1.at (k := 1) (by omega)
            clear hb
            go_wp2_with fail
            go_ret
            exact ⟨rfl, E10.out⟩
          · have r := S3 hb' fun _ => by omega
            rw [r] at CR
            subst h0
            have hle : z.a ≤ z.b := by omega
            clear S1 S2 S3 ST hb' r
            go_wp2_with (refine at_load23 (.tmp 7) g z P9.out.1 ?_ ?_ ?_ ?_; (with_reducible rfl); (with_reducible rfl); rfl)
            refine (CR.out _).mono ?_
            rintro e w9 ⟨rfl, hb⟩
            have P10 := Lib.hid (P9.out.below hb)
            have E10 := Lib.hid (E9.out.trans (hb.mono E9.out.size))
            have c0 : w9.cell? ⟨g, 0, none⟩ = some (.int .i64 z.a) := P10.out.1.at (k := 0) (by omega)
            have c1 : w9.cell? ⟨g, 1, none⟩ = some (.int .i64 z.b) := P10.out.1.at (k := 1) (by omega)
            clear hb
            go_wp2_with fail
            go_ret
            exact ⟨rfl, E10.out⟩
        · have r := S3 hb' fun h => absurd h h0
          rw [r] at CR
          have e0 : ((k : Int) == 0) = false := by simpa using h0
          clear S1 S2 S3 ST hb' r
          go_wp2_with (refine at_load23 (.tmp 7) g z P9.out.1 ?_ ?_ ?_ ?_; (with_reducible rfl); (with_reducible rfl); rfl)
          refine (CR.out _).mono ?_
          rintro e w9 ⟨rfl, hb⟩
          have P10 := Lib.hid (P9.out.below hb)
          have E10 := Lib.hid (E9.out.trans (hb.mono E9.out.size))
          have c0 : w9.cell? ⟨g, 0, none⟩ = some (.int .i64 z.a) := P10.out.1.at (k := 0) (by omega)
          have c1 : w9.cell? ⟨g, 1, none⟩ = some (.int .i64 z.b) := P10.out.1.at (k := 1) (by omega)
          clear hb
          go_wp2_with fail
          go_ret
          exact ⟨rfl, E10.out⟩
end Go.Proofs.Ytfleppahimlbgaa
