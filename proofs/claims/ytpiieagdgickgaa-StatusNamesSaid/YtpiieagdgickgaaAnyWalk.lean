/-
  StatusAny's walk: it returns true, and nothing that lay in memory is touched. Conditions: numbers are bytes, and lie in memory.
-/
import Derived.Test.YtpiieagdgickgaaSem
import Derived.Deep.CutRange
import Derived.Lib.QuietBelow
set_option linter.unusedSimpArgs false
set_option linter.unusedVariables false
namespace Go.Proofs.Ytpiieagdgickgaa
open Go.RowKit

/-- A choice of which the need is another one. -/
theorem cm_set {W : World} {b : Nat} {x : Cf} (h : Cm W b x) (D : Int) : Cm (W.setCell ⟨b, 2, none⟩ (.int .i64 D)) b ⟨x.a, x.b, D, x.d, x.e, x.f, x.g, x.h, x.i⟩ := by
  have hne : ∀ k, k ≠ 2 → (⟨b, 2, none⟩ : Addr) ≠ ⟨b, k, none⟩ := fun k hk e => by injection e with _ e; exact hk e.symm
  refine ⟨by simpa using h.lt, ?_, ?_, World.cell?_setCell_same _ _ _ h.c2, ?_, ?_, ?_, ?_, ?_, ?_⟩
  · rw [World.cell?_setCell_other _ _ _ _ (hne 0 (by decide))]; exact h.c0
  · rw [World.cell?_setCell_other _ _ _ _ (hne 1 (by decide))]; exact h.c1
  · rw [World.cell?_setCell_other _ _ _ _ (hne 3 (by decide))]; exact h.c3
  · rw [World.cell?_setCell_other _ _ _ _ (hne 4 (by decide))]; exact h.c4
  · rw [World.cell?_setCell_other _ _ _ _ (hne 5 (by decide))]; exact h.c5
  · rw [World.cell?_setCell_other _ _ _ _ (hne 6 (by decide))]; exact h.c6
  · rw [World.cell?_setCell_other _ _ _ _ (hne 7 (by decide))]; exact h.c7
  · rw [World.cell?_setCell_other _ _ _ _ (hne 8 (by decide))]; exact h.c8
/-- A holder as a value. -/
structure Hd where
  ad : Int
  ow : ByteArray
  m : Mc
def hdv (h : Hd) : Value := .agg #[.int .u32 h.ad, .string h.ow, .int .u8 h.m.b0, .int .u8 h.m.b1, .int .u8 h.m.b2, .int .u8 h.m.b3, .int .u8 h.m.b4, .int .u8 h.m.b5]
/-- What StatusAny lays first. -/
def An (w : World) (x : Cf) (h : Hd) : World := (w.alloc (Cfx x)).alloc (Hx h.ad (.string h.ow) h.m)
theorem an_c (w : World) (x : Cf) (h : Hd) : Cb (w.alloc (Cfx x)) w.heap.size x := cb_box w x
theorem an_cm (w : World) (x : Cf) (h : Hd) : Cm (An w x h) w.heap.size x := (cm_box w x).below ((Below.refl _ _).alloc (Nat.le_refl _) _)
theorem an_fr (w : World) (x : Cf) (h : Hd) : (An w x h).frozen? ⟨w.heap.size, 2, none⟩ = false := by
  have h1 := ((cb_box w x).2 2 (by omega)).2
  have h2 : Below (w.alloc (Cfx x)).heap.size (w.alloc (Cfx x)) (An w x h) := (Below.refl _ _).alloc (Nat.le_refl _) _
  rw [h2.frozen (p := ⟨w.heap.size, 2, none⟩) (by simp)]
  exact h1
theorem an_hm (w : World) (x : Cf) (h : Hd) : Hm (An w x h) (w.heap.size + 1) h.m := by
  have := hm_box (w.alloc (Cfx x)) h.ad (.string h.ow) h.m
  rwa [World.size_alloc] at this
theorem an_b (w : World) (x : Cf) (h : Hd) : Below w.heap.size w (An w x h) := ((Below.refl w.heap.size w).alloc (Nat.le_refl _) (Cfx x)).alloc (by simp) _
set_option maxRecDepth 100000 in
set_option maxHeartbeats 8000000 in
theorem statusAny_walk (x : Cf) (hd : Hd) (A : Option Addr) (xs : List Sg) (cap : Nat) (now : Int) (held : Bool) (w : World) (hr : Rw eS w A xs) (hcap : xs.length ≤ cap) :
    Calls Try.prog 4 #[cfv x, hdv hd, .slice A xs.length cap, .int .i64 now, .bool held] w fun e w' => e = .returned (.bool true) ∧ Below w.heap.size w w' := by
  have HAW := Lib.hid awake_any
  obtain ⟨L, hL⟩ : ∃ L : Nat, min (xs.length : Int) 60 = L := ⟨min xs.length 60, by omega⟩
  have hL60 : L ≤ 60 := by omega
  have hLz : L ≤ xs.length := by omega
  have hLc : L ≤ cap := by omega
  have hLci : (L : Int) ≤ cap := by omega
  have hln := hr.1
  obtain ⟨D, hD⟩ : ∃ D : Int, min x.c 1099511627776 = D := ⟨_, rfl⟩
  have hD1 : D ≤ 1099511627776 := by omega
  obtain ⟨X, hX⟩ : ∃ X : Cf, X = ⟨x.a, x.b, D, x.d, x.e, x.f, x.g, x.h, x.i⟩ := ⟨_, rfl⟩
  have HXc : X.c ≤ 1099511627776 := by rw [hX]; exact hD1
  obtain ⟨zs, hzs⟩ : ∃ zs, xs.take L = zs := ⟨_, rfl⟩
  have hzl : zs.length = L := by rw [← hzs, List.length_take]; omega
  have HLZ := Lib.hid hzl
  obtain ⟨h, hh⟩ : ∃ h : Option (Nat × Mc), h = if held then some (w.heap.size + 1, hd.m) else none := ⟨_, rfl⟩
  have B0 := Lib.hid (an_b w x hd)
  have C0 := Lib.hid (an_cm w x hd)
  have F0 := Lib.hid (an_fr w x hd)
  have M0 := Lib.hid (an_hm w x hd)
  have HRZ := Lib.hid fun W (hB : Below w.heap.size w W) => (show Rw eS W A zs by rw [← hzs]; exact (hr.below hB).take L)
  have HOF := Lib.hid fun W (hP : HP W h) (hR : Rw eS W A zs) => (show Calls Try.prog 13 #[cfv X, hp h, .slice A L cap, .int .i64 now] W fun e w' => e = .returned (.int .i64 (stO X (h.map (·.2)) zs now)) ∧ Below W.heap.size W w' from
    hzl ▸ of_any X h A zs cap now W hP hR (by omega) (by omega) HXc)
  have HLF := Lib.hid fun W (hP : HP W h) (hR : Rw eS W A zs) => (show Calls Try.prog 14 #[cfv X, hp h, .slice A L cap, .int .i64 now] W fun e w' => e = .returned (.int .i64 (stO X (h.map (·.2)) zs now)) ∧ Below W.heap.size W w' from
    hzl ▸ lawOf_any X h A zs cap now W hP hR (by omega) (by omega) HXc)
  obtain ⟨T, hT⟩ : ∃ T, stO X (h.map (·.2)) zs now = T := ⟨_, rfl⟩
  rw [hT] at HOF HLF
  have HP0 := Lib.hid fun W (k : Hm W (w.heap.size + 1) hd.m) => (show HP W h by
    rw [hh]
    cases held
    · exact trivial
    · exact k)
  have HHV := Lib.hid (show hp h = if held then .pointer (some ⟨w.heap.size + 1, 0, none⟩) else .pointer none by rw [hh]; cases held <;> rfl)
  have HCS := Lib.hid fun W (hC : Cm W w.heap.size x) => (show Cm (W.setCell ⟨w.heap.size, 2, none⟩ (.int .i64 D)) w.heap.size X by rw [hX]; exact cm_set hC D)
  have E0 : (An w x hd) = (w.alloc (Cfx x)).alloc (Hx hd.ad (.string hd.ow) hd.m) := rfl
  obtain ⟨ca, cb, cc, cd, ce, cf, cg, ch', ci⟩ := x
  obtain ⟨ad, ow, ⟨m0, m1, m2, m3, m4, m5⟩⟩ := hd
  dsimp only at hD
  simp only [cfv, hdv, Cfx, Hx] at E0 ⊢
  clear hr hzs hzl hX hh hT hL60
  go_enter Try.func4, Try.ntmps4
  go_upto_region 1 with fail
  rw [← E0]
  clear E0
  generalize An w ⟨ca, cb, cc, cd, ce, cf, cg, ch', ci⟩ ⟨ad, ow, ⟨m0, m1, m2, m3, m4, m5⟩⟩ = W0 at *
  go_wp2_with fail
  refine (HAW.out _).mono ?_
  rintro e w1 ⟨rfl, hb⟩
  have B1 := Lib.hid (bthen B0.out hb B0.out.size)
  have C1 := Lib.hid (C0.out.below hb)
  have F1 := Lib.hid ((hb.frozen (p := ⟨w.heap.size, 2, none⟩) C0.out.lt).trans F0.out)
  have M1 := Lib.hid (M0.out.below hb)
  have k2 := C1.out.c2
  dsimp only at k2
  have f2 := F1.out
  clear hb B0 C0 F0 M0
  have DS : Below w.heap.size w1 (w1.setCell ⟨w.heap.size, 2, none⟩ (.int .i64 D)) := (Below.refl _ w1).setCell (p := ⟨w.heap.size, 2, none⟩) (Nat.le_refl _) _
  have DT : Below (w1.heap.size) (w1.setCell ⟨w.heap.size, 2, none⟩ (.int .i64 D)) (w1.setCell ⟨w.heap.size, 2, none⟩ (.int .i64 D)) := Below.refl _ _
  have B2 := Lib.hid (B1.out.trans DS)
  have C2 := Lib.hid (HCS.out w1 C1.out)
  have M2 := Lib.hid (show Hm (w1.setCell ⟨w.heap.size, 2, none⟩ (.int .i64 D)) (w.heap.size + 1) ⟨m0, m1, m2, m3, m4, m5⟩ by
    have hne : ∀ k, (⟨w.heap.size, 2, none⟩ : Addr) ≠ ⟨w.heap.size + 1, k, none⟩ := fun k e => by injection e with e; omega
    refine ⟨by simpa using M1.out.lt, ?_, ?_, ?_, ?_, ?_, ?_⟩
    · rw [World.cell?_setCell_other _ _ _ _ (hne _)]; exact M1.out.c2
    · rw [World.cell?_setCell_other _ _ _ _ (hne _)]; exact M1.out.c3
    · rw [World.cell?_setCell_other _ _ _ _ (hne _)]; exact M1.out.c4
    · rw [World.cell?_setCell_other _ _ _ _ (hne _)]; exact M1.out.c5
    · rw [World.cell?_setCell_other _ _ _ _ (hne _)]; exact M1.out.c6
    · rw [World.cell?_setCell_other _ _ _ _ (hne _)]; exact M1.out.c7)
  have R2 := Lib.hid (HRZ.out _ B2.out)
  clear DS DT B1 C1 F1 M1
  cases held
  · rw [HHV.out, if_neg (by simp)] at HOF HLF
    go_upto_region 8 with fail
    generalize w1.setCell ⟨w.heap.size, 2, none⟩ (.int .i64 D) = W2 at *
    have CO := fun (d : Nat) (os : Array Obj) => HOF.out (Sort.grow (redrawn W2 d) os) (HP0.out _ (M2.out.below (below_regrown W2 d os))) (R2.out.below (below_regrown W2 d os))
    have CL := fun (d : Nat) (os : Array Obj) => HLF.out (Sort.grow (redrawn W2 d) os) (HP0.out _ (M2.out.below (below_regrown W2 d os))) (R2.out.below (below_regrown W2 d os))
    have G1 := Lib.hid fun d os => Calls.regrown_of (CO d os)
    have G2 := Lib.hid fun d os => Calls.regrown_of (CL d os)
    have LC := Lib.hid fun W (h : Rg W2 W) => C2.out.below (below_rg h)
    clear CO CL k2 f2
    refine wp_region_quiet_below (by kernel_rfl) (by kernel_rfl) ?_
    (try simp only [Act.put])
    repeat (first
      | (refine quiet_load27 (.tmp 5) w.heap.size X LC.out ?_ ?_ ?_ ?_; rotate_left; (with_reducible rfl); rfl; rotate_left; kernel_rfl; simp only [Act.put, List.setIfInBounds_toArray, List.set_cons_zero, List.set_cons_succ])
      | go_big_quiet_step (first | (go_at_call 13; with_reducible exact G1.out _ _) | (go_at_call 14; with_reducible exact G2.out _ _)))
    refine wpQuiet_nil ?_
    intro w8 hw8
    have D8 := below_rg hw8
    have HB8 := Lib.hid (bthen B2.out D8 B2.out.size)
    clear hw8 D8 G1 G2 LC
    go_wp2_with fail
    go_ret
    exact ⟨rfl, HB8.out⟩
  · rw [HHV.out, if_pos rfl] at HOF HLF
    go_upto_region 8 with fail
    generalize w1.setCell ⟨w.heap.size, 2, none⟩ (.int .i64 D) = W2 at *
    have CO := fun (d : Nat) (os : Array Obj) => HOF.out (Sort.grow (redrawn W2 d) os) (HP0.out _ (M2.out.below (below_regrown W2 d os))) (R2.out.below (below_regrown W2 d os))
    have CL := fun (d : Nat) (os : Array Obj) => HLF.out (Sort.grow (redrawn W2 d) os) (HP0.out _ (M2.out.below (below_regrown W2 d os))) (R2.out.below (below_regrown W2 d os))
    have G1 := Lib.hid fun d os => Calls.regrown_of (CO d os)
    have G2 := Lib.hid fun d os => Calls.regrown_of (CL d os)
    have LC := Lib.hid fun W (h : Rg W2 W) => C2.out.below (below_rg h)
    clear CO CL k2 f2
    refine wp_region_quiet_below (by kernel_rfl) (by kernel_rfl) ?_
    (try simp only [Act.put])
    repeat (first
      | (refine quiet_load27 (.tmp 5) w.heap.size X LC.out ?_ ?_ ?_ ?_; rotate_left; (with_reducible rfl); rfl; rotate_left; kernel_rfl; simp only [Act.put, List.setIfInBounds_toArray, List.set_cons_zero, List.set_cons_succ])
      | go_big_quiet_step (first | (go_at_call 13; with_reducible exact G1.out _ _) | (go_at_call 14; with_reducible exact G2.out _ _)))
    refine wpQuiet_nil ?_
    intro w8 hw8
    have D8 := below_rg hw8
    have HB8 := Lib.hid (bthen B2.out D8 B2.out.size)
    clear hw8 D8 G1 G2 LC
    go_wp2_with fail
    go_ret
    exact ⟨rfl, HB8.out⟩
end Go.Proofs.Ytpiieagdgickgaa
