/-
  The contract of cases.Tick. Conditions: the row lies in memory, and has up to 900 cases.
-/
import Derived.BigGuard
import Derived.Test.YtmaaniokfpkbjaaStp
set_option linter.unusedSimpArgs false
set_option linter.unusedVariables false
namespace Go.Proofs.Ytmaaniokfpkbjaa
open Go.RowKit

/-- A case behind a tick. -/
def tk (h now : Int) (x : Ca) : Ca := if x.g = 0 ∧ h ≤ si now x.r then mv 3 now x else x
def tkO (h now : Int) (xs : List Ca) : List Ca := xs.map (tk h now)
/-- The first k cases are behind the tick. -/
def tkl (h now : Int) (xs : List Ca) (k : Nat) : List Ca := (xs.take k).map (tk h now) ++ xs.drop k
theorem tkl_zero (h now : Int) (xs : List Ca) : tkl h now xs 0 = xs := by simp [tkl]
theorem tkl_len (h now : Int) (xs : List Ca) (k : Nat) : (tkl h now xs k).length = xs.length := by simp [tkl]; omega
theorem tkl_end (h now : Int) (xs : List Ca) : tkl h now xs xs.length = tkO h now xs := by simp [tkl, tkO]
theorem tkl_at {h now : Int} {xs : List Ca} {k : Nat} {x : Ca} (hx : xs[k]? = some x) : (tkl h now xs k)[k]? = some x := by
  have hk := (List.getElem?_eq_some_iff.1 hx).1
  unfold tkl
  rw [List.getElem?_append_right (by rw [List.length_map, List.length_take]; omega), List.length_map, List.length_take, Nat.min_eq_left (by omega), Nat.sub_self, List.getElem?_drop]
  exact hx
theorem tkl_set {h now : Int} {xs : List Ca} {k : Nat} {x : Ca} (hx : xs[k]? = some x) : (tkl h now xs k).set k (tk h now x) = tkl h now xs (k + 1) := by
  have hk := (List.getElem?_eq_some_iff.1 hx).1
  have hx' := (List.getElem?_eq_some_iff.1 hx).2
  unfold tkl
  have hd : xs.drop k = x :: xs.drop (k + 1) := by rw [← hx']; exact List.drop_eq_getElem_cons hk
  rw [hd, List.set_append_right _ _ (by rw [List.length_map, List.length_take]; omega), List.length_map, List.length_take, Nat.min_eq_left (by omega), Nat.sub_self, List.set_cons_zero, List.take_add_one, hx, List.map_append]
  simp
theorem tkl_same {h now : Int} {xs : List Ca} {k : Nat} {x : Ca} (hx : xs[k]? = some x) (he : tk h now x = x) : tkl h now xs (k + 1) = tkl h now xs k := by
  rw [← tkl_set hx, he]
  refine List.ext_getElem? fun j => ?_
  rw [List.getElem?_set]
  split
  · rename_i e
    subst e
    rw [if_pos (by rw [tkl_len]; exact (List.getElem?_eq_some_iff.1 hx).1), tkl_at hx]
  · rfl

set_option maxRecDepth 100000 in
set_option maxHeartbeats 8000000 in
theorem tick_any (c : Cf) (now : Int) (A : Option Addr) (xs : List Ca) (cap : Nat) (w : World) (h : Rw eA w A xs) (hc : xs.length ≤ cap) (hx9 : xs.length ≤ 900) :
    Calls Try.prog 12 #[cfv c, .slice A xs.length cap, .int .i64 now] w (OwnPost eA 37 w (tkO c.h now xs)) := by
  have hln := h.1
  have HB0 := Lib.hid (show Below w.heap.size w (w.alloc (Cfx c)) from (Below.refl _ w).alloc (Nat.le_refl _) _)
  have C0 := Lib.hid (cm_box w c)
  have hs0 : w.heap.size < (w.alloc (Cfx c)).heap.size := by simp
  have HCL := Lib.hid (clone_any A xs cap (w.alloc (Cfx c)) (h.below HB0.out) (by omega) hc)
  have HSI := Lib.hid fun t W => since_any now t W
  have HMV := Lib.hid fun x W => moved_any x 3 now W
  have HK1 := Lib.hid fun k x => @tkl_at c.h now xs k x
  have HK2 := Lib.hid fun k x => @tkl_set c.h now xs k x
  have HK3 := Lib.hid fun k x => @tkl_same c.h now xs k x
  have HK4 := Lib.hid (tkl_len c.h now xs)
  have HKE := Lib.hid (tkl_end c.h now xs)
  have HK0 := Lib.hid (tkl_zero c.h now xs)
  have HTK := Lib.hid (show ∀ x, tk c.h now x = if x.g = 0 ∧ c.h ≤ si now x.r then mv 3 now x else x from fun x => rfl)
  have HOL := Lib.hid (show (tkO c.h now xs).length = xs.length by simp [tkO])
  have HAT := Lib.hid fun k (hk : k < xs.length) => at_of_lt hk
  clear h
  obtain ⟨L, hL⟩ : ∃ L, xs.length = L := ⟨_, rfl⟩
  have HL := Lib.hid hL
  rw [hL] at hln hc hx9 HCL HK4 HKE HOL HAT ⊢
  clear hL
  unfold cfv Cfx at *
  unfold cav at HMV
  go_enter Try.func12, Try.ntmps12
  go_upto_region 1 with fail
  generalize w.alloc (.cells #[.int .i64 c.a, .int .i64 c.b, .int .i64 c.c, .int .i64 c.d, .int .i64 c.e, .int .i64 c.f, .int .i64 c.g, .int .i64 c.h, .int .i64 c.i] 27) = W0 at *
  go_wp2_with fail
  refine HCL.out.mono ?_
  rintro e w1 ⟨v1, rfl, ho, hb⟩
  rw [HL.out] at ho
  obtain ⟨A1, c1, rfl, hc1, -, -, -, -⟩ := own_rw (E := eA) (n := L) ho (by rw [HL.out]; exact hln)
  rw [HL.out] at hc1 ho ⊢
  have O1 := Lib.hid ho
  have B1 := Lib.hid hb
  clear hb ho HCL
  go_wp2_with fail
  go_loopw [13] (fun i wr => ∃ k : Nat, i = .int .i64 k ∧ k ≤ L ∧ Hid (wr.ownsRow W0.heap.size 37 4 (.slice A1 L c1) L (eA.cs (tkl c.h now xs k)) ∧ Below W0.heap.size W0 wr)) (fun i _ => L - (intOf i).toNat)
  case atStart => exact ⟨0, rfl, by omega, Lib.hid ⟨by rw [HK0.out]; exact O1.out, B1.out⟩⟩
  case round =>
    obtain ⟨k, rfl, hk, HR⟩ := hrel
    by_cases hkL : k < L
    · obtain ⟨x, hx⟩ := HAT.out k hkL
      obtain ⟨g, c', e, hLc⟩ := own_g HR.out.1 (by omega)
      injection e with e1 e2 e3
      subst e1 e3
      have HSET := Lib.hid (HK2.out k x hx)
      have HSAM := Lib.hid (HK3.out k x hx)
      have HTX := Lib.hid (HTK.out x)
      have hat := own_at HR.out.1 (by rw [HK4.out]; exact hln) (HK1.out k x hx)
      have hgB := HR.out.1.lt g rfl
      have B2 := Lib.hid (show Below W0.heap.size W0 (wr.alloc (Cax x)) from HR.out.2.alloc HR.out.2.size _)
      have O2 := Lib.hid (own_keep HR.out.1 ((Below.refl _ wr).alloc (Nat.le_refl _) (Cax x)))
      have Q2 := Lib.hid (qb_box wr x)
      have C2 := Lib.hid (C0.out.keep B2.out hs0 B2.out.size)
      have hsz : wr.heap.size < (wr.alloc (Cax x)).heap.size := by simp
      have HMX := Lib.hid (HMV.out x)
      obtain ⟨m, hm⟩ : ∃ m, mv 3 now x = m := ⟨_, rfl⟩
      rw [hm] at HTX HMX
      clear hx hm
      unfold Cax at *
      go_upto_region 5 with (refine at_load37 (.tmp 16) rfl rfl ⟨g, k * 4, none⟩ x rfl hat ?_)
      clear hat
      generalize wr.alloc (.cells #[.int .u32 x.a, .int .i64 x.r, .int .i64 x.d, .int .i64 x.g] 37) = W at *
      obtain ⟨q0, q1, q2, q3⟩ := Q2.out.c
      have c7 := C2.out.c7
      cases hg : (x.g == 0)
      · have HV := Lib.hid (show tk c.h now x = x by rw [HTX.out, if_neg (fun h => by rw [h.1] at hg; simp at hg)])
        have HN := Lib.hid (HSAM.out HV.out)
        refine wp_region_quiet_lit (by kernel_rfl) (by kernel_rfl) ?_
        repeat (go_big_quiet_step (fail))
        refine wpQuiet_nil ?_
        intro _ hw'
        obtain ⟨nq, hw''⟩ := hw'
        subst hw''
        have B4 := Lib.hid (bdrewN B2.out nq)
        have O4 := Lib.hid (own_keep O2.out (bdrewN (Below.refl _ W) nq))
        go_wp2_with fail
        go_roundw
        case rel => exact ⟨k + 1, by go_num, by omega, Lib.hid ⟨by rw [HN.out]; exact O4.out, B4.out⟩⟩
        case measure => simp [intOf]; omega
      · have hg0 : x.g = 0 := by simpa using hg
        have HG0 := Lib.hid hg0
        clear hg0
        have r1 := cell_regrown q1
        have r3 := cell_regrown q3
        have r7 := cell_regrown c7
        have HSR := Lib.hid fun d' os => Calls.regrown_of (d := d') (os := os) ((HSI.out x.r (Sort.grow (redrawn W d') os)).mono fun _ _ ⟨he, hw⟩ => ⟨he, by rw [hw]; exact Below.refl _ _⟩)
        obtain ⟨Z, hZ⟩ : ∃ Z, si now x.r = Z := ⟨_, rfl⟩
        rw [hZ] at HSR HTX
        clear hZ
        by_cases hl : c.h ≤ Z
        · have HV := Lib.hid (show tk c.h now x = m by rw [HTX.out, if_pos ⟨HG0.out, hl⟩])
          rw [HV.out] at HSET
          refine wp_region_quiet_below (by kernel_rfl) (by kernel_rfl) ?_
          repeat (go_big_quiet_step ((go_at_call 29; exact HSR.out _ _)))
          refine wpQuiet_nil ?_
          intro _ hw'
          obtain ⟨⟨dq, osq⟩, hw''⟩ := hw'
          subst hw''
          have BQ := below_regrown W dq osq
          have B3 := Lib.hid (B2.out.trans (BQ.mono B2.out.size))
          have O3 := Lib.hid (own_keep O2.out BQ)
          have Q3 := Lib.hid (Q2.out.below BQ)
          clear q0 q1 q2 q3 c7 r1 r3 r7 HSR BQ B2 O2 Q2 C2
          generalize Sort.grow (redrawn W dq) osq = W3 at *
          go_wp2_with (refine at_load37 (.tmp 8) rfl rfl _ x rfl Q3.out.at ?_)
          refine (HMX.out _).mono ?_
          rintro e w4 ⟨rfl, hb⟩
          have B4 := Lib.hid (B3.out.trans (hb.mono B3.out.size))
          have O4 := Lib.hid (own_keep O3.out hb)
          clear hb
          have HLK := Lib.hid (HK4.out k)
          go_wp2_with (refine at_storeRow _ _ W0.heap.size g L c1 k (tkl c.h now xs k) m O4.out HLK.out hkL rfl rfl rfl rfl ?_; intro w5 O5 G5)
          have B5 := Lib.hid (B4.out.grown G5.out B4.out.size (fun k' e => by injection e with e; omega))
          go_roundw
          case rel => exact ⟨k + 1, by go_num, by omega, Lib.hid ⟨by rw [← HSET.out]; exact O5.out, B5.out⟩⟩
          case measure => simp [intOf]; omega
        · have hl' : decide (c.h ≤ Z) = false := decide_eq_false hl
          have HV := Lib.hid (show tk c.h now x = x by rw [HTX.out, if_neg (fun h => hl h.2)])
          have HN := Lib.hid (HSAM.out HV.out)
          refine wp_region_quiet_below (by kernel_rfl) (by kernel_rfl) ?_
          repeat (go_big_quiet_step ((go_at_call 29; exact HSR.out _ _)))
          refine wpQuiet_nil ?_
          intro _ hw'
          obtain ⟨⟨dq, osq⟩, hw''⟩ := hw'
          subst hw''
          have BQ := below_regrown W dq osq
          have B3 := Lib.hid (B2.out.trans (BQ.mono B2.out.size))
          have O3 := Lib.hid (own_keep O2.out BQ)
          have Q3 := Lib.hid (Q2.out.below BQ)
          clear q0 q1 q2 q3 c7 r1 r3 r7 HSR BQ B2 O2 Q2 C2
          generalize Sort.grow (redrawn W dq) osq = W3 at *
          go_wp2_with fail
          go_roundw
          case rel => exact ⟨k + 1, by go_num, by omega, Lib.hid ⟨by rw [HN.out]; exact O3.out, B3.out⟩⟩
          case measure => simp [intOf]; omega
    · obtain rfl : k = L := by omega
      have HF := Lib.hid HR.out.1
      have HFB := Lib.hid (HB0.out.trans (HR.out.2.mono HB0.out.size))
      go_wp2_with fail
      go_ret
      exact ⟨_, rfl, by rw [HOL.out, ← HKE.out]; exact own_base HF.out HB0.out.size, HFB.out⟩
end Go.Proofs.Ytmaaniokfpkbjaa
