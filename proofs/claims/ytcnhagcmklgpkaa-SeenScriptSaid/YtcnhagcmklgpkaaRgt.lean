/-
  The contracts of seen.Right and of the statements' own right. Conditions: the row lies in memory.
-/
import Derived.Test.YtcnhagcmklgpkaaSame
import Derived.Lib.QuietBelow
set_option linter.unusedSimpArgs false
set_option linter.unusedVariables false
namespace Go.Proofs.Ytcnhagcmklgpkaa
open Go.RowKit

/-- Whether an address stands right in its row. -/
def kOk (ps : List Kp) (i : Nat) : Bool := match ps[i]? with
  | some x => (i == 0 || (match ps[i - 1]? with
    | some y => decide (y.a < x.a)
    | none => false)) && rsB x.ss
  | none => true
def kPre (ps : List Kp) (k : Nat) : Bool := (List.range k).all (kOk ps)
def rightB (ps : List Kp) : Bool := decide (ps.length ≤ 96) && kPre ps ps.length
theorem kPre_zero (ps : List Kp) : kPre ps 0 = true := rfl
theorem kPre_succ (ps : List Kp) (k : Nat) : kPre ps (k + 1) = (kPre ps k && kOk ps k) := by
  unfold kPre
  rw [List.range_succ, List.all_append]
  simp
theorem kPre_false (ps : List Kp) (k n : Nat) (h : kPre ps k = false) (hk : k ≤ n) : kPre ps n = false := by
  induction hk with
  | refl => exact h
  | step h1 ih => rw [kPre_succ, ih]; rfl
theorem bthen {B : Nat} {a b c : World} (h : Below B a b) (k : Below b.heap.size b c) (hB : B ≤ b.heap.size) : Below B a c := h.trans (k.mono hB)

set_option maxRecDepth 100000 in
set_option maxHeartbeats 4000000 in
theorem right_any (A : Option Addr) (ps : List Kp) (cap : Nat) (w : World) (h : Ks w A ps) (hc : ps.length ≤ cap) :
    Calls Try.prog 15 #[.slice A ps.length cap] w fun e w' => e = .returned (.bool (rightB ps)) ∧ Below w.heap.size w w' := by
  have hln := h.len
  have R := Lib.hid h
  by_cases h96 : 96 < ps.length
  · have HF := Lib.hid (show rightB ps = false by simp [rightB]; omega)
    have h96' : (96 : Int) < ps.length := by omega
    clear h
    generalize ps.length = L at *
    go_enter Try.func15, Try.ntmps15
    go_wp2_with fail
    go_ret
    exact ⟨by rw [HF.out]; rfl, Below.refl _ _⟩
  · have HF := Lib.hid (show rightB ps = kPre ps ps.length by simp [rightB]; omega)
    have h96' : ¬ (96 : Int) < ps.length := by omega
    clear h
    obtain ⟨L, hL⟩ : ∃ L, ps.length = L := ⟨_, rfl⟩
    have HL := Lib.hid hL
    rw [hL] at hc hln h96 h96' HF ⊢
    clear hL
    go_enter Try.func15, Try.ntmps15
    go_wp2_with fail
    go_loopw [10] (fun i wr => ∃ k : Nat, i = .int .i64 k ∧ k ≤ L ∧ Hid (kPre ps k = true ∧ Below w.heap.size w wr)) (fun i _ => L - (intOf i).toNat)
    case atStart => exact ⟨0, rfl, by omega, Lib.hid ⟨kPre_zero _, Below.refl _ _⟩⟩
    case round =>
      obtain ⟨k, rfl, hk, HH⟩ := hrel
      by_cases hlt : k < L
      · obtain ⟨x, hx⟩ : ∃ x, ps[k]? = some x := ⟨_, List.getElem?_eq_getElem (by rw [HL.out]; exact hlt)⟩
        obtain ⟨y, P, c, rfl, hin, hat⟩ := (R.out.below HH.out.2).kn hx
        have HS := Lib.hid (kPre_succ ps k)
        have HN := Lib.hid (kPre_false ps (k + 1) L)
        have HA1 : Below wr.heap.size wr (wr.alloc (.cells #[.int .u32 x.a, .slice P x.ss.length c] 53)) := (Below.refl _ wr).alloc (Nat.le_refl _) _
        have HM := Lib.hid fun W (hW : Below (wr.alloc (.cells #[.int .u32 x.a, .slice P x.ss.length c] 53)).heap.size (wr.alloc (.cells #[.int .u32 x.a, .slice P x.ss.length c] 53)) W) => rights_any P x.ss c W ((hin.lies.below HA1).below hW) hin.le
        have HB1 := Lib.hid (bthen HH.out.2 HA1 HH.out.2.size)
        have X0 : 0 ≤ x.a := hin.a0
        have X1 : x.a < 4294967296 := hin.a1
        have b0 : (wr.alloc (.cells #[.int .u32 x.a, .slice P x.ss.length c] 53)).cell? ⟨wr.heap.size, 0, none⟩ = some (.int .u32 x.a) := by simp
        have b1 : (wr.alloc (.cells #[.int .u32 x.a, .slice P x.ss.length c] 53)).cell? ⟨wr.heap.size, 1, none⟩ = some (.slice P x.ss.length c) := by simp
        rcases k with _ | j
        · have HO := Lib.hid (show kOk ps 0 = rsB x.ss by simp [kOk, hx])
          obtain ⟨xa, xs⟩ := x
          clear hx hin
          go_wp2_with (refine at_load53 _ rfl rfl _ _ rfl hat ?_)
          go_upto_region 6 with fail
          clear hat
          generalize wr.alloc (.cells #[.int .u32 xa, .slice P xs.length c] 53) = W1 at *
          generalize wr.heap.size = N1 at *
          replace b0 := cell_regrown b0
          replace b1 := cell_regrown b1
          skip
          cases hY : rsB xs
          · have HY := Lib.hid hY
            rw [hY] at HM
            clear hY
            have CM := Lib.hid fun (d : Nat) (os : Array Obj) => Calls.regrown_of (HM.out (Sort.grow (redrawn W1 d) os) (below_regrown W1 d os))
            refine wp_region_quiet_below (by kernel_rfl) (by kernel_rfl) ?_
            repeat (go_big_quiet_step ((go_at_call 28; (with_reducible exact CM.out _ _))))
            refine wpQuiet_nil ?_
            rintro w7 ⟨⟨dq, osq⟩, rfl⟩
            have HB7 := Lib.hid (bthen HB1.out (below_regrown W1 dq osq) HB1.out.size)
            clear b0 b1 CM HM HB1
            generalize Sort.grow (redrawn W1 dq) osq = W7 at *
            go_wp2_with fail
            go_ret
            exact ⟨ret_bool (by rw [HF.out, HN.out (by rw [HS.out, HO.out, HY.out]; simp) (by omega)]), HB7.out⟩
          · have HY := Lib.hid hY
            rw [hY] at HM
            clear hY
            have CM := Lib.hid fun (d : Nat) (os : Array Obj) => Calls.regrown_of (HM.out (Sort.grow (redrawn W1 d) os) (below_regrown W1 d os))
            refine wp_region_quiet_below (by kernel_rfl) (by kernel_rfl) ?_
            repeat (go_big_quiet_step ((go_at_call 28; (with_reducible exact CM.out _ _))))
            refine wpQuiet_nil ?_
            rintro w7 ⟨⟨dq, osq⟩, rfl⟩
            have HB7 := Lib.hid (bthen HB1.out (below_regrown W1 dq osq) HB1.out.size)
            clear b0 b1 CM HM HB1
            generalize Sort.grow (redrawn W1 dq) osq = W7 at *
            go_wp2_with fail
            go_roundw
            case rel => exact ⟨1, by go_num, by omega, Lib.hid ⟨by rw [HS.out, HH.out.1, HO.out, HY.out]; rfl, HB7.out⟩⟩
            case measure => simp [intOf]; omega
        · obtain ⟨z, hz⟩ : ∃ z, ps[j]? = some z := ⟨_, List.getElem?_eq_getElem (by rw [HL.out]; omega)⟩
          obtain ⟨y', P', c', hy', hin', hat'⟩ := (R.out.below HH.out.2).kn hz
          obtain rfl : y = y' := by injection hy'
          have c0 : (wr.alloc (.cells #[.int .u32 x.a, .slice P x.ss.length c] 53)).cell? (y.add (j * 2)) = some (.int .u32 z.a) := by
            have h0 := hat' 0 _ rfl
            rw [Addr.add_add, Nat.add_zero] at h0
            rw [HA1.cell (World.block_lt_of_cell? _ _ h0)]
            exact h0
          have hO : kOk ps (j + 1) = (decide (z.a < x.a) && rsB x.ss) := by simp [kOk, hx, hz]
          have hj : IntKind.i64.wrap (j : Int) = (j : Int) := i64_nat (by omega)
          have hjL : (j : Int) < L := by omega
          clear hat' hy' hin'
          by_cases hlt2 : z.a < x.a
          · have HO := Lib.hid (show kOk ps (j + 1) = rsB x.ss by rw [hO, decide_eq_true hlt2]; rfl)
            have hle2 : ¬ x.a ≤ z.a := by omega
            obtain ⟨xa, xs⟩ := x
            dsimp only at hle2
            have hle3 : decide (xa ≤ z.a) = false := decide_eq_false hle2
            clear hx hz hO hin
            go_wp2_with (refine at_load53 _ rfl rfl _ _ rfl hat ?_)
            go_upto_region 6 with fail
            clear hat
            generalize wr.alloc (.cells #[.int .u32 xa, .slice P xs.length c] 53) = W1 at *
            generalize wr.heap.size = N1 at *
            replace b0 := cell_regrown b0
            replace b1 := cell_regrown b1
            replace c0 := cell_regrown c0
            cases hY : rsB xs
            · have HY := Lib.hid hY
              rw [hY] at HM
              clear hY
              have CM := Lib.hid fun (d : Nat) (os : Array Obj) => Calls.regrown_of (HM.out (Sort.grow (redrawn W1 d) os) (below_regrown W1 d os))
              refine wp_region_quiet_below (by kernel_rfl) (by kernel_rfl) ?_
              repeat (go_big_quiet_step ((go_at_call 28; (with_reducible exact CM.out _ _))))
              refine wpQuiet_nil ?_
              rintro w7 ⟨⟨dq, osq⟩, rfl⟩
              have HB7 := Lib.hid (bthen HB1.out (below_regrown W1 dq osq) HB1.out.size)
              clear b0 b1 c0 CM HM HB1
              generalize Sort.grow (redrawn W1 dq) osq = W7 at *
              go_wp2_with fail
              go_ret
              exact ⟨ret_bool (by rw [HF.out, HN.out (by rw [HS.out, HO.out, HY.out]; simp) (by omega)]), HB7.out⟩
            · have HY := Lib.hid hY
              rw [hY] at HM
              clear hY
              have CM := Lib.hid fun (d : Nat) (os : Array Obj) => Calls.regrown_of (HM.out (Sort.grow (redrawn W1 d) os) (below_regrown W1 d os))
              refine wp_region_quiet_below (by kernel_rfl) (by kernel_rfl) ?_
              repeat (go_big_quiet_step ((go_at_call 28; (with_reducible exact CM.out _ _))))
              refine wpQuiet_nil ?_
              rintro w7 ⟨⟨dq, osq⟩, rfl⟩
              have HB7 := Lib.hid (bthen HB1.out (below_regrown W1 dq osq) HB1.out.size)
              clear b0 b1 c0 CM HM HB1
              generalize Sort.grow (redrawn W1 dq) osq = W7 at *
              go_wp2_with fail
              go_roundw
              case rel => exact ⟨j + 2, by go_num, by omega, Lib.hid ⟨by rw [HS.out, HH.out.1, HO.out, HY.out]; rfl, HB7.out⟩⟩
              case measure => simp [intOf]; omega
          · have HO := Lib.hid (show kOk ps (j + 1) = false by rw [hO, decide_eq_false hlt2]; rfl)
            have hle2 : x.a ≤ z.a := by omega
            obtain ⟨xa, xs⟩ := x
            clear hx hz hO hin
            go_wp2_with (refine at_load53 _ rfl rfl _ _ rfl hat ?_)
            go_upto_region 6 with fail
            clear hat
            generalize wr.alloc (.cells #[.int .u32 xa, .slice P xs.length c] 53) = W1 at *
            generalize wr.heap.size = N1 at *
            replace b0 := cell_regrown b0
            replace b1 := cell_regrown b1
            replace c0 := cell_regrown c0
            refine wp_region_quiet_below (by kernel_rfl) (by kernel_rfl) ?_
            repeat (go_big_quiet_step (fail))
            refine wpQuiet_nil ?_
            rintro w7 ⟨⟨dq, osq⟩, rfl⟩
            have HB7 := Lib.hid (bthen HB1.out (below_regrown W1 dq osq) HB1.out.size)
            clear b0 b1 c0 HM HB1
            generalize Sort.grow (redrawn W1 dq) osq = W7 at *
            go_wp2_with fail
            go_ret
            exact ⟨ret_bool (by rw [HF.out, HN.out (by rw [HS.out, HO.out]; simp) (by omega)]), HB7.out⟩
      · obtain rfl : k = L := by omega
        go_wp2_with fail
        go_ret
        exact ⟨ret_bool (by rw [HF.out, HH.out.1]), HH.out.2⟩
end Go.Proofs.Ytcnhagcmklgpkaa
