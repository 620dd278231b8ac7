/-
  Part of the proof: several texts in one file. No condition of its own.
-/
import Derived.Lib.QuietBelow
import Derived.Test.YtilneflfeegnfaaGreatPLa
import Derived.Test.YtilneflfeegnfaaGreatPLc
import Derived.Test.YtilneflfeegnfaaGreatProg
import Derived.WalkKit
import Derived.Lib.Strings
import Derived.WalkLawsBesides
import Derived.BigQuiet
import Derived.Deep.QuietTactic
import Derived.Deep.MidRow
import Derived.Deep.CutRange
import Derived.Deep.LoopGhost
import Derived.Deep.Slices
import Derived.Deep.OwnRows
import Derived.Deep.AppendLies
import Derived.Laws.OwnMore
import Derived.Laws.AppendOwn
import Derived.Laws.ResultCell
import Derived.Maps.AppendAt
import Derived.RegionTactic
import Derived.OwnWalk
import Derived.Lib.Hide
import Derived.Lib.MinMax
import Derived.StillTailTactics
import Derived.Test.YtilneflfeegnfaaGreatPLb
import Derived.BigGuard
import Derived.Laws.IdiomCopy
import Derived.Lib.SliceRun
set_option linter.unusedSimpArgs false
set_option linter.unusedVariables false
namespace Go.Proofs.YtilneflfeegnfaaGreat.Sn
open Go.RowKit
def kOk (ps : List Kp) (i : Nat) : Bool := match ps[i]? with
  | some x => (i == 0 || (match ps[i - 1]? with
    | some y => decide (y.a < x.a)
    | none => false)) && rsB x.ss
  | none => true
def kPre (ps : List Kp) (k : Nat) : Bool := (List.range k).all (kOk ps)
def rightB (ps : List Kp) : Bool := decide (ps.length ≤ 96) && kPre ps ps.length
theorem kPre_zero (ps : List Kp) : kPre ps 0 = true := rfl
theorem kPre_succ (ps : List Kp) (k : Nat) : kPre ps (k + 1) = (kPre ps k && kOk ps k) := by
  unfold kPre
  rw [List.range_succ, List.all_append]
  simp
theorem kPre_false (ps : List Kp) (k n : Nat) (h : kPre ps k = false) (hk : k ≤ n) : kPre ps n = false := by
  induction hk with
  | refl => exact h
  | step h1 ih => rw [kPre_succ, ih]; rfl
set_option maxRecDepth 100000 in
set_option maxHeartbeats 4000000 in
theorem right_any (A : Option Addr) (ps : List Kp) (cap : Nat) (w : World) (h : Ks w A ps) (hc : ps.length ≤ cap) :
    Calls Tryz.prog 39 #[.slice A ps.length cap] w fun e w' => e = .returned (.bool (rightB ps)) ∧ Below w.heap.size w w' := by
  have hln := h.len
  have R := Lib.hid h
  by_cases h96 : 96 < ps.length
  · have HF := Lib.hid (show rightB ps = false by simp [rightB]; omega)
    have h96' : (96 : Int) < ps.length := by omega
    clear h
    generalize ps.length = L at *
    go_enter Tryz.func39, Tryz.ntmps39
    go_wp2_with fail
    go_ret
    exact ⟨by rw [HF.out]; rfl, Below.refl _ _⟩
  · have HF := Lib.hid (show rightB ps = kPre ps ps.length by simp [rightB]; omega)
    have h96' : ¬ (96 : Int) < ps.length := by omega
    clear h
    obtain ⟨L, hL⟩ : ∃ L, ps.length = L := ⟨_, rfl⟩
    have HL := Lib.hid hL
    rw [hL] at hc hln h96 h96' HF ⊢
    clear hL
    go_enter Tryz.func39, Tryz.ntmps39
    go_wp2_with fail
    go_loopw [10] (fun i wr => ∃ k : Nat, i = .int .i64 k ∧ k ≤ L ∧ Hid (kPre ps k = true ∧ Below w.heap.size w wr)) (fun i _ => L - (intOf i).toNat)
    case atStart => exact ⟨0, rfl, by omega, Lib.hid ⟨kPre_zero _, Below.refl _ _⟩⟩
    case round =>
      obtain ⟨k, rfl, hk, HH⟩ := hrel
      by_cases hlt : k < L
      · obtain ⟨x, hx⟩ : ∃ x, ps[k]? = some x := ⟨_, List.getElem?_eq_getElem (by rw [HL.out]; exact hlt)⟩
        obtain ⟨y, P, c, rfl, hin, hat⟩ := (R.out.below HH.out.2).kn hx
        have HS := Lib.hid (kPre_succ ps k)
        have HN := Lib.hid (kPre_false ps (k + 1) L)
        have HA1 : Below wr.heap.size wr (wr.alloc (.cells #[.int .u32 x.a, .slice P x.ss.length c] 66)) := (Below.refl _ wr).alloc (Nat.le_refl _) _
        have HM := Lib.hid fun W (hW : Below (wr.alloc (.cells #[.int .u32 x.a, .slice P x.ss.length c] 66)).heap.size (wr.alloc (.cells #[.int .u32 x.a, .slice P x.ss.length c] 66)) W) => rights_any P x.ss c W ((hin.lies.below HA1).below hW) hin.le
        have HB1 := Lib.hid (bthen HH.out.2 HA1 HH.out.2.size)
        have X0 : 0 ≤ x.a := hin.a0
        have X1 : x.a < 4294967296 := hin.a1
        have b0 : (wr.alloc (.cells #[.int .u32 x.a, .slice P x.ss.length c] 66)).cell? ⟨wr.heap.size, 0, none⟩ = some (.int .u32 x.a) := by simp
        have b1 : (wr.alloc (.cells #[.int .u32 x.a, .slice P x.ss.length c] 66)).cell? ⟨wr.heap.size, 1, none⟩ = some (.slice P x.ss.length c) := by simp
        rcases k with _ | j
        · have HO := Lib.hid (show kOk ps 0 = rsB x.ss by simp [kOk, hx])
          obtain ⟨xa, xs⟩ := x
          clear hx hin
          go_wp2_with (refine at_load53 _ rfl rfl _ _ rfl hat ?_)
          go_upto_region 6 with fail
          clear hat
          generalize wr.alloc (.cells #[.int .u32 xa, .slice P xs.length c] 66) = W1 at *
          generalize wr.heap.size = N1 at *
          replace b0 := cell_regrown b0
          replace b1 := cell_regrown b1
          skip
          cases hY : rsB xs
          · have HY := Lib.hid hY
            rw [hY] at HM
            clear hY
            have CM := Lib.hid fun (d : Nat) (os : Array Obj) => Calls.regrown_of (HM.out (Sort.grow (redrawn W1 d) os) (below_regrown W1 d os))
            refine wp_region_quiet_below (by kernel_rfl) (by kernel_rfl) ?_
            repeat (go_big_quiet_step ((go_at_call 86; (with_reducible exact CM.out _ _))))
            refine wpQuiet_nil ?_
            rintro w7 ⟨⟨dq, osq⟩, rfl⟩
            have HB7 := Lib.hid (bthen HB1.out (below_regrown W1 dq osq) HB1.out.size)
            clear b0 b1 CM HM HB1
            generalize Sort.grow (redrawn W1 dq) osq = W7 at *
            go_wp2_with fail
            go_ret
            exact ⟨ret_bool (by rw [HF.out, HN.out (by rw [HS.out, HO.out, HY.out]; simp) (by omega)]), HB7.out⟩
          · have HY := Lib.hid hY
            rw [hY] at HM
            clear hY
            have CM := Lib.hid fun (d : Nat) (os : Array Obj) => Calls.regrown_of (HM.out (Sort.grow (redrawn W1 d) os) (below_regrown W1 d os))
            refine wp_region_quiet_below (by kernel_rfl) (by kernel_rfl) ?_
            repeat (go_big_quiet_step ((go_at_call 86; (with_reducible exact CM.out _ _))))
            refine wpQuiet_nil ?_
            rintro w7 ⟨⟨dq, osq⟩, rfl⟩
            have HB7 := Lib.hid (bthen HB1.out (below_regrown W1 dq osq) HB1.out.size)
            clear b0 b1 CM HM HB1
            generalize Sort.grow (redrawn W1 dq) osq = W7 at *
            go_wp2_with fail
            go_roundw
            case rel => exact ⟨1, by go_num, by omega, Lib.hid ⟨by rw [HS.out, HH.out.1, HO.out, HY.out]; rfl, HB7.out⟩⟩
            case measure => simp [intOf]; omega
        · obtain ⟨z, hz⟩ : ∃ z, ps[j]? = some z := ⟨_, List.getElem?_eq_getElem (by rw [HL.out]; omega)⟩
          obtain ⟨y', P', c', hy', hin', hat'⟩ := (R.out.below HH.out.2).kn hz
          obtain rfl : y = y' := by injection hy'
          have c0 : (wr.alloc (.cells #[.int .u32 x.a, .slice P x.ss.length c] 66)).cell? (y.add (j * 2)) = some (.int .u32 z.a) := by
            have h0 := hat' 0 _ rfl
            rw [Addr.add_add, Nat.add_zero] at h0
            rw [HA1.cell (World.block_lt_of_cell? _ _ h0)]
            exact h0
          have hO : kOk ps (j + 1) = (decide (z.a < x.a) && rsB x.ss) := by simp [kOk, hx, hz]
          have hj : IntKind.i64.wrap (j : Int) = (j : Int) := i64_nat (by omega)
          have hjL : (j : Int) < L := by omega
          clear hat' hy' hin'
          by_cases hlt2 : z.a < x.a
          · have HO := Lib.hid (show kOk ps (j + 1) = rsB x.ss by rw [hO, decide_eq_true hlt2]; rfl)
            have hle2 : ¬ x.a ≤ z.a := by omega
            obtain ⟨xa, xs⟩ := x
            dsimp only at hle2
            have hle3 : decide (xa ≤ z.a) = false := decide_eq_false hle2
            clear hx hz hO hin
            go_wp2_with (refine at_load53 _ rfl rfl _ _ rfl hat ?_)
            go_upto_region 6 with fail
            clear hat
            generalize wr.alloc (.cells #[.int .u32 xa, .slice P xs.length c] 66) = W1 at *
            generalize wr.heap.size = N1 at *
            replace b0 := cell_regrown b0
            replace b1 := cell_regrown b1
            replace c0 := cell_regrown c0
            cases hY : rsB xs
            · have HY := Lib.hid hY
              rw [hY] at HM
              clear hY
              have CM := Lib.hid fun (d : Nat) (os : Array Obj) => Calls.regrown_of (HM.out (Sort.grow (redrawn W1 d) os) (below_regrown W1 d os))
              refine wp_region_quiet_below (by kernel_rfl) (by kernel_rfl) ?_
              repeat (go_big_quiet_step ((go_at_call 86; (with_reducible exact CM.out _ _))))
              refine wpQuiet_nil ?_
              rintro w7 ⟨⟨dq, osq⟩, rfl⟩
              have HB7 := Lib.hid (bthen HB1.out (below_regrown W1 dq osq) HB1.out.size)
              clear b0 b1 c0 CM HM HB1
              generalize Sort.grow (redrawn W1 dq) osq = W7 at *
              go_wp2_with fail
              go_ret
              exact ⟨ret_bool (by rw [HF.out, HN.out (by rw [HS.out, HO.out, HY.out]; simp) (by omega)]), HB7.out⟩
            · have HY := Lib.hid hY
              rw [hY] at HM
              clear hY
              have CM := Lib.hid fun (d : Nat) (os : Array Obj) => Calls.regrown_of (HM.out (Sort.grow (redrawn W1 d) os) (below_regrown W1 d os))
              refine wp_region_quiet_below (by kernel_rfl) (by kernel_rfl) ?_
              repeat (go_big_quiet_step ((go_at_call 86; (with_reducible exact CM.out _ _))))
              refine wpQuiet_nil ?_
              rintro w7 ⟨⟨dq, osq⟩, rfl⟩
              have HB7 := Lib.hid (bthen HB1.out (below_regrown W1 dq osq) HB1.out.size)
              clear b0 b1 c0 CM HM HB1
              generalize Sort.grow (redrawn W1 dq) osq = W7 at *
              go_wp2_with fail
              go_roundw
              case rel => exact ⟨j + 2, by go_num, by omega, Lib.hid ⟨by rw [HS.out, HH.out.1, HO.out, HY.out]; rfl, HB7.out⟩⟩
              case measure => simp [intOf]; omega
          · have HO := Lib.hid (show kOk ps (j + 1) = false by rw [hO, decide_eq_false hlt2]; rfl)
            have hle2 : x.a ≤ z.a := by omega
            obtain ⟨xa, xs⟩ := x
            clear hx hz hO hin
            go_wp2_with (refine at_load53 _ rfl rfl _ _ rfl hat ?_)
            go_upto_region 6 with fail
            clear hat
            generalize wr.alloc (.cells #[.int .u32 xa, .slice P xs.length c] 66) = W1 at *
            generalize wr.heap.size = N1 at *
            replace b0 := cell_regrown b0
            replace b1 := cell_regrown b1
            replace c0 := cell_regrown c0
            refine wp_region_quiet_below (by kernel_rfl) (by kernel_rfl) ?_
            repeat (go_big_quiet_step (fail))
            refine wpQuiet_nil ?_
            rintro w7 ⟨⟨dq, osq⟩, rfl⟩
            have HB7 := Lib.hid (bthen HB1.out (below_regrown W1 dq osq) HB1.out.size)
            clear b0 b1 c0 HM HB1
            generalize Sort.grow (redrawn W1 dq) osq = W7 at *
            go_wp2_with fail
            go_ret
            exact ⟨ret_bool (by rw [HF.out, HN.out (by rw [HS.out, HO.out]; simp) (by omega)]), HB7.out⟩
      · obtain rfl : k = L := by omega
        go_wp2_with fail
        go_ret
        exact ⟨ret_bool (by rw [HF.out, HH.out.1]), HH.out.2⟩
end Go.Proofs.YtilneflfeegnfaaGreat.Sn
namespace Go.Proofs.YtilneflfeegnfaaGreat.Sn
open Go.RowKit
def up : Int → List Sg → Prop
  | _, [] => True
  | t, x :: r => isrc x.f = true ∧ t ≤ x.t ∧ up x.t r
def lst : Int → List Sg → Int
  | t, [] => t
  | _, x :: r => lst x.t r
def ptg (t : Int) (ss : List Sg) : Nat → Int
  | 0 => t
  | i + 1 => (ss[i]?.getD zs).t
theorem up_iff : ∀ (ss : List Sg) (t : Int), (∀ (i : Nat) (x : Sg), ss[i]? = some x → isrc x.f = true ∧ ptg t ss i ≤ x.t) ↔ up t ss
  | [], t => by simp [up]
  | y :: r, t => by
    rw [up, ← up_iff r y.t]
    constructor
    · intro h
      have h0 := h 0 y rfl
      refine ⟨h0.1, h0.2, fun i x hx => ?_⟩
      have h1 := h (i + 1) x (by simpa using hx)
      refine ⟨h1.1, ?_⟩
      cases i with
      | zero => simpa [ptg] using h1.2
      | succ i => simpa [ptg] using h1.2
    · rintro ⟨h1, h2, h3⟩ i x hx
      cases i with
      | zero =>
        simp at hx
        subst hx
        exact ⟨h1, h2⟩
      | succ i =>
        have h4 := h3 i x (by simpa using hx)
        refine ⟨h4.1, ?_⟩
        cases i with
        | zero => simpa [ptg] using h4.2
        | succ i => simpa [ptg] using h4.2
theorem pt_ptg (ss : List Sg) (i : Nat) : pt ss i = ptg 0 ss i := by cases i <;> rfl
theorem rsP_up (ss : List Sg) : rsP ss ss.length = true ↔ up 0 ss := by
  rw [← up_iff]
  unfold rsP
  rw [List.all_eq_true]
  constructor
  · intro h i x hx
    have h1 := h i (List.mem_range.2 (List.getElem?_eq_some_iff.1 hx).1)
    simp only [sOk, hx, Bool.and_eq_true, decide_eq_true_eq, pt_ptg] at h1
    exact h1
  · intro h i hi
    obtain ⟨x, hx⟩ : ∃ x, ss[i]? = some x := ⟨_, List.getElem?_eq_getElem (List.mem_range.1 hi)⟩
    simp only [sOk, hx, Bool.and_eq_true, decide_eq_true_eq, pt_ptg]
    exact h i x hx
theorem rsB_iff (ss : List Sg) : rsB ss = true ↔ (1 ≤ ss.length ∧ ss.length ≤ 8) ∧ up 0 ss := by
  unfold rsB
  rw [Bool.and_eq_true, decide_eq_true_eq, rsP_up]
theorem up_mono {t u : Int} (h : u ≤ t) : ∀ {ss : List Sg}, up t ss → up u ss
  | [], _ => trivial
  | x :: r, ⟨h1, h2, h3⟩ => ⟨h1, by omega, h3⟩
theorem up_drop : ∀ (n : Nat) (ss : List Sg) (t : Int), up t ss → up t (ss.drop n)
  | 0, ss, t, h => h
  | n + 1, [], t, h => by simp [up]
  | n + 1, x :: r, t, ⟨_, h2, h3⟩ => by
    rw [List.drop_succ_cons]
    exact up_drop n r t (up_mono h2 h3)
theorem up_snoc : ∀ (ss : List Sg) (t : Int) (s : Sg), up t ss → isrc s.f = true → lst t ss ≤ s.t → up t (ss ++ [s])
  | [], t, s, _, hf, hl => ⟨hf, hl, trivial⟩
  | x :: r, t, s, ⟨h1, h2, h3⟩, hf, hl => ⟨h1, h2, up_snoc r x.t s h3 hf hl⟩
theorem lst_tk : ∀ (ss : List Sg) (t : Int), 0 < ss.length → lst t ss = tk ss
  | [x], t, _ => rfl
  | x :: y :: r, t, _ => by
    rw [lst, lst_tk (y :: r) x.t (by simp)]
    simp [tk]
theorem tk_drop {ss : List Sg} {n : Nat} (h : n < ss.length) : tk (ss.drop n) = tk ss := by
  unfold tk
  rw [List.length_drop, List.getElem?_drop, show n + (ss.length - n - 1) = ss.length - 1 by omega]
theorem kp_length (ss : List Sg) (s : Sg) : (kp ss s).length = min ss.length 7 + 1 := by
  unfold kp
  rw [List.length_append, List.length_drop, List.length_singleton]
  omega
theorem kp_right {ss : List Sg} {s : Sg} (h : ss = [] ∨ rsB ss = true) (hf : isrc s.f = true) (h0 : 0 ≤ s.t) (ht : any ss = true → tk ss ≤ s.t) : rsB (kp ss s) = true := by
  rw [rsB_iff, kp_length]
  refine ⟨by omega, ?_⟩
  unfold kp
  refine up_snoc _ _ _ ?_ hf ?_
  · rcases h with rfl | h
    · simp [up]
    · exact up_drop _ _ _ ((rsB_iff _).1 h).2
  · rcases Nat.eq_zero_or_pos ss.length with e | e
    · rw [List.eq_nil_of_length_eq_zero e]
      exact h0
    · rw [lst_tk _ _ (by rw [List.length_drop]; omega), tk_drop (by omega)]
      exact ht (by simp [any, e])
def Srt (ys : List Kp) : Prop := ys.Pairwise (fun x y => x.a < y.a)
theorem Srt.lt {ys : List Kp} (h : Srt ys) {i j : Nat} {x y : Kp} (hij : i < j) (hx : ys[i]? = some x) (hy : ys[j]? = some y) : x.a < y.a := by
  obtain ⟨h1, rfl⟩ := List.getElem?_eq_some_iff.1 hx
  obtain ⟨h2, rfl⟩ := List.getElem?_eq_some_iff.1 hy
  exact List.pairwise_iff_getElem.1 h i j h1 h2 hij
theorem Srt.at {ys : List Kp} (h : Srt ys) {x : Kp} (hx : x ∈ ys) : ys[lo ys x.a]? = some x := by
  obtain ⟨q, hq, rfl⟩ := List.mem_iff_getElem.1 hx
  have hx' := List.getElem?_eq_getElem hq
  have hge : ¬ q < lo ys ys[q].a := fun hlt => by
    have := lo_lt _ ys q _ hlt hx'
    omega
  have hle := lo_le ys[q].a ys
  rcases Nat.lt_or_ge (lo ys ys[q].a) q with hlt | hge2
  · exfalso
    have hlL : lo ys ys[q].a < ys.length := by omega
    obtain ⟨z, hz⟩ : ∃ z, ys[lo ys ys[q].a]? = some z := ⟨ys[lo ys ys[q].a], List.getElem?_eq_getElem hlL⟩
    have h1 := h.lt hlt hz hx'
    exact lo_ge _ ys z hz h1
  · have : lo ys ys[q].a = q := by omega
    rw [this]
    exact hx'
theorem Srt.mem {ys : List Kp} (h : Srt ys) {x : Kp} (hx : x ∈ ys) : isAt ys x.a = true ∧ sg ys x.a = x.ss := by
  have e := h.at hx
  have hi : isAt ys x.a = true := by unfold isAt; rw [e]; simp
  exact ⟨hi, sg_at hi e⟩
theorem isAt_mem {ys : List Kp} {a : Int} (h : isAt ys a = true) : (⟨a, sg ys a⟩ : Kp) ∈ ys := by
  obtain ⟨x, hx, hxa, _⟩ := isAt_some h
  have : (⟨a, sg ys a⟩ : Kp) = x := by rw [sg_at h hx, ← hxa]
  rw [this]
  exact List.mem_of_getElem? hx
theorem Srt.not {ys : List Kp} (h : Srt ys) {a : Int} (hi : isAt ys a = false) : ∀ x ∈ ys, x.a ≠ a := by
  rintro x hx rfl
  rw [(h.mem hx).1] at hi
  cases hi
theorem take_lo {ys : List Kp} (a : Int) : ∀ x ∈ ys.take (lo ys a), x.a < a := by
  intro x hx
  obtain ⟨q, hq, rfl⟩ := List.mem_iff_getElem.1 hx
  rw [List.length_take] at hq
  rw [List.getElem_take]
  exact lo_lt a ys q _ (by omega) (List.getElem?_eq_getElem (by omega))
theorem Srt.drop_lo {ys : List Kp} (h : Srt ys) (a : Int) : ∀ x ∈ ys.drop (lo ys a), a ≤ x.a := by
  intro x hx
  obtain ⟨q, hq, rfl⟩ := List.mem_iff_getElem.1 hx
  rw [List.length_drop] at hq
  rw [List.getElem_drop]
  obtain ⟨z, hz⟩ : ∃ z, ys[lo ys a]? = some z := ⟨_, List.getElem?_eq_getElem (by omega)⟩
  have hz2 := lo_ge a ys z hz
  rcases Nat.eq_zero_or_pos q with rfl | hp
  · have := (List.getElem?_eq_some_iff.1 hz).2
    simp only [Nat.add_zero]
    rw [this]; omega
  · have := h.lt (show lo ys a < lo ys a + q by omega) hz (List.getElem?_eq_getElem (by omega))
    omega
def dn (ys : List Kp) (a : Int) : Nat := lo ys a + if isAt ys a = true then 1 else 0
theorem Srt.rest {ys : List Kp} (h : Srt ys) (a : Int) : ∀ x ∈ ys.drop (dn ys a), a < x.a := by
  unfold dn
  cases hi : isAt ys a with
  | false =>
    intro x hx
    simp only [Bool.false_eq_true, if_false, Nat.add_zero] at hx
    have h1 := h.drop_lo a x hx
    have h2 := h.not hi x (List.mem_of_mem_drop hx)
    omega
  | true =>
    intro x hx
    simp only [if_true] at hx
    obtain ⟨z, hz, hza, hlt⟩ := isAt_some hi
    obtain ⟨q, hq, rfl⟩ := List.mem_iff_getElem.1 hx
    rw [List.length_drop] at hq
    rw [List.getElem_drop]
    have := h.lt (show lo ys a < lo ys a + 1 + q by omega) hz (List.getElem?_eq_getElem (by omega))
    omega
theorem ins_def (ys : List Kp) (a : Int) (s : Sg) : ins ys a s = ys.take (lo ys a) ++ [⟨a, kp (sg ys a) s⟩] ++ ys.drop (dn ys a) := rfl
theorem Srt.mem_ins {ys : List Kp} (h : Srt ys) {a : Int} {s : Sg} {x : Kp} : x ∈ ins ys a s ↔ x = ⟨a, kp (sg ys a) s⟩ ∨ x ∈ ys ∧ x.a ≠ a := by
  rw [ins_def, List.mem_append, List.mem_append, List.mem_singleton]
  constructor
  · rintro ((h1 | h1) | h1)
    · have := take_lo a x h1
      exact .inr ⟨List.mem_of_mem_take h1, by omega⟩
    · exact .inl h1
    · have := h.rest a x h1
      exact .inr ⟨List.mem_of_mem_drop h1, by omega⟩
  · rintro (h1 | ⟨h1, h2⟩)
    · exact .inl (.inr h1)
    · have hx' : x ∈ ys.take (lo ys a) ++ ys.drop (lo ys a) := by rw [List.take_append_drop]; exact h1
      rcases List.mem_append.1 hx' with h3 | h3
      · exact .inl (.inl h3)
      · right
        unfold dn
        cases hi : isAt ys a with
        | false => simpa using h3
        | true =>
          obtain ⟨z, hz, hza, hlt⟩ := isAt_some hi
          rw [List.drop_eq_getElem_cons hlt] at h3
          rcases List.mem_cons.1 h3 with rfl | h3
          · exfalso
            have := (List.getElem?_eq_some_iff.1 hz).2
            rw [this] at h2
            exact h2 hza
          · simpa using h3
theorem Srt.ins {ys : List Kp} (h : Srt ys) (a : Int) (s : Sg) : Srt (ins ys a s) := by
  rw [ins_def]
  unfold Srt
  rw [List.append_assoc, List.pairwise_append]
  refine ⟨h.sublist (List.take_sublist _ _), ?_, ?_⟩
  · rw [List.singleton_append, List.pairwise_cons]
    exact ⟨fun x hx => h.rest a x hx, h.sublist (List.drop_sublist _ _)⟩
  · intro x hx y hy
    have h1 := take_lo a x hx
    rcases List.mem_append.1 hy with hy | hy
    · have : y = ⟨a, kp (sg ys a) s⟩ := by simpa using hy
      rw [this]; exact h1
    · have := h.rest a y hy
      omega
theorem ins_length (ys : List Kp) (a : Int) (s : Sg) : (ins ys a s).length = ys.length + if isAt ys a = true then 0 else 1 := by
  have := lo_le a ys
  rw [ins_def, List.length_append, List.length_append, List.length_take, List.length_drop, List.length_singleton]
  unfold dn
  cases hi : isAt ys a with
  | false => simp; omega
  | true =>
    obtain ⟨_, _, _, hlt⟩ := isAt_some hi
    simp; omega
structure V (ps : List Kp) : Prop where
  srt : Srt ps
  ok : ∀ x ∈ ps, rsB x.ss = true
  le : ps.length ≤ 96
theorem V.nil : V [] := ⟨List.Pairwise.nil, fun x hx => by simp at hx, by simp⟩
theorem V.bd {ps : List Kp} (h : V ps) : Bd ps := ⟨by have := h.le; omega, fun x hx => by have := ((rsB_iff _).1 (h.ok x hx)).1.2; omega⟩
theorem V.any {ps : List Kp} (h : V ps) (a : Int) : any (sg ps a) = isAt ps a := by
  cases hi : isAt ps a with
  | false => rw [sg_no hi]; rfl
  | true =>
    have := ((rsB_iff _).1 (h.ok _ (isAt_mem hi))).1.1
    dsimp only at this
    unfold YtilneflfeegnfaaGreat.Sn.any
    exact decide_eq_true (by omega)
theorem V.sgs {ps : List Kp} (h : V ps) (a : Int) : sg ps a = [] ∨ rsB (sg ps a) = true := by
  cases hi : isAt ps a with
  | false => exact .inl (sg_no hi)
  | true => exact .inr (h.ok _ (isAt_mem hi))
theorem put_zero {ps : List Kp} {a : Int} {s : Sg} (h : putC ps a s = 0) : putR ps a s = ins ps a s ∧ isrc s.f = true ∧ 0 ≤ s.t ∧ (any (sg ps a) = true → tk (sg ps a) ≤ s.t) ∧ (any (sg ps a) = false → ps.length < 96) := by
  refine ⟨by unfold putR; rw [h]; rfl, ?_⟩
  unfold putC at h
  split at h
  · cases h
  · rename_i h1
    split at h
    · cases h
    · rename_i h2
      split at h
      · cases h
      · rename_i h3
        refine ⟨by simpa using h1, ?_, fun e => ?_, fun e => ?_⟩
        · exact Int.not_lt.1 fun e => h2 (.inl e)
        · exact Int.not_lt.1 fun e' => h2 (.inr ⟨e, e'⟩)
        · exact Nat.not_le.1 fun e' => h3 ⟨e, e'⟩
theorem V.put {ps : List Kp} (h : V ps) {a : Int} {s : Sg} (hp : putC ps a s = 0) : V (ins ps a s) := by
  obtain ⟨_, h1, h2, h3, h4⟩ := put_zero hp
  refine ⟨h.srt.ins a s, fun x hx => ?_, ?_⟩
  · rcases h.srt.mem_ins.1 hx with rfl | ⟨hx, _⟩
    · exact kp_right (h.sgs a) h1 h2 h3
    · exact h.ok x hx
  · rw [ins_length]
    rw [h.any] at h4
    cases hi : isAt ps a with
    | false => have := h4 hi; simp; omega
    | true => have := h.le; simp; omega
theorem V.right {ps : List Kp} (h : V ps) : rightB ps = true := by
  unfold rightB
  rw [decide_eq_true h.le, Bool.true_and]
  unfold kPre
  rw [List.all_eq_true]
  intro i hi
  obtain ⟨x, hx⟩ : ∃ x, ps[i]? = some x := ⟨_, List.getElem?_eq_getElem (List.mem_range.1 hi)⟩
  simp only [kOk, hx, h.ok x (List.mem_of_getElem? hx), Bool.and_true]
  cases i with
  | zero => rfl
  | succ i =>
    obtain ⟨y, hy⟩ : ∃ y, ps[i]? = some y := ⟨_, List.getElem?_eq_getElem (by have := List.mem_range.1 hi; omega)⟩
    simp only [Nat.add_sub_cancel, hy]
    rw [decide_eq_true (h.srt.lt (by omega) hy hx), Bool.or_true]
theorem V.filter {ps : List Kp} (h : V ps) (p : Kp → Bool) : V (ps.filter p) :=
  ⟨h.srt.sublist List.filter_sublist, fun x hx => h.ok x (List.mem_filter.1 hx).1, Nat.le_trans (List.length_filter_le _ _) h.le⟩
end Go.Proofs.YtilneflfeegnfaaGreat.Sn
namespace Go.Proofs.YtilneflfeegnfaaGreat.Hl
open Go.RowKit
structure Hr where
  a : Int
  T : ByteArray
  m0 : Int
  m1 : Int
  m2 : Int
  m3 : Int
  m4 : Int
  m5 : Int
def Hr.ok (x : Hr) : Prop := 0 ≤ x.a ∧ x.a < 4294967296 ∧ x.T.size ≤ 9223372036854775807
def zh : Hr := ⟨0, ⟨#[]⟩, 0, 0, 0, 0, 0, 0⟩
def hl (x : Hr) : List Value := [.int .u32 x.a, .string x.T, .int .u8 x.m0, .int .u8 x.m1, .int .u8 x.m2, .int .u8 x.m3, .int .u8 x.m4, .int .u8 x.m5]
def hv (x : Hr) : Value := .agg #[.int .u32 x.a, .string x.T, .int .u8 x.m0, .int .u8 x.m1, .int .u8 x.m2, .int .u8 x.m3, .int .u8 x.m4, .int .u8 x.m5]
def Hx (x : Hr) : Obj := .cells #[.int .u32 x.a, .string x.T, .int .u8 x.m0, .int .u8 x.m1, .int .u8 x.m2, .int .u8 x.m3, .int .u8 x.m4, .int .u8 x.m5] 44
theorem hl_length (x : Hr) : (hl x).length = 8 := rfl
theorem hl_one (x : Hr) : ∀ u ∈ hl x, u.oneCell' = true := by
  intro u hu
  simp [hl] at hu
  rcases hu with rfl | rfl | rfl | rfl | rfl | rfl | rfl | rfl <;> rfl
def hcs (xs : List Hr) : List Value := xs.flatMap hl
theorem hcs_append (xs ys : List Hr) : hcs (xs ++ ys) = hcs xs ++ hcs ys := by simp [hcs]
theorem hcs_one (xs : List Hr) : ∀ u ∈ hcs xs, u.oneCell' = true := by
  intro u hu
  obtain ⟨r, _, h⟩ := List.mem_flatMap.1 hu
  exact hl_one r u h
theorem hcs_length (xs : List Hr) : (hcs xs).length = xs.length * 8 := by
  induction xs with
  | nil => rfl
  | cons x r ih => rw [hcs, List.flatMap_cons, List.length_append, ← hcs, ih, hl_length, List.length_cons]; omega
theorem hcs_at (xs : List Hr) : ∀ (q : Nat) (x : Hr) (j : Nat), xs[q]? = some x → j < 8 → (hcs xs)[q * 8 + j]? = (hl x)[j]? := by
  induction xs with
  | nil => intro q x j h; simp at h
  | cons y r ih =>
    intro q x j h hj
    rw [hcs, List.flatMap_cons, ← hcs]
    cases q with
    | zero =>
      simp at h
      subst h
      rw [List.getElem?_append_left (by rw [hl_length]; omega)]
      simp
    | succ q =>
      rw [List.getElem?_append_right (by rw [hl_length]; omega), hl_length, show (q + 1) * 8 + j - 8 = q * 8 + j by omega]
      exact ih q x j (by simpa using h) hj
def Hs (w : World) (A : Option Addr) (xs : List Hr) : Prop :=
  xs.length ≤ 140737488355328 ∧ ∀ (q : Nat) (x : Hr), xs[q]? = some x → x.ok ∧ ∃ y, A = some y ∧ ∀ j v, (hl x)[j]? = some v → w.cell? (y.add (q * 8 + j)) = some v
theorem Hs.nil (w : World) (A : Option Addr) : Hs w A [] := ⟨by simp, fun q x h => by simp at h⟩
theorem Hs.keep {w w' : World} {A : Option Addr} {xs : List Hr} {B : Nat} (h : Hs w A xs) (hb : Below B w w') (hB : ∀ y, A = some y → y.block < B) : Hs w' A xs := by
  refine ⟨h.1, fun q x hq => ?_⟩
  obtain ⟨hk, y, hy, hc⟩ := h.2 q x hq
  refine ⟨hk, y, hy, fun j v hv => (hb.cell (p := y.add (q * 8 + j)) ?_).trans (hc j v hv)⟩
  rw [show (y.add (q * 8 + j)).block = y.block by unfold Addr.add; split <;> rfl]
  exact hB y hy
theorem Hs.below {w w' : World} {A : Option Addr} {xs : List Hr} (h : Hs w A xs) (hb : Below w.heap.size w w') : Hs w' A xs := by
  refine ⟨h.1, fun q x hq => ?_⟩
  obtain ⟨hk, y, hy, hc⟩ := h.2 q x hq
  exact ⟨hk, y, hy, fun j v hv => (hb.cell (World.block_lt_of_cell? _ _ (hc j v hv))).trans (hc j v hv)⟩
theorem Hs.grown {w w' : World} {A : Option Addr} {xs : List Hr} {row : Option Nat} (h : Hs w A xs) (hg : w.grownBy w' row) (hne : ∀ x, A = some x → some x.block ≠ row) : Hs w' A xs := by
  refine ⟨h.1, fun q x hq => ?_⟩
  obtain ⟨hk, y, hy, hc⟩ := h.2 q x hq
  refine ⟨hk, y, hy, fun j v hv => hg.cell (hc j v hv) ?_⟩
  rw [show (y.add (q * 8 + j)).block = y.block by unfold Addr.add; split <;> rfl]
  exact hne y hy
theorem Hs.ok {w : World} {A : Option Addr} {xs : List Hr} (h : Hs w A xs) {q : Nat} {x : Hr} (hq : xs[q]? = some x) : x.ok := (h.2 q x hq).1
theorem hs_some {w : World} {A : Option Addr} {xs : List Hr} (h : Hs w A xs) (hn : 0 < xs.length) : ∃ y, A = some y := by
  obtain ⟨_, y, hy, _⟩ := h.2 0 xs[0] (List.getElem?_eq_getElem hn)
  exact ⟨y, hy⟩
theorem Hs.at {w : World} {y : Addr} {xs : List Hr} (h : Hs w (some y) xs) {q : Nat} {x : Hr} (hq : xs[q]? = some x) : ∀ j v, (hl x)[j]? = some v → w.cell? ((y.add (q * 8)).add j) = some v := by
  obtain ⟨_, y', hy, hc⟩ := h.2 q x hq
  injection hy with hy
  subst hy
  intro j v hv
  rw [Addr.add_add]
  exact hc j v hv
theorem Hs.cells {w : World} {y : Addr} {xs : List Hr} (h : Hs w (some y) xs) : ∀ j u, (hcs xs)[j]? = some u → w.cell? (y.add j) = some u := by
  intro j u hu
  have hj : j < xs.length * 8 := by have := (List.getElem?_eq_some_iff.1 hu).1; rwa [hcs_length] at this
  have e : j = j / 8 * 8 + j % 8 := by omega
  have hq : j / 8 < xs.length := by omega
  have hx := List.getElem?_eq_getElem hq
  obtain ⟨_, y', hy, hc⟩ := h.2 (j / 8) _ hx
  injection hy with hy
  subst hy
  rw [e, hcs_at xs (j / 8) _ (j % 8) hx (by omega)] at hu
  rw [e]
  exact hc _ _ hu
theorem Hs.take {w : World} {A : Option Addr} {xs : List Hr} (h : Hs w A xs) (n : Nat) : Hs w A (xs.take n) := by
  refine ⟨by have := h.1; rw [List.length_take]; omega, fun q x hq => h.2 q x ?_⟩
  rw [List.getElem?_take] at hq
  split at hq
  · exact hq
  · cases hq
theorem Hs.drop {w : World} {y : Addr} {xs : List Hr} (h : Hs w (some y) xs) (n : Nat) : Hs w (some (y.add (n * 8))) (xs.drop n) := by
  refine ⟨by have := h.1; rw [List.length_drop]; omega, fun q x hq => ?_⟩
  rw [List.getElem?_drop] at hq
  obtain ⟨hk, y', hy, hc⟩ := h.2 (n + q) x hq
  injection hy with hy
  subst hy
  refine ⟨hk, _, rfl, fun j v hv => ?_⟩
  rw [Addr.add_add, show n * 8 + (q * 8 + j) = (n + q) * 8 + j by omega]
  exact hc j v hv
theorem own_hs {w : World} {base : Nat} {v : Value} {n : Nat} {xs : List Hr} (h : w.ownsRow base 44 8 v n (hcs xs)) (hok : ∀ x ∈ xs, x.ok) (hn : xs.length ≤ 140737488355328) : ∃ A cap, v = .slice A xs.length cap ∧ xs.length ≤ cap ∧ cap ≤ maxLen ∧ n = xs.length ∧ Hs w A xs ∧ (∀ y, A = some y → base ≤ y.block ∧ y.block < w.heap.size) := by
  have hl := h.1
  rw [hcs_length] at hl
  have hnx : n = xs.length := by omega
  subst hnx
  rcases h.2 with ⟨rfl, h0⟩ | ⟨g, cap, cur, rfl, hb, hg, hle, hm, hs, ht⟩
  · have : xs = [] := List.eq_nil_of_length_eq_zero h0
    subst this
    exact ⟨none, 0, rfl, by simp, by unfold maxLen; omega, rfl, Hs.nil _ _, fun y e => by cases e⟩
  · refine ⟨some ⟨g, 0, none⟩, cap, rfl, hle, hm, rfl, ⟨hn, fun q x hq => ⟨hok x (List.mem_of_getElem? hq), _, rfl, fun j v hv => ?_⟩⟩, fun y e => by injection e with e; subst e; exact ⟨hb, (Array.getElem?_eq_some_iff.1 hg).1⟩⟩
    have hj : j < 8 := by have := (List.getElem?_eq_some_iff.1 hv).1; rwa [hl_length] at this
    refine h.cells (g := g) rfl _ _ ?_
    rw [hcs_at xs q x j hq hj]
    exact hv
theorem size33 : (Tryz.prog.info? 44).map (·.size) = some 8 := by kernel_rfl
theorem load33 {w : World} {y : Addr} {x : Hr} (h : ∀ j v, (hl x)[j]? = some v → w.cell? (y.add j) = some v) : (Instr.loadAt 44 (.pointer (some y))).run Tryz.prog w = .ok (hv x) w := by
  have hl' : (loadCells y 8).run Tryz.prog w = .ok (hl x).toArray w := run_loadCells_list (P := Tryz.prog) w y (hl x) h
  obtain ⟨i, hi, hs⟩ := Option.map_eq_some_iff.1 size33
  have hg : (isAgg 44).run Tryz.prog w = .ok true w := by
    unfold isAgg
    simp only [Sem.run_bind, run_underlying Tryz.underlying44, Result.andThen_ok, Sem.run_pure]
  have hz : (Go.sizeOf 44).run Tryz.prog w = .ok 8 w := by
    rw [← hs]
    simp [Go.sizeOf, typeInfo, hi]
  simp only [Instr.loadAt, Instr.sureAddr, loadVar, Sem.run_bind, Sem.run_pure, Result.andThen_ok, hg, hz, hl', if_true]
  rfl
theorem at_load33 {ops : Array Oper} {rest : List Oper} {op : Oper} {a : Act} {w : World} {Q : Exit → Act → World → Prop} (x : Operand) (hgd : op.guard = none) (ho : op.op = .load 44 x) (y : Addr) (z : Hr) (hx : a.eval x = .pointer (some y)) (hr : ∀ j v, (hl z)[j]? = some v → w.cell? (y.add j) = some v)
    (h : wpList Tryz.prog ops Q rest (a.put op.dst (.agg #[.int .u32 z.a, .string z.T, .int .u8 z.m0, .int .u8 z.m1, .int .u8 z.m2, .int .u8 z.m3, .int .u8 z.m4, .int .u8 z.m5])) w) : wpList Tryz.prog ops Q (op :: rest) a w :=
  wpList_plain hgd fun _ hK => by
    unfold Oper.wp execOp
    simp only [ho, hx, Sem.run_bind, Sem.run_pure, Result.andThen_ok, load33 hr]
    exact hK _ _ h
end Go.Proofs.YtilneflfeegnfaaGreat.Hl
namespace Go.Proofs.YtilneflfeegnfaaGreat.Hl
open Go.RowKit
def obB (c : Int) : Bool := decide (97 ≤ c ∧ c ≤ 122 ∨ 48 ≤ c ∧ c ≤ 57)
theorem ob_yes {c : Int} (h : 97 ≤ c ∧ c ≤ 122 ∨ 48 ≤ c ∧ c ≤ 57) : obB c = true := decide_eq_true h
theorem ob_no {c : Int} (h : ¬ (97 ≤ c ∧ c ≤ 122 ∨ 48 ≤ c ∧ c ≤ 57)) : obB c = false := decide_eq_false h
theorem ob_any (c : Int) (w : World) (h0 : 0 ≤ c) (h1 : c < 256) : Calls Tryz.prog 114 #[.int .u8 c] w fun e w' => e = .returned (.bool (obB c)) ∧ w' = w := by
  by_cases a : 97 ≤ c
  · by_cases b : c ≤ 122
    · have H := Lib.hid (ob_yes (c := c) (by omega))
      go_enter Tryz.func114, Tryz.ntmps114
      go_wp2_with fail
      go_ret
      exact ⟨by rw [H.out]; first | rfl | exact ret_bool (by simp; omega), rfl⟩
    · have H := Lib.hid (ob_no (c := c) (by omega))
      have b' : (c ≤ 57) = False := by simp; omega
      go_enter Tryz.func114, Tryz.ntmps114
      go_wp2_with fail
      go_ret
      exact ⟨by rw [H.out]; first | rfl | exact ret_bool (by simp; omega), rfl⟩
  · by_cases b : 48 ≤ c ∧ c ≤ 57
    · obtain ⟨b0, b1⟩ := b
      have H := Lib.hid (ob_yes (c := c) (by omega))
      go_enter Tryz.func114, Tryz.ntmps114
      go_wp2_with fail
      go_ret
      exact ⟨by rw [H.out]; first | rfl | exact ret_bool (by simp; omega), rfl⟩
    · have H := Lib.hid (ob_no (c := c) (by omega))
      by_cases b0 : 48 ≤ c
      · have b1 : 57 < c := by omega
        clear b
        go_enter Tryz.func114, Tryz.ntmps114
        go_wp2_with fail
        go_ret
        exact ⟨by rw [H.out]; first | rfl | exact ret_bool (by simp; omega), rfl⟩
      · clear b
        go_enter Tryz.func114, Tryz.ntmps114
        go_wp2_with fail
        go_ret
        exact ⟨by rw [H.out]; first | rfl | exact ret_bool (by simp; omega), rfl⟩
def obs (s : ByteArray) (k : Nat) : Bool := (s.data.toList.take k).all fun c => obB (c.toNat : Int)
theorem obs_zero (s : ByteArray) : obs s 0 = true := by simp [obs]
theorem obs_snoc (s : ByteArray) (k : Nat) (h : k < s.size) : obs s (k + 1) = (obs s k && obB (s[k].toNat : Int)) := by
  unfold obs
  rw [List.take_succ_eq_append_getElem (by simpa using h), List.all_append]
  simp
  rfl
theorem obs_false (s : ByteArray) (k n : Nat) (h : obs s k = false) (hk : k ≤ n) : obs s n = false := by
  unfold obs at h ⊢
  rw [Bool.eq_false_iff] at h ⊢
  intro hc
  apply h
  rw [List.all_eq_true] at hc ⊢
  intro x hx
  refine hc x ?_
  have : (s.data.toList.take n).take k = s.data.toList.take k := by rw [List.take_take]; congr 1; omega
  rw [← this] at hx
  exact List.mem_of_mem_take hx
def mayB (s : ByteArray) : Bool := decide (0 < s.size) && decide (s.size ≤ 8) && obs s s.size
set_option maxRecDepth 100000 in
set_option maxHeartbeats 2000000 in
theorem may_any (s : ByteArray) (w : World) (hs : s.size ≤ 9223372036854775807) : Calls Tryz.prog 72 #[.string s] w fun e w' => e = .returned (.bool (mayB s)) ∧ w' = w := by
  by_cases h0 : s.size = 0
  · have H := Lib.hid (show mayB s = false by simp [mayB, h0])
    have he : s.toList = [] := by
      rw [ByteArray.toList_eq]
      exact List.eq_nil_of_length_eq_zero (by rw [← h0]; rfl)
    have he2 : s.toList.isEmpty = true := by rw [he]; rfl
    clear h0
    go_enter Tryz.func72, Tryz.ntmps72
    go_wp2_with fail
    go_ret
    exact ⟨by rw [H.out]; first | rfl | exact ret_bool (by simp; omega), rfl⟩
  · have he2 : s.toList.isEmpty = false := by
      rw [ByteArray.toList_eq]
      cases hh : s.data.toList with
      | nil =>
        exfalso
        apply h0
        have : s.data.toList.length = 0 := by rw [hh]; rfl
        exact this
      | cons a b => rfl
    have he : (s.toList = []) = False := by
      simp
      intro hh
      rw [hh] at he2
      cases he2
    by_cases h8 : 8 < s.size
    · have H := Lib.hid (show mayB s = false by simp [mayB]; omega)
      have h8' : (8 : Int) < s.size := by omega
      clear h0
      go_enter Tryz.func72, Tryz.ntmps72
      go_wp2_with fail
      go_ret
      exact ⟨by rw [H.out]; first | rfl | exact ret_bool (by simp; omega), rfl⟩
    · have h8' : ¬ (8 : Int) < s.size := by omega
      have HM := Lib.hid (show mayB s = obs s s.size by simp [mayB]; omega)
      clear h0
      go_enter Tryz.func72, Tryz.ntmps72
      go_wp2_with fail
      go_loop [13] (fun i => ∃ k : Nat, i = .int .i64 k ∧ k ≤ s.size ∧ Hid (obs s k = true)) (fun i => s.size - (intOf i).toNat)
      case atStart => exact ⟨0, rfl, by omega, obs_zero s⟩
      case round =>
        obtain ⟨k, rfl, hk, HH⟩ := hrel
        by_cases hlt : k < s.size
        · have HS := Lib.hid (obs_snoc s k hlt)
          have HF := Lib.hid (obs_false s (k + 1) s.size)
          have HO := Lib.hid fun W => ob_any (s[k].toNat : Int) W (by omega) (by have := s[k].toNat_lt; omega)
          obtain ⟨C, hC⟩ : ∃ C, obB (s[k].toNat : Int) = C := ⟨_, rfl⟩
          rw [hC] at HS HO
          clear hC
          go_wp2_with fail
          refine (HO.out _).mono ?_
          rintro e w1 ⟨rfl, rfl⟩
          cases C
          · go_wp2_with fail
            go_ret
            refine ⟨ret_bool ?_, rfl⟩
            rw [HM.out, HF.out (by rw [HS.out]; simp) (by omega)]
          · go_wp2_with fail
            go_round
            case rel => exact ⟨k + 1, by go_num, by omega, Lib.hid (by rw [HS.out, HH.out]; rfl)⟩
            case measure => simp [intOf]; omega
        · obtain rfl : k = s.size := by omega
          go_wp2_with fail
          go_ret
          exact ⟨ret_bool (by rw [HM.out, HH.out]), rfl⟩
end Go.Proofs.YtilneflfeegnfaaGreat.Hl
namespace Go.Proofs.YtilneflfeegnfaaGreat.Hl
open Go.RowKit
def lo : List Hr → Int → Nat
  | [], _ => 0
  | x :: r, a => if x.a < a then lo r a + 1 else 0
theorem lo_le (a : Int) : ∀ xs, lo xs a ≤ xs.length
  | [] => Nat.le_refl _
  | x :: r => by
    unfold lo
    have := lo_le a r
    split <;> simp
    omega
theorem lo_lt (a : Int) : ∀ (xs : List Hr) (k : Nat) (x : Hr), k < lo xs a → xs[k]? = some x → x.a < a
  | [], k, x, h, _ => by simp [lo] at h
  | y :: r, k, x, h, hx => by
    unfold lo at h
    split at h
    · rename_i hy
      cases k with
      | zero => simp at hx; subst hx; exact hy
      | succ k => exact lo_lt a r k x (by omega) (by simpa using hx)
    · omega
theorem lo_ge (a : Int) : ∀ (xs : List Hr) (x : Hr), xs[lo xs a]? = some x → ¬ x.a < a
  | [], x, hx => by simp at hx
  | y :: r, x, hx => by
    unfold lo at hx
    split at hx
    · exact lo_ge a r x (by simpa using hx)
    · rename_i hy
      simp at hx
      subst hx
      exact hy
def isAt (xs : List Hr) (a : Int) : Bool := match xs[lo xs a]? with
  | some x => decide (x.a = a)
  | none => false
def gt (xs : List Hr) (a : Int) : Hr := if isAt xs a = true then xs[lo xs a]?.getD zh else zh
theorem isAt_some {xs : List Hr} {a : Int} (h : isAt xs a = true) : ∃ x, xs[lo xs a]? = some x ∧ x.a = a ∧ lo xs a < xs.length := by
  unfold isAt at h
  split at h
  · rename_i x hx
    exact ⟨x, hx, by simpa using h, (List.getElem?_eq_some_iff.1 hx).1⟩
  · cases h
set_option maxRecDepth 100000 in
set_option maxHeartbeats 2000000 in
theorem place_any (a : Int) (A : Option Addr) (xs : List Hr) (cap : Nat) (w : World) (h : Hs w A xs) (ha0 : 0 ≤ a) (ha1 : a < 4294967296) :
    Calls Tryz.prog 45 #[.slice A xs.length cap, .int .u32 a] w fun e w' => e = .returned (.tuple #[.int .i64 (lo xs a), .bool (isAt xs a)]) ∧ ∃ n, w' = w.drewN n := by
  have hle := lo_le a xs
  have hln := h.1
  have R := Lib.hid h
  clear h
  have HI := Lib.hid (show isAt xs a = _ by unfold isAt; rfl)
  obtain ⟨L, hL⟩ : ∃ L, xs.length = L := ⟨_, rfl⟩
  have HL := Lib.hid hL
  rw [hL] at hle hln ⊢
  clear hL
  obtain ⟨P, hP⟩ : ∃ P, lo xs a = P := ⟨_, rfl⟩
  have HP := Lib.hid hP
  rw [hP] at hle ⊢
  clear hP
  go_enter Tryz.func45, Tryz.ntmps45
  go_wp2_with fail
  go_loop [6] (fun i => ∃ k : Nat, i = .int .i64 k ∧ k ≤ P) (fun i => P - (intOf i).toNat)
  case atStart => exact ⟨0, rfl, by omega⟩
  case round =>
    obtain ⟨k, rfl, hk⟩ := hrel
    by_cases hkL : k < L
    · obtain ⟨x, hx⟩ : ∃ x, xs[k]? = some x := ⟨_, List.getElem?_eq_getElem (by rw [HL.out]; exact hkL)⟩
      obtain ⟨y, rfl⟩ := hs_some R.out (by rw [HL.out]; omega)
      have hok := R.out.ok hx
      have c0 : w.cell? (y.add (k * 8)) = some (.int .u32 x.a) := by
        have := R.out.at hx 0 _ rfl
        rwa [Addr.add_add] at this
      have X0 : 0 ≤ x.a := hok.1
      have X1 : x.a < 4294967296 := hok.2.1
      by_cases hlt : k < P
      · have hxa : x.a < a := lo_lt a xs k x (by rw [HP.out]; exact hlt) hx
        clear hx hok
        go_wp2_with fail
        go_round
        case rel => exact ⟨k + 1, by go_num, by omega⟩
        case measure => simp [intOf]; omega
      · obtain rfl : k = P := by omega
        have hxa : ¬ x.a < a := lo_ge a xs x (by rw [HP.out]; exact hx)
        have HA := Lib.hid (show isAt xs a = decide (x.a = a) by rw [HI.out, HP.out, hx])
        clear hx hok
        by_cases he : x.a = a
        · have he2 : (x.a == a) = true := by simpa using he
          have HE := Lib.hid he
          clear he
          go_wp2_with fail
          go_quiet (fail)
          go_wp2_with fail
          go_ret2
          refine ⟨?_, _, rfl⟩
          rw [HA.out, decide_eq_true HE.out]; rfl
        · have he2 : (x.a == a) = false := by simpa using he
          have HE := Lib.hid he
          clear he
          go_wp2_with fail
          go_quiet (fail)
          go_wp2_with fail
          go_ret2
          refine ⟨?_, _, rfl⟩
          rw [HA.out, decide_eq_false HE.out]; rfl
    · obtain rfl : k = L := by omega
      obtain rfl : k = P := by omega
      have HA := Lib.hid (show isAt xs a = false by rw [HI.out, HP.out, List.getElem?_eq_none (by rw [HL.out]; exact Nat.le_refl _)])
      go_wp2_with fail
      go_quiet (fail)
      go_wp2_with fail
      go_ret2
      refine ⟨?_, _, rfl⟩
      rw [HA.out]; rfl
theorem Hs.drewN {w : World} {A : Option Addr} {xs : List Hr} (h : Hs w A xs) (n : Nat) : Hs (w.drewN n) A xs := h.below (bdrewN (Below.refl _ _) n)
theorem set8h {w w1 : World} {b : Nat} (h : Below w.heap.size w w1) (hb : w.heap.size ≤ b) (v0 v1 v2 v3 v4 v5 v6 v7 : Value) :
    Below w.heap.size w ((((((((w1.setCell ⟨b, 0, none⟩ v0).setCell ⟨b, 1, none⟩ v1).setCell ⟨b, 2, none⟩ v2).setCell ⟨b, 3, none⟩ v3).setCell ⟨b, 4, none⟩ v4).setCell ⟨b, 5, none⟩ v5).setCell ⟨b, 6, none⟩ v6).setCell ⟨b, 7, none⟩ v7) :=
  (((((((h.setCell hb v0).setCell hb v1).setCell hb v2).setCell hb v3).setCell hb v4).setCell hb v5).setCell hb v6).setCell hb v7
set_option maxRecDepth 100000 in
set_option maxHeartbeats 2000000 in
theorem get_any (a : Int) (A : Option Addr) (xs : List Hr) (cap : Nat) (w : World) (h : Hs w A xs) (hc : xs.length ≤ cap) (ha0 : 0 ≤ a) (ha1 : a < 4294967296) :
    Calls Tryz.prog 22 #[.slice A xs.length cap, .int .u32 a] w fun e w' => e = .returned (.tuple #[hv (gt xs a), .bool (isAt xs a)]) ∧ Below w.heap.size w w' := by
  have hle := lo_le a xs
  have hln := h.1
  have R := Lib.hid h
  have HP := Lib.hid (place_any a A xs cap (w.alloc (.cells #[.int .u32 0, .string ⟨#[]⟩, .int .u8 0, .int .u8 0, .int .u8 0, .int .u8 0, .int .u8 0, .int .u8 0] 44)) (h.below ((Below.refl _ w).alloc (Nat.le_refl _) _)) ha0 ha1)
  have HG := Lib.hid (show gt xs a = _ by unfold gt; rfl)
  have HS := Lib.hid (@isAt_some xs a)
  clear h
  obtain ⟨L, hL⟩ : ∃ L, xs.length = L := ⟨_, rfl⟩
  have HL := Lib.hid hL
  rw [hL] at hle hln HP hc ⊢
  clear hL
  obtain ⟨G, hG⟩ : ∃ G, gt xs a = G := ⟨_, rfl⟩
  rw [hG] at HG ⊢
  clear hG
  obtain ⟨P, hP⟩ : ∃ P, lo xs a = P := ⟨_, rfl⟩
  have HPP := Lib.hid hP
  rw [hP] at hle HP
  clear hP
  obtain ⟨B, hB⟩ : ∃ B, isAt xs a = B := ⟨_, rfl⟩
  have HB := Lib.hid hB
  rw [hB] at HP HG ⊢
  clear hB
  go_enter Tryz.func22, Tryz.ntmps22
  go_wp2_with fail
  refine HP.out.mono ?_
  rintro e w1 ⟨rfl, n1, hw1⟩
  have B1 : Below w.heap.size w w1 := hw1 ▸ bdrewN ((Below.refl _ w).alloc (Nat.le_refl _) _) n1
  have k0 : w1.cell? ⟨w.heap.size, 0, none⟩ = some (.int .u32 0) := by rw [hw1]; simp
  have k1 : w1.cell? ⟨w.heap.size, 1, none⟩ = some (.string ⟨#[]⟩) := by rw [hw1]; simp
  have k2 : w1.cell? ⟨w.heap.size, 2, none⟩ = some (.int .u8 0) := by rw [hw1]; simp
  have k3 : w1.cell? ⟨w.heap.size, 3, none⟩ = some (.int .u8 0) := by rw [hw1]; simp
  have k4 : w1.cell? ⟨w.heap.size, 4, none⟩ = some (.int .u8 0) := by rw [hw1]; simp
  have k5 : w1.cell? ⟨w.heap.size, 5, none⟩ = some (.int .u8 0) := by rw [hw1]; simp
  have k6 : w1.cell? ⟨w.heap.size, 6, none⟩ = some (.int .u8 0) := by rw [hw1]; simp
  have k7 : w1.cell? ⟨w.heap.size, 7, none⟩ = some (.int .u8 0) := by rw [hw1]; simp
  have f8 : ∀ k, w1.frozen? ⟨w.heap.size, k, none⟩ = false := by intro k; rw [hw1]; simp
  have R1 := Lib.hid (R.out.below B1)
  have BB := Lib.hid B1
  clear hw1 B1 HP
  cases B
  · go_wp2_with fail
    exact bodyPost_ret (v := .tuple #[hv zh, .bool false]) (by simp [results, Tryz.results22, go_sem, hv, zh, k0, k1, k2, k3, k4, k5, k6, k7]) rfl ⟨by rw [HG.out]; rfl, set8h BB.out (Nat.le_refl _) _ _ _ _ _ _ _ _⟩
  · obtain ⟨x, hx, hxa, hlt⟩ := HS.out HB.out
    rw [HPP.out] at hx hlt
    rw [HL.out] at hlt
    have HGx := Lib.hid (show G = x by rw [HG.out]; simp [HPP.out, hx])
    obtain ⟨y, rfl⟩ := hs_some R.out (by rw [HL.out]; omega)
    have hat := R1.out.at hx
    obtain ⟨xa, xT, x0, x1, x2, x3, x4, x5⟩ := x
    clear hx hxa
    go_wp2_with (refine at_load33 _ rfl rfl _ _ rfl hat ?_)
    exact bodyPost_ret (v := .tuple #[hv ⟨xa, xT, x0, x1, x2, x3, x4, x5⟩, .bool true]) (by simp [results, Tryz.results22, go_sem, hv, k0, k1, k2, k3, k4, k5, k6, k7]) rfl ⟨by rw [HGx.out], set8h BB.out (Nat.le_refl _) _ _ _ _ _ _ _ _⟩
end Go.Proofs.YtilneflfeegnfaaGreat.Hl
namespace Go.Proofs.YtilneflfeegnfaaGreat.Hl
open Go.RowKit
theorem info33 : (Tryz.prog.info? 44).map (fun i => (i.zero, i.size, i.bytes)) = some (some (hv zh), 8, 32) := by kernel_rfl
theorem run_zeros (w : World) (n : Nat) (ty : TypeId) (h0 : 0 < n) (hn : n ≤ 1000) : (Builtin.append_ #[29, 3] ty #[.slice none 0 0, .int .i64 (n : Int)]).run Tryz.prog w =
    .ok (.slice (some ⟨w.heap.size, 0, none⟩) n (grownCap w n 0 44)) (w.drew.alloc (.cells (Builtin.zeroCells (hv zh).cells n ++ Builtin.zeroCells (hv zh).cells (grownCap w n 0 44 - n)) 44)) := by
  obtain ⟨i, hi, hz0, hz1, hz2⟩ := info_parts info33
  have hne : n ≠ 0 := by omega
  have hw : IntKind.i64.wrap (n : Int) = n := by rw [IntKind.wrap_i64]; omega
  have h1 : ¬ ((n : Int) < 0) := by omega
  have h2 : ¬ (281474976710656 < (n : Int) * 32) := by omega
  have h63' : ¬ (9223372036854775807 < (n : Int)) := by omega
  have h48' : ¬ (281474976710656 < Builtin.nextslicecap n 0 * 32) := by rw [nextslicecap_zero h0]; omega
  have h48 : ¬ (281474976710656 < ((Builtin.nextslicecap n 0 * 32 : Nat) : Int)) := by rw [nextslicecap_zero h0]; omega
  simp [Builtin.append_, run_underlying Tryz.underlying29, run_underlying Tryz.underlying3, sizeOf, typeInfo, zeroValue, hi, hz0, hz1, hz2, hne, hw, h1, h2, h63', h48, h48', Question.forced, run_firstCells_none, newRow, grownCap, asInt, asIntOf]
  intro h; omega
theorem wpList_zeros (w : World) {ops : Array Oper} {rest : List Oper} {o : Oper} {a : Act} {Q : Exit → Act → World → Prop} (hgd : o.guard = none) (s x : Operand) (ho : o.op = .call { callee := .builtin .append, args := #[s, x], argTypes := #[29, 3] })
    (n : Nat) (hs : a.eval s = .slice none 0 0) (hx : a.eval x = .int .i64 (n : Int)) (h0 : 0 < n) (hn : n ≤ 1000)
    (h : ∀ C cap, n ≤ cap → cap ≤ maxLen → C.size = cap * 8 → wpList Tryz.prog ops Q rest (a.put o.dst (.slice (some ⟨w.heap.size, 0, none⟩) n cap)) (w.drew.alloc (.cells C 44))) : wpList Tryz.prog ops Q (o :: rest) a w :=
  wpList_plain hgd fun _ hK => by
    unfold Oper.wp execOp
    simp only [ho, resolve, invoke, builtin, Sem.run_bind, Sem.run_pure, Result.andThen_ok, List.map_toArray, List.map_cons, List.map_nil, hs, hx, run_zeros w n o.type h0 hn]
    have hge := grownCap_ge w n 0 44
    have hle := grownCap_le_maxLen w n 0 44 (by unfold maxLen; omega)
    refine hK _ _ (h _ _ hge hle ?_)
    rw [Array.size_append, size_zeroCells, size_zeroCells]
    show n * 8 + (grownCap w n 0 44 - n) * 8 = _
    omega
def OwnPost (w : World) (n : Nat) (xs : List Hr) (e : Ending) (w' : World) : Prop := ∃ v, e = .returned v ∧ w'.ownsRow w.heap.size 44 8 v n (hcs xs) ∧ Below w.heap.size w w'
set_option maxRecDepth 100000 in
set_option maxHeartbeats 2000000 in
theorem grow_any (n : Nat) (w : World) (hn : n ≤ 1000) : Calls Tryz.prog 115 #[.slice none 0 0, .int .i64 (n : Int)] w (OwnPost w 0 []) := by
  by_cases h0 : n = 0
  · subst h0
    go_enter Tryz.func115, Tryz.ntmps115
    go_wp2_with fail
    go_ret
    exact ⟨_, rfl, World.ownsRow_nil _ _ _ _, Below.refl _ _⟩
  · have h1 : 0 < n := by omega
    have h1' : (0 : Int) < n := by omega
    clear h0
    go_enter Tryz.func115, Tryz.ntmps115
    go_wp2_with (at_builtin; refine wpList_zeros _ rfl (.tmp 20) (.tmp 21) rfl n (by simp [Act.eval, Act.put]) (by simp [Act.eval, Act.put]) h1 hn ?_)
    intro C cap hge hle hsz
    have HZ := Lib.hid hsz
    have HM := Lib.hid hle
    unfold maxLen at hle
    clear hsz
    go_wp2_with fail
    go_ret
    exact ⟨_, rfl, World.ownsRow_made (w.drew) C cap (Nat.le_refl _) HM.out HZ.out, (Below.refl _ w).drew.alloc (Nat.le_refl _) _⟩
theorem run_append_no (w : World) (base : Nat) (ty : TypeId) (v : Value) (n c : Nat) (xs : List Value) (hown : w.ownsRow base 44 8 v n xs) : (Builtin.append_ #[29, 29] ty #[v, .slice none 0 c]).run Tryz.prog w = .ok v w := by
  obtain ⟨i, hi, _⟩ := info_parts info33
  rcases hown.2 with ⟨rfl, rfl⟩ | ⟨g, cap, cur, rfl, _, _, hle, _⟩
  · simp [Builtin.append_, run_underlying Tryz.underlying29, sizeOf, typeInfo, hi, Builtin.lenOf, Builtin.firstCells]
  · simp [Builtin.append_, run_underlying Tryz.underlying29, sizeOf, typeInfo, hi, Builtin.lenOf, Builtin.firstCells, hle, storeCells]
theorem run_append_hs (w : World) (base : Nat) (ty : TypeId) (v : Value) (n : Nat) (xs : List Hr) (hown : w.ownsRow base 44 8 v n (hcs xs)) (A : Option Addr) (m c : Nat) (ys : List Hr) (hm : m = ys.length) (hr : Hs w A ys)
    (hlen : n + m ≤ 1000000) (hbase : base ≤ w.heap.size) :
    ∃ v' w', (Builtin.append_ #[29, 29] ty #[v, .slice A m c]).run Tryz.prog w = .ok v' w' ∧ w'.ownsRow base 44 8 v' (n + m) (hcs (xs ++ ys)) ∧ w.grownBy w' v.ownBlock := by
  subst hm
  rw [hcs_append]
  rcases A with _ | x
  · have hz : ys = [] := by
      rcases Nat.eq_zero_or_pos ys.length with h0 | h0
      · exact List.eq_nil_of_length_eq_zero h0
      · obtain ⟨x, hx⟩ := hs_some hr h0
        cases hx
    subst hz
    refine ⟨v, w, run_append_no w base ty v n c _ hown, ?_, ⟨rfl, rfl, rfl, Nat.le_refl _, fun _ _ _ => rfl⟩⟩
    simpa [hcs] using hown
  · obtain ⟨i, hi, hz0, hz1, hz2⟩ := info_parts info33
    obtain ⟨v', w', hrun, h2, h3, _, h5⟩ := run_append_own_at (P := Tryz.prog) w base 29 ty 44 i (hv zh) 8 32 Tryz.underlying29 hi hz0 hz1 hz2 rfl (by omega) v n (hcs xs) hown x ys.length c (hcs ys) (by rw [hcs_length]) hr.cells (hcs_one ys) (by unfold maxLen; omega) (by omega) hbase
    exact ⟨v', w', hrun, h2, h3⟩
theorem wpList_append_hs (w : World) {ops : Array Oper} {rest : List Oper} {o : Oper} {a : Act} {Q : Exit → Act → World → Prop} (hgd : o.guard = none) (s x : Operand) (ho : o.op = .call { callee := .builtin .append, args := #[s, x], argTypes := #[29, 29] })
    (base : Nat) (v : Value) (n : Nat) (xs : List Hr) (hs : a.eval s = v) (hown : w.ownsRow base 44 8 v n (hcs xs)) (A : Option Addr) (m c : Nat) (ys : List Hr) (hx : a.eval x = .slice A m c) (hm : m = ys.length) (hr : Hs w A ys)
    (hlen : n + m ≤ 1000000) (hbase : base ≤ w.heap.size)
    (h : ∀ v' w', w'.ownsRow base 44 8 v' (n + m) (hcs (xs ++ ys)) → w.grownBy w' v.ownBlock → wpList Tryz.prog ops Q rest (a.put o.dst v') w') : wpList Tryz.prog ops Q (o :: rest) a w :=
  wpList_plain hgd fun _ hK => by
    obtain ⟨v', w', hrun, h2, h3⟩ := run_append_hs w base o.type v n xs hown A m c ys hm hr hlen hbase
    unfold Oper.wp execOp
    simp only [ho, resolve, invoke, builtin, Sem.run_bind, Sem.run_pure, Result.andThen_ok, List.map_toArray, List.map_cons, List.map_nil, hs, hx, hrun]
    exact hK _ _ (h v' w' h2 h3)
structure Pt where
  A : Option Addr
  xs : List Hr
  c : Nat
def Pm (w : World) (b : Nat) (ps : List Pt) : Prop := b < w.heap.size ∧ ∀ (k : Nat) (p : Pt), ps[k]? = some p → w.cell? ⟨b, k, none⟩ = some (.slice p.A p.xs.length p.c) ∧ Hs w p.A p.xs
def cat (ps : List Pt) (k : Nat) : List Hr := (ps.take k).flatMap (·.xs)
theorem cat_zero (ps : List Pt) : cat ps 0 = [] := by simp [cat]
theorem cat_snoc {ps : List Pt} {k : Nat} {p : Pt} (h : ps[k]? = some p) : cat ps (k + 1) = cat ps k ++ p.xs := by
  unfold cat
  rw [List.take_add_one, h]
  simp
theorem cat_le (ps : List Pt) (k : Nat) : (cat ps k).length ≤ (cat ps ps.length).length := by
  unfold cat
  rw [List.take_length]
  have : ps = ps.take k ++ ps.drop k := (List.take_append_drop k ps).symm
  conv => rhs; rw [this]
  rw [List.flatMap_append, List.length_append]
  omega
set_option maxRecDepth 100000 in
set_option maxHeartbeats 4000000 in
theorem concat_any (ps : List Pt) (b c : Nat) (w : World) (h : Pm w b ps) (hn : (cat ps ps.length).length ≤ 1000) (hps : ps.length ≤ 10) :
    Calls Tryz.prog 73 #[.slice (some ⟨b, 0, none⟩) ps.length c] w (OwnPost w (cat ps ps.length).length (cat ps ps.length)) := by
  have HP := Lib.hid h
  have hb := h.1
  have HC := Lib.hid (cat_le ps)
  have HS := Lib.hid (fun (k : Nat) (p : Pt) (h : ps[k]? = some p) => cat_snoc h)
  obtain ⟨L, hL⟩ : ∃ L, ps.length = L := ⟨_, rfl⟩
  have HL := Lib.hid hL
  rw [hL] at hn hps HC ⊢
  clear hL h
  go_enter Tryz.func73, Tryz.ntmps73
  go_wp2_with fail
  go_loop [3, 11] (fun s i => ∃ k : Nat, i = .int .i64 k ∧ k ≤ L ∧ s = .int .i64 ((cat ps k).length : Nat)) (fun _ i => L - (intOf i).toNat)
  case atStart => exact ⟨0, rfl, by omega, by rw [cat_zero]; rfl⟩
  case round =>
    obtain ⟨k, rfl, hk, rfl⟩ := hrel
    have hkc := HC.out k
    by_cases hlt : k < L
    · obtain ⟨p, hp⟩ : ∃ p, ps[k]? = some p := ⟨_, List.getElem?_eq_getElem (by rw [HL.out]; exact hlt)⟩
      have k0 := (HP.out.2 k p hp).1
      have hkc1 := HC.out (k + 1)
      have HK := Lib.hid (HS.out _ _ hp)
      rw [HK.out, List.length_append] at hkc1
      obtain ⟨A, xs, pc⟩ := p
      dsimp only at k0 hkc1 HK
      have HX := Lib.hid (show (cat ps (k + 1)).length = (cat ps k).length + xs.length by rw [HK.out, List.length_append])
      generalize (cat ps k).length = N at *
      clear hp
      go_wp2_with fail
      go_round
      case rel => exact ⟨k + 1, by go_num, by omega, by rw [HX.out]; go_num⟩
      case measure => simp [intOf]; omega
    · obtain rfl : k = L := by omega
      have HG := Lib.hid (grow_any (cat ps k).length w hn)
      obtain ⟨N, hN⟩ : ∃ N, (cat ps k).length = N := ⟨_, rfl⟩
      have HN := Lib.hid hN
      rw [hN] at HG hn HC ⊢
      clear hN hkc
      go_wp2_with fail
      refine HG.out.mono ?_
      rintro e w1 ⟨v1, rfl, ho, hb1⟩
      have O1 := Lib.hid ho
      have B1 := Lib.hid hb1
      clear ho hb1
      go_wp2_with fail
      go_loopw [6, 27] (fun v i wr => ∃ q : Nat, i = .int .i64 q ∧ q ≤ k ∧ Hid (wr.ownsRow w.heap.size 44 8 v (cat ps q).length (hcs (cat ps q)) ∧ Below w.heap.size w wr)) (fun _ i _ => k - (intOf i).toNat)
      case atStart => exact ⟨0, rfl, by omega, Lib.hid ⟨by rw [cat_zero]; exact O1.out, B1.out⟩⟩
      case round =>
        obtain ⟨q, rfl, hq, HR⟩ := hrel
        by_cases hlt : q < k
        · obtain ⟨p, hp⟩ : ∃ p, ps[q]? = some p := ⟨_, List.getElem?_eq_getElem (by rw [HL.out]; exact hlt)⟩
          obtain ⟨k0, kH⟩ := HP.out.2 q p hp
          have k1 : wr.cell? ⟨b, q, none⟩ = some (.slice p.A p.xs.length p.c) := by rw [HR.out.2.cell (p := ⟨b, q, none⟩) hb]; exact k0
          have kH1 := kH.below HR.out.2
          have hkc1 := HC.out (q + 1)
          have HK := Lib.hid (HS.out _ _ hp)
          rw [HK.out, List.length_append] at hkc1
          have hlen : (cat ps q).length + p.xs.length ≤ 1000000 := by omega
          obtain ⟨A, xs, pc⟩ := p
          dsimp only at k1 kH1 hkc1 HK hlen
          have hbase : w.heap.size ≤ wr.heap.size := HR.out.2.size
          have ho := HR.out.1
          have HH := Lib.hid kH1
          clear hp k0 kH kH1
          go_wp2_with (at_builtin; refine wpList_append_hs _ rfl (.tmp 31) (.tmp 32) rfl w.heap.size _ _ _ (by simp [Act.eval, Act.put]) ho A xs.length pc xs (by simp [Act.eval, Act.put]) rfl HH.out hlen hbase ?_)
          intro v2 w2 ho2 hg2
          have O2 := Lib.hid ho2
          have B2 := Lib.hid (HR.out.2.grown hg2 hbase (fun j hj => (ho.lt j hj).1))
          clear ho2 hg2 ho
          go_wp2_with fail
          go_roundw
          case rel => exact ⟨q + 1, by go_num, by omega, Lib.hid ⟨by rw [HK.out, List.length_append]; exact O2.out, B2.out⟩⟩
          case measure => simp [intOf]; omega
        · obtain rfl : q = k := by omega
          go_wp2_with fail
          go_ret
          refine ⟨_, rfl, ?_, HR.out.2⟩
          rw [← HN.out]
          exact HR.out.1
end Go.Proofs.YtilneflfeegnfaaGreat.Hl
namespace Go.Proofs.YtilneflfeegnfaaGreat.Hl
open Go.RowKit
def dA (A : Option Addr) (c k : Nat) : Option Addr := if c = k then A else A.map (·.add (k * 8))
theorem Hs.rest {w : World} {A : Option Addr} {xs : List Hr} (h : Hs w A xs) {c : Nat} (hc : xs.length ≤ c) (k : Nat) : Hs w (dA A c k) (xs.drop k) := by
  unfold dA
  split
  · rename_i e
    rw [List.drop_eq_nil_of_le (by omega)]
    exact Hs.nil _ _
  · cases A with
    | none =>
      have : xs = [] := by
        rcases Nat.eq_zero_or_pos xs.length with h0 | h0
        · exact List.eq_nil_of_length_eq_zero h0
        · obtain ⟨x, hx⟩ := hs_some h h0
          cases hx
      subst this
      rw [List.drop_nil]
      exact Hs.nil _ _
    | some y => exact h.drop k
theorem size33' : (Tryz.prog.info? 44).map (·.size) = some 8 := by kernel_rfl
theorem run_size33 (W : World) : (Go.sizeOf 44).run Tryz.prog W = .ok 8 W := by
  obtain ⟨i, hi, hs⟩ := Option.map_eq_some_iff.1 size33'
  rw [← hs]
  simp [Go.sizeOf, typeInfo, hi]
theorem sl_h (A : Option Addr) (n c i : Nat) (hi : i ≤ c) (W : World) : (Instr.slice 29 (.slice A n c) none (some (.int .i64 (i : Int))) none).run Tryz.prog W = .ok (.slice A i c) W := by
  have h1 : (i : Int) ≤ c := by omega
  have h2 : A.map (·.add (0 * 8)) = A := by cases A <;> simp [Addr.add]
  unfold Instr.slice Instr.sliceBounds Instr.sliceBound
  simp only [Sem.run_bind, run_underlying Tryz.underlying29, Result.andThen_ok, Sem.run_pure, run_size33, asIntOf]
  try simp only [Option.isSome_none, Bool.false_eq_true, if_false, Sem.run_bind, Sem.run_pure, Result.andThen_ok]
  rw [if_pos ⟨by omega, h1⟩]
  simp only [Sem.run_bind, Sem.run_pure, Result.andThen_ok, h2, ite_self, Nat.sub_zero, Int.toNat_natCast]
theorem sl_l (A : Option Addr) (n c k : Nat) (hk : k ≤ n) (hc : n ≤ c) (W : World) : (Instr.slice 29 (.slice A n c) (some (.int .i64 (k : Int))) none none).run Tryz.prog W = .ok (.slice (dA A c k) (n - k) (c - k)) W := by
  have h1 : (k : Int) ≤ n := by omega
  unfold Instr.slice Instr.sliceBounds Instr.sliceBound
  simp only [Sem.run_bind, run_underlying Tryz.underlying29, Result.andThen_ok, Sem.run_pure, run_size33, asIntOf]
  try simp only [Option.isSome_none, Bool.false_eq_true, if_false, Sem.run_bind, Sem.run_pure, Result.andThen_ok]
  rw [if_pos ⟨by omega, h1⟩]
  simp only [Sem.run_bind, Sem.run_pure, Result.andThen_ok, Int.toNat_natCast]
  rfl
def pF (ps : List Pt) : Value → World → Prop := fun v W => ∃ b, v = .slice (some ⟨b, 0, none⟩) ps.length ps.length ∧ Pm W b ps
theorem Pm.below {w w' : World} {b : Nat} {ps : List Pt} (h : Pm w b ps) (hb : Below w.heap.size w w') : Pm w' b ps :=
  ⟨Nat.lt_of_lt_of_le h.1 hb.size, fun k p hp => ⟨by rw [hb.cell (p := ⟨b, k, none⟩) h.1]; exact (h.2 k p hp).1, (h.2 k p hp).2.below hb⟩⟩
theorem stable_pF (ps : List Pt) : Stable (pF ps) := fun _ _ _ ⟨b, hv, hP⟩ hb => ⟨b, hv, Pm.below hP hb⟩
def oF (B : Nat) (ys : List Hr) : Value → World → Prop := fun v W => W.ownsRow B 44 8 v ys.length (hcs ys)
theorem stable_oF (B : Nat) (ys : List Hr) : Stable (oF B ys) := fun _ _ _ h hb => own_keep h hb
def hF (h : Hr) : Value → World → Prop := fun v W => ∃ b, v = .slice (some ⟨b, 0, none⟩) 1 1 ∧ Hs W (some ⟨b, 0, none⟩) [h]
theorem stable_hF (h : Hr) : Stable (hF h) := fun _ _ _ ⟨b, hv, hP⟩ hb => ⟨b, hv, hP.below hb⟩
theorem pm_two (W : World) (p q : Pt) (t : TypeId) (hp : Hs W p.A p.xs) (hq : Hs W q.A q.xs) : Pm (W.alloc (.cells #[.slice p.A p.xs.length p.c, .slice q.A q.xs.length q.c] t)) W.heap.size [p, q] := by
  refine ⟨by simp, fun k r hr => ?_⟩
  match k, hr with
  | 0, hr => simp at hr; subst hr; exact ⟨by simp, hp.below ((Below.refl _ _).alloc (Nat.le_refl _) _)⟩
  | 1, hr => simp at hr; subst hr; exact ⟨by simp, hq.below ((Below.refl _ _).alloc (Nat.le_refl _) _)⟩
  | k + 2, hr => simp at hr
theorem pm_three (W : World) (p q s : Pt) (t : TypeId) (hp : Hs W p.A p.xs) (hq : Hs W q.A q.xs) (hs : Hs W s.A s.xs) : Pm (W.alloc (.cells #[.slice p.A p.xs.length p.c, .slice q.A q.xs.length q.c, .slice s.A s.xs.length s.c] t)) W.heap.size [p, q, s] := by
  refine ⟨by simp, fun k r hr => ?_⟩
  match k, hr with
  | 0, hr => simp at hr; subst hr; exact ⟨by simp, hp.below ((Below.refl _ _).alloc (Nat.le_refl _) _)⟩
  | 1, hr => simp at hr; subst hr; exact ⟨by simp, hq.below ((Below.refl _ _).alloc (Nat.le_refl _) _)⟩
  | 2, hr => simp at hr; subst hr; exact ⟨by simp, hs.below ((Below.refl _ _).alloc (Nat.le_refl _) _)⟩
  | k + 3, hr => simp at hr
theorem hs_box (W : World) (x : Hr) (hx : x.ok) : Hs (W.alloc (Hx x)) (some ⟨W.heap.size, 0, none⟩) [x] := by
  refine ⟨by simp, fun q z hq => ?_⟩
  match q, hq with
  | 0, hq =>
    simp at hq
    subst hq
    refine ⟨hx, _, rfl, fun j v hv => ?_⟩
    rw [Addr.add_mid]
    match j, hv with
    | 0, h => simp [hl] at h; subst h; simp [Hx]
    | 1, h => simp [hl] at h; subst h; simp [Hx]
    | 2, h => simp [hl] at h; subst h; simp [Hx]
    | 3, h => simp [hl] at h; subst h; simp [Hx]
    | 4, h => simp [hl] at h; subst h; simp [Hx]
    | 5, h => simp [hl] at h; subst h; simp [Hx]
    | 6, h => simp [hl] at h; subst h; simp [Hx]
    | 7, h => simp [hl] at h; subst h; simp [Hx]
    | j + 8, h => simp [hl] at h
  | q + 1, hq => simp at hq
def OutPost (w : World) (ys : List Hr) (q : Int) (e : Ending) (w' : World) : Prop :=
  ∃ A cap, e = .returned (.tuple #[.slice A ys.length cap, .int .i64 q]) ∧ ys.length ≤ cap ∧ cap ≤ maxLen ∧ Hs w' A ys ∧ Below w.heap.size w w'
theorem out_no (w w' : World) (q : Int) (hb : Below w.heap.size w w') : OutPost w [] q (.returned (.tuple #[.slice none 0 0, .int .i64 q])) w' :=
  ⟨none, 0, rfl, by simp, by unfold maxLen; omega, Hs.nil _ _, hb⟩
theorem out_yes {w w' : World} {B : Nat} {v : Value} {ys : List Hr} (h : w'.ownsRow B 44 8 v ys.length (hcs ys)) (hok : ∀ x ∈ ys, x.ok) (hn : ys.length ≤ 1000) (hb : Below w.heap.size w w') : OutPost w ys 0 (.returned (.tuple #[v, .int .i64 0])) w' := by
  obtain ⟨A, cap, rfl, hc, hm, _, hH, _⟩ := own_hs h hok (by omega)
  exact ⟨A, cap, rfl, hc, hm, hH, hb⟩
def del (xs : List Hr) (a : Int) : List Hr := xs.take (lo xs a) ++ xs.drop (lo xs a + 1)
def takeC (xs : List Hr) (a : Int) : Int := if isAt xs a = true then 0 else 7
def takeR (xs : List Hr) (a : Int) : List Hr := if isAt xs a = true then del xs a else []
def ins (xs : List Hr) (h : Hr) : List Hr := xs.take (lo xs h.a) ++ [h] ++ xs.drop (lo xs h.a)
def putC (xs : List Hr) (h : Hr) : Int := if mayB h.T = false then 12 else if isAt xs h.a = true then 6 else if 48 ≤ xs.length then 4 else 0
def putR (xs : List Hr) (h : Hr) : List Hr := if putC xs h = 0 then ins xs h else []
theorem hs_oks {w : World} {A : Option Addr} {xs : List Hr} (h : Hs w A xs) : ∀ x ∈ xs, x.ok := by
  intro x hx
  obtain ⟨q, hq, rfl⟩ := List.mem_iff_getElem.1 hx
  exact h.ok (List.getElem?_eq_getElem hq)
theorem del_sub {xs : List Hr} {a : Int} {x : Hr} (h : x ∈ del xs a) : x ∈ xs := by
  unfold del at h
  rcases List.mem_append.1 h with h | h
  · exact List.mem_of_mem_take h
  · exact List.mem_of_mem_drop h
theorem ins_sub {xs : List Hr} {h x : Hr} (hx : x ∈ ins xs h) : x = h ∨ x ∈ xs := by
  unfold ins at hx
  rcases List.mem_append.1 hx with hx | hx
  · rcases List.mem_append.1 hx with hx | hx
    · exact .inr (List.mem_of_mem_take hx)
    · exact .inl (by simpa using hx)
  · exact .inr (List.mem_of_mem_drop hx)
set_option maxRecDepth 100000 in
set_option maxHeartbeats 4000000 in
theorem take_any (a : Int) (A : Option Addr) (xs : List Hr) (cap : Nat) (w : World) (h : Hs w A xs) (hc : xs.length ≤ cap) (hx9 : xs.length ≤ 900) (ha0 : 0 ≤ a) (ha1 : a < 4294967296) :
    Calls Tryz.prog 31 #[.slice A xs.length cap, .int .u32 a] w (OutPost w (takeR xs a) (takeC xs a)) := by
  have hle := lo_le a xs
  have hln := h.1
  have R := Lib.hid h
  have HP := Lib.hid (place_any a A xs cap w h ha0 ha1)
  cases hB : isAt xs a
  · have HT := Lib.hid (show takeR xs a = [] ∧ takeC xs a = 7 by simp [takeR, takeC, hB])
    rw [hB] at HP
    rw [HT.out.1, HT.out.2]
    clear hB h HT
    generalize xs.length = L at *
    generalize lo xs a = P at *
    go_enter Tryz.func31, Tryz.ntmps31
    go_wp2_with fail
    refine HP.out.mono ?_
    rintro e w1 ⟨rfl, n1, hw1⟩
    have B1 := Lib.hid (show Below w.heap.size w w1 from hw1 ▸ bdrewN (Below.refl _ _) n1)
    clear hw1
    go_wp2_with fail
    go_ret2
    exact out_no w w1 7 B1.out
  · obtain ⟨x, hxx, hxa, hlt⟩ := isAt_some hB
    have HT := Lib.hid (show takeR xs a = del xs a ∧ takeC xs a = 0 by simp [takeR, takeC, hB])
    rw [hB] at HP
    rw [HT.out.1, HT.out.2]
    obtain ⟨y, rfl⟩ := hs_some h (by omega)
    obtain ⟨ys, hys⟩ : ∃ ys, del xs a = ys := ⟨_, rfl⟩
    obtain ⟨ps, hps⟩ : ∃ ps : List Pt, ps = [⟨some y, xs.take (lo xs a), cap⟩, ⟨dA (some y) cap (lo xs a + 1), xs.drop (lo xs a + 1), cap - (lo xs a + 1)⟩] := ⟨_, rfl⟩
    have e1 : (xs.take (lo xs a)).length = lo xs a := by rw [List.length_take]; omega
    have e2 : (xs.drop (lo xs a + 1)).length = xs.length - (lo xs a + 1) := by rw [List.length_drop]
    have hcat : cat ps ps.length = ys := by rw [← hys, hps]; simp [cat, del]
    have hyl : ys.length ≤ 1000 := by rw [← hys]; unfold del; rw [List.length_append, e1, e2]; omega
    have hok : ∀ z ∈ ys, z.ok := fun z hz => hs_oks h z (del_sub (hys ▸ hz))
    have HPM := Lib.hid (show ∀ W, Below w.heap.size w W → pF ps (.slice (some ⟨W.heap.size, 0, none⟩) 2 2) (W.alloc (.cells #[.slice (some y) (lo xs a) cap, .slice (dA (some y) cap (lo xs a + 1)) (xs.length - (lo xs a + 1)) (cap - (lo xs a + 1))] 29)) from fun W hW => by
      subst hps
      have hH := h.below hW
      have := pm_two W ⟨some y, xs.take (lo xs a), cap⟩ ⟨dA (some y) cap (lo xs a + 1), xs.drop (lo xs a + 1), cap - (lo xs a + 1)⟩ 29 (hH.take _) (hH.rest hc _)
      dsimp only at this
      rw [e1, e2] at this
      exact ⟨_, rfl, this⟩)
    have HCC := Lib.hid (show ∀ W, Below w.heap.size w W → ∀ b, Pm W b ps → Calls Tryz.prog 73 #[.slice (some ⟨b, 0, none⟩) 2 2] W fun e w' => ∃ v, e = .returned v ∧ Below W.heap.size W w' ∧ oF w.heap.size ys v w' from fun W hW b hb => by
      have := concat_any ps b 2 W hb (by rw [hcat]; exact hyl) (by rw [hps]; simp)
      rw [hcat, show ps.length = 2 by rw [hps]; rfl] at this
      refine this.mono ?_
      rintro e w' ⟨v, he, ho, hbb⟩
      exact ⟨v, he, hbb, own_base ho hW.size⟩)
    have HSH := Lib.hid (fun W => sl_h (some y) xs.length cap (lo xs a) (by omega) W)
    have HSL := Lib.hid (fun W => sl_l (some y) xs.length cap (lo xs a + 1) (by omega) hc W)
    have HPL := Lib.hid (show ps.length = 2 by rw [hps]; rfl)
    have HOK := Lib.hid hok
    have HYL := Lib.hid hyl
    rw [hys]
    have HW := Lib.hid (show IntKind.i64.wrap ((lo xs a : Int) + 1) = (lo xs a : Int) + 1 by rw [IntKind.wrap_i64]; omega)
    clear hps hcat hys hok hyl e1 e2 h hxx hxa HT hB
    generalize xs.length = L at *
    generalize lo xs a = P at *
    go_enter Tryz.func31, Tryz.ntmps31
    go_wp2_with fail
    refine HP.out.mono ?_
    rintro e w1 ⟨rfl, n1, hw1⟩
    have HB1 := Lib.hid (show Below w.heap.size w w1 from hw1 ▸ bdrewN (Below.refl _ _) n1)
    clear hw1
    go_wp2_with fail
    refine wp_region_below [fx (.slice (some y) L cap), fx (.int .i64 (P : Int)), fx (.slice (some y) P cap), fx (.slice (some y) L cap), fx (.int .i64 (P : Int)), fx (.int .i64 ((P + 1 : Nat) : Int)), fx (.slice (dA (some y) cap (P + 1)) (L - (P + 1)) (cap - (P + 1))), pF ps, oF w.heap.size ys, oF w.heap.size ys, fx (.int .i64 0)]
      (by kernel_rfl) (by kernel_rfl) (by kernel_rfl) ?_ ?_ ?_
    · simp only [List.mem_cons, List.not_mem_nil, or_false]
      rintro φ (rfl | rfl | rfl | rfl | rfl | rfl | rfl | rfl | rfl | rfl | rfl)
      all_goals first | exact stable_fx _ | exact stable_fr _ _ | exact stable_pF _ | exact stable_oF _ _
    · refine OgSteps.cons ?_ (OgSteps.cons ?_ (OgSteps.cons ?_ (OgSteps.cons ?_ (OgSteps.cons ?_ (OgSteps.cons ?_ (OgSteps.cons ?_ (OgSteps.cons ?_ (OgSteps.cons ?_ (OgSteps.cons ?_ (OgSteps.cons ?_ (OgSteps.nil)))))))))))
      · refine OgStep.pure ?_ ?_
        · rfl
        intro u W hS hp
        refine ⟨.slice (some y) L cap, ?_, rfl⟩
        simp only [ogMk, Act.put, List.setIfInBounds_toArray, List.set_cons_zero, List.set_cons_succ, Nat.zero_add, Nat.reduceAdd]
        simp [execOp, Act.eval, go_sem]
      · refine OgStep.pure ?_ ?_
        · rfl
        intro u W hS hp
        refine ⟨.int .i64 (P : Int), ?_, rfl⟩
        simp only [ogMk, Act.put, List.setIfInBounds_toArray, List.set_cons_zero, List.set_cons_succ, Nat.zero_add, Nat.reduceAdd]
        simp [execOp, Act.eval, go_sem]
      · refine OgStep.pure ?_ ?_
        · rfl
        intro u W hS hp
        have h0 : u 0 = .slice (some y) L cap := hp ⟨0, .data⟩ (by simp) rfl
        have h1 : u 1 = .int .i64 (P : Int) := hp ⟨1, .data⟩ (by simp) rfl
        have R := HSH.out W
        refine ⟨.slice (some y) P cap, ?_, rfl⟩
        simp only [ogMk, Act.put, List.setIfInBounds_toArray, List.set_cons_zero, List.set_cons_succ, Nat.zero_add, Nat.reduceAdd]
        simp [execOp, Act.eval, go_sem, h0, h1, R]
      · refine OgStep.pure ?_ ?_
        · rfl
        intro u W hS hp
        refine ⟨.slice (some y) L cap, ?_, rfl⟩
        simp only [ogMk, Act.put, List.setIfInBounds_toArray, List.set_cons_zero, List.set_cons_succ, Nat.zero_add, Nat.reduceAdd]
        simp [execOp, Act.eval, go_sem]
      · refine OgStep.pure ?_ ?_
        · rfl
        intro u W hS hp
        refine ⟨.int .i64 (P : Int), ?_, rfl⟩
        simp only [ogMk, Act.put, List.setIfInBounds_toArray, List.set_cons_zero, List.set_cons_succ, Nat.zero_add, Nat.reduceAdd]
        simp [execOp, Act.eval, go_sem]
      · refine OgStep.pure ?_ ?_
        · rfl
        intro u W hS hp
        have h4 : u 4 = .int .i64 (P : Int) := hp ⟨4, .data⟩ (by simp) rfl
        have R := HW.out
        refine ⟨.int .i64 ((P + 1 : Nat) : Int), ?_, rfl⟩
        simp only [ogMk, Act.put, List.setIfInBounds_toArray, List.set_cons_zero, List.set_cons_succ, Nat.zero_add, Nat.reduceAdd]
        simp [execOp, Act.eval, go_sem, h4, R]
      · refine OgStep.pure ?_ ?_
        · rfl
        intro u W hS hp
        have h3 : u 3 = .slice (some y) L cap := hp ⟨3, .data⟩ (by simp) rfl
        have h5 : u 5 = .int .i64 ((P + 1 : Nat) : Int) := hp ⟨5, .data⟩ (by simp) rfl
        have R := HSL.out W
        rw [Int.natCast_add, Int.natCast_one] at R
        refine ⟨.slice (dA (some y) cap (P + 1)) (L - (P + 1)) (cap - (P + 1)), ?_, rfl⟩
        simp only [ogMk, Act.put, List.setIfInBounds_toArray, List.set_cons_zero, List.set_cons_succ, Nat.zero_add, Nat.reduceAdd]
        simp [execOp, Act.eval, go_sem, h3, h5, R]
      · refine OgStep.made ?_ ?_
        · rfl
        intro u W hS hp
        have h2 : u 2 = .slice (some y) P cap := hp ⟨2, .data⟩ (by simp) rfl
        have h6 : u 6 = .slice (dA (some y) cap (P + 1)) (L - (P + 1)) (cap - (P + 1)) := hp ⟨6, .data⟩ (by simp) rfl
        refine ⟨.slice (some ⟨W.heap.size, 0, none⟩) 2 2, _, ?_, (Below.refl _ W).alloc (Nat.le_refl _) _, HPM.out W (HB1.out.trans (hS.mono HB1.out.size))⟩
        simp only [ogMk, Act.put, List.setIfInBounds_toArray, List.set_cons_zero, List.set_cons_succ, Nat.zero_add, Nat.reduceAdd]
        simp [execOp, Act.eval, go_sem, h2, h6]
      · refine OgStep.calls ?_ ?_
        · rfl
        intro u W hS hp
        obtain ⟨b, h7, hPm⟩ : pF ps (u 7) W := hp ⟨7, .data⟩ (by simp) rfl
        refine ⟨73, #[.slice (some ⟨b, 0, none⟩) 2 2], ?_, HCC.out W (HB1.out.trans (hS.mono HB1.out.size)) b hPm⟩
        simp only [ogMk, Act.put, List.setIfInBounds_toArray, List.set_cons_zero, List.set_cons_succ, Nat.zero_add, Nat.reduceAdd]
        rw [h7, HPL.out]
        simp [execOp, Act.eval, go_sem]
      · refine OgStep.pure ?_ ?_
        · rfl
        intro u W hS hp
        have h8 : oF w.heap.size ys (u 8) W := hp ⟨8, .data⟩ (by simp) rfl
        refine ⟨u 8, ?_, h8⟩
        simp only [ogMk, Act.put, List.setIfInBounds_toArray, List.set_cons_zero, List.set_cons_succ, Nat.zero_add, Nat.reduceAdd]
        simp [execOp, Act.eval, go_sem]
      · refine OgStep.pure ?_ ?_
        · rfl
        intro u W hS hp
        refine ⟨.int .i64 0, ?_, rfl⟩
        simp only [ogMk, Act.put, List.setIfInBounds_toArray, List.set_cons_zero, List.set_cons_succ, Nat.zero_add, Nat.reduceAdd]
        simp [execOp, Act.eval, go_sem]
    · intro u W hS hF'
      have hF9 : oF w.heap.size ys (u 9) W := hF' 9 (by decide)
      have hF := hF'
      have e0 : u 0 = .slice (some y) L cap := hF 0 (by decide)
      have e1 : u 1 = .int .i64 (P : Int) := hF 1 (by decide)
      have e2 : u 2 = .slice (some y) P cap := hF 2 (by decide)
      have e3 : u 3 = .slice (some y) L cap := hF 3 (by decide)
      have e4 : u 4 = .int .i64 (P : Int) := hF 4 (by decide)
      have e5 : u 5 = .int .i64 ((P + 1 : Nat) : Int) := hF 5 (by decide)
      have e6 : u 6 = .slice (dA (some y) cap (P + 1)) (L - (P + 1)) (cap - (P + 1)) := hF 6 (by decide)
      have e10 : u 10 = .int .i64 0 := hF 10 (by decide)
      simp only [ogMk, Act.put, List.setIfInBounds_toArray, List.set_cons_zero, List.set_cons_succ, Nat.zero_add, Nat.reduceAdd]
      rw [e0, e1, e2, e3, e4, e5, e6, e10]
      clear hF' e0 e1 e2 e3 e4 e5 e6 e10 hF
      go_wp2_with fail
      go_ret2
      exact out_yes (hF9 : W.ownsRow w.heap.size 44 8 (u 9) ys.length (hcs ys)) HOK.out HYL.out (HB1.out.trans (hS.mono HB1.out.size))
def pG (ps : Nat → List Pt) : Value → World → Prop := fun v W => ∃ g, pF (ps g) v W
theorem stable_pG (ps : Nat → List Pt) : Stable (pG ps) := fun _ _ _ ⟨g, h⟩ hb => ⟨g, stable_pF _ _ _ _ h hb⟩
theorem hs_c8 {W : World} {b : Nat} {x : Hr} (h : Hs W (some ⟨b, 0, none⟩) [x]) : W.cell? ⟨b, 0, none⟩ = some (.int .u32 x.a) ∧ W.cell? ⟨b, 1, none⟩ = some (.string x.T) ∧ W.cell? ⟨b, 2, none⟩ = some (.int .u8 x.m0) ∧ W.cell? ⟨b, 3, none⟩ = some (.int .u8 x.m1) ∧ W.cell? ⟨b, 4, none⟩ = some (.int .u8 x.m2) ∧ W.cell? ⟨b, 5, none⟩ = some (.int .u8 x.m3) ∧ W.cell? ⟨b, 6, none⟩ = some (.int .u8 x.m4) ∧ W.cell? ⟨b, 7, none⟩ = some (.int .u8 x.m5) := by
  have H : ∀ j v, (hl x)[j]? = some v → W.cell? ⟨b, j, none⟩ = some v := fun j v hv => by
    have := h.at (q := 0) (x := x) rfl j v hv
    rw [show ((⟨b, 0, none⟩ : Addr).add (0 * 8)).add j = ⟨b, j, none⟩ by rw [show (0 * 8 : Nat) = 0 from rfl, show (⟨b, 0, none⟩ : Addr).add 0 = ⟨b, 0, none⟩ from rfl, Addr.add_mid, Nat.zero_add]] at this
    exact this
  exact ⟨H 0 _ rfl, H 1 _ rfl, H 2 _ rfl, H 3 _ rfl, H 4 _ rfl, H 5 _ rfl, H 6 _ rfl, H 7 _ rfl⟩
set_option maxRecDepth 100000 in
set_option maxHeartbeats 4000000 in
theorem put_any (hh : Hr) (A : Option Addr) (xs : List Hr) (cap : Nat) (w : World) (hho : hh.ok) (h : Hs w A xs) (hc : xs.length ≤ cap) (hx9 : xs.length ≤ 900) :
    Calls Tryz.prog 30 #[.slice A xs.length cap, hv hh] w (OutPost w (putR xs hh) (putC xs hh)) := by
  have ha0 := hho.1
  have ha1 := hho.2.1
  have hle := lo_le hh.a xs
  have hln := h.1
  have R := Lib.hid h
  have HHO := Lib.hid hho
  have HP := Lib.hid (place_any hh.a A xs cap (w.alloc (Hx hh)) (h.below ((Below.refl _ w).alloc (Nat.le_refl _) _)) ha0 ha1)
  have HM := Lib.hid (may_any hh.T (w.alloc (Hx hh)) hho.2.2)
  have HBX0 := Lib.hid (hs_box w hh hho)
  have HBB0 := Lib.hid (show Below w.heap.size w (w.alloc (Hx hh)) from (Below.refl _ w).alloc (Nat.le_refl _) _)
  cases hY : mayB hh.T
  · have HT := Lib.hid (show putR xs hh = [] ∧ putC xs hh = 12 by simp [putR, putC, hY])
    rw [hY] at HM
    rw [HT.out.1, HT.out.2]
    clear hY h HT HP
    generalize xs.length = L at *
    obtain ⟨ha, hT, x0, x1, x2, x3, x4, x5⟩ := hh
    simp only [hv, Hx] at HM HBB0 ⊢
    go_enter Tryz.func30, Tryz.ntmps30
    go_wp2_with fail
    refine HM.out.mono ?_
    rintro e w1 ⟨rfl, rfl⟩
    go_wp2_with fail
    go_ret2
    exact out_no w _ 12 HBB0.out
  · rw [hY] at HM
    cases hB : isAt xs hh.a
    · rw [hB] at HP
      by_cases h48 : 48 ≤ xs.length
      · have HT := Lib.hid (show putR xs hh = [] ∧ putC xs hh = 4 by simp [putR, putC, hY, hB, h48])
        rw [HT.out.1, HT.out.2]
        clear hY hB h HT
        generalize xs.length = L at *
        generalize lo xs hh.a = P at *
        obtain ⟨ha, hT, x0, x1, x2, x3, x4, x5⟩ := hh
        simp only [hv, Hx] at HM HBB0 HP ⊢
        have h48' : (48 : Int) ≤ L := by omega
        go_enter Tryz.func30, Tryz.ntmps30
        go_wp2_with fail
        refine HM.out.mono ?_
        rintro e w1 ⟨rfl, rfl⟩
        go_wp2_with fail
        refine HP.out.mono ?_
        rintro e w1 ⟨rfl, n1, rfl⟩
        have HB1 := Lib.hid (bdrewN HBB0.out n1)
        go_wp2_with fail
        go_ret2
        exact out_no w _ 4 HB1.out
      · have HT := Lib.hid (show putR xs hh = ins xs hh ∧ putC xs hh = 0 by
          have e : putC xs hh = 0 := by simp [putC, hY, hB]; omega
          exact ⟨by simp [putR, e], e⟩)
        rw [HT.out.1, HT.out.2]
        obtain ⟨ys, hys⟩ : ∃ ys, ins xs hh = ys := ⟨_, rfl⟩
        obtain ⟨ps, hps⟩ : ∃ ps : Nat → List Pt, ps = fun g => [⟨A, xs.take (lo xs hh.a), cap⟩, ⟨some ⟨g, 0, none⟩, [hh], 1⟩, ⟨dA A cap (lo xs hh.a), xs.drop (lo xs hh.a), cap - lo xs hh.a⟩] := ⟨_, rfl⟩
        have e1 : (xs.take (lo xs hh.a)).length = lo xs hh.a := by rw [List.length_take]; omega
        have e2 : (xs.drop (lo xs hh.a)).length = xs.length - lo xs hh.a := by rw [List.length_drop]
        have hcat : ∀ g, cat (ps g) (ps g).length = ys := fun g => by rw [← hys, hps]; simp [cat, ins]
        have hyl : ys.length ≤ 1000 := by rw [← hys]; unfold ins; rw [List.length_append, List.length_append, e1, e2, List.length_singleton]; omega
        have hok : ∀ z ∈ ys, z.ok := fun z hz => by
          rcases ins_sub (hys ▸ hz : z ∈ ins xs hh) with rfl | hz
          · exact hho
          · exact hs_oks h z hz
        have HPM := Lib.hid (show ∀ W, Below w.heap.size w W → ∀ g, Hs W (some ⟨g, 0, none⟩) [hh] → pG ps (.slice (some ⟨W.heap.size, 0, none⟩) 3 3) (W.alloc (.cells #[.slice A (lo xs hh.a) cap, .slice (some ⟨g, 0, none⟩) 1 1, .slice (dA A cap (lo xs hh.a)) (xs.length - lo xs hh.a) (cap - lo xs hh.a)] 29)) from fun W hW g hg => by
          subst hps
          have hH := h.below hW
          have := pm_three W ⟨A, xs.take (lo xs hh.a), cap⟩ ⟨some ⟨g, 0, none⟩, [hh], 1⟩ ⟨dA A cap (lo xs hh.a), xs.drop (lo xs hh.a), cap - lo xs hh.a⟩ 29 (hH.take _) hg (hH.rest hc _)
          dsimp only at this
          rw [e1, e2] at this
          exact ⟨g, _, rfl, this⟩)
        have HCC := Lib.hid (show ∀ W, Below w.heap.size w W → ∀ g b, Pm W b (ps g) → Calls Tryz.prog 73 #[.slice (some ⟨b, 0, none⟩) 3 3] W fun e w' => ∃ v, e = .returned v ∧ Below W.heap.size W w' ∧ oF w.heap.size ys v w' from fun W hW g b hb => by
          have := concat_any (ps g) b 3 W hb (by rw [hcat]; exact hyl) (by rw [hps]; simp)
          rw [hcat, show (ps g).length = 3 by rw [hps]; rfl] at this
          refine this.mono ?_
          rintro e w' ⟨v, he, ho, hbb⟩
          exact ⟨v, he, hbb, own_base ho hW.size⟩)
        have HSH := Lib.hid (fun W => sl_h A xs.length cap (lo xs hh.a) (by omega) W)
        have HSL := Lib.hid (fun W => sl_l A xs.length cap (lo xs hh.a) hle hc W)
        have HPL := Lib.hid (show ∀ g, (ps g).length = 3 by intro g; rw [hps]; rfl)
        have HOK := Lib.hid hok
        have HYL := Lib.hid hyl
        rw [hys]
        clear hps hcat hys hok hyl e1 e2 h HT hB hY
        generalize xs.length = L at *
        generalize lo xs hh.a = P at *
        obtain ⟨ha, hT, x0, x1, x2, x3, x4, x5⟩ := hh
        simp only [hv, Hx] at HM HBB0 HP HBX0 ⊢
        have h48' : ¬ (48 : Int) ≤ L := by omega
        go_enter Tryz.func30, Tryz.ntmps30
        go_wp2_with fail
        refine HM.out.mono ?_
        rintro e w1 ⟨rfl, rfl⟩
        go_wp2_with fail
        refine HP.out.mono ?_
        rintro e w1 ⟨rfl, n1, hw1⟩
        have HB1 := Lib.hid (show Below w.heap.size w w1 from hw1 ▸ bdrewN HBB0.out n1)
        have HBX := Lib.hid (show Hs w1 (some ⟨w.heap.size, 0, none⟩) [⟨ha, hT, x0, x1, x2, x3, x4, x5⟩] from hw1 ▸ HBX0.out.drewN n1)
        clear hw1 HBX0 HM HP
        go_wp2_with fail
        refine wp_region_below [fx (.slice A L cap), fx (.int .i64 (P : Int)), fx (.slice A P cap), fx (.agg #[.int .u32 ha, .string hT, .int .u8 x0, .int .u8 x1, .int .u8 x2, .int .u8 x3, .int .u8 x4, .int .u8 x5]), hF ⟨ha, hT, x0, x1, x2, x3, x4, x5⟩, fx (.slice A L cap), fx (.int .i64 (P : Int)), fx (.slice (dA A cap P) (L - P) (cap - P)), pG ps, oF w.heap.size ys, oF w.heap.size ys, fx (.int .i64 0)]
          (by kernel_rfl) (by kernel_rfl) (by kernel_rfl) ?_ ?_ ?_
        · simp only [List.mem_cons, List.not_mem_nil, or_false]
          rintro φ (rfl | rfl | rfl | rfl | rfl | rfl | rfl | rfl | rfl | rfl | rfl | rfl)
          all_goals first | exact stable_fx _ | exact stable_fr _ _ | exact stable_pG _ | exact stable_oF _ _ | exact stable_hF _
        · refine OgSteps.cons ?_ (OgSteps.cons ?_ (OgSteps.cons ?_ (OgSteps.cons ?_ (OgSteps.cons ?_ (OgSteps.cons ?_ (OgSteps.cons ?_ (OgSteps.cons ?_ (OgSteps.cons ?_ (OgSteps.cons ?_ (OgSteps.cons ?_ (OgSteps.cons ?_ (OgSteps.nil))))))))))))
          · refine OgStep.pure ?_ ?_
            · rfl
            intro u W hS hp
            refine ⟨.slice A L cap, ?_, rfl⟩
            simp only [ogMk, Act.put, List.setIfInBounds_toArray, List.set_cons_zero, List.set_cons_succ, Nat.zero_add, Nat.reduceAdd]
            simp [execOp, Act.eval, go_sem]
          · refine OgStep.pure ?_ ?_
            · rfl
            intro u W hS hp
            refine ⟨.int .i64 (P : Int), ?_, rfl⟩
            simp only [ogMk, Act.put, List.setIfInBounds_toArray, List.set_cons_zero, List.set_cons_succ, Nat.zero_add, Nat.reduceAdd]
            simp [execOp, Act.eval, go_sem]
          · refine OgStep.pure ?_ ?_
            · rfl
            intro u W hS hp
            have h0 : u 0 = .slice A L cap := hp ⟨0, .data⟩ (by simp) rfl
            have h1 : u 1 = .int .i64 (P : Int) := hp ⟨1, .data⟩ (by simp) rfl
            have R := HSH.out W
            refine ⟨.slice A P cap, ?_, rfl⟩
            simp only [ogMk, Act.put, List.setIfInBounds_toArray, List.set_cons_zero, List.set_cons_succ, Nat.zero_add, Nat.reduceAdd]
            simp [execOp, Act.eval, go_sem, h0, h1, R]
          · refine OgStep.pure ?_ ?_
            · rfl
            intro u W hS hp
            obtain ⟨R0, R1, R2, R3, R4, R5, R6, R7⟩ := hs_c8 (HBX.out.below hS)
            refine ⟨.agg #[.int .u32 ha, .string hT, .int .u8 x0, .int .u8 x1, .int .u8 x2, .int .u8 x3, .int .u8 x4, .int .u8 x5], ?_, rfl⟩
            simp only [ogMk, Act.put, List.setIfInBounds_toArray, List.set_cons_zero, List.set_cons_succ, Nat.zero_add, Nat.reduceAdd]
            simp [execOp, Act.eval, go_sem, R0, R1, R2, R3, R4, R5, R6, R7]
          · refine OgStep.made ?_ ?_
            · rfl
            intro u W hS hp
            have h3 : u 3 = .agg #[.int .u32 ha, .string hT, .int .u8 x0, .int .u8 x1, .int .u8 x2, .int .u8 x3, .int .u8 x4, .int .u8 x5] := hp ⟨3, .data⟩ (by simp) rfl
            refine ⟨.slice (some ⟨W.heap.size, 0, none⟩) 1 1, _, ?_, (Below.refl _ W).alloc (Nat.le_refl _) _, ⟨_, rfl, hs_box W ⟨ha, hT, x0, x1, x2, x3, x4, x5⟩ HHO.out⟩⟩
            simp only [ogMk, Act.put, List.setIfInBounds_toArray, List.set_cons_zero, List.set_cons_succ, Nat.zero_add, Nat.reduceAdd]
            simp [execOp, Act.eval, go_sem, h3, Hx]
          · refine OgStep.pure ?_ ?_
            · rfl
            intro u W hS hp
            refine ⟨.slice A L cap, ?_, rfl⟩
            simp only [ogMk, Act.put, List.setIfInBounds_toArray, List.set_cons_zero, List.set_cons_succ, Nat.zero_add, Nat.reduceAdd]
            simp [execOp, Act.eval, go_sem]
          · refine OgStep.pure ?_ ?_
            · rfl
            intro u W hS hp
            refine ⟨.int .i64 (P : Int), ?_, rfl⟩
            simp only [ogMk, Act.put, List.setIfInBounds_toArray, List.set_cons_zero, List.set_cons_succ, Nat.zero_add, Nat.reduceAdd]
            simp [execOp, Act.eval, go_sem]
          · refine OgStep.pure ?_ ?_
            · rfl
            intro u W hS hp
            have h5 : u 5 = .slice A L cap := hp ⟨5, .data⟩ (by simp) rfl
            have h6 : u 6 = .int .i64 (P : Int) := hp ⟨6, .data⟩ (by simp) rfl
            have R := HSL.out W
            refine ⟨.slice (dA A cap P) (L - P) (cap - P), ?_, rfl⟩
            simp only [ogMk, Act.put, List.setIfInBounds_toArray, List.set_cons_zero, List.set_cons_succ, Nat.zero_add, Nat.reduceAdd]
            simp [execOp, Act.eval, go_sem, h5, h6, R]
          · refine OgStep.made ?_ ?_
            · rfl
            intro u W hS hp
            obtain ⟨b4, h4, hH4⟩ : hF ⟨ha, hT, x0, x1, x2, x3, x4, x5⟩ (u 4) W := hp ⟨4, .data⟩ (by simp) rfl
            have h2 : u 2 = .slice A P cap := hp ⟨2, .data⟩ (by simp) rfl
            have h7 : u 7 = .slice (dA A cap P) (L - P) (cap - P) := hp ⟨7, .data⟩ (by simp) rfl
            refine ⟨.slice (some ⟨W.heap.size, 0, none⟩) 3 3, _, ?_, (Below.refl _ W).alloc (Nat.le_refl _) _, HPM.out W (HB1.out.trans (hS.mono HB1.out.size)) b4 hH4⟩
            simp only [ogMk, Act.put, List.setIfInBounds_toArray, List.set_cons_zero, List.set_cons_succ, Nat.zero_add, Nat.reduceAdd]
            rw [h2, h4, h7]
            simp [execOp, Act.eval, go_sem]
          · refine OgStep.calls ?_ ?_
            · rfl
            intro u W hS hp
            obtain ⟨b4, b, h8, hPm⟩ : pG ps (u 8) W := hp ⟨8, .data⟩ (by simp) rfl
            refine ⟨73, #[.slice (some ⟨b, 0, none⟩) 3 3], ?_, HCC.out W (HB1.out.trans (hS.mono HB1.out.size)) b4 b hPm⟩
            simp only [ogMk, Act.put, List.setIfInBounds_toArray, List.set_cons_zero, List.set_cons_succ, Nat.zero_add, Nat.reduceAdd]
            rw [h8, HPL.out b4]
            simp [execOp, Act.eval, go_sem]
          · refine OgStep.pure ?_ ?_
            · rfl
            intro u W hS hp
            have h9 : oF w.heap.size ys (u 9) W := hp ⟨9, .data⟩ (by simp) rfl
            refine ⟨u 9, ?_, h9⟩
            simp only [ogMk, Act.put, List.setIfInBounds_toArray, List.set_cons_zero, List.set_cons_succ, Nat.zero_add, Nat.reduceAdd]
            simp [execOp, Act.eval, go_sem]
          · refine OgStep.pure ?_ ?_
            · rfl
            intro u W hS hp
            refine ⟨.int .i64 0, ?_, rfl⟩
            simp only [ogMk, Act.put, List.setIfInBounds_toArray, List.set_cons_zero, List.set_cons_succ, Nat.zero_add, Nat.reduceAdd]
            simp [execOp, Act.eval, go_sem]
        · intro u W hS hF'
          have hF10 : oF w.heap.size ys (u 10) W := hF' 10 (by decide)
          have hF := hF'
          have e0 : u 0 = .slice A L cap := hF 0 (by decide)
          have e1 : u 1 = .int .i64 (P : Int) := hF 1 (by decide)
          have e2 : u 2 = .slice A P cap := hF 2 (by decide)
          have e3 : u 3 = .agg #[.int .u32 ha, .string hT, .int .u8 x0, .int .u8 x1, .int .u8 x2, .int .u8 x3, .int .u8 x4, .int .u8 x5] := hF 3 (by decide)
          have e5 : u 5 = .slice A L cap := hF 5 (by decide)
          have e6 : u 6 = .int .i64 (P : Int) := hF 6 (by decide)
          have e7 : u 7 = .slice (dA A cap P) (L - P) (cap - P) := hF 7 (by decide)
          have e11 : u 11 = .int .i64 0 := hF 11 (by decide)
          simp only [ogMk, Act.put, List.setIfInBounds_toArray, List.set_cons_zero, List.set_cons_succ, Nat.zero_add, Nat.reduceAdd]
          rw [e0, e1, e2, e3, e5, e6, e7, e11]
          clear hF' e0 e1 e2 e3 e5 e6 e7 e11 hF
          go_wp2_with fail
          go_ret2
          exact out_yes (hF10 : W.ownsRow w.heap.size 44 8 (u 10) ys.length (hcs ys)) HOK.out HYL.out (HB1.out.trans (hS.mono HB1.out.size))
    · rw [hB] at HP
      have HT := Lib.hid (show putR xs hh = [] ∧ putC xs hh = 6 by simp [putR, putC, hY, hB])
      rw [HT.out.1, HT.out.2]
      clear hY hB h HT
      generalize xs.length = L at *
      generalize lo xs hh.a = P at *
      obtain ⟨ha, hT, x0, x1, x2, x3, x4, x5⟩ := hh
      simp only [hv, Hx] at HM HBB0 HP ⊢
      go_enter Tryz.func30, Tryz.ntmps30
      go_wp2_with fail
      refine HM.out.mono ?_
      rintro e w1 ⟨rfl, rfl⟩
      go_wp2_with fail
      refine HP.out.mono ?_
      rintro e w1 ⟨rfl, n1, rfl⟩
      have HB1 := Lib.hid (bdrewN HBB0.out n1)
      go_wp2_with fail
      go_ret2
      exact out_no w _ 6 HB1.out
end Go.Proofs.YtilneflfeegnfaaGreat.Hl
namespace Go.Proofs.YtilneflfeegnfaaGreat.Hl
open Go.RowKit
def rOk (xs : List Hr) (i : Nat) : Bool := match xs[i]? with
  | some x => mayB x.T && (i == 0 || (match xs[i - 1]? with
    | some y => decide (y.a < x.a)
    | none => false))
  | none => true
def rPre (xs : List Hr) (k : Nat) : Bool := (List.range k).all (rOk xs)
def rightB (xs : List Hr) : Bool := decide (xs.length ≤ 48) && rPre xs xs.length
end Go.Proofs.YtilneflfeegnfaaGreat.Hl
namespace Go.Proofs.YtilneflfeegnfaaGreat.Hl
theorem ins_length (ys : List Hr) (h : Hr) : (ins ys h).length = ys.length + 1 := by
  unfold ins
  have := lo_le h.a ys
  rw [List.length_append, List.length_append, List.length_take, List.length_drop, List.length_singleton]
  omega
theorem put_zero {ys : List Hr} {h : Hr} (e : putC ys h = 0) : ys.length < 48 ∧ isAt ys h.a = false ∧ mayB h.T = true ∧ putR ys h = ins ys h := by
  have hr : putR ys h = ins ys h := by simp [putR, e]
  unfold putC at e
  split at e
  · cases e
  · rename_i h1
    split at e
    · cases e
    · rename_i h2
      split at e
      · cases e
      · rename_i h3
        exact ⟨by omega, by simpa using h2, by simpa using h1, hr⟩
open Go.RowKit
def Srt (ys : List Hr) : Prop := ys.Pairwise (fun x y => x.a < y.a)
theorem Srt.nil : Srt [] := List.Pairwise.nil
theorem Srt.lt {ys : List Hr} (h : Srt ys) {i j : Nat} {x y : Hr} (hij : i < j) (hx : ys[i]? = some x) (hy : ys[j]? = some y) : x.a < y.a := by
  obtain ⟨h1, rfl⟩ := List.getElem?_eq_some_iff.1 hx
  obtain ⟨h2, rfl⟩ := List.getElem?_eq_some_iff.1 hy
  exact List.pairwise_iff_getElem.1 h i j h1 h2 hij
theorem Srt.at {ys : List Hr} (h : Srt ys) {x : Hr} (hx : x ∈ ys) : ys[lo ys x.a]? = some x := by
  obtain ⟨q, hq, rfl⟩ := List.mem_iff_getElem.1 hx
  have hx' := List.getElem?_eq_getElem hq
  have hge : ¬ q < lo ys ys[q].a := fun hlt => by
    have := lo_lt _ ys q _ hlt hx'
    omega
  have hle := lo_le ys[q].a ys
  rcases Nat.lt_or_ge (lo ys ys[q].a) q with hlt | hge2
  · exfalso
    have hlL : lo ys ys[q].a < ys.length := by omega
    obtain ⟨z, hz⟩ : ∃ z, ys[lo ys ys[q].a]? = some z := ⟨ys[lo ys ys[q].a], List.getElem?_eq_getElem hlL⟩
    have h1 := h.lt hlt hz hx'
    exact lo_ge _ ys z hz h1
  · have : lo ys ys[q].a = q := by omega
    rw [this]
    exact hx'
theorem Srt.mem {ys : List Hr} (h : Srt ys) {x : Hr} (hx : x ∈ ys) : isAt ys x.a = true ∧ gt ys x.a = x := by
  have e := h.at hx
  have hi : isAt ys x.a = true := by unfold isAt; rw [e]; simp
  exact ⟨hi, by unfold gt; rw [if_pos hi, e]; rfl⟩
theorem isAt_mem {ys : List Hr} {a : Int} (h : isAt ys a = true) : gt ys a ∈ ys ∧ (gt ys a).a = a := by
  obtain ⟨x, hx, hxa, _⟩ := isAt_some h
  have : gt ys a = x := by unfold gt; rw [if_pos h, hx]; rfl
  rw [this]
  exact ⟨List.mem_of_getElem? hx, hxa⟩
theorem Srt.not {ys : List Hr} (h : Srt ys) {a : Int} (hi : isAt ys a = false) : ∀ x ∈ ys, x.a ≠ a := by
  rintro x hx rfl
  rw [(h.mem hx).1] at hi
  cases hi
theorem take_lo {ys : List Hr} (a : Int) : ∀ x ∈ ys.take (lo ys a), x.a < a := by
  intro x hx
  obtain ⟨q, hq, rfl⟩ := List.mem_iff_getElem.1 hx
  rw [List.length_take] at hq
  rw [List.getElem_take]
  exact lo_lt a ys q _ (by omega) (List.getElem?_eq_getElem (by omega))
theorem Srt.drop_lo {ys : List Hr} (h : Srt ys) (a : Int) : ∀ x ∈ ys.drop (lo ys a), a ≤ x.a := by
  intro x hx
  obtain ⟨q, hq, rfl⟩ := List.mem_iff_getElem.1 hx
  rw [List.length_drop] at hq
  rw [List.getElem_drop]
  obtain ⟨z, hz⟩ : ∃ z, ys[lo ys a]? = some z := ⟨_, List.getElem?_eq_getElem (by omega)⟩
  have hz2 := lo_ge a ys z hz
  rcases Nat.eq_zero_or_pos q with rfl | hp
  · have := (List.getElem?_eq_some_iff.1 hz).2
    simp only [Nat.add_zero]
    rw [this]; omega
  · have := h.lt (show lo ys a < lo ys a + q by omega) hz (List.getElem?_eq_getElem (by omega))
    omega
theorem Srt.ins {ys : List Hr} {g : Hr} (h : Srt ys) (hi : isAt ys g.a = false) : Srt (ins ys g) := by
  unfold YtilneflfeegnfaaGreat.Hl.ins Srt
  rw [List.append_assoc, List.pairwise_append]
  refine ⟨h.sublist (List.take_sublist _ _), ?_, ?_⟩
  · rw [List.singleton_append, List.pairwise_cons]
    refine ⟨fun x hx => ?_, h.sublist (List.drop_sublist _ _)⟩
    have h1 := h.drop_lo g.a x hx
    have h2 := h.not hi x (List.mem_of_mem_drop hx)
    omega
  · intro x hx y hy
    have h1 := take_lo g.a x hx
    rcases List.mem_append.1 hy with hy | hy
    · have : y = g := by simpa using hy
      rw [this]; exact h1
    · have := h.drop_lo g.a y hy
      omega
theorem Srt.del {ys : List Hr} (h : Srt ys) (a : Int) : Srt (del ys a) := by
  unfold YtilneflfeegnfaaGreat.Hl.del
  refine List.Pairwise.sublist ?_ h
  conv => rhs; rw [← List.take_append_drop (lo ys a) ys]
  refine List.Sublist.append (List.Sublist.refl _) ?_
  rw [← List.drop_drop]
  exact List.drop_sublist _ _
theorem mem_ins {ys : List Hr} {g x : Hr} : x ∈ ins ys g ↔ x = g ∨ x ∈ ys := by
  refine ⟨ins_sub, ?_⟩
  unfold YtilneflfeegnfaaGreat.Hl.ins
  rintro (rfl | hx)
  · simp
  · have : x ∈ ys.take (lo ys g.a) ++ ys.drop (lo ys g.a) := by rw [List.take_append_drop]; exact hx
    rcases List.mem_append.1 this with h | h
    · exact List.mem_append_left _ (List.mem_append_left _ h)
    · exact List.mem_append_right _ h
theorem Srt.mem_del {ys : List Hr} (h : Srt ys) {a : Int} (hi : isAt ys a = true) {x : Hr} : x ∈ YtilneflfeegnfaaGreat.Hl.del ys a ↔ x ∈ ys ∧ x.a ≠ a := by
  obtain ⟨z, hz, hza, hlt⟩ := isAt_some hi
  constructor
  · intro hx
    refine ⟨del_sub hx, ?_⟩
    unfold YtilneflfeegnfaaGreat.Hl.del at hx
    rcases List.mem_append.1 hx with hx | hx
    · have := take_lo a x hx; omega
    · obtain ⟨q, hq, rfl⟩ := List.mem_iff_getElem.1 hx
      rw [List.length_drop] at hq
      rw [List.getElem_drop]
      have := h.lt (show lo ys a < lo ys a + 1 + q by omega) hz (List.getElem?_eq_getElem (by omega))
      omega
  · rintro ⟨hx, hne⟩
    unfold YtilneflfeegnfaaGreat.Hl.del
    have hx' : x ∈ ys.take (lo ys a) ++ ys.drop (lo ys a) := by rw [List.take_append_drop]; exact hx
    rcases List.mem_append.1 hx' with h1 | h1
    · exact List.mem_append_left _ h1
    · refine List.mem_append_right _ ?_
      rw [List.drop_eq_getElem_cons hlt] at h1
      rcases List.mem_cons.1 h1 with rfl | h1
      · exfalso
        have := (List.getElem?_eq_some_iff.1 hz).2
        rw [this] at hne
        exact hne hza
      · exact h1
theorem del_length {ys : List Hr} {a : Int} (hi : isAt ys a = true) : (del ys a).length + 1 = ys.length := by
  obtain ⟨_, _, _, hlt⟩ := isAt_some hi
  unfold del
  rw [List.length_append, List.length_take, List.length_drop]
  omega
theorem Srt.right {ys : List Hr} (h : Srt ys) (hm : ∀ x ∈ ys, mayB x.T = true) (hn : ys.length ≤ 48) : rightB ys = true := by
  unfold rightB
  rw [decide_eq_true hn, Bool.true_and]
  unfold rPre
  rw [List.all_eq_true]
  intro i _
  unfold rOk
  split
  · rename_i x hx
    rw [hm x (List.mem_of_getElem? hx), Bool.true_and]
    rcases i with _ | j
    · rfl
    · obtain ⟨y, hy⟩ : ∃ y, ys[j]? = some y := ⟨_, List.getElem?_eq_getElem (by have := (List.getElem?_eq_some_iff.1 hx).1; omega)⟩
      simp only [Nat.add_sub_cancel, hy]
      rw [decide_eq_true (h.lt (Nat.lt_succ_self j) hy hx)]
      simp
  · rfl
end Go.Proofs.YtilneflfeegnfaaGreat.Hl
namespace Go.Proofs.YtilneflfeegnfaaGreat
open Go.RowKit
theorem bthen {B : Nat} {a b c : World} (h : Below B a b) (k : Below b.heap.size b c) (hB : B ≤ b.heap.size) : Below B a c := h.trans (k.mono hB)
structure Stt where
  now : Int
  seq : Int
  hs : List Hl.Hr
  sw : List Sw.Sw
  kn : List Sn.Kp
  pb : List Pb.Pr
  cs : List Cs.Ca
def zst : Stt := ⟨0, 0, [], [], [], [], []⟩
structure Rws where
  h : Option Addr
  hc : Nat
  s : Option Addr
  sc : Nat
  k : Option Addr
  kc : Nat
  p : Option Addr
  pc : Nat
  c : Option Addr
  cc : Nat
def zrw : Rws := ⟨none, 0, none, 0, none, 0, none, 0, none, 0⟩
def stl (x : Stt) (r : Rws) : List Value := [.int .i64 x.now, .int .i64 x.seq, .slice r.h x.hs.length r.hc, .slice r.s x.sw.length r.sc, .slice r.k x.kn.length r.kc, .slice r.p x.pb.length r.pc, .slice r.c x.cs.length r.cc]
def stv (x : Stt) (r : Rws) : Value := .agg #[.int .i64 x.now, .int .i64 x.seq, .slice r.h x.hs.length r.hc, .slice r.s x.sw.length r.sc, .slice r.k x.kn.length r.kc, .slice r.p x.pb.length r.pc, .slice r.c x.cs.length r.cc]
structure Lie (w : World) (x : Stt) (r : Rws) : Prop where
  h : Hl.Hs w r.h x.hs
  hc : x.hs.length ≤ r.hc
  s : Rw Sw.eW w r.s x.sw
  sc : x.sw.length ≤ r.sc
  k : Sn.Ks w r.k x.kn
  kc : x.kn.length ≤ r.kc
  p : Rw Pb.eP w r.p x.pb
  pc : x.pb.length ≤ r.pc
  c : Rw Cs.eA w r.c x.cs
  cc : x.cs.length ≤ r.cc
theorem Lie.below {w w' : World} {x : Stt} {r : Rws} (h : Lie w x r) (hb : Below w.heap.size w w') : Lie w' x r :=
  ⟨h.h.below hb, h.hc, h.s.below hb, h.sc, h.k.below hb, h.kc, h.p.below hb, h.pc, h.c.below hb, h.cc⟩
theorem lie_zero (w : World) : Lie w zst zrw := ⟨Hl.Hs.nil _ _, by simp [zst], Rw.nil _ _, by simp [zst], Sn.Ks.nil _ _, by simp [zst], Rw.nil _ _, by simp [zst], Rw.nil _ _, by simp [zst]⟩
structure Sz (x : Stt) : Prop where
  h : x.hs.length ≤ 900
  s : x.sw.length ≤ 16
  sv : ∀ y ∈ x.sw, Sw.Sv y
  k : Sn.Bd x.kn
  p : x.pb.length ≤ 900
  pn : ∀ y ∈ x.pb, 0 ≤ y.n ∧ y.n ≤ 1099511627776
  c : x.cs.length ≤ 900
def sgu (x : Sn.Sg) : Su.Sg := ⟨x.f, ⟨x.m0, x.m1, x.m2, x.m3, x.m4, x.m5⟩, x.t⟩
theorem rw_sgu {w : World} {A : Option Addr} {ss : List Sn.Sg} (h : Rw Sn.eS w A ss) : Rw Su.eS w A (ss.map sgu) := by
  refine ⟨by rw [List.length_map]; exact h.1, fun q x hx => ?_⟩
  rw [List.getElem?_map] at hx
  cases hy : ss[q]? with
  | none => rw [hy] at hx; cases hx
  | some y =>
    rw [hy] at hx
    injection hx with hx
    subst hx
    exact h.2 q y hy
def hmc (x : Hl.Hr) : Su.Mc := ⟨x.m0, x.m1, x.m2, x.m3, x.m4, x.m5⟩
def hoO (c : Cf) (x : Stt) (a : Int) : Int := Su.stO c (if Hl.isAt x.hs a then some (hmc (Hl.gt x.hs a)) else none) ((Sn.sg x.kn a).map sgu) x.now
end Go.Proofs.YtilneflfeegnfaaGreat
namespace Go.Proofs.YtilneflfeegnfaaGreat
open Go.RowKit
def Cx (w : World) (b : Nat) (L : List Value) : Prop := w.rangeAt b 0 L ∧ w.there b 0 L.length
theorem Cx.key {w : World} {b : Nat} {L : List Value} (h : Cx w b L) : ∀ j v, L[j]? = some v → w.cell? ⟨b, j, none⟩ = some v := fun j v hv => by
  have := h.1 j v hv
  rwa [Nat.zero_add] at this
theorem Cx.lt {w : World} {b : Nat} {u : Value} {L : List Value} (h : Cx w b (u :: L)) : b < w.heap.size := World.block_lt_of_cell? _ _ (h.key 0 _ rfl)
theorem Cx.fr {w : World} {b : Nat} {L : List Value} (h : Cx w b L) (j : Nat) (hj : j < L.length) : w.frozen? ⟨b, j, none⟩ = false := by
  have := (h.2 j hj).2
  rwa [Nat.zero_add] at this
theorem cx_box (w : World) (L : List Value) (cs : Array Value) (T : TypeId) (hc : cs.toList = L) : Cx (w.alloc (.cells cs T)) w.heap.size L := by
  subst hc
  have h : (w.alloc (.cells cs T)).heap[w.heap.size]? = some (.cells cs T) := heap_alloc_new w _
  have e : ∀ j, (w.alloc (.cells cs T)).cell? ⟨w.heap.size, j, none⟩ = _ := fun j => cell_of_row _ _ _ _ _ _ h
  refine ⟨fun j v hv => ?_, fun j hj => ⟨?_, ?_⟩⟩
  · rw [e, Nat.zero_add, ← hv]
    simp
  · rw [e, Nat.zero_add]
    simp at hj
    simp [hj]
  · unfold World.frozen?
    rw [h]
    simp
theorem Cx.keep {w w' : World} {b B : Nat} {L : List Value} (h : Cx w b L) (hb : Below B w w') (hB : b < B) : Cx w' b L :=
  ⟨fun j v hv => by rw [hb.cell (p := ⟨b, 0 + j, none⟩) hB]; exact h.1 j v hv, fun j hj => ⟨by rw [hb.cell (p := ⟨b, 0 + j, none⟩) hB]; exact (h.2 j hj).1, by rw [hb.frozen (p := ⟨b, 0 + j, none⟩) hB]; exact (h.2 j hj).2⟩⟩
theorem Cx.below {w w' : World} {b : Nat} {u : Value} {L : List Value} (h : Cx w b (u :: L)) (hb : Below w.heap.size w w') : Cx w' b (u :: L) := h.keep hb h.lt
theorem rangeAt_append {w : World} {b : Nat} : ∀ (p : List Value) {o : Nat} {q : List Value}, w.rangeAt b o (p ++ q) ↔ w.rangeAt b o p ∧ w.rangeAt b (o + p.length) q := by
  intro p o q
  constructor
  · intro h
    refine ⟨fun j v hv => h j v ?_, fun j v hv => ?_⟩
    · rw [List.getElem?_append_left (List.getElem?_eq_some_iff.1 hv).1]; exact hv
    · rw [Nat.add_assoc]
      refine h (p.length + j) v ?_
      rw [List.getElem?_append_right (by omega), Nat.add_sub_cancel_left]; exact hv
  · rintro ⟨h1, h2⟩ j v hv
    by_cases hj : j < p.length
    · rw [List.getElem?_append_left hj] at hv; exact h1 j v hv
    · rw [List.getElem?_append_right (by omega)] at hv
      have := h2 (j - p.length) v hv
      rwa [show o + p.length + (j - p.length) = o + j by omega] at this
theorem Cx.put {w : World} {b : Nat} {p old s : List Value} (vs : List Value) (h : Cx w b (p ++ (old ++ s))) (hl : vs.length = old.length) : Cx (w.setCells b p.length vs) b (p ++ (vs ++ s)) := by
  obtain ⟨h1, h2⟩ := h
  rw [rangeAt_append, rangeAt_append] at h1
  obtain ⟨h3, -, h5⟩ := h1
  rw [Nat.zero_add] at h5
  refine ⟨?_, ?_⟩
  · rw [rangeAt_append, rangeAt_append, Nat.zero_add]
    refine ⟨World.rangeAt_setCells_apart h3 b _ vs (.inr (.inl (by omega))), World.rangeAt_setCells_same w b _ vs fun j hj => ?_, ?_⟩
    · have := h2 (p.length + j) (by simp; omega)
      rwa [Nat.zero_add] at this
    · rw [hl]
      exact World.rangeAt_setCells_apart h5 b _ vs (.inr (.inr (by omega)))
  · have : (p ++ (vs ++ s)).length = (p ++ (old ++ s)).length := by simp [hl]
    rw [this]
    exact World.there_setCells h2 b _ vs
theorem Cx.sub {w : World} {b : Nat} {p q s : List Value} (h : Cx w b (p ++ (q ++ s))) : w.rangeAt b p.length q := by
  have h1 := h.1
  rw [rangeAt_append, rangeAt_append, Nat.zero_add] at h1
  exact h1.2.1
theorem cx_below {B b : Nat} {w0 : World} (hb : B ≤ b) : ∀ (vs : List Value) (o : Nat) (w : World), Below B w0 w → Below B w0 (w.setCells b o vs)
  | [], _, _, h => h
  | v :: r, o, w, h => cx_below hb r (o + 1) _ (h.setCell (by exact hb) v)
theorem setCells_other (b : Nat) : ∀ (us : List Value) (o : Nat) (w : World) (k : Nat), k ≠ b → (w.setCells b o us).heap[k]? = w.heap[k]?
  | [], _, _, _, _ => rfl
  | u :: r, o, w, k, h => (setCells_other b r (o + 1) _ k h).trans (heap_setCell_other w ⟨b, o, none⟩ k u h)
theorem cx_other {w w' : World} {b c : Nat} {L : List Value} (h : Cx w b L) (hk : ∀ k, k ≠ c → w'.heap[k]? = w.heap[k]?) (hne : b ≠ c) : Cx w' b L := by
  have e : ∀ j, w'.cell? ⟨b, j, none⟩ = w.cell? ⟨b, j, none⟩ := fun j => by unfold World.cell?; simp only [hk b hne]
  have f : ∀ j, w'.frozen? ⟨b, j, none⟩ = w.frozen? ⟨b, j, none⟩ := fun j => by unfold World.frozen?; simp only [hk b hne]
  exact ⟨fun j v hv => by rw [e]; exact h.1 j v hv, fun j hj => by rw [e, f]; exact h.2 j hj⟩
theorem at_put {ops : Array Oper} {rest : List Oper} {o : Oper} {a : Act} {w : World} {Q : Exit → Act → World → Prop} (T : TypeId) (x y : Operand) (b : Nat) (p old vs s : List Value) (H : Cx w b (p ++ (old ++ s))) (hl : vs.length = old.length)
    (hsz : (Tryz.prog.info? T).map (·.size) = some vs.toArray.size) (h1 : vs.toArray.all (·.oneCell') = true) (hgd : o.guard = none) (ho : o.op = .store T x y) (hx : a.eval x = .pointer (some ⟨b, p.length, none⟩)) (hy : a.eval y = .agg vs.toArray)
    (h : ∀ w', Hid (Cx w' b (p ++ (vs ++ s))) → Hid (∀ B, B ≤ b → Below B w w') → Hid (∀ k, k ≠ b → w'.heap[k]? = w.heap[k]?) → wpList Tryz.prog ops Q rest (a.put o.dst undef) w') : wpList Tryz.prog ops Q (o :: rest) a w :=
  wpList_store_mid hgd T x y ho b p.length vs.toArray hx hy (fun j hj => by have := H.2 (p.length + j) (by simp at hj ⊢; omega); rwa [Nat.zero_add] at this) hsz h1 (h _ (H.put vs hl) (fun _ hB => cx_below hB _ _ _ (Below.refl _ _)) (setCells_other b _ _ _))
theorem at_get {ops : Array Oper} {rest : List Oper} {o : Oper} {a : Act} {w : World} {Q : Exit → Act → World → Prop} (T : TypeId) (d : TypeDesc) (x : Operand) (b : Nat) (p q s : List Value) (H : Cx w b (p ++ (q ++ s)))
    (hd : Tryz.prog.underlying T = some d) (hr : d.isRow = true) (hsz : (Tryz.prog.info? T).map (·.size) = some q.length) (hgd : o.guard = none) (ho : o.op = .load T x) (hx : a.eval x = .pointer (some ⟨b, p.length, none⟩))
    (h : wpList Tryz.prog ops Q rest (a.put o.dst (.agg q.toArray)) w) : wpList Tryz.prog ops Q (o :: rest) a w :=
  wpList_load_mid hgd T x ho b p.length hx q d H.sub hd hr hsz h
theorem loadv {w : World} {b : Nat} {L : List Value} (T : TypeId) (d : TypeDesc) (h : Cx w b L) (hd : Tryz.prog.underlying T = some d) (hr : d.isRow = true) (hsz : (Tryz.prog.info? T).map (·.size) = some L.length) : (loadVar T ⟨b, 0, none⟩).run Tryz.prog w = .ok (.agg L.toArray) w :=
  run_loadVar_mid w b 0 T L d h.1 hd hr hsz
theorem results_cell3 {P : Program} {fn : Func} {p q r : Tmp} {ty : TypeId} (h : fn.results = #[.cell p ty, .tmp q, .tmp r]) (tmps : Array Value) (w : World) (x : Addr) (v u z : Value) (hp : tmps.getD p undef = .pointer (some x)) (hq : tmps.getD q undef = u) (hr : tmps.getD r undef = z) (hl : (loadVar ty x).run P w = .ok v w) :
    (results fn tmps).run P w = .ok (.tuple #[v, u, z]) w := by
  have hp' : tmps[p]?.getD undef = .pointer (some x) := by simpa using hp
  have hq' : tmps[q]?.getD undef = u := by simpa using hq
  have hr' : tmps[r]?.getD undef = z := by simpa using hr
  simp [results, h, hp', hq', hr', asAddr, hl, Sem.run_bind, Sem.run_pure, Result.andThen_ok]
def Stx (x : Stt) (r : Rws) : Obj := .cells #[.int .i64 x.now, .int .i64 x.seq, .slice r.h x.hs.length r.hc, .slice r.s x.sw.length r.sc, .slice r.k x.kn.length r.kc, .slice r.p x.pb.length r.pc, .slice r.c x.cs.length r.cc] 35
theorem st_box (w : World) (x : Stt) (r : Rws) : Cx (w.alloc (Stx x r)) w.heap.size (stl x r) := cx_box w _ _ _ rfl
theorem run_storeVar_sc (w : World) (b o : Nat) (ty : TypeId) (v : Value) (hv : v.cells = #[v]) (ht : w.there b o 1) (hi : (Tryz.prog.info? ty).map (·.size) = some 1) (h1 : v.oneCell' = true) :
    (storeVar ty ⟨b, o, none⟩ v).run Tryz.prog w = .ok () (w.setCells b o [v]) := by
  have := run_storeCells_cells (P := Tryz.prog) b o [v] 0 w (fun j hj => by simpa using (ht j (by simpa using hj)).1) (fun j hj => by simpa using (ht j (by simpa using hj)).2)
    (fun u hu => by simp at hu; rw [hu]; exact h1)
  cases hq : Tryz.prog.info? ty with
  | none => simp [hq] at hi
  | some i =>
    have hs : i.size = 1 := by simpa [hq] using hi
    simp only [Nat.add_zero] at this
    simp [storeVar, sizeOf, typeInfo, hq, hv, hs, this]
theorem at_put1 {ops : Array Oper} {rest : List Oper} {o : Oper} {a : Act} {w : World} {Q : Exit → Act → World → Prop} (T : TypeId) (x y : Operand) (b : Nat) (p : List Value) (u v : Value) (s : List Value) (H : Cx w b (p ++ (u :: s)))
    (hsz : (Tryz.prog.info? T).map (·.size) = some 1) (hv : v.cells = #[v]) (h1 : v.oneCell' = true) (hgd : o.guard = none) (ho : o.op = .store T x y) (hx : a.eval x = .pointer (some ⟨b, p.length, none⟩)) (hy : a.eval y = v)
    (h : ∀ w', Hid (Cx w' b (p ++ (v :: s))) → Hid (∀ B, B ≤ b → Below B w w') → Hid (∀ k, k ≠ b → w'.heap[k]? = w.heap[k]?) → wpList Tryz.prog ops Q rest (a.put o.dst undef) w') : wpList Tryz.prog ops Q (o :: rest) a w :=
  wpList_plain hgd fun _ hK => by
    unfold Oper.wp execOp
    simp only [ho, hx, hy, Instr.storeAt, Instr.sureAddr, Sem.run_bind, Sem.run_pure, Result.andThen_ok, run_storeVar_sc w b p.length T v hv (fun j hj => by have := H.2 (p.length + j) (by simp; omega); rwa [Nat.zero_add] at this) hsz h1]
    exact hK _ _ (h _ (Cx.put (old := [u]) [v] H rfl) (fun _ hB => cx_below hB _ _ _ (Below.refl _ _)) (setCells_other b _ _ _))
theorem sizeSt : (Tryz.prog.info? 35).map (·.size) = some 7 := by kernel_rfl
theorem sizeRh : (Tryz.prog.info? 29).map (·.size) = some 1 := by kernel_rfl
theorem sizeRs : (Tryz.prog.info? 30).map (·.size) = some 1 := by kernel_rfl
theorem sizeRk : (Tryz.prog.info? 31).map (·.size) = some 1 := by kernel_rfl
theorem sizeRp : (Tryz.prog.info? 32).map (·.size) = some 1 := by kernel_rfl
theorem sizeRc : (Tryz.prog.info? 33).map (·.size) = some 1 := by kernel_rfl
theorem at_loadSt {ops : Array Oper} {rest : List Oper} {o : Oper} {a : Act} {w : World} {Q : Exit → Act → World → Prop} (x : Operand) (b : Nat) (L : List Value) (H : Cx w b L) (hL : L.length = 7) (hgd : o.guard = none) (ho : o.op = .load 35 x) (hx : a.eval x = .pointer (some ⟨b, 0, none⟩))
    (h : wpList Tryz.prog ops Q rest (a.put o.dst (.agg L.toArray)) w) : wpList Tryz.prog ops Q (o :: rest) a w :=
  at_get 35 _ x b [] L [] (by simpa using H) Tryz.underlying35 rfl (by rw [sizeSt, hL]) hgd ho hx h
theorem loadvSt {w : World} {b : Nat} {L : List Value} (h : Cx w b L) (hL : L.length = 7) : (loadVar 35 ⟨b, 0, none⟩).run Tryz.prog w = .ok (.agg L.toArray) w := loadv _ _ h Tryz.underlying35 rfl (by rw [sizeSt, hL])
end Go.Proofs.YtilneflfeegnfaaGreat
namespace Go.Proofs.YtilneflfeegnfaaGreat
open Go.RowKit
def Ns (v : Value) : Prop := (∀ n, v ≠ .int .u32 n) ∧ ∀ n, v ≠ .int .u8 n
theorem ns_int (n : Int) : Ns (.int .i64 n) := ⟨fun m h => (by cases h), fun m h => (by cases h)⟩
theorem ns_sl (A : Option Addr) (n c : Nat) : Ns (.slice A n c) := ⟨fun m h => (by cases h), fun m h => (by cases h)⟩
def Bs (w : World) (b : Nat) : Prop := ∀ (a : Addr) (v : Value), a.block = b → w.cell? a = some v → Ns v
theorem cell_setCell_none {w : World} {a : Addr} (v : Value) (h : w.cell? a = none) : (w.setCell a v).cell? a = none := by
  unfold World.cell? at h ⊢
  simp only [World.setCell, Array.getElem?_modify, if_true]
  cases hb : w.heap[a.block]? with
  | none => simp
  | some o =>
    rw [hb] at h
    cases o with
    | cells c T fr =>
      simp only [Option.map_some] at h ⊢
      split at h
      · rename_i hs
        rw [if_pos hs]
      · rename_i hs
        rw [if_neg hs, if_neg hs]
        simp at h ⊢
        exact h
    | _ => simp
theorem Bs.set {w : World} {b : Nat} (h : Bs w b) (a : Addr) {v : Value} (hv : Ns v) : Bs (w.setCell a v) b := by
  intro x u hx hu
  by_cases e : a = x
  · subst e
    cases ho : w.cell? a with
    | some o =>
      rw [World.cell?_setCell_same _ _ _ ho] at hu
      injection hu with hu
      subst hu
      exact hv
    | none => rw [cell_setCell_none v ho] at hu; cases hu
  · rw [World.cell?_setCell_other _ _ _ _ e] at hu
    exact h x u hx hu
theorem Bs.sets {b : Nat} (c : Nat) : ∀ (vs : List Value) (o : Nat) (w : World), Bs w b → (∀ v ∈ vs, Ns v) → Bs (w.setCells c o vs) b
  | [], _, _, h, _ => h
  | v :: r, o, w, h, hv => Bs.sets c r (o + 1) _ (h.set ⟨c, o, none⟩ (hv v (by simp))) fun u hu => hv u (by simp [hu])
theorem Bs.keep {w w' : World} {b B : Nat} (h : Bs w b) (hb : Below B w w') (hB : b < B) : Bs w' b := fun a v ha hv => h a v ha (by rw [← hb.cell (p := a) (by rw [ha]; exact hB)]; exact hv)
theorem bs_box (w : World) (cs : Array Value) (T : TypeId) (h : ∀ v ∈ cs, Ns v) : Bs (w.alloc (.cells cs T)) w.heap.size := by
  intro a v ha hv
  unfold World.cell? at hv
  have e : (w.alloc (.cells cs T)).heap[w.heap.size]? = some (.cells cs T) := heap_alloc_new w _
  rw [ha, e] at hv
  dsimp only at hv
  split at hv
  · cases hv
  · exact h v (Array.mem_of_getElem? hv)
theorem cell_other {w w' : World} {b : Nat} (hk : ∀ k, k ≠ b → w'.heap[k]? = w.heap[k]?) {a : Addr} (ha : a.block ≠ b) : w'.cell? a = w.cell? a := by
  unfold World.cell?
  rw [hk _ ha]
def Mk {α : Type} (E : El α) : Prop := ∀ x, ∃ (j : Nat) (v : Value), (E.cl x)[j]? = some v ∧ ¬ Ns v
theorem rw_apart {α : Type} {E : El α} {w w' : World} {b : Nat} {A : Option Addr} {xs : List α} (hE : Mk E) (h : Rw E w A xs) (hb : Bs w b) (hk : ∀ k, k ≠ b → w'.heap[k]? = w.heap[k]?) : Rw E w' A xs := by
  refine ⟨h.1, fun q x hq => ?_⟩
  obtain ⟨y, hy, hc⟩ := h.2 q x hq
  refine ⟨y, hy, fun j v hv => ?_⟩
  have hne : y.block ≠ b := by
    intro e
    obtain ⟨i, u, hu, hn⟩ := hE x
    exact hn (hb _ u (by rw [add_block]; exact e) (hc i u hu))
  rw [cell_other hk (by rw [add_block]; exact hne)]
  exact hc j v hv
theorem u32_no (n : Int) : ¬ Ns (.int .u32 n) := fun h => h.1 n rfl
theorem u8_no (n : Int) : ¬ Ns (.int .u8 n) := fun h => h.2 n rfl
theorem mk_W : Mk Sw.eW := fun x => ⟨0, _, rfl, u32_no _⟩
theorem mk_P : Mk Pb.eP := fun x => ⟨0, _, rfl, u32_no _⟩
theorem mk_A : Mk Cs.eA := fun x => ⟨0, _, rfl, u32_no _⟩
theorem mk_K : Mk Sn.eK := fun x => ⟨0, _, rfl, u32_no _⟩
theorem mk_S : Mk Sn.eS := fun x => ⟨1, _, rfl, u8_no _⟩
theorem hs_apart {w w' : World} {b : Nat} {A : Option Addr} {xs : List Hl.Hr} (h : Hl.Hs w A xs) (hb : Bs w b) (hk : ∀ k, k ≠ b → w'.heap[k]? = w.heap[k]?) : Hl.Hs w' A xs := by
  refine ⟨h.1, fun q x hq => ?_⟩
  obtain ⟨ho, y, hy, hc⟩ := h.2 q x hq
  refine ⟨ho, y, hy, fun j v hv => ?_⟩
  have hne : y.block ≠ b := fun e => u32_no x.a (hb _ (.int .u32 x.a) (by rw [add_block]; exact e) (hc 0 _ rfl))
  rw [cell_other hk (by rw [add_block]; exact hne)]
  exact hc j v hv
theorem ks_apart {w w' : World} {b : Nat} {A : Option Addr} {ps : List Sn.Kp} (h : Sn.Ks w A ps) (hb : Bs w b) (hk : ∀ k, k ≠ b → w'.heap[k]? = w.heap[k]?) : Sn.Ks w' A ps := by
  obtain ⟨xs, e, h1, h2⟩ := h
  exact ⟨xs, e, rw_apart mk_K h1 hb hk, fun x hx => ⟨(h2 x hx).a0, (h2 x hx).a1, rw_apart mk_S (h2 x hx).lies hb hk, (h2 x hx).le, (h2 x hx).max⟩⟩
theorem Lie.apart {w w' : World} {b : Nat} {x : Stt} {r : Rws} (h : Lie w x r) (hb : Bs w b) (hk : ∀ k, k ≠ b → w'.heap[k]? = w.heap[k]?) : Lie w' x r :=
  ⟨hs_apart h.h hb hk, h.hc, rw_apart mk_W h.s hb hk, h.sc, ks_apart h.k hb hk, h.kc, rw_apart mk_P h.p hb hk, h.pc, rw_apart mk_A h.c hb hk, h.cc⟩
structure Sb (w : World) (b : Nat) (L : List Value) : Prop where
  cx : Cx w b L
  len : L.length = 7
  bs : Bs w b
theorem Sb.lt {w : World} {b : Nat} {L : List Value} (h : Sb w b L) : b < w.heap.size := by
  cases L with
  | nil => have := h.len; simp at this
  | cons u L => exact h.cx.lt
theorem Sb.keep {w w' : World} {b B : Nat} {L : List Value} (h : Sb w b L) (hb : Below B w w') (hB : b < B) : Sb w' b L := ⟨h.cx.keep hb hB, h.len, h.bs.keep hb hB⟩
theorem Sb.below {w w' : World} {b : Nat} {L : List Value} (h : Sb w b L) (hb : Below w.heap.size w w') : Sb w' b L := h.keep hb h.lt
theorem stl_ns (x : Stt) (r : Rws) : ∀ v ∈ stl x r, Ns v := by
  intro v hv
  simp only [stl, List.mem_cons, List.not_mem_nil, or_false] at hv
  rcases hv with rfl | rfl | rfl | rfl | rfl | rfl | rfl <;> first | exact ns_int _ | exact ns_sl _ _ _
theorem stl_one (x : Stt) (r : Rws) : (stl x r).toArray.all (·.oneCell') = true := by simp [stl, Value.oneCell']
theorem sb_box (w : World) (x : Stt) (r : Rws) : Sb (w.alloc (Stx x r)) w.heap.size (stl x r) := ⟨st_box w x r, rfl, bs_box w _ _ fun v hv => stl_ns x r v (by simpa [stl] using hv)⟩
theorem Sb.other {w w' : World} {b c : Nat} {L : List Value} (h : Sb w b L) (hk : ∀ k, k ≠ c → w'.heap[k]? = w.heap[k]?) (hne : b ≠ c) : Sb w' b L := ⟨cx_other h.cx hk hne, h.len, fun a v ha hv => h.bs a v ha (by rw [← cell_other hk (by rw [ha]; exact hne)]; exact hv)⟩
theorem at_wholeSt {ops : Array Oper} {rest : List Oper} {o : Oper} {a : Act} {w : World} {Q : Exit → Act → World → Prop} (x y : Operand) (b : Nat) (K L : List Value) (H : Sb w b K) (hL : L.length = 7) (hn : ∀ v ∈ L, Ns v) (h1 : L.toArray.all (·.oneCell') = true) (hgd : o.guard = none) (ho : o.op = .store 35 x y) (hx : a.eval x = .pointer (some ⟨b, 0, none⟩)) (hy : a.eval y = .agg L.toArray)
    (h : ∀ w', Hid (Sb w' b L) → Hid (∀ B, B ≤ b → Below B w w') → Hid (∀ k, k ≠ b → w'.heap[k]? = w.heap[k]?) → wpList Tryz.prog ops Q rest (a.put o.dst undef) w') : wpList Tryz.prog ops Q (o :: rest) a w := by
  have H7 : Cx w b ([] ++ (K ++ [])) := by simpa using H.cx
  refine wpList_store_mid hgd 35 x y ho b 0 L.toArray hx hy (fun j hj => ?_) (by rw [sizeSt]; simp [hL]) h1 (h _ ⟨?_, hL, H.bs.sets _ _ _ _ hn⟩ (fun _ hB => cx_below hB _ _ _ (Below.refl _ _)) (setCells_other b _ _ _))
  · simp [hL] at hj
    exact H.cx.2 j (by rw [H.len]; exact hj)
  · have := H7.put L (by rw [hL, H.len])
    simpa using this
theorem at_fieldSt {ops : Array Oper} {rest : List Oper} {o : Oper} {a : Act} {w : World} {Q : Exit → Act → World → Prop} (T : TypeId) (x y : Operand) (b : Nat) (p : List Value) (u v : Value) (s : List Value) (H : Sb w b (p ++ (u :: s)))
    (hsz : (Tryz.prog.info? T).map (·.size) = some 1) (hv : v.cells = #[v]) (hn : Ns v) (h1 : v.oneCell' = true) (hgd : o.guard = none) (ho : o.op = .store T x y) (hx : a.eval x = .pointer (some ⟨b, p.length, none⟩)) (hy : a.eval y = v)
    (h : ∀ w', Hid (Sb w' b (p ++ (v :: s))) → Hid (∀ B, B ≤ b → Below B w w') → Hid (∀ k, k ≠ b → w'.heap[k]? = w.heap[k]?) → wpList Tryz.prog ops Q rest (a.put o.dst undef) w') : wpList Tryz.prog ops Q (o :: rest) a w :=
  wpList_plain hgd fun _ hK => by
    unfold Oper.wp execOp
    simp only [ho, hx, hy, Instr.storeAt, Instr.sureAddr, Sem.run_bind, Sem.run_pure, Result.andThen_ok, run_storeVar_sc w b p.length T v hv (fun j hj => by have := H.cx.2 (p.length + j) (by simp; omega); rwa [Nat.zero_add] at this) hsz h1]
    exact hK _ _ (h _ ⟨Cx.put (old := [u]) [v] H.cx rfl, by have := H.len; simpa using this, H.bs.sets _ _ _ _ (fun z hz => by simp at hz; subst hz; exact hn)⟩ (fun _ hB => cx_below hB _ _ _ (Below.refl _ _)) (setCells_other b _ _ _))
end Go.Proofs.YtilneflfeegnfaaGreat
namespace Go.Proofs.YtilneflfeegnfaaGreat
open Go.RowKit
theorem stOf_any (c : Cf) (h : Option (Nat × Su.Mc)) (A : Option Addr) (ss : List Sn.Sg) (cap : Nat) (now : Int) (w : World) (hm : Su.HP w h) (hr : Rw Sn.eS w A ss) (hc : ss.length ≤ cap) (hx : ss.length ≤ 1000000) (hcd : c.c ≤ 1099511627776) :
    Calls Tryz.prog 44 #[cfv c, Su.hp h, .slice A ss.length cap, .int .i64 now] w fun e w' => e = .returned (.int .i64 (Su.stO c (h.map (·.2)) (ss.map sgu) now)) ∧ Below w.heap.size w w' := by
  have := Su.of_any c h A (ss.map sgu) cap now w hm (rw_sgu hr) (by rw [List.length_map]; exact hc) (by rw [List.length_map]; exact hx) hcd
  rwa [List.length_map] at this
end Go.Proofs.YtilneflfeegnfaaGreat
namespace Go.Proofs.YtilneflfeegnfaaGreat
open Go.RowKit
def stpO (x : Stt) (a : Int) : Stt := if (Cs.stO (fun _ => true) 4 x.now a x.cs).2 = 0 then { x with cs := (Cs.stO (fun _ => true) 4 x.now a x.cs).1 } else x
def StPost (w : World) (x : Stt) (e : Ending) (w' : World) : Prop := ∃ r, e = .returned (stv x r) ∧ Lie w' x r ∧ Below w.heap.size w w'
end Go.Proofs.YtilneflfeegnfaaGreat
namespace Go.Proofs.YtilneflfeegnfaaGreat
open Go.RowKit
def rgS (x : Stt) : Bool := decide (0 ≤ x.now) && decide (x.now ≤ 1099511627776) && decide (0 ≤ x.seq) && decide (x.seq < 65536) && Hl.rightB x.hs && Sn.rightB x.kn && Sw.rgB x.sw && Pb.rgB x.pb && Cs.rgB x.cs
end Go.Proofs.YtilneflfeegnfaaGreat
namespace Go.Proofs.YtilneflfeegnfaaGreat
open Go.RowKit
structure Evt where
  k : Int
  h : Hl.Hr
  b : Int
  n : Int
  s : Sn.Sg
def t1 (c : Cf) (x : Stt) : Stt := { x with now := min (x.now + 1) 1099511627776, cs := Cs.tkO c.h (min (x.now + 1) 1099511627776) x.cs }
def t2k (c : Cf) (x : Stt) (k : Cs.Ca) : Stt :=
  if k.g = 1 then (if hoO c x k.a = 3 then { x with cs := (Cs.stO (fun g => g == 1) 5 x.now k.a x.cs).1, hs := Hl.takeR x.hs k.a } else stpO x k.a) else x
def t2 (c : Cf) (x : Stt) : Stt := x.cs.foldl (t2k c) x
def t3h (c : Cf) (x : Stt) (h : Hl.Hr) : Stt := if hoO c x h.a = 3 ∧ (Cs.rsO c.i x.now h.a x.cs).2 = 0 then { x with cs := (Cs.rsO c.i x.now h.a x.cs).1 } else x
def t3 (c : Cf) (x : Stt) : Stt := x.hs.foldl (t3h c) x
def t4 (c : Cf) (x : Stt) : Stt := { x with kn := x.kn.filter fun k => Hl.isAt x.hs k.a || decide (x.now - Sn.tk k.ss < c.b) }
def t5q (s : Stt × List Pb.Pk) (a : Int) : Stt × List Pb.Pk :=
  if Pb.putC s.1.pb ⟨a, a % 65536, (s.1.seq + 1) % 65536, s.1.now, 0⟩ = 0 then ({ s.1 with seq := (s.1.seq + 1) % 65536, pb := Pb.putR s.1.pb ⟨a, a % 65536, (s.1.seq + 1) % 65536, s.1.now, 0⟩ }, s.2 ++ [Pb.pkO ⟨a, a % 65536, (s.1.seq + 1) % 65536, s.1.now, 0⟩])
  else ({ s.1 with seq := (s.1.seq + 1) % 65536 }, s.2)
def t5 (c : Cf) (x : Stt) : Stt × List Pb.Pk :=
  let L := Pb.ltO c.f c.g x.now c.e x.pb
  let P := Sw.planO x.sw c.d x.now (min (c.e - (L.2.length : Int)) (16 - (L.1.length : Int)))
  P.2.foldl t5q ({ x with pb := L.1, sw := P.1 }, L.2.map Pb.pkO)
def tickL (c : Cf) (x : Stt) : Stt × List Pb.Pk := t5 c (t4 c (t3 c (t2 c (t1 c x))))
def upd (x y : Stt) (q : Int) : Stt × List Pb.Pk × Int := if q = 0 then (y, [], 0) else (x, [], q)
def sgL (x : Stt) (s : Sn.Sg) : Sn.Sg := if s.f = 0 then ⟨0, 0, 0, 0, 0, 0, 0, x.now⟩ else ⟨s.f, s.m0, s.m1, s.m2, s.m3, s.m4, s.m5, x.now⟩
def sawL (x : Stt) (a : Int) (s : Sn.Sg) : Stt × List Pb.Pk × Int :=
  if s.f = 0 then
    (if (x.pb.filter fun p => p.a != a).length = x.pb.length then (x, [], 7)
     else upd x (stpO { x with pb := x.pb.filter (fun p => p.a != a), kn := Sn.putR x.kn a (sgL x s) } a) (Sn.putC x.kn a (sgL x s)))
  else upd x (stpO { x with kn := Sn.putR x.kn a (sgL x s) } a) (Sn.putC x.kn a (sgL x s))
def doL (c : Cf) (x : Stt) (e : Evt) : Stt × List Pb.Pk × Int :=
  if e.k = 0 then ((tickL c x).1, (tickL c x).2, 0)
  else if e.k = 1 then upd x { x with hs := Hl.putR x.hs e.h } (Hl.putC x.hs e.h)
  else if e.k = 2 then upd x (stpO { x with hs := Hl.takeR x.hs e.h.a } e.h.a) (Hl.takeC x.hs e.h.a)
  else if e.k = 3 then upd x { x with sw := Sw.putR x.sw e.b e.n x.now } (Sw.putC x.sw e.b e.n)
  else if e.k = 4 then upd x { x with sw := Sw.takeR x.sw e.b e.n } (Sw.takeC x.sw e.b e.n)
  else if e.k = 5 then sawL x e.h.a e.s
  else if e.k = 6 then upd x { x with cs := (Cs.stO (fun g => g == 0) 1 x.now e.h.a x.cs).1 } (Cs.stO (fun g => g == 0) 1 x.now e.h.a x.cs).2
  else if e.k = 7 then upd x { x with cs := (Cs.stO (fun g => g == 0) 2 x.now e.h.a x.cs).1 } (Cs.stO (fun g => g == 0) 2 x.now e.h.a x.cs).2
  else (x, [], 12)
end Go.Proofs.YtilneflfeegnfaaGreat
namespace Go.Proofs.YtilneflfeegnfaaGreat
open Go.RowKit
def ePk : El Pb.Pk := ⟨Pb.pkl, 11, by decide, fun _ => rfl, by
  intro x u hu
  simp [Pb.pkl] at hu
  rcases hu with rfl | rfl | rfl | rfl | rfl | rfl | rfl | rfl | rfl | rfl | rfl <;> rfl⟩
end Go.Proofs.YtilneflfeegnfaaGreat
namespace Go.Proofs.YtilneflfeegnfaaGreat
open Go.RowKit
structure Ob (b : Nat) (w w' : World) : Prop where
  bel : Below b w w'
  oth : ∀ k, k ≠ b → k < w.heap.size → w'.heap[k]? = w.heap[k]?
theorem Ob.refl (b : Nat) (w : World) : Ob b w w := ⟨Below.refl _ _, fun _ _ _ => rfl⟩
theorem Ob.size {b : Nat} {w w' : World} (h : Ob b w w') : w.heap.size ≤ w'.heap.size := h.bel.size
theorem Ob.trans {b : Nat} {x y z : World} (h : Ob b x y) (k : Ob b y z) : Ob b x z := ⟨h.bel.trans k.bel, fun j h1 h2 => (k.oth j h1 (Nat.lt_of_lt_of_le h2 h.size)).trans (h.oth j h1 h2)⟩
theorem Ob.of {b : Nat} {w w' : World} (h : Below w.heap.size w w') (hb : b < w.heap.size) : Ob b w w' := ⟨h.mono (Nat.le_of_lt hb), fun k _ hk => h.block k hk⟩
theorem Ob.put {b : Nat} {w w' : World} (hb : ∀ B, B ≤ b → Below B w w') (hk : ∀ k, k ≠ b → w'.heap[k]? = w.heap[k]?) : Ob b w w' := ⟨hb _ (Nat.le_refl _), fun k h _ => hk k h⟩
theorem Ob.under {b B : Nat} {w w' : World} (h : Ob b w w') (hb : B ≤ b) : Below B w w' := h.bel.mono hb
theorem cell_ob {b : Nat} {w w' : World} (h : Ob b w w') {a : Addr} (ha : a.block ≠ b) (hl : a.block < w.heap.size) : w'.cell? a = w.cell? a := by
  unfold World.cell?
  rw [h.oth _ ha hl]
theorem frozen_ob {b : Nat} {w w' : World} (h : Ob b w w') {a : Addr} (ha : a.block ≠ b) (hl : a.block < w.heap.size) : w'.frozen? a = w.frozen? a := by
  unfold World.frozen?
  rw [h.oth _ ha hl]
theorem rw_ob {α : Type} {E : El α} {w w' : World} {b : Nat} {A : Option Addr} {xs : List α} (hE : Mk E) (h : Rw E w A xs) (hb : Bs w b) (k : Ob b w w') : Rw E w' A xs := by
  refine ⟨h.1, fun q x hq => ?_⟩
  obtain ⟨y, hy, hc⟩ := h.2 q x hq
  refine ⟨y, hy, fun j v hv => ?_⟩
  have hne : y.block ≠ b := by
    intro e
    obtain ⟨i, u, hu, hn⟩ := hE x
    exact hn (hb _ u (by rw [add_block]; exact e) (hc i u hu))
  have hlt := World.block_lt_of_cell? _ _ (hc j v hv)
  rw [add_block] at hlt
  rw [cell_ob k (by rw [add_block]; exact hne) (by rw [add_block]; exact hlt)]
  exact hc j v hv
theorem hs_ob {w w' : World} {b : Nat} {A : Option Addr} {xs : List Hl.Hr} (h : Hl.Hs w A xs) (hb : Bs w b) (k : Ob b w w') : Hl.Hs w' A xs := by
  refine ⟨h.1, fun q x hq => ?_⟩
  obtain ⟨ho, y, hy, hc⟩ := h.2 q x hq
  refine ⟨ho, y, hy, fun j v hv => ?_⟩
  have hne : y.block ≠ b := fun e => u32_no x.a (hb _ (.int .u32 x.a) (by rw [add_block]; exact e) (hc 0 _ rfl))
  have hlt := World.block_lt_of_cell? _ _ (hc j v hv)
  rw [add_block] at hlt
  rw [cell_ob k (by rw [add_block]; exact hne) (by rw [add_block]; exact hlt)]
  exact hc j v hv
theorem ks_ob {w w' : World} {b : Nat} {A : Option Addr} {ps : List Sn.Kp} (h : Sn.Ks w A ps) (hb : Bs w b) (k : Ob b w w') : Sn.Ks w' A ps := by
  obtain ⟨xs, e, h1, h2⟩ := h
  exact ⟨xs, e, rw_ob mk_K h1 hb k, fun x hx => ⟨(h2 x hx).a0, (h2 x hx).a1, rw_ob mk_S (h2 x hx).lies hb k, (h2 x hx).le, (h2 x hx).max⟩⟩
theorem Lie.ob {w w' : World} {b : Nat} {x : Stt} {r : Rws} (h : Lie w x r) (hb : Bs w b) (k : Ob b w w') : Lie w' x r :=
  ⟨hs_ob h.h hb k, h.hc, rw_ob mk_W h.s hb k, h.sc, ks_ob h.k hb k, h.kc, rw_ob mk_P h.p hb k, h.pc, rw_ob mk_A h.c hb k, h.cc⟩
theorem cm_ob {w w' : World} {b d : Nat} {c : Cf} (h : Cm w d c) (k : Ob b w w') (hne : d ≠ b) : Cm w' d c :=
  ⟨Nat.lt_of_lt_of_le h.lt k.size, by rw [cell_ob k (a := ⟨d, 0, none⟩) hne h.lt]; exact h.c0, by rw [cell_ob k (a := ⟨d, 1, none⟩) hne h.lt]; exact h.c1, by rw [cell_ob k (a := ⟨d, 2, none⟩) hne h.lt]; exact h.c2, by rw [cell_ob k (a := ⟨d, 3, none⟩) hne h.lt]; exact h.c3, by rw [cell_ob k (a := ⟨d, 4, none⟩) hne h.lt]; exact h.c4, by rw [cell_ob k (a := ⟨d, 5, none⟩) hne h.lt]; exact h.c5, by rw [cell_ob k (a := ⟨d, 6, none⟩) hne h.lt]; exact h.c6, by rw [cell_ob k (a := ⟨d, 7, none⟩) hne h.lt]; exact h.c7, by rw [cell_ob k (a := ⟨d, 8, none⟩) hne h.lt]; exact h.c8⟩
theorem cx_ob {w w' : World} {b d : Nat} {u : Value} {L : List Value} (h : Cx w d (u :: L)) (k : Ob b w w') (hne : d ≠ b) : Cx w' d (u :: L) := by
  have hl := h.lt
  exact ⟨fun j v hv => by rw [cell_ob k (a := ⟨d, 0 + j, none⟩) hne hl]; exact h.1 j v hv, fun j hj => ⟨by rw [cell_ob k (a := ⟨d, 0 + j, none⟩) hne hl]; exact (h.2 j hj).1, by rw [frozen_ob k (a := ⟨d, 0 + j, none⟩) hne hl]; exact (h.2 j hj).2⟩⟩
theorem Sb.ob {w w' : World} {b d : Nat} {L : List Value} (h : Sb w d L) (k : Ob b w w') (hne : d ≠ b) : Sb w' d L := by
  have hl := h.lt
  cases L with
  | nil => have := h.len; simp at this
  | cons u L => exact ⟨cx_ob h.cx k hne, h.len, fun a v ha hv => h.bs a v ha (by rw [← cell_ob k (by rw [ha]; exact hne) (by rw [ha]; exact hl)]; exact hv)⟩
def PP (w : World) (b : Nat) (y : Stt) (e0 e : Ending) (w' : World) : Prop := e = e0 ∧ (∃ r, Sb w' b (stl y r) ∧ Lie w' y r) ∧ Ob b w w'
def rF {α : Type} (R : World → Option Addr → List α → Prop) (xs : List α) : Value → World → Prop := fun v W => ∃ A c, v = .slice A xs.length c ∧ xs.length ≤ c ∧ R W A xs
def tF {α : Type} (R : World → Option Addr → List α → Prop) (xs : List α) (q : Int) : Value → World → Prop := fun v W => ∃ A c, v = .tuple #[.slice A xs.length c, .int .i64 q] ∧ xs.length ≤ c ∧ R W A xs
def Hld {α : Type} (R : World → Option Addr → List α → Prop) : Prop := ∀ (w w' : World) (A : Option Addr) (xs : List α), R w A xs → Below w.heap.size w w' → R w' A xs
theorem stable_rF {α : Type} {R : World → Option Addr → List α → Prop} (h : Hld R) (xs : List α) : Stable (rF R xs) := fun _ w w' ⟨A, c, hv, hc, hr⟩ hb => ⟨A, c, hv, hc, h w w' A xs hr hb⟩
theorem stable_tF {α : Type} {R : World → Option Addr → List α → Prop} (h : Hld R) (xs : List α) (q : Int) : Stable (tF R xs q) := fun _ w w' ⟨A, c, hv, hc, hr⟩ hb => ⟨A, c, hv, hc, h w w' A xs hr hb⟩
def Rh := Hl.Hs
def Rs := fun w A xs => Rw Sw.eW w A xs
def Rk := Sn.Ks
def Rp := fun w A xs => Rw Pb.eP w A xs
def Rc := fun w A xs => Rw Cs.eA w A xs
theorem hld_h : Hld Rh := fun _ _ _ _ h hb => Hl.Hs.below h hb
theorem hld_s : Hld Rs := fun _ _ _ _ h hb => Rw.below h hb
theorem hld_k : Hld Rk := fun _ _ _ _ h hb => Sn.Ks.below h hb
theorem hld_p : Hld Rp := fun _ _ _ _ h hb => Rw.below h hb
theorem hld_c : Hld Rc := fun _ _ _ _ h hb => Rw.below h hb
def TP {α : Type} (R : World → Option Addr → List α → Prop) (w : World) (ys : List α) (q : Int) (e : Ending) (w' : World) : Prop := ∃ A cap, e = .returned (.tuple #[.slice A ys.length cap, .int .i64 q]) ∧ ys.length ≤ cap ∧ R w' A ys ∧ Below w.heap.size w w'
theorem calls_tF {α : Type} {R : World → Option Addr → List α → Prop} {f : FuncId} {args : Array Value} {W : World} {ys : List α} {q : Int} {Φ : List (Value → World → Prop)} {i : Nat} (h : Calls Tryz.prog f args W (TP R W ys q)) (hi : fAt Φ i = tF R ys q) :
    Calls Tryz.prog f args W fun e w' => ∃ v, e = .returned v ∧ Below W.heap.size W w' ∧ fAt Φ i v w' := by
  rw [hi]
  exact h.mono fun e w' ⟨A, cap, he, hc, hr, hb⟩ => ⟨_, he, hb, A, cap, rfl, hc, hr⟩
theorem tp_c {f : FuncId} {args : Array Value} {W : World} {ys : List Cs.Ca} {q : Int} (h : Calls Tryz.prog f args W (Cs.OutPost W ys q)) : Calls Tryz.prog f args W (TP Rc W ys q) := h.mono fun _ _ ⟨A, cap, he, hc, hr, hb⟩ => ⟨A, cap, he, hc, hr, hb⟩
theorem tp_s {f : FuncId} {args : Array Value} {W : World} {ys : List Sw.Sw} {q : Int} (h : Calls Tryz.prog f args W (Sw.OutPost W ys q)) : Calls Tryz.prog f args W (TP Rs W ys q) := h.mono fun _ _ ⟨A, cap, he, hc, _, hr, hb⟩ => ⟨A, cap, he, hc, hr, hb⟩
theorem tp_h {f : FuncId} {args : Array Value} {W : World} {ys : List Hl.Hr} {q : Int} (h : Calls Tryz.prog f args W (Hl.OutPost W ys q)) : Calls Tryz.prog f args W (TP Rh W ys q) := h.mono fun _ _ ⟨A, cap, he, hc, _, hr, hb⟩ => ⟨A, cap, he, hc, hr, hb⟩
theorem tp_k {f : FuncId} {args : Array Value} {W : World} {ys : List Sn.Kp} {q : Int} (h : Calls Tryz.prog f args W (Sn.OutPost W ys q)) : Calls Tryz.prog f args W (TP Rk W ys q) := h.mono fun _ _ ⟨v, he, hb, A, cap, hv, hc, _, hr⟩ => ⟨A, cap, by rw [he, hv], hc, hr, hb⟩
end Go.Proofs.YtilneflfeegnfaaGreat
namespace Go.Proofs.YtilneflfeegnfaaGreat
open Go.RowKit
def RP {α : Type} (R : World → Option Addr → List α → Prop) (w : World) (ys : List α) (e : Ending) (w' : World) : Prop := ∃ A cap, e = .returned (.slice A ys.length cap) ∧ ys.length ≤ cap ∧ R w' A ys ∧ Below w.heap.size w w'
theorem own_rp {α : Type} {E : El α} {T : TypeId} {w : World} {xs : List α} {e : Ending} {w' : World} (h : OwnPost E T w xs e w') (hn : xs.length ≤ 1000000) : RP (fun w A xs => Rw E w A xs) w xs e w' := by
  obtain ⟨v, he, ho, hb⟩ := h
  obtain ⟨A, cap, rfl, hc, -, -, hr, -⟩ := own_rw (E := E) ho (by omega)
  exact ⟨A, cap, he, hc, hr, hb⟩
theorem cloneC (A : Option Addr) (xs : List Cs.Ca) (c : Nat) (w : World) (h : Rc w A xs) (hn : xs.length ≤ 1000) (hc : xs.length ≤ c) : Calls Tryz.prog 55 #[.slice A xs.length c] w (RP Rc w xs) := (Cs.clone_any A xs c w h (by omega) hc).mono fun _ _ k => own_rp k (by omega)
theorem cloneW (A : Option Addr) (xs : List Sw.Sw) (c : Nat) (w : World) (h : Rs w A xs) (hn : xs.length ≤ 1000) (hc : xs.length ≤ c) : Calls Tryz.prog 51 #[.slice A xs.length c] w (RP Rs w xs) := (Sw.clone_any A xs c w h (by omega) hc).mono fun _ _ k => own_rp k (by omega)
set_option maxRecDepth 100000 in
set_option maxHeartbeats 2000000 in
theorem cloneP (A : Option Addr) (xs : List Pb.Pr) (c : Nat) (w : World) (h : Rp w A xs) (hn : xs.length ≤ 1000) (hc : xs.length ≤ c) : Calls Tryz.prog 54 #[.slice A xs.length c] w (RP Rp w xs) := by
  have HN := fun W => Lib.run_eql_slice_nil (P := Tryz.prog) W 32 97 A xs.length c 0 0 Tryz.underlying32
  rcases A with _ | y
  · obtain rfl : xs = [] := rw_none h
    clear h hn
    simp only [List.length_nil, Option.isNone_none] at HN ⊢
    go_enter Tryz.func54, Tryz.ntmps54
    go_wp2_with fail
    go_ret
    exact ⟨none, 0, rfl, by simp, Rw.nil _ _, Below.refl _ _⟩
  · have R := Lib.hid (hld_p _ _ _ _ (show Rp w (some y) xs from h) ((Below.refl _ w).alloc (Nat.le_refl _) (.cells #[] 97)))
    have HO := Lib.hid (World.ownsRow_made (e := 97) (size := 5) (base := w.heap.size) w #[] 0 (Nat.le_refl _) (by unfold maxLen; omega) rfl)
    have HB := Lib.hid (show Below w.heap.size w (w.alloc (.cells #[] 97)) from (Below.refl _ w).alloc (Nat.le_refl _) _)
    obtain ⟨L, hL⟩ : ∃ L, xs.length = L := ⟨_, rfl⟩
    have HL := Lib.hid hL
    have HOK := Lib.hid (show True from trivial)
    rw [hL] at hn hc HN
    unfold RP
    rw [hL]
    clear hL h
    go_enter Tryz.func54, Tryz.ntmps54
    go_wp2_with (at_builtin; refine Pb.wpList_append_rw Pb.tP _ rfl (.tmp 5) (.tmp 6) rfl w.heap.size _ 0 [] (by simp [Act.eval, Act.put]) HO.out (some y) L c xs (by simp [Act.eval, Act.put]) HL.out.symm R.out (by omega) (by simp) ?_)
    intro v2 w2 ho2 hg2
    have O2 := Lib.hid ho2
    have B2 := Lib.hid (HB.out.grown hg2 (by simp) (fun j hj => (HO.out.lt j hj).1))
    clear ho2 hg2
    go_wp2_with fail
    go_ret
    have O3 := O2.out
    obtain ⟨A3, c3, rfl, hc3, -, -, hr3, -⟩ := own_rw (E := Pb.eP) O3 (by have := HL.out; omega)
    exact ⟨A3, c3, by rw [HL.out]; rfl, by have := HL.out; omega, hr3, B2.out⟩
set_option maxRecDepth 100000 in
set_option maxHeartbeats 2000000 in
theorem cloneH (A : Option Addr) (xs : List Hl.Hr) (c : Nat) (w : World) (h : Rh w A xs) (hn : xs.length ≤ 1000) (hc : xs.length ≤ c) : Calls Tryz.prog 50 #[.slice A xs.length c] w (RP Rh w xs) := by
  have HN := fun W => Lib.run_eql_slice_nil (P := Tryz.prog) W 29 44 A xs.length c 0 0 Tryz.underlying29
  rcases A with _ | y
  · obtain rfl : xs = [] := by
      rcases Nat.eq_zero_or_pos xs.length with h0 | h0
      · exact List.eq_nil_of_length_eq_zero h0
      · obtain ⟨x, hx⟩ := Hl.hs_some h h0
        cases hx
    clear h hn
    simp only [List.length_nil, Option.isNone_none] at HN ⊢
    go_enter Tryz.func50, Tryz.ntmps50
    go_wp2_with fail
    go_ret
    exact ⟨none, 0, rfl, by simp, Hl.Hs.nil _ _, Below.refl _ _⟩
  · have R := Lib.hid (hld_h _ _ _ _ (show Rh w (some y) xs from h) ((Below.refl _ w).alloc (Nat.le_refl _) (.cells #[] 44)))
    have HO := Lib.hid (World.ownsRow_made (e := 44) (size := 8) (base := w.heap.size) w #[] 0 (Nat.le_refl _) (by unfold maxLen; omega) rfl)
    have HB := Lib.hid (show Below w.heap.size w (w.alloc (.cells #[] 44)) from (Below.refl _ w).alloc (Nat.le_refl _) _)
    obtain ⟨L, hL⟩ : ∃ L, xs.length = L := ⟨_, rfl⟩
    have HL := Lib.hid hL
    have HOK := Lib.hid (show ∀ x ∈ xs, x.ok from fun x hx => by
      obtain ⟨q, hq, rfl⟩ := List.mem_iff_getElem.1 hx
      exact (h.2 q _ (List.getElem?_eq_getElem hq)).1)
    rw [hL] at hn hc HN
    unfold RP
    rw [hL]
    clear hL h
    go_enter Tryz.func50, Tryz.ntmps50
    go_wp2_with (at_builtin; refine Hl.wpList_append_hs _ rfl (.tmp 5) (.tmp 6) rfl w.heap.size _ 0 [] (by simp [Act.eval, Act.put]) HO.out (some y) L c xs (by simp [Act.eval, Act.put]) HL.out.symm R.out (by omega) (by simp) ?_)
    intro v2 w2 ho2 hg2
    have O2 := Lib.hid ho2
    have B2 := Lib.hid (HB.out.grown hg2 (by simp) (fun j hj => (HO.out.lt j hj).1))
    clear ho2 hg2
    go_wp2_with fail
    go_ret
    have O3 := O2.out
    obtain ⟨A3, c3, rfl, hc3, -, -, hr3, -⟩ := Hl.own_hs O3 HOK.out (by have := HL.out; omega)
    exact ⟨A3, c3, by rw [HL.out]; rfl, by have := HL.out; omega, hr3, B2.out⟩
set_option maxRecDepth 100000 in
set_option maxHeartbeats 2000000 in
theorem rep_h (x : Stt) (r : Rws) (A : Option Addr) (ys : List Hl.Hr) (cap : Nat) (er : Int) (b : Nat) (w : World) (H : Sb w b (stl x r)) (h : Lie w x r) (hr : Rh w A ys) (hc : ys.length ≤ cap) :
    Calls Tryz.prog 62 #[.pointer (some ⟨b, 2, none⟩), .slice A ys.length cap, .int .i64 er] w (PP w b (if er = 0 then { x with hs := ys } else x) (.returned (.int .i64 er))) := by
  obtain ⟨n, q, hs, sw, kn, pb, cs⟩ := x
  obtain ⟨A1, c1, A2, c2, A3, c3, A4, c4, A5, c5⟩ := r
  simp only [stl] at H
  have S0 := Lib.hid H
  have R0 := Lib.hid h
  have RR := Lib.hid hr
  clear H h hr
  by_cases h0 : er = 0
  · subst h0
    rw [if_pos rfl]
    go_enter Tryz.func62, Tryz.ntmps62
    go_wp2_with (refine at_fieldSt 29 _ _ b [.int .i64 n, .int .i64 q] (.slice A1 hs.length c1) (.slice A ys.length cap) [.slice A2 sw.length c2, .slice A3 kn.length c3, .slice A4 pb.length c4, .slice A5 cs.length c5] S0.out sizeRh rfl (ns_sl _ _ _) rfl rfl rfl rfl rfl ?_)
    intro w3 S3 hb3 hk3
    have R3 := Lib.hid (show Lie w3 ⟨n, q, ys, sw, kn, pb, cs⟩ ⟨A, cap, A2, c2, A3, c3, A4, c4, A5, c5⟩ from
      { R0.out.apart S0.out.bs hk3.out with h := hs_apart RR.out S0.out.bs hk3.out, hc := hc })
    go_wp2_with fail
    go_ret
    exact ⟨rfl, ⟨⟨A, cap, A2, c2, A3, c3, A4, c4, A5, c5⟩, S3.out, R3.out⟩, Ob.put hb3.out hk3.out⟩
  · rw [if_neg h0]
    go_enter Tryz.func62, Tryz.ntmps62
    go_wp2_with fail
    go_ret
    exact ⟨rfl, ⟨⟨A1, c1, A2, c2, A3, c3, A4, c4, A5, c5⟩, S0.out, R0.out⟩, Ob.refl _ _⟩
set_option maxRecDepth 100000 in
set_option maxHeartbeats 2000000 in
theorem rep_s (x : Stt) (r : Rws) (A : Option Addr) (ys : List Sw.Sw) (cap : Nat) (er : Int) (b : Nat) (w : World) (H : Sb w b (stl x r)) (h : Lie w x r) (hr : Rs w A ys) (hc : ys.length ≤ cap) :
    Calls Tryz.prog 64 #[.pointer (some ⟨b, 3, none⟩), .slice A ys.length cap, .int .i64 er] w (PP w b (if er = 0 then { x with sw := ys } else x) (.returned (.int .i64 er))) := by
  obtain ⟨n, q, hs, sw, kn, pb, cs⟩ := x
  obtain ⟨A1, c1, A2, c2, A3, c3, A4, c4, A5, c5⟩ := r
  simp only [stl] at H
  have S0 := Lib.hid H
  have R0 := Lib.hid h
  have RR := Lib.hid hr
  clear H h hr
  by_cases h0 : er = 0
  · subst h0
    rw [if_pos rfl]
    go_enter Tryz.func64, Tryz.ntmps64
    go_wp2_with (refine at_fieldSt 30 _ _ b [.int .i64 n, .int .i64 q, .slice A1 hs.length c1] (.slice A2 sw.length c2) (.slice A ys.length cap) [.slice A3 kn.length c3, .slice A4 pb.length c4, .slice A5 cs.length c5] S0.out sizeRs rfl (ns_sl _ _ _) rfl rfl rfl rfl rfl ?_)
    intro w3 S3 hb3 hk3
    have R3 := Lib.hid (show Lie w3 ⟨n, q, hs, ys, kn, pb, cs⟩ ⟨A1, c1, A, cap, A3, c3, A4, c4, A5, c5⟩ from
      { R0.out.apart S0.out.bs hk3.out with s := rw_apart mk_W RR.out S0.out.bs hk3.out, sc := hc })
    go_wp2_with fail
    go_ret
    exact ⟨rfl, ⟨⟨A1, c1, A, cap, A3, c3, A4, c4, A5, c5⟩, S3.out, R3.out⟩, Ob.put hb3.out hk3.out⟩
  · rw [if_neg h0]
    go_enter Tryz.func64, Tryz.ntmps64
    go_wp2_with fail
    go_ret
    exact ⟨rfl, ⟨⟨A1, c1, A2, c2, A3, c3, A4, c4, A5, c5⟩, S0.out, R0.out⟩, Ob.refl _ _⟩
set_option maxRecDepth 100000 in
set_option maxHeartbeats 2000000 in
theorem rep_k (x : Stt) (r : Rws) (A : Option Addr) (ys : List Sn.Kp) (cap : Nat) (er : Int) (b : Nat) (w : World) (H : Sb w b (stl x r)) (h : Lie w x r) (hr : Rk w A ys) (hc : ys.length ≤ cap) :
    Calls Tryz.prog 107 #[.pointer (some ⟨b, 4, none⟩), .slice A ys.length cap, .int .i64 er] w (PP w b (if er = 0 then { x with kn := ys } else x) (.returned (.int .i64 er))) := by
  obtain ⟨n, q, hs, sw, kn, pb, cs⟩ := x
  obtain ⟨A1, c1, A2, c2, A3, c3, A4, c4, A5, c5⟩ := r
  simp only [stl] at H
  have S0 := Lib.hid H
  have R0 := Lib.hid h
  have RR := Lib.hid hr
  clear H h hr
  by_cases h0 : er = 0
  · subst h0
    rw [if_pos rfl]
    go_enter Tryz.func107, Tryz.ntmps107
    go_wp2_with (refine at_fieldSt 31 _ _ b [.int .i64 n, .int .i64 q, .slice A1 hs.length c1, .slice A2 sw.length c2] (.slice A3 kn.length c3) (.slice A ys.length cap) [.slice A4 pb.length c4, .slice A5 cs.length c5] S0.out sizeRk rfl (ns_sl _ _ _) rfl rfl rfl rfl rfl ?_)
    intro w3 S3 hb3 hk3
    have R3 := Lib.hid (show Lie w3 ⟨n, q, hs, sw, ys, pb, cs⟩ ⟨A1, c1, A2, c2, A, cap, A4, c4, A5, c5⟩ from
      { R0.out.apart S0.out.bs hk3.out with k := ks_apart RR.out S0.out.bs hk3.out, kc := hc })
    go_wp2_with fail
    go_ret
    exact ⟨rfl, ⟨⟨A1, c1, A2, c2, A, cap, A4, c4, A5, c5⟩, S3.out, R3.out⟩, Ob.put hb3.out hk3.out⟩
  · rw [if_neg h0]
    go_enter Tryz.func107, Tryz.ntmps107
    go_wp2_with fail
    go_ret
    exact ⟨rfl, ⟨⟨A1, c1, A2, c2, A3, c3, A4, c4, A5, c5⟩, S0.out, R0.out⟩, Ob.refl _ _⟩
set_option maxRecDepth 100000 in
set_option maxHeartbeats 2000000 in
theorem rep_c (x : Stt) (r : Rws) (A : Option Addr) (ys : List Cs.Ca) (cap : Nat) (er : Int) (b : Nat) (w : World) (H : Sb w b (stl x r)) (h : Lie w x r) (hr : Rc w A ys) (hc : ys.length ≤ cap) :
    Calls Tryz.prog 66 #[.pointer (some ⟨b, 6, none⟩), .slice A ys.length cap, .int .i64 er] w (PP w b (if er = 0 then { x with cs := ys } else x) (.returned (.int .i64 er))) := by
  obtain ⟨n, q, hs, sw, kn, pb, cs⟩ := x
  obtain ⟨A1, c1, A2, c2, A3, c3, A4, c4, A5, c5⟩ := r
  simp only [stl] at H
  have S0 := Lib.hid H
  have R0 := Lib.hid h
  have RR := Lib.hid hr
  clear H h hr
  by_cases h0 : er = 0
  · subst h0
    rw [if_pos rfl]
    go_enter Tryz.func66, Tryz.ntmps66
    go_wp2_with (refine at_fieldSt 33 _ _ b [.int .i64 n, .int .i64 q, .slice A1 hs.length c1, .slice A2 sw.length c2, .slice A3 kn.length c3, .slice A4 pb.length c4] (.slice A5 cs.length c5) (.slice A ys.length cap) [] S0.out sizeRc rfl (ns_sl _ _ _) rfl rfl rfl rfl rfl ?_)
    intro w3 S3 hb3 hk3
    have R3 := Lib.hid (show Lie w3 ⟨n, q, hs, sw, kn, pb, ys⟩ ⟨A1, c1, A2, c2, A3, c3, A4, c4, A, cap⟩ from
      { R0.out.apart S0.out.bs hk3.out with c := rw_apart mk_A RR.out S0.out.bs hk3.out, cc := hc })
    go_wp2_with fail
    go_ret
    exact ⟨rfl, ⟨⟨A1, c1, A2, c2, A3, c3, A4, c4, A, cap⟩, S3.out, R3.out⟩, Ob.put hb3.out hk3.out⟩
  · rw [if_neg h0]
    go_enter Tryz.func66, Tryz.ntmps66
    go_wp2_with fail
    go_ret
    exact ⟨rfl, ⟨⟨A1, c1, A2, c2, A3, c3, A4, c4, A5, c5⟩, S0.out, R0.out⟩, Ob.refl _ _⟩
end Go.Proofs.YtilneflfeegnfaaGreat
namespace Go.Proofs.YtilneflfeegnfaaGreat
open Go.RowKit
set_option maxRecDepth 100000 in
set_option maxHeartbeats 4000000 in
theorem status_any (c : Cf) (x : Stt) (r : Rws) (a : Int) (w : World) (h : Lie w x r) (hz : Sz x) (hcd : c.c ≤ 1099511627776) (ha0 : 0 ≤ a) (ha1 : a < 4294967296) :
    Calls Tryz.prog 19 #[cfv c, stv x r, .int .u32 a] w fun e w' => e = .returned (.int .i64 (hoO c x a)) ∧ Below w.heap.size w w' := by
  have HG := Lib.hid fun W (hW : Lie W x r) => Hl.get_any a r.h x.hs r.hc W hW.h hW.hc ha0 ha1
  have HO := Lib.hid fun W (hW : Lie W x r) => Sn.of_any a r.k x.kn r.kc W hW.k hW.kc (fun y hy => Nat.le_trans (hz.k.2 y hy) (by omega)) ha0 ha1
  have HSL := Sn.sg_le (n := 1000) (fun y hy => hz.k.2 y hy) a
  have R := Lib.hid h
  have HQ := Lib.hid (show hoO c x a = _ from by unfold hoO; rfl)
  obtain ⟨n, q, hs, sw, kn, pb, cs⟩ := x
  obtain ⟨A1, c1, A2, c2, A3, c3, A4, c4, A5, c5⟩ := r
  have HB0 := Lib.hid (show Below w.heap.size w ((w.alloc (Cfx c)).alloc (Stx ⟨n, q, hs, sw, kn, pb, cs⟩ ⟨A1, c1, A2, c2, A3, c3, A4, c4, A5, c5⟩)) from ((Below.refl _ w).alloc (Nat.le_refl _) _).alloc (by simp) _)
  have HC0 := Lib.hid ((cm_box w c).below ((Below.refl _ (w.alloc (Cfx c))).alloc (Nat.le_refl _) (Stx ⟨n, q, hs, sw, kn, pb, cs⟩ ⟨A1, c1, A2, c2, A3, c3, A4, c4, A5, c5⟩)))
  have HS0 := Lib.hid (st_box (w.alloc (Cfx c)) ⟨n, q, hs, sw, kn, pb, cs⟩ ⟨A1, c1, A2, c2, A3, c3, A4, c4, A5, c5⟩)
  have R0 := Lib.hid (R.out.below HB0.out)
  have e1 : (w.alloc (Cfx c)).heap.size = w.heap.size + 1 := by simp
  rw [e1] at HS0
  simp only [stv]
  dsimp only at HG HO HQ HSL
  have HVV := Lib.hid fun (h : Option (Nat × Su.Mc)) (ss : List Sn.Sg) (hl : ss.length ≤ 1000000) A cap W (hm : Su.HP W h) (hr : Rw Sn.eS W A ss ∧ ss.length ≤ cap) => stOf_any c h A ss cap n W hm hr.1 hr.2 hl hcd
  obtain ⟨xa, xb, xc, xd, xe, xf, xg, xh, xi⟩ := c
  simp only [cfv, Cfx, Stx] at HB0 HC0 HS0 R0 HVV ⊢
  clear h hz e1
  go_enter Tryz.func19, Tryz.ntmps19
  go_wp2_with fail
  change Calls _ _ _ ((w.alloc (.cells #[.int .i64 xa, .int .i64 xb, .int .i64 xc, .int .i64 xd, .int .i64 xe, .int .i64 xf, .int .i64 xg, .int .i64 xh, .int .i64 xi] 27)).alloc (.cells #[.int .i64 n, .int .i64 q, .slice A1 hs.length c1, .slice A2 sw.length c2, .slice A3 kn.length c3, .slice A4 pb.length c4, .slice A5 cs.length c5] 35)) _
  generalize (w.alloc (.cells #[.int .i64 xa, .int .i64 xb, .int .i64 xc, .int .i64 xd, .int .i64 xe, .int .i64 xf, .int .i64 xg, .int .i64 xh, .int .i64 xi] 27)).alloc (.cells #[.int .i64 n, .int .i64 q, .slice A1 hs.length c1, .slice A2 sw.length c2, .slice A3 kn.length c3, .slice A4 pb.length c4, .slice A5 cs.length c5] 35) = W0 at *
  obtain ⟨ss, hss⟩ : ∃ ss, Sn.sg kn a = ss := ⟨_, rfl⟩
  rw [hss] at HQ HO HSL
  clear hss
  refine (HO.out _ R0.out).mono ?_
  rintro e w5 ⟨v, rfl, hb, A7, c7, rfl, h7a, -, h7b⟩
  have B5 := Lib.hid (bthen HB0.out hb HB0.out.size)
  have C5 := Lib.hid (HC0.out.below hb)
  have S5 := Lib.hid (HS0.out.below hb)
  have R5 := Lib.hid (R0.out.below hb)
  have R7a := Lib.hid h7a
  have h7 := Lib.hid h7b
  clear hb HO R0 HS0 HC0 HB0 R h7a h7b
  have k2 := S5.out.key 2 _ rfl
  go_wp2_with fail
  refine (HG.out _ R5.out).mono ?_
  rintro e w2 ⟨rfl, hb⟩
  clear k2
  have B2 := Lib.hid (bthen B5.out hb B5.out.size)
  have C2 := Lib.hid (C5.out.below hb)
  have S2 := Lib.hid (S5.out.below hb)
  have h72 := Lib.hid (h7.out.below hb)
  clear hb HG R5 S5 C5 B5 h7
  obtain ⟨y, hy⟩ : ∃ y, Hl.gt hs a = y := ⟨_, rfl⟩
  obtain ⟨b, hb'⟩ : ∃ b, Hl.isAt hs a = b := ⟨_, rfl⟩
  rw [hy, hb'] at HQ
  rw [hy, hb']
  obtain ⟨a', o, m0, m1, m2, m3, m4, m5⟩ := y
  simp only [Hl.hv]
  clear hy hb'
  have BX := Lib.hid (show Below w2.heap.size w2 (w2.alloc (.cells #[.int .u32 a', .string o, .int .u8 m0, .int .u8 m1, .int .u8 m2, .int .u8 m3, .int .u8 m4, .int .u8 m5] 44)) from (Below.refl _ w2).alloc (Nat.le_refl _) _)
  have H1 := Lib.hid (show Su.Hm (w2.alloc (.cells #[.int .u32 a', .string o, .int .u8 m0, .int .u8 m1, .int .u8 m2, .int .u8 m3, .int .u8 m4, .int .u8 m5] 44)) w2.heap.size ⟨m0, m1, m2, m3, m4, m5⟩ from ⟨by simp, by simp, by simp, by simp, by simp, by simp, by simp⟩)
  have B1 := Lib.hid (bthen B2.out BX.out B2.out.size)
  have C1 := C2.out.below BX.out
  have R7b := Lib.hid (h72.out.below BX.out)
  have k9 := (S2.out.below BX.out).key 0 _ rfl
  have k0 := C1.c0
  have k1 := C1.c1
  have k2 := C1.c2
  have k3 := C1.c3
  have k4 := C1.c4
  have k5 := C1.c5
  have k6 := C1.c6
  have k7 := C1.c7
  have k8 := C1.c8
  dsimp only at k0 k1 k2 k3 k4 k5 k6 k7 k8
  clear B2 C2 S2 BX C1 h72
  have HV0 := Lib.hid fun A cap W hm hr => HVV.out none ss (by omega) A cap W hm hr
  have HV1 := Lib.hid fun A cap W hm hr => HVV.out (some (w2.heap.size, ⟨m0, m1, m2, m3, m4, m5⟩)) ss (by omega) A cap W hm hr
  simp only [Su.hp, Option.map] at HV0 HV1
  cases b
  · have HV := HV0
    simp only [Bool.false_eq_true, if_false] at HQ
    clear HV0 HV1 HVV
    go_wp2_with fail
    change Calls _ _ _ (w2.alloc (.cells #[.int .u32 a', .string o, .int .u8 m0, .int .u8 m1, .int .u8 m2, .int .u8 m3, .int .u8 m4, .int .u8 m5] 44)) _
    generalize w2.alloc (.cells #[.int .u32 a', .string o, .int .u8 m0, .int .u8 m1, .int .u8 m2, .int .u8 m3, .int .u8 m4, .int .u8 m5] 44) = W1 at *
    refine (HV.out A7 c7 W1 trivial ⟨R7b.out, R7a.out⟩).mono ?_
    rintro e w4 ⟨rfl, hb⟩
    go_wp2_with fail
    go_ret
    exact ⟨ret_int HQ.out.symm, bthen B1.out hb B1.out.size⟩
  · have HV := HV1
    simp only [if_true, hmc] at HQ
    clear HV0 HV1 HVV
    go_wp2_with fail
    change Calls _ _ _ (w2.alloc (.cells #[.int .u32 a', .string o, .int .u8 m0, .int .u8 m1, .int .u8 m2, .int .u8 m3, .int .u8 m4, .int .u8 m5] 44)) _
    generalize w2.alloc (.cells #[.int .u32 a', .string o, .int .u8 m0, .int .u8 m1, .int .u8 m2, .int .u8 m3, .int .u8 m4, .int .u8 m5] 44) = W1 at *
    refine (HV.out A7 c7 W1 H1.out ⟨R7b.out, R7a.out⟩).mono ?_
    rintro e w4 ⟨rfl, hb⟩
    go_wp2_with fail
    go_ret
    exact ⟨ret_int HQ.out.symm, bthen B1.out hb B1.out.size⟩
end Go.Proofs.YtilneflfeegnfaaGreat
namespace Go.Proofs.YtilneflfeegnfaaGreat
open Go.RowKit
def tkS (x : Stt) (a : Int) : Stt := if Hl.takeC x.hs a = 0 then { x with hs := Hl.takeR x.hs a } else x
set_option maxRecDepth 100000 in
set_option maxHeartbeats 4000000 in
theorem cancelS_any (x : Stt) (r : Rws) (a : Int) (b : Nat) (w : World) (H : Sb w b (stl x r)) (h : Lie w x r) (hc9 : x.cs.length ≤ 900) :
    Calls Tryz.prog 105 #[.pointer (some ⟨b, 0, none⟩), .int .u32 a] w (PP w b (stpO x a) (.returned (.tuple #[]))) := by
  have HCA := Lib.hid fun W (hW : Lie W x r) => tp_c (Cs.cancel_any x.now a r.c x.cs r.cc W hW.c hW.cc hc9)
  have HQ := Lib.hid (show stpO x a = _ from by unfold stpO; rfl)
  have S0 := Lib.hid H
  have R0 := Lib.hid h
  obtain ⟨n, q, hs, sw, kn, pb, cs⟩ := x
  obtain ⟨A1, c1, A2, c2, A3, c3, A4, c4, A5, c5⟩ := r
  dsimp only at HCA HQ
  obtain ⟨⟨ys, er⟩, hE⟩ : ∃ E, Cs.stO (fun _ => true) 4 n a cs = E := ⟨_, rfl⟩
  rw [hE] at HCA HQ
  dsimp only at HCA HQ
  have K6 := Lib.hid fun W hS => (S0.out.below (w' := W) hS).cx.key 6 _ rfl
  have K0 := Lib.hid fun W hS => (S0.out.below (w' := W) hS).cx.key 0 _ rfl
  have REP := Lib.hid fun A cap W H h hr hc => rep_c ⟨n, q, hs, sw, kn, pb, cs⟩ ⟨A1, c1, A2, c2, A3, c3, A4, c4, A5, c5⟩ A ys cap er b W H h hr hc
  dsimp only at K6 K0
  clear H h hE hc9
  go_enter Tryz.func105, Tryz.ntmps105
  go_wp2_with fail
  refine wp_region_below [fx (.pointer (some ⟨b, 0, none⟩)), fx (.pointer (some ⟨b, 0, none⟩)), fx (.pointer (some ⟨b, 6, none⟩)), fx (.slice A5 cs.length c5), fx (.int .u32 a), fx (.pointer (some ⟨b, 0, none⟩)), fx (.pointer (some ⟨b, 0, none⟩)), fx (.pointer (some ⟨b, 0, none⟩)), fx (.int .i64 n), tF Rc ys er, tF Rc ys er, rF Rc ys, fx (.int .i64 er), rF Rc ys, fx (.int .i64 er)]
    (by kernel_rfl) (by kernel_rfl) (by kernel_rfl) ?_ ?_ ?_
  · simp only [List.mem_cons, List.not_mem_nil, or_false]
    rintro φ (rfl | rfl | rfl | rfl | rfl | rfl | rfl | rfl | rfl | rfl | rfl | rfl | rfl | rfl | rfl)
    all_goals first | exact stable_fx _ | exact stable_rF hld_h _ | exact stable_rF hld_s _ | exact stable_rF hld_k _ | exact stable_rF hld_p _ | exact stable_rF hld_c _ | exact stable_tF hld_h _ _ | exact stable_tF hld_s _ _ | exact stable_tF hld_k _ _ | exact stable_tF hld_p _ _ | exact stable_tF hld_c _ _
  · refine OgSteps.cons ?_ (OgSteps.cons ?_ (OgSteps.cons ?_ (OgSteps.cons ?_ (OgSteps.cons ?_ (OgSteps.cons ?_ (OgSteps.cons ?_ (OgSteps.cons ?_ (OgSteps.cons ?_ (OgSteps.cons ?_ (OgSteps.cons ?_ (OgSteps.cons ?_ (OgSteps.cons ?_ (OgSteps.cons ?_ (OgSteps.cons ?_ (OgSteps.nil)))))))))))))))
    · refine OgStep.pure ?_ ?_
      · rfl
      intro u W hS hp
      refine ⟨.pointer (some ⟨b, 0, none⟩), ?_, rfl⟩
      simp only [ogMk, Act.put, List.setIfInBounds_toArray, List.set_cons_zero, List.set_cons_succ, Nat.zero_add, Nat.reduceAdd, List.take_succ_cons, List.take_zero, List.drop_succ_cons, List.drop_zero]
      simp [execOp, Act.eval, go_sem]
    · refine OgStep.pure ?_ ?_
      · rfl
      intro u W hS hp
      have h0 : u 0 = .pointer (some ⟨b, 0, none⟩) := hp ⟨0, .data⟩ (by simp) rfl
      refine ⟨.pointer (some ⟨b, 0, none⟩), ?_, rfl⟩
      simp only [ogMk, Act.put, List.setIfInBounds_toArray, List.set_cons_zero, List.set_cons_succ, Nat.zero_add, Nat.reduceAdd, List.take_succ_cons, List.take_zero, List.drop_succ_cons, List.drop_zero]
      simp [execOp, Act.eval, go_sem, h0]
    · refine OgStep.pure ?_ ?_
      · rfl
      intro u W hS hp
      have h1 : u 1 = .pointer (some ⟨b, 0, none⟩) := hp ⟨1, .data⟩ (by simp) rfl
      refine ⟨.pointer (some ⟨b, 6, none⟩), ?_, rfl⟩
      simp only [ogMk, Act.put, List.setIfInBounds_toArray, List.set_cons_zero, List.set_cons_succ, Nat.zero_add, Nat.reduceAdd, List.take_succ_cons, List.take_zero, List.drop_succ_cons, List.drop_zero]
      simp [execOp, Act.eval, go_sem, h1]
    · refine OgStep.pure ?_ ?_
      · rfl
      intro u W hS hp
      have h2 : u 2 = .pointer (some ⟨b, 6, none⟩) := hp ⟨2, .data⟩ (by simp) rfl
      have k6 := K6.out W hS
      refine ⟨.slice A5 cs.length c5, ?_, rfl⟩
      simp only [ogMk, Act.put, List.setIfInBounds_toArray, List.set_cons_zero, List.set_cons_succ, Nat.zero_add, Nat.reduceAdd, List.take_succ_cons, List.take_zero, List.drop_succ_cons, List.drop_zero]
      simp [execOp, Act.eval, go_sem, h2, k6]
    · refine OgStep.pure ?_ ?_
      · rfl
      intro u W hS hp
      refine ⟨.int .u32 a, ?_, rfl⟩
      simp only [ogMk, Act.put, List.setIfInBounds_toArray, List.set_cons_zero, List.set_cons_succ, Nat.zero_add, Nat.reduceAdd, List.take_succ_cons, List.take_zero, List.drop_succ_cons, List.drop_zero]
      simp [execOp, Act.eval, go_sem]
    · refine OgStep.pure ?_ ?_
      · rfl
      intro u W hS hp
      refine ⟨.pointer (some ⟨b, 0, none⟩), ?_, rfl⟩
      simp only [ogMk, Act.put, List.setIfInBounds_toArray, List.set_cons_zero, List.set_cons_succ, Nat.zero_add, Nat.reduceAdd, List.take_succ_cons, List.take_zero, List.drop_succ_cons, List.drop_zero]
      simp [execOp, Act.eval, go_sem]
    · refine OgStep.pure ?_ ?_
      · rfl
      intro u W hS hp
      have h5 : u 5 = .pointer (some ⟨b, 0, none⟩) := hp ⟨5, .data⟩ (by simp) rfl
      refine ⟨.pointer (some ⟨b, 0, none⟩), ?_, rfl⟩
      simp only [ogMk, Act.put, List.setIfInBounds_toArray, List.set_cons_zero, List.set_cons_succ, Nat.zero_add, Nat.reduceAdd, List.take_succ_cons, List.take_zero, List.drop_succ_cons, List.drop_zero]
      simp [execOp, Act.eval, go_sem, h5]
    · refine OgStep.pure ?_ ?_
      · rfl
      intro u W hS hp
      have h6 : u 6 = .pointer (some ⟨b, 0, none⟩) := hp ⟨6, .data⟩ (by simp) rfl
      refine ⟨.pointer (some ⟨b, 0, none⟩), ?_, rfl⟩
      simp only [ogMk, Act.put, List.setIfInBounds_toArray, List.set_cons_zero, List.set_cons_succ, Nat.zero_add, Nat.reduceAdd, List.take_succ_cons, List.take_zero, List.drop_succ_cons, List.drop_zero]
      simp [execOp, Act.eval, go_sem, h6]
    · refine OgStep.pure ?_ ?_
      · rfl
      intro u W hS hp
      have h7 : u 7 = .pointer (some ⟨b, 0, none⟩) := hp ⟨7, .data⟩ (by simp) rfl
      have k0 := K0.out W hS
      refine ⟨.int .i64 n, ?_, rfl⟩
      simp only [ogMk, Act.put, List.setIfInBounds_toArray, List.set_cons_zero, List.set_cons_succ, Nat.zero_add, Nat.reduceAdd, List.take_succ_cons, List.take_zero, List.drop_succ_cons, List.drop_zero]
      simp [execOp, Act.eval, go_sem, h7, k0]
    · refine OgStep.calls ?_ ?_
      · rfl
      intro u W hS hp
      have h3 : u 3 = .slice A5 cs.length c5 := hp ⟨3, .data⟩ (by simp) rfl
      have h4 : u 4 = .int .u32 a := hp ⟨4, .data⟩ (by simp) rfl
      have h8 : u 8 = .int .i64 n := hp ⟨8, .data⟩ (by simp) rfl
      refine ⟨74, #[.slice A5 cs.length c5, .int .u32 a, .int .i64 n], ?_, calls_tF (HCA.out W (R0.out.below hS)) rfl⟩
      simp only [ogMk, Act.put, List.setIfInBounds_toArray, List.set_cons_zero, List.set_cons_succ, Nat.zero_add, Nat.reduceAdd, List.take_succ_cons, List.take_zero, List.drop_succ_cons, List.drop_zero]
      simp [execOp, Act.eval, go_sem, h3, h4, h8]
    · refine OgStep.pure ?_ ?_
      · rfl
      intro u W hS hp
      obtain ⟨A7, c7, e7, h7⟩ : tF Rc ys er (u 9) W := hp ⟨9, .data⟩ (by simp) rfl
      refine ⟨.tuple #[.slice A7 ys.length c7, .int .i64 er], ?_, ⟨A7, c7, rfl, h7⟩⟩
      simp only [ogMk, Act.put, List.setIfInBounds_toArray, List.set_cons_zero, List.set_cons_succ, Nat.zero_add, Nat.reduceAdd, List.take_succ_cons, List.take_zero, List.drop_succ_cons, List.drop_zero]
      simp [execOp, Act.eval, go_sem, e7]
    · refine OgStep.pure ?_ ?_
      · rfl
      intro u W hS hp
      obtain ⟨A7, c7, e7, h7⟩ : tF Rc ys er (u 10) W := hp ⟨10, .data⟩ (by simp) rfl
      refine ⟨.slice A7 ys.length c7, ?_, ⟨A7, c7, rfl, h7⟩⟩
      simp only [ogMk, Act.put, List.setIfInBounds_toArray, List.set_cons_zero, List.set_cons_succ, Nat.zero_add, Nat.reduceAdd, List.take_succ_cons, List.take_zero, List.drop_succ_cons, List.drop_zero]
      simp [execOp, Act.eval, go_sem, e7]
    · refine OgStep.pure ?_ ?_
      · rfl
      intro u W hS hp
      obtain ⟨A7, c7, e7, h7⟩ : tF Rc ys er (u 10) W := hp ⟨10, .data⟩ (by simp) rfl
      refine ⟨.int .i64 er, ?_, rfl⟩
      simp only [ogMk, Act.put, List.setIfInBounds_toArray, List.set_cons_zero, List.set_cons_succ, Nat.zero_add, Nat.reduceAdd, List.take_succ_cons, List.take_zero, List.drop_succ_cons, List.drop_zero]
      simp [execOp, Act.eval, go_sem, e7]
    · refine OgStep.pure ?_ ?_
      · rfl
      intro u W hS hp
      obtain ⟨A7, c7, e7, h7⟩ : rF Rc ys (u 11) W := hp ⟨11, .data⟩ (by simp) rfl
      refine ⟨.slice A7 ys.length c7, ?_, ⟨A7, c7, rfl, h7⟩⟩
      simp only [ogMk, Act.put, List.setIfInBounds_toArray, List.set_cons_zero, List.set_cons_succ, Nat.zero_add, Nat.reduceAdd, List.take_succ_cons, List.take_zero, List.drop_succ_cons, List.drop_zero]
      simp [execOp, Act.eval, go_sem, e7]
    · refine OgStep.pure ?_ ?_
      · rfl
      intro u W hS hp
      have h12 : u 12 = .int .i64 er := hp ⟨12, .data⟩ (by simp) rfl
      refine ⟨.int .i64 er, ?_, rfl⟩
      simp only [ogMk, Act.put, List.setIfInBounds_toArray, List.set_cons_zero, List.set_cons_succ, Nat.zero_add, Nat.reduceAdd, List.take_succ_cons, List.take_zero, List.drop_succ_cons, List.drop_zero]
      simp [execOp, Act.eval, go_sem, h12]
  · intro u W hS hF
    have e0 : u 0 = .pointer (some ⟨b, 0, none⟩) := hF 0 (by decide)
    have e1 : u 1 = .pointer (some ⟨b, 0, none⟩) := hF 1 (by decide)
    have e2 : u 2 = .pointer (some ⟨b, 6, none⟩) := hF 2 (by decide)
    have e3 : u 3 = .slice A5 cs.length c5 := hF 3 (by decide)
    have e4 : u 4 = .int .u32 a := hF 4 (by decide)
    have e5 : u 5 = .pointer (some ⟨b, 0, none⟩) := hF 5 (by decide)
    have e6 : u 6 = .pointer (some ⟨b, 0, none⟩) := hF 6 (by decide)
    have e7 : u 7 = .pointer (some ⟨b, 0, none⟩) := hF 7 (by decide)
    have e8 : u 8 = .int .i64 n := hF 8 (by decide)
    have e12 : u 12 = .int .i64 er := hF 12 (by decide)
    have e14 : u 14 = .int .i64 er := hF 14 (by decide)
    obtain ⟨A6, c6, e13, hc6, hR6⟩ : rF Rc ys (u 13) W := hF 13 (by decide)
    simp only [ogMk, Act.put, List.setIfInBounds_toArray, List.set_cons_zero, List.set_cons_succ, Nat.zero_add, Nat.reduceAdd, List.take_succ_cons, List.take_zero, List.drop_succ_cons, List.drop_zero]
    rw [e0, e1, e2, e3, e4, e5, e6, e7, e8, e12, e14, e13]
    clear e0 e1 e2 e3 e4 e5 e6 e7 e8 e12 e14 e13 hF
    have HS := Lib.hid hS
    have R1 := Lib.hid (R0.out.below hS)
    have S1 := Lib.hid (S0.out.below hS)
    clear hS
    go_wp2_with fail
    refine (REP.out A6 c6 W S1.out R1.out hR6 hc6).mono ?_
    rintro e w2 ⟨rfl, hst, O2⟩
    go_wp2_with fail
    go_end0
    refine ⟨rfl, ?_, (Ob.of HS.out S0.out.lt).trans O2⟩
    rw [HQ.out]
    exact hst
set_option maxRecDepth 100000 in
set_option maxHeartbeats 4000000 in
theorem takeS_any (x : Stt) (r : Rws) (a : Int) (b : Nat) (w : World) (H : Sb w b (stl x r)) (h : Lie w x r) (hx9 : x.hs.length ≤ 900) (ha0 : 0 ≤ a) (ha1 : a < 4294967296) :
    Calls Tryz.prog 104 #[.pointer (some ⟨b, 0, none⟩), .int .u32 a] w (PP w b (tkS x a) (.returned (.int .i64 (Hl.takeC x.hs a)))) := by
  have HCA := Lib.hid fun W (hW : Lie W x r) => tp_h (Hl.take_any a r.h x.hs r.hc W hW.h hW.hc hx9 ha0 ha1)
  have HQ := Lib.hid (show tkS x a = _ from by unfold tkS; rfl)
  have S0 := Lib.hid H
  have R0 := Lib.hid h
  obtain ⟨n, q, hs, sw, kn, pb, cs⟩ := x
  obtain ⟨A1, c1, A2, c2, A3, c3, A4, c4, A5, c5⟩ := r
  dsimp only at HCA HQ ⊢
  obtain ⟨ys, hys⟩ : ∃ ys, Hl.takeR hs a = ys := ⟨_, rfl⟩
  obtain ⟨er, her⟩ : ∃ er, Hl.takeC hs a = er := ⟨_, rfl⟩
  rw [hys, her] at HCA HQ
  rw [her]
  have REP := Lib.hid fun A cap W H h hr hc => rep_h ⟨n, q, hs, sw, kn, pb, cs⟩ ⟨A1, c1, A2, c2, A3, c3, A4, c4, A5, c5⟩ A ys cap er b W H h hr hc
  have k2 := S0.out.cx.key 2 _ rfl
  clear H h hys her hx9
  go_enter Tryz.func104, Tryz.ntmps104
  go_wp2_with fail
  refine (HCA.out _ R0.out).mono ?_
  rintro e w1 ⟨A6, c6, rfl, hc6, hR6, hb⟩
  have R1 := Lib.hid (R0.out.below hb)
  have S1 := Lib.hid (S0.out.below hb)
  have HS := Lib.hid hb
  clear hb k2
  go_wp2_with fail
  refine (REP.out A6 c6 w1 S1.out R1.out hR6 hc6).mono ?_
  rintro e w2 ⟨rfl, hst, O2⟩
  go_wp2_with fail
  go_ret
  refine ⟨rfl, ?_, (Ob.of HS.out S0.out.lt).trans O2⟩
  rw [HQ.out]
  exact hst
def drS (x : Stt) (a : Int) : Stt := if Hl.takeC x.hs a = 0 then stpO { x with hs := Hl.takeR x.hs a } a else x
set_option maxRecDepth 100000 in
set_option maxHeartbeats 4000000 in
theorem dropS_any (x : Stt) (r : Rws) (a : Int) (b : Nat) (w : World) (H : Sb w b (stl x r)) (h : Lie w x r) (hx9 : x.hs.length ≤ 900) (hc9 : x.cs.length ≤ 900) (ha0 : 0 ≤ a) (ha1 : a < 4294967296) :
    Calls Tryz.prog 63 #[.pointer (some ⟨b, 0, none⟩), .int .u32 a] w (PP w b (drS x a) (.returned (.int .i64 (Hl.takeC x.hs a)))) := by
  have TK := Lib.hid (takeS_any x r a b w H h hx9 ha0 ha1)
  have CN := Lib.hid fun y r W H (h : Lie W y r) hc => cancelS_any y r a b W H h hc
  have HQ := Lib.hid (show drS x a = _ from by unfold drS; rfl)
  have HT := Lib.hid (show tkS x a = _ from by unfold tkS; rfl)
  have HC := Lib.hid hc9
  obtain ⟨er, her⟩ : ∃ er, Hl.takeC x.hs a = er := ⟨_, rfl⟩
  rw [her] at TK HQ HT ⊢
  clear H h her hc9 hx9
  go_enter Tryz.func63, Tryz.ntmps63
  go_wp2_with fail
  refine TK.out.mono ?_
  rintro e w1 ⟨rfl, ⟨r1, S1, R1⟩, O1⟩
  by_cases h0 : er = 0
  · subst h0
    rw [if_pos rfl] at HQ HT
    rw [HT.out] at S1 R1
    have S1 := Lib.hid S1
    have R1 := Lib.hid R1
    have O1 := Lib.hid O1
    go_wp2_with fail
    refine (CN.out _ r1 w1 S1.out R1.out HC.out).mono ?_
    rintro e w2 ⟨rfl, hst, O2⟩
    go_wp2_with fail
    go_ret
    refine ⟨rfl, ?_, O1.out.trans O2⟩
    rw [HQ.out]
    exact hst
  · rw [if_neg h0] at HQ HT
    rw [HT.out] at S1 R1
    go_wp2_with fail
    go_ret
    refine ⟨rfl, ?_, O1⟩
    rw [HQ.out]
    exact ⟨r1, S1, R1⟩
end Go.Proofs.YtilneflfeegnfaaGreat
namespace Go.Proofs.YtilneflfeegnfaaGreat
open Go.RowKit
structure In (x : Stt) : Prop where
  n0 : 0 ≤ x.now
  n1 : x.now ≤ 1099511627776
  q0 : 0 ≤ x.seq
  q1 : x.seq < 65536
  hs : Hl.Srt x.hs
  hm : ∀ y ∈ x.hs, Hl.mayB y.T = true
  hl : x.hs.length ≤ 48
  ha : ∀ y ∈ x.hs, 0 ≤ y.a ∧ y.a < 4294967296
  sv : Sw.V x.sw
  kv : Sn.V x.kn
  kt : ∀ y ∈ x.kn, ∀ s ∈ y.ss, 0 ≤ s.t ∧ s.t ≤ x.now
  ka : ∀ y ∈ x.kn, 0 ≤ y.a ∧ y.a < 4294967296
  pv : Pb.V x.pb
  cv : Cs.Vn (x.cs, x.now)
theorem in_zst : In zst := ⟨by decide, by decide, by decide, by decide, Hl.Srt.nil, fun y hy => (by cases hy), by decide, fun y hy => (by cases hy), Sw.V.nil, Sn.V.nil, fun y hy => (by cases hy), fun y hy => (by cases hy), Pb.V.nil, Cs.Vn.nil⟩
theorem In.c16 {x : Stt} (h : In x) : x.cs.length ≤ 16 := h.cv.v.r.few
theorem In.p16 {x : Stt} (h : In x) : x.pb.length ≤ 16 := h.pv.r.few
theorem In.sz {x : Stt} (h : In x) : Sz x := ⟨by have := h.hl; omega, h.sv.r.few, h.sv.sv, h.kv.bd, by have := h.p16; omega, h.pv.n, by have := h.c16; omega⟩
theorem In.right {x : Stt} (h : In x) : rgS x = true := by
  unfold rgS
  rw [Hl.Srt.right h.hs h.hm h.hl, h.kv.right, (Sw.rg_iff _).2 h.sv.r, (Pb.rg_iff _).2 h.pv.r, Cs.rg_ok h.cv.v.r]
  simp [h.n0, h.n1, h.q0, h.q1]
theorem In.cs' {x : Stt} (h : In x) {ys : List Cs.Ca} (hv : Cs.Vn (ys, x.now)) : In { x with cs := ys } := { h with cv := hv }
theorem In.pb' {x : Stt} (h : In x) {ys : List Pb.Pr} (hv : Pb.V ys) : In { x with pb := ys } := { h with pv := hv }
theorem In.sw' {x : Stt} (h : In x) {ys : List Sw.Sw} (hv : Sw.V ys) : In { x with sw := ys } := { h with sv := hv }
theorem In.seq' {x : Stt} (h : In x) {q : Int} (h0 : 0 ≤ q) (h1 : q < 65536) : In { x with seq := q } := { h with q0 := h0, q1 := h1 }
theorem In.stop {x : Stt} (h : In x) (a : Int) : In (stpO x a) := by
  unfold stpO
  split
  · rename_i he
    exact h.cs' (Cs.st_ok h.cv h.n1 (by omega) (by omega) he)
  · exact h
theorem In.step {x : Stt} (h : In x) {ck : Int → Bool} {tg a : Int} (t0 : 1 ≤ tg) (t1 : tg ≤ 5) (he : (Cs.stO ck tg x.now a x.cs).2 = 0) : In { x with cs := (Cs.stO ck tg x.now a x.cs).1 } := h.cs' (Cs.st_ok h.cv h.n1 t0 t1 he)
theorem tk_zero {xs : List Hl.Hr} {a : Int} (h : Hl.takeC xs a = 0) : Hl.isAt xs a = true ∧ Hl.takeR xs a = Hl.del xs a := by
  unfold Hl.takeC at h
  by_cases hi : Hl.isAt xs a = true
  · exact ⟨hi, by unfold Hl.takeR; rw [if_pos hi]⟩
  · rw [if_neg hi] at h; cases h
theorem In.take {x : Stt} (h : In x) {a : Int} (he : Hl.takeC x.hs a = 0) : In { x with hs := Hl.takeR x.hs a } := by
  obtain ⟨hi, hr⟩ := tk_zero he
  rw [hr]
  have hd := Hl.del_length hi
  have hl := h.hl
  have hm : ∀ y ∈ Hl.del x.hs a, y ∈ x.hs := fun y hy => ((h.hs.mem_del hi).1 hy).1
  exact { h with hs := h.hs.del a, hm := fun y hy => h.hm y (hm y hy), hl := (by show (Hl.del x.hs a).length ≤ 48; omega), ha := fun y hy => h.ha y (hm y hy) }
theorem In.tk {x : Stt} (h : In x) (a : Int) : In (tkS x a) := by
  unfold tkS
  split
  · rename_i he; exact h.take he
  · exact h
theorem In.put {x : Stt} (h : In x) {y : Hl.Hr} (ho : y.ok) (he : Hl.putC x.hs y = 0) : In { x with hs := Hl.putR x.hs y } := by
  obtain ⟨h1, h2, h3, h4⟩ := Hl.put_zero he
  rw [h4]
  have hd := Hl.ins_length x.hs y
  exact { h with hs := h.hs.ins h2, hm := fun z hz => (by rcases Hl.mem_ins.1 hz with rfl | hz; exact h3; exact h.hm z hz), hl := (by show (Hl.ins x.hs y).length ≤ 48; omega), ha := fun z hz => (by rcases Hl.mem_ins.1 hz with rfl | hz; exact ⟨ho.1, ho.2.1⟩; exact h.ha z hz) }
theorem In.watch {x : Stt} (h : In x) {b n : Int} (h0 : 0 ≤ b) (h1 : b < 4294967296) (he : Sw.putC x.sw b n = 0) : In { x with sw := Sw.putR x.sw b n x.now } := h.sw' (Sw.put_ok h.sv h0 h1 he).1
theorem In.ignore {x : Stt} (h : In x) {b n : Int} (he : Sw.takeC x.sw b n = 0) : In { x with sw := Sw.takeR x.sw b n } := h.sw' (Sw.take_ok h.sv he).1
theorem kp_mem {ss : List Sn.Sg} {s t : Sn.Sg} (h : t ∈ Sn.kp ss s) : t ∈ ss ∨ t = s := by
  unfold Sn.kp at h
  rcases List.mem_append.1 h with h | h
  · exact Or.inl (List.mem_of_mem_drop h)
  · exact Or.inr (by simpa using h)
theorem In.know {x : Stt} (h : In x) {a : Int} {s : Sn.Sg} (h0 : 0 ≤ a) (h1 : a < 4294967296) (hs : s.t = x.now) (he : Sn.putC x.kn a s = 0) : In { x with kn := Sn.putR x.kn a s } := by
  rw [(Sn.put_zero he).1]
  refine { h with kv := h.kv.put he, kt := fun y hy t ht => ?_, ka := fun y hy => ?_ }
  · rcases h.kv.srt.mem_ins.1 hy with rfl | ⟨hy, -⟩
    · rcases kp_mem ht with ht | rfl
      · by_cases hi : Sn.isAt x.kn a = true
        · exact h.kt _ (Sn.isAt_mem hi) t ht
        · rw [Sn.sg_no (by simpa using hi)] at ht; cases ht
      · show 0 ≤ t.t ∧ t.t ≤ x.now
        rw [hs]; exact ⟨h.n0, Int.le_refl _⟩
    · exact h.kt y hy t ht
  · rcases h.kv.srt.mem_ins.1 hy with rfl | ⟨hy, -⟩
    · exact ⟨h0, h1⟩
    · exact h.ka y hy
theorem In.filt {x : Stt} (h : In x) (p : Sn.Kp → Bool) : In { x with kn := x.kn.filter p } := { h with kv := h.kv.filter p, kt := fun y hy => h.kt y (List.mem_filter.1 hy).1, ka := fun y hy => h.ka y (List.mem_filter.1 hy).1 }
theorem In.t1 {x : Stt} (h : In x) (c : Cf) : In (t1 c x) := by
  have h0 := h.n0
  have h1 := h.n1
  have hv : Cs.Vn (Cs.tkO c.h (min (x.now + 1) 1099511627776) x.cs, min (x.now + 1) 1099511627776) := by
    obtain ⟨t, ht, ht0⟩ : ∃ t, min (x.now + 1) 1099511627776 = x.now + t ∧ 0 ≤ t := ⟨min (x.now + 1) 1099511627776 - x.now, by omega, by omega⟩
    rw [ht]
    exact Cs.tick_ok h.cv (by omega) ht0
  exact { h with n0 := (by show 0 ≤ min (x.now + 1) 1099511627776; omega), n1 := (by show min (x.now + 1) 1099511627776 ≤ 1099511627776; omega), kt := fun y hy s hs => (by have := h.kt y hy s hs; show 0 ≤ s.t ∧ s.t ≤ min (x.now + 1) 1099511627776; omega), cv := hv }
theorem stale_held {c : Cf} {x : Stt} {a : Int} (h : hoO c x a = 3) : Hl.isAt x.hs a = true := by
  by_cases hi : Hl.isAt x.hs a = true
  · exact hi
  · exfalso
    rw [Bool.not_eq_true] at hi
    unfold hoO at h
    rw [hi] at h
    simp only [Bool.false_eq_true, if_false] at h
    unfold Su.stO at h
    split at h
    · cases h
    · dsimp only at h
      split at h <;> cases h
def dnS (x : Stt) (a : Int) : Stt := if (Cs.stO (fun g => g == 1) 5 x.now a x.cs).2 = 0 then { x with cs := (Cs.stO (fun g => g == 1) 5 x.now a x.cs).1 } else x
theorem In.dn {x : Stt} (h : In x) (a : Int) : In (dnS x a) := by
  unfold dnS
  split
  · rename_i he; exact h.step (by omega) (by omega) he
  · exact h
def stlS (c : Cf) (x : Stt) (a : Int) : Stt := if hoO c x a = 3 then tkS (dnS x a) a else stpO x a
theorem In.stl {x : Stt} (h : In x) (c : Cf) (a : Int) : In (stlS c x a) := by
  unfold stlS
  split
  · exact (h.dn a).tk a
  · exact h.stop a
def gbk (c : Cf) (x : Stt) (k : Cs.Ca) : Stt := if k.g = 1 then stlS c x k.a else x
theorem In.gbk {x : Stt} (h : In x) (c : Cf) (k : Cs.Ca) : In (gbk c x k) := by
  unfold Go.Proofs.YtilneflfeegnfaaGreat.gbk
  split
  · exact h.stl c k.a
  · exact h
theorem foldIn {α : Type} {f : Stt → α → Stt} (P : α → Prop) (hf : ∀ x a, In x → P a → In (f x a)) : ∀ (l : List α) (x : Stt), In x → (∀ a ∈ l, P a) → In (l.foldl f x)
  | [], _, h, _ => h
  | a :: l, x, h, hp => foldIn P hf l _ (hf x a h (hp a (by simp))) fun b hb => hp b (by simp [hb])
theorem In.t3h {x : Stt} (h : In x) (c : Cf) (y : Hl.Hr) (h0 : 0 ≤ y.a) (h1 : y.a < 4294967296) : In (t3h c x y) := by
  unfold Go.Proofs.YtilneflfeegnfaaGreat.t3h
  split
  · rename_i he; exact h.cs' (Cs.rs_ok h.cv h.n1 h0 h1 he.2)
  · exact h
theorem In.t3 {x : Stt} (h : In x) (c : Cf) : In (t3 c x) := foldIn (fun y : Hl.Hr => 0 ≤ y.a ∧ y.a < 4294967296) (fun x y hx hy => hx.t3h c y hy.1 hy.2) x.hs x h h.ha
theorem In.t4 {x : Stt} (h : In x) (c : Cf) : In (t4 c x) := h.filt _
theorem In.t5q {s : Stt × List Pb.Pk} (h : In s.1) {a : Int} (h0 : 0 ≤ a) (h1 : a < 4294967296) : In (t5q s a).1 := by
  have n0 := h.n0
  have n1 := h.n1
  unfold Go.Proofs.YtilneflfeegnfaaGreat.t5q
  split
  · rename_i he
    have hv := Pb.put_ok h.pv (Pb.rq_in rfl (by dsimp only; omega) (by dsimp only; omega) n0 n1 (by dsimp only; omega) (by dsimp only; omega)) h0 h1 he
    refine (h.seq' (q := (s.1.seq + 1) % 65536) (by omega) (by omega)).pb' (ys := Pb.putR s.1.pb ⟨a, a % 65536, (s.1.seq + 1) % 65536, s.1.now, 0⟩) ?_
    unfold Pb.putR
    rw [if_pos he]
    exact hv
  · exact h.seq' (by omega) (by omega)
theorem fold5 : ∀ (l : List Int) (s : Stt × List Pb.Pk), In s.1 → (∀ a ∈ l, 0 ≤ a ∧ a < 4294967296) → In (l.foldl t5q s).1
  | [], _, h, _ => h
  | a :: l, s, h, hp => fold5 l _ (h.t5q (hp a (by simp)).1 (hp a (by simp)).2) fun b hb => hp b (by simp [hb])
theorem p2_le {x : Sw.Sw} (h : Sw.Sv x) : x.a + Sw.p2 x.b ≤ 4294967296 := by
  obtain ⟨h0, h1, h2⟩ := Sw.ok_out h.ok
  have h3 := (Sw.p2_24 h0 h1).1 h.p
  have h4 := h.a1
  have h5 : x.b = 24 ∨ x.b = 25 ∨ x.b = 26 ∨ x.b = 27 ∨ x.b = 28 ∨ x.b = 29 ∨ x.b = 30 ∨ x.b = 31 ∨ x.b = 32 := by omega
  rcases h5 with e | e | e | e | e | e | e | e | e <;> rw [e] at h2 ⊢
  · rw [show Sw.p2 24 = 256 from by decide] at *; omega
  · rw [show Sw.p2 25 = 128 from by decide] at *; omega
  · rw [show Sw.p2 26 = 64 from by decide] at *; omega
  · rw [show Sw.p2 27 = 32 from by decide] at *; omega
  · rw [show Sw.p2 28 = 16 from by decide] at *; omega
  · rw [show Sw.p2 29 = 8 from by decide] at *; omega
  · rw [show Sw.p2 30 = 4 from by decide] at *; omega
  · rw [show Sw.p2 31 = 2 from by decide] at *; omega
  · rw [show Sw.p2 32 = 1 from by decide] at *; omega
theorem plan_in {xs : List Sw.Sw} (h : Sw.V xs) (every now room : Int) : ∀ a ∈ (Sw.planO xs every now room).2, 0 ≤ a ∧ a < 4294967296 := by
  intro a ha
  have ho := Sw.ord_is xs now
  have hk := Sw.planL_asks h every room (Sw.ord xs now) (Sw.ord_nodup ho) (fun i hi => ((ho.mem i).1 hi).1) (Sw.ord xs now).length (Nat.le_refl _)
  rw [List.take_length] at hk
  obtain ⟨i, -, x, hx, h1, h2⟩ := hk.2 a ha
  have hs := h.sv x (List.mem_of_getElem? hx)
  have := p2_le hs
  have := hs.a0
  omega
theorem In.t5 {x : Stt} (h : In x) (c : Cf) (hg : c.g ≤ 8) : In (t5 c x).1 := by
  unfold Go.Proofs.YtilneflfeegnfaaGreat.t5
  exact fold5 _ _ ((h.pb' (Pb.lt_ok h.pv hg)).sw' (Sw.planO_ok h.sv _ _ _).1) (plan_in h.sv _ _ _)
end Go.Proofs.YtilneflfeegnfaaGreat
namespace Go.Proofs.YtilneflfeegnfaaGreat
open Go.RowKit
set_option maxRecDepth 100000 in
set_option maxHeartbeats 4000000 in
theorem settleS_any (c : Cf) (x : Stt) (r : Rws) (a : Int) (b : Nat) (w : World) (H : Sb w b (stl x r)) (h : Lie w x r) (hi : In x) (hcd : c.c ≤ 1099511627776) (ha0 : 0 ≤ a) (ha1 : a < 4294967296) :
    Calls Tryz.prog 98 #[cfv c, .pointer (some ⟨b, 0, none⟩), .int .u32 a] w (PP w b (stlS c x a) (.returned (.tuple #[]))) := by
  have B0 := Lib.hid (show Below w.heap.size w (w.alloc (Cfx c)) from (Below.refl _ w).alloc (Nat.le_refl _) _)
  have C0 := Lib.hid (cm_box w c)
  have S0 := Lib.hid (H.below B0.out)
  have R0 := Lib.hid (h.below B0.out)
  have LT := Lib.hid H.lt
  have O0 := Lib.hid (Ob.of B0.out H.lt)
  have HST := Lib.hid fun W hW => status_any c x r a W hW hi.sz hcd ha0 ha1
  have HDN := Lib.hid fun W (hW : Lie W x r) => tp_c (Cs.done_any x.now a r.c x.cs r.cc W hW.c hW.cc hi.sz.c)
  have CN := Lib.hid fun W H h => cancelS_any x r a b W H h hi.sz.c
  have TK := Lib.hid fun r' W H h => takeS_any (dnS x a) r' a b W H h (hi.dn a).sz.h ha0 ha1
  have HQ := Lib.hid (show stlS c x a = _ from by unfold stlS; rfl)
  have HD := Lib.hid (show dnS x a = _ from by unfold dnS; rfl)
  obtain ⟨V, hV⟩ : ∃ V, hoO c x a = V := ⟨_, rfl⟩
  rw [hV] at HST HQ
  clear h H hi hV
  obtain ⟨n, q, hs, sw, kn, pb, cs⟩ := x
  obtain ⟨A1, c1, A2, c2, A3, c3, A4, c4, A5, c5⟩ := r
  dsimp only at HDN HD
  obtain ⟨⟨ys, er⟩, hE⟩ : ∃ E, Cs.stO (fun g => g == 1) 5 n a cs = E := ⟨_, rfl⟩
  rw [hE] at HDN HD
  dsimp only at HDN HD
  have REP := Lib.hid fun A cap W H h hr hc => rep_c ⟨n, q, hs, sw, kn, pb, cs⟩ ⟨A1, c1, A2, c2, A3, c3, A4, c4, A5, c5⟩ A ys cap er b W H h hr hc
  obtain ⟨xa, xb, xc, xd, xe, xf, xg, xh, xi⟩ := c
  simp only [cfv, Cfx, stv] at B0 C0 S0 R0 O0 HST ⊢
  clear hE
  go_enter Tryz.func98, Tryz.ntmps98
  go_wp2_with fail
  change (Code.region _ _ _).wp _ _ _ (w.alloc (.cells #[.int .i64 xa, .int .i64 xb, .int .i64 xc, .int .i64 xd, .int .i64 xe, .int .i64 xf, .int .i64 xg, .int .i64 xh, .int .i64 xi] 27))
  generalize w.alloc (.cells #[.int .i64 xa, .int .i64 xb, .int .i64 xc, .int .i64 xd, .int .i64 xe, .int .i64 xf, .int .i64 xg, .int .i64 xh, .int .i64 xi] 27) = W0 at *
  refine wp_region_below_tail 6 [fx (.agg #[.int .i64 xa, .int .i64 xb, .int .i64 xc, .int .i64 xd, .int .i64 xe, .int .i64 xf, .int .i64 xg, .int .i64 xh, .int .i64 xi]), fx (.pointer (some ⟨b, 0, none⟩)), fx (.pointer (some ⟨b, 0, none⟩)), fx (.agg #[.int .i64 n, .int .i64 q, .slice A1 hs.length c1, .slice A2 sw.length c2, .slice A3 kn.length c3, .slice A4 pb.length c4, .slice A5 cs.length c5]), fx (.int .u32 a), fx (.int .i64 V)]
    (by kernel_rfl) (by simp) (by kernel_rfl) (by kernel_rfl) (by kernel_rfl) ?_ ?_ ?_
  · simp only [List.mem_cons, List.not_mem_nil, or_false]
    rintro φ (rfl | rfl | rfl | rfl | rfl | rfl)
    all_goals first | exact stable_fx _ | exact stable_rF hld_h _ | exact stable_rF hld_s _ | exact stable_rF hld_k _ | exact stable_rF hld_p _ | exact stable_rF hld_c _ | exact stable_tF hld_h _ _ | exact stable_tF hld_s _ _ | exact stable_tF hld_k _ _ | exact stable_tF hld_p _ _ | exact stable_tF hld_c _ _
  · refine OgSteps.cons ?_ (OgSteps.cons ?_ (OgSteps.cons ?_ (OgSteps.cons ?_ (OgSteps.cons ?_ (OgSteps.cons ?_ (OgSteps.nil))))))
    · refine OgStep.pure ?_ ?_
      · rfl
      intro u W hS hp
      have C := C0.out.below hS
      have k0 := C.c0
      have k1 := C.c1
      have k2 := C.c2
      have k3 := C.c3
      have k4 := C.c4
      have k5 := C.c5
      have k6 := C.c6
      have k7 := C.c7
      have k8 := C.c8
      dsimp only at k0 k1 k2 k3 k4 k5 k6 k7 k8
      refine ⟨.agg #[.int .i64 xa, .int .i64 xb, .int .i64 xc, .int .i64 xd, .int .i64 xe, .int .i64 xf, .int .i64 xg, .int .i64 xh, .int .i64 xi], ?_, rfl⟩
      simp only [ogMk, Act.put, List.setIfInBounds_toArray, List.set_cons_zero, List.set_cons_succ, Nat.zero_add, Nat.reduceAdd, List.take_succ_cons, List.take_zero, List.drop_succ_cons, List.drop_zero]
      simp [execOp, Act.eval, go_sem, k0, k1, k2, k3, k4, k5, k6, k7, k8]
    · refine OgStep.pure ?_ ?_
      · rfl
      intro u W hS hp
      refine ⟨.pointer (some ⟨b, 0, none⟩), ?_, rfl⟩
      simp only [ogMk, Act.put, List.setIfInBounds_toArray, List.set_cons_zero, List.set_cons_succ, Nat.zero_add, Nat.reduceAdd, List.take_succ_cons, List.take_zero, List.drop_succ_cons, List.drop_zero]
      simp [execOp, Act.eval, go_sem]
    · refine OgStep.pure ?_ ?_
      · rfl
      intro u W hS hp
      have h1 : u 1 = .pointer (some ⟨b, 0, none⟩) := hp ⟨1, .data⟩ (by simp) rfl
      refine ⟨.pointer (some ⟨b, 0, none⟩), ?_, rfl⟩
      simp only [ogMk, Act.put, List.setIfInBounds_toArray, List.set_cons_zero, List.set_cons_succ, Nat.zero_add, Nat.reduceAdd, List.take_succ_cons, List.take_zero, List.drop_succ_cons, List.drop_zero]
      simp [execOp, Act.eval, go_sem, h1]
    · refine OgStep.pure ?_ ?_
      · rfl
      intro u W hS hp
      have h2 : u 2 = .pointer (some ⟨b, 0, none⟩) := hp ⟨2, .data⟩ (by simp) rfl
      have S := S0.out.below hS
      have j0 := S.cx.key 0 _ rfl
      have j1 := S.cx.key 1 _ rfl
      have j2 := S.cx.key 2 _ rfl
      have j3 := S.cx.key 3 _ rfl
      have j4 := S.cx.key 4 _ rfl
      have j5 := S.cx.key 5 _ rfl
      have j6 := S.cx.key 6 _ rfl
      dsimp only at j0 j1 j2 j3 j4 j5 j6
      refine ⟨.agg #[.int .i64 n, .int .i64 q, .slice A1 hs.length c1, .slice A2 sw.length c2, .slice A3 kn.length c3, .slice A4 pb.length c4, .slice A5 cs.length c5], ?_, rfl⟩
      simp only [ogMk, Act.put, List.setIfInBounds_toArray, List.set_cons_zero, List.set_cons_succ, Nat.zero_add, Nat.reduceAdd, List.take_succ_cons, List.take_zero, List.drop_succ_cons, List.drop_zero]
      simp [execOp, Act.eval, go_sem, h2, j0, j1, j2, j3, j4, j5, j6]
    · refine OgStep.pure ?_ ?_
      · rfl
      intro u W hS hp
      refine ⟨.int .u32 a, ?_, rfl⟩
      simp only [ogMk, Act.put, List.setIfInBounds_toArray, List.set_cons_zero, List.set_cons_succ, Nat.zero_add, Nat.reduceAdd, List.take_succ_cons, List.take_zero, List.drop_succ_cons, List.drop_zero]
      simp [execOp, Act.eval, go_sem]
    · refine OgStep.calls ?_ ?_
      · rfl
      intro u W hS hp
      have h0 : u 0 = .agg #[.int .i64 xa, .int .i64 xb, .int .i64 xc, .int .i64 xd, .int .i64 xe, .int .i64 xf, .int .i64 xg, .int .i64 xh, .int .i64 xi] := hp ⟨0, .data⟩ (by simp) rfl
      have h3 : u 3 = .agg #[.int .i64 n, .int .i64 q, .slice A1 hs.length c1, .slice A2 sw.length c2, .slice A3 kn.length c3, .slice A4 pb.length c4, .slice A5 cs.length c5] := hp ⟨3, .data⟩ (by simp) rfl
      have h4 : u 4 = .int .u32 a := hp ⟨4, .data⟩ (by simp) rfl
      refine ⟨19, #[.agg #[.int .i64 xa, .int .i64 xb, .int .i64 xc, .int .i64 xd, .int .i64 xe, .int .i64 xf, .int .i64 xg, .int .i64 xh, .int .i64 xi], .agg #[.int .i64 n, .int .i64 q, .slice A1 hs.length c1, .slice A2 sw.length c2, .slice A3 kn.length c3, .slice A4 pb.length c4, .slice A5 cs.length c5], .int .u32 a], ?_, calls_fx (HST.out W (R0.out.below hS)) rfl⟩
      simp only [ogMk, Act.put, List.setIfInBounds_toArray, List.set_cons_zero, List.set_cons_succ, Nat.zero_add, Nat.reduceAdd, List.take_succ_cons, List.take_zero, List.drop_succ_cons, List.drop_zero]
      simp [execOp, Act.eval, go_sem, h0, h3, h4]
  · intro u W hS hF
    have e0 : u 0 = .agg #[.int .i64 xa, .int .i64 xb, .int .i64 xc, .int .i64 xd, .int .i64 xe, .int .i64 xf, .int .i64 xg, .int .i64 xh, .int .i64 xi] := hF 0 (by decide)
    have e1 : u 1 = .pointer (some ⟨b, 0, none⟩) := hF 1 (by decide)
    have e2 : u 2 = .pointer (some ⟨b, 0, none⟩) := hF 2 (by decide)
    have e3 : u 3 = .agg #[.int .i64 n, .int .i64 q, .slice A1 hs.length c1, .slice A2 sw.length c2, .slice A3 kn.length c3, .slice A4 pb.length c4, .slice A5 cs.length c5] := hF 3 (by decide)
    have e4 : u 4 = .int .u32 a := hF 4 (by decide)
    have e5 : u 5 = .int .i64 V := hF 5 (by decide)
    simp only [ogMk, Act.put, List.setIfInBounds_toArray, List.set_cons_zero, List.set_cons_succ, Nat.zero_add, Nat.reduceAdd, List.take_succ_cons, List.take_zero, List.drop_succ_cons, List.drop_zero]
    rw [e0, e1, e2, e3, e4, e5]
    clear e0 e1 e2 e3 e4 e5 hF
    have HS := Lib.hid hS
    have LT0 := Lib.hid S0.out.lt
    have R1 := Lib.hid (R0.out.below hS)
    have S1 := Lib.hid (S0.out.below hS)
    have C1 := Lib.hid (C0.out.below hS)
    have LT1 := Lib.hid S1.out.lt
    clear hS
    by_cases h0 : V = 3
    · subst h0
      rw [if_pos rfl] at HQ
      go_wp2_with fail
      refine wp_region_below [fx (.pointer (some ⟨b, 0, none⟩)), fx (.pointer (some ⟨b, 0, none⟩)), fx (.pointer (some ⟨b, 6, none⟩)), fx (.slice A5 cs.length c5), fx (.int .u32 a), fx (.pointer (some ⟨b, 0, none⟩)), fx (.pointer (some ⟨b, 0, none⟩)), fx (.pointer (some ⟨b, 0, none⟩)), fx (.int .i64 n), tF Rc ys er, tF Rc ys er, rF Rc ys, fx (.int .i64 er), rF Rc ys, fx (.int .i64 er)]
        (by kernel_rfl) (by kernel_rfl) (by kernel_rfl) ?_ ?_ ?_
      · simp only [List.mem_cons, List.not_mem_nil, or_false]
        rintro φ (rfl | rfl | rfl | rfl | rfl | rfl | rfl | rfl | rfl | rfl | rfl | rfl | rfl | rfl | rfl)
        all_goals first | exact stable_fx _ | exact stable_rF hld_h _ | exact stable_rF hld_s _ | exact stable_rF hld_k _ | exact stable_rF hld_p _ | exact stable_rF hld_c _ | exact stable_tF hld_h _ _ | exact stable_tF hld_s _ _ | exact stable_tF hld_k _ _ | exact stable_tF hld_p _ _ | exact stable_tF hld_c _ _
      · refine OgSteps.cons ?_ (OgSteps.cons ?_ (OgSteps.cons ?_ (OgSteps.cons ?_ (OgSteps.cons ?_ (OgSteps.cons ?_ (OgSteps.cons ?_ (OgSteps.cons ?_ (OgSteps.cons ?_ (OgSteps.cons ?_ (OgSteps.cons ?_ (OgSteps.cons ?_ (OgSteps.cons ?_ (OgSteps.cons ?_ (OgSteps.cons ?_ (OgSteps.nil)))))))))))))))
        · refine OgStep.pure ?_ ?_
          · rfl
          intro u W hS hp
          refine ⟨.pointer (some ⟨b, 0, none⟩), ?_, rfl⟩
          simp only [ogMk, Act.put, List.setIfInBounds_toArray, List.set_cons_zero, List.set_cons_succ, Nat.zero_add, Nat.reduceAdd, List.take_succ_cons, List.take_zero, List.drop_succ_cons, List.drop_zero]
          simp [execOp, Act.eval, go_sem]
        · refine OgStep.pure ?_ ?_
          · rfl
          intro u W hS hp
          have h0 : u 0 = .pointer (some ⟨b, 0, none⟩) := hp ⟨0, .data⟩ (by simp) rfl
          refine ⟨.pointer (some ⟨b, 0, none⟩), ?_, rfl⟩
          simp only [ogMk, Act.put, List.setIfInBounds_toArray, List.set_cons_zero, List.set_cons_succ, Nat.zero_add, Nat.reduceAdd, List.take_succ_cons, List.take_zero, List.drop_succ_cons, List.drop_zero]
          simp [execOp, Act.eval, go_sem, h0]
        · refine OgStep.pure ?_ ?_
          · rfl
          intro u W hS hp
          have h1 : u 1 = .pointer (some ⟨b, 0, none⟩) := hp ⟨1, .data⟩ (by simp) rfl
          refine ⟨.pointer (some ⟨b, 6, none⟩), ?_, rfl⟩
          simp only [ogMk, Act.put, List.setIfInBounds_toArray, List.set_cons_zero, List.set_cons_succ, Nat.zero_add, Nat.reduceAdd, List.take_succ_cons, List.take_zero, List.drop_succ_cons, List.drop_zero]
          simp [execOp, Act.eval, go_sem, h1]
        · refine OgStep.pure ?_ ?_
          · rfl
          intro u W hS hp
          have h2 : u 2 = .pointer (some ⟨b, 6, none⟩) := hp ⟨2, .data⟩ (by simp) rfl
          have k6 := (S1.out.below hS).cx.key 6 _ rfl
          dsimp only at k6
          refine ⟨.slice A5 cs.length c5, ?_, rfl⟩
          simp only [ogMk, Act.put, List.setIfInBounds_toArray, List.set_cons_zero, List.set_cons_succ, Nat.zero_add, Nat.reduceAdd, List.take_succ_cons, List.take_zero, List.drop_succ_cons, List.drop_zero]
          simp [execOp, Act.eval, go_sem, h2, k6]
        · refine OgStep.pure ?_ ?_
          · rfl
          intro u W hS hp
          refine ⟨.int .u32 a, ?_, rfl⟩
          simp only [ogMk, Act.put, List.setIfInBounds_toArray, List.set_cons_zero, List.set_cons_succ, Nat.zero_add, Nat.reduceAdd, List.take_succ_cons, List.take_zero, List.drop_succ_cons, List.drop_zero]
          simp [execOp, Act.eval, go_sem]
        · refine OgStep.pure ?_ ?_
          · rfl
          intro u W hS hp
          refine ⟨.pointer (some ⟨b, 0, none⟩), ?_, rfl⟩
          simp only [ogMk, Act.put, List.setIfInBounds_toArray, List.set_cons_zero, List.set_cons_succ, Nat.zero_add, Nat.reduceAdd, List.take_succ_cons, List.take_zero, List.drop_succ_cons, List.drop_zero]
          simp [execOp, Act.eval, go_sem]
        · refine OgStep.pure ?_ ?_
          · rfl
          intro u W hS hp
          have h5 : u 5 = .pointer (some ⟨b, 0, none⟩) := hp ⟨5, .data⟩ (by simp) rfl
          refine ⟨.pointer (some ⟨b, 0, none⟩), ?_, rfl⟩
          simp only [ogMk, Act.put, List.setIfInBounds_toArray, List.set_cons_zero, List.set_cons_succ, Nat.zero_add, Nat.reduceAdd, List.take_succ_cons, List.take_zero, List.drop_succ_cons, List.drop_zero]
          simp [execOp, Act.eval, go_sem, h5]
        · refine OgStep.pure ?_ ?_
          · rfl
          intro u W hS hp
          have h6 : u 6 = .pointer (some ⟨b, 0, none⟩) := hp ⟨6, .data⟩ (by simp) rfl
          refine ⟨.pointer (some ⟨b, 0, none⟩), ?_, rfl⟩
          simp only [ogMk, Act.put, List.setIfInBounds_toArray, List.set_cons_zero, List.set_cons_succ, Nat.zero_add, Nat.reduceAdd, List.take_succ_cons, List.take_zero, List.drop_succ_cons, List.drop_zero]
          simp [execOp, Act.eval, go_sem, h6]
        · refine OgStep.pure ?_ ?_
          · rfl
          intro u W hS hp
          have h7 : u 7 = .pointer (some ⟨b, 0, none⟩) := hp ⟨7, .data⟩ (by simp) rfl
          have k0 := (S1.out.below hS).cx.key 0 _ rfl
          dsimp only at k0
          refine ⟨.int .i64 n, ?_, rfl⟩
          simp only [ogMk, Act.put, List.setIfInBounds_toArray, List.set_cons_zero, List.set_cons_succ, Nat.zero_add, Nat.reduceAdd, List.take_succ_cons, List.take_zero, List.drop_succ_cons, List.drop_zero]
          simp [execOp, Act.eval, go_sem, h7, k0]
        · refine OgStep.calls ?_ ?_
          · rfl
          intro u W hS hp
          have h3 : u 3 = .slice A5 cs.length c5 := hp ⟨3, .data⟩ (by simp) rfl
          have h4 : u 4 = .int .u32 a := hp ⟨4, .data⟩ (by simp) rfl
          have h8 : u 8 = .int .i64 n := hp ⟨8, .data⟩ (by simp) rfl
          refine ⟨67, #[.slice A5 cs.length c5, .int .u32 a, .int .i64 n], ?_, calls_tF (HDN.out W (R1.out.below hS)) rfl⟩
          simp only [ogMk, Act.put, List.setIfInBounds_toArray, List.set_cons_zero, List.set_cons_succ, Nat.zero_add, Nat.reduceAdd, List.take_succ_cons, List.take_zero, List.drop_succ_cons, List.drop_zero]
          simp [execOp, Act.eval, go_sem, h3, h4, h8]
        · refine OgStep.pure ?_ ?_
          · rfl
          intro u W hS hp
          obtain ⟨A7, c7, e7, h7⟩ : tF Rc ys er (u 9) W := hp ⟨9, .data⟩ (by simp) rfl
          refine ⟨.tuple #[.slice A7 ys.length c7, .int .i64 er], ?_, ⟨A7, c7, rfl, h7⟩⟩
          simp only [ogMk, Act.put, List.setIfInBounds_toArray, List.set_cons_zero, List.set_cons_succ, Nat.zero_add, Nat.reduceAdd, List.take_succ_cons, List.take_zero, List.drop_succ_cons, List.drop_zero]
          simp [execOp, Act.eval, go_sem, e7]
        · refine OgStep.pure ?_ ?_
          · rfl
          intro u W hS hp
          obtain ⟨A7, c7, e7, h7⟩ : tF Rc ys er (u 10) W := hp ⟨10, .data⟩ (by simp) rfl
          refine ⟨.slice A7 ys.length c7, ?_, ⟨A7, c7, rfl, h7⟩⟩
          simp only [ogMk, Act.put, List.setIfInBounds_toArray, List.set_cons_zero, List.set_cons_succ, Nat.zero_add, Nat.reduceAdd, List.take_succ_cons, List.take_zero, List.drop_succ_cons, List.drop_zero]
          simp [execOp, Act.eval, go_sem, e7]
        · refine OgStep.pure ?_ ?_
          · rfl
          intro u W hS hp
          obtain ⟨A7, c7, e7, h7⟩ : tF Rc ys er (u 10) W := hp ⟨10, .data⟩ (by simp) rfl
          refine ⟨.int .i64 er, ?_, rfl⟩
          simp only [ogMk, Act.put, List.setIfInBounds_toArray, List.set_cons_zero, List.set_cons_succ, Nat.zero_add, Nat.reduceAdd, List.take_succ_cons, List.take_zero, List.drop_succ_cons, List.drop_zero]
          simp [execOp, Act.eval, go_sem, e7]
        · refine OgStep.pure ?_ ?_
          · rfl
          intro u W hS hp
          obtain ⟨A7, c7, e7, h7⟩ : rF Rc ys (u 11) W := hp ⟨11, .data⟩ (by simp) rfl
          refine ⟨.slice A7 ys.length c7, ?_, ⟨A7, c7, rfl, h7⟩⟩
          simp only [ogMk, Act.put, List.setIfInBounds_toArray, List.set_cons_zero, List.set_cons_succ, Nat.zero_add, Nat.reduceAdd, List.take_succ_cons, List.take_zero, List.drop_succ_cons, List.drop_zero]
          simp [execOp, Act.eval, go_sem, e7]
        · refine OgStep.pure ?_ ?_
          · rfl
          intro u W hS hp
          have h12 : u 12 = .int .i64 er := hp ⟨12, .data⟩ (by simp) rfl
          refine ⟨.int .i64 er, ?_, rfl⟩
          simp only [ogMk, Act.put, List.setIfInBounds_toArray, List.set_cons_zero, List.set_cons_succ, Nat.zero_add, Nat.reduceAdd, List.take_succ_cons, List.take_zero, List.drop_succ_cons, List.drop_zero]
          simp [execOp, Act.eval, go_sem, h12]
      · intro u W3 hS hF
        have e0 : u 0 = .pointer (some ⟨b, 0, none⟩) := hF 0 (by decide)
        have e1 : u 1 = .pointer (some ⟨b, 0, none⟩) := hF 1 (by decide)
        have e2 : u 2 = .pointer (some ⟨b, 6, none⟩) := hF 2 (by decide)
        have e3 : u 3 = .slice A5 cs.length c5 := hF 3 (by decide)
        have e4 : u 4 = .int .u32 a := hF 4 (by decide)
        have e5 : u 5 = .pointer (some ⟨b, 0, none⟩) := hF 5 (by decide)
        have e6 : u 6 = .pointer (some ⟨b, 0, none⟩) := hF 6 (by decide)
        have e7 : u 7 = .pointer (some ⟨b, 0, none⟩) := hF 7 (by decide)
        have e8 : u 8 = .int .i64 n := hF 8 (by decide)
        have e12 : u 12 = .int .i64 er := hF 12 (by decide)
        have e14 : u 14 = .int .i64 er := hF 14 (by decide)
        obtain ⟨A6, c6, e13, hc6, hR6⟩ : rF Rc ys (u 13) W3 := hF 13 (by decide)
        simp only [ogMk, Act.put, List.setIfInBounds_toArray, List.set_cons_zero, List.set_cons_succ, Nat.zero_add, Nat.reduceAdd, List.take_succ_cons, List.take_zero, List.drop_succ_cons, List.drop_zero]
        rw [e0, e1, e2, e3, e4, e5, e6, e7, e8, e12, e14, e13]
        clear e0 e1 e2 e3 e4 e5 e6 e7 e8 e12 e14 e13 hF
        have HS3 := Lib.hid hS
        have R3 := Lib.hid (R1.out.below hS)
        have S3 := Lib.hid (S1.out.below hS)
        clear hS
        go_wp2_with fail
        refine (REP.out A6 c6 W3 S3.out R3.out hR6 hc6).mono ?_
        rintro e w4 ⟨rfl, ⟨r4, S4, R4⟩, O4⟩
        rw [← HD.out] at S4 R4
        have S4 := Lib.hid S4
        have R4 := Lib.hid R4
        have O4 := Lib.hid O4
        go_wp2_with fail
        refine (TK.out r4 w4 S4.out R4.out).mono ?_
        rintro e w5 ⟨rfl, hst, O5⟩
        go_wp2_with fail
        go_end0
        refine ⟨rfl, ?_, ((((O0.out.trans (Ob.of HS.out LT0.out)).trans (Ob.of HS3.out LT1.out)).trans O4.out).trans O5)⟩
        rw [HQ.out]
        exact hst
    · rw [if_neg h0] at HQ
      go_wp2_with fail
      refine (CN.out W S1.out R1.out).mono ?_
      rintro e w2 ⟨rfl, hst, O2⟩
      go_wp2_with fail
      refine bodyPost_ret (results_none rfl _ _ _) rfl ?_
      refine ⟨rfl, ?_, ((O0.out.trans (Ob.of HS.out LT0.out)).trans O2)⟩
      rw [HQ.out]
      exact hst
end Go.Proofs.YtilneflfeegnfaaGreat
namespace Go.Proofs.YtilneflfeegnfaaGreat
open Go.RowKit
def gbS (c : Cf) (x : Stt) : Stt := x.cs.foldl (gbk c) x
theorem fold_take {α β : Type} (f : β → α → β) (z : β) {l : List α} {k : Nat} {a : α} (h : l[k]? = some a) : (l.take (k + 1)).foldl f z = f ((l.take k).foldl f z) a := by
  rw [List.take_add_one, h, List.foldl_append]
  rfl
theorem in_gbt {x : Stt} (h : In x) (c : Cf) (l : List Cs.Ca) : In (l.foldl (gbk c) x) := foldIn (fun _ => True) (fun x k hx _ => hx.gbk c k) l x h fun _ _ => trivial
set_option maxRecDepth 100000 in
set_option maxHeartbeats 4000000 in
theorem giveBackS_any (c : Cf) (x : Stt) (r : Rws) (b : Nat) (w : World) (H : Sb w b (stl x r)) (h : Lie w x r) (hi : In x) (hcd : c.c ≤ 1099511627776) :
    Calls Tryz.prog 58 #[cfv c, .pointer (some ⟨b, 0, none⟩)] w (PP w b (gbS c x) (.returned (.tuple #[]))) := by
  have B0 := Lib.hid (show Below w.heap.size w (w.alloc (Cfx c)) from (Below.refl _ w).alloc (Nat.le_refl _) _)
  have C0 := Lib.hid (cm_box w c)
  have S0 := Lib.hid (H.below B0.out)
  have R0 := Lib.hid (h.below B0.out)
  have LT := Lib.hid H.lt
  have O0 := Lib.hid (Ob.of B0.out H.lt)
  have ST := Lib.hid fun y r a W H h hy a0 a1 => settleS_any c y r a b W H h hy hcd a0 a1
  have HQ := Lib.hid (show gbS c x = x.cs.foldl (gbk c) x from rfl)
  have HI := Lib.hid fun l => in_gbt hi c l
  have HU := Lib.hid hi.cv.v.u
  have RA := Lib.hid R0.out.c
  have k6 := S0.out.cx.key 6 _ rfl
  have Hx := Lib.hid (show ∃ r', Sb (w.alloc (Cfx c)) b (stl x r') ∧ Lie (w.alloc (Cfx c)) x r' from ⟨r, S0.out, R0.out⟩)
  obtain ⟨c5, hc5⟩ : ∃ c5, r.cc = c5 := ⟨_, rfl⟩
  obtain ⟨A5, hA5⟩ : ∃ A5, r.c = A5 := ⟨_, rfl⟩
  obtain ⟨xs, hxs⟩ : ∃ xs, x.cs = xs := ⟨_, rfl⟩
  simp only [hc5, hA5, hxs] at k6 RA HU HQ
  have hln := RA.out.1
  obtain ⟨L, hL⟩ : ∃ L, xs.length = L := ⟨_, rfl⟩
  have HL := Lib.hid hL
  have SB := Lib.hid S0.out.bs
  rw [hL] at k6 hln
  clear h H hi hL hc5 hA5 hxs S0 R0
  obtain ⟨c', hc'⟩ : ∃ c', c = c' := ⟨_, rfl⟩
  have HC := Lib.hid hc'
  obtain ⟨xa, xb, xc, xd, xe, xf, xg, xh, xi⟩ := c
  subst hc'
  simp only [cfv, Cfx] at B0 C0 O0 ST RA Hx k6 SB ⊢
  go_enter Tryz.func58, Tryz.ntmps58
  go_wp2_with fail
  change (Code.loop _).wp _ _ _ (w.alloc (.cells #[.int .i64 xa, .int .i64 xb, .int .i64 xc, .int .i64 xd, .int .i64 xe, .int .i64 xf, .int .i64 xg, .int .i64 xh, .int .i64 xi] 27))
  generalize w.alloc (.cells #[.int .i64 xa, .int .i64 xb, .int .i64 xc, .int .i64 xd, .int .i64 xe, .int .i64 xf, .int .i64 xg, .int .i64 xh, .int .i64 xi] 27) = W0 at *
  go_loopw [11] (fun i wr => ∃ k : Nat, i = .int .i64 k ∧ k ≤ L ∧ Hid ((∃ r', Sb wr b (stl ((xs.take k).foldl (gbk ⟨xa, xb, xc, xd, xe, xf, xg, xh, xi⟩) x) r') ∧ Lie wr ((xs.take k).foldl (gbk ⟨xa, xb, xc, xd, xe, xf, xg, xh, xi⟩) x) r') ∧ Ob b W0 wr)) (fun i _ => L - (intOf i).toNat)
  case atStart => exact ⟨0, rfl, by omega, Lib.hid ⟨Hx.out, Ob.refl _ _⟩⟩
  case round =>
    obtain ⟨k, rfl, hk, HW⟩ := hrel
    clear k6
    by_cases hkL : k < L
    · obtain ⟨z, hz⟩ : ∃ z, xs[k]? = some z := ⟨_, List.getElem?_eq_getElem (by rw [HL.out]; exact hkL)⟩
      obtain ⟨y, rfl⟩ := rw_some RA.out (by rw [HL.out]; omega)
      have hat := (rw_ob mk_A RA.out SB.out HW.out.2).at hz
      have HZ := Lib.hid (HU.out z (List.mem_of_getElem? hz))
      have HF := Lib.hid (fold_take (gbk ⟨xa, xb, xc, xd, xe, xf, xg, xh, xi⟩) x hz)
      have BZ := Lib.hid (show Below wr.heap.size wr (wr.alloc (Cs.Cax z)) from (Below.refl _ _).alloc (Nat.le_refl _) _)
      obtain ⟨⟨r', hS', hR'⟩, hO'⟩ := HW.out
      have S1 := Lib.hid (hS'.below BZ.out)
      have R1 := Lib.hid (hR'.below BZ.out)
      have O1 := Lib.hid (hO'.trans (Ob.of BZ.out hS'.lt))
      have C1 := cm_ob C0.out O1.out (by have := LT.out; omega)
      have HIK := Lib.hid (HI.out (xs.take k))
      generalize (xs.take k).foldl (gbk ⟨xa, xb, xc, xd, xe, xf, xg, xh, xi⟩) x = X at *
      have k0 := C1.c0
      have k1 := C1.c1
      have k2 := C1.c2
      have k3 := C1.c3
      have k4 := C1.c4
      have k5 := C1.c5
      have k6 := C1.c6
      have k7 := C1.c7
      have k8 := C1.c8
      dsimp only at k0 k1 k2 k3 k4 k5 k6 k7 k8
      obtain ⟨s0, s1, s2, s3⟩ := Cs.ca_box wr z
      clear C1 hz hS' hR' hO' HW
      unfold Cs.Cax at *
      cases he : (z.g == 1)
      · have HE := Lib.hid he
        go_wp2_with (refine Cs.at_load37 (.tmp 13) rfl rfl (y.add (k * 4)) z rfl hat ?_)
        go_roundw
        case rel => exact ⟨k + 1, by go_num, by omega, Lib.hid ⟨by rw [HF.out, show gbk ⟨xa, xb, xc, xd, xe, xf, xg, xh, xi⟩ X z = X from if_neg (by have := HE.out; simp at this; exact this)]; exact ⟨r', S1.out, R1.out⟩, O1.out⟩⟩
        case measure => simp [intOf]; omega
      · have HE := Lib.hid he
        go_wp2_with (refine Cs.at_load37 (.tmp 13) rfl rfl (y.add (k * 4)) z rfl hat ?_)
        refine (ST.out X r' z.a _ S1.out R1.out HIK.out HZ.out.1 HZ.out.2).mono ?_
        rintro e w3 ⟨rfl, hst, O3⟩
        have HW3 := Lib.hid (show (∃ r', Sb w3 b (stl (stlS ⟨xa, xb, xc, xd, xe, xf, xg, xh, xi⟩ X z.a) r') ∧ Lie w3 (stlS ⟨xa, xb, xc, xd, xe, xf, xg, xh, xi⟩ X z.a) r') ∧ Ob b W0 w3 from ⟨hst, O1.out.trans O3⟩)
        clear hst O3
        go_wp2_with fail
        go_roundw
        case rel => exact ⟨k + 1, by go_num, by omega, Lib.hid ⟨by rw [HF.out, show gbk ⟨xa, xb, xc, xd, xe, xf, xg, xh, xi⟩ X z = stlS ⟨xa, xb, xc, xd, xe, xf, xg, xh, xi⟩ X z.a from if_pos (by have := HE.out; simpa using this)]; exact HW3.out.1, HW3.out.2⟩⟩
        case measure => simp [intOf]; omega
    · obtain rfl : k = L := by omega
      have hW := HW.out
      rw [List.take_of_length_le (by rw [HL.out]; exact Nat.le_refl _), ← HQ.out] at hW
      have HW2 := Lib.hid hW
      clear hW
      go_wp2_with fail
      go_end0
      exact ⟨rfl, HW2.out.1, O0.out.trans HW2.out.2⟩
end Go.Proofs.YtilneflfeegnfaaGreat
namespace Go.Proofs.YtilneflfeegnfaaGreat
open Go.RowKit
theorem in_t3t {x : Stt} (h : In x) (c : Cf) (l : List Hl.Hr) (hl : ∀ y ∈ l, 0 ≤ y.a ∧ y.a < 4294967296) : In (l.foldl (t3h c) x) := foldIn (fun y : Hl.Hr => 0 ≤ y.a ∧ y.a < 4294967296) (fun x y hx hy => hx.t3h c y hy.1 hy.2) l x h hl
theorem if_pos_and {α : Type} {q : Int} {a b : α} : (if True ∧ q = 0 then a else b) = if q = 0 then a else b := by simp
set_option maxRecDepth 100000 in
set_option maxHeartbeats 4000000 in
theorem raiseS_any (c : Cf) (x : Stt) (r : Rws) (b : Nat) (w : World) (H : Sb w b (stl x r)) (h : Lie w x r) (hi : In x) (hcd : c.c ≤ 1099511627776) :
    Calls Tryz.prog 59 #[cfv c, .pointer (some ⟨b, 0, none⟩)] w (PP w b (t3 c x) (.returned (.tuple #[]))) := by
  have B0 := Lib.hid (show Below w.heap.size w (w.alloc (Cfx c)) from (Below.refl _ w).alloc (Nat.le_refl _) _)
  have C0 := Lib.hid (cm_box w c)
  have S0 := Lib.hid (H.below B0.out)
  have R0 := Lib.hid (h.below B0.out)
  have LT := Lib.hid H.lt
  have O0 := Lib.hid (Ob.of B0.out H.lt)
  have ST := Lib.hid fun y r a W (h : Lie W y r) hy a0 a1 => status_any c y r a W h (In.sz hy) hcd a0 a1
  have RS := Lib.hid fun (y : Stt) (r : Rws) a W (hW : Lie W y r) hx9 => tp_c (Cs.raise_any c y.now a r.c y.cs r.cc W hW.c hW.cc hx9)
  have HQ := Lib.hid (show t3 c x = x.hs.foldl (t3h c) x from rfl)
  have HI := Lib.hid fun l hl => in_t3t hi c l hl
  have HU := Lib.hid hi.ha
  have RA := Lib.hid R0.out.h
  have k6 := S0.out.cx.key 2 _ rfl
  have Hx := Lib.hid (show ∃ r', Sb (w.alloc (Cfx c)) b (stl x r') ∧ Lie (w.alloc (Cfx c)) x r' from ⟨r, S0.out, R0.out⟩)
  obtain ⟨c5, hc5⟩ : ∃ c5, r.hc = c5 := ⟨_, rfl⟩
  obtain ⟨A5, hA5⟩ : ∃ A5, r.h = A5 := ⟨_, rfl⟩
  obtain ⟨xs, hxs⟩ : ∃ xs, x.hs = xs := ⟨_, rfl⟩
  simp only [hc5, hA5, hxs] at k6 RA HU HQ
  have hln := RA.out.1
  obtain ⟨L, hL⟩ : ∃ L, xs.length = L := ⟨_, rfl⟩
  have HL := Lib.hid hL
  have SB := Lib.hid S0.out.bs
  rw [hL] at k6 hln
  clear h H hi hL hc5 hA5 hxs S0 R0
  obtain ⟨c', hc'⟩ : ∃ c', c = c' := ⟨_, rfl⟩
  obtain ⟨xa, xb, xc, xd, xe, xf, xg, xh, xi⟩ := c
  subst hc'
  simp only [cfv, Cfx] at B0 C0 O0 ST RS RA Hx k6 SB ⊢
  go_enter Tryz.func59, Tryz.ntmps59
  go_wp2_with fail
  change (Code.loop _).wp _ _ _ (w.alloc (.cells #[.int .i64 xa, .int .i64 xb, .int .i64 xc, .int .i64 xd, .int .i64 xe, .int .i64 xf, .int .i64 xg, .int .i64 xh, .int .i64 xi] 27))
  generalize w.alloc (.cells #[.int .i64 xa, .int .i64 xb, .int .i64 xc, .int .i64 xd, .int .i64 xe, .int .i64 xf, .int .i64 xg, .int .i64 xh, .int .i64 xi] 27) = W0 at *
  go_loopw [13] (fun i wr => ∃ k : Nat, i = .int .i64 k ∧ k ≤ L ∧ Hid ((∃ r', Sb wr b (stl ((xs.take k).foldl (t3h ⟨xa, xb, xc, xd, xe, xf, xg, xh, xi⟩) x) r') ∧ Lie wr ((xs.take k).foldl (t3h ⟨xa, xb, xc, xd, xe, xf, xg, xh, xi⟩) x) r') ∧ Ob b W0 wr)) (fun i _ => L - (intOf i).toNat)
  case atStart => exact ⟨0, rfl, by omega, Lib.hid ⟨Hx.out, Ob.refl _ _⟩⟩
  case round =>
    obtain ⟨k, rfl, hk, HW⟩ := hrel
    clear k6
    by_cases hkL : k < L
    · obtain ⟨z, hz⟩ : ∃ z, xs[k]? = some z := ⟨_, List.getElem?_eq_getElem (by rw [HL.out]; exact hkL)⟩
      obtain ⟨y, rfl⟩ := Hl.hs_some RA.out (by rw [HL.out]; omega)
      have hat := (hs_ob RA.out SB.out HW.out.2).at hz
      have HZ := Lib.hid (HU.out z (List.mem_of_getElem? hz))
      have HF := Lib.hid (fold_take (t3h ⟨xa, xb, xc, xd, xe, xf, xg, xh, xi⟩) x hz)
      have BZ := Lib.hid (show Below wr.heap.size wr (wr.alloc (Hl.Hx z)) from (Below.refl _ _).alloc (Nat.le_refl _) _)
      obtain ⟨⟨r', hS', hR'⟩, hO'⟩ := HW.out
      have S1 := Lib.hid (hS'.below BZ.out)
      have R1 := Lib.hid (hR'.below BZ.out)
      have O1 := Lib.hid (hO'.trans (Ob.of BZ.out hS'.lt))
      have C1 := Lib.hid (cm_ob C0.out O1.out (by have := LT.out; omega))
      have HIK := Lib.hid (HI.out (xs.take k) (fun y hy => HU.out y (List.mem_of_mem_take hy)))
      have s0 : (wr.alloc (Hl.Hx z)).cell? ⟨wr.heap.size, 0, none⟩ = some (.int .u32 z.a) := by simp [Hl.Hx]
      have s1 : wr.heap.size < (wr.alloc (Hl.Hx z)).heap.size := by simp
      have Z0 := Lib.hid (show ∀ W, Below (wr.alloc (Hl.Hx z)).heap.size (wr.alloc (Hl.Hx z)) W → W.cell? ⟨wr.heap.size, 0, none⟩ = some (.int .u32 z.a) from fun W hS => by rw [hS.cell (p := ⟨wr.heap.size, 0, none⟩) s1]; exact s0)
      generalize (xs.take k).foldl (t3h ⟨xa, xb, xc, xd, xe, xf, xg, xh, xi⟩) x = X at *
      have HST := Lib.hid fun W hW => ST.out X r' z.a W hW HIK.out HZ.out.1 HZ.out.2
      have HRS := Lib.hid fun W hW => RS.out X r' z.a W hW HIK.out.sz.c
      have HT := Lib.hid (show t3h ⟨xa, xb, xc, xd, xe, xf, xg, xh, xi⟩ X z = _ from by unfold t3h; rfl)
      obtain ⟨V, hV⟩ : ∃ V, hoO ⟨xa, xb, xc, xd, xe, xf, xg, xh, xi⟩ X z.a = V := ⟨_, rfl⟩
      rw [hV] at HST HT
      obtain ⟨n, q, hs, sw, kn, pb, cs⟩ := X
      obtain ⟨A1', c1', A2', c2', A3', c3', A4', c4', A5', c5'⟩ := r'
      dsimp only at HRS HT
      obtain ⟨⟨ys, er⟩, hE⟩ : ∃ E, Cs.rsO xi n z.a cs = E := ⟨_, rfl⟩
      rw [hE] at HRS HT
      dsimp only at HRS HT
      have REP := Lib.hid fun A cap W H h hr hc => rep_c ⟨n, q, hs, sw, kn, pb, cs⟩ ⟨A1', c1', A2', c2', A3', c3', A4', c4', A5', c5'⟩ A ys cap er b W H h hr hc
      simp only [stv] at HST
      clear hz hS' hR' hO' HW hV hE s1 ST RS
      unfold Hl.Hx at *
      go_wp2_with (refine Hl.at_load33 (.tmp 15) rfl rfl (y.add (k * 8)) z rfl hat ?_)
      change (Code.region _ _ _).wp _ _ _ (wr.alloc (.cells #[.int .u32 z.a, .string z.T, .int .u8 z.m0, .int .u8 z.m1, .int .u8 z.m2, .int .u8 z.m3, .int .u8 z.m4, .int .u8 z.m5] 44))
      generalize wr.alloc (.cells #[.int .u32 z.a, .string z.T, .int .u8 z.m0, .int .u8 z.m1, .int .u8 z.m2, .int .u8 z.m3, .int .u8 z.m4, .int .u8 z.m5] 44) = w1 at *
      refine wp_region_below_tail 7 [fx (.agg #[.int .i64 xa, .int .i64 xb, .int .i64 xc, .int .i64 xd, .int .i64 xe, .int .i64 xf, .int .i64 xg, .int .i64 xh, .int .i64 xi]), fx (.pointer (some ⟨b, 0, none⟩)), fx (.pointer (some ⟨b, 0, none⟩)), fx (.agg #[.int .i64 n, .int .i64 q, .slice A1' hs.length c1', .slice A2' sw.length c2', .slice A3' kn.length c3', .slice A4' pb.length c4', .slice A5' cs.length c5']), fx (.pointer (some ⟨wr.heap.size, 0, none⟩)), fx (.int .u32 z.a), fx (.int .i64 V)]
        (by kernel_rfl) (by simp) (by kernel_rfl) (by kernel_rfl) (by kernel_rfl) ?_ ?_ ?_
      · simp only [List.mem_cons, List.not_mem_nil, or_false]
        rintro φ (rfl | rfl | rfl | rfl | rfl | rfl | rfl)
        all_goals first | exact stable_fx _ | exact stable_rF hld_h _ | exact stable_rF hld_s _ | exact stable_rF hld_k _ | exact stable_rF hld_p _ | exact stable_rF hld_c _ | exact stable_tF hld_h _ _ | exact stable_tF hld_s _ _ | exact stable_tF hld_k _ _ | exact stable_tF hld_p _ _ | exact stable_tF hld_c _ _
      · refine OgSteps.cons ?_ (OgSteps.cons ?_ (OgSteps.cons ?_ (OgSteps.cons ?_ (OgSteps.cons ?_ (OgSteps.cons ?_ (OgSteps.cons ?_ (OgSteps.nil)))))))
        · refine OgStep.pure ?_ ?_
          · rfl
          intro u W hS hp
          have C := C1.out.below hS
          have k0 := C.c0
          have k1 := C.c1
          have k2 := C.c2
          have k3 := C.c3
          have k4 := C.c4
          have k5 := C.c5
          have k6 := C.c6
          have k7 := C.c7
          have k8 := C.c8
          dsimp only at k0 k1 k2 k3 k4 k5 k6 k7 k8
          refine ⟨.agg #[.int .i64 xa, .int .i64 xb, .int .i64 xc, .int .i64 xd, .int .i64 xe, .int .i64 xf, .int .i64 xg, .int .i64 xh, .int .i64 xi], ?_, rfl⟩
          simp only [ogMk, Act.put, List.setIfInBounds_toArray, List.set_cons_zero, List.set_cons_succ, Nat.zero_add, Nat.reduceAdd, List.take_succ_cons, List.take_zero, List.drop_succ_cons, List.drop_zero]
          simp [execOp, Act.eval, go_sem, k0, k1, k2, k3, k4, k5, k6, k7, k8]
        · refine OgStep.pure ?_ ?_
          · rfl
          intro u W hS hp
          refine ⟨.pointer (some ⟨b, 0, none⟩), ?_, rfl⟩
          simp only [ogMk, Act.put, List.setIfInBounds_toArray, List.set_cons_zero, List.set_cons_succ, Nat.zero_add, Nat.reduceAdd, List.take_succ_cons, List.take_zero, List.drop_succ_cons, List.drop_zero]
          simp [execOp, Act.eval, go_sem]
        · refine OgStep.pure ?_ ?_
          · rfl
          intro u W hS hp
          have h1 : u 1 = .pointer (some ⟨b, 0, none⟩) := hp ⟨1, .data⟩ (by simp) rfl
          refine ⟨.pointer (some ⟨b, 0, none⟩), ?_, rfl⟩
          simp only [ogMk, Act.put, List.setIfInBounds_toArray, List.set_cons_zero, List.set_cons_succ, Nat.zero_add, Nat.reduceAdd, List.take_succ_cons, List.take_zero, List.drop_succ_cons, List.drop_zero]
          simp [execOp, Act.eval, go_sem, h1]
        · refine OgStep.pure ?_ ?_
          · rfl
          intro u W hS hp
          have h2 : u 2 = .pointer (some ⟨b, 0, none⟩) := hp ⟨2, .data⟩ (by simp) rfl
          have S := S1.out.below hS
          have j0 := S.cx.key 0 _ rfl
          have j1 := S.cx.key 1 _ rfl
          have j2 := S.cx.key 2 _ rfl
          have j3 := S.cx.key 3 _ rfl
          have j4 := S.cx.key 4 _ rfl
          have j5 := S.cx.key 5 _ rfl
          have j6 := S.cx.key 6 _ rfl
          dsimp only at j0 j1 j2 j3 j4 j5 j6
          refine ⟨.agg #[.int .i64 n, .int .i64 q, .slice A1' hs.length c1', .slice A2' sw.length c2', .slice A3' kn.length c3', .slice A4' pb.length c4', .slice A5' cs.length c5'], ?_, rfl⟩
          simp only [ogMk, Act.put, List.setIfInBounds_toArray, List.set_cons_zero, List.set_cons_succ, Nat.zero_add, Nat.reduceAdd, List.take_succ_cons, List.take_zero, List.drop_succ_cons, List.drop_zero]
          simp [execOp, Act.eval, go_sem, h2, j0, j1, j2, j3, j4, j5, j6]
        · refine OgStep.pure ?_ ?_
          · rfl
          intro u W hS hp
          refine ⟨.pointer (some ⟨wr.heap.size, 0, none⟩), ?_, rfl⟩
          simp only [ogMk, Act.put, List.setIfInBounds_toArray, List.set_cons_zero, List.set_cons_succ, Nat.zero_add, Nat.reduceAdd, List.take_succ_cons, List.take_zero, List.drop_succ_cons, List.drop_zero]
          simp [execOp, Act.eval, go_sem]
        · refine OgStep.pure ?_ ?_
          · rfl
          intro u W hS hp
          have h4 : u 4 = .pointer (some ⟨wr.heap.size, 0, none⟩) := hp ⟨4, .data⟩ (by simp) rfl
          have s0 := Z0.out W hS
          refine ⟨.int .u32 z.a, ?_, rfl⟩
          simp only [ogMk, Act.put, List.setIfInBounds_toArray, List.set_cons_zero, List.set_cons_succ, Nat.zero_add, Nat.reduceAdd, List.take_succ_cons, List.take_zero, List.drop_succ_cons, List.drop_zero]
          simp [execOp, Act.eval, go_sem, h4, s0]
        · refine OgStep.calls ?_ ?_
          · rfl
          intro u W hS hp
          have h0 : u 0 = .agg #[.int .i64 xa, .int .i64 xb, .int .i64 xc, .int .i64 xd, .int .i64 xe, .int .i64 xf, .int .i64 xg, .int .i64 xh, .int .i64 xi] := hp ⟨0, .data⟩ (by simp) rfl
          have h3 : u 3 = .agg #[.int .i64 n, .int .i64 q, .slice A1' hs.length c1', .slice A2' sw.length c2', .slice A3' kn.length c3', .slice A4' pb.length c4', .slice A5' cs.length c5'] := hp ⟨3, .data⟩ (by simp) rfl
          have h5 : u 5 = .int .u32 z.a := hp ⟨5, .data⟩ (by simp) rfl
          refine ⟨19, #[.agg #[.int .i64 xa, .int .i64 xb, .int .i64 xc, .int .i64 xd, .int .i64 xe, .int .i64 xf, .int .i64 xg, .int .i64 xh, .int .i64 xi], .agg #[.int .i64 n, .int .i64 q, .slice A1' hs.length c1', .slice A2' sw.length c2', .slice A3' kn.length c3', .slice A4' pb.length c4', .slice A5' cs.length c5'], .int .u32 z.a], ?_, calls_fx (HST.out W (R1.out.below hS)) rfl⟩
          simp only [ogMk, Act.put, List.setIfInBounds_toArray, List.set_cons_zero, List.set_cons_succ, Nat.zero_add, Nat.reduceAdd, List.take_succ_cons, List.take_zero, List.drop_succ_cons, List.drop_zero]
          simp [execOp, Act.eval, go_sem, h0, h3, h5]
      · intro u W hS hF
        have e0 : u 0 = .agg #[.int .i64 xa, .int .i64 xb, .int .i64 xc, .int .i64 xd, .int .i64 xe, .int .i64 xf, .int .i64 xg, .int .i64 xh, .int .i64 xi] := hF 0 (by decide)
        have e1 : u 1 = .pointer (some ⟨b, 0, none⟩) := hF 1 (by decide)
        have e2 : u 2 = .pointer (some ⟨b, 0, none⟩) := hF 2 (by decide)
        have e3 : u 3 = .agg #[.int .i64 n, .int .i64 q, .slice A1' hs.length c1', .slice A2' sw.length c2', .slice A3' kn.length c3', .slice A4' pb.length c4', .slice A5' cs.length c5'] := hF 3 (by decide)
        have e4 : u 4 = .pointer (some ⟨wr.heap.size, 0, none⟩) := hF 4 (by decide)
        have e5 : u 5 = .int .u32 z.a := hF 5 (by decide)
        have e6 : u 6 = .int .i64 V := hF 6 (by decide)
        simp only [ogMk, Act.put, List.setIfInBounds_toArray, List.set_cons_zero, List.set_cons_succ, Nat.zero_add, Nat.reduceAdd, List.take_succ_cons, List.take_zero, List.drop_succ_cons, List.drop_zero]
        rw [e0, e1, e2, e3, e4, e5, e6]
        clear e0 e1 e2 e3 e4 e5 e6 hF
        have R2 := Lib.hid (R1.out.below hS)
        have S2 := Lib.hid (S1.out.below hS)
        have C2 := Lib.hid (C1.out.below hS)
        have Z2 := Lib.hid fun W2 (hS2 : Below W.heap.size W W2) => Z0.out W2 (hS.trans (hS2.mono hS.size))
        have O2 := Lib.hid (O1.out.trans (Ob.of hS S1.out.lt))
        clear hS
        by_cases h0 : V = 3
        · subst h0
          go_wp2_with fail
          refine wp_region_below [fx (.agg #[.int .i64 xa, .int .i64 xb, .int .i64 xc, .int .i64 xd, .int .i64 xe, .int .i64 xf, .int .i64 xg, .int .i64 xh, .int .i64 xi]), fx (.pointer (some ⟨b, 0, none⟩)), fx (.pointer (some ⟨b, 0, none⟩)), fx (.pointer (some ⟨b, 6, none⟩)), fx (.slice A5' cs.length c5'), fx (.pointer (some ⟨wr.heap.size, 0, none⟩)), fx (.int .u32 z.a), fx (.pointer (some ⟨b, 0, none⟩)), fx (.pointer (some ⟨b, 0, none⟩)), fx (.pointer (some ⟨b, 0, none⟩)), fx (.int .i64 n), tF Rc ys er, tF Rc ys er, rF Rc ys, fx (.int .i64 er), rF Rc ys, fx (.int .i64 er)]
            (by kernel_rfl) (by kernel_rfl) (by kernel_rfl) ?_ ?_ ?_
          · simp only [List.mem_cons, List.not_mem_nil, or_false]
            rintro φ (rfl | rfl | rfl | rfl | rfl | rfl | rfl | rfl | rfl | rfl | rfl | rfl | rfl | rfl | rfl | rfl | rfl)
            all_goals first | exact stable_fx _ | exact stable_rF hld_h _ | exact stable_rF hld_s _ | exact stable_rF hld_k _ | exact stable_rF hld_p _ | exact stable_rF hld_c _ | exact stable_tF hld_h _ _ | exact stable_tF hld_s _ _ | exact stable_tF hld_k _ _ | exact stable_tF hld_p _ _ | exact stable_tF hld_c _ _
          · refine OgSteps.cons ?_ (OgSteps.cons ?_ (OgSteps.cons ?_ (OgSteps.cons ?_ (OgSteps.cons ?_ (OgSteps.cons ?_ (OgSteps.cons ?_ (OgSteps.cons ?_ (OgSteps.cons ?_ (OgSteps.cons ?_ (OgSteps.cons ?_ (OgSteps.cons ?_ (OgSteps.cons ?_ (OgSteps.cons ?_ (OgSteps.cons ?_ (OgSteps.cons ?_ (OgSteps.cons ?_ (OgSteps.nil)))))))))))))))))
            · refine OgStep.pure ?_ ?_
              · rfl
              intro u W hS hp
              have C := C2.out.below hS
              have k0 := C.c0
              have k1 := C.c1
              have k2 := C.c2
              have k3 := C.c3
              have k4 := C.c4
              have k5 := C.c5
              have k6 := C.c6
              have k7 := C.c7
              have k8 := C.c8
              dsimp only at k0 k1 k2 k3 k4 k5 k6 k7 k8
              refine ⟨.agg #[.int .i64 xa, .int .i64 xb, .int .i64 xc, .int .i64 xd, .int .i64 xe, .int .i64 xf, .int .i64 xg, .int .i64 xh, .int .i64 xi], ?_, rfl⟩
              simp only [ogMk, Act.put, List.setIfInBounds_toArray, List.set_cons_zero, List.set_cons_succ, Nat.zero_add, Nat.reduceAdd, List.take_succ_cons, List.take_zero, List.drop_succ_cons, List.drop_zero]
              simp [execOp, Act.eval, go_sem, k0, k1, k2, k3, k4, k5, k6, k7, k8]
            · refine OgStep.pure ?_ ?_
              · rfl
              intro u W hS hp
              refine ⟨.pointer (some ⟨b, 0, none⟩), ?_, rfl⟩
              simp only [ogMk, Act.put, List.setIfInBounds_toArray, List.set_cons_zero, List.set_cons_succ, Nat.zero_add, Nat.reduceAdd, List.take_succ_cons, List.take_zero, List.drop_succ_cons, List.drop_zero]
              simp [execOp, Act.eval, go_sem]
            · refine OgStep.pure ?_ ?_
              · rfl
              intro u W hS hp
              have h1 : u 1 = .pointer (some ⟨b, 0, none⟩) := hp ⟨1, .data⟩ (by simp) rfl
              refine ⟨.pointer (some ⟨b, 0, none⟩), ?_, rfl⟩
              simp only [ogMk, Act.put, List.setIfInBounds_toArray, List.set_cons_zero, List.set_cons_succ, Nat.zero_add, Nat.reduceAdd, List.take_succ_cons, List.take_zero, List.drop_succ_cons, List.drop_zero]
              simp [execOp, Act.eval, go_sem, h1]
            · refine OgStep.pure ?_ ?_
              · rfl
              intro u W hS hp
              have h2 : u 2 = .pointer (some ⟨b, 0, none⟩) := hp ⟨2, .data⟩ (by simp) rfl
              refine ⟨.pointer (some ⟨b, 6, none⟩), ?_, rfl⟩
              simp only [ogMk, Act.put, List.setIfInBounds_toArray, List.set_cons_zero, List.set_cons_succ, Nat.zero_add, Nat.reduceAdd, List.take_succ_cons, List.take_zero, List.drop_succ_cons, List.drop_zero]
              simp [execOp, Act.eval, go_sem, h2]
            · refine OgStep.pure ?_ ?_
              · rfl
              intro u W hS hp
              have h3 : u 3 = .pointer (some ⟨b, 6, none⟩) := hp ⟨3, .data⟩ (by simp) rfl
              have k6 := (S2.out.below hS).cx.key 6 _ rfl
              dsimp only at k6
              refine ⟨.slice A5' cs.length c5', ?_, rfl⟩
              simp only [ogMk, Act.put, List.setIfInBounds_toArray, List.set_cons_zero, List.set_cons_succ, Nat.zero_add, Nat.reduceAdd, List.take_succ_cons, List.take_zero, List.drop_succ_cons, List.drop_zero]
              simp [execOp, Act.eval, go_sem, h3, k6]
            · refine OgStep.pure ?_ ?_
              · rfl
              intro u W hS hp
              refine ⟨.pointer (some ⟨wr.heap.size, 0, none⟩), ?_, rfl⟩
              simp only [ogMk, Act.put, List.setIfInBounds_toArray, List.set_cons_zero, List.set_cons_succ, Nat.zero_add, Nat.reduceAdd, List.take_succ_cons, List.take_zero, List.drop_succ_cons, List.drop_zero]
              simp [execOp, Act.eval, go_sem]
            · refine OgStep.pure ?_ ?_
              · rfl
              intro u W hS hp
              have h5 : u 5 = .pointer (some ⟨wr.heap.size, 0, none⟩) := hp ⟨5, .data⟩ (by simp) rfl
              have s0 := Z2.out W hS
              refine ⟨.int .u32 z.a, ?_, rfl⟩
              simp only [ogMk, Act.put, List.setIfInBounds_toArray, List.set_cons_zero, List.set_cons_succ, Nat.zero_add, Nat.reduceAdd, List.take_succ_cons, List.take_zero, List.drop_succ_cons, List.drop_zero]
              simp [execOp, Act.eval, go_sem, h5, s0]
            · refine OgStep.pure ?_ ?_
              · rfl
              intro u W hS hp
              refine ⟨.pointer (some ⟨b, 0, none⟩), ?_, rfl⟩
              simp only [ogMk, Act.put, List.setIfInBounds_toArray, List.set_cons_zero, List.set_cons_succ, Nat.zero_add, Nat.reduceAdd, List.take_succ_cons, List.take_zero, List.drop_succ_cons, List.drop_zero]
              simp [execOp, Act.eval, go_sem]
            · refine OgStep.pure ?_ ?_
              · rfl
              intro u W hS hp
              have h7 : u 7 = .pointer (some ⟨b, 0, none⟩) := hp ⟨7, .data⟩ (by simp) rfl
              refine ⟨.pointer (some ⟨b, 0, none⟩), ?_, rfl⟩
              simp only [ogMk, Act.put, List.setIfInBounds_toArray, List.set_cons_zero, List.set_cons_succ, Nat.zero_add, Nat.reduceAdd, List.take_succ_cons, List.take_zero, List.drop_succ_cons, List.drop_zero]
              simp [execOp, Act.eval, go_sem, h7]
            · refine OgStep.pure ?_ ?_
              · rfl
              intro u W hS hp
              have h8 : u 8 = .pointer (some ⟨b, 0, none⟩) := hp ⟨8, .data⟩ (by simp) rfl
              refine ⟨.pointer (some ⟨b, 0, none⟩), ?_, rfl⟩
              simp only [ogMk, Act.put, List.setIfInBounds_toArray, List.set_cons_zero, List.set_cons_succ, Nat.zero_add, Nat.reduceAdd, List.take_succ_cons, List.take_zero, List.drop_succ_cons, List.drop_zero]
              simp [execOp, Act.eval, go_sem, h8]
            · refine OgStep.pure ?_ ?_
              · rfl
              intro u W hS hp
              have h9 : u 9 = .pointer (some ⟨b, 0, none⟩) := hp ⟨9, .data⟩ (by simp) rfl
              have k0 := (S2.out.below hS).cx.key 0 _ rfl
              dsimp only at k0
              refine ⟨.int .i64 n, ?_, rfl⟩
              simp only [ogMk, Act.put, List.setIfInBounds_toArray, List.set_cons_zero, List.set_cons_succ, Nat.zero_add, Nat.reduceAdd, List.take_succ_cons, List.take_zero, List.drop_succ_cons, List.drop_zero]
              simp [execOp, Act.eval, go_sem, h9, k0]
            · refine OgStep.calls ?_ ?_
              · rfl
              intro u W hS hp
              have h0 : u 0 = .agg #[.int .i64 xa, .int .i64 xb, .int .i64 xc, .int .i64 xd, .int .i64 xe, .int .i64 xf, .int .i64 xg, .int .i64 xh, .int .i64 xi] := hp ⟨0, .data⟩ (by simp) rfl
              have h4 : u 4 = .slice A5' cs.length c5' := hp ⟨4, .data⟩ (by simp) rfl
              have h6 : u 6 = .int .u32 z.a := hp ⟨6, .data⟩ (by simp) rfl
              have h10 : u 10 = .int .i64 n := hp ⟨10, .data⟩ (by simp) rfl
              refine ⟨68, #[.agg #[.int .i64 xa, .int .i64 xb, .int .i64 xc, .int .i64 xd, .int .i64 xe, .int .i64 xf, .int .i64 xg, .int .i64 xh, .int .i64 xi], .slice A5' cs.length c5', .int .u32 z.a, .int .i64 n], ?_, calls_tF (HRS.out W (R2.out.below hS)) rfl⟩
              simp only [ogMk, Act.put, List.setIfInBounds_toArray, List.set_cons_zero, List.set_cons_succ, Nat.zero_add, Nat.reduceAdd, List.take_succ_cons, List.take_zero, List.drop_succ_cons, List.drop_zero]
              simp [execOp, Act.eval, go_sem, h0, h4, h6, h10]
            · refine OgStep.pure ?_ ?_
              · rfl
              intro u W hS hp
              obtain ⟨A7, c7, e7, h7⟩ : tF Rc ys er (u 11) W := hp ⟨11, .data⟩ (by simp) rfl
              refine ⟨.tuple #[.slice A7 ys.length c7, .int .i64 er], ?_, ⟨A7, c7, rfl, h7⟩⟩
              simp only [ogMk, Act.put, List.setIfInBounds_toArray, List.set_cons_zero, List.set_cons_succ, Nat.zero_add, Nat.reduceAdd, List.take_succ_cons, List.take_zero, List.drop_succ_cons, List.drop_zero]
              simp [execOp, Act.eval, go_sem, e7]
            · refine OgStep.pure ?_ ?_
              · rfl
              intro u W hS hp
              obtain ⟨A7, c7, e7, h7⟩ : tF Rc ys er (u 12) W := hp ⟨12, .data⟩ (by simp) rfl
              refine ⟨.slice A7 ys.length c7, ?_, ⟨A7, c7, rfl, h7⟩⟩
              simp only [ogMk, Act.put, List.setIfInBounds_toArray, List.set_cons_zero, List.set_cons_succ, Nat.zero_add, Nat.reduceAdd, List.take_succ_cons, List.take_zero, List.drop_succ_cons, List.drop_zero]
              simp [execOp, Act.eval, go_sem, e7]
            · refine OgStep.pure ?_ ?_
              · rfl
              intro u W hS hp
              obtain ⟨A7, c7, e7, h7⟩ : tF Rc ys er (u 12) W := hp ⟨12, .data⟩ (by simp) rfl
              refine ⟨.int .i64 er, ?_, rfl⟩
              simp only [ogMk, Act.put, List.setIfInBounds_toArray, List.set_cons_zero, List.set_cons_succ, Nat.zero_add, Nat.reduceAdd, List.take_succ_cons, List.take_zero, List.drop_succ_cons, List.drop_zero]
              simp [execOp, Act.eval, go_sem, e7]
            · refine OgStep.pure ?_ ?_
              · rfl
              intro u W hS hp
              obtain ⟨A7, c7, e7, h7⟩ : rF Rc ys (u 13) W := hp ⟨13, .data⟩ (by simp) rfl
              refine ⟨.slice A7 ys.length c7, ?_, ⟨A7, c7, rfl, h7⟩⟩
              simp only [ogMk, Act.put, List.setIfInBounds_toArray, List.set_cons_zero, List.set_cons_succ, Nat.zero_add, Nat.reduceAdd, List.take_succ_cons, List.take_zero, List.drop_succ_cons, List.drop_zero]
              simp [execOp, Act.eval, go_sem, e7]
            · refine OgStep.pure ?_ ?_
              · rfl
              intro u W hS hp
              have h14 : u 14 = .int .i64 er := hp ⟨14, .data⟩ (by simp) rfl
              refine ⟨.int .i64 er, ?_, rfl⟩
              simp only [ogMk, Act.put, List.setIfInBounds_toArray, List.set_cons_zero, List.set_cons_succ, Nat.zero_add, Nat.reduceAdd, List.take_succ_cons, List.take_zero, List.drop_succ_cons, List.drop_zero]
              simp [execOp, Act.eval, go_sem, h14]
          · intro u W3 hS hF
            have e0 : u 0 = .agg #[.int .i64 xa, .int .i64 xb, .int .i64 xc, .int .i64 xd, .int .i64 xe, .int .i64 xf, .int .i64 xg, .int .i64 xh, .int .i64 xi] := hF 0 (by decide)
            have e1 : u 1 = .pointer (some ⟨b, 0, none⟩) := hF 1 (by decide)
            have e2 : u 2 = .pointer (some ⟨b, 0, none⟩) := hF 2 (by decide)
            have e3 : u 3 = .pointer (some ⟨b, 6, none⟩) := hF 3 (by decide)
            have e4 : u 4 = .slice A5' cs.length c5' := hF 4 (by decide)
            have e5 : u 5 = .pointer (some ⟨wr.heap.size, 0, none⟩) := hF 5 (by decide)
            have e6 : u 6 = .int .u32 z.a := hF 6 (by decide)
            have e7 : u 7 = .pointer (some ⟨b, 0, none⟩) := hF 7 (by decide)
            have e8 : u 8 = .pointer (some ⟨b, 0, none⟩) := hF 8 (by decide)
            have e9 : u 9 = .pointer (some ⟨b, 0, none⟩) := hF 9 (by decide)
            have e10 : u 10 = .int .i64 n := hF 10 (by decide)
            have e14 : u 14 = .int .i64 er := hF 14 (by decide)
            have e16 : u 16 = .int .i64 er := hF 16 (by decide)
            obtain ⟨A6, c6, e15, hc6, hR6⟩ : rF Rc ys (u 15) W3 := hF 15 (by decide)
            simp only [ogMk, Act.put, List.setIfInBounds_toArray, List.set_cons_zero, List.set_cons_succ, Nat.zero_add, Nat.reduceAdd, List.take_succ_cons, List.take_zero, List.drop_succ_cons, List.drop_zero]
            rw [e0, e1, e2, e3, e4, e5, e6, e7, e8, e9, e10, e14, e16, e15]
            clear e0 e1 e2 e3 e4 e5 e6 e7 e8 e9 e10 e14 e16 e15 hF
            have R3 := Lib.hid (R2.out.below hS)
            have S3 := Lib.hid (S2.out.below hS)
            have O3 := Lib.hid (O2.out.trans (Ob.of hS S2.out.lt))
            clear hS
            go_wp2_with fail
            refine (REP.out A6 c6 W3 S3.out R3.out hR6 hc6).mono ?_
            rintro e w4 ⟨rfl, hst, O4⟩
            have HW4 := Lib.hid (show (∃ r', Sb w4 b (stl (if er = 0 then ⟨n, q, hs, sw, kn, pb, ys⟩ else ⟨n, q, hs, sw, kn, pb, cs⟩) r') ∧ Lie w4 (if er = 0 then ⟨n, q, hs, sw, kn, pb, ys⟩ else ⟨n, q, hs, sw, kn, pb, cs⟩) r') ∧ Ob b W0 w4 from ⟨hst, O3.out.trans O4⟩)
            clear hst O4
            go_wp2_with fail
            go_roundw
            case rel => exact ⟨k + 1, by go_num, by omega, Lib.hid ⟨by rw [HF.out, HT.out, if_pos_and]; exact HW4.out.1, HW4.out.2⟩⟩
            case measure => simp [intOf]; omega
        · go_wp2_with fail
          go_roundw
          case rel => exact ⟨k + 1, by go_num, by omega, Lib.hid ⟨by rw [HF.out, HT.out, if_neg (fun hh => h0 hh.1)]; exact ⟨_, S2.out, R2.out⟩, O2.out⟩⟩
          case measure => simp [intOf]; omega
    · obtain rfl : k = L := by omega
      have hW := HW.out
      rw [List.take_of_length_le (by rw [HL.out]; exact Nat.le_refl _), ← HQ.out] at hW
      have HW2 := Lib.hid hW
      clear hW
      go_wp2_with fail
      go_end0
      exact ⟨rfl, HW2.out.1, O0.out.trans HW2.out.2⟩
end Go.Proofs.YtilneflfeegnfaaGreat
