/-
  The contracts of seen.isSource, seen.place and seen.Last: where an address stands in a row, and when it was last seen. Conditions: the row lies in memory.
-/
import Derived.Test.YtcnhagcmklgpkaaBase
set_option linter.unusedSimpArgs false
set_option linter.unusedVariables false
namespace Go.Proofs.Ytcnhagcmklgpkaa
open Go.RowKit

theorem Ks.len {w : World} {A : Option Addr} {ps : List Kp} (h : Ks w A ps) : ps.length ≤ 140737488355328 := by
  obtain ⟨xs, rfl, h⟩ := h
  rw [List.length_map]
  exact h.1.1
/-- One of the row. -/
theorem Ks.kn {w : World} {A : Option Addr} {ps : List Kp} (h : Ks w A ps) {q : Nat} {p : Kp} (hq : ps[q]? = some p) :
    ∃ (y : Addr) (P : Option Addr) (c : Nat), A = some y ∧ (⟨p.a, P, c, p.ss⟩ : Kn).In w ∧ ∀ j v, (kl ⟨p.a, P, c, p.ss⟩)[j]? = some v → w.cell? ((y.add (q * 2)).add j) = some v := by
  obtain ⟨xs, rfl, h⟩ := h
  rw [List.getElem?_map, Option.map_eq_some_iff] at hq
  obtain ⟨x, hx, rfl⟩ := hq
  obtain ⟨y, rfl⟩ := rw_some h.1 (by have := (List.getElem?_eq_some_iff.1 hx).1; omega)
  exact ⟨y, x.P, x.c, rfl, h.2 x (List.mem_of_getElem? hx), h.1.at hx⟩
theorem Ks.some {w : World} {A : Option Addr} {ps : List Kp} (h : Ks w A ps) (hn : 0 < ps.length) : ∃ y, A = .some y := by
  obtain ⟨y, _, _, e, _⟩ := h.kn (List.getElem?_eq_getElem hn)
  exact ⟨y, e⟩
theorem Ks.drewN {w : World} {A : Option Addr} {ps : List Kp} (h : Ks w A ps) (n : Nat) : Ks (w.drewN n) A ps := h.below (bdrewN (Below.refl _ _) n)

/-- Whether a source is one. -/
def isrc (f : Int) : Bool := decide (0 ≤ f ∧ f < 4)
set_option maxRecDepth 100000 in
set_option maxHeartbeats 2000000 in
theorem src_any (f : Int) (w : World) : Calls Try.prog 23 #[.int .i64 f] w fun e w' => e = .returned (.bool (isrc f)) ∧ w' = w := by
  by_cases h0 : 0 ≤ f
  · by_cases h1 : f < 4
    · have HI := Lib.hid (show isrc f = true from decide_eq_true ⟨h0, h1⟩)
      go_enter Try.func23, Try.ntmps23
      go_wp2_with fail
      go_ret
      exact ⟨ret_bool HI.out.symm, rfl⟩
    · have HI := Lib.hid (show isrc f = false from decide_eq_false fun h => h1 h.2)
      go_enter Try.func23, Try.ntmps23
      go_wp2_with fail
      go_ret
      exact ⟨ret_bool HI.out.symm, rfl⟩
  · have HI := Lib.hid (show isrc f = false from decide_eq_false fun h => h0 h.1)
    go_enter Try.func23, Try.ntmps23
    go_wp2_with fail
    go_ret
    exact ⟨ret_bool HI.out.symm, rfl⟩

/-- How many of a row stand ahead of an address. -/
def lo : List Kp → Int → Nat
  | [], _ => 0
  | x :: r, a => if x.a < a then lo r a + 1 else 0
theorem lo_le (a : Int) : ∀ xs, lo xs a ≤ xs.length
  | [] => Nat.le_refl _
  | x :: r => by
    unfold lo
    have := lo_le a r
    split <;> simp
    omega
theorem lo_lt (a : Int) : ∀ (xs : List Kp) (k : Nat) (x : Kp), k < lo xs a → xs[k]? = some x → x.a < a
  | [], k, x, h, _ => by simp [lo] at h
  | y :: r, k, x, h, hx => by
    unfold lo at h
    split at h
    · rename_i hy
      cases k with
      | zero => simp at hx; subst hx; exact hy
      | succ k => exact lo_lt a r k x (by omega) (by simpa using hx)
    · omega
theorem lo_ge (a : Int) : ∀ (xs : List Kp) (x : Kp), xs[lo xs a]? = some x → ¬ x.a < a
  | [], x, hx => by simp at hx
  | y :: r, x, hx => by
    unfold lo at hx
    split at hx
    · exact lo_ge a r x (by simpa using hx)
    · rename_i hy
      simp at hx
      subst hx
      exact hy
/-- Whether the address is there. -/
def isAt (xs : List Kp) (a : Int) : Bool := match xs[lo xs a]? with
  | some x => decide (x.a = a)
  | none => false
theorem isAt_some {xs : List Kp} {a : Int} (h : isAt xs a = true) : ∃ x, xs[lo xs a]? = some x ∧ x.a = a ∧ lo xs a < xs.length := by
  unfold isAt at h
  split at h
  · rename_i x hx
    exact ⟨x, hx, by simpa using h, (List.getElem?_eq_some_iff.1 hx).1⟩
  · cases h
/-- Its sightings. -/
def sg (xs : List Kp) (a : Int) : List Sg := if isAt xs a = true then (match xs[lo xs a]? with
  | some x => x.ss
  | none => []) else []
theorem sg_no {xs : List Kp} {a : Int} (h : isAt xs a = false) : sg xs a = [] := by simp [sg, h]
theorem sg_at {xs : List Kp} {a : Int} (h : isAt xs a = true) {x : Kp} (hx : xs[lo xs a]? = some x) : sg xs a = x.ss := by simp [sg, h, hx]
/-- When it was seen last. -/
def tk (ss : List Sg) : Int := (ss[ss.length - 1]?.getD zs).t
def any (ss : List Sg) : Bool := decide (0 < ss.length)

set_option maxRecDepth 100000 in
set_option maxHeartbeats 2000000 in
theorem place_any (a : Int) (A : Option Addr) (xs : List Kp) (cap : Nat) (w : World) (h : Ks w A xs) (ha0 : 0 ≤ a) (ha1 : a < 4294967296) :
    Calls Try.prog 24 #[.slice A xs.length cap, .int .u32 a] w fun e w' => e = .returned (.tuple #[.int .i64 (lo xs a), .bool (isAt xs a)]) ∧ ∃ n, w' = w.drewN n := by
  have hle := lo_le a xs
  have hln := h.len
  have R := Lib.hid h
  clear h
  have HI := Lib.hid (show isAt xs a = _ by unfold isAt; rfl)
  obtain ⟨L, hL⟩ : ∃ L, xs.length = L := ⟨_, rfl⟩
  have HL := Lib.hid hL
  rw [hL] at hle hln ⊢
  clear hL
  obtain ⟨P, hP⟩ : ∃ P, lo xs a = P := ⟨_, rfl⟩
  have HP := Lib.hid hP
  rw [hP] at hle ⊢
  clear hP
  go_enter Try.func24, Try.ntmps24
  go_wp2_with fail
  go_loop [6] (fun i => ∃ k : Nat, i = .int .i64 k ∧ k ≤ P) (fun i => P - (intOf i).toNat)
  case atStart => exact ⟨0, rfl, by omega⟩
  case round =>
    obtain ⟨k, rfl, hk⟩ := hrel
    by_cases hkL : k < L
    · obtain ⟨x, hx⟩ : ∃ x, xs[k]? = some x := ⟨_, List.getElem?_eq_getElem (by rw [HL.out]; exact hkL)⟩
      obtain ⟨y, P1, c1, rfl, hin, hc⟩ := R.out.kn hx
      have c0 : w.cell? (y.add (k * 2)) = some (.int .u32 x.a) := by
        have := hc 0 _ rfl
        rwa [Addr.add_add] at this
      have X0 : 0 ≤ x.a := hin.a0
      have X1 : x.a < 4294967296 := hin.a1
      by_cases hlt : k < P
      · have hxa : x.a < a := lo_lt a xs k x (by rw [HP.out]; exact hlt) hx
        clear hx hin hc
        go_wp2_with fail
        go_round
        case rel => exact ⟨k + 1, by go_num, by omega⟩
        case measure => simp [intOf]; omega
      · obtain rfl : k = P := by omega
        have hxa : ¬ x.a < a := lo_ge a xs x (by rw [HP.out]; exact hx)
        have HA := Lib.hid (show isAt xs a = decide (x.a = a) by rw [HI.out, HP.out, hx])
        clear hx hin hc
        by_cases he : x.a = a
        · have he2 : (x.a == a) = true := by simpa using he
          have HE := Lib.hid he
          clear he
          go_wp2_with fail
          go_quiet (fail)
          go_wp2_with fail
          go_ret2
          refine ⟨?_, _, rfl⟩
          rw [HA.out, decide_eq_true HE.out]; rfl
        · have he2 : (x.a == a) = false := by simpa using he
          have HE := Lib.hid he
          clear he
          go_wp2_with fail
          go_quiet (fail)
          go_wp2_with fail
          go_ret2
          refine ⟨?_, _, rfl⟩
          rw [HA.out, decide_eq_false HE.out]; rfl
    · obtain rfl : k = L := by omega
      obtain rfl : k = P := by omega
      have HA := Lib.hid (show isAt xs a = false by rw [HI.out, HP.out, List.getElem?_eq_none (by rw [HL.out]; exact Nat.le_refl _)])
      go_wp2_with fail
      go_quiet (fail)
      go_wp2_with fail
      go_ret2
      refine ⟨?_, _, rfl⟩
      rw [HA.out]; rfl

set_option maxRecDepth 100000 in
set_option maxHeartbeats 2000000 in
theorem last_any (a : Int) (A : Option Addr) (xs : List Kp) (cap : Nat) (w : World) (h : Ks w A xs) (hcap : xs.length ≤ cap) (ha0 : 0 ≤ a) (ha1 : a < 4294967296) :
    Calls Try.prog 12 #[.slice A xs.length cap, .int .u32 a] w fun e w' => e = .returned (.tuple #[.int .i64 (tk (sg xs a)), .bool (any (sg xs a))]) ∧ ∃ n, w' = w.drewN n := by
  have hln := h.len
  have HC := Lib.hid (place_any a A xs cap w h ha0 ha1)
  have hle := lo_le a xs
  cases hI : isAt xs a with
  | false =>
    have HS := Lib.hid (show tk (sg xs a) = 0 ∧ any (sg xs a) = false by rw [sg_no hI]; exact ⟨rfl, rfl⟩)
    rw [hI] at HC
    clear h hI
    generalize xs.length = L at *
    generalize lo xs a = P at *
    go_enter Try.func12, Try.ntmps12
    go_wp2_with fail
    refine HC.out.mono ?_
    rintro e w1 ⟨rfl, n, rfl⟩
    go_wp2_with fail
    go_ret2
    exact ⟨by rw [HS.out.1, HS.out.2]; rfl, _, rfl⟩
  | true =>
    obtain ⟨x, hx, hxa, hlt⟩ := isAt_some hI
    obtain ⟨y, P1, c1, rfl, hin, hc⟩ := h.kn hx
    have HS := Lib.hid (sg_at hI hx)
    rw [hI] at HC
    have k1 : w.cell? ⟨(y.add (lo xs a * 2)).block, (y.add (lo xs a * 2)).off + 1, none⟩ = some (.slice P1 x.ss.length c1) := hc 1 _ rfl
    have hl8 := hin.lies.1
    rcases hn : x.ss.length with _ | m
    · have hT := Lib.hid (show tk (sg xs a) = 0 ∧ any (sg xs a) = false by rw [HS.out, List.eq_nil_of_length_eq_zero hn]; exact ⟨rfl, rfl⟩)
      rw [hn] at k1
      clear h hI hx hin hc hn hxa hl8
      generalize xs.length = L at *
      generalize lo xs a = P at *
      go_enter Try.func12, Try.ntmps12
      go_wp2_with fail
      refine HC.out.mono ?_
      rintro e w1 ⟨rfl, n, rfl⟩
      go_wp2_with fail
      go_ret2
      exact ⟨by rw [hT.out.1, hT.out.2]; rfl, _, rfl⟩
    · obtain ⟨z, hz⟩ : ∃ z, x.ss[m]? = some z := ⟨_, List.getElem?_eq_getElem (by omega)⟩
      have hT := Lib.hid (show tk (sg xs a) = z.t ∧ any (sg xs a) = true by rw [HS.out]; refine ⟨?_, by simp [any, hn]⟩; unfold tk; rw [hn, Nat.add_sub_cancel, hz]; rfl)
      obtain ⟨y1, rfl⟩ := rw_some hin.lies (by show 0 < x.ss.length; omega)
      have k2 : w.cell? ⟨(y1.add (m * 8)).block, (y1.add (m * 8)).off + 7, none⟩ = some (.int .i64 z.t) := hin.lies.at hz 7 _ rfl
      rw [hn] at k1 hl8
      have hm2 : IntKind.i64.wrap (m : Int) = (m : Int) := i64_nat (by omega)
      clear h hI hx hin hc hn hxa hz
      generalize xs.length = L at *
      generalize lo xs a = P at *
      go_enter Try.func12, Try.ntmps12
      go_wp2_with fail
      refine HC.out.mono ?_
      rintro e w1 ⟨rfl, n, rfl⟩
      go_wp2_with fail
      go_quiet (fail)
      go_wp2_with fail
      go_ret2
      exact ⟨by rw [hT.out.1, hT.out.2]; rfl, _, World.drewN_drewN _ _ _⟩
end Go.Proofs.Ytcnhagcmklgpkaa
