/-
  The contract of awake: it returns true, and turns nothing that was there. No condition.
-/
import Derived.Test.YtjkfgdeiciligaaAt
import Derived.Lib.SlBytesConst
set_option linter.unusedSimpArgs false
namespace Go.Proofs.Ytjkfgdeiciligaa
open Go.RowKit

section
variable {N : Nat} {w0 w w' : World} {p k : Nat} {pv pv' : Value} {M M' : Dk} {q : Nat} {rv : Value} {L : Lk}
theorem At.disk (h : At N w0 w p k pv M q rv L) (hN : N ≤ w0.heap.size) (d : Ds w' p k pv' M') (s : Step w w' (ft p k pv) (ft p k pv')) : At N w0 w' p k pv' M' q rv L := by
  have hNw : N ≤ w.heap.size := Nat.le_trans hN h.b.size
  exact ⟨d, h.l.step s, Below.step h.b s hN (fun b hb => h.new b (.inl hb)), (s.wide q rv).new hNw h.new⟩
theorem Ad.disk (h : Ad N w0 w p k pv M) (d : Ds w' p k pv' M') (s : Step w w' (ft p k pv) (ft p k pv')) : Ad N w0 w' p k pv' M' :=
  ⟨d, Below.step h.b s h.hN h.new, s.new (Nat.le_trans h.hN h.b.size) h.new, h.hN⟩
/-- A new block is none of theirs. -/
theorem At.fresh (h : At N w0 w p k pv M q rv L) : ¬ fs (ft p k pv) q rv w.heap.size := fun hf => by
  have := h.l.lt (fun b hb => h.d.lt b hb) _ hf
  omega
theorem At.lt (h : At N w0 w p k pv M q rv L) {b : Nat} (hb : fs (ft p k pv) q rv b) : b < w.heap.size := h.l.lt (fun b hb => h.d.lt b hb) _ hb
end

theorem bgn_near {M : Dk} {L : Lk} {zs : List Nat} (h : Sys M L) (hr : rf6 L zs.length ((L.size : Int) - 1) = 0) {s : Nat} (hs : M.stop = some s) (hf : M.fail = none) (hlt : s < L.size) : (bgn L M zs).1 = 9 := by
  have hh := h.half
  have hn9 := go_near (ml (L.size - L.first) L.size (fun _ => zer)) M s h.down (fun x hx => by
    have := ml_mem hx
    rcases h.gd.fst with h0 | h0 <;> omega) hs hf (by simpa [ml] using hlt)
  have eg : M.go (rop (L.size - L.first) L.size (L.turn + 1) zs) = M.go (dops (ml (L.size - L.first) L.size (fun _ => zer))) := by
    rw [rop_phs, phs_cons]
    exact Dk.go_stop (by rw [hn9]; omega)
  rw [bgn, if_pos hr, eg, if_neg (by rw [hn9]; omega)]
  exact hn9

/-- A literal row of one byte. -/
theorem Rd.lit (w : World) {a : Nat} (ha : a < 256) (i : Int) (hi : i = (a : Int)) : Rd (w.alloc (.cells #[.int .u8 i] 5 (1, 2))) (some ⟨w.heap.size, 0, none⟩) [a] := by
  subst hi
  exact Rd.block (heap_alloc_new w _) rfl (Bs.one ha) (by simp)
theorem lit_away {N : Nat} {w0 w : World} {p k : Nat} {pv : Value} {M : Dk} {q : Nat} {rv : Value} {L : Lk} {zs : List Nat} (h : At N w0 w p k pv M q rv L) : ∀ x, zs ≠ [] → (some ⟨w.heap.size, 0, none⟩ : Option Addr) = some x → ¬ fs (ft p k pv) q rv x.block := fun x _ hx hf => by
  injection hx with hx
  subst hx
  exact h.fresh hf
theorem rf6_fits {L : Lk} {n : Nat} {room : Int} (h1 : L.broken = false) (h2 : n ≤ 16384) (h3 : ((sct n : Nat) : Int) ≤ room) : rf6 L n room = 0 := by
  unfold rf6
  rw [if_neg (by rw [h1]; simp), if_neg (by omega), if_neg (by omega)]

set_option maxHeartbeats 4000000 in
set_option maxRecDepth 100000 in
theorem awake_any (w : World) : Calls Try.prog 8 #[] w fun e w' => e = .returned (.bool true) ∧ Below w.heap.size w w' := by
  have X1 := fun W => Lib.run_convert_bytes_const (P := Try.prog) W 33 5 #[.int .u8 120] 1 1 Try.underlying33 Try.underlying5
  have X2 := fun W => Lib.run_convert_bytes_const (P := Try.prog) W 33 5 #[.int .u8 121] 1 1 Try.underlying33 Try.underlying5
  have X3 := fun W => Lib.run_convert_bytes_const (P := Try.prog) W 33 5 #[.int .u8 122] 1 1 Try.underlying33 Try.underlying5
  go_enter Try.func8, Try.ntmps8
  go_wp2_with fail
  refine (of_at (N := w.heap.size) (w0 := w) 40 40 (by decide) w (Below.refl _ _) (Nat.le_refl _)).mono ?_
  rintro e w1 ⟨p, k, rfl, a1⟩
  have C2 := Lib.hid (open_new 40 a1 (by decide) (by decide))
  clear a1
  go_wp2_with fail
  refine C2.out.mono ?_
  rintro e w2 ⟨q, pv2, rv2, M2, rfl, a2, s2, k2⟩
  have A2 := Lib.hid a2
  have S2 := Lib.hid s2
  have K2 := Lib.hid k2
  clear a2 s2 k2 C2
  go_wp2_with fail
  -- the first record
  have m2 : M2.n ≤ 512 := by have := K2.out.n; rw [this]; decide
  have hs2 := S2.out.small m2
  have R3 := Lib.hid (Rd.lit w2 (a := 120) (by omega) 120 rfl)
  have A3 := Lib.hid (A2.out.below (Nat.le_refl _) ((Below.refl _ w2).alloc (Nat.le_refl _) (.cells #[.int .u8 120] 5 (1, 2))))
  have C3 := Lib.hid (begin_at _ [120] 1 A3.out (Nat.le_refl _) hs2 (by decide) R3.out (lit_away A2.out) (by decide) (by decide) (by have := K2.out.calls; have e : (⟨40, fun _ => zer, [], 0, none, none, false⟩ : Dk).calls = 0 := rfl; omega))
  refine C3.out.mono ?_
  rintro e w4 ⟨rfl, pv4, rv4, a4, _⟩
  have d4 := bgn_done S2.out m2 (by decide) (zs := [120]) (Bs.one (by omega))
  obtain ⟨e4, l4, s4, k4⟩ := d4.calm (K2.out.stop rfl) (K2.out.fail rfl) (rf6_fits rfl (by decide) (by decide))
  have hst4 := k4.stop (K2.out.stop rfl)
  have hfl4 := k4.fail (K2.out.fail rfl)
  have hn4 : (bgn ⟨40 / 2, 40 / 2, 1, 2, [[]], false⟩ M2 [120]).2.2.n = 40 := k4.n.trans K2.out.n
  have hc4 : (bgn ⟨40 / 2, 40 / 2, 1, 2, [[]], false⟩ M2 [120]).2.2.calls ≤ 2000 := by
    have h1 := k4.calls
    have h2 := K2.out.calls
    have e : (⟨40, fun _ => zer, [], 0, none, none, false⟩ : Dk).calls = 0 := rfl
    omega
  rw [l4] at a4
  rw [e4]
  generalize (bgn ⟨40 / 2, 40 / 2, 1, 2, [[]], false⟩ M2 [120]).2.2 = M4 at *
  have A4 := Lib.hid a4
  have S4 := Lib.hid s4
  have Q4 := Lib.hid (And.intro hst4 (And.intro hfl4 (And.intro hn4 hc4)))
  clear a4 s4 k4 l4 e4 d4 hst4 hfl4 hn4 hc4 C3 A3 R3 A2 S2 K2 m2 hs2
  generalize hL4 : (⟨40 / 2, 40 / 2, 1, 2, [[]], false⟩ : Lk).next [120] = L4 at *
  have HL4 := Lib.hid hL4
  clear hL4
  go_wp2_with fail
  -- the second record
  have m4 : M4.n ≤ 512 := by have := Q4.out.2.2.1; omega
  have hs4 := S4.out.small m4
  have R5 := Lib.hid (Rd.lit w4 (a := 121) (by omega) 121 rfl)
  have A5 := Lib.hid (A4.out.below (Nat.le_refl _) ((Below.refl _ w4).alloc (Nat.le_refl _) (.cells #[.int .u8 121] 5 (1, 2))))
  have C5 := Lib.hid (append_at _ [121] 1 A5.out (Nat.le_refl _) hs4 R5.out (lit_away A4.out) (by decide) (by decide) (by have := Q4.out.2.2.2; omega))
  refine C5.out.mono ?_
  rintro e w6 ⟨rfl, pv6, rv6, a6, _⟩
  have d6 := apd_done S4.out m4 (zs := [121]) (Bs.one (by omega))
  obtain ⟨e6, l6, s6, k6⟩ := d6.calm Q4.out.1 Q4.out.2.1 (rf6_fits (by rw [← HL4.out]; rfl) (by decide) (by rw [← HL4.out]; decide))
  have hst6 := k6.stop Q4.out.1
  have hfl6 := k6.fail Q4.out.2.1
  have hn6 : (apd L4 M4 [121]).2.2.n = 40 := k6.n.trans Q4.out.2.2.1
  have hc6 : (apd L4 M4 [121]).2.2.calls ≤ 3000 := by
    have h1 := k6.calls
    have h2 := Q4.out.2.2.2
    omega
  rw [l6] at a6
  rw [e6]
  generalize (apd L4 M4 [121]).2.2 = M6 at *
  have A6 := Lib.hid a6
  have S6 := Lib.hid s6
  have Q6 := Lib.hid (And.intro hst6 (And.intro hfl6 (And.intro hn6 hc6)))
  clear a6 s6 k6 l6 e6 d6 hst6 hfl6 hn6 hc6 C5 A5 R5 A4 S4 Q4 m4 hs4
  generalize hL6 : L4.more [121] = L6 at *
  have HL6 : Hid (L6 = ⟨20, 0, 2, 5, [[120], [121]], false⟩) := by rw [← hL6, ← HL4.out]; exact rfl
  clear hL6 HL4
  go_wp2_with fail
  -- a stop is set
  refine (arm_any p k _ _ 5 _ A6.out.d (by omega)).mono ?_
  rintro e w7 ⟨rfl, d7, s7⟩
  have A7 := Lib.hid (A6.out.disk (Nat.le_refl _) d7 s7)
  have S7 : Hid (Sys { M6 with stop := al 5 } L6) := ⟨S6.out.down, S6.out.pend, S6.out.half, S6.out.gd, S6.out.ok, S6.out.byt⟩
  clear d7 s7 A6
  go_wp2_with fail
  have R8 := Lib.hid (Rd.lit w7 (a := 122) (by omega) 122 rfl)
  have A8 := Lib.hid (A7.out.below (Nat.le_refl _) ((Below.refl _ w7).alloc (Nat.le_refl _) (.cells #[.int .u8 122] 5 (1, 2))))
  have m7 : ({ M6 with stop := al 5 } : Dk).n ≤ 512 := by have := Q6.out.2.2.1; show M6.n ≤ 512; omega
  have hs7 := S7.out.small m7
  have C8 := Lib.hid (begin_at _ [122] 1 A8.out (Nat.le_refl _) hs7 (by rw [HL6.out]; decide) R8.out (lit_away A7.out) (by decide) (by decide) (by have := Q6.out.2.2.2; show M6.calls + 1000 < _; omega))
  refine C8.out.mono ?_
  rintro e w9 ⟨rfl, pv9, rv9, a9, _⟩
  have hr8 : rf6 L6 ([122] : List Nat).length ((L6.size : Int) - 1) = 0 := by rw [HL6.out]; decide
  have e9 := bgn_near S7.out hr8 (s := 5) rfl Q6.out.2.1 (by rw [HL6.out]; decide)
  have hall : ∀ am, WG (kpa am (bgn L6 { M6 with stop := al 5 } [122]).2.2.pend (bgn L6 { M6 with stop := al 5 } [122]).2.2.kept (bgn L6 { M6 with stop := al 5 } [122]).2.2.pend.length) L6 := by
    rcases bgn_spec S7.out m7 (by rw [HL6.out]; decide) (zs := [122]) (Bs.one (by omega)) hr8 with ⟨h, _⟩ | ⟨_, _, _, h⟩
    · omega
    · exact h 5 rfl Q6.out.2.1 (by rw [HL6.out]; decide)
  have hstp : Stp { M6 with stop := al 5 } L6 (L6.next [122]) (bgn L6 { M6 with stop := al 5 } [122]).1 (bgn L6 { M6 with stop := al 5 } [122]).2.2 := by
    rcases bgn_spec S7.out m7 (by rw [HL6.out]; decide) (zs := [122]) (Bs.one (by omega)) hr8 with ⟨h, _⟩ | ⟨_, _, h, _⟩
    · omega
    · exact h
  rw [e9]
  generalize (bgn L6 { M6 with stop := al 5 } [122]).2.2 = M9 at *
  have A9 := Lib.hid (a9.ad (Nat.le_refl _))
  have W9 := Lib.hid hall
  have P9 := Lib.hid hstp
  clear a9 hall hstp e9 C8 A8 R8 A7 S6 m7 hs7
  go_wp2_with fail
  -- the disk goes on
  refine (restart_any p k _ M9 6 1 30 _ A9.out.d (by omega)).mono ?_
  rintro e w10 ⟨rfl, d10, s10⟩
  have A10 := Lib.hid (A9.out.disk d10 s10)
  clear d10 s10 A9
  have hn9 : M9.n = 40 := P9.out.n.trans Q6.out.2.2.1
  have hc9 : M9.calls ≤ 4000 := by
    have h1 := P9.out.calls
    have h2 := Q6.out.2.2.2
    have e : ({ M6 with stop := al 5 } : Dk).calls = M6.calls := rfl
    omega
  have C10 := Lib.hid (open_at A10.out rfl rfl (L := L6) (by show M9.n / 2 = _; rw [hn9, HL6.out]) (by show M9.n ≤ 512; omega) (W9.out _) (by rw [HL6.out]) (P9.out.byt _) (by rw [HL6.out]; decide) (by show M9.calls + 1000 < _; omega))
  clear hn9 hc9
  go_wp2_with fail
  refine C10.out.mono ?_
  rintro e w11 (⟨q11, pv11, rv11, M11, rfl, a11, s11, _⟩ | ⟨pv11, er, M11, her, rfl, _, h11, _⟩)
  · have A11 := Lib.hid a11
    have B11 := Lib.hid a11.b
    clear a11 s11 C10
    go_wp2_with fail
    refine (records_any A11.out.l (by rw [HL6.out]; decide)).mono ?_
    rintro e w12 ⟨g, vs, rfl, hrw, hb, _⟩
    have HR := Lib.hid hrw
    have B12 := Lib.hid (B11.out.trans (hb.mono B11.out.size))
    have CT := Lib.hid (turn_any (A11.out.l.below hb))
    clear hrw hb
    rw [show L6.recs.length = 2 by rw [HL6.out]; rfl]
    rw [show L6.turn = 2 by rw [HL6.out]] at CT
    obtain ⟨v0, hv0, B0, c0, rfl, r0, _⟩ := HR.out.sl 0 [120] (by rw [HL6.out]; rfl)
    obtain ⟨v1, hv1, B1, c1, rfl, r1, _⟩ := HR.out.sl 1 [121] (by rw [HL6.out]; rfl)
    have cc0 := HR.out.row.cell (i := 0) (by rw [HL6.out]; decide)
    have cc1 := HR.out.row.cell (i := 1) (by rw [HL6.out]; decide)
    rw [hv0] at cc0
    rw [hv1] at cc1
    simp only [Option.getD_some] at cc0 cc1
    have V0 := run_stg r0 c0
    have V1 := run_stg r1 c1
    rw [show stg [120] = ⟨#[120]⟩ from rfl] at V0
    rw [show stg [121] = ⟨#[121]⟩ from rfl] at V1
    simp only [List.length_singleton] at cc0 cc1 V0 V1
    clear hv0 hv1 r0 r1 HR
    go_wp2_with fail
    refine CT.out.mono ?_
    rintro e w13 ⟨rfl, rfl⟩
    go_wp2_with fail
    go_ret
    exact ⟨rfl, B12.out⟩
  · have := h11.stop rfl
    have := h11.fail rfl
    rcases h11.err with ⟨h, _⟩ | ⟨h, _⟩ <;> omega
end Go.Proofs.Ytjkfgdeiciligaa
