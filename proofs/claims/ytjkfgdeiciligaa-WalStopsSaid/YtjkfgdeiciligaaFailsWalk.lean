/-
  WalFails's walk: for every number, row of bytes and choice it returns true, and nothing that was in memory is touched. Conditions: the number has 8 bits; a row has at most 2^47 bytes, and not more than its room.
-/
import Derived.Test.YtjkfgdeiciligaaSmallWalk
import Derived.StillTailTactics
set_option linter.unusedSimpArgs false
namespace Go.Proofs.Ytjkfgdeiciligaa
open Go.RowKit

/-- A row's bytes, as a literal's block has them. -/
theorem Rd.lits (w : World) (zs : List Nat) (hb : Bs zs) (hl : zs.length ≤ 1000) (cs : Array Value) (hc : cs.toList = cel zs) (fr : Nat × Nat) : Rd (w.alloc (.cells cs 5 fr)) (some ⟨w.heap.size, 0, none⟩) zs :=
  Rd.block (heap_alloc_new w _) hc hb (by omega)

section
variable {N : Nat} {w0 w : World} {p k : Nat} {pv : Value} {M : Dk} {q : Nat} {rv : Value} {L : Lk}
theorem append_broken (A : Option Addr) (zs : List Nat) (c : Nat) (h : At N w0 w p k pv M q rv L) (hb : L.broken = true) (hN : N ≤ w0.heap.size) (hs : L.size ≤ 256 ∧ L.first ≤ L.size ∧ L.fin ≤ 256 ∧ L.recs.length ≤ 256) (hr : Rd w A zs) (hA : ∀ x, zs ≠ [] → A = some x → ¬ fs (ft p k pv) q rv x.block) (hzc : zs.length ≤ c) (hl : zs.length < 1000000000) (hc : M.calls + 1000 < 1000000) :
    Calls Try.prog 15 #[.pointer (some ⟨q, 0, none⟩), .slice A zs.length c] w fun e w' => e = .returned (.int .i64 11) ∧ ∃ pv' rv', At N w0 w' p k pv' M q rv' L ∧ Step w w' (fs (ft p k pv) q rv) (fs (ft p k pv') q rv') := by
  have e1 : rf6 L zs.length ((L.size : Int) - (L.fin : Int)) = 11 := by unfold rf6; rw [if_pos hb]
  have e2 : apd L M zs = (11, L, M) := by rw [apd, if_neg (by rw [e1]; omega), e1]
  have := append_at A zs c h hN hs hr hA hzc hl hc
  rwa [e2] at this
theorem begin_broken (A : Option Addr) (zs : List Nat) (c : Nat) (h : At N w0 w p k pv M q rv L) (hb : L.broken = true) (hN : N ≤ w0.heap.size) (hs : L.size ≤ 256 ∧ L.first ≤ L.size ∧ L.fin ≤ 256 ∧ L.recs.length ≤ 256) (ht : L.turn < 4000000000) (hr : Rd w A zs) (hA : ∀ x, zs ≠ [] → A = some x → ¬ fs (ft p k pv) q rv x.block) (hzc : zs.length ≤ c) (hl : zs.length < 1000000000) (hc : M.calls + 1000 < 1000000) :
    Calls Try.prog 13 #[.pointer (some ⟨q, 0, none⟩), .slice A zs.length c] w fun e w' => e = .returned (.int .i64 11) ∧ ∃ pv' rv', At N w0 w' p k pv' M q rv' L ∧ Step w w' (fs (ft p k pv) q rv) (fs (ft p k pv') q rv') := by
  have e1 : rf6 L zs.length ((L.size : Int) - 1) = 11 := by unfold rf6; rw [if_pos hb]
  have e2 : bgn L M zs = (11, L, M) := by rw [bgn, if_neg (by rw [e1]; omega), e1]
  have := begin_at A zs c h hN hs ht hr hA hzc hl hc
  rwa [e2] at this
end

/-- What a disk has behind an error, whatever is kept of what waits: a log as it should be. -/
structure Fin6 (M : Dk) : Prop where
  n : M.n = 40
  calls : M.calls ≤ 8000
  all : ∀ am, ∃ L, WG (kpa am M.pend M.kept M.pend.length) L ∧ L.size = 20 ∧ L.broken = false ∧ L.turn ≤ 2 ∧ L.recs.length ≤ 3 ∧ (L.recs.length = 1 ∨ L.recs[1]? = some [102, 105, 114, 115, 116])
  byt : ∀ am i j, kpa am M.pend M.kept M.pend.length i j < 256
theorem fin6_of {M M' : Dk} {L L' : Lk} {e : Int} (h : Stp M L L' e M') (hn : M.n = 40) (hc : M.calls ≤ 7000) (h1 : L.size = 20 ∧ L.broken = false ∧ L.turn ≤ 2 ∧ L.recs.length ≤ 3 ∧ (L.recs.length = 1 ∨ L.recs[1]? = some [102, 105, 114, 115, 116])) (h2 : L'.size = 20 ∧ L'.broken = false ∧ L'.turn ≤ 2 ∧ L'.recs.length ≤ 3 ∧ (L'.recs.length = 1 ∨ L'.recs[1]? = some [102, 105, 114, 115, 116])) : Fin6 M' :=
  ⟨h.n.trans hn, by have := h.calls; omega, fun am => (h.all am).elim (fun w => ⟨L, w, h1⟩) (fun w => ⟨L', w, h2⟩), h.byt⟩

/-- The first log. -/
def lf : Lk := ⟨20, 20, 1, 4, [[], [102, 105, 114, 115, 116]], false⟩
theorem lf_ok : lf.size = 20 ∧ lf.broken = false ∧ lf.turn ≤ 2 ∧ lf.recs.length ≤ 3 ∧ (lf.recs.length = 1 ∨ lf.recs[1]? = some [102, 105, 114, 115, 116]) := ⟨rfl, rfl, by decide, by decide, .inr rfl⟩
theorem lf_more (zs : List Nat) : (lf.more zs).size = 20 ∧ (lf.more zs).broken = false ∧ (lf.more zs).turn ≤ 2 ∧ (lf.more zs).recs.length ≤ 3 ∧ ((lf.more zs).recs.length = 1 ∨ (lf.more zs).recs[1]? = some [102, 105, 114, 115, 116]) := ⟨rfl, rfl, by show 1 ≤ 2; omega, by simp [Lk.more, lf], .inr rfl⟩
theorem lf_next (zs ys : List Nat) : ((lf.more zs).next ys).size = 20 ∧ ((lf.more zs).next ys).broken = false ∧ ((lf.more zs).next ys).turn ≤ 2 ∧ ((lf.more zs).next ys).recs.length ≤ 3 ∧ (((lf.more zs).next ys).recs.length = 1 ∨ ((lf.more zs).next ys).recs[1]? = some [102, 105, 114, 115, 116]) := ⟨rfl, rfl, by show 1 + 1 ≤ 2; omega, by simp [Lk.next], .inl (by simp [Lk.next])⟩

set_option maxHeartbeats 8000000 in
set_option maxRecDepth 100000 in
theorem walFails_walk (n : Nat) (A : Option Addr) (zs0 : List Nat) (c : Nat) (bg : Bool) (w : World) (hn : n < 256) (h : Rd w A zs0) (hc : zs0.length ≤ c) :
    Calls Try.prog 6 #[.int .u8 n, .slice A zs0.length c, .bool bg] w fun e w' => e = .returned (.bool true) ∧ Below w.heap.size w w' := by
  have AW := Lib.hid (awake_any w)
  obtain ⟨x, hx⟩ : ∃ x, x = min zs0.length 300 := ⟨_, rfl⟩
  have hlx : (zs0.take x).length = x := by rw [List.length_take]; omega
  have EX : min (zs0.length : Int) 300 = (x : Int) := by omega
  have hxc : x ≤ c := by omega
  have hx3 : x ≤ 300 := by omega
  have H := Lib.hid (h.take x)
  have HLX := Lib.hid hlx
  have hzl := h.1
  clear h hx hlx
  generalize zs0.take x = zs at *
  generalize zs0.length = l0 at *
  have X1 := fun W => Lib.run_convert_bytes_const (P := Try.prog) W 33 5 #[.int .u8 102, .int .u8 105, .int .u8 114, .int .u8 115, .int .u8 116] 5 5 Try.underlying33 Try.underlying5
  go_enter Try.func6, Try.ntmps6
  go_wp2_with fail
  refine AW.out.mono ?_
  rintro e w1 ⟨rfl, b1⟩
  have B1 := Lib.hid b1
  clear b1 AW
  go_wp2_with fail
  refine (of_at (N := w.heap.size) (w0 := w) 40 40 (by decide) w1 B1.out (Nat.le_refl _)).mono ?_
  rintro e w2 ⟨p, k, rfl, a2⟩
  have C2 := Lib.hid (open_new 40 a2 (by decide) (by decide))
  clear a2
  go_wp2_with fail
  refine C2.out.mono ?_
  rintro e w3 ⟨q, pv3, rv3, M3, rfl, a3, s3, k3⟩
  have A3 := Lib.hid a3
  have S3 := Lib.hid s3
  have K3 := Lib.hid k3
  clear a3 s3 k3 C2
  have m3 : M3.n ≤ 512 := by have := K3.out.n; rw [this]; decide
  have R4 := Lib.hid (Rd.lits w3 [102, 105, 114, 115, 116] (by intro i; match i with | 0 | 1 | 2 | 3 | 4 => decide | i + 5 => simp) (by decide) #[.int .u8 102, .int .u8 105, .int .u8 114, .int .u8 115, .int .u8 116] rfl (5, 6))
  have A4 := Lib.hid (A3.out.below (Nat.le_refl _) ((Below.refl _ w3).alloc (Nat.le_refl _) (.cells #[.int .u8 102, .int .u8 105, .int .u8 114, .int .u8 115, .int .u8 116] 5 (5, 6))))
  have C4 := Lib.hid (append_at _ [102, 105, 114, 115, 116] 5 A4.out (Nat.le_refl _) (S3.out.small m3) R4.out (lit_away A3.out) (by decide) (by decide) (by have := K3.out.calls; have e : (⟨40, fun _ => zer, [], 0, none, none, false⟩ : Dk).calls = 0 := rfl; omega))
  have d4 := apd_done S3.out m3 (zs := [102, 105, 114, 115, 116]) (by intro i; match i with | 0 | 1 | 2 | 3 | 4 => decide | i + 5 => simp)
  obtain ⟨e4, l4, s4, k4⟩ := d4.calm (K3.out.stop rfl) (K3.out.fail rfl) (rf6_fits rfl (by decide) (by decide))
  rw [e4, l4] at C4
  have hst4 := k4.stop (K3.out.stop rfl)
  have hn4 := k4.n.trans K3.out.n
  have hc4 : (apd ⟨40 / 2, 40 / 2, 1, 2, [[]], false⟩ M3 [102, 105, 114, 115, 116]).2.2.calls ≤ 2000 := by
    have h1 := k4.calls
    have h2 := K3.out.calls
    have e : (⟨40, fun _ => zer, [], 0, none, none, false⟩ : Dk).calls = 0 := rfl
    omega
  generalize (apd ⟨40 / 2, 40 / 2, 1, 2, [[]], false⟩ M3 [102, 105, 114, 115, 116]).2.2 = M4 at *
  rw [show (⟨40 / 2, 40 / 2, 1, 2, [[]], false⟩ : Lk).more [102, 105, 114, 115, 116] = lf from rfl] at *
  have S4 := Lib.hid s4
  have Q4 := Lib.hid (And.intro hst4 (And.intro hn4 hc4))
  clear s4 k4 l4 e4 d4 hst4 hn4 hc4 A4 R4 m3
  go_wp2_with fail
  refine C4.out.mono ?_
  rintro e w5 ⟨rfl, pv5, rv5, a5, _⟩
  have A5 := Lib.hid a5
  clear a5 C4 A3 S3 K3
  go_wp2_with fail
  -- a failure is set
  have EN : ((n : Int) % 40) = ((n % 40 : Nat) : Int) := by omega
  refine (fail_any p k _ _ _ _ A5.out.d (by omega)).mono ?_
  rintro e w6 ⟨rfl, d6, s6⟩
  have A6 := Lib.hid (A5.out.disk (Nat.le_refl _) d6 s6)
  generalize hM6 : ({ M4 with fail := al ((n : Int) % 40) } : Dk) = M6 at *
  have S6 : Hid (Sys M6 lf) := by rw [← hM6]; exact ⟨S4.out.down, S4.out.pend, S4.out.half, S4.out.gd, S4.out.ok, S4.out.byt⟩
  have Q6 : Hid (M6.stop = none ∧ M6.n = 40 ∧ M6.calls ≤ 2000) := by rw [← hM6]; exact Q4.out
  clear d6 s6 A5 S4 Q4 hM6 EN
  have m6 : M6.n ≤ 512 := by have := Q6.out.2.1; omega
  have HZ := Lib.hid (show Bs zs from H.out.2.1)
  have hsx : Hid (sct x ≤ 6) := by show _ ≤ _; unfold sct; omega
  have AWY : Hid (∀ {w' : World} {pv rv : Value} {M : Dk} {L : Lk}, At w.heap.size w w' p k pv M q rv L → ∀ y, zs ≠ [] → A = some y → ¬ fs (ft p k pv) q rv y.block) := fun h y hy hA hf => by
    have h1 := rd_lt H.out y hy hA
    have h2 := h.new _ hf
    omega
  have C6 := Lib.hid (append_at A zs c A6.out (Nat.le_refl _) (S6.out.small m6) (H.out.below (A6.out.b.mono (Nat.le_refl _))) (AWY.out A6.out) (by have := HLX.out; omega) (by have := HLX.out; omega) (by have := Q6.out.2.2; omega))
  have d6 := Lib.hid (apd_done S6.out m6 HZ.out)
  have hr6 := Lib.hid (show rf6 lf zs.length ((lf.size : Int) - (lf.fin : Int)) = 0 from rf6_fits rfl (by have := HLX.out; omega) (by have h1 := hsx.out; rw [HLX.out]; show ((sct x : Nat) : Int) ≤ (20 : Int) - 4; omega))
  rw [HLX.out] at C6
  go_wp2_with fail
  refine C6.out.mono ?_
  rintro e w7 ⟨rfl, pv7, rv7, a7, _⟩
  have A7 := Lib.hid a7
  clear a7 C6 A6
  generalize apd lf M6 zs = r at *
  obtain ⟨er, L7, M7⟩ := r
  have d7 := d6.out
  clear d6
  simp only at d7 A7 ⊢
  cases d7 with
  | no h _ _ _ => exact (h hr6.out).elim
  | ok _ e7 el7 s7 k7 =>
    subst e7 el7
    have S7 := Lib.hid s7
    have Q7 : Hid (M7.stop = none ∧ M7.n = 40 ∧ M7.calls ≤ 3000) := ⟨k7.stop Q6.out.1, k7.n.trans Q6.out.2.1, by have h1 := k7.calls; have h2 := Q6.out.2.2; omega⟩
    clear s7 k7 S6 Q6 m6
    cases bg
    · go_wp2_with fail
      refine (broken_any A7.out.l).mono ?_
      rintro e w8 ⟨rfl, rfl⟩
      rw [show (lf.more zs).broken = false from rfl]
      have B8 := Lib.hid A7.out.b
      go_wp2_with fail
      go_ret
      exact ⟨rfl, B8.out⟩
    · have m7 : M7.n ≤ 512 := by have := Q7.out.2.1; omega
      have C7 := Lib.hid (begin_at A zs c A7.out (Nat.le_refl _) (S7.out.small m7) (by show (1 : Nat) < _; omega) (H.out.below (A7.out.b.mono (Nat.le_refl _))) (AWY.out A7.out) (by have := HLX.out; omega) (by have := HLX.out; omega) (by have := Q7.out.2.2; omega))
      have d8 := Lib.hid (bgn_done S7.out m7 (by show (1 : Nat) < _; omega) HZ.out)
      have hr8 := Lib.hid (show rf6 (lf.more zs) zs.length (((lf.more zs).size : Int) - 1) = 0 from rf6_fits rfl (by have := HLX.out; omega) (by have h1 := hsx.out; rw [HLX.out]; show ((sct x : Nat) : Int) ≤ (20 : Int) - 1; omega))
      rw [HLX.out] at C7
      go_wp2_with fail
      refine C7.out.mono ?_
      rintro e w8 ⟨rfl, pv8, rv8, a8, _⟩
      have A8 := Lib.hid a8
      clear a8 C7 A7
      generalize bgn (lf.more zs) M7 zs = r at *
      obtain ⟨er, L8, M8⟩ := r
      have d9 := d8.out
      clear d8
      simp only at d9 A8 ⊢
      cases d9 with
      | no h _ _ _ => exact (h hr8.out).elim
      | ok _ e8 el8 s8 k8 =>
        subst e8 el8
        go_wp2_with fail
        refine (broken_any A8.out.l).mono ?_
        rintro e w9 ⟨rfl, rfl⟩
        rw [show ((lf.more zs).next zs).broken = false from rfl]
        have B9 := Lib.hid A8.out.b
        go_wp2_with fail
        go_ret
        exact ⟨rfl, B9.out⟩
      | err _ e8 el8 s8 =>
        subst el8
        have h10 : er = 10 := by
          have := s8.stop Q7.out.1
          rcases s8.err with ⟨h, _⟩ | ⟨h, _⟩ <;> omega
        subst h10
        have F := Lib.hid (fin6_of s8 Q7.out.2.1 (by have := Q7.out.2.2; omega) (lf_more zs) (lf_next zs zs))
        have HSM : Hid (({ lf.more zs with broken := true } : Lk).size ≤ 256 ∧ ({ lf.more zs with broken := true } : Lk).first ≤ ({ lf.more zs with broken := true } : Lk).size ∧ ({ lf.more zs with broken := true } : Lk).fin ≤ 256 ∧ ({ lf.more zs with broken := true } : Lk).recs.length ≤ 256) := S7.out.small m7
        have HTN : Hid (({ lf.more zs with broken := true } : Lk).turn < 4000000000) := by show (1 : Nat) < _; omega
        clear s8 e8 S7 Q7 m7 hr8
        go_wp2_with fail
        refine (calls_any p k _ _ _ A8.out.d).mono ?_
        rintro e w10 ⟨rfl, rfl⟩
        go_wp2_with fail
        refine (broken_any A8.out.l).mono ?_
        rintro e w10 ⟨rfl, rfl⟩
        have C11 := Lib.hid (append_broken A zs c A8.out rfl (Nat.le_refl _) HSM.out (H.out.below (A8.out.b.mono (Nat.le_refl _))) (AWY.out A8.out) (by have := HLX.out; omega) (by have := HLX.out; omega) (by have := F.out.calls; omega))
        rw [HLX.out] at C11
        go_wp2_with fail
        refine C11.out.mono ?_
        rintro e w11 ⟨rfl, pv11, rv11, a11, _⟩
        have A11 := Lib.hid a11
        clear a11 C11 A8
        have C12 := Lib.hid (begin_broken A zs c A11.out rfl (Nat.le_refl _) HSM.out HTN.out (H.out.below (A11.out.b.mono (Nat.le_refl _))) (AWY.out A11.out) (by have := HLX.out; omega) (by have := HLX.out; omega) (by have := F.out.calls; omega))
        rw [HLX.out] at C12
        go_wp2_with fail
        refine C12.out.mono ?_
        rintro e w12 ⟨rfl, pv12, rv12, a12, _⟩
        have A12 := Lib.hid a12
        clear a12 C12 A11
        go_wp2_with fail
        refine (calls_any p k _ _ _ A12.out.d).mono ?_
        rintro e w13 ⟨rfl, rfl⟩
        go_wp2_with fail
        -- the disk goes on
        refine (restart_any p k _ M8 0 (-1) 0 _ A12.out.d (by omega)).mono ?_
        rintro e w20 ⟨rfl, d20, s20⟩
        have A20 := Lib.hid ((A12.out.ad (Nat.le_refl _)).disk d20 s20)
        clear d20 s20 A12
        obtain ⟨L20, hw20, hs20, hb20, ht20, hl20, ho20⟩ := F.out.all (amt 0 (-1) 0)
        have C20 := Lib.hid (open_at A20.out rfl rfl (L := L20) (by show M8.n / 2 = _; rw [F.out.n, hs20]) (by show M8.n ≤ 512; have := F.out.n; omega) hw20 hb20 (F.out.byt _) (by omega) (by show M8.calls + 1000 < _; have := F.out.calls; omega))
        have HO := Lib.hid ho20
        have HL20 := Lib.hid hl20
        clear hw20 hs20 hb20 ht20 ho20 hl20 F
        go_wp2_with fail
        refine C20.out.mono ?_
        rintro e w21 (⟨q21, pv21, rv21, M21, rfl, a21, s21, _⟩ | ⟨pv21, er, M21, her, rfl, _, h21, _⟩)
        · have A21 := Lib.hid a21
          clear a21 s21 C20 A20
          go_wp2_with fail
          refine (records_any A21.out.l (by have := HL20.out; omega)).mono ?_
          rintro e w22 ⟨g, vs, rfl, hrw, hb, _⟩
          have HR := Lib.hid hrw
          have B22 := Lib.hid (A21.out.b.trans (hb.mono A21.out.b.size))
          clear hrw hb A21
          rcases HO.out with h1 | h1
          · rw [h1]
            go_upto_region 23 with fail
            clear HR
            refine wp_region_quiet_below (by kernel_rfl) (by kernel_rfl) ?_
            repeat (go_big_quiet_step (fail))
            refine wpQuiet_nil ?_
            intro _ hw'
            obtain ⟨⟨dq, osq⟩, hw''⟩ := hw'
            subst hw''
            have B23 := Lib.hid (B22.out.trans ((below_regrown w22 dq osq).mono B22.out.size))
            clear B22
            generalize Sort.grow (redrawn w22 dq) osq = w23 at *
            go_wp2_with fail
            go_ret
            exact ⟨rfl, B23.out⟩
          · obtain ⟨v1, hv1, D1, c1, rfl, r1, _⟩ := HR.out.sl 1 _ h1
            have hl1 := (List.getElem?_eq_some_iff.1 h1).1
            have cc1 := HR.out.row.cell (i := 1) hl1
            rw [hv1] at cc1
            simp only [Option.getD_some] at cc1
            have V1 := fun d os => run_stg (r1.below (below_regrown w22 d os)) c1
            rw [show stg [102, 105, 114, 115, 116] = ⟨#[102, 105, 114, 115, 116]⟩ from rfl] at V1
            simp only [List.length_cons, List.length_nil] at cc1 V1
            have cc1' := fun d os => cell_regrown cc1 d os
            clear cc1
            have hl4 := HL20.out
            clear hv1 r1 HR h1
            rcases (show L20.recs.length = 2 ∨ L20.recs.length = 3 by omega) with h2 | h2
            all_goals (
              rw [h2]
              clear hl1 hl4 h2
              go_upto_region 23 with fail
              refine wp_region_quiet_below (by kernel_rfl) (by kernel_rfl) ?_
              repeat (go_big_quiet_step (fail))
              refine wpQuiet_nil ?_
              intro _ hw'
              obtain ⟨⟨dq, osq⟩, hw''⟩ := hw'
              subst hw''
              have B23 := Lib.hid (B22.out.trans ((below_regrown w22 dq osq).mono B22.out.size))
              clear B22 V1 cc1'
              generalize Sort.grow (redrawn w22 dq) osq = w23 at *
              go_wp2_with fail
              go_ret
              exact ⟨rfl, B23.out⟩)
        · have := h21.stop rfl
          have := h21.fail rfl
          rcases h21.err with ⟨h, _⟩ | ⟨h, _⟩ <;> omega
  | err _ e7 el7 s7 =>
    subst el7
    have h10 : er = 10 := by
      have := s7.stop Q6.out.1
      rcases s7.err with ⟨h, _⟩ | ⟨h, _⟩ <;> omega
    subst h10
    have F := Lib.hid (fin6_of s7 Q6.out.2.1 (by have := Q6.out.2.2; omega) lf_ok (lf_more zs))
    have HSM : Hid (({ lf with broken := true } : Lk).size ≤ 256 ∧ ({ lf with broken := true } : Lk).first ≤ ({ lf with broken := true } : Lk).size ∧ ({ lf with broken := true } : Lk).fin ≤ 256 ∧ ({ lf with broken := true } : Lk).recs.length ≤ 256) := S6.out.small m6
    have HTN : Hid (({ lf with broken := true } : Lk).turn < 4000000000) := by show (1 : Nat) < _; omega
    clear s7 e7 S6 Q6 m6
    cases bg
    · skip
      go_wp2_with fail
      refine (calls_any p k _ _ _ A7.out.d).mono ?_
      rintro e w10 ⟨rfl, rfl⟩
      go_wp2_with fail
      refine (broken_any A7.out.l).mono ?_
      rintro e w10 ⟨rfl, rfl⟩
      have C11 := Lib.hid (append_broken A zs c A7.out rfl (Nat.le_refl _) HSM.out (H.out.below (A7.out.b.mono (Nat.le_refl _))) (AWY.out A7.out) (by have := HLX.out; omega) (by have := HLX.out; omega) (by have := F.out.calls; omega))
      rw [HLX.out] at C11
      go_wp2_with fail
      refine C11.out.mono ?_
      rintro e w11 ⟨rfl, pv11, rv11, a11, _⟩
      have A11 := Lib.hid a11
      clear a11 C11 A7
      have C12 := Lib.hid (begin_broken A zs c A11.out rfl (Nat.le_refl _) HSM.out HTN.out (H.out.below (A11.out.b.mono (Nat.le_refl _))) (AWY.out A11.out) (by have := HLX.out; omega) (by have := HLX.out; omega) (by have := F.out.calls; omega))
      rw [HLX.out] at C12
      go_wp2_with fail
      refine C12.out.mono ?_
      rintro e w12 ⟨rfl, pv12, rv12, a12, _⟩
      have A12 := Lib.hid a12
      clear a12 C12 A11
      go_wp2_with fail
      refine (calls_any p k _ _ _ A12.out.d).mono ?_
      rintro e w13 ⟨rfl, rfl⟩
      go_wp2_with fail
      -- the disk goes on
      refine (restart_any p k _ M7 0 (-1) 0 _ A12.out.d (by omega)).mono ?_
      rintro e w20 ⟨rfl, d20, s20⟩
      have A20 := Lib.hid ((A12.out.ad (Nat.le_refl _)).disk d20 s20)
      clear d20 s20 A12
      obtain ⟨L20, hw20, hs20, hb20, ht20, hl20, ho20⟩ := F.out.all (amt 0 (-1) 0)
      have C20 := Lib.hid (open_at A20.out rfl rfl (L := L20) (by show M7.n / 2 = _; rw [F.out.n, hs20]) (by show M7.n ≤ 512; have := F.out.n; omega) hw20 hb20 (F.out.byt _) (by omega) (by show M7.calls + 1000 < _; have := F.out.calls; omega))
      have HO := Lib.hid ho20
      have HL20 := Lib.hid hl20
      clear hw20 hs20 hb20 ht20 ho20 hl20 F
      go_wp2_with fail
      refine C20.out.mono ?_
      rintro e w21 (⟨q21, pv21, rv21, M21, rfl, a21, s21, _⟩ | ⟨pv21, er, M21, her, rfl, _, h21, _⟩)
      · have A21 := Lib.hid a21
        clear a21 s21 C20 A20
        go_wp2_with fail
        refine (records_any A21.out.l (by have := HL20.out; omega)).mono ?_
        rintro e w22 ⟨g, vs, rfl, hrw, hb, _⟩
        have HR := Lib.hid hrw
        have B22 := Lib.hid (A21.out.b.trans (hb.mono A21.out.b.size))
        clear hrw hb A21
        rcases HO.out with h1 | h1
        · rw [h1]
          go_upto_region 23 with fail
          clear HR
          refine wp_region_quiet_below (by kernel_rfl) (by kernel_rfl) ?_
          repeat (go_big_quiet_step (fail))
          refine wpQuiet_nil ?_
          intro _ hw'
          obtain ⟨⟨dq, osq⟩, hw''⟩ := hw'
          subst hw''
          have B23 := Lib.hid (B22.out.trans ((below_regrown w22 dq osq).mono B22.out.size))
          clear B22
          generalize Sort.grow (redrawn w22 dq) osq = w23 at *
          go_wp2_with fail
          go_ret
          exact ⟨rfl, B23.out⟩
        · obtain ⟨v1, hv1, D1, c1, rfl, r1, _⟩ := HR.out.sl 1 _ h1
          have hl1 := (List.getElem?_eq_some_iff.1 h1).1
          have cc1 := HR.out.row.cell (i := 1) hl1
          rw [hv1] at cc1
          simp only [Option.getD_some] at cc1
          have V1 := fun d os => run_stg (r1.below (below_regrown w22 d os)) c1
          rw [show stg [102, 105, 114, 115, 116] = ⟨#[102, 105, 114, 115, 116]⟩ from rfl] at V1
          simp only [List.length_cons, List.length_nil] at cc1 V1
          have cc1' := fun d os => cell_regrown cc1 d os
          clear cc1
          have hl4 := HL20.out
          clear hv1 r1 HR h1
          rcases (show L20.recs.length = 2 ∨ L20.recs.length = 3 by omega) with h2 | h2
          all_goals (
            rw [h2]
            clear hl1 hl4 h2
            go_upto_region 23 with fail
            refine wp_region_quiet_below (by kernel_rfl) (by kernel_rfl) ?_
            repeat (go_big_quiet_step (fail))
            refine wpQuiet_nil ?_
            intro _ hw'
            obtain ⟨⟨dq, osq⟩, hw''⟩ := hw'
            subst hw''
            have B23 := Lib.hid (B22.out.trans ((below_regrown w22 dq osq).mono B22.out.size))
            clear B22 V1 cc1'
            generalize Sort.grow (redrawn w22 dq) osq = w23 at *
            go_wp2_with fail
            go_ret
            exact ⟨rfl, B23.out⟩)
      · have := h21.stop rfl
        have := h21.fail rfl
        rcases h21.err with ⟨h, _⟩ | ⟨h, _⟩ <;> omega
    · have C7 := Lib.hid (begin_broken A zs c A7.out rfl (Nat.le_refl _) HSM.out HTN.out (H.out.below (A7.out.b.mono (Nat.le_refl _))) (AWY.out A7.out) (by have := HLX.out; omega) (by have := HLX.out; omega) (by have := F.out.calls; omega))
      rw [HLX.out] at C7
      go_wp2_with fail
      refine C7.out.mono ?_
      rintro e w8 ⟨rfl, pv8, rv8, a8, _⟩
      have A8 := Lib.hid a8
      clear a8 C7 A7
      go_wp2_with fail
      -- the disk goes on
      refine (restart_any p k _ M7 0 (-1) 0 _ A8.out.d (by omega)).mono ?_
      rintro e w20 ⟨rfl, d20, s20⟩
      have A20 := Lib.hid ((A8.out.ad (Nat.le_refl _)).disk d20 s20)
      clear d20 s20 A8
      obtain ⟨L20, hw20, hs20, hb20, ht20, hl20, ho20⟩ := F.out.all (amt 0 (-1) 0)
      have C20 := Lib.hid (open_at A20.out rfl rfl (L := L20) (by show M7.n / 2 = _; rw [F.out.n, hs20]) (by show M7.n ≤ 512; have := F.out.n; omega) hw20 hb20 (F.out.byt _) (by omega) (by show M7.calls + 1000 < _; have := F.out.calls; omega))
      have HO := Lib.hid ho20
      have HL20 := Lib.hid hl20
      clear hw20 hs20 hb20 ht20 ho20 hl20 F
      go_wp2_with fail
      refine C20.out.mono ?_
      rintro e w21 (⟨q21, pv21, rv21, M21, rfl, a21, s21, _⟩ | ⟨pv21, er, M21, her, rfl, _, h21, _⟩)
      · have A21 := Lib.hid a21
        clear a21 s21 C20 A20
        go_wp2_with fail
        refine (records_any A21.out.l (by have := HL20.out; omega)).mono ?_
        rintro e w22 ⟨g, vs, rfl, hrw, hb, _⟩
        have HR := Lib.hid hrw
        have B22 := Lib.hid (A21.out.b.trans (hb.mono A21.out.b.size))
        clear hrw hb A21
        rcases HO.out with h1 | h1
        · rw [h1]
          go_upto_region 23 with fail
          clear HR
          refine wp_region_quiet_below (by kernel_rfl) (by kernel_rfl) ?_
          repeat (go_big_quiet_step (fail))
          refine wpQuiet_nil ?_
          intro _ hw'
          obtain ⟨⟨dq, osq⟩, hw''⟩ := hw'
          subst hw''
          have B23 := Lib.hid (B22.out.trans ((below_regrown w22 dq osq).mono B22.out.size))
          clear B22
          generalize Sort.grow (redrawn w22 dq) osq = w23 at *
          go_wp2_with fail
          go_ret
          exact ⟨rfl, B23.out⟩
        · obtain ⟨v1, hv1, D1, c1, rfl, r1, _⟩ := HR.out.sl 1 _ h1
          have hl1 := (List.getElem?_eq_some_iff.1 h1).1
          have cc1 := HR.out.row.cell (i := 1) hl1
          rw [hv1] at cc1
          simp only [Option.getD_some] at cc1
          have V1 := fun d os => run_stg (r1.below (below_regrown w22 d os)) c1
          rw [show stg [102, 105, 114, 115, 116] = ⟨#[102, 105, 114, 115, 116]⟩ from rfl] at V1
          simp only [List.length_cons, List.length_nil] at cc1 V1
          have cc1' := fun d os => cell_regrown cc1 d os
          clear cc1
          have hl4 := HL20.out
          clear hv1 r1 HR h1
          rcases (show L20.recs.length = 2 ∨ L20.recs.length = 3 by omega) with h2 | h2
          all_goals (
            rw [h2]
            clear hl1 hl4 h2
            go_upto_region 23 with fail
            refine wp_region_quiet_below (by kernel_rfl) (by kernel_rfl) ?_
            repeat (go_big_quiet_step (fail))
            refine wpQuiet_nil ?_
            intro _ hw'
            obtain ⟨⟨dq, osq⟩, hw''⟩ := hw'
            subst hw''
            have B23 := Lib.hid (B22.out.trans ((below_regrown w22 dq osq).mono B22.out.size))
            clear B22 V1 cc1'
            generalize Sort.grow (redrawn w22 dq) osq = w23 at *
            go_wp2_with fail
            go_ret
            exact ⟨rfl, B23.out⟩)
      · have := h21.stop rfl
        have := h21.fail rfl
        rcases h21.err with ⟨h, _⟩ | ⟨h, _⟩ <;> omega
end Go.Proofs.Ytjkfgdeiciligaa
