/-
  What waits still, and what is asked again, as a plain function; two rows of one's own beside each other; the contracts of probe.Late and of the statements' own late. Conditions: the row lies in memory, has up to 900 questions, each asked at most 2^40 times.
-/
import Derived.Test.YtjjbkhelnmdfnaaChg
import Derived.Test.YtjjbkhelnmdfnaaQTail
set_option linter.unusedSimpArgs false
set_option linter.unusedVariables false
namespace Go.Proofs.Ytjjbkhelnmdfnaa
open Go.RowKit

/-- One question more: what is kept, and what is asked again. -/
def nx (now : Int) (x : Pr) : Pr := ⟨x.a, x.i, x.s, cl now, x.n + 1⟩
def st1 (wt ag now room : Int) (S : List Pr × List Pr) (x : Pr) : List Pr × List Pr :=
  if wt ≤ si now x.t then
    if ag ≤ x.n then S
    else if (S.2.length : Int) < room then (S.1 ++ [nx now x], S.2 ++ [nx now x])
    else (S.1 ++ [x], S.2)
  else (S.1 ++ [x], S.2)
def ltO (wt ag now room : Int) (xs : List Pr) : List Pr × List Pr := xs.foldl (st1 wt ag now room) ([], [])
theorem lt_snoc (wt ag now room : Int) {xs : List Pr} {k : Nat} {x : Pr} (hx : xs[k]? = some x) : ltO wt ag now room (xs.take (k + 1)) = st1 wt ag now room (ltO wt ag now room (xs.take k)) x := by
  unfold ltO
  rw [List.take_add_one, hx, List.foldl_append]
  rfl
theorem st1_len (wt ag now room : Int) (S : List Pr × List Pr) (x : Pr) (h : S.2.length ≤ S.1.length) : (st1 wt ag now room S x).1.length ≤ S.1.length + 1 ∧ (st1 wt ag now room S x).2.length ≤ (st1 wt ag now room S x).1.length := by
  unfold st1
  split
  · split
    · exact ⟨by omega, h⟩
    · split
      · simp; omega
      · simp; omega
  · simp; omega
theorem lt_len (wt ag now room : Int) (xs : List Pr) : (ltO wt ag now room xs).1.length ≤ xs.length ∧ (ltO wt ag now room xs).2.length ≤ (ltO wt ag now room xs).1.length := by
  have key : ∀ (xs : List Pr) (S : List Pr × List Pr), S.2.length ≤ S.1.length → (xs.foldl (st1 wt ag now room) S).1.length ≤ S.1.length + xs.length ∧ (xs.foldl (st1 wt ag now room) S).2.length ≤ (xs.foldl (st1 wt ag now room) S).1.length := by
    intro xs
    induction xs with
    | nil => intro S h; exact ⟨by simp, h⟩
    | cons x r ih =>
      intro S h
      obtain ⟨h1, h2⟩ := st1_len wt ag now room S x h
      obtain ⟨h3, h4⟩ := ih _ h2
      rw [List.foldl_cons]
      exact ⟨by rw [List.length_cons]; omega, h4⟩
  have := key xs ([], []) (by simp)
  simpa [ltO] using this

theorem Qb.fr {w : World} {b : Nat} {x : Pr} (h : Qb w b x) (j : Nat) (hj : j < 5) : w.frozen? ⟨b, j, none⟩ = false := by
  have := (h.2 j hj).2
  rwa [Nat.zero_add] at this
theorem Qb.set4 {w : World} {b : Nat} {x : Pr} (h : Qb w b x) (m : Int) : Qb (w.setCell ⟨b, 4, none⟩ (.int .i64 m)) b ⟨x.a, x.i, x.s, x.t, m⟩ := by
  refine ⟨fun j v hv => ?_, World.there_setCells h.2 b 4 [.int .i64 m]⟩
  match j, hv with
  | 0, hv => rw [World.cell?_setCell_other _ _ _ _ (by simp)]; exact h.1 0 v hv
  | 1, hv => rw [World.cell?_setCell_other _ _ _ _ (by simp)]; exact h.1 1 v hv
  | 2, hv => rw [World.cell?_setCell_other _ _ _ _ (by simp)]; exact h.1 2 v hv
  | 3, hv => rw [World.cell?_setCell_other _ _ _ _ (by simp)]; exact h.1 3 v hv
  | 4, hv =>
    simp [prl] at hv
    subst hv
    exact World.cell?_setCell_same _ _ _ (h.1 4 _ rfl)
  | j + 5, hv => simp [prl] at hv
theorem Qb.set3 {w : World} {b : Nat} {x : Pr} (h : Qb w b x) (m : Int) : Qb (w.setCell ⟨b, 3, none⟩ (.int .i64 m)) b ⟨x.a, x.i, x.s, m, x.n⟩ := by
  refine ⟨fun j v hv => ?_, World.there_setCells h.2 b 3 [.int .i64 m]⟩
  match j, hv with
  | 0, hv => rw [World.cell?_setCell_other _ _ _ _ (by simp)]; exact h.1 0 v hv
  | 1, hv => rw [World.cell?_setCell_other _ _ _ _ (by simp)]; exact h.1 1 v hv
  | 2, hv => rw [World.cell?_setCell_other _ _ _ _ (by simp)]; exact h.1 2 v hv
  | 3, hv =>
    simp [prl] at hv
    subst hv
    exact World.cell?_setCell_same _ _ _ (h.1 3 _ rfl)
  | 4, hv => rw [World.cell?_setCell_other _ _ _ _ (by simp)]; exact h.1 4 v hv
  | j + 5, hv => simp [prl] at hv
theorem Qb.grown {w w' : World} {b : Nat} {x : Pr} {row : Option Nat} (h : Qb w b x) (hg : w.grownBy w' row) (hne : some b ≠ row) : Qb w' b x := by
  have hb := hg.block b h.lt hne
  exact ⟨fun j v hv => by rw [World.cell?_of_block (a := ⟨b, 0 + j, none⟩) hb]; exact h.1 j v hv, fun j hj => ⟨by rw [World.cell?_of_block (a := ⟨b, 0 + j, none⟩) hb]; exact (h.2 j hj).1, by rw [World.frozen?_of_block (a := ⟨b, 0 + j, none⟩) hb]; exact (h.2 j hj).2⟩⟩

/-- Two rows of one's own, apart. -/
structure Tw (B : Nat) (S : List Pr × List Pr) (v1 v2 : Value) (w0 wr : World) : Prop where
  o1 : wr.ownsRow B 37 5 v1 S.1.length (eP.cs S.1)
  o2 : wr.ownsRow B 37 5 v2 S.2.length (eP.cs S.2)
  ap : ∀ g, v1.ownBlock = some g → v2.ownBlock ≠ some g
  bel : Below B w0 wr
theorem Tw.keep {B : Nat} {S : List Pr × List Pr} {v1 v2 : Value} {w0 wr w' : World} (h : Tw B S v1 v2 w0 wr) (hb : Below wr.heap.size wr w') (hB : B ≤ wr.heap.size) : Tw B S v1 v2 w0 w' :=
  ⟨own_keep h.o1 hb, own_keep h.o2 hb, h.ap, h.bel.trans (hb.mono hB)⟩
theorem Tw.app1 {B : Nat} {S : List Pr × List Pr} {v1 v2 v' : Value} {w0 W w' : World} {x : Pr} (h : Tw B S v1 v2 w0 W) (hB : B ≤ W.heap.size) (ho : w'.ownsRow B 37 5 v' (S.1.length + 1) (eP.cs (S.1 ++ [x]))) (hg : W.grownBy w' v1.ownBlock) (hn : v'.ownBlock = v1.ownBlock ∨ v'.ownBlock = some W.heap.size) : Tw B (S.1 ++ [x], S.2) v' v2 w0 w' := by
  refine ⟨by simpa using ho, h.o2.kept hg ?_, fun g hg1 => ?_, h.bel.grown hg hB (fun k hk => (h.o1.lt k hk).1)⟩
  · rcases hv : v1.ownBlock with _ | g
    · cases hv2 : v2.ownBlock
      · exact .inl rfl
      · exact .inr (by simp)
    · exact .inr (h.ap g hv)
  · rcases hn with e | e
    · exact h.ap g (by rw [← e]; exact hg1)
    · intro hc
      have := (h.o2.lt g hc).2
      rw [e] at hg1
      injection hg1 with hg1
      omega
theorem Tw.app2 {B : Nat} {S : List Pr × List Pr} {v1 v2 v' : Value} {w0 W w' : World} {x : Pr} (h : Tw B S v1 v2 w0 W) (hB : B ≤ W.heap.size) (ho : w'.ownsRow B 37 5 v' (S.2.length + 1) (eP.cs (S.2 ++ [x]))) (hg : W.grownBy w' v2.ownBlock) (hn : v'.ownBlock = v2.ownBlock ∨ v'.ownBlock = some W.heap.size) : Tw B (S.1, S.2 ++ [x]) v1 v' w0 w' := by
  refine ⟨h.o1.kept hg ?_, by simpa using ho, fun g hg1 hc => ?_, h.bel.grown hg hB (fun k hk => (h.o2.lt k hk).1)⟩
  · rcases hv : v1.ownBlock with _ | g
    · exact .inl rfl
    · exact .inr (fun e => h.ap g hv e.symm)
  · rcases hn with e | e
    · exact h.ap g hg1 (by rw [← e]; exact hc)
    · have := (h.o1.lt g hg1).2
      rw [e] at hc
      injection hc with hc
      omega
/-- What Late hands back: two rows. -/
def TwoPost (w : World) (S : List Pr × List Pr) (e : Ending) (w' : World) : Prop :=
  ∃ A1 c1 A2 c2, e = .returned (.tuple #[.slice A1 S.1.length c1, .slice A2 S.2.length c2]) ∧ S.1.length ≤ c1 ∧ S.2.length ≤ c2 ∧ Rw eP w' A1 S.1 ∧ Rw eP w' A2 S.2 ∧ Below w.heap.size w w'
theorem Tw.two {B : Nat} {S : List Pr × List Pr} {v1 v2 : Value} {w0 wr w : World} (h : Tw B S v1 v2 w0 wr) (h1 : S.1.length ≤ 1000) (h2 : S.2.length ≤ 1000) (hb : Below w.heap.size w wr) : TwoPost w S (.returned (.tuple #[v1, v2])) wr := by
  obtain ⟨A1, c1, rfl, k1, -, -, r1, -⟩ := own_rw (E := eP) h.o1 (by omega)
  obtain ⟨A2, c2, rfl, k2, -, -, r2, -⟩ := own_rw (E := eP) h.o2 (by omega)
  exact ⟨A1, c1, A2, c2, rfl, k1, k2, r1, r2, hb⟩

set_option maxRecDepth 100000 in
set_option maxHeartbeats 16000000 in
theorem late_any (c : Cf) (now room : Int) (A : Option Addr) (xs : List Pr) (cap : Nat) (w : World) (h : Rw eP w A xs) (hx9 : xs.length ≤ 900) (hn : ∀ x ∈ xs, 0 ≤ x.n ∧ x.n ≤ 1099511627776) :
    Calls Try.prog 12 #[cfv c, .slice A xs.length cap, .int .i64 now, .int .i64 room] w (TwoPost w (ltO c.f c.g now room xs)) := by
  have hln := h.1
  have HB0 := Lib.hid (show Below w.heap.size w (w.alloc (Cfx c)) from (Below.refl _ w).alloc (Nat.le_refl _) _)
  have R := Lib.hid (h.below HB0.out)
  have C0 := Lib.hid (cm_box w c)
  have HN := Lib.hid hn
  have HLN := Lib.hid (lt_len c.f c.g now room)
  have HS1 := Lib.hid (show ∀ S x, st1 c.f c.g now room S x = (if c.f ≤ si now x.t then (if c.g ≤ x.n then S else if (S.2.length : Int) < room then (S.1 ++ [nx now x], S.2 ++ [nx now x]) else (S.1 ++ [x], S.2)) else (S.1 ++ [x], S.2)) from fun S x => rfl)
  have HSI := Lib.hid fun t W => since_any now t W
  have HCL := Lib.hid fun W => clamp_any now W
  have HSN := Lib.hid (fun k x (hx : xs[k]? = some x) => lt_snoc c.f c.g now room hx)
  clear h hn
  obtain ⟨L, hL⟩ : ∃ L, xs.length = L := ⟨_, rfl⟩
  have HL := Lib.hid hL
  rw [hL] at hln hx9 ⊢
  clear hL
  unfold cfv Cfx at *
  go_enter Try.func12, Try.ntmps12
  go_wp2_with fail
  generalize w.alloc (.cells #[.int .i64 c.a, .int .i64 c.b, .int .i64 c.c, .int .i64 c.d, .int .i64 c.e, .int .i64 c.f, .int .i64 c.g, .int .i64 c.h, .int .i64 c.i] 27) = W0 at *
  go_loopw [10, 11, 17] (fun v u i wr => ∃ (k : Nat), i = .int .i64 k ∧ k ≤ L ∧ Hid (Tw W0.heap.size (ltO c.f c.g now room (xs.take k)) v u W0 wr)) (fun _ _ i _ => L - (intOf i).toNat)
  case atStart => exact ⟨0, rfl, by omega, Lib.hid ⟨World.ownsRow_nil _ _ _ _, World.ownsRow_nil _ _ _ _, (fun g e => by cases e), Below.refl _ _⟩⟩
  case round =>
    obtain ⟨k, rfl, hk, HT0⟩ := hrel
    have hl1 := (HLN.out (xs.take k)).1
    have hl2 := (HLN.out (xs.take k)).2
    have hl3 : (xs.take k).length ≤ L := by rw [List.length_take, HL.out]; omega
    by_cases hkL : k < L
    · obtain ⟨x, hx⟩ := at_of_lt (xs := xs) (k := k) (by rw [HL.out]; exact hkL)
      obtain ⟨y, rfl⟩ := rw_some R.out (by rw [HL.out]; omega)
      have hat := (R.out.below HT0.out.bel).at hx
      have HX := Lib.hid hx
      obtain ⟨hn0, hn1⟩ := HN.out x (List.mem_of_getElem? hx)
      have HSX := Lib.hid (HSN.out k x hx)
      clear hx
      generalize ltO c.f c.g now room (xs.take k) = S at *
      have hBr := HT0.out.bel.size
      have C1 := Lib.hid (C0.out.below HT0.out.bel)
      have T1 := Lib.hid (HT0.out.keep ((Below.refl _ wr).alloc (Nat.le_refl _) (Prx x)) hBr)
      have C2 := Lib.hid (C1.out.below ((Below.refl _ wr).alloc (Nat.le_refl _) (Prx x)))
      have Q2 := Lib.hid (qb_box wr x)
      have hqn : ∀ g, u11.ownBlock = some g → g < wr.heap.size := fun g hg => (HT0.out.o2.lt g hg).2
      have HQN := Lib.hid hqn
      have hB1 : W0.heap.size ≤ (wr.alloc (Prx x)).heap.size := Nat.le_trans hBr (by simp)
      have hbs : wr.heap.size < (wr.alloc (Prx x)).heap.size := by simp
      clear hqn C1
      unfold Prx at *
      obtain ⟨v1, rfl⟩ : ∃ v, v = u10 := ⟨_, rfl⟩
      obtain ⟨A2, c2, rfl, -, -, -, -, -⟩ := own_rw (E := eP) HT0.out.o2 (by omega)
      have hlen1 : S.1.length + 1 ≤ 1000000000000 := by omega
      have hlen2 : S.2.length + 1 ≤ 1000000000000 := by omega
      have hm9 : S.2.length ≤ 1000 := by omega
      have BW1 := Lib.hid (show Below wr.heap.size wr (wr.alloc (.cells #[.int .u32 x.a, .int .i64 x.i, .int .i64 x.s, .int .i64 x.t, .int .i64 x.n] 37)) from (Below.refl _ wr).alloc (Nat.le_refl _) _)
      clear hl1 hl2 hl3 T1
      obtain ⟨m2, hm2⟩ : ∃ m, S.2.length = m := ⟨_, rfl⟩
      have HM2 := Lib.hid hm2
      rw [hm2] at HT0 HQN hm9 ⊢
      clear hm2
      go_upto_region 5 with (refine at_load37 (.tmp 19) rfl rfl (y.add (k * 5)) x rfl hat ?_)
      generalize wr.alloc (.cells #[.int .u32 x.a, .int .i64 x.i, .int .i64 x.s, .int .i64 x.t, .int .i64 x.n] 37) = W at *
      obtain ⟨q0, q1, q2, q3, q4⟩ := Q2.out.c
      have rc5 := C2.out.c5
      have rc6 := C2.out.c6
      have f3 := Q2.out.fr 3 (by omega)
      have f4 := Q2.out.fr 4 (by omega)
      have r3 := cell_regrown q3
      have r5 := cell_regrown rc5
      have HSR := Lib.hid fun d' os => Calls.regrown_of (d := d') (os := os) ((HSI.out x.t (Sort.grow (redrawn W d') os)).mono fun _ _ ⟨he, hw⟩ => ⟨he, by rw [hw]; exact Below.refl _ _⟩)
      obtain ⟨Z, hZ⟩ : ∃ Z, si now x.t = Z := ⟨_, rfl⟩
      have HZ := Lib.hid hZ
      rw [hZ] at HSR
      clear hZ
      by_cases hl : c.f ≤ Z
      · refine wp_region_quiet_below (by kernel_rfl) (by kernel_rfl) ?_
        repeat (go_big_quiet_step ((go_at_call 22; exact HSR.out _ _)))
        refine wpQuiet_nil ?_
        intro _ hw'
        obtain ⟨⟨dq, osq⟩, hw''⟩ := hw'
        subst hw''
        have BQ := below_regrown W dq osq
        have BW3 := Lib.hid (BW1.out.trans (BQ.mono BW1.out.size))
        have C3 := Lib.hid (C2.out.below BQ)
        have Q3 := Lib.hid (Q2.out.below BQ)
        have hs3 := BQ.size
        clear q0 q1 q2 q3 q4 rc5 rc6 f3 f4 BQ BW1 C2 Q2 r3 r5 HSR
        generalize Sort.grow (redrawn W dq) osq = W3 at *
        obtain ⟨q0, q1, q2, q3, q4⟩ := Q3.out.c
        have rc5 := C3.out.c5
        have rc6 := C3.out.c6
        have f3 := Q3.out.fr 3 (by omega)
        have f4 := Q3.out.fr 4 (by omega)
        by_cases hg : c.g ≤ x.n
        · have HV := Lib.hid (show st1 c.f c.g now room S x = S by rw [HS1.out, HZ.out, if_pos hl, if_pos hg])
          have T9 := Lib.hid (HT0.out.keep BW3.out hBr)
          go_wp2_with fail
          go_roundw
          case rel => exact ⟨k + 1, by go_num, by omega, Lib.hid (by rw [HSX.out, HV.out]; exact T9.out)⟩
          case measure => simp [intOf]; omega
        · have hg' : decide (c.g ≤ x.n) = false := decide_eq_false hg
          by_cases hr : (m2 : Int) < room
          · have HV := Lib.hid (show st1 c.f c.g now room S x = (S.1 ++ [nx now x], S.2 ++ [nx now x]) by rw [HS1.out, HZ.out, if_pos hl, if_neg hg, if_pos (by rw [HM2.out]; exact hr)])
            obtain ⟨x5, hx5⟩ : ∃ x5, nx now x = x5 := ⟨_, rfl⟩
            have BW5 := Lib.hid ((BW3.out.setCell (p := ⟨wr.heap.size, 4, none⟩) (Nat.le_refl _) (.int .i64 (x.n + 1))).setCell (p := ⟨wr.heap.size, 3, none⟩) (Nat.le_refl _) (.int .i64 (cl now)))
            have Q5 := Lib.hid (show Qb ((W3.setCell ⟨wr.heap.size, 4, none⟩ (.int .i64 (x.n + 1))).setCell ⟨wr.heap.size, 3, none⟩ (.int .i64 (cl now))) wr.heap.size x5 from by rw [← hx5]; exact (Q3.out.set4 (x.n + 1)).set3 (cl now))
            go_wp2_with fail
            refine (HCL.out _).mono ?_
            rintro e w1 ⟨rfl, rfl⟩
            go_upto_region 10 with fail
            generalize (W3.setCell ⟨wr.heap.size, 4, none⟩ (.int .i64 (x.n + 1))).setCell ⟨wr.heap.size, 3, none⟩ (.int .i64 (cl now)) = W5 at *
            rw [hx5] at HV
            clear hx5 q0 q1 q2 q3 q4 rc5 rc6 f3 f4 Q3 C3 BW3
            have RX6 := Lib.hid (hs_box W5 x5)
            have BW6 := Lib.hid (show Below wr.heap.size wr (W5.alloc (Prx x5)) from BW5.out.alloc BW5.out.size _)
            have T6 := Lib.hid (HT0.out.keep BW6.out hBr)
            have Q6 := Lib.hid (Q5.out.below ((Below.refl _ W5).alloc (Nat.le_refl _) (Prx x5)))
            have hB6 := Lib.hid (T6.out.bel.size)
            unfold Prx at *
            go_wp2_with (first | (refine at_load37 (.tmp 13) rfl rfl _ x5 rfl Q5.out.at ?_) | (at_builtin; refine wpList_append_rw2 tP _ rfl (.tmp 50) (.tmp 52) rfl W0.heap.size _ _ _ (by simp [Act.eval, Act.put]) T6.out.o2 _ 1 1 [x5] (by simp [Act.eval, Act.put]) rfl RX6.out hlen2 hB6.out ?_))
            intro v7 w7 ho7 hg7 hn7
            have T7 := Lib.hid (T6.out.app2 hB6.out ho7 hg7 (by simpa using hn7))
            have Q7 := Lib.hid (Q6.out.grown hg7 (fun e => by have := HQN.out _ e.symm; omega))
            clear ho7 hg7 hn7 T6 Q6 RX6 BW6 BW5 Q5
            have RX8 := Lib.hid (hs_box w7 x5)
            have T8 := Lib.hid (T7.out.keep ((Below.refl _ w7).alloc (Nat.le_refl _) (Prx x5)) T7.out.bel.size)
            have hB8 := Lib.hid (T8.out.bel.size)
            unfold Prx at *
            go_wp2_with (first | (refine at_load37 (.tmp 13) rfl rfl _ x5 rfl Q7.out.at ?_) | (at_builtin; refine wpList_append_rw2 tP _ rfl (.tmp 54) (.tmp 56) rfl W0.heap.size _ _ _ (by simp [Act.eval, Act.put]) T8.out.o1 _ 1 1 [x5] (by simp [Act.eval, Act.put]) rfl RX8.out hlen1 hB8.out ?_))
            intro v9 w9 ho9 hg9 hn9
            have T9 := Lib.hid (T8.out.app1 hB8.out ho9 hg9 (by simpa using hn9))
            clear ho9 hg9 hn9 T8 RX8
            go_wp2_with fail
            go_roundw
            case rel => exact ⟨k + 1, by go_num, by omega, Lib.hid (by rw [HSX.out, HV.out]; exact T9.out)⟩
            case measure => simp [intOf]; omega
          · have hr' : decide ((m2 : Int) < room) = false := decide_eq_false hr
            have HV := Lib.hid (show st1 c.f c.g now room S x = (S.1 ++ [x], S.2) by rw [HS1.out, HZ.out, if_pos hl, if_neg hg, if_neg (by rw [HM2.out]; exact hr)])
            have T7 := Lib.hid (HT0.out.keep BW3.out hBr)
            have RX8 := Lib.hid (hs_box W3 x)
            have T8 := Lib.hid (T7.out.keep ((Below.refl _ W3).alloc (Nat.le_refl _) (Prx x)) T7.out.bel.size)
            have hB8 := Lib.hid (T8.out.bel.size)
            unfold Prx at *
            go_wp2_with (first | (refine at_load37 (.tmp 13) rfl rfl _ x rfl Q3.out.at ?_) | (at_builtin; refine wpList_append_rw2 tP _ rfl (.tmp 54) (.tmp 56) rfl W0.heap.size _ _ _ (by simp [Act.eval, Act.put]) T8.out.o1 _ 1 1 [x] (by simp [Act.eval, Act.put]) rfl RX8.out hlen1 hB8.out ?_))
            intro v9 w9 ho9 hg9 hn9
            have T9 := Lib.hid (T8.out.app1 hB8.out ho9 hg9 (by simpa using hn9))
            clear ho9 hg9 hn9 T8 RX8
            go_wp2_with fail
            go_roundw
            case rel => exact ⟨k + 1, by go_num, by omega, Lib.hid (by rw [HSX.out, HV.out]; exact T9.out)⟩
            case measure => simp [intOf]; omega
      · have hl' : decide (c.f ≤ Z) = false := decide_eq_false hl
        refine wp_region_quiet_below (by kernel_rfl) (by kernel_rfl) ?_
        repeat (go_big_quiet_step ((go_at_call 22; exact HSR.out _ _)))
        refine wpQuiet_nil ?_
        intro _ hw'
        obtain ⟨⟨dq, osq⟩, hw''⟩ := hw'
        subst hw''
        have BQ := below_regrown W dq osq
        have BW3 := Lib.hid (BW1.out.trans (BQ.mono BW1.out.size))
        have C3 := Lib.hid (C2.out.below BQ)
        have Q3 := Lib.hid (Q2.out.below BQ)
        have hs3 := BQ.size
        clear q0 q1 q2 q3 q4 rc5 rc6 f3 f4 BQ BW1 C2 Q2 r3 r5 HSR
        generalize Sort.grow (redrawn W dq) osq = W3 at *
        obtain ⟨q0, q1, q2, q3, q4⟩ := Q3.out.c
        have rc5 := C3.out.c5
        have rc6 := C3.out.c6
        have f3 := Q3.out.fr 3 (by omega)
        have f4 := Q3.out.fr 4 (by omega)
        have HV := Lib.hid (show st1 c.f c.g now room S x = (S.1 ++ [x], S.2) by rw [HS1.out, HZ.out, if_neg hl])
        have T7 := Lib.hid (HT0.out.keep BW3.out hBr)
        have RX8 := Lib.hid (hs_box W3 x)
        have T8 := Lib.hid (T7.out.keep ((Below.refl _ W3).alloc (Nat.le_refl _) (Prx x)) T7.out.bel.size)
        have hB8 := Lib.hid (T8.out.bel.size)
        unfold Prx at *
        go_wp2_with (first | (refine at_load37 (.tmp 13) rfl rfl _ x rfl Q3.out.at ?_) | (at_builtin; refine wpList_append_rw2 tP _ rfl (.tmp 54) (.tmp 56) rfl W0.heap.size _ _ _ (by simp [Act.eval, Act.put]) T8.out.o1 _ 1 1 [x] (by simp [Act.eval, Act.put]) rfl RX8.out hlen1 hB8.out ?_))
        intro v9 w9 ho9 hg9 hn9
        have T9 := Lib.hid (T8.out.app1 hB8.out ho9 hg9 (by simpa using hn9))
        clear ho9 hg9 hn9 T8 RX8
        go_wp2_with fail
        go_roundw
        case rel => exact ⟨k + 1, by go_num, by omega, Lib.hid (by rw [HSX.out, HV.out]; exact T9.out)⟩
        case measure => simp [intOf]; omega
    · obtain rfl : k = L := by omega
      have hfull : xs.take k = xs := List.take_of_length_le (by rw [HL.out]; exact Nat.le_refl _)
      rw [hfull] at HT0 hl1 hl2
      have h1 : (ltO c.f c.g now room xs).1.length ≤ 1000 := by rw [HL.out] at hl1; omega
      have h2 : (ltO c.f c.g now room xs).2.length ≤ 1000 := by omega
      have HD := Lib.hid (HT0.out.two h1 h2 (HB0.out.trans (HT0.out.bel.mono HB0.out.size)))
      go_wp2_with fail
      go_ret2
      exact HD.out

set_option maxRecDepth 100000 in
set_option maxHeartbeats 16000000 in
theorem llate_any (c : Cf) (now room : Int) (A : Option Addr) (xs : List Pr) (cap : Nat) (w : World) (h : Rw eP w A xs) (hx9 : xs.length ≤ 900) (hn : ∀ x ∈ xs, 0 ≤ x.n ∧ x.n ≤ 1099511627776) (ht : ∀ x ∈ xs, 0 ≤ x.t ∧ x.t ≤ 1099511627776) (hw0 : 0 ≤ now) (hw1 : now ≤ 1099511627776) :
    Calls Try.prog 13 #[cfv c, .slice A xs.length cap, .int .i64 now, .int .i64 room] w (TwoPost w (ltO c.f c.g now room xs)) := by
  have hln := h.1
  have HB0 := Lib.hid (show Below w.heap.size w (w.alloc (Cfx c)) from (Below.refl _ w).alloc (Nat.le_refl _) _)
  have R := Lib.hid (h.below HB0.out)
  have C0 := Lib.hid (cm_box w c)
  have HN := Lib.hid hn
  have HLN := Lib.hid (lt_len c.f c.g now room)
  have HS1 := Lib.hid (show ∀ S x, st1 c.f c.g now room S x = (if c.f ≤ si now x.t then (if c.g ≤ x.n then S else if (S.2.length : Int) < room then (S.1 ++ [nx now x], S.2 ++ [nx now x]) else (S.1 ++ [x], S.2)) else (S.1 ++ [x], S.2)) from fun S x => rfl)
  have HT := Lib.hid ht
  have HCN := Lib.hid (cl_in hw0 hw1)
  have HSN := Lib.hid (fun k x (hx : xs[k]? = some x) => lt_snoc c.f c.g now room hx)
  clear h hn ht
  obtain ⟨L, hL⟩ : ∃ L, xs.length = L := ⟨_, rfl⟩
  have HL := Lib.hid hL
  rw [hL] at hln hx9 ⊢
  clear hL
  unfold cfv Cfx at *
  go_enter Try.func13, Try.ntmps13
  go_wp2_with fail
  generalize w.alloc (.cells #[.int .i64 c.a, .int .i64 c.b, .int .i64 c.c, .int .i64 c.d, .int .i64 c.e, .int .i64 c.f, .int .i64 c.g, .int .i64 c.h, .int .i64 c.i] 27) = W0 at *
  go_loopw [10, 11, 17] (fun v u i wr => ∃ (k : Nat), i = .int .i64 k ∧ k ≤ L ∧ Hid (Tw W0.heap.size (ltO c.f c.g now room (xs.take k)) v u W0 wr)) (fun _ _ i _ => L - (intOf i).toNat)
  case atStart => exact ⟨0, rfl, by omega, Lib.hid ⟨World.ownsRow_nil _ _ _ _, World.ownsRow_nil _ _ _ _, (fun g e => by cases e), Below.refl _ _⟩⟩
  case round =>
    obtain ⟨k, rfl, hk, HT0⟩ := hrel
    have hl1 := (HLN.out (xs.take k)).1
    have hl2 := (HLN.out (xs.take k)).2
    have hl3 : (xs.take k).length ≤ L := by rw [List.length_take, HL.out]; omega
    by_cases hkL : k < L
    · obtain ⟨x, hx⟩ := at_of_lt (xs := xs) (k := k) (by rw [HL.out]; exact hkL)
      obtain ⟨y, rfl⟩ := rw_some R.out (by rw [HL.out]; omega)
      have hat := (R.out.below HT0.out.bel).at hx
      have HX := Lib.hid hx
      obtain ⟨hn0, hn1⟩ := HN.out x (List.mem_of_getElem? hx)
      obtain ⟨ht0, ht1⟩ := HT.out x (List.mem_of_getElem? hx)
      have HZ := Lib.hid (show si now x.t = now - x.t by unfold si; rw [HCN.out, cl_in ht0 ht1])
      have HSX := Lib.hid (HSN.out k x hx)
      clear hx
      generalize ltO c.f c.g now room (xs.take k) = S at *
      have hBr := HT0.out.bel.size
      have C1 := Lib.hid (C0.out.below HT0.out.bel)
      have T1 := Lib.hid (HT0.out.keep ((Below.refl _ wr).alloc (Nat.le_refl _) (Prx x)) hBr)
      have C2 := Lib.hid (C1.out.below ((Below.refl _ wr).alloc (Nat.le_refl _) (Prx x)))
      have Q2 := Lib.hid (qb_box wr x)
      have hqn : ∀ g, u11.ownBlock = some g → g < wr.heap.size := fun g hg => (HT0.out.o2.lt g hg).2
      have HQN := Lib.hid hqn
      have hB1 : W0.heap.size ≤ (wr.alloc (Prx x)).heap.size := Nat.le_trans hBr (by simp)
      have hbs : wr.heap.size < (wr.alloc (Prx x)).heap.size := by simp
      clear hqn C1
      unfold Prx at *
      obtain ⟨v1, rfl⟩ : ∃ v, v = u10 := ⟨_, rfl⟩
      obtain ⟨A2, c2, rfl, -, -, -, -, -⟩ := own_rw (E := eP) HT0.out.o2 (by omega)
      have hlen1 : S.1.length + 1 ≤ 1000000000000 := by omega
      have hlen2 : S.2.length + 1 ≤ 1000000000000 := by omega
      have hm9 : S.2.length ≤ 1000 := by omega
      have BW1 := Lib.hid (show Below wr.heap.size wr (wr.alloc (.cells #[.int .u32 x.a, .int .i64 x.i, .int .i64 x.s, .int .i64 x.t, .int .i64 x.n] 37)) from (Below.refl _ wr).alloc (Nat.le_refl _) _)
      clear hl1 hl2 hl3 T1
      obtain ⟨m2, hm2⟩ : ∃ m, S.2.length = m := ⟨_, rfl⟩
      have HM2 := Lib.hid hm2
      rw [hm2] at HT0 HQN hm9 ⊢
      clear hm2
      go_upto_region 5 with (refine at_load37 (.tmp 19) rfl rfl (y.add (k * 5)) x rfl hat ?_)
      generalize wr.alloc (.cells #[.int .u32 x.a, .int .i64 x.i, .int .i64 x.s, .int .i64 x.t, .int .i64 x.n] 37) = W at *
      obtain ⟨q0, q1, q2, q3, q4⟩ := Q2.out.c
      have rc5 := C2.out.c5
      have rc6 := C2.out.c6
      have f3 := Q2.out.fr 3 (by omega)
      have f4 := Q2.out.fr 4 (by omega)
      have BW3 := BW1
      have C3 := C2
      have Q3 := Q2
      obtain ⟨W3, rfl⟩ : ∃ W3, W3 = W := ⟨_, rfl⟩
      by_cases hl : c.f ≤ now - x.t
      · by_cases hg : c.g ≤ x.n
        · have HV := Lib.hid (show st1 c.f c.g now room S x = S by rw [HS1.out, HZ.out, if_pos hl, if_pos hg])
          have T9 := Lib.hid (HT0.out.keep BW3.out hBr)
          go_wp2_with fail
          go_roundw
          case rel => exact ⟨k + 1, by go_num, by omega, Lib.hid (by rw [HSX.out, HV.out]; exact T9.out)⟩
          case measure => simp [intOf]; omega
        · have hg' : decide (c.g ≤ x.n) = false := decide_eq_false hg
          by_cases hr : (m2 : Int) < room
          · have HV := Lib.hid (show st1 c.f c.g now room S x = (S.1 ++ [nx now x], S.2 ++ [nx now x]) by rw [HS1.out, HZ.out, if_pos hl, if_neg hg, if_pos (by rw [HM2.out]; exact hr)])
            obtain ⟨x5, hx5⟩ : ∃ x5, nx now x = x5 := ⟨_, rfl⟩
            have e5 : now = x5.t := by rw [← hx5]; exact HCN.out.symm
            have HX5 := Lib.hid (show prv x5 = .agg #[.int .u32 x.a, .int .i64 x.i, .int .i64 x.s, .int .i64 now, .int .i64 (x.n + 1)] by rw [← hx5]; unfold nx prv; rw [HCN.out])
            clear e5
            go_upto_region 9 with (refine at_store37 _ _ _ x x5 Q3.out rfl rfl rfl (by rw [HX5.out]; rfl) ?_; intro W5 Q5 BP5 G5)
            have BW5 := Lib.hid (BW3.out.trans (BP5.out _ (Nat.le_refl _)))
            rw [hx5] at HV
            clear hx5 q0 q1 q2 q3 q4 rc5 rc6 f3 f4 Q3 C3 BW3
            have RX6 := Lib.hid (hs_box W5 x5)
            have BW6 := Lib.hid (show Below wr.heap.size wr (W5.alloc (Prx x5)) from BW5.out.alloc BW5.out.size _)
            have T6 := Lib.hid (HT0.out.keep BW6.out hBr)
            have Q6 := Lib.hid (Q5.out.below ((Below.refl _ W5).alloc (Nat.le_refl _) (Prx x5)))
            have hB6 := Lib.hid (T6.out.bel.size)
            unfold Prx at *
            go_wp2_with (first | (refine at_load37 (.tmp 13) rfl rfl _ x5 rfl Q5.out.at ?_) | (at_builtin; refine wpList_append_rw2 tP _ rfl (.tmp 54) (.tmp 56) rfl W0.heap.size _ _ _ (by simp [Act.eval, Act.put]) T6.out.o2 _ 1 1 [x5] (by simp [Act.eval, Act.put]) rfl RX6.out hlen2 hB6.out ?_))
            intro v7 w7 ho7 hg7 hn7
            have T7 := Lib.hid (T6.out.app2 hB6.out ho7 hg7 (by simpa using hn7))
            have Q7 := Lib.hid (Q6.out.grown hg7 (fun e => by have := HQN.out _ e.symm; omega))
            clear ho7 hg7 hn7 T6 Q6 RX6 BW6 BW5 Q5
            have RX8 := Lib.hid (hs_box w7 x5)
            have T8 := Lib.hid (T7.out.keep ((Below.refl _ w7).alloc (Nat.le_refl _) (Prx x5)) T7.out.bel.size)
            have hB8 := Lib.hid (T8.out.bel.size)
            unfold Prx at *
            go_wp2_with (first | (refine at_load37 (.tmp 13) rfl rfl _ x5 rfl Q7.out.at ?_) | (at_builtin; refine wpList_append_rw2 tP _ rfl (.tmp 58) (.tmp 60) rfl W0.heap.size _ _ _ (by simp [Act.eval, Act.put]) T8.out.o1 _ 1 1 [x5] (by simp [Act.eval, Act.put]) rfl RX8.out hlen1 hB8.out ?_))
            intro v9 w9 ho9 hg9 hn9
            have T9 := Lib.hid (T8.out.app1 hB8.out ho9 hg9 (by simpa using hn9))
            clear ho9 hg9 hn9 T8 RX8
            go_wp2_with fail
            go_roundw
            case rel => exact ⟨k + 1, by go_num, by omega, Lib.hid (by rw [HSX.out, HV.out]; exact T9.out)⟩
            case measure => simp [intOf]; omega
          · have hr' : decide ((m2 : Int) < room) = false := decide_eq_false hr
            have HV := Lib.hid (show st1 c.f c.g now room S x = (S.1 ++ [x], S.2) by rw [HS1.out, HZ.out, if_pos hl, if_neg hg, if_neg (by rw [HM2.out]; exact hr)])
            have T7 := Lib.hid (HT0.out.keep BW3.out hBr)
            have RX8 := Lib.hid (hs_box W3 x)
            have T8 := Lib.hid (T7.out.keep ((Below.refl _ W3).alloc (Nat.le_refl _) (Prx x)) T7.out.bel.size)
            have hB8 := Lib.hid (T8.out.bel.size)
            unfold Prx at *
            go_wp2_with (first | (refine at_load37 (.tmp 13) rfl rfl _ x rfl Q3.out.at ?_) | (at_builtin; refine wpList_append_rw2 tP _ rfl (.tmp 58) (.tmp 60) rfl W0.heap.size _ _ _ (by simp [Act.eval, Act.put]) T8.out.o1 _ 1 1 [x] (by simp [Act.eval, Act.put]) rfl RX8.out hlen1 hB8.out ?_))
            intro v9 w9 ho9 hg9 hn9
            have T9 := Lib.hid (T8.out.app1 hB8.out ho9 hg9 (by simpa using hn9))
            clear ho9 hg9 hn9 T8 RX8
            go_wp2_with fail
            go_roundw
            case rel => exact ⟨k + 1, by go_num, by omega, Lib.hid (by rw [HSX.out, HV.out]; exact T9.out)⟩
            case measure => simp [intOf]; omega
      · have hl' : decide (c.f ≤ now - x.t) = false := decide_eq_false hl
        have HV := Lib.hid (show st1 c.f c.g now room S x = (S.1 ++ [x], S.2) by rw [HS1.out, HZ.out, if_neg hl])
        have T7 := Lib.hid (HT0.out.keep BW3.out hBr)
        have RX8 := Lib.hid (hs_box W3 x)
        have T8 := Lib.hid (T7.out.keep ((Below.refl _ W3).alloc (Nat.le_refl _) (Prx x)) T7.out.bel.size)
        have hB8 := Lib.hid (T8.out.bel.size)
        unfold Prx at *
        go_wp2_with (first | (refine at_load37 (.tmp 13) rfl rfl _ x rfl Q3.out.at ?_) | (at_builtin; refine wpList_append_rw2 tP _ rfl (.tmp 58) (.tmp 60) rfl W0.heap.size _ _ _ (by simp [Act.eval, Act.put]) T8.out.o1 _ 1 1 [x] (by simp [Act.eval, Act.put]) rfl RX8.out hlen1 hB8.out ?_))
        intro v9 w9 ho9 hg9 hn9
        have T9 := Lib.hid (T8.out.app1 hB8.out ho9 hg9 (by simpa using hn9))
        clear ho9 hg9 hn9 T8 RX8
        go_wp2_with fail
        go_roundw
        case rel => exact ⟨k + 1, by go_num, by omega, Lib.hid (by rw [HSX.out, HV.out]; exact T9.out)⟩
        case measure => simp [intOf]; omega
    · obtain rfl : k = L := by omega
      have hfull : xs.take k = xs := List.take_of_length_le (by rw [HL.out]; exact Nat.le_refl _)
      rw [hfull] at HT0 hl1 hl2
      have h1 : (ltO c.f c.g now room xs).1.length ≤ 1000 := by rw [HL.out] at hl1; omega
      have h2 : (ltO c.f c.g now room xs).2.length ≤ 1000 := by omega
      have HD := Lib.hid (HT0.out.two h1 h2 (HB0.out.trans (HT0.out.bel.mono HB0.out.size)))
      go_wp2_with fail
      go_ret2
      exact HD.out

end Go.Proofs.Ytjjbkhelnmdfnaa
