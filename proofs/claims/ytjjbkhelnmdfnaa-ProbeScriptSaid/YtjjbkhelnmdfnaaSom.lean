/-
  The contracts of the statements' own examples, and of their Some: a row behind some deeds. Conditions: the deeds lie in memory, bytes are bytes, and Again is at most 8.
-/
import Derived.BigGuard
import Derived.Test.YtjjbkhelnmdfnaaSem
set_option linter.unusedSimpArgs false
set_option linter.unusedVariables false
namespace Go.Proofs.Ytjjbkhelnmdfnaa
open Go.RowKit

def p5 : Pr := ⟨167772165, 5, 1, 2, 0⟩
def c3 : Cf := ⟨0, 0, 0, 0, 0, 3, 0, 0, 0⟩
theorem awk_of : ofP 167772165 65537 2 = p5 := by decide
theorem awk_put : putC [] p5 = 0 ∧ putR [] p5 = [p5] := by decide
theorem awk_l1 : ltO 3 0 4 9 [p5] = ([p5], []) := by decide
theorem awk_l2 : ltO 3 0 5 9 [p5] = ([], []) := by decide
theorem awk_r : rgB [p5] = true := by decide

set_option maxRecDepth 100000 in
set_option maxHeartbeats 8000000 in
theorem awake_any (w : World) : Calls Try.prog 9 #[] w fun e w' => e = .returned (.bool true) ∧ Below w.heap.size w w' := by
  have HOF := Lib.hid fun W => of_any 167772165 65537 2 W
  have HPU := Lib.hid fun W => put_any p5 none [] 0 W (Rw.nil W none) (by simp) (by simp)
  have hn5 : ∀ x ∈ [p5], 0 ≤ x.n ∧ x.n ≤ 1099511627776 := fun x hx => by simp at hx; subst hx; decide
  have HL1 := Lib.hid fun A cap W hR => late_any c3 4 9 A [p5] cap W hR (by simp) hn5
  have HL2 := Lib.hid fun A cap W hR => late_any c3 5 9 A [p5] cap W hR (by simp) hn5
  have HRR := Lib.hid fun A cap W hR hc => right_row A [p5] cap W hR hc
  rw [show ltO c3.f c3.g 4 9 [p5] = ([p5], []) from awk_l1] at HL1
  rw [show ltO c3.f c3.g 5 9 [p5] = ([], []) from awk_l2] at HL2
  rw [awk_r] at HRR
  rw [awk_put.1, awk_put.2] at HPU
  rw [awk_of] at HOF
  simp only [List.length_cons, List.length_nil, Nat.zero_add] at HPU HL1 HL2 HRR
  have e1 := Lib.hid (show p5.s = 1 from rfl)
  have e2 := Lib.hid (show p5.i = 5 from rfl)
  generalize p5 = p at *
  clear hn5
  unfold prv cfv at *
  simp only [c3] at HL1 HL2
  go_enter Try.func9, Try.ntmps9
  go_wp2_with fail
  refine (HOF.out _).mono ?_
  rintro e w1 ⟨rfl, hb⟩
  have B1 := Lib.hid hb
  have B2 := Lib.hid (B1.out.alloc B1.out.size (Prx p))
  have Q2 := Lib.hid (qb_box w1 p)
  clear hb
  unfold Prx at *
  go_upto_region 2 with fail
  generalize w1.alloc (.cells #[.int .u32 p.a, .int .i64 p.i, .int .i64 p.s, .int .i64 p.t, .int .i64 p.n] 37) = W2 at *
  go_wp2_with (refine at_load37 (.tmp 1) rfl rfl _ p rfl Q2.out.at ?_)
  refine (HPU.out _).mono ?_
  rintro e w3 ⟨A3, c3', rfl, hc3, -, hR3, hb⟩
  simp only [List.length_cons, List.length_nil, Nat.zero_add] at hc3 ⊢
  have B3 := Lib.hid (B2.out.trans (hb.mono B2.out.size))
  have R3 := Lib.hid hR3
  have Q3 := Lib.hid (Q2.out.below hb)
  have HC3 := Lib.hid hc3
  clear hb hR3 hc3 Q2
  go_wp2_with fail
  refine (HL1.out A3 c3' w3 R3.out).mono ?_
  rintro e w4 ⟨A4, c4, A5, c5, rfl, -, -, hR4, -, hb⟩
  dsimp only at hR4
  simp only [List.length_cons, List.length_nil, Nat.zero_add]
  have B4 := Lib.hid (B3.out.trans (hb.mono B3.out.size))
  have R4 := Lib.hid (R3.out.below hb)
  have Q4 := Lib.hid (Q3.out.below hb)
  clear hb hR4 Q3
  go_wp2_with fail
  refine (HL2.out A3 c3' w4 R4.out).mono ?_
  rintro e w5 ⟨A6, c6, A7, c7, rfl, -, -, -, -, hb⟩
  simp only [List.length_cons, List.length_nil, Nat.zero_add]
  have B5 := Lib.hid (B4.out.trans (hb.mono B4.out.size))
  have R5 := Lib.hid (R4.out.below hb)
  have Q5 := Lib.hid (Q4.out.below hb)
  clear hb Q4
  obtain ⟨-, q1, q2, -, -⟩ := Q5.out.c
  rw [e2.out] at q1
  rw [e1.out] at q2
  go_wp2_with fail
  refine (HRR.out A3 c3' w5 R5.out HC3.out).mono ?_
  rintro e w6 ⟨rfl, hb⟩
  have B6 := Lib.hid (B5.out.trans (hb.mono B5.out.size))
  clear hb
  go_wp2_with fail
  go_ret
  exact ⟨rfl, B6.out⟩

def sm1 (wt ag : Int) (s : List Pr × Int) (a : Ac) : List Pr × Int :=
  if a.o % 4 = 0 then ((ltO wt ag (s.2 + a.r % 5) (1 + a.r % 4) s.1).1, s.2 + a.r % 5)
  else if putC s.1 (ofP (nr a.p) a.q s.2) = 0 then (s.1 ++ [ofP (nr a.p) a.q s.2], s.2) else s
/-- A row behind some deeds, and the tick then. -/
def smO (wt ag : Int) (ys : List Ac) : List Pr × Int := ys.foldl (sm1 wt ag) ([], 0)
theorem smO_snoc (wt ag : Int) (ys : List Ac) (a : Ac) : smO wt ag (ys ++ [a]) = sm1 wt ag (smO wt ag ys) a := by simp [smO, List.foldl_append]
theorem nr_in (n : Int) : 0 ≤ nr n ∧ nr n < 4294967296 := by unfold nr; omega
/-- A row that is right, none of whose questions was asked later than now. -/
structure Vn (s : List Pr × Int) : Prop where
  v : V s.1
  now : ∀ x ∈ s.1, x.t ≤ s.2
  n0 : 0 ≤ s.2
theorem sm1_ok {wt ag : Int} {s : List Pr × Int} {a : Ac} (hag : ag ≤ 8) (ha : a.Ok) (h : Vn s) (hb : s.2 ≤ 100000) : Vn (sm1 wt ag s a) ∧ (sm1 wt ag s a).2 ≤ s.2 + 4 := by
  have hn := h.n0
  have hr := ha.r
  unfold sm1
  split
  · refine ⟨⟨lt_ok h.v hag, fun p hp => ?_, by show 0 ≤ s.2 + a.r % 5; omega⟩, by show s.2 + a.r % 5 ≤ s.2 + 4; omega⟩
    obtain ⟨x, hx, ⟨rfl, _⟩ | ⟨rfl, _⟩⟩ := lt_mem hp
    · have := h.now _ hx
      show p.t ≤ s.2 + a.r % 5
      omega
    · show cl (s.2 + a.r % 5) ≤ s.2 + a.r % 5
      rw [cl_in (by omega) (by omega)]
      exact Int.le_refl _
  · split
    · rename_i hp
      refine ⟨⟨put_ok h.v (rq_of _ _ _) (nr_in _).1 (nr_in _).2 hp, fun x hx => ?_, hn⟩, by show s.2 ≤ s.2 + 4; omega⟩
      rcases List.mem_append.1 hx with hx | hx
      · exact h.now x hx
      · simp at hx
        subst hx
        show cl s.2 ≤ s.2
        rw [cl_in (by omega) (by omega)]
        exact Int.le_refl _
    · exact ⟨h, by omega⟩
theorem smO_ok (wt ag : Int) (hag : ag ≤ 8) : ∀ (ys : List Ac), (∀ y ∈ ys, y.Ok) → ys.length ≤ 1000 → Vn (smO wt ag ys) ∧ (smO wt ag ys).2 ≤ 4 * ys.length := by
  intro ys
  have key : ∀ (ys : List Ac) (s : List Pr × Int), (∀ y ∈ ys, y.Ok) → Vn s → s.2 + 4 * ys.length ≤ 100000 → Vn (ys.foldl (sm1 wt ag) s) ∧ (ys.foldl (sm1 wt ag) s).2 ≤ s.2 + 4 * ys.length := by
    intro ys
    induction ys with
    | nil => intro s _ h _; exact ⟨h, by simp⟩
    | cons a r ih =>
      intro s hok h hb
      rw [List.length_cons] at hb
      obtain ⟨g1, g2⟩ := sm1_ok (wt := wt) hag (hok a (by simp)) h (by omega)
      obtain ⟨k1, k2⟩ := ih (sm1 wt ag s a) (fun y hy => hok y (List.mem_cons_of_mem _ hy)) g1 (by omega)
      rw [List.foldl_cons]
      refine ⟨k1, ?_⟩
      rw [List.length_cons]
      omega
  intro hok hl
  have := key ys ([], 0) hok ⟨V.nil, fun x hx => by simp at hx, Int.le_refl _⟩ (by simp; omega)
  simpa [smO] using this

/-- What a call of Put gives back. -/
def tF (ys : List Pr) (q : Int) : Value → World → Prop := fun v W => ∃ A c, v = .tuple #[.slice A ys.length c, .int .i64 q] ∧ ys.length ≤ c ∧ Rw eP W A ys
theorem stable_tF (ys : List Pr) (q : Int) : Stable (tF ys q) := fun _ _ _ ⟨A, c, h1, h2, h3⟩ hb => ⟨A, c, h1, h2, h3.below hb⟩
def sF (ys : List Pr) : Value → World → Prop := fun v W => ∃ A c, v = .slice A ys.length c ∧ ys.length ≤ c ∧ Rw eP W A ys
theorem stable_sF (ys : List Pr) : Stable (sF ys) := fun _ _ _ ⟨A, c, h1, h2, h3⟩ hb => ⟨A, c, h1, h2, h3.below hb⟩
theorem calls_tF {f : FuncId} {args : Array Value} {W : World} {ys : List Pr} {q : Int} {Φ : List (Value → World → Prop)} {i : Nat} (h : Calls Try.prog f args W (OutPost W ys q)) (hi : fAt Φ i = tF ys q) : Calls Try.prog f args W fun e w' => ∃ v, e = .returned v ∧ Below W.heap.size W w' ∧ fAt Φ i v w' := by
  rw [hi]
  exact h.mono fun e w' ⟨A, c, h1, h2, _, h3, h4⟩ => ⟨_, h1, h4, A, c, rfl, h2, h3⟩
/-- A deed in a variable. -/
def Am (W : World) (b : Nat) (x : Ac) : Prop := W.cell? ⟨b, 0, none⟩ = some (.int .u8 x.o) ∧ W.cell? ⟨b, 1, none⟩ = some (.int .u8 x.p) ∧ W.cell? ⟨b, 2, none⟩ = some (.int .u16 x.q) ∧ W.cell? ⟨b, 3, none⟩ = some (.int .u8 x.r)
theorem Am.lt {W : World} {b : Nat} {x : Ac} (h : Am W b x) : b < W.heap.size := World.block_lt_of_cell? _ _ h.1
theorem Am.below {W W' : World} {b : Nat} {x : Ac} (h : Am W b x) (hb : Below W.heap.size W W') : Am W' b x :=
  ⟨(hb.cell (p := ⟨b, 0, none⟩) h.lt).trans h.1, (hb.cell (p := ⟨b, 1, none⟩) h.lt).trans h.2.1, (hb.cell (p := ⟨b, 2, none⟩) h.lt).trans h.2.2.1, (hb.cell (p := ⟨b, 3, none⟩) h.lt).trans h.2.2.2⟩

/-- What Some hands back. -/
def SomePost (w : World) (s : List Pr × Int) (e : Ending) (w' : World) : Prop :=
  ∃ A c, e = .returned (.tuple #[.slice A s.1.length c, .int .i64 s.2]) ∧ s.1.length ≤ c ∧ Rw eP w' A s.1 ∧ Below w.heap.size w w'

set_option maxRecDepth 100000 in
set_option maxHeartbeats 8000000 in
theorem some_any (cf : Cf) (A : Option Addr) (ys : List Ac) (cap : Nat) (w : World) (h : Rw eC w A ys) (hok : ∀ y ∈ ys, y.Ok) (hc : ys.length ≤ cap) (hag : cf.g ≤ 8) :
    Calls Try.prog 20 #[cfv cf, .slice A ys.length cap] w (SomePost w (smO cf.f cf.g (ys.take 60))) := by
  have hln := h.1
  have HB0 := Lib.hid (show Below w.heap.size w (w.alloc (Cfx cf)) from (Below.refl _ w).alloc (Nat.le_refl _) _)
  have R0 := Lib.hid (h.below HB0.out)
  have C0 := Lib.hid (cm_box w cf)
  have hs0 : w.heap.size < (w.alloc (Cfx cf)).heap.size := by simp
  obtain ⟨zs, hzs⟩ : ∃ zs, ys.take 60 = zs := ⟨_, rfl⟩
  have RZ := Lib.hid (show Rw eC (w.alloc (Cfx cf)) A zs from hzs ▸ R0.out.take 60)
  have HOK := Lib.hid (show ∀ y ∈ zs, y.Ok from fun y hy => hok y (List.mem_of_mem_take (hzs ▸ hy)))
  have hzn : zs.length = min 60 ys.length := by rw [← hzs, List.length_take]
  have HSM := Lib.hid fun k => smO_ok cf.f cf.g hag (zs.take k) (fun y hy => HOK.out y (List.mem_of_mem_take hy)) (by rw [List.length_take]; omega)
  have HSN := Lib.hid fun l a => smO_snoc cf.f cf.g l a
  rw [hzs]
  clear h hok hzs R0
  obtain ⟨L, hL⟩ : ∃ L, ys.length = L := ⟨_, rfl⟩
  rw [hL] at hln hc hzn ⊢
  clear hL
  obtain ⟨N, hN⟩ : ∃ N, zs.length = N := ⟨_, rfl⟩
  have HN := Lib.hid hN
  rw [hN] at hzn
  clear hN
  have hmin : min (L : Int) 60 = (N : Int) := by omega
  have hNc : N ≤ cap := by omega
  have hNc' : (N : Int) ≤ cap := by omega
  have hN60 : N ≤ 60 := by omega
  have HSL := run_sl24 A L cap N hNc
  unfold Cfx cfv at *
  clear hzn
  go_enter Try.func20, Try.ntmps20
  go_wp2_with fail
  generalize w.alloc (.cells #[.int .i64 cf.a, .int .i64 cf.b, .int .i64 cf.c, .int .i64 cf.d, .int .i64 cf.e, .int .i64 cf.f, .int .i64 cf.g, .int .i64 cf.h, .int .i64 cf.i] 27) = W0 at *
  go_loopw [6, 7, 18] (fun v t i wr => ∃ (k : Nat) (As : Option Addr) (cs : Nat), i = .int .i64 k ∧ k ≤ N ∧ v = .slice As (smO cf.f cf.g (zs.take k)).1.length cs ∧ t = .int .i64 (smO cf.f cf.g (zs.take k)).2 ∧ Hid ((smO cf.f cf.g (zs.take k)).1.length ≤ cs ∧ Rw eP wr As (smO cf.f cf.g (zs.take k)).1 ∧ Below W0.heap.size W0 wr)) (fun _ _ i _ => N - (intOf i).toNat)
  case atStart => exact ⟨0, none, 0, rfl, by omega, rfl, rfl, Lib.hid ⟨by simp [smO], Rw.nil _ _, Below.refl _ _⟩⟩
  case round =>
    obtain ⟨k, As, cs, rfl, hk, rfl, rfl, HR⟩ := hrel
    obtain ⟨v1, v3⟩ := HSM.out k
    have v4 : (smO cf.f cf.g (zs.take k)).2 ≤ 240 := by rw [List.length_take] at v3; omega
    by_cases hkN : k < N
    · obtain ⟨a, ha⟩ : ∃ a, zs[k]? = some a := ⟨_, List.getElem?_eq_getElem (by rw [HN.out]; exact hkN)⟩
      have hak := HOK.out a (List.mem_of_getElem? ha)
      obtain ⟨y, rfl⟩ := rw_some RZ.out (by rw [HN.out]; omega)
      have hat := (RZ.out.below HR.out.2.2).at ha
      have HT := Lib.hid (show smO cf.f cf.g (zs.take (k + 1)) = sm1 cf.f cf.g (smO cf.f cf.g (zs.take k)) a by rw [List.take_add_one, ha]; exact HSN.out _ _)
      have HV := Lib.hid v1
      obtain ⟨s, hs⟩ : ∃ s, smO cf.f cf.g (zs.take k) = s := ⟨_, rfl⟩
      rw [hs] at HR HT HV v1 v4 ⊢
      clear hs v3 ha
      obtain ⟨ss, nw⟩ := s
      have v2 := v1.n0
      clear v1
      dsimp only at *
      have A1' := Lib.hid (show Am (wr.alloc (Acx a)) wr.heap.size a from ac_box wr a)
      obtain ⟨s0, s1, s2, s3⟩ := ac_box wr a
      have B1 := Lib.hid (show Below W0.heap.size W0 (wr.alloc (Acx a)) from HR.out.2.2.alloc HR.out.2.2.size _)
      have R1 := Lib.hid (HR.out.2.1.below ((Below.refl _ wr).alloc (Nat.le_refl _) (Acx a)))
      have C1 := Lib.hid (C0.out.keep B1.out hs0 B1.out.size)
      have HCS := Lib.hid HR.out.1
      have hss := HV.out.v.r.few
      dsimp only at hss
      obtain ⟨o0, o1⟩ := hak.o
      obtain ⟨p0, p1⟩ := hak.p
      obtain ⟨q0, q1⟩ := hak.q
      obtain ⟨r0, r1⟩ := hak.r
      by_cases h3 : a.o % 4 = 0
      · have HT2 := Lib.hid (show smO cf.f cf.g (zs.take (k + 1)) = ((ltO cf.f cf.g (nw + a.r % 5) (1 + a.r % 4) ss).1, nw + a.r % 5) by rw [HT.out]; unfold sm1; rw [if_pos h3])
        have HPL := Lib.hid fun W hR => late_any cf (nw + a.r % 5) (1 + a.r % 4) As ss cs W hR (by omega) HV.out.v.n
        have e3 : (a.o % 4 == 0) = true := by simpa using h3
        unfold Acx cfv at *
        go_wp2_with (first | (refine at_load32 (.tmp 20) rfl rfl (y.add (k * 4)) a rfl hat ?_) | (refine at_load27 (.tmp 2) rfl rfl _ cf rfl C1.out.at ?_))
        refine (HPL.out _ R1.out).mono ?_
        rintro e w1 ⟨A2, c2, A3, c3, rfl, hc2, -, hR2, -, hb⟩
        have B2 := Lib.hid (B1.out.trans (hb.mono B1.out.size))
        have R2 := Lib.hid hR2
        have HC2 := Lib.hid hc2
        clear hb hR2 hc2
        go_wp2_with fail
        go_roundw
        case rel => exact ⟨k + 1, A2, c2, by go_num, by omega, by rw [HT2.out], by rw [HT2.out], Lib.hid (by rw [HT2.out]; exact ⟨HC2.out, R2.out, B2.out⟩)⟩
        case measure => simp [intOf]; omega
      · have e3 : (a.o % 4 == 0) = false := by simpa using h3
        have HNR := Lib.hid fun W => near_any a.p W p0 p1
        have HOF := Lib.hid fun W => of_any (nr a.p) a.q nw W
        obtain ⟨x, hx⟩ : ∃ x, ofP (nr a.p) a.q nw = x := ⟨_, rfl⟩
        have HPU := Lib.hid fun W hR => put_any x As ss cs W hR HCS.out (by omega)
        rw [hx] at HOF
        have HTT := Lib.hid (show smO cf.f cf.g (zs.take (k + 1)) = if putC ss x = 0 then (ss ++ [x], nw) else (ss, nw) by rw [HT.out]; unfold sm1; rw [if_neg h3]; dsimp only; rw [hx])
        have HPR := Lib.hid (show putR ss x = if putC ss x = 0 then ss ++ [x] else [] from rfl)
        clear hx HT
        generalize putC ss x = PC at *
        generalize putR ss x = PR at *
        generalize nr a.p = b at *
        unfold prv at HOF HPU
        unfold Acx at *
        go_upto_region 9 with (refine at_load32 (.tmp 20) rfl rfl (y.add (k * 4)) a rfl hat ?_)
        generalize wr.alloc (.cells #[.int .u8 a.o, .int .u8 a.p, .int .u16 a.q, .int .u8 a.r] 32) = W1 at *
        generalize wr.heap.size = NN at *
        obtain ⟨YL, hYL⟩ : ∃ YL, ss.length = YL := ⟨_, rfl⟩
        have HYL := Lib.hid hYL
        rw [hYL] at HPU hss ⊢
        clear hYL s0 s1 s2 s3 hat
        refine wp_region_below [fx (.slice As YL cs), fx (.pointer (some ⟨NN, 1, none⟩)), fx (.int .u8 a.p), fx (.int .u32 b), fx (.pointer (some ⟨NN, 2, none⟩)), fx (.int .u16 a.q), fx (.int .i64 a.q), fx (.int .i64 nw), fx (.agg #[.int .u32 x.a, .int .i64 x.i, .int .i64 x.s, .int .i64 x.t, .int .i64 x.n]), tF PR PC, tF PR PC, sF PR, fx (.int .i64 PC), sF PR, fx (.int .i64 PC)]
          (by kernel_rfl) (by kernel_rfl) (by kernel_rfl) ?_ ?_ ?_
        · simp only [List.mem_cons, List.not_mem_nil, or_false]
          rintro φ (rfl | rfl | rfl | rfl | rfl | rfl | rfl | rfl | rfl | rfl | rfl | rfl | rfl | rfl | rfl)
          all_goals first | exact stable_fx _ | exact stable_fr _ _ | exact stable_tF _ _ | exact stable_sF _
        · refine OgSteps.cons ?_ (OgSteps.cons ?_ (OgSteps.cons ?_ (OgSteps.cons ?_ (OgSteps.cons ?_ (OgSteps.cons ?_ (OgSteps.cons ?_ (OgSteps.cons ?_ (OgSteps.cons ?_ (OgSteps.cons ?_ (OgSteps.cons ?_ (OgSteps.cons ?_ (OgSteps.cons ?_ (OgSteps.cons ?_ (OgSteps.cons ?_ (OgSteps.nil)))))))))))))))
          · refine OgStep.pure ?_ ?_
            · rfl
            intro u W hS hp
            refine ⟨.slice As YL cs, ?_, rfl⟩
            simp only [ogMk, Act.put, List.setIfInBounds_toArray, List.set_cons_zero, List.set_cons_succ, Nat.zero_add, Nat.reduceAdd, List.take_succ_cons, List.take_zero, List.drop_succ_cons, List.drop_zero]
            simp [execOp, Act.eval, go_sem]
          · refine OgStep.pure ?_ ?_
            · rfl
            intro u W hS hp
            refine ⟨.pointer (some ⟨NN, 1, none⟩), ?_, rfl⟩
            simp only [ogMk, Act.put, List.setIfInBounds_toArray, List.set_cons_zero, List.set_cons_succ, Nat.zero_add, Nat.reduceAdd, List.take_succ_cons, List.take_zero, List.drop_succ_cons, List.drop_zero]
            simp [execOp, Act.eval, go_sem]
          · refine OgStep.pure ?_ ?_
            · rfl
            intro u W hS hp
            have h1 : u 1 = .pointer (some ⟨NN, 1, none⟩) := hp ⟨1, .data⟩ (by simp) rfl
            have X := A1'.out.below hS
            have R := X.2.1
            refine ⟨.int .u8 a.p, ?_, rfl⟩
            simp only [ogMk, Act.put, List.setIfInBounds_toArray, List.set_cons_zero, List.set_cons_succ, Nat.zero_add, Nat.reduceAdd, List.take_succ_cons, List.take_zero, List.drop_succ_cons, List.drop_zero]
            simp [execOp, Act.eval, go_sem, h1, R]
          · refine OgStep.calls ?_ ?_
            · rfl
            intro u W hS hp
            have h2 : u 2 = .int .u8 a.p := hp ⟨2, .data⟩ (by simp) rfl
            refine ⟨11, #[.int .u8 a.p], ?_, calls_fx ((HNR.out W).mono fun _ _ ⟨he, hw⟩ => ⟨he, by rw [hw]; exact Below.refl _ _⟩) rfl⟩
            simp only [ogMk, Act.put, List.setIfInBounds_toArray, List.set_cons_zero, List.set_cons_succ, Nat.zero_add, Nat.reduceAdd, List.take_succ_cons, List.take_zero, List.drop_succ_cons, List.drop_zero]
            simp [execOp, Act.eval, go_sem, h2]
          · refine OgStep.pure ?_ ?_
            · rfl
            intro u W hS hp
            refine ⟨.pointer (some ⟨NN, 2, none⟩), ?_, rfl⟩
            simp only [ogMk, Act.put, List.setIfInBounds_toArray, List.set_cons_zero, List.set_cons_succ, Nat.zero_add, Nat.reduceAdd, List.take_succ_cons, List.take_zero, List.drop_succ_cons, List.drop_zero]
            simp [execOp, Act.eval, go_sem]
          · refine OgStep.pure ?_ ?_
            · rfl
            intro u W hS hp
            have h4 : u 4 = .pointer (some ⟨NN, 2, none⟩) := hp ⟨4, .data⟩ (by simp) rfl
            have X := A1'.out.below hS
            have R := X.2.2.1
            refine ⟨.int .u16 a.q, ?_, rfl⟩
            simp only [ogMk, Act.put, List.setIfInBounds_toArray, List.set_cons_zero, List.set_cons_succ, Nat.zero_add, Nat.reduceAdd, List.take_succ_cons, List.take_zero, List.drop_succ_cons, List.drop_zero]
            simp [execOp, Act.eval, go_sem, h4, R]
          · refine OgStep.pure ?_ ?_
            · rfl
            intro u W hS hp
            have h5 : u 5 = .int .u16 a.q := hp ⟨5, .data⟩ (by simp) rfl
            have R : IntKind.i64.wrap a.q = a.q := by rw [IntKind.wrap_i64]; omega
            refine ⟨.int .i64 a.q, ?_, rfl⟩
            simp only [ogMk, Act.put, List.setIfInBounds_toArray, List.set_cons_zero, List.set_cons_succ, Nat.zero_add, Nat.reduceAdd, List.take_succ_cons, List.take_zero, List.drop_succ_cons, List.drop_zero]
            simp [execOp, Act.eval, go_sem, h5, R]
          · refine OgStep.pure ?_ ?_
            · rfl
            intro u W hS hp
            refine ⟨.int .i64 nw, ?_, rfl⟩
            simp only [ogMk, Act.put, List.setIfInBounds_toArray, List.set_cons_zero, List.set_cons_succ, Nat.zero_add, Nat.reduceAdd, List.take_succ_cons, List.take_zero, List.drop_succ_cons, List.drop_zero]
            simp [execOp, Act.eval, go_sem]
          · refine OgStep.calls ?_ ?_
            · rfl
            intro u W hS hp
            have h3 : u 3 = .int .u32 b := hp ⟨3, .data⟩ (by simp) rfl
            have h6 : u 6 = .int .i64 a.q := hp ⟨6, .data⟩ (by simp) rfl
            have h7 : u 7 = .int .i64 nw := hp ⟨7, .data⟩ (by simp) rfl
            refine ⟨17, #[.int .u32 b, .int .i64 a.q, .int .i64 nw], ?_, calls_fx (HOF.out W) rfl⟩
            simp only [ogMk, Act.put, List.setIfInBounds_toArray, List.set_cons_zero, List.set_cons_succ, Nat.zero_add, Nat.reduceAdd, List.take_succ_cons, List.take_zero, List.drop_succ_cons, List.drop_zero]
            simp [execOp, Act.eval, go_sem, h3, h6, h7]
          · refine OgStep.calls ?_ ?_
            · rfl
            intro u W hS hp
            have h0 : u 0 = .slice As YL cs := hp ⟨0, .data⟩ (by simp) rfl
            have h8 : u 8 = .agg #[.int .u32 x.a, .int .i64 x.i, .int .i64 x.s, .int .i64 x.t, .int .i64 x.n] := hp ⟨8, .data⟩ (by simp) rfl
            refine ⟨16, #[.slice As YL cs, .agg #[.int .u32 x.a, .int .i64 x.i, .int .i64 x.s, .int .i64 x.t, .int .i64 x.n]], ?_, calls_tF (HPU.out W (R1.out.below hS)) rfl⟩
            simp only [ogMk, Act.put, List.setIfInBounds_toArray, List.set_cons_zero, List.set_cons_succ, Nat.zero_add, Nat.reduceAdd, List.take_succ_cons, List.take_zero, List.drop_succ_cons, List.drop_zero]
            simp [execOp, Act.eval, go_sem, h0, h8]
          · refine OgStep.pure ?_ ?_
            · rfl
            intro u W hS hp
            have h9 : tF PR PC (u 9) W := hp ⟨9, .data⟩ (by simp) rfl
            refine ⟨u 9, ?_, h9⟩
            simp only [ogMk, Act.put, List.setIfInBounds_toArray, List.set_cons_zero, List.set_cons_succ, Nat.zero_add, Nat.reduceAdd, List.take_succ_cons, List.take_zero, List.drop_succ_cons, List.drop_zero]
            simp [execOp, Act.eval, go_sem]
          · refine OgStep.pure ?_ ?_
            · rfl
            intro u W hS hp
            obtain ⟨A8, c8, h8, h8c, h8r⟩ : tF PR PC (u 10) W := hp ⟨10, .data⟩ (by simp) rfl
            refine ⟨.slice A8 PR.length c8, ?_, A8, c8, rfl, h8c, h8r⟩
            simp only [ogMk, Act.put, List.setIfInBounds_toArray, List.set_cons_zero, List.set_cons_succ, Nat.zero_add, Nat.reduceAdd, List.take_succ_cons, List.take_zero, List.drop_succ_cons, List.drop_zero]
            rw [h8]
            simp [execOp, Act.eval, go_sem]
          · refine OgStep.pure ?_ ?_
            · rfl
            intro u W hS hp
            obtain ⟨A8, c8, h8, h8c, h8r⟩ : tF PR PC (u 10) W := hp ⟨10, .data⟩ (by simp) rfl
            refine ⟨.int .i64 PC, ?_, rfl⟩
            simp only [ogMk, Act.put, List.setIfInBounds_toArray, List.set_cons_zero, List.set_cons_succ, Nat.zero_add, Nat.reduceAdd, List.take_succ_cons, List.take_zero, List.drop_succ_cons, List.drop_zero]
            rw [h8]
            simp [execOp, Act.eval, go_sem]
          · refine OgStep.pure ?_ ?_
            · rfl
            intro u W hS hp
            have h9 : sF PR (u 11) W := hp ⟨11, .data⟩ (by simp) rfl
            refine ⟨u 11, ?_, h9⟩
            simp only [ogMk, Act.put, List.setIfInBounds_toArray, List.set_cons_zero, List.set_cons_succ, Nat.zero_add, Nat.reduceAdd, List.take_succ_cons, List.take_zero, List.drop_succ_cons, List.drop_zero]
            simp [execOp, Act.eval, go_sem]
          · refine OgStep.pure ?_ ?_
            · rfl
            intro u W hS hp
            have h10 : u 12 = .int .i64 PC := hp ⟨12, .data⟩ (by simp) rfl
            refine ⟨.int .i64 PC, ?_, rfl⟩
            simp only [ogMk, Act.put, List.setIfInBounds_toArray, List.set_cons_zero, List.set_cons_succ, Nat.zero_add, Nat.reduceAdd, List.take_succ_cons, List.take_zero, List.drop_succ_cons, List.drop_zero]
            simp [execOp, Act.eval, go_sem, h10]
        · intro u W hS hF'
          have hF := hF'
          have e0 : u 0 = .slice As YL cs := hF 0 (by decide)
          have e1 : u 1 = .pointer (some ⟨NN, 1, none⟩) := hF 1 (by decide)
          have e2 : u 2 = .int .u8 a.p := hF 2 (by decide)
          have e3 : u 3 = .int .u32 b := hF 3 (by decide)
          have e4 : u 4 = .pointer (some ⟨NN, 2, none⟩) := hF 4 (by decide)
          have e5 : u 5 = .int .u16 a.q := hF 5 (by decide)
          have e6 : u 6 = .int .i64 a.q := hF 6 (by decide)
          have e7 : u 7 = .int .i64 nw := hF 7 (by decide)
          have e8 : u 8 = .agg #[.int .u32 x.a, .int .i64 x.i, .int .i64 x.s, .int .i64 x.t, .int .i64 x.n] := hF 8 (by decide)
          have e12 : u 12 = .int .i64 PC := hF 12 (by decide)
          have e14 : u 14 = .int .i64 PC := hF 14 (by decide)
          simp only [ogMk, Act.put, List.setIfInBounds_toArray, List.set_cons_zero, List.set_cons_succ, Nat.zero_add, Nat.reduceAdd, List.take_succ_cons, List.take_zero, List.drop_succ_cons, List.drop_zero]
          rw [e0, e1, e2, e3, e4, e5, e6, e7, e8, e12, e14]
          clear e0 e1 e2 e3 e4 e5 e6 e7 e8 e12 e14 hF
          obtain ⟨A2, c2, e13, hc2, hR2⟩ : sF PR (u 13) W := hF' 13 (by decide)
          rw [e13]
          have HC2 := Lib.hid hc2
          have R2 := Lib.hid hR2
          have B2 := Lib.hid (B1.out.trans (hS.mono B1.out.size))
          clear hF' e13 hc2 hR2
          by_cases hp : PC = 0
          · have hpe : (PC == 0) = true := by simpa using hp
            have HT2 := Lib.hid (show smO cf.f cf.g (zs.take (k + 1)) = (PR, nw) by rw [HTT.out, HPR.out, if_pos hp, if_pos hp])
            clear hp
            go_wp2_with fail
            go_roundw
            case rel => exact ⟨k + 1, A2, c2, by go_num, by omega, by rw [HT2.out], by rw [HT2.out], Lib.hid (by rw [HT2.out]; exact ⟨HC2.out, R2.out, B2.out⟩)⟩
            case measure => simp [intOf]; omega
          · have hpe : (PC == 0) = false := by simpa using hp
            have HT2 := Lib.hid (show smO cf.f cf.g (zs.take (k + 1)) = (ss, nw) by rw [HTT.out, if_neg hp])
            have R3 := Lib.hid (R1.out.below hS)
            clear hp
            go_wp2_with fail
            go_roundw
            case rel => exact ⟨k + 1, As, cs, by go_num, by omega, by rw [HT2.out, HYL.out], by rw [HT2.out], Lib.hid (by rw [HT2.out]; exact ⟨HCS.out, R3.out, B2.out⟩)⟩
            case measure => simp [intOf]; omega
    · obtain rfl : N = k := by omega
      have hz : zs.take N = zs := List.take_of_length_le (by rw [HN.out]; exact Nat.le_refl _)
      rw [hz] at HR ⊢
      have BB := Lib.hid (HB0.out.trans (HR.out.2.2.mono HB0.out.size))
      go_wp2_with fail
      go_ret2
      exact ⟨As, cs, rfl, HR.out.1, HR.out.2.1, BB.out⟩
end Go.Proofs.Ytjjbkhelnmdfnaa
