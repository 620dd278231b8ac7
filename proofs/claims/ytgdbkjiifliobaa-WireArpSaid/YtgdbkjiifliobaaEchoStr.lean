/-
  The contract of the statements' own echo: its text has the bytes of wire.Echo. Conditions: numbers have their bits.
-/
import Derived.Test.YtgdbkjiifliobaaStr
set_option linter.unusedSimpArgs false
namespace Go.Proofs.Ytgdbkjiifliobaa
open Go.RowKit

theorem sadd {a b : List Nat} {s t u : ByteArray} (hs : stg a = s) (ht : stg b = t) (hu : stg (a ++ b) = u) (hl : a.length + b.length ≤ 1000) (W : World) : (Op.stringOp .add s t).run Try.prog W = .ok (.string u) W := by
  subst hs ht hu
  exact stg_add a b W hl
theorem lo_nat {x : Nat} (h : x < 65536) : lo (x : Int) = x := by unfold lo; omega
theorem hdp_bs (p : Pk) (hp : p.Ok) : Bs (hdp p 0 0) := by
  have := hp.f
  have := hp.t
  intro i
  unfold hdp
  match i with
  | 0 | 1 | 2 | 3 | 4 | 5 | 6 | 7 | 8 | 9 | 10 | 11 | 12 | 13 | 14 | 15 | 16 | 17 | 18 | 19 => simp; try omega
  | i + 20 => simp
theorem bdp_bs (p : Pk) : Bs (bdp p 0 0) := by
  have := lo_lt p.i
  have := lo_lt p.s
  intro i
  unfold bdp
  match i with
  | 0 => simp only [List.getD_cons_zero]; split <;> omega
  | 1 | 2 | 3 | 4 | 5 | 6 | 7 | 8 | 9 | 10 | 11 => simp; try omega
  | i + 12 => simp

set_option maxRecDepth 100000 in
set_option maxHeartbeats 2000000 in
theorem echoText_any (p : Pk) (w : World) (hp : p.Ok) : Calls Try.prog 17 #[pv p] w fun e w' => e = .returned (.string (stg (ecb p))) ∧ Below w.heap.size w w' := by
  obtain ⟨A, hA⟩ : ∃ A, A = p.a := ⟨_, rfl⟩
  obtain ⟨q, hq⟩ : ∃ q : Nat, q = if A = true then 0 else 8 := ⟨_, rfl⟩
  have hq2 : q < 256 := by rw [hq]; split <;> omega
  obtain ⟨x, hx⟩ : ∃ x, x = 65535 - wd (hdp p 0 0) := ⟨_, rfl⟩
  obtain ⟨y, hy⟩ : ∃ y, y = 65535 - wd (bdp p 0 0) := ⟨_, rfl⟩
  have hx2 : x < 65536 := by omega
  have hy2 : y < 65536 := by omega
  obtain ⟨IF, EIF⟩ : ∃ T, stg (ip4 p.f) = T := ⟨_, rfl⟩
  obtain ⟨IT, EIT⟩ : ∃ T, stg (ip4 p.t) = T := ⟨_, rfl⟩
  obtain ⟨BB, EBB⟩ : ∃ T, stg (ip4 p.f ++ ip4 p.t) = T := ⟨_, rfl⟩
  obtain ⟨I2, EI2⟩ : ∃ T, stg (tw p.i) = T := ⟨_, rfl⟩
  obtain ⟨S2, ES2⟩ : ∃ T, stg (tw p.s) = T := ⟨_, rfl⟩
  obtain ⟨IS, EIS⟩ : ∃ T, stg (tw p.i ++ tw p.s) = T := ⟨_, rfl⟩
  obtain ⟨DD, EDD⟩ : ∃ T, stg (tw p.i ++ tw p.s ++ [0, 0, 0, 0]) = T := ⟨_, rfl⟩
  obtain ⟨C2, EC2⟩ : ∃ T, stg ([q, 0]) = T := ⟨_, rfl⟩
  obtain ⟨U1, EU1⟩ : ∃ T, stg ([69, 0, 0, 32, 0, 0, 0, 0, 64, 1] ++ [0, 0]) = T := ⟨_, rfl⟩
  obtain ⟨U2, EU2⟩ : ∃ T, stg ([69, 0, 0, 32, 0, 0, 0, 0, 64, 1] ++ [0, 0] ++ (ip4 p.f ++ ip4 p.t)) = T := ⟨_, rfl⟩
  obtain ⟨X2, EX2⟩ : ∃ T, stg (tw (x : Int)) = T := ⟨_, rfl⟩
  obtain ⟨V1, EV1⟩ : ∃ T, stg ([69, 0, 0, 32, 0, 0, 0, 0, 64, 1] ++ tw (x : Int)) = T := ⟨_, rfl⟩
  obtain ⟨V2, EV2⟩ : ∃ T, stg ([69, 0, 0, 32, 0, 0, 0, 0, 64, 1] ++ tw (x : Int) ++ (ip4 p.f ++ ip4 p.t)) = T := ⟨_, rfl⟩
  obtain ⟨V3, EV3⟩ : ∃ T, stg ([69, 0, 0, 32, 0, 0, 0, 0, 64, 1] ++ tw (x : Int) ++ (ip4 p.f ++ ip4 p.t) ++ [q, 0]) = T := ⟨_, rfl⟩
  obtain ⟨Y1, EY1⟩ : ∃ T, stg ([q, 0] ++ [0, 0]) = T := ⟨_, rfl⟩
  obtain ⟨Y2, EY2⟩ : ∃ T, stg ([q, 0] ++ [0, 0] ++ (tw p.i ++ tw p.s ++ [0, 0, 0, 0])) = T := ⟨_, rfl⟩
  obtain ⟨Y3, EY3⟩ : ∃ T, stg (tw (y : Int)) = T := ⟨_, rfl⟩
  obtain ⟨V4, EV4⟩ : ∃ T, stg ([69, 0, 0, 32, 0, 0, 0, 0, 64, 1] ++ tw (x : Int) ++ (ip4 p.f ++ ip4 p.t) ++ [q, 0] ++ tw (y : Int)) = T := ⟨_, rfl⟩
  obtain ⟨V5, EV5⟩ : ∃ T, stg ([69, 0, 0, 32, 0, 0, 0, 0, 64, 1] ++ tw (x : Int) ++ (ip4 p.f ++ ip4 p.t) ++ [q, 0] ++ tw (y : Int) ++ (tw p.i ++ tw p.s ++ [0, 0, 0, 0])) = T := ⟨_, rfl⟩
  have B1 := fun W => sadd EIF EIT EBB (by simp [ip4, tw]) W
  have B2 := fun W => sadd EI2 ES2 EIS (by simp [ip4, tw]) W
  have B3 := fun W => sadd EIS (show stg [0, 0, 0, 0] = ⟨#[0, 0, 0, 0]⟩ from rfl) EDD (by simp [ip4, tw]) W
  have B4 := fun W => sadd (show stg [69, 0, 0, 32, 0, 0, 0, 0, 64, 1] = ⟨#[69, 0, 0, 32, 0, 0, 0, 0, 64, 1]⟩ from rfl) (show stg [0, 0] = ⟨#[0, 0]⟩ from rfl) EU1 (by simp [ip4, tw]) W
  have B5 := fun W => sadd EU1 EBB EU2 (by simp [ip4, tw]) W
  have B6 := fun W => sadd (show stg [69, 0, 0, 32, 0, 0, 0, 0, 64, 1] = ⟨#[69, 0, 0, 32, 0, 0, 0, 0, 64, 1]⟩ from rfl) EX2 EV1 (by simp [ip4, tw]) W
  have B7 := fun W => sadd EV1 EBB EV2 (by simp [ip4, tw]) W
  have B8 := fun W => sadd EV2 EC2 EV3 (by simp [ip4, tw]) W
  have B9 := fun W => sadd EC2 (show stg [0, 0] = ⟨#[0, 0]⟩ from rfl) EY1 (by simp [ip4, tw]) W
  have B10 := fun W => sadd EY1 EDD EY2 (by simp [ip4, tw]) W
  have B11 := fun W => sadd EV3 EY3 EV4 (by simp [ip4, tw]) W
  have B12 := fun W => sadd EV4 EDD EV5 (by simp [ip4, tw]) W
  have HV := Lib.hid (show stg (ecb p) = V5 by
    rw [← EV5]
    unfold ecb
    rw [← hx, ← hy]
    unfold hdp bdp ip4 tw
    rw [lo_nat hx2, lo_nat hy2, hq, hA]
    rfl)
  have EH := Lib.hid (show stg (hdp p 0 0) = U2 from EU2)
  have ED := Lib.hid (show stg (bdp p 0 0) = Y2 by rw [← EY2]; unfold bdp tw; rw [hq, hA]; rfl)
  have CF := Lib.hid fun W => EIF ▸ ip_any p.f W hp.f
  have CT := Lib.hid fun W => EIT ▸ ip_any p.t W hp.t
  have CI := Lib.hid fun W => EI2 ▸ two_any p.i W
  have CS := Lib.hid fun W => ES2 ▸ two_any p.s W
  have CX := Lib.hid fun W => EX2 ▸ two_any (x : Int) W
  have CY := Lib.hid fun W => EY3 ▸ two_any (y : Int) W
  have G2 := Lib.hid fun W g (h : Rd W (some ⟨g, 0, none⟩) [q, 0]) => EC2 ▸ run_stg h 2
  have HW := Lib.hid fun A c W (h : Rd W A (hdp p 0 0)) => hx ▸ words_any A (hdp p 0 0) c W h
  have DW := Lib.hid fun A c W (h : Rd W A (bdp p 0 0)) => hy ▸ words_any A (bdp p 0 0) c W h
  have P0 := Lib.hid (pb_box w p)
  have D0 := Lib.hid ((Below.refl w.heap.size w).alloc (Nat.le_refl _) (Px p))
  have HBS := Lib.hid (hdp_bs p hp)
  have DBS := Lib.hid (bdp_bs p)
  have HQ := Lib.hid hq
  have c0 : (w.alloc (Px p)).cell? ⟨w.heap.size, 0, none⟩ = some (.bool A) := hA ▸ P0.out.1.c0
  clear hp hq hA hx hy EIF EIT EBB EI2 ES2 EIS EDD EC2 EU1 EU2 EX2 EV1 EV2 EV3 EY1 EY2 EY3 EV4 EV5
  go_enter Try.func17, Try.ntmps17
  unfold pv
  go_upto_region 2 with fail
  change Code.wp _ _ _ _ (w.alloc (Px p))
  generalize w.alloc (Px p) = w1 at *
  go_upto_if 9 with fail
  go_cut [3] from 3 to 52 (fun v wc => v = .int .u8 q ∧ wc = w1)
  case first =>
    have hq := HQ.out
    cases A
    · go_wp2_with fail
      go_meet
      exact ⟨by rw [hq]; rfl, rfl⟩
    · go_wp2_with fail
      go_meet
      exact ⟨by rw [hq]; rfl, rfl⟩
  case rest =>
    obtain ⟨rfl, rfl⟩ := hcut
    clear c0 HQ
    go_upto_region 4 with fail
    refine wp_region_below [fx (.pointer (some ⟨w.heap.size, 1, none⟩)), fx (.int .u32 p.f), fx (.string IF), fx (.pointer (some ⟨w.heap.size, 2, none⟩)), fx (.int .u32 p.t), fx (.string IT), fx (.string BB), fx (.string ⟨#[69, 0, 0, 32, 0, 0, 0, 0, 64, 1]⟩), fx (.string BB)]
      (by kernel_rfl) (by kernel_rfl) (by kernel_rfl) ?_ ?_ ?_
    · simp only [List.mem_cons, List.not_mem_nil, or_false]
      rintro φ (rfl | rfl | rfl | rfl | rfl | rfl | rfl | rfl | rfl)
      all_goals first | exact stable_fx _ | exact stable_fr _ _
    · refine OgSteps.cons ?_ (OgSteps.cons ?_ (OgSteps.cons ?_ (OgSteps.cons ?_ (OgSteps.cons ?_ (OgSteps.cons ?_ (OgSteps.cons ?_ (OgSteps.cons ?_ (OgSteps.cons ?_ (OgSteps.nil)))))))))
      · refine OgStep.pure ?_ ?_
        · rfl
        intro u W hS hp
        refine ⟨.pointer (some ⟨w.heap.size, 1, none⟩), ?_, rfl⟩
        simp only [ogMk, Act.put, List.setIfInBounds_toArray, List.set_cons_zero, List.set_cons_succ, Nat.zero_add, Nat.reduceAdd]
        simp [execOp, Act.eval, go_sem]
      · refine OgStep.pure ?_ ?_
        · rfl
        intro u W hS hp
        have h0 : u 0 = .pointer (some ⟨w.heap.size, 1, none⟩) := hp ⟨0, .data⟩ (by simp) rfl
        have R := (P0.out.keep hS P0.out.lt).1.c1
        refine ⟨.int .u32 p.f, ?_, rfl⟩
        simp only [ogMk, Act.put, List.setIfInBounds_toArray, List.set_cons_zero, List.set_cons_succ, Nat.zero_add, Nat.reduceAdd]
        simp [execOp, Act.eval, go_sem, h0, R]
      · refine OgStep.calls ?_ ?_
        · rfl
        intro u W hS hp
        have h1 : u 1 = .int .u32 p.f := hp ⟨1, .data⟩ (by simp) rfl
        refine ⟨19, #[.int .u32 p.f], ?_, calls_fx (CF.out W) rfl⟩
        simp only [ogMk, Act.put, List.setIfInBounds_toArray, List.set_cons_zero, List.set_cons_succ, Nat.zero_add, Nat.reduceAdd]
        simp [execOp, Act.eval, go_sem, h1]
      · refine OgStep.pure ?_ ?_
        · rfl
        intro u W hS hp
        refine ⟨.pointer (some ⟨w.heap.size, 2, none⟩), ?_, rfl⟩
        simp only [ogMk, Act.put, List.setIfInBounds_toArray, List.set_cons_zero, List.set_cons_succ, Nat.zero_add, Nat.reduceAdd]
        simp [execOp, Act.eval, go_sem]
      · refine OgStep.pure ?_ ?_
        · rfl
        intro u W hS hp
        have h3 : u 3 = .pointer (some ⟨w.heap.size, 2, none⟩) := hp ⟨3, .data⟩ (by simp) rfl
        have R := (P0.out.keep hS P0.out.lt).1.c2
        refine ⟨.int .u32 p.t, ?_, rfl⟩
        simp only [ogMk, Act.put, List.setIfInBounds_toArray, List.set_cons_zero, List.set_cons_succ, Nat.zero_add, Nat.reduceAdd]
        simp [execOp, Act.eval, go_sem, h3, R]
      · refine OgStep.calls ?_ ?_
        · rfl
        intro u W hS hp
        have h4 : u 4 = .int .u32 p.t := hp ⟨4, .data⟩ (by simp) rfl
        refine ⟨19, #[.int .u32 p.t], ?_, calls_fx (CT.out W) rfl⟩
        simp only [ogMk, Act.put, List.setIfInBounds_toArray, List.set_cons_zero, List.set_cons_succ, Nat.zero_add, Nat.reduceAdd]
        simp [execOp, Act.eval, go_sem, h4]
      · refine OgStep.pure ?_ ?_
        · rfl
        intro u W hS hp
        have h2 : u 2 = .string IF := hp ⟨2, .data⟩ (by simp) rfl
        have h5 : u 5 = .string IT := hp ⟨5, .data⟩ (by simp) rfl
        have R := B1 W
        refine ⟨.string BB, ?_, rfl⟩
        simp only [ogMk, Act.put, List.setIfInBounds_toArray, List.set_cons_zero, List.set_cons_succ, Nat.zero_add, Nat.reduceAdd]
        simp [execOp, Act.eval, go_sem, h2, h5, R]
      · refine OgStep.pure ?_ ?_
        · rfl
        intro u W hS hp
        refine ⟨.string ⟨#[69, 0, 0, 32, 0, 0, 0, 0, 64, 1]⟩, ?_, rfl⟩
        simp only [ogMk, Act.put, List.setIfInBounds_toArray, List.set_cons_zero, List.set_cons_succ, Nat.zero_add, Nat.reduceAdd]
        simp [execOp, Act.eval, go_sem]
      · refine OgStep.pure ?_ ?_
        · rfl
        intro u W hS hp
        have h6 : u 6 = .string BB := hp ⟨6, .data⟩ (by simp) rfl
        refine ⟨.string BB, ?_, rfl⟩
        simp only [ogMk, Act.put, List.setIfInBounds_toArray, List.set_cons_zero, List.set_cons_succ, Nat.zero_add, Nat.reduceAdd]
        simp [execOp, Act.eval, go_sem, h6]
    · intro u W hS hF
      have e0 : u 0 = .pointer (some ⟨w.heap.size, 1, none⟩) := hF 0 (by decide)
      have e1 : u 1 = .int .u32 p.f := hF 1 (by decide)
      have e2 : u 2 = .string IF := hF 2 (by decide)
      have e3 : u 3 = .pointer (some ⟨w.heap.size, 2, none⟩) := hF 3 (by decide)
      have e4 : u 4 = .int .u32 p.t := hF 4 (by decide)
      have e5 : u 5 = .string IT := hF 5 (by decide)
      have e6 : u 6 = .string BB := hF 6 (by decide)
      have e7 : u 7 = .string ⟨#[69, 0, 0, 32, 0, 0, 0, 0, 64, 1]⟩ := hF 7 (by decide)
      have e8 : u 8 = .string BB := hF 8 (by decide)
      simp only [ogMk, Act.put, List.setIfInBounds_toArray, List.set_cons_zero, List.set_cons_succ, Nat.zero_add, Nat.reduceAdd]
      rw [e0, e1, e2, e3, e4, e5, e6, e7, e8]
      clear e0 e1 e2 e3 e4 e5 e6 e7 e8 hF
      have P1 := Lib.hid (P0.out.keep hS P0.out.lt)
      have D1 := Lib.hid (D0.out.trans (hS.mono D0.out.size))
      clear hS P0 D0 u B1
      go_upto_region 5 with fail
      refine wp_region_below [fx (.int .u8 q), fr [q, 0] 2, fx (.string C2), fx (.pointer (some ⟨w.heap.size, 9, none⟩)), fx (.int .i64 p.i), fx (.string I2), fx (.pointer (some ⟨w.heap.size, 10, none⟩)), fx (.int .i64 p.s), fx (.string S2), fx (.string IS), fx (.string DD), fx (.string C2), fx (.string DD)]
        (by kernel_rfl) (by kernel_rfl) (by kernel_rfl) ?_ ?_ ?_
      · simp only [List.mem_cons, List.not_mem_nil, or_false]
        rintro φ (rfl | rfl | rfl | rfl | rfl | rfl | rfl | rfl | rfl | rfl | rfl | rfl | rfl)
        all_goals first | exact stable_fx _ | exact stable_fr _ _
      · refine OgSteps.cons ?_ (OgSteps.cons ?_ (OgSteps.cons ?_ (OgSteps.cons ?_ (OgSteps.cons ?_ (OgSteps.cons ?_ (OgSteps.cons ?_ (OgSteps.cons ?_ (OgSteps.cons ?_ (OgSteps.cons ?_ (OgSteps.cons ?_ (OgSteps.cons ?_ (OgSteps.cons ?_ (OgSteps.nil)))))))))))))
        · refine OgStep.pure ?_ ?_
          · rfl
          intro u W hS hp
          refine ⟨.int .u8 q, ?_, rfl⟩
          simp only [ogMk, Act.put, List.setIfInBounds_toArray, List.set_cons_zero, List.set_cons_succ, Nat.zero_add, Nat.reduceAdd]
          simp [execOp, Act.eval, go_sem]
        · refine OgStep.made ?_ ?_
          · rfl
          intro u W hS hp
          have h0 : u 0 = .int .u8 q := hp ⟨0, .data⟩ (by simp) rfl
          refine ⟨.slice (some ⟨W.heap.size, 0, none⟩) 2 2, _, ?_, (Below.refl _ W).alloc (Nat.le_refl _) _, show fr [q, 0] 2 _ _ from ⟨W.heap.size, rfl, Rd.two W hq2 (by omega)⟩⟩
          simp only [ogMk, Act.put, List.setIfInBounds_toArray, List.set_cons_zero, List.set_cons_succ, Nat.zero_add, Nat.reduceAdd]
          simp [execOp, Act.eval, go_sem, h0]
        · refine OgStep.pure ?_ ?_
          · rfl
          intro u W hS hp
          obtain ⟨g, h1, h2⟩ : fr [q, 0] 2 (u 1) W := hp ⟨1, .data⟩ (by simp) rfl
          have R : (convert 28 9 (.slice (some ⟨g, 0, none⟩) 2 2)).run Try.prog W = _ := G2.out W g h2
          refine ⟨.string C2, ?_, rfl⟩
          simp only [ogMk, Act.put, List.setIfInBounds_toArray, List.set_cons_zero, List.set_cons_succ, Nat.zero_add, Nat.reduceAdd]
          simp [execOp, Act.eval, go_sem, h1, R]
        · refine OgStep.pure ?_ ?_
          · rfl
          intro u W hS hp
          refine ⟨.pointer (some ⟨w.heap.size, 9, none⟩), ?_, rfl⟩
          simp only [ogMk, Act.put, List.setIfInBounds_toArray, List.set_cons_zero, List.set_cons_succ, Nat.zero_add, Nat.reduceAdd]
          simp [execOp, Act.eval, go_sem]
        · refine OgStep.pure ?_ ?_
          · rfl
          intro u W hS hp
          have h3 : u 3 = .pointer (some ⟨w.heap.size, 9, none⟩) := hp ⟨3, .data⟩ (by simp) rfl
          have R := (P1.out.keep hS P1.out.lt).1.c9
          refine ⟨.int .i64 p.i, ?_, rfl⟩
          simp only [ogMk, Act.put, List.setIfInBounds_toArray, List.set_cons_zero, List.set_cons_succ, Nat.zero_add, Nat.reduceAdd]
          simp [execOp, Act.eval, go_sem, h3, R]
        · refine OgStep.calls ?_ ?_
          · rfl
          intro u W hS hp
          have h4 : u 4 = .int .i64 p.i := hp ⟨4, .data⟩ (by simp) rfl
          refine ⟨20, #[.int .i64 p.i], ?_, calls_fx (CI.out W) rfl⟩
          simp only [ogMk, Act.put, List.setIfInBounds_toArray, List.set_cons_zero, List.set_cons_succ, Nat.zero_add, Nat.reduceAdd]
          simp [execOp, Act.eval, go_sem, h4]
        · refine OgStep.pure ?_ ?_
          · rfl
          intro u W hS hp
          refine ⟨.pointer (some ⟨w.heap.size, 10, none⟩), ?_, rfl⟩
          simp only [ogMk, Act.put, List.setIfInBounds_toArray, List.set_cons_zero, List.set_cons_succ, Nat.zero_add, Nat.reduceAdd]
          simp [execOp, Act.eval, go_sem]
        · refine OgStep.pure ?_ ?_
          · rfl
          intro u W hS hp
          have h6 : u 6 = .pointer (some ⟨w.heap.size, 10, none⟩) := hp ⟨6, .data⟩ (by simp) rfl
          have R := (P1.out.keep hS P1.out.lt).1.c10
          refine ⟨.int .i64 p.s, ?_, rfl⟩
          simp only [ogMk, Act.put, List.setIfInBounds_toArray, List.set_cons_zero, List.set_cons_succ, Nat.zero_add, Nat.reduceAdd]
          simp [execOp, Act.eval, go_sem, h6, R]
        · refine OgStep.calls ?_ ?_
          · rfl
          intro u W hS hp
          have h7 : u 7 = .int .i64 p.s := hp ⟨7, .data⟩ (by simp) rfl
          refine ⟨20, #[.int .i64 p.s], ?_, calls_fx (CS.out W) rfl⟩
          simp only [ogMk, Act.put, List.setIfInBounds_toArray, List.set_cons_zero, List.set_cons_succ, Nat.zero_add, Nat.reduceAdd]
          simp [execOp, Act.eval, go_sem, h7]
        · refine OgStep.pure ?_ ?_
          · rfl
          intro u W hS hp
          have h5 : u 5 = .string I2 := hp ⟨5, .data⟩ (by simp) rfl
          have h8 : u 8 = .string S2 := hp ⟨8, .data⟩ (by simp) rfl
          have R := B2 W
          refine ⟨.string IS, ?_, rfl⟩
          simp only [ogMk, Act.put, List.setIfInBounds_toArray, List.set_cons_zero, List.set_cons_succ, Nat.zero_add, Nat.reduceAdd]
          simp [execOp, Act.eval, go_sem, h5, h8, R]
        · refine OgStep.pure ?_ ?_
          · rfl
          intro u W hS hp
          have h9 : u 9 = .string IS := hp ⟨9, .data⟩ (by simp) rfl
          have R := B3 W
          refine ⟨.string DD, ?_, rfl⟩
          simp only [ogMk, Act.put, List.setIfInBounds_toArray, List.set_cons_zero, List.set_cons_succ, Nat.zero_add, Nat.reduceAdd]
          simp [execOp, Act.eval, go_sem, h9, R]
        · refine OgStep.pure ?_ ?_
          · rfl
          intro u W hS hp
          have h2 : u 2 = .string C2 := hp ⟨2, .data⟩ (by simp) rfl
          refine ⟨.string C2, ?_, rfl⟩
          simp only [ogMk, Act.put, List.setIfInBounds_toArray, List.set_cons_zero, List.set_cons_succ, Nat.zero_add, Nat.reduceAdd]
          simp [execOp, Act.eval, go_sem, h2]
        · refine OgStep.pure ?_ ?_
          · rfl
          intro u W hS hp
          have h10 : u 10 = .string DD := hp ⟨10, .data⟩ (by simp) rfl
          refine ⟨.string DD, ?_, rfl⟩
          simp only [ogMk, Act.put, List.setIfInBounds_toArray, List.set_cons_zero, List.set_cons_succ, Nat.zero_add, Nat.reduceAdd]
          simp [execOp, Act.eval, go_sem, h10]
      · intro u W hS hF
        have e0 : u 0 = .int .u8 q := hF 0 (by decide)
        have e2 : u 2 = .string C2 := hF 2 (by decide)
        have e3 : u 3 = .pointer (some ⟨w.heap.size, 9, none⟩) := hF 3 (by decide)
        have e4 : u 4 = .int .i64 p.i := hF 4 (by decide)
        have e5 : u 5 = .string I2 := hF 5 (by decide)
        have e6 : u 6 = .pointer (some ⟨w.heap.size, 10, none⟩) := hF 6 (by decide)
        have e7 : u 7 = .int .i64 p.s := hF 7 (by decide)
        have e8 : u 8 = .string S2 := hF 8 (by decide)
        have e9 : u 9 = .string IS := hF 9 (by decide)
        have e10 : u 10 = .string DD := hF 10 (by decide)
        have e11 : u 11 = .string C2 := hF 11 (by decide)
        have e12 : u 12 = .string DD := hF 12 (by decide)
        simp only [ogMk, Act.put, List.setIfInBounds_toArray, List.set_cons_zero, List.set_cons_succ, Nat.zero_add, Nat.reduceAdd]
        rw [e0, e2, e3, e4, e5, e6, e7, e8, e9, e10, e11, e12]
        clear e0 e2 e3 e4 e5 e6 e7 e8 e9 e10 e11 e12 hF
        generalize u 1 = x1
        have D2 := Lib.hid (D1.out.trans (hS.mono D1.out.size))
        clear hS P1 D1 u B2 B3
        go_wp2_with (refine at_bytes _ (hdp p 0 0) U2 EH rfl rfl rfl HBS.out (by show 20 ≤ 1000; omega) ?_; intro cap w2 b2 R2 c2)
        have D3 := Lib.hid (D2.out.trans (b2.out.mono D2.out.size))
        refine (HW.out _ _ _ R2.out).mono ?_
        rintro e w3 ⟨rfl, rfl⟩
        clear R2 b2 D2 c2
        go_wp2_with fail
        refine (CX.out _).mono ?_
        rintro e w3 ⟨rfl, b3⟩
        have D4 := Lib.hid (D3.out.trans (b3.mono D3.out.size))
        clear b3 D3
        go_wp2_with (refine at_bytes _ (bdp p 0 0) Y2 ED rfl rfl rfl DBS.out (by show 12 ≤ 1000; omega) ?_; intro cap w4 b4 R4 c4)
        have D5 := Lib.hid (D4.out.trans (b4.out.mono D4.out.size))
        refine (DW.out _ _ _ R4.out).mono ?_
        rintro e w5 ⟨rfl, rfl⟩
        clear R4 b4 D4 c4
        go_wp2_with fail
        refine (CY.out _).mono ?_
        rintro e w5 ⟨rfl, b5⟩
        have D6 := Lib.hid (D5.out.trans (b5.mono D5.out.size))
        clear b5 D5
        go_wp2_with fail
        go_ret
        exact ⟨by rw [HV.out]; rfl, D6.out⟩
end Go.Proofs.Ytgdbkjiifliobaa
