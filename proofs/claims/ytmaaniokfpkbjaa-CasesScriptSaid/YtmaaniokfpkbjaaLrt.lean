/-
  The contract of the statements' own 'right', and their account of open cases: a map of bools. Conditions: the row lies in memory, has up to 900 cases, and addresses are numbers of 32 bits.
-/
import Derived.BigGuard
import Derived.Test.YtmaaniokfpkbjaaRgt
import Derived.Test.YtmaaniokfpkbjaaQTail
import Derived.Maps.OwnSet
set_option linter.unusedSimpArgs false
set_option linter.unusedVariables false
namespace Go.Proofs.Ytmaaniokfpkbjaa
open Go.RowKit

/-- Whether a row has an open case of an address. -/
def oa (xs : List Ca) (a : Int) : Bool := xs.any (fm a)
theorem oa_fnd (xs : List Ca) (a : Int) : (fnd a xs).isSome = oa xs a := by unfold fnd oa; exact List.findIdx?_isSome
theorem rk_oa {xs : List Ca} {k : Nat} {x : Ca} (hx : xs[k]? = some x) : rk xs k = (rcB x && !(opB x && oa (xs.take k) x.a)) := by
  rw [rk_at hx]
  unfold rkx
  cases ho : opB x
  · simp
  · congr 2
    simp only [Bool.true_and]
    rw [← oa_fnd]
    cases hf : fnd x.a (xs.take k) with
    | none => rw [fnd_found hf hx (by simp [fm, ho])]; simp [fnI]
    | some i =>
      have hi : i < (xs.take k).length := fnd_lt hf
      rw [List.length_take] at hi
      have : fnd x.a xs = some i := by
        unfold fnd at *
        have e : xs = xs.take k ++ xs.drop k := (List.take_append_drop _ _).symm
        rw [e, List.findIdx?_append, hf]
        rfl
      rw [this]
      simp [fnI]
      omega
/-- All addresses of a row are numbers of 32 bits. -/
def Au (xs : List Ca) : Prop := ∀ x ∈ xs, 0 ≤ x.a ∧ x.a < 4294967296
theorem cl_iff (t : Int) : t = cl t ↔ 0 ≤ t ∧ t ≤ 1099511627776 := by
  constructor
  · intro h; rw [h]; exact ⟨cl_ge t, cl_le t⟩
  · rintro ⟨h0, h1⟩; exact (cl_in h0 h1).symm
theorem rcB_eq (x : Ca) : rcB x = (decide (0 ≤ x.g) && decide (x.g ≤ 5) && decide (0 ≤ x.r) && decide (x.r ≤ 1099511627776) && decide (0 ≤ x.d) && decide (x.d ≤ 1099511627776) && (if opB x = true then decide (x.d = 0) else decide (x.r ≤ x.d))) := by
  unfold rcB
  rw [show decide (x.r = cl x.r) = (decide (0 ≤ x.r) && decide (x.r ≤ 1099511627776)) by rw [← Bool.decide_and]; exact decide_eq_decide.2 (cl_iff _),
    show decide (x.d = cl x.d) = (decide (0 ≤ x.d) && decide (x.d ≤ 1099511627776)) by rw [← Bool.decide_and]; exact decide_eq_decide.2 (cl_iff _)]
  simp only [Bool.and_assoc]
theorem all_lg (xs : List Ca) : ((List.range xs.length).all (rk xs) && decide (xs.length ≤ 16)) = rgB xs := by unfold rgB; rw [Bool.and_comm]

/-- How an element reads: as itself. -/
def mR (v : Value) : Option (DataW Value × List MemPlace) := some (.held v, [])
theorem law34 : Maps.Keyed Try.prog 34 := Maps.int_keyed Try.underlying34
theorem wf_key {a : Int} (h0 : 0 ≤ a) (h1 : a < 4294967296) : (Lit.int .u32 a).wf = true := by
  simp [Lit.wf, IntKind.min, IntKind.max, IntKind.signed, IntKind.bits]; omega
theorem key34 {a : Int} (h0 : 0 ≤ a) (h1 : a < 4294967296) : keyOf Try.prog 34 (.int .u32 a) = some (.int .u32 a) := Maps.keyOf_int_mk Try.underlying34 (wf_key h0 h1)
theorem zero4 (w : World) : (zeroValue 4).run Try.prog w = .ok (.bool false) w := by kernel_rfl
/-- The map tells just which addresses have an open case in the row. -/
structure Mo (zs : List Ca) (D : DataW Value) : Prop where
  tidy : Maps.Tidy D
  at_ : ∀ a, D.atKey (.int .u32 a) (.held (.bool false)) = .held (.bool (oa zs a))
theorem Mo.nil : Mo [] (.map []) := ⟨Maps.tidy_empty, fun a => by rfl⟩
theorem isKey (a : Int) : WideAt.IsKeyLit (.int .u32 a) := by first | trivial | exact .inr (.inl ⟨_, _, rfl⟩) | simp [WideAt.IsKeyLit]
theorem Mo.put {zs : List Ca} {D : DataW Value} (h : Mo zs D) (x : Ca) : Mo (zs ++ [x]) (D.put (.int .u32 x.a) (.held (.bool (oa zs x.a || opB x)))) := by
  have ho : ∀ a, oa (zs ++ [x]) a = (oa zs a || fm a x) := fun a => by unfold oa; rw [List.any_append]; simp
  refine ⟨h.tidy.put (isKey _) _, fun a => ?_⟩
  rw [ho]
  by_cases e : a = x.a
  · subst e
    rw [Maps.atKey_put_same h.tidy.isMap (isKey _)]
    simp [fm]
  · rw [Maps.atKey_put_other (by intro e'; injection e' with _ e'; exact e e'), h.at_]
    have : fm a x = false := by unfold fm; rw [show (x.a == a) = false by simpa using fun e' => e e'.symm]; rfl
    rw [this, Bool.or_false]
section
variable {ops : Array Oper} {rest : List Oper} {o : Oper} {a : Act} {w : World} {Q : Exit → Act → World → Prop}
theorem look63 {W : World} (b n : Nat) (D : DataW Value) (zs : List Ca) (hown : W.ownsMap Try.prog 34 mR b n D) (hM : Mo zs D) (v : Int) (h0 : 0 ≤ v) (h1 : v < 4294967296) (B : Bool) (hB : oa zs v = B) : (Instr.lookup 63 (.map (some b)) (.int .u32 v) false).run Try.prog W = .ok (.bool B) W := by
  obtain ⟨c, ps, hrun, hv⟩ := hown.lookup law34 Try.underlying63 (zero4 W) (zd := .held (.bool false)) (zp := []) rfl (key34 h0 h1)
  rw [hM.at_, hB] at hv
  have hc : c = .bool B := by
    unfold mR at hv
    injection hv with hv
    injection hv with hv _
    injection hv
  subst hc
  simp [hrun, Result.andThen]
theorem at_look63g (m x : Operand) (hw : Region.wanted o (yielded ops a.tmps) = true) (ho : o.op = .lookup 63 m x false) (b n : Nat) (D : DataW Value) (zs : List Ca) (hown : w.ownsMap Try.prog 34 mR b n D) (hM : Mo zs D) (v : Int) (h0 : 0 ≤ v) (h1 : v < 4294967296) (B : Bool) (hB : oa zs v = B) (hm : a.eval m = .map (some b)) (hx : a.eval x = .int .u32 v)
    (h : wpList Try.prog ops Q rest (a.put o.dst (.bool B)) w) : wpList Try.prog ops Q (o :: rest) a w :=
  wpList_want hw fun _ hK => by
    have hr := look63 b n D zs hown hM v h0 h1 B hB
    unfold Oper.wp execOp
    simp only [ho, hm, hx, hr, Sem.run_bind, Sem.run_pure, Result.andThen_ok]
    exact hK _ _ h
theorem at_upd63 (m x y : Operand) (hgd : o.guard = none) (ho : o.op = .mapUpdate 63 m x y) (b n : Nat) (hn : n ≤ 1000) (D : DataW Value) (hown : w.ownsMap Try.prog 34 mR b n D) (v : Int) (h0 : 0 ≤ v) (h1 : v < 4294967296) (B : Bool) (hm : a.eval m = .map (some b)) (hx : a.eval x = .int .u32 v) (hy : a.eval y = .bool B)
    (h : ∀ w', w'.ownsMap Try.prog 34 mR b (n + 1) (D.put (.int .u32 v) (.held (.bool B))) → w.mapTurned w' b → wpList Try.prog ops Q rest (a.put o.dst undef) w') : wpList Try.prog ops Q (o :: rest) a w :=
  wpList_mapUpdate_in w hgd m x y 63 ho 34 4 law34 Try.underlying63 mR b n D hm hown (by unfold maxLen; omega) (.int .u32 v) (.bool B) (.int .u32 v) hx hy (key34 h0 h1) (.held (.bool B)) [] rfl h
end
section
variable {ops : Array Oper} {rest : List Oper} {o : Oper} {a : Act} {C : World → Prop} {Q : Act → Prop}
theorem quiet_look63 (m x : Operand) (hw : Region.wanted o (yielded ops a.tmps) = true) (ho : o.op = .lookup 63 m x false) (b n : Nat) (D : DataW Value) (zs : List Ca) (hown : ∀ W, C W → W.ownsMap Try.prog 34 mR b n D) (hM : Mo zs D) (v : Int) (h0 : 0 ≤ v) (h1 : v < 4294967296) (B : Bool) (hB : oa zs v = B) (hm : a.eval m = .map (some b)) (hx : a.eval x = .int .u32 v)
    (h : wpQuiet Try.prog ops C Q rest (a.put o.dst (.bool B))) : wpQuiet Try.prog ops C Q (o :: rest) a :=
  BigFrame.wpQuiet_want hw fun K hK => ⟨.bool B, fun W hC => by
    have hr := look63 b n D zs (hown W hC) hM v h0 h1 B hB
    unfold Oper.quietAt execOp
    simp only [ho, hm, hx, hr, Sem.run_bind, Sem.run_pure, Result.andThen_ok]
    exact ⟨rfl, rfl⟩, hK _ h⟩
end
/-- What no map's turning turns: cells. -/
theorem turned_cell {w w' : World} {b : Nat} (h : w.mapTurned w' b) {a : Addr} {v : Value} (hc : w.cell? a = some v) : w'.cell? a = some v := by
  have hne : a.block ≠ b := by
    intro e
    obtain ⟨es, clock, _, _, hb, _⟩ := h
    unfold World.cell? at hc
    rw [e, hb] at hc
    cases hc
  exact h.grown.cell hc (by simpa using hne)
theorem Rw.turned {α : Type} {E : El α} {w w' : World} {A : Option Addr} {xs : List α} {b : Nat} (h : Rw E w A xs) (ht : w.mapTurned w' b) : Rw E w' A xs :=
  h.cells_keep fun _ _ _ _ _ hc => turned_cell ht hc
theorem below_turned {B : Nat} {w0 w w' : World} {b : Nat} (h : Below B w0 w) (ht : w.mapTurned w' b) (hb : B ≤ b) (hB : B ≤ w.heap.size) : Below B w0 w' :=
  h.grown ht.grown hB (fun k hk => by injection hk with hk; omega)
theorem own_below {w w' : World} {b n : Nat} {D : DataW Value} (h : w.ownsMap Try.prog 34 mR b n D) (hb : Below w.heap.size w w') : w'.ownsMap Try.prog 34 mR b n D :=
  h.kept (row := none) ⟨hb.os, hb.tape, hb.output, hb.size, fun k hk _ => hb.block k hk⟩ (by simp)

theorem ret_b {a b : Bool} (h : a = b) : Value.bool a = Value.bool b := by rw [h]
set_option maxRecDepth 100000 in
set_option maxHeartbeats 16000000 in
theorem lright_any (A : Option Addr) (xs : List Ca) (cap : Nat) (w : World) (h : Rw eA w A xs) (hcap : xs.length ≤ cap) (hu : Au xs) (hx9 : xs.length ≤ 900) :
    Calls Try.prog 18 #[.slice A xs.length cap] w fun e w' => e = .returned (.bool (rgB xs)) ∧ Below w.heap.size w w' := by
  have hln := h.1
  have R := Lib.hid h
  have HU := Lib.hid hu
  have HNO := Lib.hid (fun k => @rgB_no xs k)
  have HRG := Lib.hid (all_lg xs).symm
  have HAT := Lib.hid fun k (hk : k < xs.length) => at_of_lt hk
  have HRKO := Lib.hid fun k x => @rk_oa xs k x
  have HOP := Lib.hid fun x W => lopen_any x W
  clear h hu
  obtain ⟨L, hL⟩ : ∃ L, xs.length = L := ⟨_, rfl⟩
  have HL := Lib.hid hL
  rw [hL] at hln hcap HRG HNO HAT hx9 ⊢
  clear hL
  go_enter Try.func18, Try.ntmps18
  have hmm := @run_makeMap Try.prog
  have M0 := Lib.hid (World.ownsMap_made w Try.prog 34 mR)
  have B0 := Lib.hid (show Below w.heap.size w (w.alloc (.map #[] 0)) from (Below.refl _ w).alloc (Nat.le_refl _) _)
  have hs0 : w.heap.size < (w.alloc (.map #[] 0)).heap.size := by simp
  go_upto_region 2 with fail
  change Code.wp _ _ _ _ (w.alloc (.map #[] 0))
  generalize w.alloc (.map #[] 0) = W0 at *
  clear hmm
  go_wp2_with fail
  go_loopw [9] (fun i wr => ∃ (k : Nat) (D : DataW Value), i = .int .i64 k ∧ k ≤ L ∧ Hid (Below w.heap.size w wr) ∧ Hid (wr.ownsMap Try.prog 34 mR w.heap.size k D) ∧ Hid (Mo (xs.take k) D) ∧ Hid ((List.range k).all (rk xs) = true)) (fun i _ => L - (intOf i).toNat)
  case atStart => exact ⟨0, _, rfl, by omega, B0, M0, Lib.hid (by rw [List.take_zero]; exact Mo.nil), Lib.hid rfl⟩
  case round =>
    obtain ⟨k, D, rfl, hk, HW, HM, HM0, HF⟩ := hrel
    by_cases hkL : k < L
    · obtain ⟨x, hx⟩ := HAT.out k hkL
      obtain ⟨y, rfl⟩ := rw_some R.out (by rw [HL.out]; omega)
      have hat := (R.out.below HW.out).at hx
      obtain ⟨u0, u1⟩ := HU.out x (List.mem_of_getElem? hx)
      have Q1 := Lib.hid (qb_box wr x)
      have hsz : wr.heap.size < (wr.alloc (Cax x)).heap.size := by simp
      have B1 := Lib.hid (show Below w.heap.size w (wr.alloc (Cax x)) from HW.out.alloc HW.out.size _)
      have M1 := Lib.hid (own_below HM.out ((Below.refl _ wr).alloc (Nat.le_refl _) (Cax x)))
      have HRK := Lib.hid (HRKO.out k x hx)
      have HTK := Lib.hid (show xs.take (k + 1) = xs.take k ++ [x] by rw [List.take_add_one, hx]; rfl)
      have HRQ := Lib.hid (rcB_eq x)
      have HOX := Lib.hid (HOP.out x)
      obtain ⟨ob, hob⟩ : ∃ b, opB x = b := ⟨_, rfl⟩
      have HOB := Lib.hid hob
      obtain ⟨is, his⟩ : ∃ b, oa (xs.take k) x.a = b := ⟨_, rfl⟩
      have HIS := Lib.hid his
      rw [hob] at HRK HRQ HOX
      rw [his] at HRK
      clear hx hob his
      unfold cav Cax at *
      go_upto_region 5 with (refine at_load37 (.tmp 11) rfl rfl (y.add (k * 4)) x rfl hat ?_)
      generalize wr.alloc (.cells #[.int .u32 x.a, .int .i64 x.r, .int .i64 x.d, .int .i64 x.g] 37) = W at *
      clear hat
      go_cut [67] from 13 to 67 (fun v wc => v = .bool (!rk xs k) ∧ Hid (Below W.heap.size W wc))
      case first =>
        clear HTK HOB B1
        generalize rk xs k = RK at *
        generalize xs.take k = zs at *
        obtain ⟨s0, s1, s2, s3⟩ := Q1.out.c
        obtain ⟨a, r, d, g⟩ := x
        dsimp only at s0 s1 s2 s3 u0 u1 HRQ HRK HIS HOX ⊢
        by_cases h1 : 0 ≤ g
        · have h1' : decide (g < 0) = false := decide_eq_false (by omega)
          by_cases h2 : g ≤ 5
          · have h2' : decide (5 < g) = false := decide_eq_false (by omega)
            by_cases h3 : 0 ≤ r
            · have h3' : decide (r < 0) = false := decide_eq_false (by omega)
              by_cases h4 : r ≤ 1099511627776
              · have h4' : decide (1099511627776 < r) = false := decide_eq_false (by omega)
                by_cases h5 : 0 ≤ d
                · have h5' : decide (d < 0) = false := decide_eq_false (by omega)
                  by_cases h6 : d ≤ 1099511627776
                  · have h6' : decide (1099511627776 < d) = false := decide_eq_false (by omega)
                    go_wp2_with fail
                    refine (HOX.out _).mono ?_
                    rintro e w2 ⟨rfl, hb⟩
                    have B2 := Lib.hid hb
                    have Q2 := Lib.hid (Q1.out.below hb)
                    have M2 := Lib.hid (own_below M1.out hb)
                    have hsz2 : wr.heap.size < w2.heap.size := Nat.lt_of_lt_of_le hsz hb.size
                    clear hb
                    obtain ⟨t0, t1, t2, t3⟩ := Q2.out.c
                    dsimp only at t0 t1 t2 t3
                    cases ob
                    · go_wp2_with fail
                      refine (HOX.out _).mono ?_
                      rintro e w3 ⟨rfl, hb⟩
                      have B3 := Lib.hid (B2.out.trans (hb.mono B2.out.size))
                      have Q3 := Lib.hid (Q2.out.below hb)
                      have hsz3 : wr.heap.size < w3.heap.size := Nat.lt_of_lt_of_le hsz2 hb.size
                      clear hb t0 t1 t2 t3
                      obtain ⟨t0, t1, t2, t3⟩ := Q3.out.c
                      dsimp only at t0 t1 t2 t3
                      by_cases h7 : r ≤ d
                      · have h7' : decide (d < r) = false := decide_eq_false (by omega)
                        go_wp2_with fail
                        go_meet
                        exact ⟨ret_b (by rw [HRK.out, HRQ.out]; simp [h1, h2, h3, h4, h5, h6, h7]), B3⟩
                      · have h7' : d < r := by omega
                        go_wp2_with fail
                        go_meet
                        exact ⟨ret_b (by rw [HRK.out, HRQ.out]; simp [h7, h7']), B3⟩
                    · by_cases h7 : d = 0
                      · have e7 : (d != 0) = false := by simpa using h7
                        have H7 := Lib.hid h7
                        clear h7
                        cases is
                        · go_wp2_with (first | (at_lookup; refine at_look63g (.tmp 49) (.tmp 51) ?_ ?_ w.heap.size k D _ M2.out HM0.out a u0 u1 false HIS.out ?_ ?_ ?_; rotate_left; (with_reducible rfl); rfl; rfl; rotate_left; kernel_rfl))
                          refine (HOX.out _).mono ?_
                          rintro e w3 ⟨rfl, hb⟩
                          have B3 := Lib.hid (B2.out.trans (hb.mono B2.out.size))
                          clear hb t0 t1 t2 t3
                          go_wp2_with fail
                          go_meet
                          exact ⟨ret_b (by rw [HRK.out, HRQ.out]; simp [h1, h2, h3, h4, h5, h6, H7.out]), B3⟩
                        · go_wp2_with (first | (at_lookup; refine at_look63g (.tmp 49) (.tmp 51) ?_ ?_ w.heap.size k D _ M2.out HM0.out a u0 u1 true HIS.out ?_ ?_ ?_; rotate_left; (with_reducible rfl); rfl; rfl; rotate_left; kernel_rfl))
                          go_meet
                          exact ⟨ret_b (by rw [HRK.out, HRQ.out]; simp), B2⟩
                      · have e7 : (d != 0) = true := by simpa using h7
                        go_wp2_with fail
                        go_meet
                        exact ⟨ret_b (by rw [HRK.out, HRQ.out]; simp [h7]), B2⟩
                  · have h6' : 1099511627776 < d := by omega
                    go_wp2_with fail
                    go_meet
                    exact ⟨ret_b (by rw [HRK.out, HRQ.out]; simp [h6]), Lib.hid (Below.refl _ _)⟩
                · have h5' : d < 0 := by omega
                  go_wp2_with fail
                  go_meet
                  exact ⟨ret_b (by rw [HRK.out, HRQ.out]; simp [h5]), Lib.hid (Below.refl _ _)⟩
              · have h4' : 1099511627776 < r := by omega
                go_wp2_with fail
                go_meet
                exact ⟨ret_b (by rw [HRK.out, HRQ.out]; simp [h4]), Lib.hid (Below.refl _ _)⟩
            · have h3' : r < 0 := by omega
              go_wp2_with fail
              go_meet
              exact ⟨ret_b (by rw [HRK.out, HRQ.out]; simp [h3]), Lib.hid (Below.refl _ _)⟩
          · have h2' : 5 < g := by omega
            go_wp2_with fail
            go_meet
            exact ⟨ret_b (by rw [HRK.out, HRQ.out]; simp [h2]), Lib.hid (Below.refl _ _)⟩
        · have h1' : g < 0 := by omega
          go_wp2_with fail
          go_meet
          exact ⟨ret_b (by rw [HRK.out, HRQ.out]; simp [h1]), Lib.hid (Below.refl _ _)⟩
      case rest =>
        obtain ⟨rfl, HC⟩ := hcut
        have C1 := Lib.hid (B1.out.trans (HC.out.mono B1.out.size))
        have Q2 := Lib.hid (Q1.out.below HC.out)
        have M2 := Lib.hid (own_below M1.out HC.out)
        have hszc : wr.heap.size < wc.heap.size := Nat.lt_of_lt_of_le hsz HC.out.size
        clear Q1 HC M1 B1
        cases hrk : rk xs k
        · have HKF := Lib.hid hrk
          clear hrk
          go_wp2_with fail
          go_ret
          exact ⟨by rw [HNO.out k hkL HKF.out]; rfl, C1.out⟩
        · have HKT := Lib.hid hrk
          clear hrk
          rw [Bool.not_true]
          have HPUT := Lib.hid (show Mo (xs.take (k + 1)) (D.put (.int .u32 x.a) (.held (.bool (is || ob)))) by rw [HTK.out, ← HIS.out, ← HOB.out]; exact HM0.out.put x)
          generalize xs.take k = zs at *
          obtain ⟨q0, q1, q2, q3⟩ := Q2.out.c
          have rq0 := cell_regrown q0
          have HOR := Lib.hid fun d' os => Calls.regrown_of (d := d') (os := os) (HOX.out (Sort.grow (redrawn wc d') os))
          have HLQ := Lib.hid (show ∀ W', (∃ p : Regrown, W' = Sort.grow (redrawn wc p.d) p.os) → ∀ j v, (cal x)[j]? = some v → W'.cell? ((⟨wr.heap.size, 0, none⟩ : Addr).add j) = some v from by rintro W' ⟨p, rfl⟩; exact (Q2.out.below (below_regrown wc p.d p.os)).at)
          have HLM := Lib.hid (show ∀ W', (∃ p : Regrown, W' = Sort.grow (redrawn wc p.d) p.os) → W'.ownsMap Try.prog 34 mR w.heap.size k D from by rintro W' ⟨p, rfl⟩; exact own_below M2.out (below_regrown wc p.d p.os))
          go_upto_region 7 with fail
          cases is
          · refine wp_region_quiet_tail_below 11 (by kernel_rfl) (by kernel_rfl) ?_
            simp only [List.take_succ_cons, List.take_zero, List.drop_succ_cons, List.drop_zero]
            repeat (first | (refine quiet_look63 (.tmp 71) (.tmp 73) ?_ ?_ w.heap.size k D _ HLM.out HM0.out x.a u0 u1 false HIS.out ?_ ?_ ?_; rotate_left; (with_reducible rfl); rfl; rfl; rotate_left; kernel_rfl; simp only [Act.put, List.setIfInBounds_toArray, List.set_cons_zero, List.set_cons_succ]) | (refine quiet_load37 (.tmp 5) ⟨wr.heap.size, 0, none⟩ x HLQ.out ?_ ?_ ?_ ?_; rotate_left; (with_reducible rfl); rfl; rotate_left; kernel_rfl; simp only [Act.put, List.setIfInBounds_toArray, List.set_cons_zero, List.set_cons_succ]) | go_big_quiet_step ((go_at_call 20; exact HOR.out _ _)))
            refine wpQuiet_nil ?_
            rintro W6 ⟨⟨dq, osq⟩, rfl⟩
            have B6 := Lib.hid (C1.out.trans ((below_regrown wc dq osq).mono C1.out.size))
            have M6 := Lib.hid (own_below M2.out (below_regrown wc dq osq))
            generalize Sort.grow (redrawn wc dq) osq = W6 at *
            go_wp2_with (at_mapUpdate; refine at_upd63 (.tmp 68) (.tmp 70) _ rfl rfl w.heap.size k (by omega) D M6.out x.a u0 u1 ob rfl rfl rfl ?_)
            intro w9 ho9 ht9
            have B9 := Lib.hid (below_turned B6.out ht9 (Nat.le_refl _) B6.out.size)
            have M9 := Lib.hid ho9
            clear ho9 ht9
            go_wp2_with fail
            go_roundw
            case rel => exact ⟨k + 1, _, by go_num, by omega, B9, M9, HPUT, Lib.hid (by rw [rk_all, HF.out, HKT.out]; rfl)⟩
            case measure => simp [intOf]; omega
          · refine wp_region_quiet_tail_below 11 (by kernel_rfl) (by kernel_rfl) ?_
            simp only [List.take_succ_cons, List.take_zero, List.drop_succ_cons, List.drop_zero]
            repeat (first | (refine quiet_look63 (.tmp 71) (.tmp 73) ?_ ?_ w.heap.size k D _ HLM.out HM0.out x.a u0 u1 true HIS.out ?_ ?_ ?_; rotate_left; (with_reducible rfl); rfl; rfl; rotate_left; kernel_rfl; simp only [Act.put, List.setIfInBounds_toArray, List.set_cons_zero, List.set_cons_succ]) | go_big_quiet_step (fail))
            refine wpQuiet_nil ?_
            rintro W6 ⟨⟨dq, osq⟩, rfl⟩
            have B6 := Lib.hid (C1.out.trans ((below_regrown wc dq osq).mono C1.out.size))
            have M6 := Lib.hid (own_below M2.out (below_regrown wc dq osq))
            generalize Sort.grow (redrawn wc dq) osq = W6 at *
            go_wp2_with (at_mapUpdate; refine at_upd63 (.tmp 68) (.tmp 70) _ rfl rfl w.heap.size k (by omega) D M6.out x.a u0 u1 true rfl rfl rfl ?_)
            intro w9 ho9 ht9
            have B9 := Lib.hid (below_turned B6.out ht9 (Nat.le_refl _) B6.out.size)
            have M9 := Lib.hid ho9
            clear ho9 ht9
            go_wp2_with fail
            go_roundw
            case rel => exact ⟨k + 1, _, by go_num, by omega, B9, M9, HPUT, Lib.hid (by rw [rk_all, HF.out, HKT.out]; rfl)⟩
            case measure => simp [intOf]; omega
    · obtain rfl : k = L := by omega
      have HQ := Lib.hid (show rgB xs = decide (k ≤ 16) by rw [HRG.out, HF.out, Bool.true_and])
      go_wp2_with fail
      go_ret
      refine ⟨?_, HW.out⟩
      rw [HQ.out]
      by_cases h16 : k ≤ 16
      · simp [h16]; try omega
      · simp [h16]; try omega
end Go.Proofs.Ytmaaniokfpkbjaa
