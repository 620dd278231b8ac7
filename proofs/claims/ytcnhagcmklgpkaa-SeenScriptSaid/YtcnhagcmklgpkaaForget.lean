/-
  The contract of seen.Forget, at the function that SeenForget hands in. Conditions: the row lies in memory, and has up to 1000 addresses, each of up to 1000 sightings.
-/
import Derived.Test.YtcnhagcmklgpkaaKeepWalk
set_option linter.unusedSimpArgs false
set_option linter.unusedVariables false
namespace Go.Proofs.Ytcnhagcmklgpkaa
open Go.RowKit

/-- Whether somebody wants to know of an address still. -/
def wB (odd : Bool) (a : Int) : Bool := decide (a % 2 = 1) == odd
set_option maxRecDepth 100000 in
set_option maxHeartbeats 2000000 in
theorem wants_any (odd : Bool) (a : Int) (b : Nat) (w : World) (ha0 : 0 ≤ a) (ha1 : a < 4294967296) (hb : w.cell? ⟨b, 0, none⟩ = some (.bool odd)) :
    Calls Try.prog 20 #[.int .u32 a, .pointer (some ⟨b, 0, none⟩)] w fun e w' => e = .returned (.bool (wB odd a)) ∧ w' = w := by
  by_cases h : a % 2 = 1
  · have HW := Lib.hid (show wB odd a = (true == odd) by unfold wB; rw [decide_eq_true h])
    cases odd
    · go_enter Try.func20, Try.ntmps20
      go_wp2_with fail
      go_ret
      exact ⟨ret_bool HW.out.symm, rfl⟩
    · go_enter Try.func20, Try.ntmps20
      go_wp2_with fail
      go_ret
      exact ⟨ret_bool HW.out.symm, rfl⟩
  · have HW := Lib.hid (show wB odd a = (false == odd) by unfold wB; rw [decide_eq_false h])
    have H := Lib.hid h
    cases odd
    · go_enter Try.func20, Try.ntmps20
      go_wp2_with fail
      go_ret
      exact ⟨ret_bool (by rw [HW.out]; have := H.out; simp [this]), rfl⟩
    · go_enter Try.func20, Try.ntmps20
      go_wp2_with fail
      go_ret
      exact ⟨ret_bool (by rw [HW.out]; have := H.out; simp [this]), rfl⟩

/-- Where its sightings lie, another row does not. -/
def Ap (x : Kn) (g : Option Nat) : Prop := 0 < x.ss.length → ∀ p, x.P = some p → some p.block ≠ g
theorem kn_grown {w w' : World} {x : Kn} {row : Option Nat} (h : x.In w) (hg : w.grownBy w' row) (ha : Ap x row) : x.In w' := by
  refine ⟨h.a0, h.a1, ?_, h.le, h.max⟩
  rcases Nat.eq_zero_or_pos x.ss.length with e | e
  · rw [List.eq_nil_of_length_eq_zero e]
    exact Rw.nil _ _
  · exact h.lies.grown hg fun p hp => ha e p hp
theorem rw_lt {w : World} {p : Addr} {ss : List Sg} (h : Rw eS w (some p) ss) (hl : 0 < ss.length) : p.block < w.heap.size := by
  have := World.block_lt_of_cell? _ _ (h.at (List.getElem?_eq_getElem hl) 0 _ rfl)
  rwa [add_block, add_block] at this
theorem wpList_append_at (w : World) {ops : Array Oper} {rest : List Oper} {o : Oper} {a : Act} {Q : Exit → Act → World → Prop} (hgd : o.guard = none) (s x : Operand) (ho : o.op = .call { callee := .builtin .append, args := #[s, x], argTypes := #[25, 25] })
    (base : Nat) (v : Value) (n : Nat) (xs : List Kn) (hs : a.eval s = v) (hown : w.ownsRow base 53 2 v n (eK.cs xs)) (A : Option Addr) (c : Nat) (y : Kn) (hx : a.eval x = .slice A 1 c) (hr : Rw eK w A [y])
    (hlen : n + 1 ≤ 1000000) (hbase : base ≤ w.heap.size)
    (h : ∀ v' w', w'.ownsRow base 53 2 v' (n + 1) (eK.cs (xs ++ [y])) → w.grownBy w' v.ownBlock → (v'.ownBlock = v.ownBlock ∨ v'.ownBlock = some w.heap.size) → wpList Try.prog ops Q rest (a.put o.dst v') w') : wpList Try.prog ops Q (o :: rest) a w := by
  obtain ⟨A, rfl⟩ := rw_some hr (by simp)
  obtain ⟨i, z, b, hi, hz0, hz1, hz2, hz3, hb⟩ := tK.info
  refine wpList_append_own_at w hgd s x 25 ho base 53 i z 2 b tK.sl hi hz0 hz1 hz2 hz3 (by decide) v n (eK.cs xs) hs hown A 1 c (eK.cs [y]) hx (by rw [cs_length]; rfl) hr.cells (cs_one _) (by unfold maxLen; omega)
    (Nat.le_trans (Nat.mul_le_mul hlen hb) (by omega)) hbase ?_
  intro v' w' h1 h2 _ h3
  rw [← cs_append] at h1
  exact h v' w' h1 h2 h3
/-- Sightings, an address with them, and a row of one, which lie from a block on. -/
def sG (B : Nat) (ss : List Sg) : Value → World → Prop := fun v W => ∃ A c, v = .slice A ss.length c ∧ ss.length ≤ c ∧ c ≤ maxLen ∧ Rw eS W A ss ∧ ∀ p, A = some p → B ≤ p.block
theorem stable_sG (B : Nat) (ss : List Sg) : Stable (sG B ss) := fun _ _ _ ⟨A, c, h1, h2, h3, h4, h5⟩ hb => ⟨A, c, h1, h2, h3, h4.below hb, h5⟩
def bG (B : Nat) (a : Int) (ss : List Sg) : Value → World → Prop := fun v W => ∃ A c, v = .agg #[.int .u32 a, .slice A ss.length c] ∧ ss.length ≤ c ∧ c ≤ maxLen ∧ Rw eS W A ss ∧ ∀ p, A = some p → B ≤ p.block
theorem stable_bG (B : Nat) (a : Int) (ss : List Sg) : Stable (bG B a ss) := fun _ _ _ ⟨A, c, h1, h2, h3, h4, h5⟩ hb => ⟨A, c, h1, h2, h3, h4.below hb, h5⟩
def kG (B : Nat) (a : Int) (ss : List Sg) : Value → World → Prop := fun v W => ∃ (A : Option Addr) (c : Nat) (y : Kn), v = .slice A 1 c ∧ Rw eK W A [y] ∧ y.In W ∧ y.p = ⟨a, ss⟩ ∧ ∀ p, y.P = some p → B ≤ p.block
theorem stable_kG (B : Nat) (a : Int) (ss : List Sg) : Stable (kG B a ss) := fun _ _ _ ⟨A, c, y, h1, h2, h3, h4, h5⟩ hb => ⟨A, c, y, h1, h2.below hb, h3.below hb, h4, h5⟩
theorem calls_sG {B : Nat} {args : Array Value} {f : FuncId} {W : World} {ss : List Sg} {Φ : List (Value → World → Prop)} {i : Nat} (h : Calls Try.prog f args W (OwnPost eS 35 W ss)) (hB : B ≤ W.heap.size) (hl : ss.length ≤ 1000000) (hi : fAt Φ i = sG B ss) : Calls Try.prog f args W fun e w' => ∃ v, e = .returned v ∧ Below W.heap.size W w' ∧ fAt Φ i v w' := by
  rw [hi]
  refine h.mono ?_
  rintro e w' ⟨v, rfl, ho, hb⟩
  obtain ⟨A, c, rfl, h1, h2, _, h3, h4⟩ := own_rw (E := eS) ho (by omega)
  exact ⟨_, rfl, hb, A, c, rfl, h1, h2, h3, fun p hp => Nat.le_trans hB (h4 p hp).1⟩
theorem rwK_one (W : World) (x : Kn) : Rw eK (W.alloc (.cells #[.int .u32 x.a, .slice x.P x.ss.length x.c] 53)) (some ⟨W.heap.size, 0, none⟩) [x] := by
  refine ⟨by simp, fun q z hq => ?_⟩
  match q, hq with
  | 0, hq =>
    simp at hq
    subst hq
    refine ⟨_, rfl, fun j v hv => ?_⟩
    rw [Addr.add_mid]
    change (kl x)[j]? = some v at hv
    show (W.alloc _).cell? ⟨W.heap.size, 0 + (0 * 2 + j), none⟩ = _
    match j, hv with
    | 0, h => simp [kl] at h; subst h; simp
    | 1, h => simp [kl] at h; subst h; simp
    | j + 2, h => simp [kl] at h
  | q + 1, hq => simp at hq

/-- The row that has been kept, behind the first k. -/
structure Fg (w : World) (ps : List Kp) (odd : Bool) (k : Nat) (v : Value) (n : Nat) (ys : List Kn) (wr : World) : Prop where
  own : wr.ownsRow w.heap.size 53 2 v n (eK.cs ys)
  len : ys.length = n
  row : ys.map Kn.p = (ps.take k).filter fun x => wB odd x.a
  ins : ∀ y ∈ ys, y.In wr ∧ Ap y v.ownBlock
  bel : Below w.heap.size w wr
theorem Fg.below {w wr w' : World} {ps : List Kp} {odd : Bool} {k n : Nat} {v : Value} {ys : List Kn} (h : Fg w ps odd k v n ys wr) (hb : Below wr.heap.size wr w') : Fg w ps odd k v n ys w' :=
  ⟨own_keep h.own hb, h.len, h.row, fun y hy => ⟨(h.ins y hy).1.below hb, (h.ins y hy).2⟩, bthen h.bel hb h.bel.size⟩
theorem Fg.no {w wr : World} {ps : List Kp} {odd : Bool} {k n : Nat} {v : Value} {ys : List Kn} (h : Fg w ps odd k v n ys wr) {x : Kp} (hx : ps[k]? = some x) (hw : wB odd x.a = false) : Fg w ps odd (k + 1) v n ys wr :=
  ⟨h.own, h.len, by rw [List.take_add_one, hx, List.filter_append, h.row]; simp [hw], h.ins, h.bel⟩
theorem Fg.yes {w w1 wr w' : World} {ps : List Kp} {odd : Bool} {k n : Nat} {v v' : Value} {ys : List Kn} (h : Fg w ps odd k v n ys w1) (hb : Below w1.heap.size w1 wr) {x : Kp} (hx : ps[k]? = some x) (hw : wB odd x.a = true) {y : Kn} (hy : y.In wr) (hyp : y.p = x) (hyb : ∀ p, y.P = some p → w1.heap.size ≤ p.block)
    (ho : w'.ownsRow w.heap.size 53 2 v' (n + 1) (eK.cs (ys ++ [y]))) (hg : wr.grownBy w' v.ownBlock) (hat : v'.ownBlock = v.ownBlock ∨ v'.ownBlock = some wr.heap.size) : Fg w ps odd (k + 1) v' (n + 1) (ys ++ [y]) w' := by
  have h2 := h.below hb
  have hsz := h2.bel.size
  have hlt : ∀ g, v.ownBlock = some g → w.heap.size ≤ g ∧ g < w1.heap.size := fun g hgv => h.own.lt g hgv
  have hins : ∀ z ∈ ys ++ [y], z.In wr ∧ Ap z v.ownBlock := by
    intro z hz
    rcases List.mem_append.1 hz with hz | hz
    · exact h2.ins z hz
    · simp at hz
      subst hz
      refine ⟨hy, fun _ p hp e => ?_⟩
      have h3 := hyb p hp
      have h4 := (hlt _ e.symm).2
      omega
  refine ⟨ho, by rw [List.length_append, h.len]; rfl, ?_, fun z hz => ?_, h2.bel.grown hg hsz fun j hj => (hlt j hj).1⟩
  · rw [List.map_append, h.row, List.take_add_one, hx, List.filter_append]
    simp [hw, hyp]
  · obtain ⟨h3, h4⟩ := hins z hz
    refine ⟨kn_grown h3 hg h4, fun hl p hp => ?_⟩
    rcases hat with e | e
    · rw [e]; exact h4 hl p hp
    · rw [e]
      intro e'
      have h5 := h3.lies
      rw [hp] at h5
      have := rw_lt h5 hl
      injection e' with e'
      omega

set_option maxRecDepth 100000 in
set_option maxHeartbeats 4000000 in
theorem forget_any (odd : Bool) (b : Nat) (A : Option Addr) (ps : List Kp) (cap : Nat) (w : World) (h : Ks w A ps) (hcap : ps.length ≤ cap) (hbd : Bd ps) (hb : w.cell? ⟨b, 0, none⟩ = some (.bool odd)) :
    Calls Try.prog 19 #[.slice A ps.length cap, .func (.func 20) #[] #[.pointer (some ⟨b, 0, none⟩)]] w (KPost w (ps.filter fun x => wB odd x.a)) := by
  have hln := h.len
  have R := Lib.hid h
  have HBD := Lib.hid hbd
  have HWC := Lib.hid hb
  have HWL := Lib.hid (World.block_lt_of_cell? _ _ hb)
  obtain ⟨L, hL⟩ : ∃ L, ps.length = L := ⟨_, rfl⟩
  have HL := Lib.hid hL
  rw [hL] at hcap hln ⊢
  have hL9 : L ≤ 1000 := by rw [← hL]; exact hbd.1
  clear h hbd hb hL
  go_enter Try.func19, Try.ntmps19
  go_wp2_with fail
  go_loopw [5, 10] (fun v i wr => ∃ (k n : Nat) (ys : List Kn), i = .int .i64 k ∧ k ≤ L ∧ n ≤ k ∧ Hid (Fg w ps odd k v n ys wr)) (fun _ i _ => L - (intOf i).toNat)
  case atStart => exact ⟨0, 0, [], rfl, by omega, by omega, Lib.hid ⟨World.ownsRow_nil _ _ _ _, rfl, by simp, fun y hy => by simp at hy, Below.refl _ _⟩⟩
  case round =>
    obtain ⟨k, n, ys, rfl, hk, hnk, HH⟩ := hrel
    by_cases hlt : k < L
    · obtain ⟨x, hx⟩ : ∃ x, ps[k]? = some x := ⟨_, List.getElem?_eq_getElem (by rw [HL.out]; exact hlt)⟩
      obtain ⟨y, P, c, rfl, hin, hat⟩ := (R.out.below HH.out.bel).kn hx
      have hA1 : Below wr.heap.size wr (wr.alloc (.cells #[.int .u32 x.a, .slice P x.ss.length c] 53)) := (Below.refl _ wr).alloc (Nat.le_refl _) _
      have HF1 := Lib.hid (HH.out.below hA1)
      have HX := Lib.hid (show oneX wr.heap.size x.a P c x.ss.length x.ss (wr.alloc (.cells #[.int .u32 x.a, .slice P x.ss.length c] 53)) from ⟨by simp, by simp, by simp, hin.lies.below hA1⟩)
      have hxl : x.ss.length ≤ 1000000 := Nat.le_trans (HBD.out.2 x (List.mem_of_getElem? hx)) (by omega)
      have HCL := Lib.hid fun W (hW : Rw eS W P x.ss) => cloneS_any P x.ss c W hW hxl hin.le
      have HWN := Lib.hid (show Calls Try.prog 20 #[.int .u32 x.a, .pointer (some ⟨b, 0, none⟩)] (wr.alloc (.cells #[.int .u32 x.a, .slice P x.ss.length c] 53)) fun e w' => e = .returned (.bool (wB odd x.a)) ∧ w' = (wr.alloc (.cells #[.int .u32 x.a, .slice P x.ss.length c] 53)) from wants_any odd x.a b _ hin.a0 hin.a1 (by
        rw [(hA1.mono HH.out.bel.size |> HH.out.bel.trans).cell (p := ⟨b, 0, none⟩) HWL.out]
        exact HWC.out))
      have HXA := Lib.hid (show 0 ≤ x.a ∧ x.a < 4294967296 from ⟨hin.a0, hin.a1⟩)
      have HXL := Lib.hid hxl
      have HKX := Lib.hid hx
      obtain ⟨WB, hWB⟩ : ∃ WB, wB odd x.a = WB := ⟨_, rfl⟩
      have HWB := Lib.hid hWB
      rw [hWB] at HWN
      obtain ⟨xa, xs⟩ := x
      dsimp only at HF1 HX HCL HWN HXA HXL HWB
      clear hin hx hxl hA1 HH hWB
      go_wp2_with (refine at_load53 _ rfl rfl _ _ rfl hat ?_)
      have HNX := Lib.hid (show wr.heap.size < (wr.alloc (.cells #[.int .u32 xa, .slice P xs.length c] 53)).heap.size by simp)
      generalize wr.alloc (.cells #[.int .u32 xa, .slice P xs.length c] 53) = W1 at *
      generalize wr.heap.size = NN at *
      obtain ⟨M, hM⟩ : ∃ M, xs.length = M := ⟨_, rfl⟩
      have HM := Lib.hid hM
      rw [hM] at HX HCL ⊢
      clear hM hat
      refine HWN.out.mono ?_
      rintro e w2 ⟨rfl, rfl⟩
      cases WB
      · go_wp2_with fail
        go_roundw
        case rel => exact ⟨k + 1, n, ys, by go_num, by omega, by omega, Lib.hid (HF1.out.no HKX.out HWB.out)⟩
        case measure => simp [intOf]; omega
      · go_wp2_with fail
        refine wp_region_below_tail 8 [fx u5, fx (.pointer (some ⟨NN, 0, none⟩)), fx (.int .u32 xa), fx (.pointer (some ⟨NN, 1, none⟩)), fx (.slice P M c), sG w2.heap.size xs, bG w2.heap.size xa xs, kG w2.heap.size xa xs]
          (by kernel_rfl) (by simp) (by kernel_rfl) (by kernel_rfl) (by kernel_rfl) ?_ ?_ ?_
        · simp only [List.mem_cons, List.not_mem_nil, or_false]
          rintro φ (rfl | rfl | rfl | rfl | rfl | rfl | rfl | rfl)
          all_goals first | exact stable_fx _ | exact stable_fr _ _ | exact stable_sG _ _ | exact stable_bG _ _ _ | exact stable_kG _ _ _
        · refine OgSteps.cons ?_ (OgSteps.cons ?_ (OgSteps.cons ?_ (OgSteps.cons ?_ (OgSteps.cons ?_ (OgSteps.cons ?_ (OgSteps.cons ?_ (OgSteps.cons ?_ (OgSteps.nil))))))))
          · refine OgStep.pure ?_ ?_
            · rfl
            intro u W hS hp
            refine ⟨u5, ?_, rfl⟩
            simp only [ogMk, Act.put, List.setIfInBounds_toArray, List.set_cons_zero, List.set_cons_succ, Nat.zero_add, Nat.reduceAdd, List.take_succ_cons, List.take_zero, List.drop_succ_cons, List.drop_zero]
            simp [execOp, Act.eval, go_sem]
          · refine OgStep.pure ?_ ?_
            · rfl
            intro u W hS hp
            refine ⟨.pointer (some ⟨NN, 0, none⟩), ?_, rfl⟩
            simp only [ogMk, Act.put, List.setIfInBounds_toArray, List.set_cons_zero, List.set_cons_succ, Nat.zero_add, Nat.reduceAdd, List.take_succ_cons, List.take_zero, List.drop_succ_cons, List.drop_zero]
            simp [execOp, Act.eval, go_sem]
          · refine OgStep.pure ?_ ?_
            · rfl
            intro u W hS hp
            have h1 : u 1 = .pointer (some ⟨NN, 0, none⟩) := hp ⟨1, .data⟩ (by simp) rfl
            have X := oneX_below HX.out hS
            have R := X.1
            refine ⟨.int .u32 xa, ?_, rfl⟩
            simp only [ogMk, Act.put, List.setIfInBounds_toArray, List.set_cons_zero, List.set_cons_succ, Nat.zero_add, Nat.reduceAdd, List.take_succ_cons, List.take_zero, List.drop_succ_cons, List.drop_zero]
            simp [execOp, Act.eval, go_sem, h1, R]
          · refine OgStep.pure ?_ ?_
            · rfl
            intro u W hS hp
            refine ⟨.pointer (some ⟨NN, 1, none⟩), ?_, rfl⟩
            simp only [ogMk, Act.put, List.setIfInBounds_toArray, List.set_cons_zero, List.set_cons_succ, Nat.zero_add, Nat.reduceAdd, List.take_succ_cons, List.take_zero, List.drop_succ_cons, List.drop_zero]
            simp [execOp, Act.eval, go_sem]
          · refine OgStep.pure ?_ ?_
            · rfl
            intro u W hS hp
            have h3 : u 3 = .pointer (some ⟨NN, 1, none⟩) := hp ⟨3, .data⟩ (by simp) rfl
            have X := oneX_below HX.out hS
            have R := X.2.1
            refine ⟨.slice P M c, ?_, rfl⟩
            simp only [ogMk, Act.put, List.setIfInBounds_toArray, List.set_cons_zero, List.set_cons_succ, Nat.zero_add, Nat.reduceAdd, List.take_succ_cons, List.take_zero, List.drop_succ_cons, List.drop_zero]
            simp [execOp, Act.eval, go_sem, h3, R]
          · refine OgStep.calls ?_ ?_
            · rfl
            intro u W hS hp
            have h4 : u 4 = .slice P M c := hp ⟨4, .data⟩ (by simp) rfl
            refine ⟨27, #[.slice P M c], ?_, calls_sG (HCL.out W (oneX_below HX.out hS).2.2) hS.size HXL.out rfl⟩
            simp only [ogMk, Act.put, List.setIfInBounds_toArray, List.set_cons_zero, List.set_cons_succ, Nat.zero_add, Nat.reduceAdd, List.take_succ_cons, List.take_zero, List.drop_succ_cons, List.drop_zero]
            simp [execOp, Act.eval, go_sem, h4]
          · refine OgStep.pure ?_ ?_
            · rfl
            intro u W hS hp
            obtain ⟨A5, c5, h5, hc5, hm5, hR5, hp5⟩ : sG w2.heap.size xs (u 5) W := hp ⟨5, .data⟩ (by simp) rfl
            have h2 : u 2 = .int .u32 xa := hp ⟨2, .data⟩ (by simp) rfl
            refine ⟨.agg #[.int .u32 xa, .slice A5 xs.length c5], ?_, ⟨A5, c5, rfl, hc5, hm5, hR5, hp5⟩⟩
            simp only [ogMk, Act.put, List.setIfInBounds_toArray, List.set_cons_zero, List.set_cons_succ, Nat.zero_add, Nat.reduceAdd, List.take_succ_cons, List.take_zero, List.drop_succ_cons, List.drop_zero]
            rw [h2, h5]
            simp [execOp, Act.eval, go_sem]
          · refine OgStep.made ?_ ?_
            · rfl
            intro u W hS hp
            obtain ⟨A6, c6, h6, hc6, hm6, hR6, hp6⟩ : bG w2.heap.size xa xs (u 6) W := hp ⟨6, .data⟩ (by simp) rfl
            have hI : (⟨xa, A6, c6, xs⟩ : Kn).In W := ⟨HXA.out.1, HXA.out.2, hR6, hc6, hm6⟩
            refine ⟨.slice (some ⟨W.heap.size, 0, none⟩) 1 1, _, ?_, (Below.refl _ W).alloc (Nat.le_refl _) _, ⟨_, _, ⟨xa, A6, c6, xs⟩, rfl, rwK_one W ⟨xa, A6, c6, xs⟩, hI.below ((Below.refl _ W).alloc (Nat.le_refl _) _), rfl, hp6⟩⟩
            simp only [ogMk, Act.put, List.setIfInBounds_toArray, List.set_cons_zero, List.set_cons_succ, Nat.zero_add, Nat.reduceAdd, List.take_succ_cons, List.take_zero, List.drop_succ_cons, List.drop_zero]
            rw [h6]
            simp [execOp, Act.eval, go_sem]
        · intro u W hS hF'
          have hF := hF'
          have e0 : u 0 = u5 := hF 0 (by decide)
          have e1 : u 1 = .pointer (some ⟨NN, 0, none⟩) := hF 1 (by decide)
          have e2 : u 2 = .int .u32 xa := hF 2 (by decide)
          have e3 : u 3 = .pointer (some ⟨NN, 1, none⟩) := hF 3 (by decide)
          have e4 : u 4 = .slice P M c := hF 4 (by decide)
          simp only [ogMk, Act.put, List.setIfInBounds_toArray, List.set_cons_zero, List.set_cons_succ, Nat.zero_add, Nat.reduceAdd, List.take_succ_cons, List.take_zero, List.drop_succ_cons, List.drop_zero]
          rw [e0, e1, e2, e3, e4]
          clear e0 e1 e2 e3 e4 hF
          obtain ⟨A7, c7, z, e7, hR7, hz7, hp7, hb7⟩ : kG w2.heap.size xa xs (u 7) W := hF' 7 (by decide)
          obtain ⟨A6, c6, e6, _⟩ : bG w2.heap.size xa xs (u 6) W := hF' 6 (by decide)
          obtain ⟨A5, c5, e5, _⟩ : sG w2.heap.size xs (u 5) W := hF' 5 (by decide)
          rw [e5, e6, e7]
          have HS := Lib.hid hS
          have HR7 := Lib.hid (show Rw eK W A7 [z] ∧ z.In W ∧ z.p = ⟨xa, xs⟩ ∧ (∀ p, z.P = some p → w2.heap.size ≤ p.block) from ⟨hR7, hz7, hp7, hb7⟩)
          have HF2 := Lib.hid (HF1.out.below hS)
          clear hF' e5 e6 e7 hS hR7 hz7 hp7 hb7
          refine wpList_append_at W rfl (.tmp 18) (.tmp 25) rfl w.heap.size u5 n ys (by simp [Act.eval, Act.put]) HF2.out.own A7 c7 z (by simp [Act.eval, Act.put]) HR7.out.1 (by omega) HF2.out.bel.size ?_
          intro v3 w3 ho3 hg3 hat3
          have HF3 := Lib.hid (HF1.out.yes HS.out HKX.out HWB.out HR7.out.2.1 HR7.out.2.2.1 HR7.out.2.2.2 ho3 hg3 hat3)
          clear ho3 hg3 hat3 HF2 HS HR7 HF1 HX HCL
          go_wp2_with fail
          go_roundw
          case rel => exact ⟨k + 1, n + 1, ys ++ [z], by go_num, by omega, by omega, HF3⟩
          case measure => simp [intOf]; omega
    · obtain rfl : k = L := by omega
      have hF := HH.out
      have htk : ps.take k = ps := by rw [← HL.out, List.take_length]
      have hrow : ys.map Kn.p = ps.filter fun x => wB odd x.a := by rw [hF.row, htk]
      have hyl : ys.length = (ps.filter fun x => wB odd x.a).length := by rw [← hrow, List.length_map]
      obtain ⟨A3, c3, he, hc3, hm3, -, hr3, -⟩ := own_rw (E := eK) hF.own (by rw [hF.len]; omega)
      have HFN := Lib.hid (show kF (ps.filter fun x => wB odd x.a) u5 wr from ⟨A3, c3, by rw [he, hyl], by omega, hm3, ys, hrow, hr3, fun y hy => (hF.ins y hy).1⟩)
      have HB := Lib.hid hF.bel
      clear hF htk hrow hyl he hc3 hm3 hr3
      go_wp2_with fail
      go_ret
      exact ⟨_, rfl, HB.out, HFN.out⟩
end Go.Proofs.Ytcnhagcmklgpkaa
