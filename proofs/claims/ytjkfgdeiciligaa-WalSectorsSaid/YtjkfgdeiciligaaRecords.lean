/-
  Rows of records in memory, append of one to such a row, and the contract of recordsIn. Conditions: the region is there, and has up to 512 sectors of bytes.
-/
import Derived.Test.YtjkfgdeiciligaaRecord
set_option linter.unusedSimpArgs false
namespace Go.Proofs.Ytjkfgdeiciligaa
open Go.RowKit

theorem info33 : (Try.prog.info? 33).map (fun i => (i.zero, i.size, i.bytes)) = some (some (.slice none 0 0), 1, 24) := by kernel_rfl
theorem info9 : (Try.prog.info? 9).map (fun i => (i.zero, i.size, i.bytes)) = some (some (.string ⟨#[]⟩), 1, 16) := by kernel_rfl

/-- One more value is put behind a row of the call's own. -/
theorem run_append1 {T e : TypeId} {z : Value} {by' : Nat} (hu : Try.prog.underlying T = some (.slice e)) (hi : (Try.prog.info? e).map (fun i => (i.zero, i.size, i.bytes)) = some (some z, 1, by')) (hz : z.cells = #[z]) (hby : by' ≤ 24) (w : World) (base : Nat) (ty : TypeId) (v : Value) (n : Nat) (xs : List Value) (hown : w.ownsRow base e 1 v n xs) (b c : Nat) (u : Value) (hr : w.cell? ⟨b, 0, none⟩ = some u) (h1 : u.oneCell' = true) (hl : n < 1000000) (hbase : base ≤ w.heap.size) :
    ∃ g cap w', (Builtin.append_ #[T, T] ty #[v, .slice (some ⟨b, 0, none⟩) 1 c]).run Try.prog w = .ok (.slice (some ⟨g, 0, none⟩) (n + 1) cap) w' ∧
      w'.ownsRow base e 1 (.slice (some ⟨g, 0, none⟩) (n + 1) cap) (n + 1) (xs ++ [u]) ∧ w.grownBy w' v.ownBlock ∧ (v.ownBlock = some g ∨ g = w.heap.size) ∧ g < w'.heap.size := by
  obtain ⟨i, hii, hz0, hz1, hz2⟩ := info_parts hi
  obtain ⟨v', w', hrun, h2, h3, _, h5⟩ := run_append_own_at (P := Try.prog) w base T ty e i z 1 by' hu hii hz0 hz1 hz2 (by rw [hz]; rfl) (by omega) v n xs hown ⟨b, 0, none⟩ 1 c [u] rfl (fun j x hx => by
    rw [Addr.add_mid]
    match j with
    | 0 => simp at hx; subst hx; exact hr
    | j + 1 => simp at hx) (by simpa using h1) (by unfold maxLen; omega) (by have : (n + 1) * by' ≤ (n + 1) * 24 := Nat.mul_le_mul_left _ hby; omega) hbase
  obtain ⟨g, cap, rfl, _, hlt⟩ := h2.form (by omega)
  refine ⟨g, cap, w', hrun, h2, h3, ?_, hlt⟩
  rcases h5 with h5 | h5
  · exact .inl (by rw [← h5]; rfl)
  · exact .inr (by simpa [Value.ownBlock] using h5)

theorem wp_append1 {T e : TypeId} {z : Value} {by' : Nat} (hu : Try.prog.underlying T = some (.slice e)) (hi : (Try.prog.info? e).map (fun i => (i.zero, i.size, i.bytes)) = some (some z, 1, by')) (hz : z.cells = #[z]) (hby : by' ≤ 24) (w : World) {o : Oper} {a : Act} {K : Act → World → Prop} {Q : Exit → Act → World → Prop} (s x : Operand) (ho : o.op = .call { callee := .builtin .append, args := #[s, x], argTypes := #[T, T] })
    (base : Nat) (v : Value) (n : Nat) (xs : List Value) (hs : a.eval s = v) (hown : w.ownsRow base e 1 v n xs) (b c : Nat) (u : Value) (hx : a.eval x = .slice (some ⟨b, 0, none⟩) 1 c) (hr : w.cell? ⟨b, 0, none⟩ = some u) (h1 : u.oneCell' = true) (hl : n < 1000000) (hbase : base ≤ w.heap.size)
    (h : ∀ g cap w', w'.ownsRow base e 1 (.slice (some ⟨g, 0, none⟩) (n + 1) cap) (n + 1) (xs ++ [u]) → w.grownBy w' v.ownBlock → (v.ownBlock = some g ∨ g = w.heap.size) → g < w'.heap.size → K (a.put o.dst (.slice (some ⟨g, 0, none⟩) (n + 1) cap)) w') : o.wp Try.prog a w K Q := by
  obtain ⟨g, cap, w', hrun, h2, h3, h4, h5⟩ := run_append1 hu hi hz hby w base o.type v n xs hown b c u hr h1 hl hbase
  unfold Oper.wp execOp
  simp only [ho, resolve, invoke, builtin, Sem.run_bind, Sem.run_pure, Result.andThen_ok, List.map_toArray, List.map_cons, List.map_nil, hs, hx, hrun]
  exact h g cap w' h2 h3 h4 h5
theorem wpList_append1 {T e : TypeId} {z : Value} {by' : Nat} (hu : Try.prog.underlying T = some (.slice e)) (hi : (Try.prog.info? e).map (fun i => (i.zero, i.size, i.bytes)) = some (some z, 1, by')) (hz : z.cells = #[z]) (hby : by' ≤ 24) (w : World) {ops : Array Oper} {rest : List Oper} {o : Oper} {a : Act} {Q : Exit → Act → World → Prop} (hgd : o.guard = none) (s x : Operand) (ho : o.op = .call { callee := .builtin .append, args := #[s, x], argTypes := #[T, T] })
    (base : Nat) (v : Value) (n : Nat) (xs : List Value) (hs : a.eval s = v) (hown : w.ownsRow base e 1 v n xs) (b c : Nat) (u : Value) (hx : a.eval x = .slice (some ⟨b, 0, none⟩) 1 c) (hr : w.cell? ⟨b, 0, none⟩ = some u) (h1 : u.oneCell' = true) (hl : n < 1000000) (hbase : base ≤ w.heap.size)
    (h : ∀ g cap w', w'.ownsRow base e 1 (.slice (some ⟨g, 0, none⟩) (n + 1) cap) (n + 1) (xs ++ [u]) → w.grownBy w' v.ownBlock → (v.ownBlock = some g ∨ g = w.heap.size) → g < w'.heap.size → wpList Try.prog ops Q rest (a.put o.dst (.slice (some ⟨g, 0, none⟩) (n + 1) cap)) w') : wpList Try.prog ops Q (o :: rest) a w :=
  wpList_plain hgd fun _ hK => wp_append1 hu hi hz hby w s x ho base v n xs hs hown b c u hx hr h1 hl hbase fun g cap w' h2 h3 h4 h5 => hK _ _ (h g cap w' h2 h3 h4 h5)

/-- A slice's value that has these bytes, which lie in no block of F. -/
def Sl (w : World) (F : Nat → Prop) (v : Value) (zs : List Nat) : Prop := ∃ A c, v = .slice A zs.length c ∧ Rd w A zs ∧ ∀ x, A = some x → x.block < w.heap.size ∧ ¬ F x.block
/-- A row of such values. -/
def Recs (w : World) (F : Nat → Prop) (rv : Value) (rs : List (List Nat)) : Prop :=
  ∃ vs : List Value, w.ownsRow 0 33 1 rv rs.length vs ∧ ∀ (i : Nat) (zs : List Nat), rs[i]? = some zs → ∃ v, vs[i]? = some v ∧ Sl w F v zs

theorem Sl.step {w w' : World} {F F' G G' : Nat → Prop} {v : Value} {zs : List Nat} (h : Sl w F v zs) (hs : Step w w' G G') (hG : ∀ b, G b → F b) (hF : ∀ b, F' b → F b ∨ w.heap.size ≤ b) : Sl w' F' v zs := by
  obtain ⟨A, c, rfl, hr, hx⟩ := h
  refine ⟨A, c, rfl, hr.step hs (fun x _ e hg => (hx x e).2 (hG _ hg)), fun x e => ⟨Nat.lt_of_lt_of_le (hx x e).1 hs.size, fun hf => ?_⟩⟩
  rcases hF _ hf with hf | hf
  · exact (hx x e).2 hf
  · have := (hx x e).1; omega
theorem Recs.step {w w' : World} {F F' G G' : Nat → Prop} {rv : Value} {rs : List (List Nat)} (h : Recs w F rv rs) (hs : Step w w' G G') (hG : ∀ b, G b → F b) (hF : ∀ b, F' b → F b ∨ w.heap.size ≤ b) (hr : ∀ g, rv.ownBlock = some g → ¬ G g) : Recs w' F' rv rs := by
  obtain ⟨vs, ho, hv⟩ := h
  refine ⟨vs, ownsRow_of_block ho (fun g hg => hs.block _ (ho.lt g hg).2 (hr g hg)), fun i zs hi => ?_⟩
  obtain ⟨v, e, hsl⟩ := hv i zs hi
  exact ⟨v, e, hsl.step hs hG hF⟩
theorem Recs.shape {w : World} {F : Nat → Prop} {rv : Value} {rs : List (List Nat)} (h : Recs w F rv rs) : ∃ A cap, rv = .slice A rs.length cap := by
  obtain ⟨vs, ho, _⟩ := h
  rcases ho.2 with ⟨rfl, h0⟩ | ⟨g, cap, cur, hv, _⟩
  · exact ⟨none, 0, by rw [h0]⟩
  · exact ⟨_, cap, hv⟩
theorem Recs.nil (w : World) (F : Nat → Prop) : Recs w F (.slice none 0 0) [] := ⟨[], World.ownsRow_nil _ _ _ _, fun i zs h => by simp at h⟩
theorem Recs.lt {w : World} {F : Nat → Prop} {rv : Value} {rs : List (List Nat)} (h : Recs w F rv rs) {g : Nat} (hg : rv.ownBlock = some g) : g < w.heap.size := by
  obtain ⟨vs, ho, _⟩ := h
  exact (ho.lt g hg).2
theorem Recs.mono {w : World} {F F' : Nat → Prop} {rv : Value} {rs : List (List Nat)} (h : Recs w F rv rs) (hF : ∀ b, F' b → b < w.heap.size → F b) : Recs w F' rv rs := by
  obtain ⟨vs, ho, hv⟩ := h
  refine ⟨vs, ho, fun i zs hi => ?_⟩
  obtain ⟨v, e, A, c, e2, hr, hx⟩ := hv i zs hi
  exact ⟨v, e, A, c, e2, hr, fun x ex => ⟨(hx x ex).1, fun hf => (hx x ex).2 (hF _ hf (hx x ex).1)⟩⟩
/-- One more record behind them: what is grown is their row alone. -/
theorem Recs.push {w w' : World} {F F' : Nat → Prop} {rv rv' u : Value} {rs : List (List Nat)} {vs : List Value} {zs : List Nat} {n : Nat} (hn : n = rs.length) (ho : w.ownsRow 0 33 1 rv n vs) (hv : ∀ (i : Nat) (zs : List Nat), rs[i]? = some zs → ∃ v, vs[i]? = some v ∧ Sl w F v zs) (hu : Sl w F u zs)
    (ho' : w'.ownsRow 0 33 1 rv' (n + 1) (vs ++ [u])) (hg : w.grownBy w' rv.ownBlock) (hG : ∀ b, rv.ownBlock = some b → F b) (hF : ∀ b, F' b → F b ∨ w.heap.size ≤ b) : Recs w' F' rv' (rs ++ [zs]) := by
  have hs : Step w w' F F := ⟨hg.os, hg.tape, hg.output, hg.size, fun b hb hn => hg.block b hb (fun e => hn (hG b e.symm)), fun _ h => .inl h⟩
  have hl : vs.length = rs.length := by have := ho.1; omega
  refine ⟨vs ++ [u], by rw [List.length_append, List.length_singleton, ← hn]; exact ho', fun i ys hi => ?_⟩
  rcases Nat.lt_or_ge i rs.length with h | h
  · rw [List.getElem?_append_left h] at hi
    obtain ⟨v, e, hsl⟩ := hv i ys hi
    exact ⟨v, by rw [List.getElem?_append_left (by omega)]; exact e, hsl.step hs (fun _ h => h) hF⟩
  · rw [List.getElem?_append_right h] at hi
    have hi0 : i - rs.length = 0 := by
      have := (List.getElem?_eq_some_iff.1 hi).1
      simp at this
      omega
    rw [hi0] at hi
    obtain rfl : zs = ys := by simpa using hi
    exact ⟨u, by rw [List.getElem?_append_right (by omega), show i - vs.length = 0 by omega]; rfl, hu.step hs (fun _ h => h) hF⟩

/-- All records of a region from a sector on, and the sector behind them. -/
def rcf (R : Nat → Nat → Nat) (n : Nat) : Nat → Nat → Nat → List (List Nat) × Nat
  | 0, a, _ => ([], a)
  | f + 1, a, k => match rin R n a k with
    | none => ([], a)
    | some b => (b :: (rcf R n f (a + sct b.length) (k + 1)).1, (rcf R n f (a + sct b.length) (k + 1)).2)
theorem rin_some {R : Nat → Nat → Nat} {n a k : Nat} {b : List Nat} (h : rin R n a k = some b) : a + sct b.length ≤ n ∧ b.length ≤ 16384 := by
  unfold rin at h
  split at h
  · cases h
  split at h
  · cases h
  split at h
  · cases h
  split at h
  · injection h with h
    subst h
    rw [jn_length]
    omega
  · cases h

/-- What is new of a walk, and the row of records itself. -/
def nw (N : Nat) (rv : Value) : Nat → Prop := fun b => b < N ∨ rv.ownBlock = some b

set_option maxHeartbeats 1000000 in
set_option maxRecDepth 100000 in
theorem recordsIn_any (g n : Nat) (R : Nat → Nat → Nat) (w : World) (h : Rg w g n R) (hn1 : 1 ≤ n) (hn : n ≤ 512) (hR : ∀ i j, R i j < 256) :
    Calls Try.prog 43 #[.slice (some ⟨g, 0, none⟩) n n] w fun e w' => ∃ rv, e = .returned (.tuple #[rv, .int .i64 ((rcf R n n 1 0).2 : Nat)]) ∧ Recs w' (nw w.heap.size rv) rv (rcf R n n 1 0).1 ∧ Below w.heap.size w w' ∧ ∀ b, rv.ownBlock = some b → w.heap.size ≤ b := by
  have HC := Lib.hid fun a k W (hk : k < 4294967296) (h : Rg W g n R) => recordIn_any g n a k R W h hn hk hR
  have CS := Lib.hid fun n W h => sectors_any n W h
  have H := Lib.hid h
  clear h hR
  go_enter Try.func43, Try.ntmps43
  go_wp2_with fail
  go_loopg [4, 5] n (fun f v i wr => ∃ (acc : List (List Nat)) (a : Nat) (A : Option Addr) (c : Nat), acc.length + f = n ∧ 1 + acc.length ≤ a ∧ a ≤ n ∧ i = .int .i64 (a : Int) ∧ v = .slice A acc.length c ∧
    Hid (rcf R n n 1 0 = (acc ++ (rcf R n f a acc.length).1, (rcf R n f a acc.length).2) ∧ Recs wr (nw w.heap.size (.slice A acc.length c)) (.slice A acc.length c) acc ∧ Below w.heap.size w wr ∧ ∀ b, (Value.slice A acc.length c).ownBlock = some b → w.heap.size ≤ b))
  case atStart => exact ⟨[], 1, none, 0, by simp, by simp, hn1, rfl, rfl, by simp, Recs.nil _ _, Below.refl _ _, fun b hb => by simp [Value.ownBlock] at hb⟩
  case round =>
    obtain ⟨acc, a, A, c, hf, ha, han, rfl, rfl, HH⟩ := hrel
    have hal : acc.length < 4294967296 := by omega
    have hal2 : acc.length < 1000000 := by omega
    generalize hnl : acc.length = k at *
    have HNL := Lib.hid hnl
    clear hnl
    have HRG := Lib.hid (H.out.below (HH.out.2.2.1.mono (Nat.le_refl _)))
    go_wp2_with fail
    have HP := HC.out a k wr hal HRG.out
    refine HP.mono ?_
    intro e w1 hpost
    clear HP
    cases hri : rin R n a k with
    | none =>
      rw [hri] at hpost
      obtain ⟨rfl, hb⟩ := hpost
      have e0 : rcf R n gk a k = ([], a) := by
        cases gk with
        | zero => rfl
        | succ f => rw [rcf, hri]
      obtain ⟨hq1, hq2, hq3, hq4⟩ := HH.out
      rw [e0, List.append_nil] at hq1
      have Q1 := Lib.hid hq1
      have Q2 := Lib.hid (hq2.step (F' := nw w.heap.size (.slice A k c)) (Step.of_below hb (fun _ => False)) (fun _ h => h.elim) (fun _ h => .inl h) (fun _ _ h => h))
      have Q3 := Lib.hid (hq3.trans (hb.mono hq3.size))
      have Q4 := Lib.hid hq4
      clear hb hri e0 hq1 hq2 hq3 hq4 HH
      go_wp2_with fail
      go_ret2
      refine ⟨.slice A k c, by rw [Q1.out]; rfl, by rw [Q1.out]; exact Q2.out, Q3.out, Q4.out⟩
    | some b =>
      rw [hri] at hpost
      obtain ⟨g2, cap, rfl, hrd, hb, hg1, hg2⟩ := hpost
      obtain ⟨hb1, hb2⟩ := rin_some hri
      obtain ⟨f, rfl⟩ : ∃ f, gk = f + 1 := ⟨gk - 1, by omega⟩
      obtain ⟨hq1, ⟨vs, hq2, hq2'⟩, hq3, hq4⟩ := HH.out
      have e0 : rcf R n (f + 1) a k = (b :: (rcf R n f (a + sct b.length) (k + 1)).1, (rcf R n f (a + sct b.length) (k + 1)).2) := by rw [rcf, hri]
      rw [e0] at hq1
      rw [HNL.out] at hq2
      have Q1 := Lib.hid hq1
      have HB := Lib.hid (hb.alloc hb.size (.cells #[.slice (some ⟨g2, 0, none⟩) b.length cap] 33))
      have Q3 := Lib.hid (hq3.trans (HB.out.mono hq3.size))
      have Q4 := Lib.hid hq4
      have ho2 := Lib.hid (ownsRow_of_block (w' := w1.alloc (.cells #[.slice (some ⟨g2, 0, none⟩) b.length cap] 33)) hq2 (fun b' hb' => HB.out.block _ (hq2.lt _ hb').2))
      have ST := Step.of_below HB.out (nw w.heap.size (.slice A k c))
      have HV := Lib.hid (fun (i : Nat) (zs : List Nat) (hi : acc[i]? = some zs) => show ∃ v, vs[i]? = some v ∧ Sl (w1.alloc (.cells #[.slice (some ⟨g2, 0, none⟩) b.length cap] 33)) (nw w.heap.size (.slice A k c)) v zs from by
        obtain ⟨v, e, hs⟩ := hq2' i zs hi
        exact ⟨v, e, hs.step ST (fun _ h => h) (fun _ h => .inl h)⟩)
      have HU : Hid (Sl (w1.alloc (.cells #[.slice (some ⟨g2, 0, none⟩) b.length cap] 33)) (nw w.heap.size (.slice A k c)) (.slice (some ⟨g2, 0, none⟩) b.length cap) b) := by
        refine ⟨_, cap, rfl, hrd.below ((Below.refl _ w1).alloc (Nat.le_refl _) _), ?_⟩
        rintro x hx
        injection hx with hx
        subst hx
        refine ⟨by simp; omega, ?_⟩
        rintro (h | h)
        · have := hq3.size
          have h : g2 < w.heap.size := h
          omega
        · have h : (Value.slice A k c).ownBlock = some g2 := h
          have := (hq2.lt _ h).2
          omega
      have HC2 : Hid ((w1.alloc (.cells #[.slice (some ⟨g2, 0, none⟩) b.length cap] 33)).cell? ⟨w1.heap.size, 0, none⟩ = some (.slice (some ⟨g2, 0, none⟩) b.length cap)) := by
        show _ = _
        rw [cell_of_row _ _ _ _ _ _ (heap_alloc_new w1 _)]
        rfl
      have HSC := Lib.hid (show sct b.length = 1 + (b.length + 63) / 64 from rfl)
      have HLB : Hid (∀ x, (Value.slice A k c).ownBlock = some x → x < w1.heap.size) := fun x hx => Nat.lt_of_lt_of_le (hq2.lt _ hx).2 hb.size
      clear hrd hb hri e0 hq1 hq2 hq2' hq3 hq4 HH ST
      have hsz : w1.heap.size < (w1.alloc (.cells #[.slice (some ⟨g2, 0, none⟩) b.length cap] 33)).heap.size := by simp
      go_wp2_with (at_builtin; refine wpList_append1 Try.underlying46 info33 rfl (by omega) _ rfl (.tmp 20) (.tmp 22) rfl 0 _ k vs (by simp [Act.eval, Act.put]) ho2.out w1.heap.size 1 _ (by simp [Act.eval, Act.put]) HC2.out rfl hal2 (Nat.zero_le _) ?_)
      intro g3 cap3 w3 hown hgrow hat hlt
      have ER : Hid (Recs w3 (nw w.heap.size (.slice (some ⟨g3, 0, none⟩) (k + 1) cap3)) (.slice (some ⟨g3, 0, none⟩) (k + 1) cap3) (acc ++ [b])) := by
        refine Recs.push HNL.out.symm ho2.out HV.out HU.out hown hgrow (fun x hx => .inr hx) ?_
        rintro x (hx | hx)
        · exact .inl (.inl hx)
        · obtain rfl : g3 = x := by simpa [Value.ownBlock] using hx
          rcases hat with hat | hat
          · exact .inl (.inr hat)
          · exact .inr (by simp; omega)
      have Q5 := Lib.hid (Q3.out.grown hgrow (Nat.le_trans Q3.out.size (Nat.le_refl _)) (fun x hx => Q4.out x hx))
      have Q6 : Hid (∀ x, (Value.slice (some ⟨g3, 0, none⟩) (k + 1) cap3).ownBlock = some x → w.heap.size ≤ x) := fun x hx => by
        obtain rfl : g3 = x := by simpa [Value.ownBlock] using hx
        rcases hat with hat | hat
        · exact Q4.out _ hat
        · have := Q3.out.size; simp at this; omega
      clear hown hgrow hat
      have hsb : sct b.length ≤ 512 := by omega
      go_wp2_with fail
      refine (CS.out b.length _ (by omega)).mono ?_
      rintro e w4 ⟨rfl, rfl⟩
      go_wp2_with fail
      go_roundg f
      case measure => omega
      case rel =>
        have e1 := HNL.out
        have e2 := HSC.out
        refine ⟨acc ++ [b], a + sct b.length, some ⟨g3, 0, none⟩, cap3, by simp; omega, by simp; omega, hb1, by go_num, by simp [e1], ?_⟩
        rw [List.length_append, List.length_singleton, e1]
        refine ⟨?_, ER.out, Q5.out, Q6.out⟩
        rw [Q1.out]
        simp
end Go.Proofs.Ytjkfgdeiciligaa
