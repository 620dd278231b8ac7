/-
  The contract of Append: what it returns, and what becomes of the disk and of the log. Conditions: a disk and a log are there, fewer than a million calls are counted, the numbers are small.
-/
import Derived.Test.YtjkfgdeiciligaaAppend
import Derived.Deep.RegionLaw
set_option linter.unusedSimpArgs false
namespace Go.Proofs.Ytjkfgdeiciligaa
open Go.RowKit

theorem step_append1 {T e : TypeId} {z : Value} {by' : Nat} (hu : Try.prog.underlying T = some (.slice e)) (hi : (Try.prog.info? e).map (fun i => (i.zero, i.size, i.bytes)) = some (some z, 1, by')) (hz : z.cells = #[z]) (hby : by' ≤ 24) (w : World) {ops : Array Oper} {o : Oper} {a : Act} {K : Act → World → Prop} {Q : Exit → Act → World → Prop} {E : Prop} (hgd : o.guard = none) (s x : Operand) (ho : o.op = .call { callee := .builtin .append, args := #[s, x], argTypes := #[T, T] })
    (base : Nat) (v : Value) (n : Nat) (xs : List Value) (hs : a.eval s = v) (hown : w.ownsRow base e 1 v n xs) (b c : Nat) (u : Value) (hx : a.eval x = .slice (some ⟨b, 0, none⟩) 1 c) (hr : w.cell? ⟨b, 0, none⟩ = some u) (h1 : u.oneCell' = true) (hl : n < 1000000) (hbase : base ≤ w.heap.size)
    (h : ∀ g cap w', w'.ownsRow base e 1 (.slice (some ⟨g, 0, none⟩) (n + 1) cap) (n + 1) (xs ++ [u]) → w.grownBy w' v.ownBlock → (v.ownBlock = some g ∨ g = w.heap.size) → g < w'.heap.size → K (a.put o.dst (.slice (some ⟨g, 0, none⟩) (n + 1) cap)) w') :
    if Region.wanted o (yielded ops a.tmps) = true then Oper.wp Try.prog o a w K Q else E := by
  have hw : Region.wanted o (yielded ops a.tmps) = true := by simp [Region.wanted, hgd]
  rw [if_pos hw]
  exact wp_append1 hu hi hz hby w s x ho base v n xs hs hown b c u hx hr h1 hl hbase h

/-- The log's row of records is grown by one, and stored. -/
theorem Ls.push {w w' : World} {p q : Nat} {rv u : Value} {L : Lk} {F : Nat → Prop} {zs : List Nat} {vs : List Value} {g cap : Nat} (h : Ls w p q rv L F) (hF : ∀ b, F b → b < w.heap.size) (ho : w.ownsRow 0 33 1 rv L.recs.length vs) (hv : ∀ (i : Nat) (zs : List Nat), L.recs[i]? = some zs → ∃ v, vs[i]? = some v ∧ Sl w (fs F q rv) v zs) (hu : Sl w (fs F q rv) u zs)
    (ho' : w'.ownsRow 0 33 1 (.slice (some ⟨g, 0, none⟩) (L.recs.length + 1) cap) (L.recs.length + 1) (vs ++ [u])) (hg : w.grownBy w' rv.ownBlock) (hat : rv.ownBlock = some g ∨ g = w.heap.size) :
    Ls (w'.setCell ⟨q, 5, none⟩ (.slice (some ⟨g, 0, none⟩) (L.recs.length + 1) cap)) p q (.slice (some ⟨g, 0, none⟩) (L.recs.length + 1) cap) { L with recs := L.recs ++ [zs] } F := by
  have hgq : g ≠ q := by
    rcases hat with e | e
    · exact (h.nr g e).2
    · have := h.qlt; omega
  have hgF : ¬ F g := by
    rcases hat with e | e
    · exact (h.nr g e).1
    · intro hf; have := hF g hf; omega
  have hbq : w'.heap[q]? = w.heap[q]? := hg.block q h.qlt (fun e => (h.nr q e.symm).2 rfl)
  have hR : Recs w' (fs F q (.slice (some ⟨g, 0, none⟩) (L.recs.length + 1) cap)) (.slice (some ⟨g, 0, none⟩) (L.recs.length + 1) cap) (L.recs ++ [zs]) := by
    refine Recs.push rfl ho hv hu ho' hg (fun b hb => .inr (.inr hb)) ?_
    rintro b (hb | hb | hb)
    · exact .inl (.inl hb)
    · exact .inl (.inr (.inl hb))
    · obtain rfl : g = b := by simpa [Value.ownBlock] using hb
      rcases hat with e | e
      · exact .inl (.inr (.inr e))
      · exact .inr (by omega)
  have hs : Step w' (w'.setCell ⟨q, 5, none⟩ (.slice (some ⟨g, 0, none⟩) (L.recs.length + 1) cap)) (fun b => b = q) (fun b => b = q) := (Step.refl w' (fun b => b = q)).setCell (a := ⟨q, 5, none⟩) rfl _
  refine ⟨?_, hR.step hs (fun b hb => .inr (.inl hb)) (fun b hb => .inl hb) (fun g' hg' e => hgq (by simp [Value.ownBlock] at hg'; omega)), h.nq, ?_⟩
  · have hb' := hbq.trans h.blk
    simp only [World.setCell, Array.getElem?_modify, if_true, hb', Option.map_some]
    rfl
  · intro g' hg'
    obtain rfl : g = g' := by simpa [Value.ownBlock] using hg'
    exact ⟨hgF, hgq⟩
theorem Ds.grown {w w' : World} {p k : Nat} {pv : Value} {M : Dk} {row : Option Nat} (h : Ds w p k pv M) (hg : w.grownBy w' row) (hr : ∀ b, row = some b → ¬ ft p k pv b) : Ds w' p k pv M :=
  h.of_blocks (hg.block _ h.plt (fun e => hr _ e.symm Ds.fp)) (hg.block _ h.klt (fun e => hr _ e.symm Ds.fk)) (fun _ hgg => hg.block _ (h.glt hgg) (fun e => hr _ e.symm (.inr (.inr hgg))))

theorem Step.grown {w w' w'' : World} {F F' : Nat → Prop} {row : Option Nat} (h : Step w w' F F') (hg : w'.grownBy w'' row) (hr : ∀ b, row = some b → F' b) : Step w w'' F F' :=
  h.trans ⟨hg.os, hg.tape, hg.output, hg.size, fun b hb hn => hg.block b hb (fun e => hn (hr b e.symm)), fun _ h => .inl h⟩

/-- What is there behind a copy of the record, and the row of one that holds it. -/
structure Mid (w : World) (p k : Nat) (pv : Value) (q : Nat) (rv : Value) (L : Lk) (M : Dk) (zs : List Nat) (u : Value) (vs : List Value) (w6 : World) : Prop where
  d : Ds (w6.alloc (.cells #[u] 33)) p k pv M
  l : Ls (w6.alloc (.cells #[u] 33)) p q rv L (ft p k pv)
  s : Below w.heap.size w (w6.alloc (.cells #[u] 33))
  o : (w6.alloc (.cells #[u] 33)).ownsRow 0 33 1 rv L.recs.length vs
  v : ∀ (i : Nat) (zs : List Nat), L.recs[i]? = some zs → ∃ v, vs[i]? = some v ∧ Sl (w6.alloc (.cells #[u] 33)) (fs (ft p k pv) q rv) v zs
  sl : Sl (w6.alloc (.cells #[u] 33)) (fs (ft p k pv) q rv) u zs
  c : (w6.alloc (.cells #[u] 33)).cell? ⟨w6.heap.size, 0, none⟩ = some u
theorem Mid.of {w w6 : World} {p k : Nat} {pv : Value} {q : Nat} {rv : Value} {L : Lk} {M : Dk} {zs : List Nat} {A6 : Option Addr} {c6 : Nat} (D : Ds w p k pv M) (Q : Ls w p q rv L (ft p k pv)) (r6 : Rd w6 A6 zs) (b6 : Below w.heap.size w w6) (hA6 : ∀ x, A6 = some x → w.heap.size ≤ x.block ∧ x.block < w6.heap.size) :
    ∃ vs, Mid w p k pv q rv L M zs (.slice A6 zs.length c6) vs w6 := by
  have bb : Below w.heap.size w (w6.alloc (.cells #[.slice A6 zs.length c6] 33)) := b6.alloc b6.size _
  have l7 := Q.below bb
  obtain ⟨vs, ho, hv⟩ := l7.recs
  refine ⟨vs, D.below bb, l7, bb, ho, hv, ⟨A6, c6, rfl, r6.below ((Below.refl _ w6).alloc (Nat.le_refl _) _), fun x hx => ⟨by have := (hA6 x hx).2; simp; omega, fun hf => ?_⟩⟩, ?_⟩
  · have h1 := (hA6 x hx).1
    have := Q.lt (fun b hb => D.lt b hb) _ hf
    omega
  · rw [cell_of_row _ _ _ _ _ _ (heap_alloc_new w6 _)]
    rfl

set_option maxHeartbeats 4000000 in
set_option maxRecDepth 100000 in
theorem append_any (p k : Nat) (pv : Value) (M : Dk) (q : Nat) (rv : Value) (L : Lk) (A : Option Addr) (zs : List Nat) (c : Nat) (w : World) (h : Ds w p k pv M) (hq : Ls w p q rv L (ft p k pv)) (hr : Rd w A zs) (hA : ∀ x, zs ≠ [] → A = some x → ¬ fs (ft p k pv) q rv x.block) (hzc : zs.length ≤ c)
    (hs : L.size ≤ 256) (hf : L.first ≤ L.size) (hfin : L.fin ≤ 300) (hrl : L.recs.length ≤ 1000) (hl : zs.length < 1000000000) (hc : M.calls + 1000 < 1000000) :
    Calls Try.prog 15 #[.pointer (some ⟨q, 0, none⟩), .slice A zs.length c] w (LPost w p k pv q rv (apd L M zs)) := by
  have CO := Lib.hid fun W (h : Ls W p q rv L (ft p k pv)) => room_any h (by omega) (by omega)
  have CR := Lib.hid fun room W (h : Ls W p q rv L (ft p k pv)) => refusal6_any p q rv L _ A zs.length c room W h hl
  have CW := Lib.hid fun (pv : Value) (M : Dk) w h hr hA hl hc => writeFrame_any p k pv M (L.first + L.fin) 2 L.recs.length A zs c w h hr hA hzc (by omega) hl (by omega) hc
  have CC := Lib.hid fun W (h : Rd W A zs) => clone_any A zs c W h
  have CS := Lib.hid fun W => sectors_any zs.length W hl
  have H := Lib.hid h
  have HQ := Lib.hid hq
  have HR := Lib.hid hr
  have HA := Lib.hid hA
  clear h hq hr hA
  go_enter Try.func15, Try.ntmps15
  go_wp2_with fail
  refine (CO.out _ HQ.out).mono ?_
  rintro e w1 ⟨rfl, b1⟩
  have H1 := Lib.hid (H.out.below b1)
  have HQ1 := Lib.hid (HQ.out.below b1)
  have HR1 := Lib.hid (HR.out.below b1)
  have S1 := Lib.hid (Step.of_below b1 (fs (ft p k pv) q rv))
  clear b1 H HQ HR CO
  go_wp2_with fail
  refine (CR.out _ _ HQ1.out).mono ?_
  rintro e w2 ⟨rfl, rfl⟩
  by_cases hz : rf6 L zs.length ((L.size : Int) - (L.fin : Int)) = 0
  · obtain ⟨hbr, hzl, hsc⟩ := rf6_zero hz
    have HB : Hid (apd L M zs = if (M.go (fop (L.first + L.fin) 2 L.recs.length zs)).1 = 0 then
      (0, { L with fin := L.fin + sct zs.length, recs := L.recs ++ [zs] }, (M.go (fop (L.first + L.fin) 2 L.recs.length zs)).2)
      else ((M.go (fop (L.first + L.fin) 2 L.recs.length zs)).1, { L with broken := true }, (M.go (fop (L.first + L.fin) 2 L.recs.length zs)).2)) := by
      show _ = _
      rw [apd, if_pos hz]
    have HSC := Lib.hid (And.intro hbr hsc)
    clear hbr hsc
    rw [hz]
    have EF : IntKind.i64.wrap ((L.first : Int) + (L.fin : Int)) = ((L.first + L.fin : Nat) : Int) := by
      rw [show (L.first : Int) + (L.fin : Int) = ((L.first + L.fin : Nat) : Int) by omega]
      exact Lib.wrap_i64_small _ (by omega)
    obtain ⟨Ar, cr, hrv⟩ := HQ1.out.recs.shape
    have c0 : w1.cell? ⟨q, 0, none⟩ = some (.pointer (some ⟨p, 0, none⟩)) := HQ1.out.cell 0
    have c2 : w1.cell? ⟨q, 2, none⟩ = some (.int .i64 (L.first : Int)) := HQ1.out.cell 2
    have c4 : w1.cell? ⟨q, 4, none⟩ = some (.int .i64 (L.fin : Int)) := HQ1.out.cell 4
    have c5 : w1.cell? ⟨q, 5, none⟩ = some (.slice Ar L.recs.length cr) := by rw [← hrv]; exact HQ1.out.cell 5
    have HRV := Lib.hid hrv
    clear hrv hz
    go_upto_region 4 with fail
    go_still_tail 19, (by kernel_rfl)
    change wpList _ _ _ _ _ w1.drew
    clear c0 c2 c4 c5 EF CR
    have H2 := Lib.hid H1.out.drew
    have HQ2 := Lib.hid (show Ls w1.drew p q rv L (ft p k pv) from HQ1.out.below (Below.refl _ w1).drew)
    have HR2 := Lib.hid HR1.out.drew
    have S2 := Lib.hid S1.out.drew
    clear H1 HQ1 HR1 S1
    generalize w1.drew = w2 at *
    have HA2 := Lib.hid (show ∀ x, zs ≠ [] → A = some x → ¬ ft p k pv x.block from fun x hz hx hf => HA.out x hz hx (.inl hf))
    go_wp2_with fail
    refine (CW.out _ _ _ H2.out HR2.out HA2.out hzl (by omega)).mono ?_
    rintro e w3 ⟨rfl, pv3, h3, s3⟩
    generalize M.go (fop (L.first + L.fin) 2 L.recs.length zs) = MM at *
    obtain ⟨er, M3⟩ := MM
    have HQ3 := Lib.hid (HQ2.out.step s3)
    have HR3 := Lib.hid (HR2.out.step s3 HA2.out)
    have S3 := Lib.hid (S2.out.trans (s3.wide q rv))
    have H3 := Lib.hid h3
    have HN3 : Hid (∀ x, zs ≠ [] → A = some x → x.block ≠ q) := fun x hz hx e => HA.out x hz hx (.inr (.inl e))
    clear h3 s3 H2 HQ2 HR2 S2 HA2 CW
    by_cases he : er = 0
    · subst he
      rw [if_pos rfl] at HB
      have hsc4 : ((sct zs.length : Nat) : Int) ≤ 256 := by have := HSC.out.2; omega
      have EF : IntKind.i64.wrap ((L.fin : Int) + ((sct zs.length : Nat) : Int)) = ((L.fin + sct zs.length : Nat) : Int) := by
        rw [show (L.fin : Int) + ((sct zs.length : Nat) : Int) = ((L.fin + sct zs.length : Nat) : Int) by omega]
        exact Lib.wrap_i64_small _ (by omega)
      have c4 : w3.cell? ⟨q, 4, none⟩ = some (.int .i64 (L.fin : Int)) := HQ3.out.cell 4
      have f4 := HQ3.out.frozen 4
      go_upto_region 8 with fail
      refine wp_region_still_tail 10 (by kernel_rfl) (by kernel_rfl) ?_
      simp only [List.take_succ_cons, List.take_zero, List.drop_succ_cons, List.drop_zero]
      repeat (first | still_step | still_call (still (CS.out _)))
      refine wpStill_nil ?_
      change wpList _ _ _ _ _ w3.drew
      have H4 := Lib.hid H3.out.drew
      have HQ4 := Lib.hid (show Ls w3.drew p q rv L (ft p k pv3) from HQ3.out.below (Below.refl _ w3).drew)
      have HR4 := Lib.hid HR3.out.drew
      have S4 := Lib.hid S3.out.drew
      clear c4 f4 H3 HQ3 HR3 S3
      generalize w3.drew = w4 at *
      have c4 : w4.cell? ⟨q, 4, none⟩ = some (.int .i64 (L.fin : Int)) := HQ4.out.cell 4
      have f4 := HQ4.out.frozen 4
      have D5 := Lib.hid (H4.out.setOther (a := ⟨q, 4, none⟩) HQ4.out.nq (.int .i64 ((L.fin + sct zs.length : Nat) : Int)))
      have Q5 := Lib.hid (set4 HQ4.out (L.fin + sct zs.length))
      have S5 := Lib.hid (S4.out.setCell (a := ⟨q, 4, none⟩) (.inr (.inl rfl)) (.int .i64 ((L.fin + sct zs.length : Nat) : Int)))
      have R5 := Lib.hid (HR4.out.step ((Step.refl w4 (fun b => b = q)).setCell (a := ⟨q, 4, none⟩) rfl (.int .i64 ((L.fin + sct zs.length : Nat) : Int))) HN3.out)
      rw [show ((L.fin + sct zs.length : Nat) : Int) = (L.fin : Int) + ((sct zs.length : Nat) : Int) by omega] at D5 Q5 S5 R5
      clear H4 HQ4 HR4 S4
      go_upto_region 9 with fail
      clear c4 f4 EF
      generalize hw5 : w4.setCell ⟨q, 4, none⟩ _ = w5 at *
      clear hw5
      have D6 := Lib.hid D5.out.drew
      have Q6 := Lib.hid (show Ls w5.drew p q rv { L with fin := L.fin + sct zs.length } (ft p k pv3) from Q5.out.below (Below.refl _ w5).drew)
      have R6 := Lib.hid R5.out.drew
      have S6 := Lib.hid S5.out.drew
      have c5 : w5.drew.cell? ⟨q, 5, none⟩ = some rv := Q6.out.cell 5
      have c5w : w5.cell? ⟨q, 5, none⟩ = some rv := Q5.out.cell 5
      clear D5 Q5 R5 S5
      go_region_law (first
        | (with_reducible refine step_append1 Try.underlying46 info33 rfl (by omega) _ rfl (.tmp 55) (.tmp 58) rfl 0 rv L.recs.length vs (by simp [Act.eval, Act.put]) HM.out.o w6.heap.size 1 (.slice A6 zs.length c6) (by simp [Act.eval, Act.put]) HM.out.c rfl (by omega) (Nat.zero_le _) ?_
           intro g7 cap7 w7 hown hgrow hat hlt
           have Q8 := Lib.hid (HM.out.l.push (fun b hb => HM.out.d.lt b hb) HM.out.o HM.out.v HM.out.sl hown hgrow hat)
           have D8 := Lib.hid (HM.out.d.grown hgrow (fun b hb => (HM.out.l.nr b hb).1))
           have S8 := Lib.hid (S6.out.trans (Step.of_below HM.out.s (fs (ft p k pv3) q rv)))
           have bq : w7.heap[q]? = (w6.alloc (.cells #[.slice A6 zs.length c6] 33)).heap[q]? := hgrow.block q HM.out.l.qlt (fun e => (HM.out.l.nr q e.symm).2 rfl)
           have c7 : w7.cell? ⟨q, 5, none⟩ = some rv := (World.cell?_of_block bq).trans (HM.out.l.cell 5)
           have f7 : w7.frozen? ⟨q, 5, none⟩ = false := (World.frozen?_of_block bq).trans (HM.out.l.frozen 5)
           have G8 := Lib.hid hgrow
           have A8 := Lib.hid hat
           clear hown hgrow hat bq)
        | (go_simp
           go_at_call 35
           refine (CC.out _ R6.out).mono ?_
           rintro e w6 ⟨A6, c6, rfl, r6, hc6, b6, hA6⟩
           obtain ⟨vs, hm⟩ := Mid.of (c6 := c6) D6.out Q6.out r6 b6 hA6
           have HM := Lib.hid hm
           have c56 : w6.cell? ⟨q, 5, none⟩ = some rv := (Q6.out.below b6).cell 5
           have c57 : (w6.alloc (.cells #[.slice A6 zs.length c6] 33)).cell? ⟨q, 5, none⟩ = some rv := HM.out.l.cell 5
           clear hm r6 hc6 b6 hA6))
      all_goals (
        have D9 := Lib.hid (D8.out.setOther (a := ⟨q, 5, none⟩) HM.out.l.nq (.slice (some ⟨g7, 0, none⟩) (L.recs.length + 1) cap7))
        have S9 := Lib.hid (((S8.out.grown G8.out (fun b hb => .inr (.inr hb))).setCell (a := ⟨q, 5, none⟩) (.inr (.inl rfl)) (.slice (some ⟨g7, 0, none⟩) (L.recs.length + 1) cap7)).foots (F'' := fs (ft p k pv3) q (.slice (some ⟨g7, 0, none⟩) (L.recs.length + 1) cap7)) (by
          rintro b (hb | hb | hb)
          · exact S8.out.foot b (.inl hb)
          · exact S8.out.foot b (.inr (.inl hb))
          · obtain rfl : g7 = b := by simpa [Value.ownBlock] using hb
            rcases A8.out with e | e
            · exact S8.out.foot _ (.inr (.inr e))
            · exact .inr (by have := S8.out.size; omega)))
        have N9 : Hid (∀ g, (Value.slice (some ⟨g7, 0, none⟩) (L.recs.length + 1) cap7).ownBlock = some g → rv.ownBlock = some g ∨ w.heap.size ≤ g) := fun g hg => by
          obtain rfl : g7 = g := by simpa [Value.ownBlock] using hg
          rcases A8.out with e | e
          · exact .inl e
          · exact .inr (by have := S8.out.size; omega)
        clear c7 f7 c5 c5w c56 c57 D8 S8 HM G8 A8 D6 Q6 S6 R6
        go_wp2_with fail
        go_ret
        unfold LPost
        rw [HB.out]
        exact ⟨rfl, pv3, _, D9.out, Q8.out, S9.out, N9.out⟩)
    · rw [if_neg he] at HB
      have c6 := HQ3.out.frozen 6
      have c6' : w3.cell? ⟨q, 6, none⟩ = some (.bool L.broken) := HQ3.out.cell 6
      have D4 := Lib.hid (H3.out.setOther (a := ⟨q, 6, none⟩) HQ3.out.nq (.bool true))
      have Q4 := Lib.hid (set6 HQ3.out true)
      have S4 := Lib.hid (S3.out.setCell (a := ⟨q, 6, none⟩) (.inr (.inl rfl)) (.bool true))
      clear H3 HQ3 S3
      go_wp2_with fail
      go_ret
      unfold LPost
      rw [HB.out]
      exact ⟨rfl, pv3, rv, D4.out, Q4.out, S4.out, fun _ hg => .inl hg⟩
  · have HB : Hid (apd L M zs = (rf6 L zs.length ((L.size : Int) - (L.fin : Int)), L, M)) := by
      show _ = _
      rw [apd, if_neg hz]
    generalize rf6 L zs.length ((L.size : Int) - (L.fin : Int)) = er at *
    go_wp2_with fail
    go_ret
    unfold LPost
    rw [HB.out]
    exact ⟨rfl, pv, rv, H1.out, HQ1.out, S1.out, fun _ hg => .inl hg⟩
end Go.Proofs.Ytjkfgdeiciligaa
