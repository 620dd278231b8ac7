/-
  The contracts of Flush and Restart: what each returns, and what becomes of the disk. Conditions: a disk is there, and (Flush) fewer than a million calls were counted.
-/
import Derived.Test.YtjkfgdeiciligaaWrite
import Derived.Laws.BitsAllLaws
set_option linter.unusedSimpArgs false
namespace Go.Proofs.Ytjkfgdeiciligaa
open Go.RowKit

/-- The first n of the writes that wait are carried out, of the i-th so many bytes. -/
def kpa (am : Nat → Nat) (l : List (Nat × (Nat → Nat))) (K : Nat → Nat → Nat) : Nat → Nat → Nat → Nat
  | 0 => K
  | n + 1 => match l[n]? with
    | some x => ov (kpa am l K n) x.1 (am n) x.2
    | none => kpa am l K n
theorem kpa_succ {am : Nat → Nat} {l : List (Nat × (Nat → Nat))} {K : Nat → Nat → Nat} {n : Nat} {x : Nat × (Nat → Nat)} (h : l[n]? = some x) : kpa am l K (n + 1) = ov (kpa am l K n) x.1 (am n) x.2 := by
  rw [kpa, h]
theorem ov_zero (K : Nat → Nat → Nat) (a : Nat) (s : Nat → Nat) : ov K a 0 s = K := by
  funext i j
  simp [ov]

set_option maxRecDepth 100000 in
theorem alloc61 (x : Value) (hx : x = .tuple #[]) (w : World) : (Instr.alloc 73 true x).run Try.prog w = .ok (.pointer (some ⟨w.heap.size, 0, none⟩)) (w.alloc (OW (0, zer))) := by
  subst hx
  have e : OW (0, zer) = .cells (#[.int .i64 0] ++ Array.replicate 64 (.int .u8 0)) 73 := by
    unfold OW wc sc zer
    congr 1
  rw [e]
  simp [go_sem, Instr.alloc]
  rfl
theorem load61 {w : World} {b o : Nat} {x : Nat × (Nat → Nat)} (h : w.rangeAt b o (wc x)) : (Instr.loadAt 73 (.pointer (some ⟨b, o, none⟩))).run Try.prog w = .ok (wv x) w :=
  run_loadAt_mid w b o 73 (wc x) _ h Try.underlying73 rfl (by rw [wc_length]; exact size61)
theorem store61 {w : World} {b o : Nat} (x : Nat × (Nat → Nat)) (h : w.there b o 65) : (Instr.storeAt 73 (.pointer (some ⟨b, o, none⟩)) (wv x)).run Try.prog w = .ok () (w.setCells b o (wc x)) := by
  have := run_storeAt_mid (P := Try.prog) w b o 73 (wc x).toArray (by simpa [wc_length] using h) (by simpa [wc_length] using size61) (all_oneCell_toArray (wc_one x))
  simpa [wv] using this
section
variable {ops : Array Oper} {rest : List Oper} {op : Oper} {a : Act} {w : World} {Q : Exit → Act → World → Prop}
theorem at_alloc61 (hgd : op.guard = none) (ho : op.op = .alloc 73) (h : wpList Try.prog ops Q rest (a.put op.dst (.pointer (some ⟨w.heap.size, 0, none⟩))) (w.alloc (OW (0, zer)))) : wpList Try.prog ops Q (op :: rest) a w :=
  wpList_plain hgd fun _ hK => by
    unfold Oper.wp execOp
    simp only [ho, Sem.run_bind, Sem.run_pure, Result.andThen_ok, alloc61 _ rfl w]
    exact hK _ _ h
theorem at_load61 (x : Operand) (hgd : op.guard = none) (ho : op.op = .load 73 x) (b o : Nat) (y : Nat × (Nat → Nat)) (hx : a.eval x = .pointer (some ⟨b, o, none⟩)) (hr : w.rangeAt b o (wc y)) (h : wpList Try.prog ops Q rest (a.put op.dst (wv y)) w) : wpList Try.prog ops Q (op :: rest) a w :=
  wpList_plain hgd fun _ hK => by
    unfold Oper.wp execOp
    simp only [ho, hx, Sem.run_bind, Sem.run_pure, Result.andThen_ok, load61 hr]
    exact hK _ _ h
theorem at_store61 (x y : Operand) (hgd : op.guard = none) (ho : op.op = .store 73 x y) (b o : Nat) (z : Nat × (Nat → Nat)) (hx : a.eval x = .pointer (some ⟨b, o, none⟩)) (hy : a.eval y = wv z) (hr : w.there b o 65) (h : wpList Try.prog ops Q rest (a.put op.dst undef) (w.setCells b o (wc z))) : wpList Try.prog ops Q (op :: rest) a w :=
  wpList_plain hgd fun _ hK => by
    unfold Oper.wp execOp
    simp only [ho, hx, hy, Sem.run_bind, Sem.run_pure, Result.andThen_ok, store61 z hr]
    exact hK _ _ h
end
theorem thereOW (w : World) (x : Nat × (Nat → Nat)) : (w.alloc (OW x)).there w.heap.size 0 65 := by
  intro j hj
  have hb : (w.alloc (OW x)).heap[w.heap.size]? = some (.cells (wc x).toArray 73 (0, 0)) := heap_alloc_new _ _
  have hl : j < (wc x).length := by rw [wc_length]; exact hj
  constructor
  · rw [cell_of_row _ _ _ _ _ _ hb]
    simp [hl]
  · unfold World.frozen?
    simp only [hb]
    simp

/-- Nothing waits any more. -/
theorem Ds.cleared {w : World} {p k : Nat} {pv : Value} {M : Dk} (h : Ds w p k pv M) : Ds (w.setCell ⟨p, 1, none⟩ (.slice none 0 0)) p k (.slice none 0 0) { M with pend := [] } := by
  refine ⟨?_, ?_, World.ownsRow_nil _ _ _ _, h.pk, by simp [Value.ownBlock], by simp [Value.ownBlock], h.n, by simp, h.few, by simp, h.sb, h.fb⟩
  · simp [World.setCell, Array.getElem?_modify, h.blk]
  · exact h.row.setOther (fun e => h.pk e.symm) _
theorem ft_nil {p k : Nat} {pv : Value} {b : Nat} (h : ft p k (.slice none 0 0) b) : ft p k pv b := by
  rcases h with h | h | h
  · exact .inl h
  · exact .inr (.inl h)
  · simp [Value.ownBlock] at h

set_option maxRecDepth 100000 in
theorem flush_no (p k : Nat) (pv : Value) (M : Dk) (w : World) (h : Ds w p k pv M) (hd : M.down = true) :
    Calls Try.prog 46 #[.pointer (some ⟨p, 0, none⟩)] w fun e w' => e = .returned (.int .i64 9) ∧ w = w' := by
  have c7 : w.cell? ⟨p, 7, none⟩ = some (.bool true) := by rw [← hd]; exact h.cell 7
  clear h
  go_enter Try.func46, Try.ntmps46
  go_wp2
  go_ret
  exact ⟨rfl, rfl⟩

set_option maxRecDepth 100000 in
theorem flush_err (p k : Nat) (pv : Value) (M : Dk) (r : Int) (w : World) (h : Ds w p k pv M) (hd : M.down = false) (hc : M.calls + 1 < 1000000) (he : M.err = r) (hr : r ≠ 0) :
    Calls Try.prog 46 #[.pointer (some ⟨p, 0, none⟩)] w fun e w' => e = .returned (.int .i64 r) ∧ Ds w' p k pv M.cnt ∧ Step w w' (ft p k pv) (ft p k pv) := by
  have c7 : w.cell? ⟨p, 7, none⟩ = some (.bool false) := by rw [← hd]; exact h.cell 7
  have N := Lib.hid fun w h => he ▸ count_any p k pv M w h hc
  have H := Lib.hid h
  clear h
  have HQ := Lib.hid hr
  clear hr
  go_enter Try.func46, Try.ntmps46
  go_wp2_with fail
  refine (N.out _ H.out).mono ?_
  rintro e w2 ⟨rfl, h2, ho⟩
  have H2 := Lib.hid h2
  have S2 := Lib.hid (ho.step (k := k) (pv := pv))
  clear h2 ho
  have hr := HQ.out
  go_wp2_with fail
  go_ret
  exact ⟨rfl, H2.out, S2.out⟩

set_option maxRecDepth 100000 in
theorem flush_ok (p k : Nat) (pv : Value) (M : Dk) (w : World) (h : Ds w p k pv M) (hd : M.down = false) (hc : M.calls + 1 < 1000000) (he : M.err = 0) :
    Calls Try.prog 46 #[.pointer (some ⟨p, 0, none⟩)] w fun e w' => e = .returned (.int .i64 0) ∧ Ds w' p k (.slice none 0 0) { M.cnt with kept := kpa (fun _ => 64) M.pend M.kept M.pend.length, pend := [] } ∧ Step w w' (ft p k pv) (ft p k (.slice none 0 0)) := by
  have c7 : w.cell? ⟨p, 7, none⟩ = some (.bool false) := by rw [← hd]; exact h.cell 7
  have N := Lib.hid fun w h => he ▸ count_any p k pv M w h hc
  have H := Lib.hid h
  obtain ⟨A, cap, hpv⟩ := h.shape
  have hlen := h.len
  have HP := Lib.hid hpv
  have HA := Lib.hid h.ats
  clear h
  have KP := Lib.hid fun M x hx w h => keep_any p k pv M x 64 hx (Nat.le_refl _) w h
  go_enter Try.func46, Try.ntmps46
  go_wp2_with fail
  refine (N.out _ H.out).mono ?_
  rintro e w2 ⟨rfl, h2, ho⟩
  have H2 := Lib.hid h2
  have S2 := Lib.hid (ho.step (k := k) (pv := pv))
  have c1 : w2.cell? ⟨p, 1, none⟩ = some (.slice A M.pend.length cap) := by rw [← hpv]; exact h2.cell 1
  clear h2 ho hpv
  go_wp2_with fail
  go_loopg [20] M.pend.length (fun m i wr => ∃ q : Nat, q + m = M.pend.length ∧ i = .int .i64 (q : Int) ∧ Hid (Ds wr p k pv { M.cnt with kept := kpa (fun _ => 64) M.pend M.kept q } ∧ Step w wr (ft p k pv) (ft p k pv)))
  case atStart => exact ⟨0, by omega, rfl, H2.out, S2.out⟩
  case round =>
    clear H2 S2 c1
    obtain ⟨q, hq, rfl, HH⟩ := hrel
    match gk with
    | 0 =>
      obtain rfl : q = M.pend.length := by omega
      have D := Lib.hid HH.out.1.cleared
      have S := Lib.hid ((HH.out.2.setCell (a := ⟨p, 1, none⟩) Ds.fp (.slice none 0 0)).foots (F'' := ft p k (.slice none 0 0)) (fun b hb => .inl (ft_nil hb)))
      have c1 : wr.cell? ⟨p, 1, none⟩ = some pv := HH.out.1.cell 1
      have f1 := HH.out.1.frozen 1
      clear HH
      go_wp2_with fail
      go_ret
      exact ⟨rfl, D.out, S.out⟩
    | g + 1 =>
      obtain ⟨x, hx⟩ : ∃ x, M.pend[q]? = some x := ⟨_, List.getElem?_eq_getElem (by omega)⟩
      obtain ⟨b, cp, hv, hcp, hrg⟩ := HH.out.1.form hx
      rw [HP.out] at hv
      injection hv with hA _ hcc
      subst hA hcc
      have HX := Lib.hid hx
      have hqlt : q < M.pend.length := by omega
      have T := thereOW wr (0, zer)
      have R := World.rangeAt_setCells_same (wr.alloc (OW (0, zer))) wr.heap.size 0 (wc x) (by rw [wc_length]; exact T)
      have HB := Lib.hid (below_setCells wr.heap.size (wc x) 0 ((Below.refl _ wr).alloc (Nat.le_refl _) (OW (0, zer))) (Nat.le_refl _))
      have HD := Lib.hid (show Ds ((wr.alloc (OW (0, zer))).setCells wr.heap.size 0 (wc x)) p k pv { M.cnt with kept := kpa (fun _ => 64) M.pend M.kept q } from
        HH.out.1.below HB.out)
      have HS := Lib.hid (show Step w ((wr.alloc (OW (0, zer))).setCells wr.heap.size 0 (wc x)) (ft p k pv) (ft p k pv) from HH.out.2.trans (Step.of_below HB.out _))
      clear hx HH
      go_wp2_with (first
        | (with_reducible show wpList _ _ _ _ _ wr; first | (refine at_load61 _ rfl rfl _ _ _ rfl hrg ?_) | (refine at_alloc61 rfl rfl ?_))
        | (with_reducible show wpList _ _ _ _ _ (wr.alloc (OW (0, zer))); refine at_store61 (.tmp 5) (.tmp 23) rfl rfl wr.heap.size 0 x (by simp [Act.eval, Act.put]) (by simp [Act.eval, Act.put]) T ?_)
        | (with_reducible show wpList _ _ _ _ _ (World.setCells _ _ _ _); refine at_load61 (.tmp 5) rfl rfl wr.heap.size 0 x (by simp [Act.eval, Act.put]) R ?_))
      refine (KP.out { M.cnt with kept := kpa (fun _ => 64) M.pend M.kept q } x (HA.out x (List.mem_of_getElem? HX.out)) _ HD.out).mono ?_
      rintro e w4 ⟨rfl, h4, s4⟩
      have H4 := Lib.hid h4
      have S4 := Lib.hid (HS.out.trans s4)
      clear h4 s4
      go_wp2_with fail
      go_roundg g
      case measure => omega
      case rel => exact ⟨q + 1, by omega, by go_num, by rw [kpa_succ HX.out]; exact H4.out, S4.out⟩

/-- How many bytes of a write are carried out by Restart. -/
def amt (mask : Nat) (torn bytes : Int) (i : Nat) : Nat := if (i : Int) = torn then (min (max bytes 0) 64).toNat else if mask / 2 ^ (i % 64) % 2 = 1 then 64 else 0
theorem bit_of (mask i : Nat) (h : mask < 18446744073709551616) : bits .and .u64 ((mask : Int) / 2 ^ i) 1 = ((mask / 2 ^ i % 2 : Nat) : Int) := by
  have e : ((mask : Int) / 2 ^ i) = ((mask / 2 ^ i : Nat) : Int) := by simp
  have hl : mask / 2 ^ i < 18446744073709551616 := Nat.lt_of_le_of_lt (Nat.div_le_self _ _) h
  have := u64_and_nat (mask / 2 ^ i) 1 hl (by omega)
  rw [Nat.and_one_is_mod] at this
  rw [e]
  exact this
theorem amt_le (mask : Nat) (torn bytes : Int) (i : Nat) : amt mask torn bytes i ≤ 64 := by
  unfold amt
  split
  · omega
  · split <;> omega

set_option maxRecDepth 100000 in
theorem restart_any (p k : Nat) (pv : Value) (M : Dk) (mask : Nat) (torn bytes : Int) (w : World) (h : Ds w p k pv M) (hm : mask < 18446744073709551616) :
    Calls Try.prog 19 #[.pointer (some ⟨p, 0, none⟩), .int .u64 (mask : Int), .int .i64 torn, .int .i64 bytes] w fun e w' => e = .returned (.tuple #[]) ∧ Ds w' p k (.slice none 0 0) { M with kept := kpa (amt mask torn bytes) M.pend M.kept M.pend.length, pend := [], stop := none, fail := none, down := false } ∧ Step w w' (ft p k pv) (ft p k (.slice none 0 0)) := by
  have H := Lib.hid h
  obtain ⟨A, cap, hpv⟩ := h.shape
  have hlen := h.len
  have hfew := h.few
  have HP := Lib.hid hpv
  have HA := Lib.hid h.ats
  have c1 : w.cell? ⟨p, 1, none⟩ = some (.slice A M.pend.length cap) := by rw [← hpv]; exact h.cell 1
  clear h hpv
  have KP := Lib.hid fun M x m hx hm w h => keep_any p k pv M x m hx hm w h
  go_enter Try.func19, Try.ntmps19
  go_wp2_with fail
  go_loopg [15] M.pend.length (fun m i wr => ∃ q : Nat, q + m = M.pend.length ∧ i = .int .i64 (q : Int) ∧ Hid (Ds wr p k pv { M with kept := kpa (amt mask torn bytes) M.pend M.kept q } ∧ Step w wr (ft p k pv) (ft p k pv)))
  case atStart => exact ⟨0, by omega, rfl, H.out, Step.refl _ _⟩
  case round =>
    clear H c1
    obtain ⟨q, hq, rfl, HH⟩ := hrel
    match gk with
    | 0 =>
      obtain rfl : q = M.pend.length := by omega
      have D := Lib.hid HH.out.1
      have S := Lib.hid HH.out.2
      have c1 : wr.cell? ⟨p, 1, none⟩ = some pv := D.out.cell 1
      have c3 : wr.cell? ⟨p, 3, none⟩ = some (.bool M.stop.isSome) := D.out.cell 3
      have c4 : wr.cell? ⟨p, 4, none⟩ = some (.int .i64 ((M.stop.getD 0 : Nat) : Int)) := D.out.cell 4
      have c5 : wr.cell? ⟨p, 5, none⟩ = some (.bool M.fail.isSome) := D.out.cell 5
      have c6 : wr.cell? ⟨p, 6, none⟩ = some (.int .i64 ((M.fail.getD 0 : Nat) : Int)) := D.out.cell 6
      have c7 : wr.cell? ⟨p, 7, none⟩ = some (.bool M.down) := D.out.cell 7
      have f1 := D.out.frozen 1
      have f3 := D.out.frozen 3
      have f4 := D.out.frozen 4
      have f5 := D.out.frozen 5
      have f6 := D.out.frozen 6
      have f7 := D.out.frozen 7
      clear HH
      go_wp2_with fail
      go_end0
      clear c1 c3 c4 c5 c6 c7 f1 f3 f4 f5 f6 f7
      refine ⟨rfl, ?_, ?_⟩
      · refine D.out.cleared.reblk M.calls none none false ?_ (fun b hb hl => ?_) (Nat.le_refl _) D.out.few (by simp) (by simp)
        · have hb := D.out.blk
          simp [World.setCell, Array.getElem?_modify, hb]
        · rw [Below.heap_setCell _ _ _ _ hb, Below.heap_setCell _ _ _ _ hb, Below.heap_setCell _ _ _ _ hb, Below.heap_setCell _ _ _ _ hb, Below.heap_setCell _ _ _ _ hb]
      · exact ((((((S.out.setCell (a := ⟨p, 1, none⟩) Ds.fp _).setCell (a := ⟨p, 7, none⟩) Ds.fp _).setCell (a := ⟨p, 3, none⟩) Ds.fp _).setCell (a := ⟨p, 4, none⟩) Ds.fp _).setCell (a := ⟨p, 5, none⟩) Ds.fp _).setCell (a := ⟨p, 6, none⟩) Ds.fp _).foots (fun b hb => .inl (ft_nil hb))
    | g + 1 =>
      obtain ⟨x, hx⟩ : ∃ x, M.pend[q]? = some x := ⟨_, List.getElem?_eq_getElem (by omega)⟩
      obtain ⟨b, cp, hv, hcp, hrg⟩ := HH.out.1.form hx
      rw [HP.out] at hv
      injection hv with hA _ hcc
      subst hA hcc
      have HX := Lib.hid hx
      have hqlt : q < M.pend.length := by omega
      have T := thereOW wr (0, zer)
      have R := World.rangeAt_setCells_same (wr.alloc (OW (0, zer))) wr.heap.size 0 (wc x) (by rw [wc_length]; exact T)
      have HB := Lib.hid (below_setCells wr.heap.size (wc x) 0 ((Below.refl _ wr).alloc (Nat.le_refl _) (OW (0, zer))) (Nat.le_refl _))
      have HD := Lib.hid (show Ds ((wr.alloc (OW (0, zer))).setCells wr.heap.size 0 (wc x)) p k pv { M with kept := kpa (amt mask torn bytes) M.pend M.kept q } from
        HH.out.1.below HB.out)
      have HS := Lib.hid (show Step w ((wr.alloc (OW (0, zer))).setCells wr.heap.size 0 (wc x)) (ft p k pv) (ft p k pv) from HH.out.2.trans (Step.of_below HB.out _))
      have HK := Lib.hid fun m (hm : amt mask torn bytes q = m) => show m ≤ 64 by rw [← hm]; exact amt_le _ _ _ _
      clear hx HH
      by_cases ht : (q : Int) = torn
      · subst ht
        obtain ⟨m, hmm⟩ : ∃ m : Nat, min (max bytes 0) 64 = (m : Int) := ⟨(min (max bytes 0) 64).toNat, by omega⟩
        have hml : m ≤ 64 := by omega
        have EA : Hid (amt mask q bytes q = m) := by show amt mask q bytes q = m; unfold amt; rw [if_pos rfl, hmm]; rfl
        go_wp2_with (first
          | (with_reducible show wpList _ _ _ _ _ wr; first | (refine at_load61 _ rfl rfl _ _ _ rfl hrg ?_) | (refine at_alloc61 rfl rfl ?_))
          | (with_reducible show wpList _ _ _ _ _ (wr.alloc (OW (0, zer))); refine at_store61 (.tmp 9) (.tmp 19) rfl rfl wr.heap.size 0 x (by simp [Act.eval, Act.put]) (by simp [Act.eval, Act.put]) T ?_)
          | (with_reducible show wpList _ _ _ _ _ (World.setCells _ _ _ _); refine at_load61 (.tmp 9) rfl rfl wr.heap.size 0 x (by simp [Act.eval, Act.put]) R ?_))
        refine (KP.out { M with kept := kpa (amt mask q bytes) M.pend M.kept q } x m (HA.out x (List.mem_of_getElem? HX.out)) hml _ HD.out).mono ?_
        rintro e w4 ⟨rfl, h4, s4⟩
        have H4 := Lib.hid h4
        have S4 := Lib.hid (HS.out.trans s4)
        clear h4 s4
        go_wp2_with fail
        go_roundg g
        case measure => omega
        case rel => exact ⟨q + 1, by omega, by go_num, by rw [kpa_succ HX.out, EA.out]; exact H4.out, S4.out⟩
      · have hb := bit_of mask (q % 64) hm
        by_cases hq1 : mask / 2 ^ (q % 64) % 2 = 1
        · rw [hq1] at hb
          have EA : Hid (amt mask torn bytes q = 64) := by show amt mask torn bytes q = 64; unfold amt; rw [if_neg ht, if_pos hq1]
          clear hq1
          go_wp2_with (first
            | (with_reducible show wpList _ _ _ _ _ wr; first | (refine at_load61 _ rfl rfl _ _ _ rfl hrg ?_) | (refine at_alloc61 rfl rfl ?_))
            | (with_reducible show wpList _ _ _ _ _ (wr.alloc (OW (0, zer))); refine at_store61 (.tmp 9) (.tmp 19) rfl rfl wr.heap.size 0 x (by simp [Act.eval, Act.put]) (by simp [Act.eval, Act.put]) T ?_)
            | (with_reducible show wpList _ _ _ _ _ (World.setCells _ _ _ _); refine at_load61 (.tmp 9) rfl rfl wr.heap.size 0 x (by simp [Act.eval, Act.put]) R ?_))
          refine (KP.out { M with kept := kpa (amt mask torn bytes) M.pend M.kept q } x 64 (HA.out x (List.mem_of_getElem? HX.out)) (Nat.le_refl _) _ HD.out).mono ?_
          rintro e w4 ⟨rfl, h4, s4⟩
          have H4 := Lib.hid h4
          have S4 := Lib.hid (HS.out.trans s4)
          clear h4 s4
          go_wp2_with fail
          go_roundg g
          case measure => omega
          case rel => exact ⟨q + 1, by omega, by go_num, by rw [kpa_succ HX.out, EA.out]; exact H4.out, S4.out⟩
        · rw [show mask / 2 ^ (q % 64) % 2 = 0 by omega] at hb
          have EA : Hid (amt mask torn bytes q = 0) := by show amt mask torn bytes q = 0; unfold amt; rw [if_neg ht, if_neg hq1]
          clear hq1
          go_wp2_with (first
            | (with_reducible show wpList _ _ _ _ _ wr; first | (refine at_load61 _ rfl rfl _ _ _ rfl hrg ?_) | (refine at_alloc61 rfl rfl ?_))
            | (with_reducible show wpList _ _ _ _ _ (wr.alloc (OW (0, zer))); refine at_store61 (.tmp 9) (.tmp 19) rfl rfl wr.heap.size 0 x (by simp [Act.eval, Act.put]) (by simp [Act.eval, Act.put]) T ?_)
            | (with_reducible show wpList _ _ _ _ _ (World.setCells _ _ _ _); refine at_load61 (.tmp 9) rfl rfl wr.heap.size 0 x (by simp [Act.eval, Act.put]) R ?_))
          go_roundg g
          case measure => omega
          case rel => exact ⟨q + 1, by omega, by go_num, by rw [kpa_succ HX.out, EA.out, ov_zero]; exact HD.out, HS.out⟩
end Go.Proofs.Ytjkfgdeiciligaa
