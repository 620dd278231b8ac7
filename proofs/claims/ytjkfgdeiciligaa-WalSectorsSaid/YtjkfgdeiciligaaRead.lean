/-
  The contract of Read: a sector, as it was written last. Conditions: a disk is there.
-/
import Derived.Test.YtjkfgdeiciligaaKeep
namespace Go.Proofs.Ytjkfgdeiciligaa
open Go.RowKit

/-- A sector's bytes, as the last of the writes has them. -/
def lat (l : List (Nat × (Nat → Nat))) (a : Nat) (s : Nat → Nat) : Nat → Nat := l.foldl (fun s x => if x.1 = a then x.2 else s) s
theorem lat_snoc (l : List (Nat × (Nat → Nat))) (x : Nat × (Nat → Nat)) (a : Nat) (s : Nat → Nat) : lat (l ++ [x]) a s = if x.1 = a then x.2 else lat l a s := by simp [lat]
theorem take_succ_get {α : Type} {l : List α} {k : Nat} {x : α} (h : l[k]? = some x) : l.take (k + 1) = l.take k ++ [x] := by
  rw [List.take_add_one, h]; rfl

theorem build38 (w : World) : (Instr.build 52 #[]).run Try.prog w = .ok (sv zer) w := by
  have e : sv zer = .agg (Array.replicate 64 (.int .u8 0)) := by unfold sv sc zer; congr 1
  rw [e]
  simp [go_sem, Instr.build, Instr.fill]
  rfl
section
variable {ops : Array Oper} {rest : List Oper} {op : Oper} {a : Act} {w : World} {Q : Exit → Act → World → Prop}
theorem at_build38 (hgd : op.guard = none) (ho : op.op = .build 52 #[]) (h : wpList Try.prog ops Q rest (a.put op.dst (sv zer)) w) : wpList Try.prog ops Q (op :: rest) a w :=
  wpList_plain hgd fun _ hK => by
    unfold Oper.wp execOp
    simp only [ho, Sem.run_bind, Sem.run_pure, Result.andThen_ok, Array.map_empty, build38]
    exact hK _ _ h
end

set_option maxRecDepth 100000 in
theorem read_no (p k : Nat) (pv : Value) (M : Dk) (n : Int) (w : World) (h : Ds w p k pv M) (hr : rfs M n ≠ 0) :
    Calls Try.prog 24 #[.pointer (some ⟨p, 0, none⟩), .int .i64 n] w fun e w' => e = .returned (.tuple #[sv zer, .int .i64 (rfs M n)]) ∧ Below w.heap.size w w' := by
  have C := Lib.hid fun w h => refusal_any p k pv M n w h
  have H := Lib.hid h
  clear h
  generalize rfs M n = r at *
  have HQ := Lib.hid hr
  clear hr
  go_enter Try.func24, Try.ntmps24
  go_wp2_with (refine at_alloc38 rfl rfl ?_)
  have T := Lib.hid (rowIs_there (rowZ w) (o := 0) (m := 64) (by omega))
  have B := Lib.hid ((Below.refl w.heap.size w).alloc (Nat.le_refl _) Z64)
  refine (C.out _ (H.out.alloc _)).mono ?_
  rintro e w1 ⟨rfl, rfl⟩
  generalize w.alloc Z64 = w1 at *
  clear H C
  have hr := HQ.out
  go_wp2_with (first | (refine at_build38 rfl rfl ?_) | (refine at_store38 _ _ rfl rfl _ _ _ rfl rfl T.out ?_))
  refine bodyPost_ret (results_cell2 rfl _ _ _ _ rfl (loadVar38 (World.rangeAt_setCells_same w1 w.heap.size 0 (sc zer) (by rw [sc_length]; exact T.out)))) rfl ?_
  exact ⟨rfl, below_setCells w.heap.size (sc zer) 0 B.out (Nat.le_refl _)⟩

set_option maxRecDepth 100000 in
theorem read_ok (p k : Nat) (pv : Value) (M : Dk) (n : Nat) (w : World) (h : Ds w p k pv M) (hd : M.down = false) (hn : n < M.n) :
    Calls Try.prog 24 #[.pointer (some ⟨p, 0, none⟩), .int .i64 n] w fun e w' => e = .returned (.tuple #[sv (lat M.pend n (M.kept n)), .int .i64 0]) ∧ Below w.heap.size w w' := by
  have hrf : rfs M n = 0 := by unfold rfs; rw [hd]; simp; omega
  have C := Lib.hid fun w h => hrf ▸ refusal_any p k pv M n w h
  have H1 := Lib.hid (h.alloc Z64)
  obtain ⟨A, cap, hpv⟩ := h.shape
  have hlen := h.len
  have hfew := h.few
  have hnn := h.n
  clear h hrf hd
  have c0 : (w.alloc Z64).cell? ⟨p, 0, none⟩ = some (.slice (some ⟨k, 0, none⟩) M.n M.n) := H1.out.cell 0
  have c1 : (w.alloc Z64).cell? ⟨p, 1, none⟩ = some (.slice A M.pend.length cap) := by rw [← hpv]; exact H1.out.cell 1
  have HP := Lib.hid hpv
  clear hpv
  go_enter Try.func24, Try.ntmps24
  go_wp2_with (refine at_alloc38 rfl rfl ?_)
  have T := rowIs_there (rowZ w) (o := 0) (m := 64) (by omega)
  have BB := Lib.hid ((Below.refl w.heap.size w).alloc (Nat.le_refl _) Z64)
  refine (C.out _ H1.out).mono ?_
  rintro e w1 ⟨rfl, rfl⟩
  generalize w.alloc Z64 = w1 at *
  generalize hN : w.heap.size = N at *
  go_wp2_with fail
  go_loopg [7] M.pend.length (fun m i wr => i = .int .i64 ((m : Int) - 1) ∧ Hid (m ≤ M.pend.length ∧ lat M.pend n (M.kept n) = lat (M.pend.take m) n (M.kept n) ∧ wr = w1))
  case atStart => exact ⟨rfl, Nat.le_refl _, by rw [List.take_length], rfl⟩
  case round =>
    obtain ⟨rfl, HH⟩ := hrel
    obtain ⟨hm, hl, rfl⟩ := HH.out
    clear HH
    match gk with
    | 0 =>
      rw [List.take_zero] at hl
      have HR := Lib.hid (loadVar38 (World.rangeAt_setCells_same wr N 0 (sc (M.kept n)) (by rw [sc_length]; exact T)))
      have HB := Lib.hid (below_setCells N (sc (M.kept n)) 0 BB.out (Nat.le_refl _))
      have HL := Lib.hid hl
      have HK := H1.out.keptAt hn
      clear hl
      go_wp2_with (first | (refine at_load38 _ rfl rfl _ _ _ rfl HK ?_) | (refine at_store38 _ _ rfl rfl _ _ _ rfl rfl T ?_))
      refine bodyPost_ret (results_cell2 rfl _ _ _ _ rfl HR.out) rfl ?_
      exact ⟨by rw [HL.out]; rfl, by first | exact HB.out | (rw [hN]; exact HB.out)⟩
    | g + 1 =>
      obtain ⟨x, hx⟩ : ∃ x, M.pend[g]? = some x := ⟨_, List.getElem?_eq_getElem (by omega)⟩
      obtain ⟨b, cp, hv, hcp, hrg⟩ := H1.out.form hx
      rw [HP.out] at hv
      injection hv with hA _ hc
      subst hA hc
      have hg : g < M.pend.length := by omega
      have h0 := wc_head hrg
      have HT := wc_tail hrg
      rw [take_succ_get hx, lat_snoc] at hl
      clear hrg hx
      by_cases he : x.1 = n
      · rw [if_pos he] at hl
        rw [he] at h0
        have HL := Lib.hid hl
        have HR := Lib.hid (loadVar38 (World.rangeAt_setCells_same wr N 0 (sc x.2) (by rw [sc_length]; exact T)))
        have HB := Lib.hid (below_setCells N (sc x.2) 0 BB.out (Nat.le_refl _))
        clear hl he
        go_wp2_with (first | (refine at_load38 _ rfl rfl _ _ _ rfl HT ?_) | (refine at_store38 _ _ rfl rfl _ _ _ rfl rfl T ?_))
        refine bodyPost_ret (results_cell2 rfl _ _ _ _ rfl HR.out) rfl ?_
        exact ⟨by rw [HL.out]; rfl, by first | exact HB.out | (rw [hN]; exact HB.out)⟩
      · rw [if_neg he] at hl
        have he' : ¬ (x.1 : Int) = (n : Int) := by omega
        have HL := Lib.hid hl
        clear hl he
        go_wp2_with fail
        go_roundg g
        case measure => omega
        case rel => exact ⟨by simp, by omega, HL.out, rfl⟩
end Go.Proofs.Ytjkfgdeiciligaa
