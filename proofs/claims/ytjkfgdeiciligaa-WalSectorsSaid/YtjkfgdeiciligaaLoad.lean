/-
  The contract of load: what it returns, and what becomes of the log. Conditions: a disk and a log are there, the disk is up and nothing waits, its sectors have bytes.
-/
import Derived.Test.YtjkfgdeiciligaaPut
set_option linter.unusedSimpArgs false
namespace Go.Proofs.Ytjkfgdeiciligaa
open Go.RowKit

/-- One region is taken over, if its turn is greater. -/
def ld1 (L : Lk) (fr : Nat) (K : Nat → Nat → Nat) : Lk :=
  if L.turn < tin (K (fr + 0)) then { L with first := fr, turn := tin (K (fr + 0)), fin := (rcf (fun i => K (fr + i)) L.size L.size 1 0).2, recs := (rcf (fun i => K (fr + i)) L.size L.size 1 0).1 } else L
theorem ld1_size (L : Lk) (fr : Nat) (K : Nat → Nat → Nat) : (ld1 L fr K).size = L.size := by unfold ld1; split <;> rfl

/-- The log has other records. -/
theorem Ls.setRecs {w : World} {p q : Nat} {rv rv' : Value} {L : Lk} {F : Nat → Prop} {rs : List (List Nat)} (h : Ls w p q rv L F) (hr : Recs w (fs F q rv') rv' rs) (hn : ∀ g, rv'.ownBlock = some g → ¬ F g ∧ g ≠ q) :
    Ls (w.setCell ⟨q, 5, none⟩ rv') p q rv' { L with recs := rs } F := by
  have hs : Step w (w.setCell ⟨q, 5, none⟩ rv') (fun b => b = q) (fun b => b = q) := (Step.refl w (fun b => b = q)).setCell (a := ⟨q, 5, none⟩) rfl _
  refine ⟨?_, hr.step hs (fun b hb => .inr (.inl hb)) (fun b hb => .inl hb) (fun g hg e => (hn g hg).2 e), h.nq, hn⟩
  have hb' := h.blk
  simp only [World.setCell, Array.getElem?_modify, if_true, hb', Option.map_some]
  rfl

theorem set2' {w : World} {p q : Nat} {rv : Value} {L : Lk} {F : Nat → Prop} (h : Ls w p q rv L F) (n : Nat) (v : Value) (hv : v = .int .i64 (n : Int)) : Ls (w.setCell ⟨q, 2, none⟩ v) p q rv { L with first := n } F := by
  subst hv
  exact set2 h n
theorem Rg.setq {w : World} {g n q : Nat} {R : Nat → Nat → Nat} {cs : Array Value} (h : Rg w g n R) (hq : w.heap[q]? = some (.cells cs 65 (0, 0))) (i : Nat) (v : Value) : Rg (w.setCell ⟨q, i, none⟩ v) g n R :=
  World.rowIs.setOther (w := w) h (a := ⟨q, i, none⟩) (by
    intro e
    obtain ⟨cs', h2, _⟩ := h
    have e : g = q := e
    rw [e, hq] at h2
    injection h2 with h2
    injection h2 with h3 h4
    cases h4) v
theorem run_idx2 (a b : Int) (W : World) : (Instr.index 78 (.agg #[.int .i64 a, .int .i64 b]) (.int .i64 0)).run Try.prog W = .ok (.int .i64 a) W ∧ (Instr.index 78 (.agg #[.int .i64 a, .int .i64 b]) (.int .i64 1)).run Try.prog W = .ok (.int .i64 b) W := by
  constructor <;> simp [Instr.index, run_underlying Try.underlying78, asIntOf, go_sem]

/-- What load has of the world so far. -/
structure Ld (N : Nat) (w : World) (p k : Nat) (pv : Value) (M : Dk) (q : Nat) (L : Lk) (wr : World) : Prop where
  d : Ds wr p k pv M
  l : ∃ rv, Ls wr p q rv L (ft p k pv) ∧ ∀ g, rv.ownBlock = some g → N ≤ g
  s : Step w wr (fun b => b = q) (fun b => b = q)
theorem Ld.below {N : Nat} {w : World} {p k : Nat} {pv : Value} {M : Dk} {q : Nat} {L : Lk} {wr w' : World} (h : Ld N w p k pv M q L wr) (hb : Below wr.heap.size wr w') : Ld N w p k pv M q L w' := by
  obtain ⟨rv, hl, hn⟩ := h.l
  exact ⟨h.d.below hb, ⟨rv, hl.below hb, hn⟩, h.s.trans (Step.of_below hb _)⟩

set_option maxHeartbeats 4000000 in
set_option maxRecDepth 100000 in
theorem load_any (N p k : Nat) (pv : Value) (M : Dk) (q : Nat) (rv : Value) (L : Lk) (w : World) (h : Ds w p k pv M) (hq : Ls w p q rv L (ft p k pv)) (hd : M.down = false) (hp : M.pend = []) (hs1 : 1 ≤ L.size) (hs2 : L.size + L.size ≤ M.n) (hK : ∀ i j, M.kept i j < 256) (hN : N ≤ w.heap.size) (hN0 : ∀ g, rv.ownBlock = some g → N ≤ g) :
    Calls Try.prog 31 #[.pointer (some ⟨q, 0, none⟩)] w fun e w' => e = .returned (.int .i64 0) ∧ Ld N w p k pv M q (ld1 (ld1 L 0 M.kept) L.size M.kept) w' := by
  have hM := h.n
  have CR := Lib.hid fun fr W (hn : fr + L.size ≤ M.n) (h : Ds W p k pv M) => readRegion_any p k pv M fr L.size W h hd hp hn
  have CT := Lib.hid fun g fr W (h : Rg W g L.size (fun i => M.kept (fr + i))) => turnIn_any g L.size _ W h hs1 (fun i j => hK _ _)
  have CC := Lib.hid fun g fr W (h : Rg W g L.size (fun i => M.kept (fr + i))) => recordsIn_any g L.size _ W h hs1 (by omega) (fun i j => hK _ _)
  have H : Hid (Ld N w p k pv M q L w) := ⟨h, ⟨rv, hq, hN0⟩, Step.refl _ _⟩
  have c1 : w.cell? ⟨q, 1, none⟩ = some (.int .i64 (L.size : Int)) := hq.cell 1
  clear h hq hd hp hK hN0
  go_enter Try.func31, Try.ntmps31
  go_wp2_with fail
  clear c1
  go_loopg [13] 2 (fun m i wr => (m = 2 ∧ i = .int .i64 0 ∧ Hid (Ld N w p k pv M q L wr)) ∨ (m = 1 ∧ i = .int .i64 1 ∧ Hid (Ld N w p k pv M q (ld1 L 0 M.kept) wr)) ∨ (m = 0 ∧ i = .int .i64 2 ∧ Hid (Ld N w p k pv M q (ld1 (ld1 L 0 M.kept) L.size M.kept) wr)))
  case atStart => exact .inl ⟨rfl, rfl, H.out⟩
  case round =>
    clear H
    rcases hrel with ⟨rfl, rfl, HH⟩ | ⟨rfl, rfl, HH⟩ | ⟨rfl, rfl, HH⟩
    · obtain ⟨rvr, hl, _⟩ := HH.out.l
      have HSZ : Hid ((L).size = L.size) := rfl
      have c0 : wr.cell? ⟨q, 0, none⟩ = some (.pointer (some ⟨p, 0, none⟩)) := hl.cell 0
      have c1 : wr.cell? ⟨q, 1, none⟩ = some (.int .i64 (L.size : Int)) := by rw [← HSZ.out]; exact hl.cell 1
      have EI := fun W => (run_idx2 0 (L.size : Int) W).1
      clear hl
      go_upto_region 4 with fail
      clear EI
      have H1 := Lib.hid (HH.out.below (Below.refl _ wr).drew)
      go_region_law ((
        go_simp
        go_at_call 41
        refine (CR.out 0 _ (by omega) H1.out.d).mono ?_
        rintro e w2 ⟨g, rfl, hg, hb, _⟩
        have H2 := Lib.hid (H1.out.below hb)
        have G2 := Lib.hid hg
        clear hg hb))
      all_goals clear H1 HH c0 c1
      all_goals (
        go_wp2_with fail
        refine (CT.out g 0 _ G2.out).mono ?_
        rintro e w3 ⟨rfl, hb⟩
        have H3 := Lib.hid (H2.out.below hb)
        have G3 := Lib.hid (G2.out.below hb)
        clear H2 G2 hb
        obtain ⟨rv3, hl3, _⟩ := H3.out.l
        have c3 : w3.cell? ⟨q, 3, none⟩ = some (.int .i64 ((L).turn : Int)) := hl3.cell 3
        by_cases ht : (L).turn < tin (M.kept (0 + 0))
        · have E1 : Hid (ld1 (L) 0 M.kept = { (L) with first := 0, turn := tin (M.kept (0 + 0)), fin := (rcf (fun i => M.kept (0 + i)) (L).size (L).size 1 0).2, recs := (rcf (fun i => M.kept (0 + i)) (L).size (L).size 1 0).1 }) := by
            show _ = _
            rw [ld1, if_pos ht]
          have L3 := Lib.hid hl3
          have f2 := hl3.frozen 2
          have c2 : w3.cell? ⟨q, 2, none⟩ = some (.int .i64 ((L).first : Int)) := hl3.cell 2
          have L4 := Lib.hid (set2' L3.out 0 (.int .i64 0) rfl)
          have D4 := Lib.hid (H3.out.d.setOther (a := ⟨q, 2, none⟩) L3.out.nq (.int .i64 0))
          have S4 := Lib.hid (H3.out.s.setCell (a := ⟨q, 2, none⟩) rfl (.int .i64 0))
          have L5 := Lib.hid (set3 L4.out (tin (M.kept (0 + 0))))
          have D5 := Lib.hid (D4.out.setOther (a := ⟨q, 3, none⟩) L4.out.nq (.int .i64 (tin (M.kept (0 + 0)) : Nat)))
          have S5 := Lib.hid (S4.out.setCell (a := ⟨q, 3, none⟩) rfl (.int .i64 (tin (M.kept (0 + 0)) : Nat)))
          have G5 := Lib.hid ((G3.out.setq L3.out.blk 2 (.int .i64 0)).setq L4.out.blk 3 (.int .i64 (tin (M.kept (0 + 0)) : Nat)))
          have f3 := L3.out.frozen 3
          clear hl3 L4 D4 S4
          go_upto_region 10 with fail
          clear c3 c2 f2 f3
          generalize hw5 : (w3.setCell ⟨q, 2, none⟩ (.int .i64 0)).setCell ⟨q, 3, none⟩ _ = w5 at *
          clear hw5
          go_wp2_with fail
          refine (CC.out g 0 _ G5.out).mono ?_
          rintro e w6 ⟨rv6, rfl, hr6, hb6, hn6⟩
          try rw [HSZ.out] at E1
          generalize rcf (fun i => M.kept (0 + i)) L.size L.size 1 0 = rc at *
          obtain ⟨A6, c6, hsh⟩ := hr6.shape
          have L6 := Lib.hid (L5.out.below hb6)
          have D6 := Lib.hid (D5.out.below hb6)
          have S6 := Lib.hid (S5.out.trans (Step.of_below hb6 _))
          have N6 : Hid (∀ b, rv6.ownBlock = some b → ¬ ft p k pv b ∧ b ≠ q) := fun b hb => ⟨fun hf => by have := D5.out.lt b hf; have := hn6 b hb; omega, fun e => by have := L5.out.qlt; have := hn6 b hb; omega⟩
          have NN : Hid (∀ b, rv6.ownBlock = some b → N ≤ b) := fun b hb => by
            have h1 := hn6 b hb
            have h2 := S5.out.size
            omega
          have L7 := Lib.hid (L6.out.setRecs (hr6.mono (F' := fs (ft p k pv) q rv6) (by
            rintro b (hb | hb | hb) _
            · exact .inl (D5.out.lt b hb)
            · exact .inl (by have := L5.out.qlt; omega)
            · exact .inr hb)) N6.out)
          have D7 := Lib.hid (D6.out.setOther (a := ⟨q, 5, none⟩) L6.out.nq rv6)
          have S7 := Lib.hid (S6.out.setCell (a := ⟨q, 5, none⟩) rfl rv6)
          have L8 := Lib.hid (set4 L7.out rc.2)
          have D8 := Lib.hid (D7.out.setOther (a := ⟨q, 4, none⟩) L7.out.nq (.int .i64 (rc.2 : Nat)))
          have S8 := Lib.hid (S7.out.setCell (a := ⟨q, 4, none⟩) rfl (.int .i64 (rc.2 : Nat)))
          have c5 := L6.out.cell 5
          have f5 := L6.out.frozen 5
          have c4 : w6.cell? ⟨q, 4, none⟩ = some (.int .i64 ((L).fin : Int)) := L6.out.cell 4
          have f4 := L6.out.frozen 4
          clear hr6 hb6 hn6 L5 D5 S5 L6 D6 S6 L7 D7 S7 N6
          subst hsh
          go_wp2_with fail
          clear c5 f5 c4 f4
          go_roundg 1
          case measure => omega
          case rel => exact .inr (.inl ⟨rfl, rfl, by (first | rw [E1.out, HSZ.out] | rw [E1.out]); exact ⟨D8.out, ⟨_, (by have h8 := L8.out; (try rw [HSZ.out] at h8); exact h8), NN.out⟩, S8.out⟩⟩)
        · have E1 : Hid (ld1 (L) 0 M.kept = L) := by
            show _ = _
            rw [ld1, if_neg ht]
          have ht' : ¬ (((L).turn : Int) < (tin (M.kept (0 + 0)) : Nat)) := by omega
          clear hl3
          go_wp2_with fail
          go_roundg 1
          case measure => omega
          case rel => exact .inr (.inl ⟨rfl, rfl, by rw [E1.out]; exact H3.out⟩))
    · obtain ⟨rvr, hl, _⟩ := HH.out.l
      have HSZ : Hid ((ld1 L 0 M.kept).size = L.size) := ld1_size _ _ _
      have c0 : wr.cell? ⟨q, 0, none⟩ = some (.pointer (some ⟨p, 0, none⟩)) := hl.cell 0
      have c1 : wr.cell? ⟨q, 1, none⟩ = some (.int .i64 (L.size : Int)) := by rw [← HSZ.out]; exact hl.cell 1
      have EI := fun W => (run_idx2 0 (L.size : Int) W).2
      clear hl
      go_upto_region 4 with fail
      clear EI
      have H1 := Lib.hid (HH.out.below (Below.refl _ wr).drew)
      go_region_law ((
        go_simp
        go_at_call 41
        refine (CR.out L.size _ (by omega) H1.out.d).mono ?_
        rintro e w2 ⟨g, rfl, hg, hb, _⟩
        have H2 := Lib.hid (H1.out.below hb)
        have G2 := Lib.hid hg
        clear hg hb))
      all_goals clear H1 HH c0 c1
      all_goals (
        go_wp2_with fail
        refine (CT.out g L.size _ G2.out).mono ?_
        rintro e w3 ⟨rfl, hb⟩
        have H3 := Lib.hid (H2.out.below hb)
        have G3 := Lib.hid (G2.out.below hb)
        clear H2 G2 hb
        obtain ⟨rv3, hl3, _⟩ := H3.out.l
        have c3 : w3.cell? ⟨q, 3, none⟩ = some (.int .i64 ((ld1 L 0 M.kept).turn : Int)) := hl3.cell 3
        by_cases ht : (ld1 L 0 M.kept).turn < tin (M.kept (L.size + 0))
        · have E1 : Hid (ld1 (ld1 L 0 M.kept) L.size M.kept = { (ld1 L 0 M.kept) with first := L.size, turn := tin (M.kept (L.size + 0)), fin := (rcf (fun i => M.kept (L.size + i)) (ld1 L 0 M.kept).size (ld1 L 0 M.kept).size 1 0).2, recs := (rcf (fun i => M.kept (L.size + i)) (ld1 L 0 M.kept).size (ld1 L 0 M.kept).size 1 0).1 }) := by
            show _ = _
            rw [ld1, if_pos ht]
          have L3 := Lib.hid hl3
          have f2 := hl3.frozen 2
          have c2 : w3.cell? ⟨q, 2, none⟩ = some (.int .i64 ((ld1 L 0 M.kept).first : Int)) := hl3.cell 2
          have L4 := Lib.hid (set2' L3.out L.size (.int .i64 (L.size : Int)) rfl)
          have D4 := Lib.hid (H3.out.d.setOther (a := ⟨q, 2, none⟩) L3.out.nq (.int .i64 (L.size : Int)))
          have S4 := Lib.hid (H3.out.s.setCell (a := ⟨q, 2, none⟩) rfl (.int .i64 (L.size : Int)))
          have L5 := Lib.hid (set3 L4.out (tin (M.kept (L.size + 0))))
          have D5 := Lib.hid (D4.out.setOther (a := ⟨q, 3, none⟩) L4.out.nq (.int .i64 (tin (M.kept (L.size + 0)) : Nat)))
          have S5 := Lib.hid (S4.out.setCell (a := ⟨q, 3, none⟩) rfl (.int .i64 (tin (M.kept (L.size + 0)) : Nat)))
          have G5 := Lib.hid ((G3.out.setq L3.out.blk 2 (.int .i64 (L.size : Int))).setq L4.out.blk 3 (.int .i64 (tin (M.kept (L.size + 0)) : Nat)))
          have f3 := L3.out.frozen 3
          clear hl3 L4 D4 S4
          go_upto_region 10 with fail
          clear c3 c2 f2 f3
          generalize hw5 : (w3.setCell ⟨q, 2, none⟩ (.int .i64 (L.size : Int))).setCell ⟨q, 3, none⟩ _ = w5 at *
          clear hw5
          go_wp2_with fail
          refine (CC.out g L.size _ G5.out).mono ?_
          rintro e w6 ⟨rv6, rfl, hr6, hb6, hn6⟩
          try rw [HSZ.out] at E1
          generalize rcf (fun i => M.kept (L.size + i)) L.size L.size 1 0 = rc at *
          obtain ⟨A6, c6, hsh⟩ := hr6.shape
          have L6 := Lib.hid (L5.out.below hb6)
          have D6 := Lib.hid (D5.out.below hb6)
          have S6 := Lib.hid (S5.out.trans (Step.of_below hb6 _))
          have N6 : Hid (∀ b, rv6.ownBlock = some b → ¬ ft p k pv b ∧ b ≠ q) := fun b hb => ⟨fun hf => by have := D5.out.lt b hf; have := hn6 b hb; omega, fun e => by have := L5.out.qlt; have := hn6 b hb; omega⟩
          have NN : Hid (∀ b, rv6.ownBlock = some b → N ≤ b) := fun b hb => by
            have h1 := hn6 b hb
            have h2 := S5.out.size
            omega
          have L7 := Lib.hid (L6.out.setRecs (hr6.mono (F' := fs (ft p k pv) q rv6) (by
            rintro b (hb | hb | hb) _
            · exact .inl (D5.out.lt b hb)
            · exact .inl (by have := L5.out.qlt; omega)
            · exact .inr hb)) N6.out)
          have D7 := Lib.hid (D6.out.setOther (a := ⟨q, 5, none⟩) L6.out.nq rv6)
          have S7 := Lib.hid (S6.out.setCell (a := ⟨q, 5, none⟩) rfl rv6)
          have L8 := Lib.hid (set4 L7.out rc.2)
          have D8 := Lib.hid (D7.out.setOther (a := ⟨q, 4, none⟩) L7.out.nq (.int .i64 (rc.2 : Nat)))
          have S8 := Lib.hid (S7.out.setCell (a := ⟨q, 4, none⟩) rfl (.int .i64 (rc.2 : Nat)))
          have c5 := L6.out.cell 5
          have f5 := L6.out.frozen 5
          have c4 : w6.cell? ⟨q, 4, none⟩ = some (.int .i64 ((ld1 L 0 M.kept).fin : Int)) := L6.out.cell 4
          have f4 := L6.out.frozen 4
          clear hr6 hb6 hn6 L5 D5 S5 L6 D6 S6 L7 D7 S7 N6
          subst hsh
          go_wp2_with fail
          clear c5 f5 c4 f4
          go_roundg 0
          case measure => omega
          case rel => exact .inr (.inr ⟨rfl, rfl, by (first | rw [E1.out, HSZ.out] | rw [E1.out]); exact ⟨D8.out, ⟨_, (by have h8 := L8.out; (try rw [HSZ.out] at h8); exact h8), NN.out⟩, S8.out⟩⟩)
        · have E1 : Hid (ld1 (ld1 L 0 M.kept) L.size M.kept = ld1 L 0 M.kept) := by
            show _ = _
            rw [ld1, if_neg ht]
          have ht' : ¬ (((ld1 L 0 M.kept).turn : Int) < (tin (M.kept (L.size + 0)) : Nat)) := by omega
          clear hl3
          go_wp2_with fail
          go_roundg 0
          case measure => omega
          case rel => exact .inr (.inr ⟨rfl, rfl, by rw [E1.out]; exact H3.out⟩))
    · go_wp2_with fail
      go_ret
      exact ⟨rfl, HH.out⟩
end Go.Proofs.Ytjkfgdeiciligaa
