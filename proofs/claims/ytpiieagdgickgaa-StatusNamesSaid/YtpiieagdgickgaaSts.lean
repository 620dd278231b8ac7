/-
  The contract of status.stationsOf. Conditions: the row lies in memory, and has up to 1000000 sightings.
-/
import Derived.Test.YtpiieagdgickgaaOth
set_option linter.unusedSimpArgs false
set_option linter.unusedVariables false
namespace Go.Proofs.Ytpiieagdgickgaa
open Go.RowKit

/-- The stations that sightings name. -/
def sts (ss : List Sg) : List Mc := (ss.map Sg.m).filter fun m => !noB m
theorem sts_take {ss : List Sg} {k : Nat} {s : Sg} (h : ss[k]? = some s) : sts (ss.take (k + 1)) = if noB s.m then sts (ss.take k) else sts (ss.take k) ++ [s.m] := by
  unfold sts
  rw [List.take_add_one, h, List.map_append, List.filter_append]
  cases hn : noB s.m <;> simp [hn]
theorem sts_le (ss : List Sg) : (sts ss).length ≤ ss.length := by
  unfold sts
  exact Nat.le_trans (List.length_filter_le ..) (by simp)

/-- A variable with a sighting. -/
structure Sb (W : World) (b : Nat) (s : Sg) : Prop where
  lt : b < W.heap.size
  c0 : W.cell? ⟨b, 0, none⟩ = some (.int .i64 s.f)
  c1 : W.cell? ⟨b, 1, none⟩ = some (.int .u8 s.m.b0)
  c2 : W.cell? ⟨b, 2, none⟩ = some (.int .u8 s.m.b1)
  c3 : W.cell? ⟨b, 3, none⟩ = some (.int .u8 s.m.b2)
  c4 : W.cell? ⟨b, 4, none⟩ = some (.int .u8 s.m.b3)
  c5 : W.cell? ⟨b, 5, none⟩ = some (.int .u8 s.m.b4)
  c6 : W.cell? ⟨b, 6, none⟩ = some (.int .u8 s.m.b5)
  c7 : W.cell? ⟨b, 7, none⟩ = some (.int .i64 s.t)
theorem sb_box (w : World) (s : Sg) : Sb (w.alloc (Sx s)) w.heap.size s := ⟨by simp, by simp [Sx], by simp [Sx], by simp [Sx], by simp [Sx], by simp [Sx], by simp [Sx], by simp [Sx], by simp [Sx]⟩
theorem Sb.keep {W W' : World} {b B : Nat} {s : Sg} (h : Sb W b s) (hb : Below B W W') (hB : b < B) (hs : W.heap.size ≤ W'.heap.size) : Sb W' b s :=
  ⟨Nat.lt_of_lt_of_le h.lt hs, by rw [hb.cell (p := ⟨b, 0, none⟩) hB]; exact h.c0, by rw [hb.cell (p := ⟨b, 1, none⟩) hB]; exact h.c1, by rw [hb.cell (p := ⟨b, 2, none⟩) hB]; exact h.c2, by rw [hb.cell (p := ⟨b, 3, none⟩) hB]; exact h.c3,
    by rw [hb.cell (p := ⟨b, 4, none⟩) hB]; exact h.c4, by rw [hb.cell (p := ⟨b, 5, none⟩) hB]; exact h.c5, by rw [hb.cell (p := ⟨b, 6, none⟩) hB]; exact h.c6, by rw [hb.cell (p := ⟨b, 7, none⟩) hB]; exact h.c7⟩
theorem Sb.below {W W' : World} {b : Nat} {s : Sg} (h : Sb W b s) (hb : Below W.heap.size W W') : Sb W' b s := h.keep hb h.lt hb.size

set_option maxRecDepth 100000 in
set_option maxHeartbeats 4000000 in
theorem stationsOf_any (A : Option Addr) (xs : List Sg) (cap : Nat) (w : World) (h : Rw eS w A xs) (hc : xs.length ≤ cap) (hx : xs.length ≤ 1000000) :
    Calls Try.prog 18 #[.slice A xs.length cap] w (OwnPost eM 35 w (sts xs)) := by
  have R := Lib.hid h
  have HT := Lib.hid (fun (k : Nat) (s : Sg) (h : xs[k]? = some s) => sts_take h)
  have HLe := Lib.hid (fun k => sts_le (xs.take k))
  obtain ⟨L, hL⟩ : ∃ L, xs.length = L := ⟨_, rfl⟩
  have HL := Lib.hid hL
  rw [hL] at hc hx ⊢
  have HZ := Lib.hid (show sts (xs.take L) = sts xs by rw [← hL, List.take_length])
  clear hL h
  go_enter Try.func18, Try.ntmps18
  go_wp2_with fail
  go_loopw [3, 8] (fun v i wr => ∃ k : Nat, i = .int .i64 k ∧ k ≤ L ∧ Hid (wr.ownsRow w.heap.size 35 6 v (sts (xs.take k)).length (eM.cs (sts (xs.take k))) ∧ Below w.heap.size w wr)) (fun _ i _ => L - (intOf i).toNat)
  case atStart => exact ⟨0, rfl, by omega, Lib.hid ⟨World.ownsRow_nil _ _ _ _, Below.refl _ _⟩⟩
  case round =>
    obtain ⟨k, rfl, hk, HH⟩ := hrel
    by_cases hlt : k < L
    · obtain ⟨s, hs⟩ : ∃ s, xs[k]? = some s := ⟨_, List.getElem?_eq_getElem (by rw [HL.out]; exact hlt)⟩
      have RR := R.out.below HH.out.2
      obtain ⟨y, rfl⟩ := rw_some RR (by rw [HL.out]; omega)
      have hat := RR.at hs
      have HXT := Lib.hid (HT.out k _ hs)
      have hle := HLe.out k
      rw [List.length_take, HL.out] at hle
      have HLE := Lib.hid (show (sts (xs.take k)).length + 1 ≤ 1000000000000 by omega)
      have HN := Lib.hid fun W => none_any s.m W
      have HBX := Lib.hid (sb_box wr s)
      have HA1 : Below wr.heap.size wr (wr.alloc (Sx s)) := (Below.refl _ wr).alloc (Nat.le_refl _) _
      have HB1 := Lib.hid (bthen HH.out.2 HA1 HH.out.2.size)
      have HO1 := Lib.hid (own_keep HH.out.1 HA1)
      obtain ⟨e, he⟩ : ∃ e, noB s.m = e := ⟨_, rfl⟩
      have HE := Lib.hid he
      rw [he] at HN HXT
      obtain ⟨f, m, t⟩ := s
      have HM := Lib.hid (show (⟨f, m, t⟩ : Sg).m = m from rfl)
      have HRM := Lib.hid fun W => rm_one W m 35
      obtain ⟨a0, a1, a2, a3, a4, a5⟩ := m
      simp only [mv, Sx, ml] at HN HBX HB1 HO1 HRM
      clear hs he RR hle HA1
      go_wp2_with (refine at_load48 _ rfl rfl _ _ rfl hat ?_)
      generalize wr.alloc (.cells #[.int .i64 f, .int .u8 a0, .int .u8 a1, .int .u8 a2, .int .u8 a3, .int .u8 a4, .int .u8 a5, .int .i64 t] 48) = W1 at *
      generalize wr.heap.size = N1 at *
      refine (HN.out _).mono ?_
      rintro e2 w2 ⟨rfl, hb⟩
      have HB2 := Lib.hid (bthen HB1.out hb HB1.out.size)
      have HO2 := Lib.hid (own_keep HO1.out hb)
      have HX2 := Lib.hid (HBX.out.below hb)
      have d1 := HX2.out.c1
      have d2 := HX2.out.c2
      have d3 := HX2.out.c3
      have d4 := HX2.out.c4
      have d5 := HX2.out.c5
      have d6 := HX2.out.c6
      dsimp only at d1 d2 d3 d4 d5 d6
      clear hb HB1 HO1 HBX hat
      cases e
      · have HA3 : Below w2.heap.size w2 (w2.alloc (.cells #[.int .u8 a0, .int .u8 a1, .int .u8 a2, .int .u8 a3, .int .u8 a4, .int .u8 a5] 35)) := (Below.refl _ w2).alloc (Nat.le_refl _) _
        have HB3 := Lib.hid (bthen HB2.out HA3 HB2.out.size)
        have HO3 := Lib.hid (own_keep HO2.out HA3)
        clear HA3
        go_wp2_with (at_builtin; refine wpList_append_rw tM _ rfl (.tmp 16) (.tmp 19) rfl w.heap.size _ _ _ (by simp [Act.eval, Act.put]) HO3.out (some ⟨w2.heap.size, 0, none⟩) 1 1 [⟨a0, a1, a2, a3, a4, a5⟩] (by simp [Act.eval, Act.put]) rfl (HRM.out w2) HLE.out HB3.out.size ?_)
        intro v4 w4 ho4 hg4
        have O4 := Lib.hid ho4
        have B4 := Lib.hid (HB3.out.grown hg4 HB3.out.size (fun j hj => (HO3.out.lt j hj).1))
        clear ho4 hg4
        go_wp2_with fail
        go_roundw
        case rel => exact ⟨k + 1, by go_num, by omega, Lib.hid ⟨by rw [HXT.out, if_neg (by simp), List.length_append]; exact O4.out, B4.out⟩⟩
        case measure => simp [intOf]; omega
      · go_wp2_with fail
        go_roundw
        case rel => exact ⟨k + 1, by go_num, by omega, Lib.hid ⟨by rw [HXT.out, if_pos (by simp)]; exact HO2.out, HB2.out⟩⟩
        case measure => simp [intOf]; omega
    · obtain rfl : k = L := by omega
      go_wp2_with fail
      go_ret
      exact ⟨_, rfl, by rw [← HZ.out]; exact HH.out.1, HH.out.2⟩
end Go.Proofs.Ytpiieagdgickgaa
