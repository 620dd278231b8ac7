/-
  The contract of command.Parse: the event, or the error with its place and number, of any text. No condition but that the text is one that a process can hold.
-/
import Derived.Test.YtegbdagmnibfmaaDoorHol
set_option linter.unusedSimpArgs false
set_option linter.unusedVariables false
namespace Go.Proofs.YtegbdagmnibfmaaDoor
open Go.RowKit

/-- What a command means, by its words. -/
def psW (ws : List (List UInt8)) : Ev × Int × Int :=
  if knd ⟨(ws.headD []).toArray⟩ = 0 then (zev, 0, 1)
  else if (ws.length : Int) < loW (knd ⟨(ws.headD []).toArray⟩) then (zev, ws.length, 1)
  else if hiW (knd ⟨(ws.headD []).toArray⟩) < (ws.length : Int) then (zev, hiW (knd ⟨(ws.headD []).toArray⟩), 1)
  else match ws with
    | [a, x] => if ((knd ⟨a.toArray⟩ == 3) || (knd ⟨a.toArray⟩ == 4)) = true then blkO (knd ⟨a.toArray⟩) ⟨x.toArray⟩ else ho2 (knd ⟨a.toArray⟩) ⟨x.toArray⟩
    | [a, x, y] => ho3 (knd ⟨a.toArray⟩) ⟨x.toArray⟩ ⟨y.toArray⟩
    | [a, x, y, z] => ho4 (knd ⟨a.toArray⟩) ⟨x.toArray⟩ ⟨y.toArray⟩ ⟨z.toArray⟩
    | _ => (zev, 0, 1)
/-- What a command means. -/
def psO (s : ByteArray) : Ev × Int × Int := if s.size ≤ 200 then psW (wl s.data.toList) else (zev, -1, 3)

theorem Pe.store {w w' : World} {at_ n : Int} {v : Value} {c : Nat} {x : Ev} (h : Pe w at_ n v) (hx : Cx w c (evl x)) (hk : ∀ k, k ≠ c → w'.heap[k]? = w.heap[k]?) : Pe w' at_ n v := by
  have h0 := h
  rcases h with h | h | ⟨h1, h2, b, rfl, h4, h5⟩
  · exact .inl h
  · exact .inr (.inl h)
  · refine h0.other hk fun e => ?_
    subst e
    have := hx.key 1 _ rfl
    rw [h5] at this
    simp [eN] at this

set_option maxRecDepth 100000 in
set_option maxHeartbeats 2000000 in
theorem parse_long (s : ByteArray) (w : World) (hs : 200 < s.size) (hm : s.size ≤ maxLen) :
    Calls Tryd.prog 10 #[.string s] w (PPost w (zev, -1, 3)) := by
  have P0 := Lib.hid (ev_box w zev)
  have B0 := Lib.hid ((Below.refl w.heap.size w).alloc (Nat.le_refl _) (Evx zev))
  have h1 : (200 : Int) < s.size := by omega
  unfold maxLen at hm
  go_enter Tryd.func10, Tryd.ntmps10
  go_wp2_with (refine at_store41 _ _ w.heap.size zev zev P0.out rfl rfl rfl rfl ?_; intro wy PY BY GY)
  refine bodyPost_ret (results_cell2 rfl _ _ _ _ _ rfl rfl (loadv41 PY.out)) rfl ?_
  exact ⟨⟨_, rfl, .inr (.inl ⟨by decide, by decide, rfl⟩)⟩, B0.out.trans (BY.out _ (Nat.le_refl _))⟩

set_option maxRecDepth 100000 in
set_option maxHeartbeats 4000000 in
theorem parse_none (s : ByteArray) (n : Nat) (cs : Array Value) (X0 : ByteArray) (w : World) (hs : s.size ≤ 200) (hn0 : 0 < n)
    (hS : ∀ W, Calls Tryd.prog 20 #[.string s, .string ⟨#[32]⟩] W fun e w' => e = .returned (.slice (some ⟨W.heap.size, 0, none⟩) n n) ∧ w' = W.alloc (.cells cs 9)) (hc0 : cs[0]? = some (.string X0)) (hk : knd X0 = 0) :
    Calls Tryd.prog 10 #[.string s] w (PPost w (zev, 0, 1)) := by
  have HS := Lib.hid hS
  have P0 := Lib.hid (ev_box w zev)
  have B0 := Lib.hid ((Below.refl w.heap.size w).alloc (Nat.le_refl _) (Evx zev))
  have P1 := Lib.hid (P0.out.belowE ((Below.refl _ _).alloc (Nat.le_refl _) (.cells cs 9)))
  have B1 := Lib.hid (B0.out.alloc B0.out.size (.cells cs 9))
  have HN := Lib.hid fun W => named_any X0 W
  have HC := Lib.hid fun W => counts_any (knd X0) W
  have HB := Lib.hid fun W => ofBlock_any (knd X0) W
  have h1 : ¬ (200 : Int) < s.size := by omega
  have cW : ∀ j x, cs[j]? = some x → ((w.alloc (Evx zev)).alloc (.cells cs 9)).cell? ⟨(w.alloc (Evx zev)).heap.size, j, none⟩ = some x := fun j x h => by
    rw [cell_of_row _ _ _ _ _ _ (heap_alloc_new _ _)]; exact h
  have k0 := cW 0 _ hc0
  have HW := Lib.hid fun W => wrongP 0 1 W (by decide) (by decide)
  rw [hk] at HN
  clear cW
  unfold Evx zev at k0
  rw [show ((w.alloc (.cells #[.int .i64 0, .int .u32 0, .string ⟨#[]⟩, .int .u8 0, .int .u8 0, .int .u8 0, .int .u8 0, .int .u8 0, .int .u8 0, .int .u32 0, .int .i64 0, .int .i64 0, .int .u8 0, .int .u8 0, .int .u8 0, .int .u8 0, .int .u8 0, .int .u8 0, .int .i64 0] 41)).heap.size) = w.heap.size + 1 by simp] at k0
  clear hS hs
  go_enter Tryd.func10, Tryd.ntmps10
  go_wp2_with fail
  refine (HS.out _).mono ?_
  rintro e w1 ⟨rfl, rfl⟩
  go_wp2_with fail
  refine (HN.out _).mono ?_
  rintro e w1 ⟨rfl, rfl⟩
  go_wp2_with fail
  refine (HW.out _).mono ?_
  rintro e wz ⟨⟨bf, rfl, hl1, hl2, pe⟩, hb⟩
  have PZ := Lib.hid (P1.out.belowE hb)
  have BZ := Lib.hid (B1.out.trans (hb.mono B1.out.size))
  have PE := Lib.hid pe
  clear hb pe
  go_wp2_with (refine at_store41 _ _ w.heap.size zev zev PZ.out rfl rfl rfl rfl ?_; intro wy PY BY GY)
  refine bodyPost_ret (results_cell2 rfl _ _ _ _ _ rfl rfl (loadv41 PY.out)) rfl ?_
  exact ⟨⟨_, rfl, PE.out.store PZ.out GY.out⟩, BZ.out.trans (BY.out _ (Nat.le_refl _))⟩

set_option maxRecDepth 100000 in
set_option maxHeartbeats 4000000 in
theorem parse_few (s : ByteArray) (n : Nat) (cs : Array Value) (X0 : ByteArray) (w : World) (hs : s.size ≤ 200) (hn0 : 0 < n)
    (hS : ∀ W, Calls Tryd.prog 20 #[.string s, .string ⟨#[32]⟩] W fun e w' => e = .returned (.slice (some ⟨W.heap.size, 0, none⟩) n n) ∧ w' = W.alloc (.cells cs 9)) (hc0 : cs[0]? = some (.string X0)) (hk : knd X0 ≠ 0) (hl : (n : Int) < loW (knd X0)) :
    Calls Tryd.prog 10 #[.string s] w (PPost w (zev, n, 1)) := by
  have HS := Lib.hid hS
  have P0 := Lib.hid (ev_box w zev)
  have B0 := Lib.hid ((Below.refl w.heap.size w).alloc (Nat.le_refl _) (Evx zev))
  have P1 := Lib.hid (P0.out.belowE ((Below.refl _ _).alloc (Nat.le_refl _) (.cells cs 9)))
  have B1 := Lib.hid (B0.out.alloc B0.out.size (.cells cs 9))
  have HN := Lib.hid fun W => named_any X0 W
  have HC := Lib.hid fun W => counts_any (knd X0) W
  have HB := Lib.hid fun W => ofBlock_any (knd X0) W
  have h1 : ¬ (200 : Int) < s.size := by omega
  have cW : ∀ j x, cs[j]? = some x → ((w.alloc (Evx zev)).alloc (.cells cs 9)).cell? ⟨(w.alloc (Evx zev)).heap.size, j, none⟩ = some x := fun j x h => by
    rw [cell_of_row _ _ _ _ _ _ (heap_alloc_new _ _)]; exact h
  have k0 := cW 0 _ hc0
  have HW := Lib.hid fun W => wrongP n 1 W (by decide) (by omega)
  have HH := Lib.hid hl
  obtain ⟨k, hkk⟩ : ∃ k, knd X0 = k := ⟨_, rfl⟩
  rw [hkk] at HN HC HB hk hl HH
  have hk0 : (k == 0) = false := by simpa using hk
  rw [hk0] at HN
  generalize loW k = lo at *
  clear cW
  unfold Evx zev at k0
  rw [show ((w.alloc (.cells #[.int .i64 0, .int .u32 0, .string ⟨#[]⟩, .int .u8 0, .int .u8 0, .int .u8 0, .int .u8 0, .int .u8 0, .int .u8 0, .int .u32 0, .int .i64 0, .int .i64 0, .int .u8 0, .int .u8 0, .int .u8 0, .int .u8 0, .int .u8 0, .int .u8 0, .int .i64 0] 41)).heap.size) = w.heap.size + 1 by simp] at k0
  clear hS hs
  go_enter Tryd.func10, Tryd.ntmps10
  go_wp2_with fail
  refine (HS.out _).mono ?_
  rintro e w1 ⟨rfl, rfl⟩
  go_wp2_with fail
  refine (HN.out _).mono ?_
  rintro e w1 ⟨rfl, rfl⟩
  go_wp2_with fail
  refine (HC.out _).mono ?_
  rintro e w1 ⟨rfl, rfl⟩
  go_wp2_with fail
  refine (HW.out _).mono ?_
  rintro e wz ⟨⟨bf, rfl, hl1, hl2, pe⟩, hb⟩
  have PZ := Lib.hid (P1.out.belowE hb)
  have BZ := Lib.hid (B1.out.trans (hb.mono B1.out.size))
  have PE := Lib.hid pe
  clear hb pe
  go_wp2_with (refine at_store41 _ _ w.heap.size zev zev PZ.out rfl rfl rfl rfl ?_; intro wy PY BY GY)
  refine bodyPost_ret (results_cell2 rfl _ _ _ _ _ rfl rfl (loadv41 PY.out)) rfl ?_
  exact ⟨⟨_, rfl, PE.out.store PZ.out GY.out⟩, BZ.out.trans (BY.out _ (Nat.le_refl _))⟩

set_option maxRecDepth 100000 in
set_option maxHeartbeats 4000000 in
theorem parse_many (s : ByteArray) (n : Nat) (cs : Array Value) (X0 : ByteArray) (w : World) (hs : s.size ≤ 200) (hn0 : 0 < n)
    (hS : ∀ W, Calls Tryd.prog 20 #[.string s, .string ⟨#[32]⟩] W fun e w' => e = .returned (.slice (some ⟨W.heap.size, 0, none⟩) n n) ∧ w' = W.alloc (.cells cs 9)) (hc0 : cs[0]? = some (.string X0)) (hk : knd X0 ≠ 0) (hl : ¬ (n : Int) < loW (knd X0)) (hh : hiW (knd X0) < n) :
    Calls Tryd.prog 10 #[.string s] w (PPost w (zev, hiW (knd X0), 1)) := by
  have HS := Lib.hid hS
  have P0 := Lib.hid (ev_box w zev)
  have B0 := Lib.hid ((Below.refl w.heap.size w).alloc (Nat.le_refl _) (Evx zev))
  have P1 := Lib.hid (P0.out.belowE ((Below.refl _ _).alloc (Nat.le_refl _) (.cells cs 9)))
  have B1 := Lib.hid (B0.out.alloc B0.out.size (.cells cs 9))
  have HN := Lib.hid fun W => named_any X0 W
  have HC := Lib.hid fun W => counts_any (knd X0) W
  have HB := Lib.hid fun W => ofBlock_any (knd X0) W
  have h1 : ¬ (200 : Int) < s.size := by omega
  have cW : ∀ j x, cs[j]? = some x → ((w.alloc (Evx zev)).alloc (.cells cs 9)).cell? ⟨(w.alloc (Evx zev)).heap.size, j, none⟩ = some x := fun j x h => by
    rw [cell_of_row _ _ _ _ _ _ (heap_alloc_new _ _)]; exact h
  have k0 := cW 0 _ hc0
  have HW := Lib.hid fun W => wrongP (hiW (knd X0)) 1 W (by decide) (by unfold hiW; split <;> omega)
  obtain ⟨k, hkk⟩ : ∃ k, knd X0 = k := ⟨_, rfl⟩
  rw [hkk] at HN HC HB hk hl hh HW ⊢
  have hk0 : (k == 0) = false := by simpa using hk
  rw [hk0] at HN
  generalize loW k = lo at *
  generalize hiW k = hi at *
  clear cW
  unfold Evx zev at k0
  rw [show ((w.alloc (.cells #[.int .i64 0, .int .u32 0, .string ⟨#[]⟩, .int .u8 0, .int .u8 0, .int .u8 0, .int .u8 0, .int .u8 0, .int .u8 0, .int .u32 0, .int .i64 0, .int .i64 0, .int .u8 0, .int .u8 0, .int .u8 0, .int .u8 0, .int .u8 0, .int .u8 0, .int .i64 0] 41)).heap.size) = w.heap.size + 1 by simp] at k0
  clear hS hs
  go_enter Tryd.func10, Tryd.ntmps10
  go_wp2_with fail
  refine (HS.out _).mono ?_
  rintro e w1 ⟨rfl, rfl⟩
  go_wp2_with fail
  refine (HN.out _).mono ?_
  rintro e w1 ⟨rfl, rfl⟩
  go_wp2_with fail
  refine (HC.out _).mono ?_
  rintro e w1 ⟨rfl, rfl⟩
  go_wp2_with fail
  refine (HW.out _).mono ?_
  rintro e wz ⟨⟨bf, rfl, hl1, hl2, pe⟩, hb⟩
  have PZ := Lib.hid (P1.out.belowE hb)
  have BZ := Lib.hid (B1.out.trans (hb.mono B1.out.size))
  have PE := Lib.hid pe
  clear hb pe
  go_wp2_with (refine at_store41 _ _ w.heap.size zev zev PZ.out rfl rfl rfl rfl ?_; intro wy PY BY GY)
  refine bodyPost_ret (results_cell2 rfl _ _ _ _ _ rfl rfl (loadv41 PY.out)) rfl ?_
  exact ⟨⟨_, rfl, PE.out.store PZ.out GY.out⟩, BZ.out.trans (BY.out _ (Nat.le_refl _))⟩

set_option maxRecDepth 100000 in
set_option maxHeartbeats 4000000 in
theorem parse_block (s : ByteArray) (n : Nat) (cs : Array Value) (X0 : ByteArray) (w : World) (hs : s.size ≤ 200) (hn0 : 0 < n)
    (hS : ∀ W, Calls Tryd.prog 20 #[.string s, .string ⟨#[32]⟩] W fun e w' => e = .returned (.slice (some ⟨W.heap.size, 0, none⟩) n n) ∧ w' = W.alloc (.cells cs 9)) (hc0 : cs[0]? = some (.string X0)) (R : Ev × Int × Int) (hk : knd X0 ≠ 0) (hl : ¬ (n : Int) < loW (knd X0)) (hh : ¬ hiW (knd X0) < n) (hb : ((knd X0 == 3) || (knd X0 == 4)) = true)
    (hT : ∀ (W : World) (g : Nat), (∀ j x, cs[j]? = some x → W.cell? ⟨g, j, none⟩ = some x) → Calls Tryd.prog 25 #[.int .i64 (knd X0), .slice (some ⟨g, 0, none⟩) n n] W (PPost W R)) :
    Calls Tryd.prog 10 #[.string s] w (PPost w R) := by
  have HS := Lib.hid hS
  have P0 := Lib.hid (ev_box w zev)
  have B0 := Lib.hid ((Below.refl w.heap.size w).alloc (Nat.le_refl _) (Evx zev))
  have P1 := Lib.hid (P0.out.belowE ((Below.refl _ _).alloc (Nat.le_refl _) (.cells cs 9)))
  have B1 := Lib.hid (B0.out.alloc B0.out.size (.cells cs 9))
  have HN := Lib.hid fun W => named_any X0 W
  have HC := Lib.hid fun W => counts_any (knd X0) W
  have HB := Lib.hid fun W => ofBlock_any (knd X0) W
  have h1 : ¬ (200 : Int) < s.size := by omega
  have cW : ∀ j x, cs[j]? = some x → ((w.alloc (Evx zev)).alloc (.cells cs 9)).cell? ⟨(w.alloc (Evx zev)).heap.size, j, none⟩ = some x := fun j x h => by
    rw [cell_of_row _ _ _ _ _ _ (heap_alloc_new _ _)]; exact h
  have k0 := cW 0 _ hc0
  have HT := Lib.hid (hT _ _ cW)
  rw [hb] at HB
  obtain ⟨k, hkk⟩ : ∃ k, knd X0 = k := ⟨_, rfl⟩
  rw [hkk] at HN HC HB hk hl hh HT
  have hk0 : (k == 0) = false := by simpa using hk
  rw [hk0] at HN
  generalize loW k = lo at *
  generalize hiW k = hi at *
  rw [show (w.alloc (Evx zev)).heap.size = w.heap.size + 1 by simp] at HT
  clear cW hT hb
  unfold Evx zev at k0
  rw [show ((w.alloc (.cells #[.int .i64 0, .int .u32 0, .string ⟨#[]⟩, .int .u8 0, .int .u8 0, .int .u8 0, .int .u8 0, .int .u8 0, .int .u8 0, .int .u32 0, .int .i64 0, .int .i64 0, .int .u8 0, .int .u8 0, .int .u8 0, .int .u8 0, .int .u8 0, .int .u8 0, .int .i64 0] 41)).heap.size) = w.heap.size + 1 by simp] at k0
  clear hS hs
  go_enter Tryd.func10, Tryd.ntmps10
  go_wp2_with fail
  refine (HS.out _).mono ?_
  rintro e w1 ⟨rfl, rfl⟩
  go_wp2_with fail
  refine (HN.out _).mono ?_
  rintro e w1 ⟨rfl, rfl⟩
  go_wp2_with fail
  refine (HC.out _).mono ?_
  rintro e w1 ⟨rfl, rfl⟩
  go_wp2_with fail
  refine (HB.out _).mono ?_
  rintro e w1 ⟨rfl, rfl⟩
  go_wp2_with fail
  refine (HT.out).mono ?_
  rintro e wz ⟨⟨ev, rfl, pe⟩, hb⟩
  have PZ := Lib.hid (P1.out.belowE hb)
  have BZ := Lib.hid (B1.out.trans (hb.mono B1.out.size))
  have PE := Lib.hid pe
  clear hb pe
  go_wp2_with (refine at_store41 _ _ w.heap.size zev R.1 PZ.out rfl rfl rfl rfl ?_; intro wy PY BY GY)
  refine bodyPost_ret (results_cell2 rfl _ _ _ _ _ rfl rfl (loadv41 PY.out)) rfl ?_
  exact ⟨⟨_, rfl, PE.out.store PZ.out GY.out⟩, BZ.out.trans (BY.out _ (Nat.le_refl _))⟩

set_option maxRecDepth 100000 in
set_option maxHeartbeats 4000000 in
theorem parse_holder (s : ByteArray) (n : Nat) (cs : Array Value) (X0 : ByteArray) (w : World) (hs : s.size ≤ 200) (hn0 : 0 < n)
    (hS : ∀ W, Calls Tryd.prog 20 #[.string s, .string ⟨#[32]⟩] W fun e w' => e = .returned (.slice (some ⟨W.heap.size, 0, none⟩) n n) ∧ w' = W.alloc (.cells cs 9)) (hc0 : cs[0]? = some (.string X0)) (R : Ev × Int × Int) (hk : knd X0 ≠ 0) (hl : ¬ (n : Int) < loW (knd X0)) (hh : ¬ hiW (knd X0) < n) (hb : ((knd X0 == 3) || (knd X0 == 4)) = false)
    (hT : ∀ (W : World) (g : Nat), (∀ j x, cs[j]? = some x → W.cell? ⟨g, j, none⟩ = some x) → Calls Tryd.prog 26 #[.int .i64 (knd X0), .slice (some ⟨g, 0, none⟩) n n] W (PPost W R)) :
    Calls Tryd.prog 10 #[.string s] w (PPost w R) := by
  have HS := Lib.hid hS
  have P0 := Lib.hid (ev_box w zev)
  have B0 := Lib.hid ((Below.refl w.heap.size w).alloc (Nat.le_refl _) (Evx zev))
  have P1 := Lib.hid (P0.out.belowE ((Below.refl _ _).alloc (Nat.le_refl _) (.cells cs 9)))
  have B1 := Lib.hid (B0.out.alloc B0.out.size (.cells cs 9))
  have HN := Lib.hid fun W => named_any X0 W
  have HC := Lib.hid fun W => counts_any (knd X0) W
  have HB := Lib.hid fun W => ofBlock_any (knd X0) W
  have h1 : ¬ (200 : Int) < s.size := by omega
  have cW : ∀ j x, cs[j]? = some x → ((w.alloc (Evx zev)).alloc (.cells cs 9)).cell? ⟨(w.alloc (Evx zev)).heap.size, j, none⟩ = some x := fun j x h => by
    rw [cell_of_row _ _ _ _ _ _ (heap_alloc_new _ _)]; exact h
  have k0 := cW 0 _ hc0
  have HT := Lib.hid (hT _ _ cW)
  rw [hb] at HB
  obtain ⟨k, hkk⟩ : ∃ k, knd X0 = k := ⟨_, rfl⟩
  rw [hkk] at HN HC HB hk hl hh HT
  have hk0 : (k == 0) = false := by simpa using hk
  rw [hk0] at HN
  generalize loW k = lo at *
  generalize hiW k = hi at *
  rw [show (w.alloc (Evx zev)).heap.size = w.heap.size + 1 by simp] at HT
  clear cW hT hb
  unfold Evx zev at k0
  rw [show ((w.alloc (.cells #[.int .i64 0, .int .u32 0, .string ⟨#[]⟩, .int .u8 0, .int .u8 0, .int .u8 0, .int .u8 0, .int .u8 0, .int .u8 0, .int .u32 0, .int .i64 0, .int .i64 0, .int .u8 0, .int .u8 0, .int .u8 0, .int .u8 0, .int .u8 0, .int .u8 0, .int .i64 0] 41)).heap.size) = w.heap.size + 1 by simp] at k0
  clear hS hs
  go_enter Tryd.func10, Tryd.ntmps10
  go_wp2_with fail
  refine (HS.out _).mono ?_
  rintro e w1 ⟨rfl, rfl⟩
  go_wp2_with fail
  refine (HN.out _).mono ?_
  rintro e w1 ⟨rfl, rfl⟩
  go_wp2_with fail
  refine (HC.out _).mono ?_
  rintro e w1 ⟨rfl, rfl⟩
  go_wp2_with fail
  refine (HB.out _).mono ?_
  rintro e w1 ⟨rfl, rfl⟩
  go_wp2_with fail
  refine (HT.out).mono ?_
  rintro e wz ⟨⟨ev, rfl, pe⟩, hb⟩
  have PZ := Lib.hid (P1.out.belowE hb)
  have BZ := Lib.hid (B1.out.trans (hb.mono B1.out.size))
  have PE := Lib.hid pe
  clear hb pe
  go_wp2_with (refine at_store41 _ _ w.heap.size zev R.1 PZ.out rfl rfl rfl rfl ?_; intro wy PY BY GY)
  refine bodyPost_ret (results_cell2 rfl _ _ _ _ _ rfl rfl (loadv41 PY.out)) rfl ?_
  exact ⟨⟨_, rfl, PE.out.store PZ.out GY.out⟩, BZ.out.trans (BY.out _ (Nat.le_refl _))⟩

theorem psW_cons (x0 : List UInt8) (r : List (List UInt8)) : psW (x0 :: r) =
    if knd ⟨x0.toArray⟩ = 0 then ((zev, 0, 1) : Ev × Int × Int)
    else if ((x0 :: r).length : Int) < loW (knd ⟨x0.toArray⟩) then (zev, ((x0 :: r).length : Int), 1)
    else if hiW (knd ⟨x0.toArray⟩) < ((x0 :: r).length : Int) then (zev, hiW (knd ⟨x0.toArray⟩), 1)
    else match x0 :: r with
      | [a, x] => if ((knd ⟨a.toArray⟩ == 3) || (knd ⟨a.toArray⟩ == 4)) = true then blkO (knd ⟨a.toArray⟩) ⟨x.toArray⟩ else ho2 (knd ⟨a.toArray⟩) ⟨x.toArray⟩
      | [a, x, y] => ho3 (knd ⟨a.toArray⟩) ⟨x.toArray⟩ ⟨y.toArray⟩
      | [a, x, y, z] => ho4 (knd ⟨a.toArray⟩) ⟨x.toArray⟩ ⟨y.toArray⟩ ⟨z.toArray⟩
      | _ => (zev, 0, 1) := rfl
theorem word_arr (x : List UInt8) : sv x = .string ⟨x.toArray⟩ := rfl
theorem parse_any (s : ByteArray) (w : World) (hm : s.size ≤ maxLen) : Calls Tryd.prog 10 #[.string s] w (PPost w (psO s)) := by
  by_cases hs : s.size ≤ 200
  · unfold psO
    rw [if_pos hs]
    have hS : ∀ W, Calls Tryd.prog 20 #[.string s, .string ⟨#[32]⟩] W fun e w' => e = .returned (.slice (some ⟨W.heap.size, 0, none⟩) (wl s.data.toList).length (wl s.data.toList).length) ∧ w' = W.alloc (.cells ((wl s.data.toList).map sv).toArray 9) := fun W => by
      have h := Tryd.strings_Split_one s 32 W (by omega)
      rw [words_length, words_cells] at h
      exact h
    have hne := wl_ne s.data.toList
    have hsz : ∀ x ∈ wl s.data.toList, (⟨x.toArray⟩ : ByteArray).size ≤ maxLen := fun x hx => by
      have h := wl_len _ x hx
      rw [← Lib.size_eq] at h
      show x.toArray.size ≤ maxLen
      unfold maxLen
      simp
      omega
    generalize wl s.data.toList = L at *
    match L, hne with
    | x0 :: r, _ =>
      have c0 : (((x0 :: r).map sv).toArray)[0]? = some (.string ⟨x0.toArray⟩) := rfl
      have hpos : 0 < (x0 :: r).length := by simp
      rw [psW_cons]
      by_cases hk : knd ⟨x0.toArray⟩ = 0
      · rw [if_pos hk]
        exact parse_none s _ _ _ w hs hpos hS c0 hk
      · rw [if_neg hk]
        by_cases hl : ((x0 :: r).length : Int) < loW (knd ⟨x0.toArray⟩)
        · rw [if_pos hl]
          exact parse_few s _ _ _ w hs hpos hS c0 hk hl
        · rw [if_neg hl]
          by_cases hh : hiW (knd ⟨x0.toArray⟩) < ((x0 :: r).length : Int)
          · rw [if_pos hh]
            exact parse_many s _ _ _ w hs hpos hS c0 hk hl hh
          · rw [if_neg hh]
            have hlo : 2 ≤ loW (knd ⟨x0.toArray⟩) := by unfold loW; split <;> omega
            have hhi : hiW (knd ⟨x0.toArray⟩) ≤ 4 := by unfold hiW; split <;> omega
            match r, hl, hh with
            | [], hl, _ => simp at hl; omega
            | [x1], hl, hh =>
              simp only
              cases hb : ((knd ⟨x0.toArray⟩ == 3) || (knd ⟨x0.toArray⟩ == 4))
              · rw [if_neg (by decide)]
                exact parse_holder s _ _ _ w hs hpos hS c0 _ hk hl hh hb fun W g hc => holder2_any _ g _ _ W (hsz _ (by simp)) (hc 1 _ rfl)
              · rw [if_pos rfl]
                exact parse_block s _ _ _ w hs hpos hS c0 _ hk hl hh hb fun W g hc => blockEvent_any _ g _ _ _ W (by simp) (hsz _ (by simp)) (hc 1 _ rfl)
            | [x1, x2], hl, hh =>
              have h1 : knd ⟨x0.toArray⟩ = 1 := by
                unfold hiW at hh
                by_cases e : knd ⟨x0.toArray⟩ = 1
                · exact e
                · rw [if_neg e] at hh; simp at hh
              exact parse_holder s _ _ _ w hs hpos hS c0 _ hk hl hh (by rw [h1]; decide) fun W g hc => holder3_any _ g _ _ _ W (hsz _ (by simp)) (hsz _ (by simp)) (hc 1 _ rfl) (hc 2 _ rfl)
            | [x1, x2, x3], hl, hh =>
              have h1 : knd ⟨x0.toArray⟩ = 1 := by
                unfold hiW at hh
                by_cases e : knd ⟨x0.toArray⟩ = 1
                · exact e
                · rw [if_neg e] at hh; simp at hh
              exact parse_holder s _ _ _ w hs hpos hS c0 _ hk hl hh (by rw [h1]; decide) fun W g hc => holder4_any _ g _ _ _ _ W (hsz _ (by simp)) (hsz _ (by simp)) (hc 1 _ rfl) (hc 2 _ rfl) (hc 3 _ rfl)
            | x1 :: x2 :: x3 :: x4 :: r, _, hh => simp at hh; omega
  · unfold psO
    rw [if_neg hs]
    exact parse_long s w (by omega) hm
end Go.Proofs.YtegbdagmnibfmaaDoor
