/-
  Contracts of readRegion and joined: what each returns, and that nothing that was there turns. Conditions: the disk is up, nothing waits, the sectors are there.
-/
import Derived.Test.YtjkfgdeiciligaaHead
set_option linter.unusedSimpArgs false
namespace Go.Proofs.Ytjkfgdeiciligaa
open Go.RowKit

/-- A row of sectors in memory. -/
def Rg (w : World) (g n : Nat) (R : Nat → Nat → Nat) : Prop := w.rowIs g 52 (n * 64) (fun j => .int .u8 (R (j / 64) (j % 64) : Int))
theorem Rg.sec {w : World} {g n : Nat} {R : Nat → Nat → Nat} (h : Rg w g n R) {i : Nat} (hi : i < n) : w.rangeAt g (i * 64) (sc (R i)) := by
  intro j v hv
  have hj : j < 64 := by have := (List.getElem?_eq_some_iff.1 hv).1; rwa [sc_length] at this
  rw [sc_get hj] at hv
  have h' : w.rowIs g 52 (n * 64) (fun j => .int .u8 (R (j / 64) (j % 64) : Int)) := h
  rw [h'.cell (i := i * 64 + j) (by have : (i + 1) * 64 ≤ n * 64 := Nat.mul_le_mul_right _ hi; omega), ← hv, show (i * 64 + j) / 64 = i by omega, show (i * 64 + j) % 64 = j by omega]
theorem Rg.below {w w' : World} {g n : Nat} {R : Nat → Nat → Nat} (h : Rg w g n R) (hb : Below w.heap.size w w') : Rg w' g n R :=
  World.rowIs.of_block h (hb.block _ (World.rowIs.lt h))
theorem Rg.lt {w : World} {g n : Nat} {R : Nat → Nat → Nat} (h : Rg w g n R) : g < w.heap.size := World.rowIs.lt h

set_option maxHeartbeats 1000000 in
set_option maxRecDepth 100000 in
theorem readRegion_any (p k : Nat) (pv : Value) (M : Dk) (fr n : Nat) (w : World) (h : Ds w p k pv M) (hd : M.down = false) (hp : M.pend = []) (hn : fr + n ≤ M.n) :
    Calls Try.prog 41 #[.pointer (some ⟨p, 0, none⟩), .int .i64 fr, .int .i64 n] w fun e w' => ∃ g, e = .returned (.tuple #[.slice (some ⟨g, 0, none⟩) n n, .int .i64 0]) ∧ Rg w' g n (fun i => M.kept (fr + i)) ∧ Below w.heap.size w w' ∧ w.heap.size ≤ g := by
  have hM := h.n
  have HM := Lib.hid fun W => run_make26 n (by omega) W
  have H := Lib.hid h
  have HC := Lib.hid fun (m : Nat) (hm : m < M.n) W (h : Ds W p k pv M) => show Calls Try.prog 24 #[.pointer (some ⟨p, 0, none⟩), .int .i64 m] W fun e w' => e = .returned (.tuple #[sv (M.kept m), .int .i64 0]) ∧ Below W.heap.size W w' from by
    have := read_ok p k pv M m W h hd hm
    rwa [hp, show lat [] m (M.kept m) = M.kept m from rfl] at this
  clear h
  have hm := HM.out
  go_enter Try.func41, Try.ntmps41
  go_wp2_with fail
  clear hm HM
  generalize hw0 : w.alloc (ZR n) = w0
  have BB := Lib.hid (show Below w.heap.size w w0 by rw [← hw0]; exact (Below.refl w.heap.size w).alloc (Nat.le_refl _) _)
  have RZ := Lib.hid (show w0.rowIs w.heap.size 52 (n * 64) _ by rw [← hw0]; exact rowZR w n)
  clear hw0
  go_loopg [16] n (fun m i wr => ∃ q : Nat, q + m = n ∧ i = .int .i64 (q : Int) ∧ Hid (Below w.heap.size w wr ∧ wr.rowIs w.heap.size 52 (n * 64) (fun j => .int .u8 ((if j / 64 < q then M.kept (fr + j / 64) (j % 64) else 0 : Nat) : Int))))
  case atStart => exact ⟨0, by omega, rfl, BB.out, RZ.out.congr fun j _ => by simp [zer]⟩
  case round =>
    clear RZ BB
    obtain ⟨q, hq, rfl, HH⟩ := hrel
    match gk with
    | 0 =>
      obtain rfl : q = n := by omega
      go_wp2_with fail
      go_ret2
      exact ⟨w.heap.size, rfl, HH.out.2.congr fun j hj => by rw [if_pos (by omega)], HH.out.1, Nat.le_refl _⟩
    | g + 1 =>
      have hqn : q < n := by omega
      have hq1 : fr + q < M.n := by omega
      have HB := Lib.hid HH.out.1
      have HR := Lib.hid HH.out.2
      have HD := Lib.hid (H.out.below HB.out)
      clear HH
      go_wp2_with fail
      refine (HC.out (fr + q) hq1 _ HD.out).mono ?_
      rintro e w1 ⟨rfl, hb⟩
      have HB1 := Lib.hid (HB.out.trans (hb.mono HB.out.size))
      have HR1 := Lib.hid (HR.out.of_block (hb.block _ HR.out.lt))
      clear hb HB HR HD
      have ST := stored_range w1 (M.kept (fr + q))
      have TZ := thereZ w1
      have HR2 := Lib.hid (HR1.out.of_block ((stored_below w1 (M.kept (fr + q))).block _ HR1.out.lt))
      have HB2 := Lib.hid (HB1.out.trans ((stored_below w1 (M.kept (fr + q))).mono HB1.out.size))
      have TT := rowIs_there HR2.out (o := q * 64) (m := 64) (by have : (q + 1) * 64 ≤ n * 64 := Nat.mul_le_mul_right _ hqn; omega)
      unfold stored at *
      go_wp2_with (first
        | (with_reducible show wpList _ _ _ _ _ w1; refine at_alloc38 rfl rfl ?_)
        | (with_reducible show wpList _ _ _ _ _ (w1.alloc Z64); refine at_store38 _ _ rfl rfl w1.heap.size 0 (M.kept (fr + q)) (by simp [Act.eval, Act.put]) (by simp [Act.eval, Act.put]) TZ ?_)
        | (with_reducible show wpList _ _ _ _ _ (World.setCells _ _ _ _); first | (refine at_load38 _ rfl rfl w1.heap.size 0 (M.kept (fr + q)) (by simp [Act.eval, Act.put]) ST ?_) | (refine at_store38 _ _ rfl rfl w.heap.size (q * 64) (M.kept (fr + q)) (by simp [Act.eval, Act.put]) (by simp [Act.eval, Act.put]) TT ?_)))
      go_roundg g
      case measure => omega
      case rel =>
        refine ⟨q + 1, by omega, by go_num, below_setCells w.heap.size _ _ HB2.out (Nat.le_refl _), (rowIs_setCells (sc (M.kept (fr + q))) (q * 64) HR2.out).congr fun j hj => ?_⟩
        by_cases e1 : q * 64 ≤ j
        · rw [if_pos e1]
          by_cases e2 : j - q * 64 < 64
          · rw [sc_get e2]
            show Value.int .u8 ((M.kept (fr + q) (j - q * 64) : Nat) : Int) = _
            rw [if_pos (show j / 64 < q + 1 by omega), show j / 64 = q by omega, show j % 64 = j - q * 64 by omega]
          · rw [List.getElem?_eq_none (by rw [sc_length]; omega), if_neg (by omega)]
            rw [if_neg (by omega)]
            rfl
        · rw [if_neg e1]
          by_cases e3 : j / 64 < q
          · rw [if_pos e3, if_pos (by omega)]
          · rw [if_neg e3, if_neg (by omega)]

/-- The bytes of a row of sectors, the first m. -/
def jn (T : Nat → Nat → Nat) (m : Nat) : List Nat := (List.range m).map fun i => T (i / 64) (i % 64)
theorem jn_length (T : Nat → Nat → Nat) (m : Nat) : (jn T m).length = m := by simp [jn]
theorem jn_getD (T : Nat → Nat → Nat) {m i : Nat} (h : i < m) : (jn T m).getD i 0 = T (i / 64) (i % 64) := by
  rw [List.getD_eq_getElem?_getD]; simp [jn, h]
theorem jn_bs {T : Nat → Nat → Nat} (h : ∀ i j, T i j < 256) (m : Nat) : Bs (jn T m) := by
  intro i
  rcases Nat.lt_or_ge i m with hi | hi
  · rw [jn_getD T hi]; exact h _ _
  · rw [getD_past (by rw [jn_length]; exact hi)]; omega
theorem jn_add (T : Nat → Nat → Nat) (q x : Nat) (hx : x ≤ 64) : jn T (64 * q) ++ (List.range x).map (T q) = jn T (64 * q + x) := by
  unfold jn
  rw [List.range_add, List.map_append, List.map_map]
  congr 1
  refine List.map_congr_left fun i hi => ?_
  have := List.mem_range.1 hi
  show T q i = T ((64 * q + i) / 64) ((64 * q + i) % 64)
  rw [show (64 * q + i) / 64 = q by omega, show (64 * q + i) % 64 = i by omega]
theorem rd_stored {w : World} {b : Nat} {s : Nat → Nat} (h : w.rangeAt b 0 (sc s)) (hs : ∀ j, s j < 256) {x : Nat} (hx : x ≤ 64) : Rd w (some ⟨b, 0, none⟩) ((List.range x).map s) := by
  have hg : ∀ i, i < x → ((List.range x).map s).getD i 0 = s i := fun i hi => by rw [List.getD_eq_getElem?_getD]; simp [hi]
  refine ⟨by simp; omega, fun i => ?_, fun k hk => ⟨_, rfl, ?_⟩⟩
  · rcases Nat.lt_or_ge i x with hi | hi
    · rw [hg i hi]; exact hs i
    · rw [getD_past (by simpa using hi)]; omega
  · have hk : k < x := by simpa using hk
    rw [hg k hk, Addr.add_mid]
    exact h k _ (sc_get (by omega))

theorem run_make33 (m : Nat) (h : m ≤ 16384) (w : World) : (Instr.makeSlice 33 (.int .i64 0) (.int .i64 (m : Int))).run Try.prog w = .ok (.slice (some ⟨w.heap.size, 0, none⟩) 0 m) (w.alloc (.cells (madeCells #[.int .u8 0] m) 5)) := by
  obtain ⟨i, hi, h0, h1, h2⟩ := info_parts info5
  have := run_make (P := Try.prog) w 33 5 i _ Try.underlying33 hi h0 .i64 .i64 (0 : Int) (m : Int) (by omega) (by omega) (by rw [h2]; omega) (by omega)
  rw [h1] at this
  simp only [Int.toNat_natCast] at this
  rw [this]
  simp
  rfl

set_option maxHeartbeats 1000000 in
set_option maxRecDepth 100000 in
theorem joined_any (A : Option Addr) (l c m : Nat) (T : Nat → Nat → Nat) (w : World) (hm : m ≤ 16384) (hl : l ≤ 512) (hT : ∀ i j, T i j < 256) (h : ∀ i, i * 64 < m → i < l ∧ ∃ g o, A = some ⟨g, o, none⟩ ∧ w.rangeAt g (o + i * 64) (sc (T i))) :
    Calls Try.prog 53 #[.slice A l c, .int .i64 m] w fun e w' => ∃ g cap, e = .returned (.slice (some ⟨g, 0, none⟩) m cap) ∧ Rd w' (some ⟨g, 0, none⟩) (jn T m) ∧ Below w.heap.size w w' ∧ w.heap.size ≤ g ∧ g < w'.heap.size := by
  have HM := Lib.hid fun W => run_make33 m hm W
  have H := Lib.hid h
  clear h
  have hmk := HM.out
  go_enter Try.func53, Try.ntmps53
  go_wp2_with fail
  clear hmk HM
  have OW := Lib.hid (World.ownsRow_made (base := w.heap.size) (e := 5) (size := 1) w (madeCells #[.int .u8 0] m) m (Nat.le_refl _) (by unfold maxLen; omega) (by simp [madeCells]))
  generalize hw0 : w.alloc _ = w0 at *
  have BB := Lib.hid (show Below w.heap.size w w0 by rw [← hw0]; exact (Below.refl w.heap.size w).alloc (Nat.le_refl _) _)
  clear hw0
  go_loopg [5, 6] m (fun mm v i wr => ∃ q d g cap : Nat, d + mm = m ∧ d = min (64 * q) m ∧ i = .int .i64 (q : Int) ∧ v = .slice (some ⟨g, 0, none⟩) d cap ∧ Hid (wr.ownsRow w.heap.size 5 1 (.slice (some ⟨g, 0, none⟩) d cap) d (cel (jn T d)) ∧ Below w.heap.size w wr))
  case atStart => exact ⟨0, 0, w.heap.size, m, by omega, by omega, rfl, rfl, by simpa [jn, cel] using OW.out, BB.out⟩
  case round =>
    clear OW BB
    obtain ⟨q, d, g, cap, hd, hdq, rfl, rfl, HH⟩ := hrel
    match gk with
    | 0 =>
      obtain rfl : d = m := by omega
      have hw := Lib.hid (HH.out.1.lt g rfl)
      have hr := Lib.hid (Rd.own HH.out.1 (jn_bs hT _) (by rw [jn_length]; omega)).2
      clear hdq hd H hT
      go_wp2_with fail
      go_ret
      exact ⟨g, cap, rfl, hr.out, HH.out.2, hw.out⟩
    | r + 1 =>
      have hdm : d < m := by omega
      have hdq2 : d = 64 * q := by omega
      clear hdq
      obtain ⟨hql, b, o, rfl, hrg⟩ := H.out q (by omega)
      obtain ⟨x, hx⟩ : ∃ x, x = min (m - d) 64 := ⟨_, rfl⟩
      have hx1 : x ≤ 64 := by omega
      have hx0 : 0 < x := by omega
      have hx2 : (x : Int) ≤ 64 := by omega
      have hxm : d + x ≤ m := by omega
      have EX : min ((m : Int) - (d : Int)) 64 = (x : Int) := by omega
      have HEX := Lib.hid hx
      have HDQ := Lib.hid hdq2
      clear hx hdq2
      have hrg' := range_below hrg (HH.out.2.mono (Nat.le_refl _))
      have TZ := thereZ wr
      have hwl := Lib.hid (HH.out.1.lt g rfl)
      have HT := Lib.hid hT
      have ST := Lib.hid (stored_range wr (T q))
      have HRD := Lib.hid (rd_stored ST.out (hT q) hx1)
      have HS := Lib.hid (stored_below wr (T q))
      have HO := Lib.hid (ownsRow_of_block (w' := stored wr (T q)) HH.out.1 (fun g' hg' => by
        obtain rfl : g = g' := by simpa [Value.ownBlock] using hg'
        exact HS.out.block _ hwl.out.2))
      have HB := Lib.hid (HH.out.2.trans (HS.out.mono HH.out.2.size))
      have hsz : Hid (w.heap.size ≤ (stored wr (T q)).heap.size) := HB.out.size
      have HLn : Hid (x = ((List.range x).map (T q)).length) := by show _ = _; simp
      have HDD := Lib.hid hd
      clear HH hT hrg hd
      unfold stored at *
      go_wp2_with (first
        | (with_reducible show wpList _ _ _ _ _ wr; first | (refine at_load38 (.tmp 18) rfl rfl b (o + q * 64) (T q) (by simp [Act.eval, Act.put]) hrg' ?_) | (refine at_alloc38 rfl rfl ?_))
        | (with_reducible show wpList _ _ _ _ _ (wr.alloc Z64); refine at_store38 (.tmp 7) (.tmp 19) rfl rfl wr.heap.size 0 (T q) (by simp [Act.eval, Act.put]) (by simp [Act.eval, Act.put]) TZ ?_)
        | (with_reducible show wpList _ _ _ _ _ (World.setCells _ _ _ _); at_builtin; refine wpList_append_rd _ rfl (.tmp 20) (.tmp 26) rfl w.heap.size _ d (jn T d) (by simp [Act.eval, Act.put]) HO.out (some ⟨wr.heap.size, 0, none⟩) x 64 ((List.range x).map (T q)) (by simp [Act.eval, Act.put]) HLn.out HRD.out (by omega) (by omega) hsz.out ?_))
      intro g2 cap2 w2 hown hgrow hat hlt
      have B2 := Lib.hid (HB.out.grown hgrow hsz.out (fun k hk => by simp [Value.ownBlock] at hk; have := hwl.out; omega))
      have HO2 := Lib.hid hown
      clear hown hgrow hat
      go_wp2_with fail
      go_roundg (m - (d + x))
      case measure => have := HDD.out; omega
      case rel =>
        have e := HEX.out
        have e2 := HDQ.out
        refine ⟨q + 1, d + x, g2, cap2, by omega, by omega, by go_num, rfl, ?_, B2.out⟩
        have := HO2.out
        rw [e2, jn_add T q x hx1] at this
        rw [e2]
        exact this
end Go.Proofs.Ytjkfgdeiciligaa
