/-
  What the disk keeps behind Open of a new one, Begin and Append, where nothing stops or fails; and the sectors that the statement wants. Plain data. Conditions: as each lemma says.
-/
import Derived.Test.YtjkfgdeiciligaaAt
namespace Go.Proofs.Ytjkfgdeiciligaa

theorem go_kept {P : List (List Wr)} {M : Dk} (hd : M.down = false) (hp : M.pend = []) (hx : ∀ l ∈ P, ∀ x ∈ l, x.1 < M.n) (hs : M.stop = none) (hf : M.fail = none) : (M.go (phs P)).2.kept = apps P M.kept := by
  rcases go_phs P M hd hp hx with ⟨_, h⟩ | ⟨h0, _, _, _, _, _, h⟩
  · exact h.kept
  · have h1 := (h.stop hs).2
    have h2 := (h.fail hf).2
    rcases h.err with ⟨h, _⟩ | ⟨h, _⟩ | ⟨h, _⟩ <;> omega
theorem bgn_kept {L : Lk} {M : Dk} {zs : List Nat} (hd : M.down = false) (hp : M.pend = []) (hs : M.stop = none) (hf : M.fail = none) (hfi : L.first = 0 ∨ L.first = L.size) (hn : M.n / 2 = L.size) (hr : rf6 L zs.length ((L.size : Int) - 1) = 0) :
    (bgn L M zs).2.2.kept = apps (bph L zs) M.kept := by
  obtain ⟨_, _, hsc⟩ := rf6_zero hr
  have e : (bgn L M zs).2.2 = (M.go (rop (L.size - L.first) L.size (L.turn + 1) zs)).2 := by
    rw [bgn, if_pos hr]
    split <;> rfl
  rw [e, rop_phs]
  exact go_kept hd hp (bph_at hfi hn (by omega)) hs hf
theorem apd_kept {L : Lk} {M : Dk} {zs : List Nat} (h : Sys M L) (hs : M.stop = none) (hf : M.fail = none) (hr : rf6 L zs.length ((L.size : Int) - (L.fin : Int)) = 0) :
    (apd L M zs).2.2.kept = ov (app (ml (L.first + L.fin + 1) ((zs.length + 63) / 64) (bk zs)) M.kept) (L.first + L.fin) 64 (hd 2 L.recs.length zs) := by
  obtain ⟨_, _, hsc⟩ := rf6_zero hr
  have hscd : sct zs.length = 1 + (zs.length + 63) / 64 := rfl
  have hle := h.gd.le
  have hh := h.half
  have hfs : L.first + L.size ≤ M.n := by rcases h.gd.fst with h0 | h0 <;> omega
  have e : (apd L M zs).2.2 = (M.go (fop (L.first + L.fin) 2 L.recs.length zs)).2 := by
    rw [apd, if_pos hr]
    split <;> rfl
  rw [e, fop_phs]
  refine (go_kept h.down h.pend (fun l hl x hx => ?_) hs hf).trans rfl
  rcases (by simpa using hl : l = _ ∨ l = _) with rfl | rfl
  · have := ml_mem hx; omega
  · obtain rfl : x = _ := by simpa using hx
    show L.first + L.fin < M.n
    omega
theorem opn_kept {M : Dk} (hd : M.down = false) (hp : M.pend = []) (hs : M.stop = none) (hf : M.fail = none) (h4 : 4 ≤ M.n / 2) (hK : M.kept = fun _ => zer) :
    (opn M).2.2.kept = apps (bph ⟨M.n / 2, 0, 0, 0, [], false⟩ []) M.kept := by
  have ht : ∀ i, tin (M.kept i) = 0 := fun i => by
    rw [hK]
    have := tin_other (s := zer) (t := 1) (by omega) (.inl (by show (0 : Nat) ≠ 197; omega))
    show tin zer = 0
    omega
  have hl : ldd M = ⟨M.n / 2, 0, 0, 0, [], false⟩ := by
    unfold ldd
    have e1 : ∀ fr, ld1 ⟨M.n / 2, 0, 0, 0, [], false⟩ fr M.kept = ⟨M.n / 2, 0, 0, 0, [], false⟩ := fun fr => by
      unfold ld1
      rw [if_neg (by rw [ht]; simp)]
    rw [e1, e1]
  have er : rf6 ⟨M.n / 2, 0, 0, 0, [], false⟩ ([] : List Nat).length (((M.n / 2 : Nat) : Int) - 1) = 0 := by
    unfold rf6
    rw [if_neg (by simp), if_neg (by simp), if_neg (by simp [sct]; omega)]
  have ep : prp (ldd M) M = bgn ⟨M.n / 2, 0, 0, 0, [], false⟩ M [] := by rw [hl, prp, if_pos rfl]
  have eo : (opn M).2.2 = (bgn ⟨M.n / 2, 0, 0, 0, [], false⟩ M []).2.2 := by
    rw [opn, if_neg (by omega), if_neg (by rw [hd]; simp), ep]
    split <;> rfl
  rw [eo]
  exact bgn_kept hd hp hs hf (.inl rfl) rfl er

/-- Bytes of a row laid into sectors from a on: the first m. -/
def fill (W : Nat → Nat → Nat) (a : Nat) (x : List Nat) (m : Nat) : Nat → Nat → Nat := fun i j => if a ≤ i ∧ j < 64 ∧ (i - a) * 64 + j < m then x.getD ((i - a) * 64 + j) 0 else W i j
theorem fill_zero (W : Nat → Nat → Nat) (a : Nat) (x : List Nat) : fill W a x 0 = W := by
  funext i j
  unfold fill
  rw [if_neg (by omega)]
theorem fill_succ (W : Nat → Nat → Nat) (a : Nat) (x : List Nat) (m i j : Nat) (hj : j < 64) : fill W a x (m + 1) i j = if i = a + m / 64 ∧ j = m % 64 then x.getD m 0 else fill W a x m i j := by
  unfold fill
  by_cases h : i = a + m / 64 ∧ j = m % 64
  · rw [if_pos h, if_pos (by omega)]
    congr 1
    omega
  · rw [if_neg h]
    by_cases h2 : a ≤ i ∧ j < 64 ∧ (i - a) * 64 + j < m
    · rw [if_pos (by omega), if_pos h2]
    · rw [if_neg (by omega), if_neg h2]
/-- One record's sectors. -/
def lay6 (W : Nat → Nat → Nat) (a k : Nat) (x : List Nat) : Nat → Nat → Nat := fill (ov W a 64 (hd 2 k x)) (a + 1) x x.length
/-- What the statement wants. -/
def wnt (b c : List Nat) : Nat → Nat → Nat := lay6 (lay6 (ov (fun _ => zer) 0 64 (hd 1 2 [])) 1 0 b) (1 + sct b.length) 1 c
/-- What the disk has: two records of a log begun anew. -/
def hsd (h : Nat) (b c : List Nat) (K : Nat → Nat → Nat) : Nat → Nat → Nat :=
  ov (app (ml (0 + (1 + sct b.length) + 1) ((c.length + 63) / 64) (bk c)) (apps (bph ⟨h, h, 1, 2, [[]], false⟩ b) K)) (0 + (1 + sct b.length)) 64 (hd 2 1 c)
theorem hsd_wnt {h : Nat} {b c : List Nat} {K : Nat → Nat → Nat} {i j : Nat} (hi : i < h) (hj : j < 64) : hsd h b c K i j = wnt b c i j := by
  have hb : sct b.length = 1 + (b.length + 63) / 64 := rfl
  simp only [hsd, wnt, lay6, bph_apps, ov, fill, app_ml, bk, zer, Nat.sub_self, Nat.zero_add]
  generalize sct b.length = sb at *
  repeat' split
  all_goals first | rfl | (exfalso; omega) | exact getD_past (by omega) | exact (getD_past (by omega)).symm
theorem hsd_up {h : Nat} {b c : List Nat} (hf : 1 + sct b.length + sct c.length ≤ h) {j : Nat} (hj : j < 64) :
    hsd h b c (apps (bph ⟨h, 0, 0, 0, [], false⟩ []) fun _ => zer) h j = hd 1 1 [] j ∧ hsd h b c (apps (bph ⟨h, 0, 0, 0, [], false⟩ []) fun _ => zer) (h + 1) j = hd 2 0 [] j := by
  have hb : sct b.length = 1 + (b.length + 63) / 64 := rfl
  have hc : sct c.length = 1 + (c.length + 63) / 64 := rfl
  simp only [hsd, bph_apps, ov, app_ml, bk, zer, Nat.sub_self, Nat.zero_add, Nat.sub_zero]
  generalize sct b.length = sb at *
  generalize sct c.length = sd at *
  refine ⟨?_, ?_⟩
  all_goals
    repeat' split
    all_goals first | rfl | (exfalso; omega) | exact (‹¬(True ∧ j < 64)› ⟨trivial, hj⟩).elim
end Go.Proofs.Ytjkfgdeiciligaa
