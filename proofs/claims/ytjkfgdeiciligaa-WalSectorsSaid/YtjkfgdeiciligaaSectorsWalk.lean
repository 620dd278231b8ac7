/-
  WalSectors's walk: for every two rows of bytes and every number it returns true, and nothing that was in memory is touched. Conditions: bytes are bytes; rows are not longer than their room.
-/
import Derived.Test.YtjkfgdeiciligaaHd
import Derived.Test.YtjkfgdeiciligaaTake
import Derived.Deep.CutRange
import Derived.Deep.CutBlock
import Derived.IntWalk
import Derived.Lib.QuietBelow
set_option linter.unusedSimpArgs false
namespace Go.Proofs.Ytjkfgdeiciligaa
open Go.RowKit

/-- Open of a new disk, and what the disk has behind it. -/
theorem open_new2 {N : Nat} {w0 w : World} {p k : Nat} {pv : Value} (n : Nat) (h : Ad N w0 w p k pv ⟨n, fun _ => zer, [], 0, none, none, false⟩) (h4 : 4 ≤ n / 2) (h5 : n ≤ 512) :
    Calls Try.prog 10 #[.pointer (some ⟨p, 0, none⟩)] w fun e w' => ∃ q pv' rv' M', e = .returned (.tuple #[.pointer (some ⟨q, 0, none⟩), .int .i64 0]) ∧ At N w0 w' p k pv' M' q rv' ⟨n / 2, n / 2, 1, 2, [[]], false⟩ ∧ Sys M' ⟨n / 2, n / 2, 1, 2, [[]], false⟩ ∧ Kp ⟨n, fun _ => zer, [], 0, none, none, false⟩ M' ∧
      M'.kept = apps (bph ⟨n / 2, 0, 0, 0, [], false⟩ []) fun _ => zer := by
  refine (open_any p k pv _ w h.d (fun _ => rfl) (fun _ i j => by show 0 < 256; omega) (fun _ _ => by rw [ldd_new rfl]; omega) (by show 0 + 1000 < _; omega)).mono fun e w' hp => ?_
  have hNw : N ≤ w.heap.size := Nat.le_trans h.hN h.b.size
  obtain ⟨h1, h2, h3, h6⟩ := opn_new (M := ⟨n, fun _ => zer, [], 0, none, none, false⟩) rfl rfl rfl rfl h4 h5 rfl
  have h7 := opn_kept (M := ⟨n, fun _ => zer, [], 0, none, none, false⟩) rfl rfl rfl rfl h4 rfl
  rcases hopn : opn ⟨n, fun _ => zer, [], 0, none, none, false⟩ with ⟨o, er, M1⟩
  rw [hopn] at hp h1 h2 h3 h6 h7
  simp only at h1 h2 h3 h6 h7
  subst h1 h2
  obtain ⟨q, pv1, rv1, e1, d1, l1, s1, hq, hr⟩ := hp
  refine ⟨q, pv1, rv1, M1, e1, ⟨d1, l1, Below.step h.b s1 h.hN h.new, ?_⟩, h3, h6, h7⟩
  rintro b (hb | hb | hb)
  · exact s1.new hNw h.new b hb
  · omega
  · exact Nat.le_trans hNw (hr b hb)
/-- A sector of a row is stored. -/
theorem Rg.put {w : World} {g n : Nat} {R : Nat → Nat → Nat} (h : Rg w g n R) {i : Nat} (hi : i < n) (s : Nat → Nat) : Rg (w.setCells g (i * 64) (sc s)) g n (ov R i 64 s) := by
  have hlt : (i + 1) * 64 ≤ n * 64 := Nat.mul_le_mul_right _ hi
  refine (rowIs_setCells (sc s) (i * 64) h).congr fun j hj => ?_
  show (if i * 64 ≤ j then _ else _) = _
  unfold ov
  by_cases h1 : j / 64 = i
  · rw [if_pos (by omega), sc_get (by omega), if_pos ⟨h1, by omega⟩, show j - i * 64 = j % 64 by omega]
    rfl
  · rw [if_neg (show ¬ (j / 64 = i ∧ j % 64 < 64) from fun e => h1 e.1)]
    by_cases h2 : i * 64 ≤ j
    · rw [if_pos h2, List.getElem?_eq_none (by rw [sc_length]; omega)]
      rfl
    · rw [if_neg h2]
theorem Rg.there {w : World} {g n : Nat} {R : Nat → Nat → Nat} (h : Rg w g n R) {i : Nat} (hi : i < n) : w.there g (i * 64) 64 :=
  rowIs_there h (by have : (i + 1) * 64 ≤ n * 64 := Nat.mul_le_mul_right _ hi; omega)
/-- A byte of a row of sectors is stored. -/
theorem Rg.byte {w : World} {g n a m : Nat} {W : Nat → Nat → Nat} {x : List Nat} (h : Rg w g n (fill W a x m)) (hi : a + m / 64 < n) : w.cell? ⟨g, (a + m / 64) * 64 + m % 64, none⟩ ≠ none ∧ w.frozen? ⟨g, (a + m / 64) * 64 + m % 64, none⟩ = false ∧
    Rg (w.setCell ⟨g, (a + m / 64) * 64 + m % 64, none⟩ (.int .u8 ((x.getD m 0 : Nat) : Int))) g n (fill W a x (m + 1)) := by
  have hlt : (a + m / 64 + 1) * 64 ≤ n * 64 := Nat.mul_le_mul_right _ hi
  have h' : w.rowIs g 52 (n * 64) (fun j => .int .u8 (fill W a x m (j / 64) (j % 64) : Int)) := h
  refine ⟨by rw [h'.cell (by omega)]; simp, h'.frozen _, (h'.set ((a + m / 64) * 64 + m % 64) (.int .u8 ((x.getD m 0 : Nat) : Int))).congr fun j hj => ?_⟩
  show (if j = _ then _ else _) = _
  rw [fill_succ W a x m (j / 64) (j % 64) (by omega)]
  by_cases e : j = (a + m / 64) * 64 + m % 64
  · rw [if_pos e, if_pos (by omega)]
  · rw [if_neg e, if_neg (by omega)]

/-- The disk, and the row of sectors that the statement makes. -/
structure Sx (N : Nat) (w0 w : World) (p k : Nat) (pv : Value) (M : Dk) (g n : Nat) (R : Nat → Nat → Nat) : Prop where
  d : Ds w p k pv M
  b : Below N w0 w
  hg : N ≤ g
  ng : ¬ ft p k pv g
  r : Rg w g n R
section
variable {N : Nat} {w0 w w' : World} {p k : Nat} {pv : Value} {M : Dk} {g n : Nat} {R : Nat → Nat → Nat}
theorem Sx.below (h : Sx N w0 w p k pv M g n R) (hN : N ≤ w0.heap.size) (hb : Below w.heap.size w w') : Sx N w0 w' p k pv M g n R :=
  ⟨h.d.below hb, h.b.trans (hb.mono (Nat.le_trans hN h.b.size)), h.hg, h.ng, h.r.below hb⟩
theorem Sx.put (h : Sx N w0 w p k pv M g n R) {i : Nat} (hi : i < n) (s : Nat → Nat) : Sx N w0 (w.setCells g (i * 64) (sc s)) p k pv M g n (ov R i 64 s) :=
  ⟨h.d.of_blocks (heap_setCells_other _ _ _ _ _ (fun e => h.ng (e ▸ Ds.fp))) (heap_setCells_other _ _ _ _ _ (fun e => h.ng (e ▸ Ds.fk))) (fun b hb => heap_setCells_other _ _ _ _ _ (fun e => h.ng (.inr (.inr (by rw [hb, e]))))), below_setCells g _ _ h.b h.hg, h.hg, h.ng, h.r.put hi s⟩
theorem Sx.byte {a m o : Nat} {W : Nat → Nat → Nat} {x : List Nat} (h : Sx N w0 w p k pv M g n (fill W a x m)) (hi : a + m / 64 < n) (ho : o = (a + m / 64) * 64 + m % 64) (v : Value) (hv : v = .int .u8 ((x.getD m 0 : Nat) : Int)) : Sx N w0 (w.setCell ⟨g, o, none⟩ v) p k pv M g n (fill W a x (m + 1)) := by
  have h1 := (h.r.byte hi).2.2
  rw [← ho, ← hv] at h1
  exact ⟨h.d.setOther (by exact h.ng) v, h.b.setCell (by exact h.hg) v, h.hg, h.ng, h1⟩
end
/-- Where the records begin, and what is wanted behind so many of them. -/
def atk (b c : List Nat) : Nat → Nat
  | 0 => 1
  | 1 => 1 + sct b.length
  | _ => 1 + sct b.length + sct c.length
def wk (b c : List Nat) : Nat → Nat → Nat → Nat
  | 0 => ov (fun _ => zer) 0 64 (hd 1 2 [])
  | 1 => lay6 (ov (fun _ => zer) 0 64 (hd 1 2 [])) 1 0 b
  | _ => wnt b c
theorem drew_set (w : World) (a : Addr) (v : Value) : Below (w.setCell a v).heap.size (w.setCell a v) (w.drew.setCell a v) := ⟨rfl, rfl, rfl, Nat.le_refl _, fun _ _ => rfl⟩
theorem below_drewN6 {B : Nat} {a w : World} (h : Below B a w) (n : Nat) : Below B a (w.drewN n) := ⟨h.os, h.tape, h.output, h.size, h.block⟩
theorem rf6_0 {L : Lk} {n : Nat} {room : Int} (h1 : L.broken = false) (h2 : ¬ 16384 < n) (h3 : ¬ room < ((sct n : Nat) : Int)) : rf6 L n room = 0 := by
  unfold rf6
  rw [if_neg (by rw [h1]; simp), if_neg h2, if_neg h3]
set_option maxHeartbeats 8000000 in
set_option maxRecDepth 100000 in
theorem walSectors_walk (A1 : Option Addr) (xs : List Nat) (c1 : Nat) (A2 : Option Addr) (ys : List Nat) (c2 s : Nat) (w : World) (hr1 : Rd w A1 xs) (hr2 : Rd w A2 ys) (hc1 : xs.length ≤ c1) (hc2 : ys.length ≤ c2) (hs : s < 256) :
    Calls Try.prog 5 #[.slice A1 xs.length c1, .slice A2 ys.length c2, .int .u8 (s : Int)] w fun e w' => e = .returned (.bool true) ∧ Below w.heap.size w w' := by
  have AW := Lib.hid (awake_any w)
  obtain ⟨n1, hn1⟩ : ∃ n, n = min xs.length 300 := ⟨_, rfl⟩
  obtain ⟨n2, hn2⟩ : ∃ n, n = min ys.length 300 := ⟨_, rfl⟩
  have EX1 : min (xs.length : Int) 300 = (n1 : Int) := by omega
  have EX2 : min (ys.length : Int) 300 = (n2 : Int) := by omega
  have hn1c : n1 ≤ c1 := by omega
  have hn2c : n2 ≤ c2 := by omega
  have h13 : n1 ≤ 300 := by omega
  have h23 : n2 ≤ 300 := by omega
  obtain ⟨b, hb⟩ : ∃ b, b = xs.take n1 := ⟨_, rfl⟩
  obtain ⟨cs, hcs⟩ : ∃ cs, cs = ys.take n2 := ⟨_, rfl⟩
  have HB := Lib.hid (show Rd w A1 b ∧ b.length = n1 by rw [hb]; exact ⟨hr1.take n1, by rw [List.length_take]; omega⟩)
  have HC := Lib.hid (show Rd w A2 cs ∧ cs.length = n2 by rw [hcs]; exact ⟨hr2.take n2, by rw [List.length_take]; omega⟩)
  have hx1 : xs.length ≤ 140737488355328 := hr1.1
  have hx2 : ys.length ≤ 140737488355328 := hr2.1
  obtain ⟨hf, hhf⟩ : ∃ hf : Nat, hf = 16 + s % 50 := ⟨_, rfl⟩
  have E1 : 16 + (s : Int) % 50 = (hf : Int) := by omega
  have hf16 : 16 ≤ hf := by omega
  have hf65 : hf ≤ 65 := by omega
  obtain ⟨nn, hnn⟩ : ∃ nn : Nat, nn = 2 * hf := ⟨_, rfl⟩
  have E2 := Lib.hid (show 2 * (hf : Int) = (nn : Int) by omega)
  have HNN := Lib.hid (show nn / 2 = hf ∧ nn ≤ 512 ∧ nn = 2 * hf by omega)
  have HEM := Lib.hid (show min (max (nn : Int) 0) 512 = (nn : Int) by omega)
  clear hb hcs hr1 hr2 hn1 hn2 hhf hnn
  go_enter Try.func5, Try.ntmps5
  go_wp2_with fail
  refine AW.out.mono ?_
  rintro e w1 ⟨rfl, b1⟩
  have B1 := Lib.hid b1
  clear b1 AW
  go_upto_region 3 with fail
  go_quiet (fail)
  go_wp2_with fail
  generalize hw2 : w1.drewN _ = w2
  have B2 := Lib.hid (show Below w.heap.size w w2 by rw [← hw2]; exact below_drewN6 B1.out _)
  clear hw2 B1
  rw [E2.out]
  refine (of_at (N := w.heap.size) (w0 := w) nn nn HEM.out w2 B2.out (Nat.le_refl _)).mono ?_
  rintro e w3 ⟨p, k, rfl, a3⟩
  have C3 := Lib.hid (open_new2 nn a3 (by have := HNN.out.1; omega) HNN.out.2.1)
  rw [HNN.out.1] at C3
  clear a3 B2
  go_wp2_with fail
  refine C3.out.mono ?_
  rintro e w4 ⟨q, pv4, rv4, M4, rfl, a4, s4, k4, kp4⟩
  have AWY : Hid (∀ {w' : World} {pv rv : Value} {M : Dk} {L : Lk}, At w.heap.size w w' p k pv M q rv L → ∀ (A : Option Addr) (z : List Nat), Rd w A z → ∀ y, z ≠ [] → A = some y → ¬ fs (ft p k pv) q rv y.block) := fun h A z hz y hy hA hf => by
    have h1 := rd_lt hz y hy hA
    have h2 := h.new _ hf
    omega
  have hrf1 : rf6 ⟨hf, hf, 1, 2, [[]], false⟩ b.length ((hf : Int) - 1) = 0 := rf6_0 rfl (by have := HB.out.2; omega) (by have := HB.out.2; unfold sct; omega)
  have hcl4 := k4.calls
  have hm4 : M4.calls ≤ 1000 := by
    have e : (⟨nn, fun _ => zer, [], 0, none, none, false⟩ : Dk).calls = 0 := rfl
    rw [e] at hcl4
    omega
  have hn4 : M4.n = nn := k4.n
  have hst4 := k4.stop rfl
  have hfl4 := k4.fail rfl
  have CB := Lib.hid (begin_at A1 b c1 a4 (Nat.le_refl _) (s4.small (by rw [hn4]; exact HNN.out.2.1)) (by show 1 < 4000000000; omega) (HB.out.1.below a4.b) (AWY.out a4 A1 b HB.out.1) (by have := HB.out.2; omega) (by have := HB.out.2; omega) (by omega))
  have KB := bgn_kept (L := ⟨hf, hf, 1, 2, [[]], false⟩) (zs := b) s4.down s4.pend hst4 hfl4 (.inr rfl) s4.half hrf1
  obtain ⟨e5, l5, s5, k5⟩ := (bgn_done s4 (by rw [hn4]; exact HNN.out.2.1) (by show 1 < 4000000000; omega) HB.out.1.2.1).calm hst4 hfl4 hrf1
  rw [e5, l5] at CB
  rw [kp4] at KB
  generalize (bgn ⟨hf, hf, 1, 2, [[]], false⟩ M4 b).2.2 = M5 at *
  have hst5 := k5.stop hst4
  have hfl5 := k5.fail hfl4
  have hn5 : M5.n = nn := k5.n.trans hn4
  have hm5 : M5.calls ≤ 2000 := by have := k5.calls; omega
  have S5 := Lib.hid s5
  have KB5 := Lib.hid KB
  rw [HB.out.2] at CB
  clear a4 s4 k4 kp4 C3 hcl4 hm4 hst4 hfl4 hn4 hrf1 e5 l5 s5 k5 KB
  have hbl := HB.out.2
  have hcl := HC.out.2
  have HST := Lib.hid (And.intro hst5 hfl5)
  clear hst5 hfl5
  go_wp2_with fail
  refine CB.out.mono ?_
  rintro e w5 ⟨rfl, pv5, rv5, a5, st5⟩
  have hrf2 : rf6 (Lk.next ⟨hf, hf, 1, 2, [[]], false⟩ b) cs.length ((hf : Int) - ((1 + sct b.length : Nat) : Int)) = 0 := rf6_0 rfl (by omega) (by unfold sct; omega)
  have CA := Lib.hid (append_at A2 cs c2 a5 (Nat.le_refl _) (S5.out.small (by rw [hn5]; exact HNN.out.2.1)) (HC.out.1.below a5.b) (AWY.out a5 A2 cs HC.out.1) (by omega) (by omega) (by omega))
  have KA := apd_kept (zs := cs) S5.out HST.out.1 HST.out.2 hrf2
  obtain ⟨e6, l6, s6, k6⟩ := (apd_done S5.out (by rw [hn5]; exact HNN.out.2.1) HC.out.1.2.1).calm HST.out.1 HST.out.2 hrf2
  rw [e6, l6] at CA
  rw [KB5.out] at KA
  have KA6 := Lib.hid (show (apd (Lk.next ⟨hf, hf, 1, 2, [[]], false⟩ b) M5 cs).2.2.kept = hsd hf b cs (apps (bph ⟨hf, 0, 0, 0, [], false⟩ []) fun _ => zer) by rw [KA]; show ov (app (ml (hf - hf + (1 + sct b.length) + 1) _ _) _) (hf - hf + (1 + sct b.length)) 64 (hd 2 1 cs) = _; rw [Nat.sub_self]; rfl)
  generalize (apd (Lk.next ⟨hf, hf, 1, 2, [[]], false⟩ b) M5 cs).2.2 = M6 at *
  generalize Lk.more (Lk.next ⟨hf, hf, 1, 2, [[]], false⟩ b) cs = L6 at *
  have hn6 : M6.n = nn := k6.n.trans hn5
  have S6 := Lib.hid s6
  rw [hcl] at CA
  clear a5 st5 CB KA e6 l6 s6 k6 hm5 hn5 KB5 S5 HST
  go_wp2_with fail
  refine CA.out.mono ?_
  rintro e w6 ⟨rfl, pv6, rv6, a6, _⟩
  have D6 := Lib.hid a6.d
  have B6 := Lib.hid a6.b
  have N6 := Lib.hid a6.new
  clear a6 CA AWY
  have HM := fun W => run_make26 hf (by omega) W
  have X7 : Hid (Sx w.heap.size w (w6.alloc (ZR hf)) p k pv6 M6 w6.heap.size hf (fun _ => zer)) :=
    ⟨D6.out.alloc _, B6.out.alloc B6.out.size _, B6.out.size, fun hf' => by have := D6.out.lt _ hf'; omega, rowZR w6 hf⟩
  go_upto_region 10 with fail
  clear HM
  generalize w6.alloc (ZR hf) = w7 at *
  generalize w6.heap.size = g at *
  clear D6 B6 N6
  have CH1 := Lib.hid fun W => head_any 1 2 none [] 0 W (by omega) (by omega) (by simp) (Rd.nil W none)
  go_wp2_with fail
  refine (CH1.out _).mono ?_
  rintro e w8 ⟨rfl, b8⟩
  have X8 := Lib.hid (X7.out.below (Nat.le_refl _) b8)
  have X9 := Lib.hid (X8.out.put (i := 0) (by omega) (hd 1 2 []))
  have T8 : Hid (w8.there g 0 64) := X8.out.r.there (i := 0) (by omega)
  rw [Nat.zero_mul] at X9
  clear b8 CH1 X7
  go_upto_region 12 with (with_reducible show wpList _ _ _ _ _ w8; refine at_store38 (.tmp 69) (.tmp 68) ?_ ?_ g 0 (hd 1 2 []) ?_ ?_ T8.out ?_; (with_reducible rfl); (with_reducible rfl); simp [Act.eval, Act.put]; simp [Act.eval, Act.put])
  generalize w8.setCells g 0 (sc (hd 1 2 [])) = w9 at *
  clear T8 X8
  have hgl := X9.out.r.lt
  have XA := Lib.hid (X9.out.below (Nat.le_refl _) ((Below.refl _ w9).alloc (Nat.le_refl _) (.cells #[.slice A1 n1 c1, .slice A2 n2 c2] 33)))
  have SL : Hid ((w9.alloc (.cells #[.slice A1 n1 c1, .slice A2 n2 c2] 33)).cell? ⟨w9.heap.size, 0, none⟩ = some (.slice A1 n1 c1) ∧ (w9.alloc (.cells #[.slice A1 n1 c1, .slice A2 n2 c2] 33)).cell? ⟨w9.heap.size, 1, none⟩ = some (.slice A2 n2 c2)) := by
    refine ⟨?_, ?_⟩ <;> (rw [cell_of_row _ _ _ _ _ _ (heap_alloc_new w9 _)]; rfl)
  have hng : w9.heap.size ≠ g := by omega
  clear X9
  go_upto_block 0 with fail
  generalize w9.alloc (.cells #[.slice A1 n1 c1, .slice A2 n2 c2] 33) = wA at *
  generalize w9.heap.size = nb at *
  have KX : Hid (∀ kk, kk < 2 → ∃ (Ak : Option Addr) (zk : List Nat) (nk ck : Nat), Rd w Ak zk ∧ zk.length = nk ∧ nk ≤ 300 ∧ nk ≤ ck ∧ (∀ W : World, W.cell? ⟨nb, 0, none⟩ = some (.slice A1 n1 c1) ∧ W.cell? ⟨nb, 1, none⟩ = some (.slice A2 n2 c2) → W.cell? ⟨nb, kk, none⟩ = some (.slice Ak nk ck)) ∧
      wk b cs (kk + 1) = lay6 (wk b cs kk) (atk b cs kk) kk zk ∧ atk b cs (kk + 1) = atk b cs kk + sct nk ∧ atk b cs kk + sct nk ≤ hf) := by
    intro kk hkk
    rcases (show kk = 0 ∨ kk = 1 by omega) with rfl | rfl
    · exact ⟨A1, b, n1, c1, HB.out.1, hbl, h13, hn1c, fun W h => h.1, rfl, by show 1 + sct b.length = 1 + sct n1; rw [hbl], by show 1 + sct n1 ≤ hf; unfold sct; omega⟩
    · exact ⟨A2, cs, n2, c2, HC.out.1, hcl, h23, hn2c, fun W h => h.2, rfl, by show 1 + sct b.length + sct cs.length = 1 + sct b.length + sct n2; rw [hcl], by show 1 + sct b.length + sct n2 ≤ hf; unfold sct; omega⟩
  have hbg := Lib.hid (show w.heap.size ≤ wA.heap.size from XA.out.b.size)
  go_wp2_with fail
  go_loopg [12, 74] 2 (fun m v12 v74 wr => ∃ kk : Nat, kk + m = 2 ∧ v74 = .int .i64 (kk : Int) ∧ v12 = .int .i64 ((atk b cs kk : Nat) : Int) ∧ Hid (Sx w.heap.size w wr p k pv6 M6 g hf (wk b cs kk) ∧ (wr.cell? ⟨nb, 0, none⟩ = some (.slice A1 n1 c1) ∧ wr.cell? ⟨nb, 1, none⟩ = some (.slice A2 n2 c2))))
  case atStart => exact ⟨0, by omega, rfl, rfl, XA.out, SL.out⟩
  case round =>
    clear XA SL
    obtain ⟨kk, hkk, rfl, rfl, HH⟩ := hrel
    match gk with
    | 0 =>
      obtain rfl : kk = 2 := by omega
      have XW : Hid (Sx w.heap.size w wr p k pv6 M6 g hf (wnt b cs)) := HH.out.1
      have HP := S6.out.pend
      have HDN := S6.out.down
      have HRDc := Lib.hid fun (m : Nat) (hm : m < M6.n) W (h : Ds W p k pv6 M6) => show Calls Try.prog 24 #[.pointer (some ⟨p, 0, none⟩), .int .i64 m] W fun e w' => e = .returned (.tuple #[sv (M6.kept m), .int .i64 0]) ∧ Below W.heap.size W w' from by
        have := read_ok p k pv6 M6 m W h HDN hm
        rwa [HP, show lat [] m (M6.kept m) = M6.kept m from rfl] at this
      have HPL := Lib.hid (show (M6.pend.length : Int) = 0 by rw [HP]; rfl)
      clear HH KX HP HDN
      have hnn := HNN.out.2.2
      have HKE := Lib.hid fun (i : Nat) (hi : i < hf) => (show eq64 (M6.kept i) (wnt b cs i) = true by rw [KA6.out]; exact eq64_true fun j hj => hsd_wnt hi hj)
      have HKU : Hid (eq64 (M6.kept hf) (hd 1 1 []) = true ∧ eq64 (M6.kept (hf + 1)) (hd 2 0 []) = true) := by
        rw [KA6.out]
        have hfit : 1 + sct b.length + sct cs.length ≤ hf := by unfold sct; omega
        exact ⟨eq64_true fun j hj => (hsd_up hfit hj).1, eq64_true fun j hj => (hsd_up hfit hj).2⟩
      go_wp2_with fail
      go_loopg [113] hf (fun m3 v113 wi => ∃ j : Nat, j + m3 = hf ∧ v113 = .int .i64 (j : Int) ∧ Hid (Sx w.heap.size w wi p k pv6 M6 g hf (wnt b cs)))
      case atStart => exact ⟨0, by omega, rfl, XW.out⟩
      case round =>
        clear XW
        obtain ⟨j, hj, rfl, HX⟩ := hrel
        match gk with
        | 0 =>
          obtain rfl : j = hf := by omega
          obtain ⟨K, hK⟩ : ∃ K, K = M6.kept j := ⟨_, rfl⟩
          obtain ⟨K', hK'⟩ : ∃ K, K = M6.kept (j + 1) := ⟨_, rfl⟩
          obtain ⟨H, hH⟩ : ∃ H, H = hd 1 1 [] := ⟨_, rfl⟩
          obtain ⟨H', hH'⟩ : ∃ H, H = hd 2 0 [] := ⟨_, rfl⟩
          have CR1 := Lib.hid (hK ▸ HRDc.out j (by omega))
          have C2 := hK' ▸ HRDc.out (j + 1) (by omega)
          rw [show ((j + 1 : Nat) : Int) = (j : Int) + 1 by omega] at C2
          have CR2 := Lib.hid C2
          clear C2
          have CH1 := Lib.hid fun W => show Calls Try.prog 23 #[.int .i64 1, .int .i64 1, .slice none 0 0] W fun e w' => e = .returned (sv H) ∧ Below W.heap.size W w' from hH ▸ head_any 1 1 none [] 0 W (by omega) (by omega) (by simp) (Rd.nil W none)
          have CH2 := Lib.hid fun W => show Calls Try.prog 23 #[.int .i64 2, .int .i64 0, .slice none 0 0] W fun e w' => e = .returned (sv H') ∧ Below W.heap.size W w' from hH' ▸ head_any 2 0 none [] 0 W (by omega) (by omega) (by simp) (Rd.nil W none)
          rw [← hK, ← hK', ← hH, ← hH'] at HKU
          clear hK hK' hH hH' HKE HRDc
          go_wp2_with fail
          refine (CR1.out _ HX.out.d).mono ?_
          rintro e w1 ⟨rfl, hb⟩
          have X1 := Lib.hid (HX.out.below (Nat.le_refl _) hb)
          have TZ := thereZ w1
          have X2 := Lib.hid (X1.out.below (Nat.le_refl _) (stored_below w1 K))
          have ST := Lib.hid (stored_range w1 K)
          clear hb HX X1
          unfold stored at *
          go_upto_region 31 with (first
            | (with_reducible show wpList _ _ _ _ _ w1; refine at_alloc38 rfl rfl ?_)
            | (with_reducible show wpList _ _ _ _ _ (w1.alloc Z64); refine at_store38 (.tmp 19) (.tmp 137) ?_ ?_ w1.heap.size 0 K ?_ ?_ TZ ?_; (with_reducible rfl); (with_reducible rfl); simp [Act.eval, Act.put]; simp [Act.eval, Act.put]))
          clear TZ
          generalize (w1.alloc Z64).setCells w1.heap.size 0 (sc K) = w2 at *
          generalize w1.heap.size = g9 at *
          go_wp2_with fail
          refine (CR2.out _ X2.out.d).mono ?_
          rintro e w3 ⟨rfl, hb⟩
          have X3 := Lib.hid (X2.out.below (Nat.le_refl _) hb)
          have ST3 := Lib.hid (range_below ST.out hb)
          have TZ := thereZ w3
          have X4 := Lib.hid (X3.out.below (Nat.le_refl _) (stored_below w3 K'))
          have ST4 := Lib.hid (range_below ST3.out (stored_below w3 K'))
          have SU4 := Lib.hid (stored_range w3 K')
          clear hb X2 X3 ST ST3
          unfold stored at *
          go_upto_region 32 with (first
            | (with_reducible show wpList _ _ _ _ _ w3; refine at_alloc38 rfl rfl ?_)
            | (with_reducible show wpList _ _ _ _ _ (w3.alloc Z64); refine at_store38 (.tmp 21) (.tmp 144) ?_ ?_ w3.heap.size 0 K' ?_ ?_ TZ ?_; (with_reducible rfl); (with_reducible rfl); simp [Act.eval, Act.put]; simp [Act.eval, Act.put]))
          clear TZ
          generalize (w3.alloc Z64).setCells w3.heap.size 0 (sc K') = w4 at *
          generalize w3.heap.size = g1 at *
          have L19 := Lib.hid fun W (h : ∃ q : Regrown, W = Sort.grow (redrawn w4 q.d) q.os) => show W.rangeAt g9 0 (sc K) from by obtain ⟨q, rfl⟩ := h; exact range_below ST4.out (below_regrown w4 q.d q.os)
          have L21 := Lib.hid fun W (h : ∃ q : Regrown, W = Sort.grow (redrawn w4 q.d) q.os) => show W.rangeAt g1 0 (sc K') from by obtain ⟨q, rfl⟩ := h; exact range_below SU4.out (below_regrown w4 q.d q.os)
          have R1 := Lib.hid fun d os => Calls.regrown_of (CH1.out (Sort.grow (redrawn w4 d) os))
          have R2 := Lib.hid fun d os => Calls.regrown_of (CH2.out (Sort.grow (redrawn w4 d) os))
          have R3 := Lib.hid fun d os => Calls.regrown_of ((sectors_any n1 (Sort.grow (redrawn w4 d) os) (by omega)).mono fun _ _ ⟨a, b⟩ => ⟨a, b ▸ Below.refl _ _⟩)
          have R4 := Lib.hid fun d os => Calls.regrown_of ((need_any n1 (Sort.grow (redrawn w4 d) os) (by omega)).mono fun _ _ ⟨a, b⟩ => ⟨a, b ▸ Below.refl _ _⟩)
          have R5 := Lib.hid fun d os => Calls.regrown_of ((wait_any p k pv6 M6 (Sort.grow (redrawn w4 d) os) (X4.out.d.below (below_regrown w4 d os))).mono fun _ _ ⟨a, b⟩ => ⟨(HPL.out ▸ a : _ = Ending.returned (.int .i64 0)), b ▸ Below.refl _ _⟩)
          refine wp_region_quiet_below (by kernel_rfl) (by kernel_rfl) ?_
          (try simp only [Act.put])
          repeat (first
            | (refine quiet_load38 (.tmp 19) ?_ ?_ g9 0 K ?_ L19.out ?_; rotate_left; (with_reducible rfl); simp [Act.eval, Act.put]; rotate_left; kernel_rfl; simp only [Act.put, List.setIfInBounds_toArray, List.set_cons_zero, List.set_cons_succ])
            | (refine quiet_load38 (.tmp 21) ?_ ?_ g1 0 K' ?_ L21.out ?_; rotate_left; (with_reducible rfl); simp [Act.eval, Act.put]; rotate_left; kernel_rfl; simp only [Act.put, List.setIfInBounds_toArray, List.set_cons_zero, List.set_cons_succ])
            | (refine quiet_eql38 (.tmp 153) (.tmp 154) ?_ ?_ K H ?_ ?_ ?_; rotate_left; (with_reducible rfl); simp [Act.eval, Act.put]; simp [Act.eval, Act.put]; rotate_left; kernel_rfl; simp only [Act.put, List.setIfInBounds_toArray, List.set_cons_zero, List.set_cons_succ]; rw [HKU.out.1])
            | (refine quiet_eql38 (.tmp 158) (.tmp 159) ?_ ?_ K' H' ?_ ?_ ?_; rotate_left; (with_reducible rfl); simp [Act.eval, Act.put]; simp [Act.eval, Act.put]; rotate_left; kernel_rfl; simp only [Act.put, List.setIfInBounds_toArray, List.set_cons_zero, List.set_cons_succ]; rw [HKU.out.2])
            | go_big_quiet_step (first | (go_at_call 23; first | (with_reducible exact R1.out _ _) | (with_reducible exact R2.out _ _)) | (go_at_call 25; with_reducible exact R3.out _ _) | (go_at_call 14; with_reducible exact R4.out _ _) | (go_at_call 26; with_reducible exact R5.out _ _)))
          refine wpQuiet_nil ?_
          intro w5' hw5
          have BF : Hid (Below w.heap.size w w5') := by obtain ⟨q, rfl⟩ := hw5; exact X4.out.b.trans ((below_regrown w4 q.d q.os).mono X4.out.b.size)
          clear hw5 L19 L21 R1 R2 R3 R4 R5
          go_wp2_with fail
          go_ret
          exact ⟨rfl, BF.out⟩
        | m3 + 1 =>
          have hjl : j < hf := by omega
          go_wp2_with fail
          refine (HRDc.out j (by omega) _ HX.out.d).mono ?_
          rintro e w1 ⟨rfl, hb⟩
          have X1 := Lib.hid (HX.out.below (Nat.le_refl _) hb)
          have EQJ := Lib.hid (HKE.out j hjl)
          obtain ⟨K, hK⟩ : ∃ K, K = M6.kept j := ⟨_, rfl⟩
          rw [← hK] at EQJ ⊢
          have TZ := thereZ w1
          have X2 := Lib.hid (X1.out.below (Nat.le_refl _) (stored_below w1 K))
          have ST := Lib.hid (stored_range w1 K)
          clear hb HX hK X1
          unfold stored at *
          go_upto_region 27 with (first
            | (with_reducible show wpList _ _ _ _ _ w1; refine at_alloc38 rfl rfl ?_)
            | (with_reducible show wpList _ _ _ _ _ (w1.alloc Z64); refine at_store38 (.tmp 17) (.tmp 120) ?_ ?_ w1.heap.size 0 K ?_ ?_ TZ ?_; (with_reducible rfl); (with_reducible rfl); simp [Act.eval, Act.put]; simp [Act.eval, Act.put]))
          clear TZ
          generalize (w1.alloc Z64).setCells w1.heap.size 0 (sc K) = w2 at *
          generalize w1.heap.size = g7 at *
          have L17 := Lib.hid fun W (h : ∃ m, W = w2.drewN m) => show W.rangeAt g7 0 (sc K) from by obtain ⟨m, rfl⟩ := h; exact ST.out
          have L28 := Lib.hid fun W (h : ∃ m, W = w2.drewN m) => show W.rangeAt g (j * 64) (sc (wnt b cs j)) from by obtain ⟨m, rfl⟩ := h; exact X2.out.r.sec hjl
          refine wp_region_quiet_lit (by kernel_rfl) (by kernel_rfl) ?_
          (try simp only [Act.put])
          repeat (first
            | (refine quiet_load38 (.tmp 17) ?_ ?_ g7 0 K ?_ L17.out ?_; rotate_left; (with_reducible rfl); simp [Act.eval, Act.put]; rotate_left; kernel_rfl; simp only [Act.put, List.setIfInBounds_toArray, List.set_cons_zero, List.set_cons_succ])
            | (refine quiet_load38 (.tmp 128) ?_ ?_ g (j * 64) (wnt b cs j) ?_ L28.out ?_; rotate_left; (with_reducible rfl); simp [Act.eval, Act.put]; rotate_left; kernel_rfl; simp only [Act.put, List.setIfInBounds_toArray, List.set_cons_zero, List.set_cons_succ])
            | (refine quiet_neq38 (.tmp 125) (.tmp 129) ?_ ?_ K (wnt b cs j) ?_ ?_ ?_; rotate_left; (with_reducible rfl); simp [Act.eval, Act.put]; simp [Act.eval, Act.put]; rotate_left; kernel_rfl; simp only [Act.put, List.setIfInBounds_toArray, List.set_cons_zero, List.set_cons_succ]; rw [EQJ.out])
            | go_big_quiet_step (fail))
          refine wpQuiet_nil ?_
          rintro w3 ⟨n3, rfl⟩
          have X3 := Lib.hid (X2.out.below (Nat.le_refl _) (below_drewN6 (Below.refl _ w2) n3))
          clear X2 ST L17 L28
          go_wp2_with fail
          go_roundg m3
          case measure => omega
          case rel => exact ⟨j + 1, by omega, by go_num, X3.out⟩
    | m + 1 =>
      have hk2 : kk < 2 := by omega
      obtain ⟨Ak, zk, nk, ck, hrk, hzk, hn3, hnc, hsl, hwk, hak, hfit⟩ := KX.out kk hk2
      have hck := hsl wr HH.out.2
      have X0 := Lib.hid HH.out.1
      have S0 := Lib.hid HH.out.2
      have HRK := Lib.hid hrk
      have HZK := Lib.hid hzk
      have HWK := Lib.hid hwk
      have HAK := Lib.hid hak
      have hsct : 1 + (nk + 63) / 64 = sct nk := rfl
      generalize atk b cs kk = a at *
      generalize wk b cs kk = W at *
      clear hrk hzk hwk hak hsl HH
      have CHK := Lib.hid fun W (h : Rd W Ak zk) => HZK.out ▸ head_any 2 kk Ak zk ck W (by omega) (by omega) (by have := HZK.out; omega) h
      go_wp2_with fail
      refine (CHK.out _ (HRK.out.below (X0.out.b.mono (Nat.le_refl _)))).mono ?_
      rintro e w1 ⟨rfl, hb⟩
      have X1 := Lib.hid (X0.out.below (Nat.le_refl _) hb)
      have S1 : Hid (w1.cell? ⟨nb, 0, none⟩ = some (.slice A1 n1 c1) ∧ w1.cell? ⟨nb, 1, none⟩ = some (.slice A2 n2 c2)) :=
        ⟨(hb.cell (p := ⟨nb, 0, none⟩) (World.block_lt_of_cell? _ _ S0.out.1)).trans S0.out.1, (hb.cell (p := ⟨nb, 1, none⟩) (World.block_lt_of_cell? _ _ S0.out.2)).trans S0.out.2⟩
      obtain ⟨H, hH⟩ : ∃ H, H = hd 2 kk zk := ⟨_, rfl⟩
      have HH := Lib.hid hH
      rw [← hH]
      have X2 := Lib.hid (X1.out.put (i := a) (by omega) H)
      have T1 : Hid (w1.there g (a * 64) 64) := X1.out.r.there (i := a) (by omega)
      have S2 : Hid ((w1.setCells g (a * 64) (sc H)).cell? ⟨nb, 0, none⟩ = some (.slice A1 n1 c1) ∧ (w1.setCells g (a * 64) (sc H)).cell? ⟨nb, 1, none⟩ = some (.slice A2 n2 c2)) :=
        ⟨(World.cell?_of_block (heap_setCells_other _ _ _ _ _ hng)).trans S1.out.1, (World.cell?_of_block (heap_setCells_other _ _ _ _ _ hng)).trans S1.out.2⟩
      clear hb hH X0 S0 CHK S1 hck
      have ha3 : a < hf := by omega
      go_upto_region 16 with (with_reducible show wpList _ _ _ _ _ w1; refine at_store38 (.tmp 84) (.tmp 83) ?_ ?_ g (a * 64) H ?_ ?_ T1.out ?_; (with_reducible rfl); (with_reducible rfl); simp [Act.eval, Act.put]; simp [Act.eval, Act.put])
      generalize w1.setCells g (a * 64) (sc H) = w2 at *
      clear T1 X1
      obtain ⟨a1, ha1⟩ : ∃ a1, a1 = a + 1 := ⟨_, rfl⟩
      have HA1 := Lib.hid ha1
      have hfit2 : a1 + (nk + 63) / 64 ≤ hf := by omega
      clear ha1
      go_wp2_with fail
      go_loopg [87] nk (fun m2 v87 wi => ∃ mm : Nat, mm + m2 = nk ∧ v87 = .int .i64 (mm : Int) ∧ Hid (Sx w.heap.size w wi p k pv6 M6 g hf (fill (ov W a 64 H) a1 zk mm) ∧ (wi.cell? ⟨nb, 0, none⟩ = some (.slice A1 n1 c1) ∧ wi.cell? ⟨nb, 1, none⟩ = some (.slice A2 n2 c2))))
      case atStart => exact ⟨0, by omega, rfl, by rw [fill_zero]; exact X2.out, S2.out⟩
      case round =>
        clear X2 S2
        obtain ⟨mm, hmm, rfl, HI⟩ := hrel
        match gk with
        | 0 =>
          obtain rfl : mm = nk := by omega
          have CN := Lib.hid fun W => need_any mm W (by omega)
          have hsb : sct mm ≤ 300 := by omega
          have XE : Hid (Sx w.heap.size w wr p k pv6 M6 g hf (wk b cs (kk + 1))) := by
            have h1 := HI.out.1
            rw [HA1.out, HH.out] at h1
            rw [HWK.out]
            show Sx _ _ _ _ _ _ _ _ _ (fill (ov W a 64 (hd 2 kk zk)) (a + 1) zk zk.length)
            rw [HZK.out]
            exact h1
          have SE := Lib.hid HI.out.2
          clear HI
          go_wp2_with fail
          refine (CN.out _).mono ?_
          rintro e w3 ⟨rfl, rfl⟩
          go_wp2_with fail
          go_roundg m
          case measure => omega
          case rel => exact ⟨kk + 1, by omega, by go_num, by rw [HAK.out]; go_num, XE.out, SE.out⟩
        | m2 + 1 =>
          have hml : mm < nk := by omega
          obtain ⟨y, hy, hcell⟩ := (HRK.out.below (HI.out.1.b.mono (Nat.le_refl _))).2.2 mm (by have := HZK.out; omega)
          subst hy
          obtain ⟨d, hd⟩ : ∃ d, d = mm / 64 := ⟨_, rfl⟩
          obtain ⟨r, hr⟩ : ∃ r, r = mm % 64 := ⟨_, rfl⟩
          obtain ⟨x1, hx1⟩ : ∃ x1, x1 = a1 + d := ⟨_, rfl⟩
          have ha1 := HA1.out
          have hx1f : x1 < hf := by omega
          have hr64 : r < 64 := by omega
          have W1 : IntKind.i64.wrap ((a : Int) + 1) = (a1 : Int) := by rw [show (a : Int) + 1 = (a1 : Int) by omega]; exact IntWalk.i64_in _ (by omega)
          have W2 : ((mm : Int)).tdiv 64 = (d : Int) := by rw [Int.tdiv_eq_ediv_of_nonneg (by omega)]; omega
          have W3 : IntKind.i64.wrap (d : Int) = (d : Int) := IntWalk.i64_in _ (by omega)
          have W4 : IntKind.i64.wrap ((a1 : Int) + (d : Int)) = (x1 : Int) := by rw [show (a1 : Int) + (d : Int) = (x1 : Int) by omega]; exact IntWalk.i64_in _ (by omega)
          have W5 : ((mm : Int)).tmod 64 = (r : Int) := by rw [Int.tmod_eq_emod_of_nonneg (by omega)]; omega
          have W6 : IntKind.i64.wrap (r : Int) = (r : Int) := IntWalk.i64_in _ (by omega)
          have hby := HI.out.1.r.byte (by omega)
          have hcs : ∃ u, wr.cell? ⟨g, x1 * 64 + r, none⟩ = some u := by
            rw [hx1, hd, hr]
            exact Option.ne_none_iff_exists'.1 hby.1
          obtain ⟨u0, hu0⟩ := hcs
          have hfz : wr.frozen? ⟨g, x1 * 64 + r, none⟩ = false := by rw [hx1, hd, hr]; exact hby.2.1
          have XB := Lib.hid (HI.out.1.byte (o := x1 * 64 + r) (by omega) (by rw [hx1, hd, hr]) _ rfl)
          have SB := Lib.hid HI.out.2
          clear HI hby ha1 hd hr hx1
          go_upto_region 19 with fail
          go_still_tail 13, (by kernel_rfl)
          change wpList _ _ _ _ _ wr.drew
          clear W1 W2 W3 W4 W5 W6
          have XC := Lib.hid (show Sx w.heap.size w (wr.drew.setCell ⟨g, x1 * 64 + r, none⟩ (.int .u8 ((zk.getD mm 0 : Nat) : Int))) p k pv6 M6 g hf (fill (ov W a 64 H) a1 zk (mm + 1)) from XB.out.below (Nat.le_refl _) (drew_set wr ⟨g, x1 * 64 + r, none⟩ _))
          have SC : Hid ((wr.drew.setCell ⟨g, x1 * 64 + r, none⟩ (.int .u8 ((zk.getD mm 0 : Nat) : Int))).cell? ⟨nb, 0, none⟩ = some (.slice A1 n1 c1) ∧ (wr.drew.setCell ⟨g, x1 * 64 + r, none⟩ (.int .u8 ((zk.getD mm 0 : Nat) : Int))).cell? ⟨nb, 1, none⟩ = some (.slice A2 n2 c2)) := by
            refine ⟨?_, ?_⟩
            · rw [World.cell?_setCell_other _ _ _ _ (by intro q; injection q with q; exact hng q.symm)]; exact SB.out.1
            · rw [World.cell?_setCell_other _ _ _ _ (by intro q; injection q with q; exact hng q.symm)]; exact SB.out.2
          go_wp2_with fail
          go_roundg m2
          case measure => omega
          case rel => exact ⟨mm + 1, by omega, by go_num, XC.out, SC.out⟩
end Go.Proofs.Ytjkfgdeiciligaa
