/-
  The contracts of prepare and Open: what each returns, and what becomes of the disk and of the log. Conditions: a disk is there, nothing waits, its sectors have bytes, fewer than a million calls are counted, turns are below 4000000000.
-/
import Derived.Test.YtjkfgdeiciligaaLoad
set_option linter.unusedSimpArgs false
namespace Go.Proofs.Ytjkfgdeiciligaa
open Go.RowKit

/-- What prepare does. -/
def prp (L : Lk) (M : Dk) : Int × Lk × Dk :=
  if L.recs = [] then bgn L M [] else ((M.go (zop (L.first + L.fin) (L.size - L.fin))).1, L, (M.go (zop (L.first + L.fin) (L.size - L.fin))).2)

set_option maxHeartbeats 2000000 in
set_option maxRecDepth 100000 in
theorem prepare_any (p k : Nat) (pv : Value) (M : Dk) (q : Nat) (rv : Value) (L : Lk) (w : World) (h : Ds w p k pv M) (hq : Ls w p q rv L (ft p k pv)) (hs : L.size ≤ 256) (hf : L.first ≤ L.size) (hfin : L.fin ≤ L.size) (hrl : L.recs.length ≤ 1000) (ht : L.turn < 4000000000) (hc : M.calls + 1000 < 1000000) :
    Calls Try.prog 32 #[.pointer (some ⟨q, 0, none⟩)] w (LPost w p k pv q rv (prp L M)) := by
  obtain ⟨Ar, cr, hrv⟩ := hq.recs.shape
  have c5 : w.cell? ⟨q, 5, none⟩ = some (.slice Ar L.recs.length cr) := by rw [← hrv]; exact hq.cell 5
  unfold prp
  by_cases hz : L.recs = []
  · rw [if_pos hz]
    rw [hz] at c5
    have CB := Lib.hid (begin_any p k pv M q rv L none [] 0 w h hq (Rd.nil _ _) (fun x hx => (hx rfl).elim) (by simp) hs hf ht (by simp) hc)
    clear h hq hz hrv
    go_enter Try.func32, Try.ntmps32
    go_wp2_with fail
    refine CB.out.mono ?_
    rintro e w1 ⟨rfl, pv1, rv1, h1, q1, s1, n1⟩
    go_wp2_with fail
    go_ret
    exact ⟨rfl, pv1, rv1, h1, q1, s1, n1⟩
  · rw [if_neg hz]
    have hlen : ¬ (L.recs.length : Int) = 0 := by
      have := List.length_pos_iff.2 hz
      omega
    have CZ := Lib.hid fun w h => writeZeros_any p k pv M (L.first + L.fin) (L.first + L.size) w h (by omega) (by omega) (by omega)
    rw [show L.first + L.size - (L.first + L.fin) = L.size - L.fin by omega] at CZ
    have c0 : w.cell? ⟨q, 0, none⟩ = some (.pointer (some ⟨p, 0, none⟩)) := hq.cell 0
    have c1 : w.cell? ⟨q, 1, none⟩ = some (.int .i64 (L.size : Int)) := hq.cell 1
    have c2 : w.cell? ⟨q, 2, none⟩ = some (.int .i64 (L.first : Int)) := hq.cell 2
    have c4 : w.cell? ⟨q, 4, none⟩ = some (.int .i64 (L.fin : Int)) := hq.cell 4
    have E1 : IntKind.i64.wrap ((L.first : Int) + (L.fin : Int)) = ((L.first + L.fin : Nat) : Int) := by
      rw [show (L.first : Int) + (L.fin : Int) = ((L.first + L.fin : Nat) : Int) by omega]
      exact Lib.wrap_i64_small _ (by omega)
    have E2 : IntKind.i64.wrap ((L.first : Int) + (L.size : Int)) = ((L.first + L.size : Nat) : Int) := by
      rw [show (L.first : Int) + (L.size : Int) = ((L.first + L.size : Nat) : Int) by omega]
      exact Lib.wrap_i64_small _ (by omega)
    have H := Lib.hid h.drew
    have HQ := Lib.hid (show Ls w.drew p q rv L (ft p k pv) from hq.below (Below.refl _ w).drew)
    have S := Lib.hid (Step.refl w (fs (ft p k pv) q rv)).drew
    clear h hq hz hrv
    go_enter Try.func32, Try.ntmps32
    go_upto_region 3 with fail
    go_still_tail 22, (by kernel_rfl)
    change wpList _ _ _ _ _ w.drew
    clear c0 c1 c2 c4 c5 E1 E2
    generalize w.drew = w1 at *
    go_wp2_with fail
    refine (CZ.out _ H.out).mono ?_
    rintro e w2 ⟨rfl, pv2, h2, s2⟩
    have H2 := Lib.hid h2
    have Q2 := Lib.hid (HQ.out.step s2)
    have S2 := Lib.hid (S.out.trans (s2.wide q rv))
    clear h2 s2
    go_wp2_with fail
    go_ret
    exact ⟨rfl, pv2, rv, H2.out, Q2.out, S2.out, fun _ hg => .inl hg⟩

theorem rcf_le (R : Nat → Nat → Nat) (n : Nat) : ∀ f a k, a ≤ n → (rcf R n f a k).2 ≤ n
  | 0, a, k, h => h
  | f + 1, a, k, h => by
    rw [rcf]
    cases hr : rin R n a k with
    | none => exact h
    | some b => exact rcf_le R n f _ _ (rin_some hr).1
theorem rcf_len (R : Nat → Nat → Nat) (n : Nat) : ∀ f a k, (rcf R n f a k).1.length ≤ f
  | 0, a, k => by simp [rcf]
  | f + 1, a, k => by
    rw [rcf]
    cases hr : rin R n a k with
    | none => simp
    | some b =>
      have := rcf_len R n f (a + sct b.length) (k + 1)
      simp only [List.length_cons]
      omega
/-- The log that stands on a disk. -/
def ldd (M : Dk) : Lk := ld1 (ld1 ⟨M.n / 2, 0, 0, 0, [], false⟩ 0 M.kept) (M.n / 2) M.kept
structure Fit (L : Lk) (n : Nat) : Prop where
  size : L.size = n
  first : L.first ≤ n
  fin : L.fin ≤ n
  recs : L.recs.length ≤ n
theorem Fit.ld1 {L : Lk} {n : Nat} (h : Fit L n) (hn : 1 ≤ n) (fr : Nat) (hf : fr ≤ n) (K : Nat → Nat → Nat) : Fit (ld1 L fr K) n := by
  obtain ⟨h1, h2, h3, h4⟩ := h
  unfold Ytjkfgdeiciligaa.ld1
  split
  · subst h1
    exact ⟨rfl, hf, rcf_le _ _ _ _ _ hn, rcf_len _ _ _ _ _⟩
  · exact ⟨h1, h2, h3, h4⟩
theorem ldd_fit (M : Dk) (h : 1 ≤ M.n / 2) : Fit (ldd M) (M.n / 2) :=
  ((⟨rfl, Nat.zero_le _, Nat.zero_le _, Nat.zero_le _⟩ : Fit ⟨M.n / 2, 0, 0, 0, [], false⟩ (M.n / 2)).ld1 h 0 (Nat.zero_le _) _).ld1 h _ (Nat.le_refl _) _

/-- What Open does. -/
def opn (M : Dk) : Option Lk × Int × Dk :=
  if M.n / 2 < 4 then (none, 12, M) else if M.down = true then (none, 9, M) else
    if (prp (ldd M) M).1 = 0 then (some (prp (ldd M) M).2.1, 0, (prp (ldd M) M).2.2) else (none, (prp (ldd M) M).1, (prp (ldd M) M).2.2)

/-- What Open leaves. -/
def OPost (w : World) (p k : Nat) (pv : Value) (r : Option Lk × Int × Dk) (e : Ending) (w' : World) : Prop :=
  match r with
  | (none, er, M') => ∃ pv', e = .returned (.tuple #[.pointer none, .int .i64 er]) ∧ Ds w' p k pv' M' ∧ Step w w' (ft p k pv) (ft p k pv')
  | (some L, er, M') => ∃ q pv' rv', e = .returned (.tuple #[.pointer (some ⟨q, 0, none⟩), .int .i64 er]) ∧ Ds w' p k pv' M' ∧ Ls w' p q rv' L (ft p k pv') ∧ Step w w' (ft p k pv) (ft p k pv') ∧ w.heap.size ≤ q ∧ ∀ g, rv'.ownBlock = some g → w.heap.size ≤ g

theorem Step.narrow {w w1 w' : World} {F F' : Nat → Prop} {q : Nat} {rv rv' : Value} (h : Step w w1 F F) (g : Step w1 w' (fs F q rv) (fs F' q rv')) (hq : w.heap.size ≤ q) (hr : ∀ b, rv.ownBlock = some b → w.heap.size ≤ b) : Step w w' F F' :=
  ⟨g.os.trans h.os, g.tape.trans h.tape, g.output.trans h.output, Nat.le_trans h.size g.size,
   fun b hb hn => (g.block b (Nat.lt_of_lt_of_le hb h.size) (fun hf => by
     rcases hf with hf | hf | hf
     · exact hn hf
     · omega
     · have := hr b hf; omega)).trans (h.block b hb hn),
   fun b hb => by
     rcases g.foot b (.inl hb) with (hf | hf | hf) | e
     · exact .inl hf
     · exact .inr (by omega)
     · exact .inr (hr b hf)
     · exact .inr (Nat.le_trans h.size e)⟩

set_option maxHeartbeats 2000000 in
set_option maxRecDepth 100000 in
theorem open_any (p k : Nat) (pv : Value) (M : Dk) (w : World) (h : Ds w p k pv M) (hp : M.down = false → M.pend = []) (hK : M.down = false → ∀ i j, M.kept i j < 256) (ht : M.down = false → 4 ≤ M.n / 2 → (ldd M).turn < 4000000000) (hc : M.calls + 1000 < 1000000) :
    Calls Try.prog 10 #[.pointer (some ⟨p, 0, none⟩)] w (OPost w p k pv (opn M)) := by
  have CS := Lib.hid (size_any p k pv M w h)
  have hM := h.n
  have S0 := Lib.hid ((Step.refl w (ft p k pv)).alloc (.cells #[.pointer (some ⟨p, 0, none⟩), .int .i64 ((M.n : Int) / 2), .int .i64 0, .int .i64 0, .int .i64 0, .slice none 0 0, .bool false] 65))
  have H0 := Lib.hid (h.alloc (.cells #[.pointer (some ⟨p, 0, none⟩), .int .i64 ((M.n : Int) / 2), .int .i64 0, .int .i64 0, .int .i64 0, .slice none 0 0, .bool false] 65))
  have Q0 : Hid (Ls (w.alloc (.cells #[.pointer (some ⟨p, 0, none⟩), .int .i64 ((M.n : Int) / 2), .int .i64 0, .int .i64 0, .int .i64 0, .slice none 0 0, .bool false] 65)) p w.heap.size (.slice none 0 0) ⟨M.n / 2, 0, 0, 0, [], false⟩ (ft p k pv)) := by
    refine ⟨?_, Recs.nil _ _, fun hf => by have := h.lt _ hf; omega, fun g hg => by simp [Value.ownBlock] at hg⟩
    rw [heap_alloc_new]
    have e : ((M.n / 2 : Nat) : Int) = (M.n : Int) / 2 := by omega
    simp only [e]
    rfl
  clear h
  by_cases h4 : M.n / 2 < 4
  · have h4' : (M.n : Int) / 2 < 4 := by omega
    have EO : Hid (opn M = (none, 12, M)) := by show _ = _; rw [opn, if_pos h4]
    clear h4
    go_enter Try.func10, Try.ntmps10
    go_wp2_with fail
    refine CS.out.mono ?_
    rintro e w1 ⟨rfl, rfl⟩
    go_wp2_with fail
    go_ret2
    rw [EO.out]
    exact ⟨pv, rfl, H0.out, S0.out⟩
  have h4' : ¬ (M.n : Int) / 2 < 4 := by omega
  have HF := Lib.hid (ldd_fit M (by omega))
  have CD := Lib.hid fun W h => down_any p k pv M W h
  go_enter Try.func10, Try.ntmps10
  go_wp2_with fail
  refine CS.out.mono ?_
  rintro e w1 ⟨rfl, rfl⟩
  go_wp2_with fail
  generalize hw0 : w.alloc _ = w0 at *
  have hsz0 : Hid (w.heap.size < w0.heap.size) := by rw [← hw0]; show _ < _; simp
  clear hw0 CS
  refine (CD.out _ H0.out).mono ?_
  rintro e w1 ⟨rfl, rfl⟩
  cases hd : M.down
  · have EO : Hid (opn M = if (prp (ldd M) M).1 = 0 then (some (prp (ldd M) M).2.1, 0, (prp (ldd M) M).2.2) else (none, (prp (ldd M) M).1, (prp (ldd M) M).2.2)) := by
      show _ = _
      rw [opn, if_neg h4, if_neg (by rw [hd]; simp)]
    have HT := Lib.hid (ht hd (by omega))
    have CL := Lib.hid (load_any w.heap.size p k pv M w.heap.size (.slice none 0 0) ⟨M.n / 2, 0, 0, 0, [], false⟩ w0 H0.out Q0.out hd (hp hd) (show 1 ≤ M.n / 2 by omega) (show M.n / 2 + M.n / 2 ≤ M.n by omega) (hK hd) S0.out.size (fun g hg => by simp [Value.ownBlock] at hg))
    clear ht hp hK h4 hd
    go_wp2_with fail
    refine CL.out.mono ?_
    rintro e w2 ⟨rfl, hl⟩
    have HL := Lib.hid (show Ld w.heap.size w0 p k pv M w.heap.size (ldd M) w2 from hl)
    clear hl CL
    obtain ⟨rv2, hq2, hn2⟩ := HL.out.l
    have S2 := Lib.hid (show Step w w2 (ft p k pv) (ft p k pv) from ⟨HL.out.s.os.trans S0.out.os, HL.out.s.tape.trans S0.out.tape, HL.out.s.output.trans S0.out.output, Nat.le_trans S0.out.size HL.out.s.size, fun b hb hn => (HL.out.s.block b (Nat.lt_of_lt_of_le hb S0.out.size) (fun e => by have e : b = w.heap.size := e; omega)).trans (S0.out.block b hb hn), fun _ h => .inl h⟩)
    have D2 := Lib.hid HL.out.d
    have Q2 := Lib.hid hq2
    have N2 := Lib.hid hn2
    clear hq2 hn2 HL S0 H0 Q0
    generalize ldd M = L at *
    have CP := Lib.hid (prepare_any p k pv M w.heap.size rv2 L w2 D2.out Q2.out (by have := HF.out.size; omega) (by have := HF.out.size; have := HF.out.first; omega) (by have := HF.out.size; have := HF.out.fin; omega) (by have := HF.out.recs; omega) HT.out hc)
    go_wp2_with fail
    refine CP.out.mono ?_
    rintro e w3 ⟨rfl, pv3, rv3, h3, q3, s3, n3⟩
    generalize prp L M = r at *
    obtain ⟨er, L3, M3⟩ := r
    have D3 := Lib.hid h3
    have Q3 := Lib.hid q3
    have N3 : Hid (∀ g, rv3.ownBlock = some g → w.heap.size ≤ g) := fun g hg => (n3 g hg).elim (N2.out g) (fun e => Nat.le_trans S2.out.size e)
    have S3 := Lib.hid (Step.narrow S2.out s3 (Nat.le_refl _) N2.out)
    clear h3 q3 s3 n3 CP D2 Q2 N2 S2 HF HT
    by_cases he : er = 0
    · subst he
      rw [if_pos rfl] at EO
      go_wp2_with fail
      go_ret2
      rw [EO.out]
      exact ⟨w.heap.size, pv3, rv3, rfl, D3.out, Q3.out, S3.out, Nat.le_refl _, N3.out⟩
    · rw [if_neg he] at EO
      go_wp2_with fail
      go_ret2
      rw [EO.out]
      exact ⟨pv3, rfl, D3.out, S3.out⟩
  · have EO : Hid (opn M = (none, 9, M)) := by
      show _ = _
      rw [opn, if_neg h4, if_pos hd]
    clear ht
    go_wp2_with fail
    go_ret2
    rw [EO.out]
    exact ⟨pv, rfl, H0.out, S0.out⟩
end Go.Proofs.Ytjkfgdeiciligaa
