/-
  A disk and a log of the call's own (At), and the contracts of Open, Append and Begin over them: all goes well, or an error is told, and then the log is the one it was, or the next one. Conditions: fewer than a million calls are counted, turns are below 4000000000.
-/
import Derived.Test.YtjkfgdeiciligaaSpec
namespace Go.Proofs.Ytjkfgdeiciligaa
open Go.RowKit

/-- A disk and a log that were made behind w0, whose blocks below N are as they were. -/
structure At (N : Nat) (w0 w : World) (p k : Nat) (pv : Value) (M : Dk) (q : Nat) (rv : Value) (L : Lk) : Prop where
  d : Ds w p k pv M
  l : Ls w p q rv L (ft p k pv)
  b : Below N w0 w
  new : ∀ b, fs (ft p k pv) q rv b → N ≤ b
/-- A disk alone. -/
structure Ad (N : Nat) (w0 w : World) (p k : Nat) (pv : Value) (M : Dk) : Prop where
  d : Ds w p k pv M
  b : Below N w0 w
  new : ∀ b, ft p k pv b → N ≤ b
  hN : N ≤ w0.heap.size

section
variable {N : Nat} {w0 w w' : World} {p k : Nat} {pv pv' : Value} {M M' : Dk} {q : Nat} {rv rv' : Value} {L L' : Lk}
theorem Below.step {F F' : Nat → Prop} (h : Below N w0 w) (hs : Step w w' F F') (hN : N ≤ w0.heap.size) (hF : ∀ b, F b → N ≤ b) : Below N w0 w' :=
  h.trans (hs.below (Nat.le_trans hN h.size) hF)
theorem Step.new {F F' : Nat → Prop} (hs : Step w w' F F') (hN : N ≤ w.heap.size) (hF : ∀ b, F b → N ≤ b) : ∀ b, F' b → N ≤ b := fun b hb => (hs.foot b hb).elim (hF b) (fun e => Nat.le_trans hN e)
theorem Ad.below (h : Ad N w0 w p k pv M) (hb : Below w.heap.size w w') : Ad N w0 w' p k pv M :=
  ⟨h.d.below hb, h.b.trans (hb.mono (Nat.le_trans h.hN h.b.size)), h.new, h.hN⟩
theorem At.below (h : At N w0 w p k pv M q rv L) (hN : N ≤ w0.heap.size) (hb : Below w.heap.size w w') : At N w0 w' p k pv M q rv L :=
  ⟨h.d.below hb, h.l.below hb, h.b.trans (hb.mono (Nat.le_trans hN h.b.size)), h.new⟩
theorem At.ad (h : At N w0 w p k pv M q rv L) (hN : N ≤ w0.heap.size) : Ad N w0 w p k pv M := ⟨h.d, h.b, fun b hb => h.new b (.inl hb), hN⟩

/-- Where Append and Begin leave it. -/
theorem At.post {r : Int × Lk × Dk} {e : Ending} (h : At N w0 w p k pv M q rv L) (hN : N ≤ w0.heap.size) (hp : LPost w p k pv q rv r e w') : e = .returned (.int .i64 r.1) ∧ ∃ pv' rv', At N w0 w' p k pv' r.2.2 q rv' r.2.1 ∧ Step w w' (fs (ft p k pv) q rv) (fs (ft p k pv') q rv') := by
  obtain ⟨e1, pv1, rv1, d1, l1, s1, n1⟩ := hp
  have hNw : N ≤ w.heap.size := Nat.le_trans hN h.b.size
  exact ⟨e1, pv1, rv1, ⟨d1, l1, Below.step h.b s1 hN h.new, s1.new hNw h.new⟩, s1⟩
end

theorem Sys.small {M : Dk} {L : Lk} (h : Sys M L) (h5 : M.n ≤ 512) : L.size ≤ 256 ∧ L.first ≤ L.size ∧ L.fin ≤ 256 ∧ L.recs.length ≤ 256 := by
  have h1 := h.half
  have h2 := h.gd.le
  have h3 := h.gd.adv
  refine ⟨by omega, ?_, by omega, by omega⟩
  rcases h.gd.fst with h0 | h0 <;> omega

/-- What becomes of Append. -/
inductive Done (M : Dk) (L L' : Lk) (r0 r : Int) (M' : Dk) (L'' : Lk) : Prop where
  | no (h : r0 ≠ 0) (e : r = r0) (em : M' = M) (el : L'' = L)
  | ok (h : r0 = 0) (e : r = 0) (el : L'' = L') (s : Sys M' L') (kp : Kp M M')
  | err (h : r0 = 0) (e : r ≠ 0) (el : L'' = { L with broken := true }) (s : Stp M L L' r M')

theorem apd_done {M : Dk} {L : Lk} {zs : List Nat} (h : Sys M L) (h5 : M.n ≤ 512) (hzb : Bs zs) : Done M L (L.more zs) (rf6 L zs.length ((L.size : Int) - (L.fin : Int))) (apd L M zs).1 (apd L M zs).2.2 (apd L M zs).2.1 := by
  by_cases hr : rf6 L zs.length ((L.size : Int) - (L.fin : Int)) = 0
  · rcases apd_spec h h5 hzb hr with ⟨h1, h2, h3, h4⟩ | ⟨h1, h2, h3⟩
    · exact .ok hr h1 h2 h3 h4
    · exact .err hr h1 h2 h3
  · have e : apd L M zs = (rf6 L zs.length ((L.size : Int) - (L.fin : Int)), L, M) := by rw [apd, if_neg hr]
    rw [e]
    exact .no hr rfl rfl rfl
theorem bgn_done {M : Dk} {L : Lk} {zs : List Nat} (h : Sys M L) (h5 : M.n ≤ 512) (ht : L.turn < 4000000000) (hzb : Bs zs) : Done M L (L.next zs) (rf6 L zs.length ((L.size : Int) - 1)) (bgn L M zs).1 (bgn L M zs).2.2 (bgn L M zs).2.1 := by
  by_cases hr : rf6 L zs.length ((L.size : Int) - 1) = 0
  · rcases bgn_spec h h5 ht hzb hr with ⟨h1, h2, h3, h4⟩ | ⟨h1, h2, h3, _⟩
    · exact .ok hr h1 h2 h3 h4
    · exact .err hr h1 h2 h3
  · have e : bgn L M zs = (rf6 L zs.length ((L.size : Int) - 1), L, M) := by rw [bgn, if_neg hr]
    rw [e]
    exact .no hr rfl rfl rfl
/-- Nothing stops it. -/
theorem Done.calm {M : Dk} {L L' : Lk} {r0 r : Int} {M' : Dk} {L'' : Lk} (h : Done M L L' r0 r M' L'') (hs : M.stop = none) (hf : M.fail = none) (h0 : r0 = 0) : r = 0 ∧ L'' = L' ∧ Sys M' L' ∧ Kp M M' := by
  cases h with
  | no h _ _ _ => exact (h h0).elim
  | ok _ e el s kp => exact ⟨e, el, s, kp⟩
  | err _ e _ s =>
    have := s.stop hs
    have := s.fail hf
    rcases s.err with ⟨h, _⟩ | ⟨h, _⟩ <;> omega

section
variable {N : Nat} {w0 w : World} {p k : Nat} {pv : Value} {M : Dk} {q : Nat} {rv : Value} {L : Lk}
theorem append_at (A : Option Addr) (zs : List Nat) (c : Nat) (h : At N w0 w p k pv M q rv L) (hN : N ≤ w0.heap.size) (hs : L.size ≤ 256 ∧ L.first ≤ L.size ∧ L.fin ≤ 256 ∧ L.recs.length ≤ 256) (hr : Rd w A zs) (hA : ∀ x, zs ≠ [] → A = some x → ¬ fs (ft p k pv) q rv x.block) (hzc : zs.length ≤ c) (hl : zs.length < 1000000000) (hc : M.calls + 1000 < 1000000) :
    Calls Try.prog 15 #[.pointer (some ⟨q, 0, none⟩), .slice A zs.length c] w fun e w' => e = .returned (.int .i64 (apd L M zs).1) ∧ ∃ pv' rv', At N w0 w' p k pv' (apd L M zs).2.2 q rv' (apd L M zs).2.1 ∧ Step w w' (fs (ft p k pv) q rv) (fs (ft p k pv') q rv') :=
  (append_any p k pv M q rv L A zs c w h.d h.l hr hA hzc hs.1 hs.2.1 (by omega) (by omega) hl hc).mono fun _ _ hp => h.post hN hp
theorem begin_at (A : Option Addr) (zs : List Nat) (c : Nat) (h : At N w0 w p k pv M q rv L) (hN : N ≤ w0.heap.size) (hs : L.size ≤ 256 ∧ L.first ≤ L.size ∧ L.fin ≤ 256 ∧ L.recs.length ≤ 256) (ht : L.turn < 4000000000) (hr : Rd w A zs) (hA : ∀ x, zs ≠ [] → A = some x → ¬ fs (ft p k pv) q rv x.block) (hzc : zs.length ≤ c) (hl : zs.length < 1000000000) (hc : M.calls + 1000 < 1000000) :
    Calls Try.prog 13 #[.pointer (some ⟨q, 0, none⟩), .slice A zs.length c] w fun e w' => e = .returned (.int .i64 (bgn L M zs).1) ∧ ∃ pv' rv', At N w0 w' p k pv' (bgn L M zs).2.2 q rv' (bgn L M zs).2.1 ∧ Step w w' (fs (ft p k pv) q rv) (fs (ft p k pv') q rv') :=
  (begin_any p k pv M q rv L A zs c w h.d h.l hr hA hzc hs.1 hs.2.1 ht hl hc).mono fun _ _ hp => h.post hN hp

/-- What Open leaves: a log, or an error. -/
def OAt (N : Nat) (w0 w : World) (p k : Nat) (pv : Value) (M : Dk) (L : Lk) (e : Ending) (w' : World) : Prop :=
  (∃ q pv' rv' M', e = .returned (.tuple #[.pointer (some ⟨q, 0, none⟩), .int .i64 0]) ∧ At N w0 w' p k pv' M' q rv' L ∧ Sys M' L ∧ Kp M M' ∧ Step w w' (ft p k pv) (ft p k pv') ∧ w.heap.size ≤ q ∧ ∀ g, rv'.ownBlock = some g → w.heap.size ≤ g) ∨
  (∃ pv' er M', er ≠ 0 ∧ e = .returned (.tuple #[.pointer none, .int .i64 er]) ∧ Ad N w0 w' p k pv' M' ∧ Stp M L L er M' ∧ Step w w' (ft p k pv) (ft p k pv'))
theorem open_at (h : Ad N w0 w p k pv M) (hd : M.down = false) (hp : M.pend = []) (hn : M.n / 2 = L.size) (h5 : M.n ≤ 512) (hw : WG M.kept L) (hb : L.broken = false) (hK : ∀ i j, M.kept i j < 256) (ht : L.turn < 4000000000) (hc : M.calls + 1000 < 1000000) :
    Calls Try.prog 10 #[.pointer (some ⟨p, 0, none⟩)] w (OAt N w0 w p k pv M L) := by
  refine (open_any p k pv M w h.d (fun _ => hp) (fun _ => hK) (fun _ _ => by rw [ldd_wg hw hn hb]; exact ht) hc).mono fun e w' hp => ?_
  have hNw : N ≤ w.heap.size := Nat.le_trans h.hN h.b.size
  rcases opn_spec hd ‹M.pend = []› hn h5 hw hb hK with ⟨h1, h2, h3, h4⟩ | ⟨h1, h2, h3⟩
  · left
    rcases hopn : opn M with ⟨o, er, M1⟩
    rw [hopn] at hp h1 h2 h3 h4
    simp only at h1 h2 h3 h4
    subst h1 h2
    obtain ⟨q, pv1, rv1, e1, d1, l1, s1, hq, hr⟩ := hp
    refine ⟨q, pv1, rv1, M1, e1, ⟨d1, l1, Below.step h.b s1 h.hN h.new, ?_⟩, h3, h4, s1, hq, hr⟩
    rintro b (hb | hb | hb)
    · exact s1.new hNw h.new b hb
    · omega
    · exact Nat.le_trans hNw (hr b hb)
  · right
    rcases hopn : opn M with ⟨o, er, M1⟩
    rw [hopn] at hp h1 h2 h3
    simp only at h1 h2 h3
    subst h1
    obtain ⟨pv1, e1, d1, s1⟩ := hp
    exact ⟨pv1, er, M1, h2, e1, ⟨d1, Below.step h.b s1 h.hN h.new, s1.new hNw h.new, h.hN⟩, h3, s1⟩
theorem ldd_new {M : Dk} (hK : M.kept = fun _ => zer) : (ldd M).turn = 0 := by
  have ht : ∀ i, tin (M.kept i) = 0 := fun i => by
    rw [hK]
    have := tin_other (s := zer) (t := 1) (by omega) (.inl (by show (0 : Nat) ≠ 197; omega))
    show tin zer = 0
    omega
  unfold ldd
  have e1 : ∀ fr, ld1 ⟨M.n / 2, 0, 0, 0, [], false⟩ fr M.kept = ⟨M.n / 2, 0, 0, 0, [], false⟩ := fun fr => by
    unfold ld1
    rw [if_neg (by rw [ht]; simp)]
  rw [e1, e1]
/-- Open of a new disk. -/
theorem open_new (n : Nat) (h : Ad N w0 w p k pv ⟨n, fun _ => zer, [], 0, none, none, false⟩) (h4 : 4 ≤ n / 2) (h5 : n ≤ 512) :
    Calls Try.prog 10 #[.pointer (some ⟨p, 0, none⟩)] w fun e w' => ∃ q pv' rv' M', e = .returned (.tuple #[.pointer (some ⟨q, 0, none⟩), .int .i64 0]) ∧ At N w0 w' p k pv' M' q rv' ⟨n / 2, n / 2, 1, 2, [[]], false⟩ ∧ Sys M' ⟨n / 2, n / 2, 1, 2, [[]], false⟩ ∧ Kp ⟨n, fun _ => zer, [], 0, none, none, false⟩ M' := by
  refine (open_any p k pv _ w h.d (fun _ => rfl) (fun _ i j => by show 0 < 256; omega) (fun _ _ => by rw [ldd_new rfl]; omega) (by show 0 + 1000 < _; omega)).mono fun e w' hp => ?_
  have hNw : N ≤ w.heap.size := Nat.le_trans h.hN h.b.size
  obtain ⟨h1, h2, h3, h6⟩ := opn_new (M := ⟨n, fun _ => zer, [], 0, none, none, false⟩) rfl rfl rfl rfl h4 h5 rfl
  rcases hopn : opn ⟨n, fun _ => zer, [], 0, none, none, false⟩ with ⟨o, er, M1⟩
  rw [hopn] at hp h1 h2 h3 h6
  simp only at h1 h2 h3 h6
  subst h1 h2
  obtain ⟨q, pv1, rv1, e1, d1, l1, s1, hq, hr⟩ := hp
  refine ⟨q, pv1, rv1, M1, e1, ⟨d1, l1, Below.step h.b s1 h.hN h.new, ?_⟩, h3, h6⟩
  rintro b (hb | hb | hb)
  · exact s1.new hNw h.new b hb
  · omega
  · exact Nat.le_trans hNw (hr b hb)
end

/-- A new disk. -/
theorem of_at (n : Int) (m : Nat) (hm : min (max n 0) 512 = (m : Int)) {N : Nat} {w0 : World} (w : World) (hb : Below N w0 w) (hN : N ≤ w0.heap.size) :
    Calls Try.prog 9 #[.int .i64 n] w fun e w' => ∃ p k, e = .returned (.pointer (some ⟨p, 0, none⟩)) ∧ Ad N w0 w' p k (.slice none 0 0) ⟨m, fun _ => zer, [], 0, none, none, false⟩ :=
  (of_aux n m hm w).mono fun _ _ ⟨p, k, e, d, b, hp, hk⟩ => ⟨p, k, e, d, hb.trans (b.mono (Nat.le_trans hN hb.size)), fun b hb' => Nat.le_trans (Nat.le_trans hN hb.size) (ft_new hp hk b hb'), hN⟩
end Go.Proofs.Ytjkfgdeiciligaa
