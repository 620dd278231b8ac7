/-
  Part of the proof: several texts in one file. No condition of its own.
-/
import Derived.Test.YtilneflfeegnfaaGreatPQf
set_option linter.unusedSimpArgs false
set_option linter.unusedVariables false
namespace Go.Proofs.YtilneflfeegnfaaGreat
open Go.RowKit
def Jc (x : Stt) : Prop := ∀ k ∈ x.cs, Cs.opB k = true → ∀ s ∈ Sn.sg x.kn k.a, s.t ≤ k.r
def Fro (ys xs : List Cs.Ca) : Prop := ∀ k ∈ ys, Cs.opB k = true → ∃ k' ∈ xs, Cs.opB k' = true ∧ k'.a = k.a ∧ k'.r = k.r
theorem Fro.refl (xs : List Cs.Ca) : Fro xs xs := fun k hk ho => ⟨k, hk, ho, rfl, rfl⟩
theorem Fro.nil (xs : List Cs.Ca) : Fro [] xs := fun k hk => by cases hk
theorem Jc.fro {x y : Stt} (h : Jc x) (hf : Fro y.cs x.cs) (hk : ∀ a, ∀ s ∈ Sn.sg y.kn a, s ∈ Sn.sg x.kn a) : Jc y := by
  intro k hm ho s hs
  obtain ⟨k', hm', ho', ha, hr⟩ := hf k hm ho
  rw [← hr]
  exact h k' hm' ho' s (by rw [ha]; exact hk _ s hs)
theorem mv_ar (tg now : Int) (k : Cs.Ca) : (Cs.mv tg now k).a = k.a ∧ (Cs.mv tg now k).r = k.r := by
  unfold Cs.mv
  split <;> exact ⟨rfl, rfl⟩
theorem fro_set {xs : List Cs.Ca} {i : Nat} {k : Cs.Ca} (hk : xs[i]? = some k) (ho : Cs.opB k = true) (tg now : Int) : Fro (xs.set i (Cs.mv tg now k)) xs := by
  intro z hz hoz
  rcases List.mem_or_eq_of_mem_set hz with hz | rfl
  · exact ⟨z, hz, hoz, rfl, rfl⟩
  · exact ⟨k, List.mem_of_getElem? hk, ho, (mv_ar tg now k).1.symm, (mv_ar tg now k).2.symm⟩
theorem fro_st (ck : Int → Bool) (tg now a : Int) (xs : List Cs.Ca) : Fro (Cs.stO ck tg now a xs).1 xs := by
  unfold Cs.stO
  cases hf : Cs.fnd a xs with
  | none => exact Fro.nil xs
  | some i =>
    obtain ⟨k, hk, -, ho⟩ := Cs.fnd_at hf
    dsimp only
    split
    · unfold Cs.mvA
      rw [Cs.getD_at hk]
      exact fro_set hk ho tg now
    · exact Fro.nil xs
theorem fro_stop (x : Stt) (a : Int) : Fro (stpO x a).cs x.cs ∧ (stpO x a).kn = x.kn ∧ (stpO x a).hs = x.hs ∧ (stpO x a).now = x.now := by
  unfold stpO
  split
  · exact ⟨fro_st _ _ _ _ _, rfl, rfl, rfl⟩
  · exact ⟨Fro.refl _, rfl, rfl, rfl⟩
theorem Jc.stop {x : Stt} (h : Jc x) (a : Int) : Jc (stpO x a) := h.fro (fro_stop x a).1 (by rw [(fro_stop x a).2.1]; exact fun _ _ hs => hs)
theorem stop_no {x : Stt} (h : In x) (a : Int) : ∀ k ∈ (stpO x a).cs, Cs.opB k = true → k.a ≠ a := by
  unfold stpO
  cases hf : Cs.fnd a x.cs with
  | none =>
    rw [if_neg (by unfold Cs.stO; rw [hf]; show ¬ (7 : Int) = 0; decide)]
    exact Cs.fnd_no hf
  | some i =>
    obtain ⟨k, hk, hka, ho⟩ := Cs.fnd_at hf
    have e : Cs.stO (fun _ => true) 4 x.now a x.cs = (x.cs.set i (Cs.mv 4 x.now k), 0) := by
      rw [← hka]; exact stO_open h.cv.v hk ho _ _ _ rfl
    rw [e, if_pos rfl]
    intro z hz hoz hza
    have hz' : z ∈ x.cs.set i (Cs.mv 4 x.now k) := hz
    obtain ⟨j, hj, ej⟩ := List.mem_iff_getElem.1 hz'
    rw [List.length_set] at hj
    by_cases hij : i = j
    · subst hij
      rw [List.getElem_set_self] at ej
      rw [← ej] at hoz
      unfold Cs.mv at hoz
      rw [if_neg (by simp [Cs.opB])] at hoz
      simp [Cs.opB] at hoz
    · rw [List.getElem_set_ne hij] at ej
      have hzj : x.cs[j]? = some z := by rw [List.getElem?_eq_getElem hj, ej]
      have := fnd_open h.cv.v hzj hoz
      rw [hza, hf] at this
      injection this with this
      exact hij this
theorem sg_mem {ps : List Sn.Kp} {a : Int} {s : Sn.Sg} (h : s ∈ Sn.sg ps a) : ∃ y ∈ ps, y.a = a ∧ s ∈ y.ss := by
  by_cases hi : Sn.isAt ps a = true
  · exact ⟨_, Sn.isAt_mem hi, rfl, h⟩
  · rw [Sn.sg_no (by simpa using hi)] at h; cases h
theorem sg_filter {ps : List Sn.Kp} (hs : Sn.Srt ps) (p : Sn.Kp → Bool) (a : Int) : ∀ s ∈ Sn.sg (ps.filter p) a, s ∈ Sn.sg ps a := by
  intro s h
  obtain ⟨y, hy, rfl, hs'⟩ := sg_mem h
  rw [(hs.mem (List.mem_filter.1 hy).1).2]
  exact hs'
theorem sg_now {x : Stt} (h : In x) {a : Int} {s : Sn.Sg} (hs : s ∈ Sn.sg x.kn a) : 0 ≤ s.t ∧ s.t ≤ x.now := by
  obtain ⟨y, hy, -, hs'⟩ := sg_mem hs
  exact h.kt y hy s hs'
theorem Jc.t1 {x : Stt} (h : Jc x) (c : Cf) : Jc (t1 c x) := by
  refine h.fro (fun k hk ho => ?_) fun _ _ hs => hs
  have hk' : k ∈ x.cs.map (Cs.tk c.h (min (x.now + 1) 1099511627776)) := hk
  obtain ⟨k', hm, rfl⟩ := List.mem_map.1 hk'
  obtain ⟨h1, h2⟩ := Cs.tk_op ho
  exact ⟨k', hm, h2, by rw [h1], by rw [h1]⟩
theorem Jc.t2k {x : Stt} (h : Jc x) (c : Cf) (k : Cs.Ca) : Jc (t2k c x k) := by
  unfold Go.Proofs.YtilneflfeegnfaaGreat.t2k
  split
  · split
    · exact h.fro (fro_st _ _ _ _ _) fun _ _ hs => hs
    · exact h.stop k.a
  · exact h
theorem jc_fold (c : Cf) : ∀ (l : List Cs.Ca) (x : Stt), Jc x → Jc (l.foldl (t2k c) x)
  | [], _, h => h
  | k :: l, x, h => jc_fold c l _ (h.t2k c k)
theorem jc_push {x : Stt} (hi : In x) (h : Jc x) {ys : List Cs.Ca} (hf : ∀ k ∈ ys, k ∈ x.cs) (a : Int) : Jc { x with cs := ys ++ [Cs.nw a x.now] } := by
  intro k hk ho s hs
  rcases List.mem_append.1 hk with hk | hk
  · exact h k (hf k hk) ho s hs
  · have e : k = Cs.nw a x.now := by simpa using hk
    subst e
    show s.t ≤ cl x.now
    rw [cl_in hi.n0 hi.n1]
    exact (sg_now hi hs).2
theorem Jc.t3h {x : Stt} (h : Jc x) (hi : In x) (c : Cf) (y : Hl.Hr) : Jc (t3h c x y) := by
  unfold Go.Proofs.YtilneflfeegnfaaGreat.t3h
  split
  · rename_i he
    have h2 := he.2
    clear he
    unfold Cs.rsO at h2 ⊢
    cases hf : Cs.fnd y.a x.cs with
    | some i => rw [hf] at h2; exact absurd h2 (by show (6 : Int) ≠ 0; decide)
    | none =>
      rw [hf] at h2
      unfold Cs.rs1 at h2 ⊢
      dsimp only at h2 ⊢
      split at h2
      · exact absurd h2 (by show (8 : Int) ≠ 0; decide)
      · rename_i hq
        rw [if_neg hq]
        split
        · exact jc_push hi h (fun k hk => hk) y.a
        · rename_i hl
          rw [if_neg hl] at h2
          cases hp : Cs.spO c.i x.now x.cs with
          | none => rw [hp] at h2; exact absurd h2 (by show (4 : Int) ≠ 0; decide)
          | some i => exact jc_push hi h (fun k hk => (Cs.del_sub _ _).subset hk) y.a
  · exact h
theorem jc_t3 (c : Cf) : ∀ (l : List Hl.Hr) (x : Stt), (∀ y ∈ l, 0 ≤ y.a ∧ y.a < 4294967296) → In x → Jc x → Jc (l.foldl (t3h c) x)
  | [], _, _, _, h => h
  | y :: l, x, hp, hi, h => jc_t3 c l _ (fun z hz => hp z (by simp [hz])) (hi.t3h c y (hp y (by simp)).1 (hp y (by simp)).2) (h.t3h hi c y)
theorem Jc.t4 {x : Stt} (h : Jc x) (hi : In x) (c : Cf) : Jc (t4 c x) := h.fro (Fro.refl _) (sg_filter hi.kv.srt _)
theorem Jc.t5 {x : Stt} (h : Jc x) (c : Cf) : Jc (t5 c x).1 := by
  have e := t5_hs c x
  refine h.fro ?_ ?_
  · rw [e.2.2.2]; exact Fro.refl _
  · rw [e.2.2.1]; exact fun _ _ hs => hs
theorem in_t2 {x : Stt} (h : In x) (c : Cf) : In (t2 c x) := by
  rw [← gb_t2 c h]
  exact in_gbs h c
theorem jc_tick {x : Stt} (h : Jc x) (hi : In x) (c : Cf) : Jc (tickL c x).1 := by
  have i1 := hi.t1 c
  have i2 := in_t2 i1 c
  have j2 : Jc (t2 c (t1 c x)) := jc_fold c _ _ (h.t1 c)
  have j3 : Jc (t3 c (t2 c (t1 c x))) := jc_t3 c _ _ i2.ha i2 j2
  exact ((j3.t4 (i2.t3 c) c)).t5 c
theorem jc_upd {x y : Stt} {q : Int} (h : Jc x) (hy : q = 0 → Jc y) : Jc (upd x y q).1 := by
  by_cases hq : q = 0
  · subst hq; exact hy rfl
  · rw [upd_no hq]; exact h
theorem jc_know {x : Stt} (h : Jc x) (hi : In x) {a : Int} (h0 : 0 ≤ a) (h1 : a < 4294967296) {s : Sn.Sg} (ht : s.t = x.now) (he : Sn.putC x.kn a s = 0) : Jc (stpO { x with kn := Sn.putR x.kn a s } a) := by
  have hI := hi.know h0 h1 ht he
  have hno := stop_no hI a
  have hst := fro_stop { x with kn := Sn.putR x.kn a s } a
  intro k hk ho u hu
  have hne := hno k hk ho
  obtain ⟨k', hm', ho', ha, hr⟩ := hst.1 k hk ho
  rw [hst.2.1] at hu
  have hu' : u ∈ Sn.sg (Sn.putR x.kn a s) k.a := hu
  rw [(Sn.put_zero he).1, (hi.kv.srt.ins_at a s k.a).2, if_neg hne] at hu'
  rw [← hr]
  exact h k' hm' ho' u (by rw [ha]; exact hu')
theorem jc_saw {x : Stt} (h : Jc x) (hi : In x) {a : Int} (h0 : 0 ≤ a) (h1 : a < 4294967296) (s : Sn.Sg) : Jc (sawL x a s).1 := by
  unfold sawL
  split
  · split
    · exact h
    · have h' : Jc { x with pb := x.pb.filter fun p => p.a != a } := h
      exact jc_upd h fun he => jc_know h' (hi.an a) h0 h1 (sgL_t x s) he
  · exact jc_upd h fun he => jc_know h hi h0 h1 (sgL_t x s) he
theorem jc_do {x : Stt} (h : Jc x) (hi : In x) (c : Cf) {e : Evt} (he : e.Ok) : Jc (doL c x e).1 := by
  by_cases h0 : e.k = 0
  · unfold doL
    rw [if_pos h0]
    exact jc_tick h hi c
  · rw [doL_ch c x e h0]
    unfold chL
    split
    · exact jc_upd h fun hq => h
    split
    · have h' : Jc { x with hs := Hl.takeR x.hs e.h.a } := h
      exact jc_upd h fun hq => h'.stop e.h.a
    split
    · exact jc_upd h fun hq => h
    split
    · exact jc_upd h fun hq => h
    split
    · exact jc_saw h hi he.h.1 he.h.2.1 e.s
    split
    · exact jc_upd h fun hq => h.fro (fro_st _ _ _ _ _) fun _ _ hs => hs
    split
    · exact jc_upd h fun hq => h.fro (fro_st _ _ _ _ _) fun _ _ hs => hs
    · exact h
theorem jc_zst : Jc zst := fun k hk => by cases hk
theorem stale_old {c : Cf} {m : Option Su.Mc} {ss : List Su.Sg} {now : Int} (h : Su.stO c m ss now = 3) : ∃ s, ss.getLast? = some s ∧ wi now s.t c.b = false := by
  have ho : Su.oldB c ss now = true := by
    unfold Su.stO at h
    split at h
    · cases h
    · cases m with
      | none => dsimp only at h; split at h <;> cases h
      | some m =>
        dsimp only at h
        split at h
        · cases h
        · split at h
          · cases h
          · split at h
            · rename_i hb; exact hb
            · cases h
  unfold Su.oldB at ho
  cases hl : ss.getLast? with
  | none => rw [hl] at ho; cases ho
  | some s =>
    rw [hl] at ho
    refine ⟨s, rfl, ?_⟩
    cases hw : wi now s.t c.b with
    | false => rfl
    | true =>
      have ho' : (!wi now s.t c.b) = true := ho
      rw [hw] at ho'
      cases ho'
theorem tk_last {ss : List Sn.Sg} {s : Su.Sg} (h : (ss.map sgu).getLast? = some s) : Sn.any ss = true ∧ Sn.tk ss = s.t ∧ ∃ u ∈ ss, u.t = s.t := by
  rw [List.getLast?_map] at h
  cases hl : ss.getLast? with
  | none => rw [hl] at h; cases h
  | some u =>
    rw [hl] at h
    injection h with h
    subst h
    have hm : u ∈ ss := List.mem_of_getLast? hl
    refine ⟨?_, ?_, u, hm, rfl⟩
    · unfold Sn.any
      exact decide_eq_true (List.length_pos_of_mem hm)
    · unfold Sn.tk
      rw [List.getLast?_eq_getElem?] at hl
      rw [hl]
      rfl
theorem t2_loss (c : Cf) (a : Int) : ∀ (l : List Cs.Ca) (x : Stt), Hl.Srt x.hs → Hl.isAt x.hs a = true → Hl.isAt (l.foldl (t2k c) x).hs a = false → ∃ k ∈ l, ∃ y : Stt, k.g = 1 ∧ k.a = a ∧ hoO c y a = 3 ∧ y.now = x.now ∧ y.kn = x.kn
  | [], x, _, h1, h2 => by rw [List.foldl_nil, h1] at h2; cases h2
  | k :: l, x, hs, h1, h2 => by
    rw [List.foldl_cons] at h2
    have rest : Hl.Srt (t2k c x k).hs → Hl.isAt (t2k c x k).hs a = true → (t2k c x k).now = x.now → (t2k c x k).kn = x.kn → ∃ k' ∈ k :: l, ∃ y : Stt, k'.g = 1 ∧ k'.a = a ∧ hoO c y a = 3 ∧ y.now = x.now ∧ y.kn = x.kn := fun g1 g2 g3 g4 => by
      obtain ⟨k', hm, y, e1, e2, e3, e4, e5⟩ := t2_loss c a l (t2k c x k) g1 g2 h2
      exact ⟨k', by simp [hm], y, e1, e2, e3, e4.trans g3, e5.trans g4⟩
    by_cases hg : k.g = 1
    · by_cases hh : hoO c x k.a = 3
      · by_cases ha : k.a = a
        · exact ⟨k, by simp, x, hg, ha, ha ▸ hh, rfl, rfl⟩
        · have hia := stale_held hh
          have e : t2k c x k = { x with cs := (Cs.stO (fun g => g == 1) 5 x.now k.a x.cs).1, hs := Hl.takeR x.hs k.a } := by unfold t2k; rw [if_pos hg, if_pos hh]
          have er : Hl.takeR x.hs k.a = Hl.del x.hs k.a := by unfold Hl.takeR; rw [if_pos hia]
          refine rest ?_ ?_ ?_ ?_
          · rw [e]; show Hl.Srt (Hl.takeR x.hs k.a); rw [er]; exact hs.del k.a
          · rw [e]; show Hl.isAt (Hl.takeR x.hs k.a) a = true
            rw [er, (hs.del_at hia a).1, h1, decide_eq_false (fun h => ha h.symm)]; rfl
          · rw [e]
          · rw [e]
      · have e : t2k c x k = stpO x k.a := by unfold t2k; rw [if_pos hg, if_neg hh]
        have f := fro_stop x k.a
        exact rest (by rw [e, f.2.2.1]; exact hs) (by rw [e, f.2.2.1]; exact h1) (by rw [e, f.2.2.2]) (by rw [e, f.2.1])
    · have e : t2k c x k = x := by unfold t2k; rw [if_neg hg]
      exact rest (by rw [e]; exact hs) (by rw [e]; exact h1) (by rw [e]) (by rw [e])
theorem t2_now (c : Cf) : ∀ (l : List Cs.Ca) (x : Stt), (l.foldl (t2k c) x).now = x.now
  | [], _ => rfl
  | k :: l, x => by
    rw [List.foldl_cons, t2_now c l]
    unfold t2k
    split
    · split
      · rfl
      · exact (fro_stop x k.a).2.2.2
    · rfl
theorem tick_now (c : Cf) (x : Stt) : (tickL c x).1.now = min (x.now + 1) 1099511627776 := by
  unfold tickL
  rw [(t5_hs c _).2.1]
  show (t3 c (t2 c (t1 c x))).now = _
  unfold t3
  rw [(t3_hs c _ _).2.1]
  exact t2_now c _ _
theorem rcl_tick {c : Cf} (hb : 0 ≤ c.b) {x : Stt} (hi : In x) (h : Jc x) {a : Int} (h1 : Hl.isAt x.hs a = true) (h2 : Hl.isAt (tickL c x).1.hs a = false) :
    ∃ i k, Cs.fnd a x.cs = some i ∧ x.cs[i]? = some k ∧ k.g = 1 ∧ Sn.any (Sn.sg x.kn a) = true ∧ Sn.tk (Sn.sg x.kn a) ≤ k.r ∧ 0 ≤ Sn.tk (Sn.sg x.kn a) ∧ c.b ≤ (tickL c x).1.now - Sn.tk (Sn.sg x.kn a) ∧ (tickL c x).1.now ≤ 1099511627776 := by
  rw [tick_hs] at h2
  obtain ⟨k, hk, y, hg, ha, hh, hn, hkn⟩ := t2_loss c a (t1 c x).cs (t1 c x) hi.hs h1 h2
  have hk' : k ∈ x.cs.map (Cs.tk c.h (min (x.now + 1) 1099511627776)) := hk
  obtain ⟨k', hm, rfl⟩ := List.mem_map.1 hk'
  have ho : Cs.opB (Cs.tk c.h (min (x.now + 1) 1099511627776) k') = true := by unfold Cs.opB; rw [hg]; rfl
  obtain ⟨e1, e2⟩ := Cs.tk_op ho
  rw [e1] at hg ha
  obtain ⟨i, hil, hie⟩ := List.mem_iff_getElem.1 hm
  have hki : x.cs[i]? = some k' := by rw [List.getElem?_eq_getElem hil, hie]
  have hf := fnd_open hi.cv.v hki e2
  rw [ha] at hf
  unfold hoO at hh
  obtain ⟨s, hs, hw⟩ := stale_old hh
  rw [hkn] at hs
  have hs' : ((Sn.sg x.kn a).map sgu).getLast? = some s := hs
  obtain ⟨q1, q2, u, hu, hut⟩ := tk_last hs'
  have hun := sg_now hi hu
  have hj := h k' hm e2 u (by rw [ha]; exact hu)
  have n0 := hi.n0
  have n1 := hi.n1
  rw [tick_now]
  rw [hn] at hw
  have hw' : wi (min (x.now + 1) 1099511627776) s.t c.b = false := hw
  have hge : c.b ≤ min (x.now + 1) 1099511627776 - s.t := by
    refine Int.not_lt.1 fun hlt => ?_
    rw [Su.wi_new (by omega) (by omega) hlt (by omega)] at hw'
    cases hw'
  exact ⟨i, k', hf, hki, hg, q1, by omega, by omega, by omega, by omega⟩
theorem ch_hs {c : Cf} {x : Stt} {e : Evt} (h0 : e.k ≠ 0) (h2 : e.k ≠ 2) : x.hs.length ≤ (doL c x e).1.hs.length := by
  have hu : ∀ (y : Stt) (q : Int), (q = 0 → x.hs.length ≤ y.hs.length) → x.hs.length ≤ (upd x y q).1.hs.length := fun y q hy => by
    by_cases hq : q = 0
    · subst hq; exact hy rfl
    · rw [upd_no hq]; exact Nat.le_refl _
  rw [doL_ch c x e h0]
  unfold chL
  split
  · refine hu _ _ fun hq => ?_
    show x.hs.length ≤ (Hl.putR x.hs e.h).length
    rw [(Hl.put_zero hq).2.2.2, Hl.ins_length]
    omega
  split
  · exact hu _ _ fun hq => Nat.le_refl _
  split
  · exact hu _ _ fun hq => Nat.le_refl _
  split
  · unfold sawL
    split
    · split
      · exact Nat.le_refl _
      · exact hu _ _ fun hq => by rw [(fro_stop _ e.h.a).2.2.1]; exact Nat.le_refl _
    · exact hu _ _ fun hq => by rw [(fro_stop _ e.h.a).2.2.1]; exact Nat.le_refl _
  split
  · exact hu _ _ fun hq => Nat.le_refl _
  split
  · exact hu _ _ fun hq => Nat.le_refl _
  · exact Nat.le_refl _
end Go.Proofs.YtilneflfeegnfaaGreat
