/-
  A log that stands on a disk (WG), and with zeros behind it (Gd): that Open finds it, and that it stays, or is the next one, wherever its writes end, and however they are torn. Plain data. Conditions: as each lemma says.
-/
import Derived.Test.YtjkfgdeiciligaaGood
namespace Go.Proofs.Ytjkfgdeiciligaa

/-- The log L stands there. -/
structure WG (K : Nat → Nat → Nat) (L : Lk) : Prop where
  fst : L.first = 0 ∨ L.first = L.size
  sz : 4 ≤ L.size
  turn : 1 ≤ L.turn
  tlt : L.turn < 4294967296
  head : Sm (K L.first) (hd 1 L.turn [])
  recs : rcf (fun i => K (L.first + i)) L.size L.size 1 0 = (L.recs, L.fin)
  ne : L.recs ≠ []
  mark : L.fin < L.size → K (L.first + L.fin) 11 ≠ 197
  oth : K (L.size - L.first) 11 ≠ 197 ∨ num (K (L.size - L.first)) 2 4 < L.turn
/-- And zeros behind it. -/
structure Gd (K : Nat → Nat → Nat) (L : Lk) : Prop extends WG K L where
  zero : ∀ i, L.fin ≤ i → i < L.size → ∀ j, j < 64 → K (L.first + i) j = 0

namespace WG
variable {K K' : Nat → Nat → Nat} {L : Lk}
theorem le (h : WG K L) : L.fin ≤ L.size := by
  have := rcf_le (fun i => K (L.first + i)) L.size L.size 1 0 (by have := h.sz; omega)
  rwa [h.recs] at this
theorem adv (h : WG K L) : 1 + L.recs.length ≤ L.fin := by
  have := rcf_adv (fun i => K (L.first + i)) L.size L.size 1 0
  rwa [h.recs] at this
theorem two (h : WG K L) : 2 ≤ L.fin := by
  have := h.adv
  have := List.length_pos_iff.2 h.ne
  omega
/-- The same sectors where they matter: the same log. -/
theorem same (h : WG K L) (hg : ∀ i, i < L.fin → Sm (K (L.first + i)) (K' (L.first + i))) (hm : L.fin < L.size → K' (L.first + L.fin) 11 ≠ 197) (ho : K' (L.size - L.first) 11 ≠ 197 ∨ num (K' (L.size - L.first)) 2 4 < L.turn) : WG K' L := by
  have h2 := h.two
  refine ⟨h.fst, h.sz, h.turn, h.tlt, fun j hj => ?_, ?_, h.ne, hm, ho⟩
  · have := hg 0 (by omega) j hj
    rw [Nat.add_zero] at this
    rw [← this]
    exact h.head j hj
  · refine rcf_stable _ _ _ _ _ h.recs (fun i _ hi => hg i hi) ?_
    rcases Nat.lt_or_ge L.fin L.size with hlt | hge
    · exact rin_none (hm hlt)
    · exact rin_past hge
theorem tin_first (h : WG K L) : tin (K L.first) = L.turn := tin_head h.head h.tlt
theorem tin_oth (h : WG K L) : tin (K (L.size - L.first)) < L.turn := tin_other h.turn h.oth
end WG

theorem num_zeroed {s s' : Nat → Nat} {m : Nat} (h : ∀ j, s' j = if j < m then 0 else s j) : num s' 2 4 ≤ num s 2 4 := by
  have hj : ∀ j, s' j ≤ s j := fun j => by rw [h j]; split <;> omega
  rw [num_four, num_four]
  have := hj 2
  have := hj 3
  have := hj 4
  have := hj 5
  omega
theorem mark_zeroed {s s' : Nat → Nat} {m : Nat} (h : ∀ j, s' j = if j < m then 0 else s j) (hs : s 11 ≠ 197) : s' 11 ≠ 197 := by
  rw [h 11]
  split
  · omega
  · exact hs

/-- What Open finds. -/
theorem ldd_wg {M : Dk} {L : Lk} (h : WG M.kept L) (hn : M.n / 2 = L.size) (hb : L.broken = false) : ldd M = L := by
  have h1 := h.tin_first
  have h2 := h.tin_oth
  have ht := h.turn
  have hr := h.recs
  obtain ⟨size, first, turn, fin, recs, broken⟩ := L
  simp only at *
  subst hb
  unfold ldd
  rw [hn]
  rcases h.fst with h0 | h0
  · simp only at h0
    subst h0
    simp only [Nat.sub_zero] at h2
    have e1 : ld1 ⟨size, 0, 0, 0, [], false⟩ 0 M.kept = ⟨size, 0, turn, fin, recs, false⟩ := by
      unfold ld1
      rw [if_pos (by show 0 < tin (M.kept (0 + 0)); rw [Nat.add_zero, h1]; omega)]
      simp only [hr, Nat.add_zero, h1]
    rw [e1]
    unfold ld1
    rw [if_neg (by simp only [Nat.add_zero]; omega)]
  · simp only at h0
    subst h0
    simp only [Nat.sub_self] at h2
    have e1 : (ld1 ⟨first, 0, 0, 0, [], false⟩ 0 M.kept).turn < turn ∧ (ld1 ⟨first, 0, 0, 0, [], false⟩ 0 M.kept).broken = false := by
      unfold ld1
      split
      · simp only [Nat.add_zero]
        exact ⟨h2, trivial⟩
      · exact ⟨by show 0 < turn; omega, rfl⟩
    have e2 := ld1_size ⟨first, 0, 0, 0, [], false⟩ 0 M.kept
    generalize ld1 ⟨first, 0, 0, 0, [], false⟩ 0 M.kept = L1 at *
    simp only at e2
    unfold ld1
    rw [if_pos (by rw [Nat.add_zero, h1]; exact e1.1)]
    rw [e2, hr]
    simp only [Nat.add_zero, h1, e1.2]

/-- Zeros written behind the log, in part: it stays. -/
theorem WG.behind {K : Nat → Nat → Nat} {L : Lk} (h : WG K L) {l : List Wr} (hl : ∀ x ∈ l, L.first + L.fin ≤ x.1 ∧ x.1 < L.first + L.size ∧ x.2 = zer) (am : Nat → Nat) (m : Nat) : WG (kpa am l K m) L := by
  have h2 := h.two
  have hle := h.le
  have hsz := h.sz
  refine h.same (fun i hi => ?_) (fun hlt => ?_) ?_
  · rw [kpa_other (fun x hx e => by have := (hl x hx).1; omega)]
    exact fun _ _ => rfl
  · obtain ⟨z, hz⟩ := kpa_zero (am := am) (l := l) (K := K) (fun x hx => (hl x hx).2.2) (L.first + L.fin) m
    exact mark_zeroed hz (h.mark hlt)
  · rw [kpa_other (fun x hx e => by
      have := (hl x hx).1
      have := (hl x hx).2.1
      rcases h.fst with h0 | h0 <;> omega)]
    exact h.oth
/-- Zeros written behind the log. -/
theorem WG.cleared {K : Nat → Nat → Nat} {L : Lk} (h : WG K L) : Gd (app (ml (L.first + L.fin) (L.size - L.fin) (fun _ => zer)) K) L := by
  have hle := h.le
  refine ⟨h.behind (fun x hx => ?_) _ _, fun i h1 h2 j hj => ?_⟩
  · obtain ⟨h1, h2, h3⟩ := ml_mem hx
    exact ⟨h1, by omega, h3⟩
  · rw [app_ml, if_pos ⟨by omega, by omega, hj⟩]
    rfl

theorem bk_jn (zs : List Nat) : zs = jn (fun i => bk zs i) zs.length := by
  refine List.ext_getElem (by rw [jn_length]) fun i h1 h2 => ?_
  have := jn_getD (fun i => bk zs i) (m := zs.length) (i := i) h1
  rw [List.getD_eq_getElem?_getD, List.getElem?_eq_getElem h2] at this
  simp only [Option.getD_some] at this
  rw [this]
  unfold bk
  rw [show i / 64 * 64 + i % 64 = i by omega, List.getD_eq_getElem?_getD, List.getElem?_eq_getElem h1]
  rfl

/-- The log with one more record. -/
def Lk.more (L : Lk) (zs : List Nat) : Lk := { L with fin := L.fin + sct zs.length, recs := L.recs ++ [zs] }

section
variable {K : Nat → Nat → Nat} {L : Lk} {zs : List Nat}
/-- The bytes of a record that is appended, in part: the log stays. -/
theorem Gd.data (h : Gd K L) {l : List Wr} (hl : ∀ x ∈ l, L.first + L.fin + 1 ≤ x.1 ∧ x.1 < L.first + L.size) (am : Nat → Nat) (m : Nat) : WG (kpa am l K m) L := by
  have h2 := h.two
  have hsz := h.sz
  refine h.same (fun i hi => ?_) (fun hlt => ?_) ?_
  · rw [kpa_other (fun x hx e => by have := (hl x hx).1; omega)]
    exact fun _ _ => rfl
  · rw [kpa_other (fun x hx e => by have := (hl x hx).1; omega)]
    exact h.mark hlt
  · rw [kpa_other (fun x hx e => by
      have := (hl x hx).1
      have := (hl x hx).2
      rcases h.fst with h0 | h0 <;> omega)]
    exact h.oth
/-- Its head, in part: the log stays, or is the next one. -/
theorem Gd.head' (h : Gd K L) (hz : zs.length ≤ 16384) (hf : L.fin + sct zs.length ≤ L.size) (m : Nat) :
    (m < 12 → WG (ov (app (ml (L.first + L.fin + 1) ((zs.length + 63) / 64) (bk zs)) K) (L.first + L.fin) m (hd 2 L.recs.length zs)) L) ∧
    (12 ≤ m → Gd (ov (app (ml (L.first + L.fin + 1) ((zs.length + 63) / 64) (bk zs)) K) (L.first + L.fin) m (hd 2 L.recs.length zs)) (L.more zs)) := by
  have h2 := h.two
  have hsz := h.sz
  have hsp := sct_pos zs.length
  have hsc : sct zs.length = 1 + (zs.length + 63) / 64 := rfl
  have eK : ∀ i j, ov (app (ml (L.first + L.fin + 1) ((zs.length + 63) / 64) (bk zs)) K) (L.first + L.fin) m (hd 2 L.recs.length zs) i j = if i = L.first + L.fin ∧ j < m then hd 2 L.recs.length zs j else if L.first + L.fin + 1 ≤ i ∧ i < L.first + L.fin + 1 + (zs.length + 63) / 64 ∧ j < 64 then bk zs (i - (L.first + L.fin + 1)) j else K i j := by
    intro i j
    show (if _ then _ else _) = _
    rw [app_ml]
  generalize ov (app (ml (L.first + L.fin + 1) ((zs.length + 63) / 64) (bk zs)) K) (L.first + L.fin) m (hd 2 L.recs.length zs) = K2 at *
  have hag : ∀ i, i < L.fin → Sm (K (L.first + i)) (K2 (L.first + i)) := fun i hi j hj => by rw [eK, if_neg (by omega), if_neg (by omega)]
  have hoth : K2 (L.size - L.first) = K (L.size - L.first) := by
    funext j
    rw [eK, if_neg (by rcases h.fst with h0 | h0 <;> omega), if_neg (by rcases h.fst with h0 | h0 <;> omega)]
  constructor
  · intro hm
    refine h.same hag (fun hlt => ?_) (by rw [hoth]; exact h.oth)
    rw [eK, if_neg (by omega), if_neg (by omega)]
    exact h.mark hlt
  · intro hm
    have hhead : Sm (K2 (L.first + L.fin)) (hd 2 L.recs.length zs) := fun j hj => by
      rw [eK]
      by_cases hjm : j < m
      · rw [if_pos ⟨rfl, hjm⟩]
      · rw [if_neg (fun e => hjm e.2), if_neg (by omega), hd_past _ _ _ (by omega)]
        exact h.zero L.fin (Nat.le_refl _) (by omega) j hj
    have hrec : rin (fun i => K2 (L.first + i)) L.size L.fin (0 + L.recs.length) = some zs := by
      rw [Nat.zero_add]
      refine rin_iff.2 ⟨by omega, hz, hf, hhead, ?_⟩
      refine (bk_jn zs).trans (jn_congr fun i hi j hj => ?_)
      rw [eK, if_neg (by omega), if_pos ⟨by omega, by omega, hj⟩]
      congr 1
      omega
    have hzero : ∀ i, L.fin + sct zs.length ≤ i → i < L.size → ∀ j, j < 64 → K2 (L.first + i) j = 0 := fun i h3 h4 j hj => by
      rw [eK, if_neg (by omega), if_neg (by omega)]
      exact h.zero i (by omega) h4 j hj
    have hlen : L.recs.length < L.size := by have := h.adv; omega
    refine ⟨⟨h.fst, h.sz, h.turn, h.tlt, fun j hj => ?_, ?_, by simp [Lk.more], fun hlt => ?_, ?_⟩, hzero⟩
    · have := hag 0 (by omega) j hj
      rw [Nat.add_zero] at this
      show K2 L.first j = _
      rw [← this]
      exact h.head j hj
    · refine rcf_snoc _ _ _ _ _ h.recs (fun i _ hi => hag i hi) hlen hrec ?_
      rcases Nat.lt_or_ge (L.fin + sct zs.length) L.size with hlt | hge
      · refine rin_none ?_
        show K2 (L.first + (L.fin + sct zs.length)) 11 ≠ 197
        rw [hzero _ (Nat.le_refl _) hlt 11 (by omega)]
        omega
      · exact rin_past hge
    · show K2 (L.first + (L.fin + sct zs.length)) 11 ≠ 197
      rw [hzero _ (Nat.le_refl _) hlt 11 (by omega)]
      omega
    · show K2 (L.size - L.first) 11 ≠ 197 ∨ num (K2 (L.size - L.first)) 2 4 < L.turn
      rw [hoth]
      exact h.oth
end

/-- The log that is begun next. -/
def Lk.next (L : Lk) (zs : List Nat) : Lk := { L with first := L.size - L.first, turn := L.turn + 1, fin := 1 + sct zs.length, recs := [zs] }

section
variable {K K' : Nat → Nat → Nat} {L : Lk} {zs : List Nat}
/-- Only the other region turned, and no newer head is there: the log stays. -/
theorem WG.away (h : WG K L) (hk : ∀ i, i < L.size → K' (L.first + i) = K (L.first + i)) (ho : K' (L.size - L.first) 11 ≠ 197 ∨ num (K' (L.size - L.first)) 2 4 < L.turn) : WG K' L := by
  have hle := h.le
  refine h.same (fun i hi => ?_) (fun hlt => ?_) ho
  · rw [hk i (by omega)]
    exact fun _ _ => rfl
  · rw [hk _ hlt]
    exact h.mark hlt
theorem apart {L : Lk} (hf : L.first = 0 ∨ L.first = L.size) {a i : Nat} (h1 : L.size - L.first ≤ a) (h2 : a < L.size - L.first + L.size) (hi : i < L.size) : a ≠ L.first + i := by
  rcases hf with h0 | h0 <;> omega
/-- Zeros in the other region, in part. -/
theorem WG.zeros (h : WG K L) {l : List Wr} (hl : ∀ x ∈ l, L.size - L.first ≤ x.1 ∧ x.1 < L.size - L.first + L.size ∧ x.2 = zer) (am : Nat → Nat) (m : Nat) : WG (kpa am l K m) L := by
  refine h.away (fun i hi => kpa_other (fun x hx => apart h.fst (hl x hx).1 (hl x hx).2.1 hi) _) ?_
  obtain ⟨z, hz⟩ := kpa_zero (am := am) (l := l) (K := K) (fun x hx => (hl x hx).2.2) (L.size - L.first) m
  rcases h.oth with ho | ho
  · exact .inl (mark_zeroed hz ho)
  · exact .inr (Nat.lt_of_le_of_lt (num_zeroed hz) ho)
/-- What is written behind the head of the other region, which is zeros. -/
theorem WG.inner (h : WG K L) (hz : K (L.size - L.first) 11 = 0) {l : List Wr} (hl : ∀ x ∈ l, L.size - L.first + 1 ≤ x.1 ∧ x.1 < L.size - L.first + L.size) (am : Nat → Nat) (m : Nat) : WG (kpa am l K m) L ∧ kpa am l K m (L.size - L.first) = K (L.size - L.first) := by
  have e : kpa am l K m (L.size - L.first) = K (L.size - L.first) := kpa_other (fun x hx => by have := (hl x hx).1; omega) _
  refine ⟨h.away (fun i hi => kpa_other (fun x hx => apart h.fst (by have := (hl x hx).1; omega) (hl x hx).2 hi) _) (.inl ?_), e⟩
  rw [e, hz]
  omega
/-- All of a beginning: the next log, zeros behind it. -/
theorem begun (hf : L.first = 0 ∨ L.first = L.size) (hsz : 4 ≤ L.size) (ht : L.turn + 1 < 4294967296) (hz : zs.length ≤ 16384) (hfit : 1 + sct zs.length ≤ L.size) (ho : K L.first 11 ≠ 197 ∨ num (K L.first) 2 4 < L.turn + 1) (m : Nat) (hm : 12 ≤ m) :
    Gd (ov (ov (app (ml (L.size - L.first + 1 + 1) ((zs.length + 63) / 64) (bk zs)) (app (ml (L.size - L.first) L.size (fun _ => zer)) K)) (L.size - L.first + 1) 64 (hd 2 0 zs)) (L.size - L.first) m (hd 1 (L.turn + 1) [])) (L.next zs) := by
  have hsp := sct_pos zs.length
  have hsc : sct zs.length = 1 + (zs.length + 63) / 64 := rfl
  obtain ⟨o, hoe⟩ : ∃ o, o = L.size - L.first := ⟨_, rfl⟩
  have hoo : L.size - o = L.first := by rcases hf with h0 | h0 <;> omega
  have ho1 : o = 0 ∨ o = L.size := by rcases hf with h0 | h0 <;> omega
  have hof : ∀ i, i < L.size → o + i ≠ L.first := fun i hi => by rcases hf with h0 | h0 <;> omega
  rw [← hoe]
  have eK : ∀ i j, ov (ov (app (ml (o + 1 + 1) ((zs.length + 63) / 64) (bk zs)) (app (ml o L.size (fun _ => zer)) K)) (o + 1) 64 (hd 2 0 zs)) o m (hd 1 (L.turn + 1) []) i j = if i = o ∧ j < m then hd 1 (L.turn + 1) [] j else if i = o + 1 ∧ j < 64 then hd 2 0 zs j else if o + 1 + 1 ≤ i ∧ i < o + 1 + 1 + (zs.length + 63) / 64 ∧ j < 64 then bk zs (i - (o + 1 + 1)) j else if o ≤ i ∧ i < o + L.size ∧ j < 64 then 0 else K i j := by
    intro i j
    show (if _ then _ else if _ then _ else _) = _
    rw [app_ml, app_ml]
    rfl
  generalize ov (ov (app (ml (o + 1 + 1) ((zs.length + 63) / 64) (bk zs)) (app (ml o L.size (fun _ => zer)) K)) (o + 1) 64 (hd 2 0 zs)) o m (hd 1 (L.turn + 1) []) = K2 at *
  have hzero : ∀ i, 1 + sct zs.length ≤ i → i < L.size → ∀ j, j < 64 → K2 (o + i) j = 0 := fun i h3 h4 j hj => by
    rw [eK, if_neg (by omega), if_neg (by omega), if_neg (by omega), if_pos (by omega)]
  have hhead : Sm (K2 o) (hd 1 (L.turn + 1) []) := fun j hj => by
    rw [eK]
    by_cases hjm : j < m
    · rw [if_pos ⟨rfl, hjm⟩]
    · rw [if_neg (fun e => hjm e.2), if_neg (by omega), if_neg (by omega), if_pos (by omega), hd_past _ _ _ (by omega)]
  have hrec : rin (fun i => K2 (o + i)) L.size 1 0 = some zs := by
    refine rin_iff.2 ⟨by omega, hz, hfit, fun j hj => ?_, ?_⟩
    · show K2 (o + 1) j = _
      rw [eK, if_neg (by omega), if_pos ⟨rfl, hj⟩]
    · refine (bk_jn zs).trans (jn_congr fun i hi j hj => ?_)
      show bk zs i j = K2 (o + (1 + 1 + i)) j
      rw [eK, if_neg (by omega), if_neg (by omega), if_pos ⟨by omega, by omega, hj⟩]
      congr 1
      omega
  have hmark : 1 + sct zs.length < L.size → K2 (o + (1 + sct zs.length)) 11 ≠ 197 := fun hlt => by
    rw [hzero _ (Nat.le_refl _) hlt 11 (by omega)]
    omega
  have eN : L.next zs = ⟨L.size, o, L.turn + 1, 1 + sct zs.length, [zs], L.broken⟩ := by rw [Lk.next, hoe]
  rw [eN]
  refine ⟨⟨ho1, hsz, by show 1 ≤ L.turn + 1; omega, ht, hhead, ?_, by simp, hmark, ?_⟩, hzero⟩
  · have key : ∀ f, rcf (fun i => K2 (o + i)) L.size (f + 1) 1 0 = ([zs], 1 + sct zs.length) := fun f => by
      rw [rcf, hrec]
      simp only
      rw [rcf_stop f _ _ (by
        rcases Nat.lt_or_ge (1 + sct zs.length) L.size with hlt | hge
        · exact rin_none (hmark hlt)
        · exact rin_past hge)]
    have := key (L.size - 1)
    rwa [show L.size - 1 + 1 = L.size by omega] at this
  · show K2 (L.size - o) 11 ≠ 197 ∨ num (K2 (L.size - o)) 2 4 < L.turn + 1
    rw [hoo]
    have e : K2 L.first = K L.first := by
      funext j
      have h1 := hof 0 (by omega)
      have h2 := hof 1 (by omega)
      rw [eK, if_neg (by omega), if_neg (by omega), if_neg (fun h => hof (L.first - o) (by omega) (by omega)), if_neg (fun h => hof (L.first - o) (by omega) (by omega))]
    rw [e]
    exact ho
end

/-! ### what each call leaves -/
theorem kpa_byt {am : Nat → Nat} {l : List Wr} {K : Nat → Nat → Nat} (h : ∀ i j, K i j < 256) (hl : ∀ x ∈ l, ∀ j, x.2 j < 256) : ∀ n i j, kpa am l K n i j < 256
  | 0, i, j => h i j
  | n + 1, i, j => by
    rw [kpa]
    cases hx : l[n]? with
    | none => exact kpa_byt h hl n i j
    | some x =>
      simp only [ov]
      split
      · exact hl x (List.mem_of_getElem? hx) j
      · exact kpa_byt h hl n i j
theorem apps_byt {K : Nat → Nat → Nat} (h : ∀ i j, K i j < 256) : ∀ P : List (List Wr), (∀ l ∈ P, ∀ x ∈ l, ∀ j, x.2 j < 256) → ∀ i j, apps P K i j < 256 := by
  intro P
  induction P generalizing K with
  | nil => exact fun _ => h
  | cons l P ih => exact fun hl => ih (kpa_byt h (hl l (List.mem_cons_self ..)) _) (fun l' hl' => hl l' (List.mem_cons_of_mem _ hl'))

/-- A disk that is up, and the log that stands there. -/
structure Sys (M : Dk) (L : Lk) : Prop where
  down : M.down = false
  pend : M.pend = []
  half : M.n / 2 = L.size
  gd : Gd M.kept L
  ok : L.broken = false
  byt : ∀ i j, M.kept i j < 256
/-- What a call leaves that went well. -/
structure Kp (M M' : Dk) : Prop where
  n : M'.n = M.n
  stop : M.stop = none → M'.stop = none
  fail : M.fail = none → M'.fail = none
  calls : M'.calls ≤ M.calls + 1000
/-- What a call leaves that told an error. -/
structure Stp (M : Dk) (L L' : Lk) (e : Int) (M' : Dk) : Prop where
  n : M'.n = M.n
  stop : M.stop = none → e ≠ 9
  fail : M.fail = none → e ≠ 10
  err : e = 9 ∧ M'.down = true ∨ e = 10 ∧ M'.down = false
  calls : M'.calls ≤ M.calls + 1000
  all : ∀ am, WG (kpa am M'.pend M'.kept M'.pend.length) L ∨ WG (kpa am M'.pend M'.kept M'.pend.length) L'
  byt : ∀ am i j, kpa am M'.pend M'.kept M'.pend.length i j < 256
theorem Ran.kp {M M' : Dk} {K : Nat → Nat → Nat} {pd : List Wr} (h : Ran M K pd 0 M') (hc : M'.calls ≤ M.calls + 1000) : Kp M M' := ⟨h.n, fun e => (h.stop e).1, fun e => (h.fail e).1, hc⟩
theorem Ran.stp {M M' : Dk} {K : Nat → Nat → Nat} {pd : List Wr} {e : Int} {L L' : Lk} (h : Ran M K pd e M') (he : e ≠ 0) (hc : M'.calls ≤ M.calls + 1000) (hK : ∀ i j, K i j < 256) (hp : ∀ x ∈ pd, ∀ j, x.2 j < 256) (ha : ∀ am, WG (kpa am pd K pd.length) L ∨ WG (kpa am pd K pd.length) L') : Stp M L L' e M' := by
  refine ⟨h.n, fun e => (h.stop e).2, fun e => (h.fail e).2, ?_, hc, by rw [h.pend, h.kept]; exact ha, by rw [h.pend, h.kept]; exact fun am => kpa_byt hK hp _⟩
  rcases h.err with ⟨h1, _⟩ | h1 | h1
  · exact (he h1).elim
  · exact .inl h1
  · exact .inr h1

theorem zer_byt (a c : Nat) : ∀ x ∈ ml a c (fun _ => zer), ∀ j, x.2 j < 256 := fun x hx j => by rw [(ml_mem hx).2.2]; show 0 < 256; omega
theorem bk_byt {zs : List Nat} (h : Bs zs) (a c : Nat) : ∀ x ∈ ml a c (bk zs), ∀ j, x.2 j < 256 := fun x hx j => by rw [(ml_mem hx).2.2]; exact h _

theorem one_split {x : Wr} {l1 l2 : List Wr} (h : [x] = l1 ++ l2) : l1 = [] ∨ l1 = [x] := by
  cases l1 with
  | nil => exact .inl rfl
  | cons y l =>
    injection h with h1 h2
    rw [List.append_eq_nil_iff.1 h2.symm |>.1, ← h1]
    exact .inr rfl

/-- Open of a disk on which a log stands. -/
theorem opn_spec {M : Dk} {L : Lk} (hd : M.down = false) (hp : M.pend = []) (hn : M.n / 2 = L.size) (h5 : M.n ≤ 512) (hw : WG M.kept L) (hb : L.broken = false) (hK : ∀ i j, M.kept i j < 256) :
    ((opn M).1 = some L ∧ (opn M).2.1 = 0 ∧ Sys (opn M).2.2 L ∧ Kp M (opn M).2.2) ∨ ((opn M).1 = none ∧ (opn M).2.1 ≠ 0 ∧ Stp M L L (opn M).2.1 (opn M).2.2) := by
  have hl := ldd_wg hw hn hb
  have hsz := hw.sz
  have hle := hw.le
  have ep : prp (ldd M) M = ((M.go (zop (L.first + L.fin) (L.size - L.fin))).1, L, (M.go (zop (L.first + L.fin) (L.size - L.fin))).2) := by
    rw [hl, prp, if_neg hw.ne]
  have eo : opn M = if (M.go (zop (L.first + L.fin) (L.size - L.fin))).1 = 0 then (some L, 0, (M.go (zop (L.first + L.fin) (L.size - L.fin))).2) else (none, (M.go (zop (L.first + L.fin) (L.size - L.fin))).1, (M.go (zop (L.first + L.fin) (L.size - L.fin))).2) := by
    rw [opn, if_neg (by omega), if_neg (by rw [hd]; simp), ep]
  have hc := M.go_calls (zop (L.first + L.fin) (L.size - L.fin))
  rw [show (zop (L.first + L.fin) (L.size - L.fin)).length = L.size - L.fin + 1 by simp [zop]] at hc
  rw [eo]
  rw [zop_phs] at hc ⊢
  have hfs : L.first + L.size ≤ M.n := by rcases hw.fst with h0 | h0 <;> omega
  rcases go_phs [ml (L.first + L.fin) (L.size - L.fin) (fun _ => zer)] M hd hp (fun l hl x hx => by
    obtain rfl : l = _ := by simpa using hl
    have := ml_mem hx
    omega) with ⟨h1, h2⟩ | ⟨h1, P1, l1, l2, P2, hP, h2⟩
  · rw [if_pos h1]
    refine .inl ⟨rfl, rfl, ⟨h2.up, h2.pend, by rw [h2.n]; exact hn, by rw [h2.kept]; exact hw.cleared, hb, ?_⟩, h2.kp (by omega)⟩
    rw [h2.kept]
    exact apps_byt hK _ (fun l hl x hx => by
      obtain rfl : l = _ := by simpa using hl
      exact zer_byt _ _ x hx)
  · rw [if_neg h1]
    obtain ⟨rfl, hl12⟩ : P1 = [] ∧ ml (L.first + L.fin) (L.size - L.fin) (fun _ => zer) = l1 ++ l2 := by
      cases P1 with
      | nil => injection hP with h3 _; exact ⟨rfl, h3⟩
      | cons p P1 => injection hP with _ h4; simp at h4
    have hmem : ∀ x ∈ l1, x ∈ ml (L.first + L.fin) (L.size - L.fin) (fun _ => zer) := fun x hx => by rw [hl12]; exact List.mem_append_left _ hx
    refine .inr ⟨rfl, h1, h2.stp h1 (by omega) hK (fun x hx => zer_byt _ _ x (hmem x hx)) (fun am => .inl (hw.behind (fun x hx => ?_) _ _))⟩
    obtain ⟨h3, h4, h5⟩ := ml_mem (hmem x hx)
    exact ⟨h3, by omega, h5⟩
end Go.Proofs.Ytjkfgdeiciligaa
