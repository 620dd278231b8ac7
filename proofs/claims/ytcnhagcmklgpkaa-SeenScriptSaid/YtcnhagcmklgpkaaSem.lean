/-
  Rows of addresses that rise, each with sightings that are right: what one more sighting does to them, and what is forgotten. No condition but those that each theorem names.
-/
import Derived.Test.YtcnhagcmklgpkaaAct
set_option linter.unusedSimpArgs false
set_option linter.unusedVariables false
namespace Go.Proofs.Ytcnhagcmklgpkaa
open Go.RowKit

/-- Sightings none of which is older than the one ahead, nor than a tick. -/
def up : Int → List Sg → Prop
  | _, [] => True
  | t, x :: r => isrc x.f = true ∧ t ≤ x.t ∧ up x.t r
def lst : Int → List Sg → Int
  | t, [] => t
  | _, x :: r => lst x.t r
def ptg (t : Int) (ss : List Sg) : Nat → Int
  | 0 => t
  | i + 1 => (ss[i]?.getD zs).t
theorem up_iff : ∀ (ss : List Sg) (t : Int), (∀ (i : Nat) (x : Sg), ss[i]? = some x → isrc x.f = true ∧ ptg t ss i ≤ x.t) ↔ up t ss
  | [], t => by simp [up]
  | y :: r, t => by
    rw [up, ← up_iff r y.t]
    constructor
    · intro h
      have h0 := h 0 y rfl
      refine ⟨h0.1, h0.2, fun i x hx => ?_⟩
      have h1 := h (i + 1) x (by simpa using hx)
      refine ⟨h1.1, ?_⟩
      cases i with
      | zero => simpa [ptg] using h1.2
      | succ i => simpa [ptg] using h1.2
    · rintro ⟨h1, h2, h3⟩ i x hx
      cases i with
      | zero =>
        simp at hx
        subst hx
        exact ⟨h1, h2⟩
      | succ i =>
        have h4 := h3 i x (by simpa using hx)
        refine ⟨h4.1, ?_⟩
        cases i with
        | zero => simpa [ptg] using h4.2
        | succ i => simpa [ptg] using h4.2
theorem pt_ptg (ss : List Sg) (i : Nat) : pt ss i = ptg 0 ss i := by cases i <;> rfl
theorem rsP_up (ss : List Sg) : rsP ss ss.length = true ↔ up 0 ss := by
  rw [← up_iff]
  unfold rsP
  rw [List.all_eq_true]
  constructor
  · intro h i x hx
    have h1 := h i (List.mem_range.2 (List.getElem?_eq_some_iff.1 hx).1)
    simp only [sOk, hx, Bool.and_eq_true, decide_eq_true_eq, pt_ptg] at h1
    exact h1
  · intro h i hi
    obtain ⟨x, hx⟩ : ∃ x, ss[i]? = some x := ⟨_, List.getElem?_eq_getElem (List.mem_range.1 hi)⟩
    simp only [sOk, hx, Bool.and_eq_true, decide_eq_true_eq, pt_ptg]
    exact h i x hx
theorem rsB_iff (ss : List Sg) : rsB ss = true ↔ (1 ≤ ss.length ∧ ss.length ≤ 8) ∧ up 0 ss := by
  unfold rsB
  rw [Bool.and_eq_true, decide_eq_true_eq, rsP_up]
theorem up_mono {t u : Int} (h : u ≤ t) : ∀ {ss : List Sg}, up t ss → up u ss
  | [], _ => trivial
  | x :: r, ⟨h1, h2, h3⟩ => ⟨h1, by omega, h3⟩
theorem up_drop : ∀ (n : Nat) (ss : List Sg) (t : Int), up t ss → up t (ss.drop n)
  | 0, ss, t, h => h
  | n + 1, [], t, h => by simp [up]
  | n + 1, x :: r, t, ⟨_, h2, h3⟩ => by
    rw [List.drop_succ_cons]
    exact up_drop n r t (up_mono h2 h3)
theorem up_snoc : ∀ (ss : List Sg) (t : Int) (s : Sg), up t ss → isrc s.f = true → lst t ss ≤ s.t → up t (ss ++ [s])
  | [], t, s, _, hf, hl => ⟨hf, hl, trivial⟩
  | x :: r, t, s, ⟨h1, h2, h3⟩, hf, hl => ⟨h1, h2, up_snoc r x.t s h3 hf hl⟩
theorem lst_tk : ∀ (ss : List Sg) (t : Int), 0 < ss.length → lst t ss = tk ss
  | [x], t, _ => rfl
  | x :: y :: r, t, _ => by
    rw [lst, lst_tk (y :: r) x.t (by simp)]
    simp [tk]
theorem up_lst : ∀ (ss : List Sg) (t : Int), up t ss → t ≤ lst t ss
  | [], t, _ => Int.le_refl _
  | x :: r, t, ⟨_, h2, h3⟩ => by
    have := up_lst r x.t h3
    rw [lst]; omega
theorem tk_drop {ss : List Sg} {n : Nat} (h : n < ss.length) : tk (ss.drop n) = tk ss := by
  unfold tk
  rw [List.length_drop, List.getElem?_drop, show n + (ss.length - n - 1) = ss.length - 1 by omega]
theorem tk_snoc (ss : List Sg) (s : Sg) : tk (ss ++ [s]) = s.t := by
  unfold tk
  rw [List.length_append, List.length_singleton, Nat.add_sub_cancel]
  simp
theorem kp_tk (ss : List Sg) (s : Sg) : tk (kp ss s) = s.t := tk_snoc _ _
theorem kp_length (ss : List Sg) (s : Sg) : (kp ss s).length = min ss.length 7 + 1 := by
  unfold kp
  rw [List.length_append, List.length_drop, List.length_singleton]
  omega
theorem kp_any (ss : List Sg) (s : Sg) : any (kp ss s) = true := by
  unfold any
  rw [kp_length]
  simp
theorem kp_last (ss : List Sg) (s : Sg) : (kp ss s)[(kp ss s).length - 1]? = some s := by
  rw [kp_length, Nat.add_sub_cancel]
  unfold kp
  rw [List.getElem?_append_right (by rw [List.length_drop]; omega), List.length_drop]
  rw [show min ss.length 7 - (ss.length - (ss.length - 7)) = 0 by omega]
  rfl
theorem kp_eq (ss : List Sg) (s : Sg) : kp ss s = (ss ++ [s]).drop ((ss ++ [s]).length - 8) := by
  unfold kp
  rw [List.length_append, List.length_singleton, show ss.length + 1 - 8 = ss.length - 7 by omega, List.drop_append_of_le_length (by omega)]
/-- One more sighting that is right, and not older, leaves sightings right. -/
theorem kp_right {ss : List Sg} {s : Sg} (h : ss = [] ∨ rsB ss = true) (hf : isrc s.f = true) (h0 : 0 ≤ s.t) (ht : any ss = true → tk ss ≤ s.t) : rsB (kp ss s) = true := by
  rw [rsB_iff, kp_length]
  refine ⟨by omega, ?_⟩
  unfold kp
  refine up_snoc _ _ _ ?_ hf ?_
  · rcases h with rfl | h
    · simp [up]
    · exact up_drop _ _ _ ((rsB_iff _).1 h).2
  · rcases Nat.eq_zero_or_pos ss.length with e | e
    · rw [List.eq_nil_of_length_eq_zero e]
      exact h0
    · rw [lst_tk _ _ (by rw [List.length_drop]; omega), tk_drop (by omega)]
      exact ht (by simp [any, e])

/-- A row that rises. -/
def Srt (ys : List Kp) : Prop := ys.Pairwise (fun x y => x.a < y.a)
theorem Srt.lt {ys : List Kp} (h : Srt ys) {i j : Nat} {x y : Kp} (hij : i < j) (hx : ys[i]? = some x) (hy : ys[j]? = some y) : x.a < y.a := by
  obtain ⟨h1, rfl⟩ := List.getElem?_eq_some_iff.1 hx
  obtain ⟨h2, rfl⟩ := List.getElem?_eq_some_iff.1 hy
  exact List.pairwise_iff_getElem.1 h i j h1 h2 hij
theorem Srt.at {ys : List Kp} (h : Srt ys) {x : Kp} (hx : x ∈ ys) : ys[lo ys x.a]? = some x := by
  obtain ⟨q, hq, rfl⟩ := List.mem_iff_getElem.1 hx
  have hx' := List.getElem?_eq_getElem hq
  have hge : ¬ q < lo ys ys[q].a := fun hlt => by
    have := lo_lt _ ys q _ hlt hx'
    omega
  have hle := lo_le ys[q].a ys
  rcases Nat.lt_or_ge (lo ys ys[q].a) q with hlt | hge2
  · exfalso
    have hlL : lo ys ys[q].a < ys.length := by omega
    obtain ⟨z, hz⟩ : ∃ z, ys[lo ys ys[q].a]? = some z := ⟨ys[lo ys ys[q].a], List.getElem?_eq_getElem hlL⟩
    have h1 := h.lt hlt hz hx'
    exact lo_ge _ ys z hz h1
  · have : lo ys ys[q].a = q := by omega
    rw [this]
    exact hx'
/-- Who is in it, and with which sightings. -/
theorem Srt.mem {ys : List Kp} (h : Srt ys) {x : Kp} (hx : x ∈ ys) : isAt ys x.a = true ∧ sg ys x.a = x.ss := by
  have e := h.at hx
  have hi : isAt ys x.a = true := by unfold isAt; rw [e]; simp
  exact ⟨hi, sg_at hi e⟩
theorem isAt_mem {ys : List Kp} {a : Int} (h : isAt ys a = true) : (⟨a, sg ys a⟩ : Kp) ∈ ys := by
  obtain ⟨x, hx, hxa, _⟩ := isAt_some h
  have : (⟨a, sg ys a⟩ : Kp) = x := by rw [sg_at h hx, ← hxa]
  rw [this]
  exact List.mem_of_getElem? hx
theorem Srt.not {ys : List Kp} (h : Srt ys) {a : Int} (hi : isAt ys a = false) : ∀ x ∈ ys, x.a ≠ a := by
  rintro x hx rfl
  rw [(h.mem hx).1] at hi
  cases hi
theorem isAt_not {ys : List Kp} {a : Int} (h : ∀ x ∈ ys, x.a ≠ a) : isAt ys a = false := by
  cases e : isAt ys a with
  | false => rfl
  | true => exact absurd rfl (h _ (isAt_mem e))
theorem take_lo {ys : List Kp} (a : Int) : ∀ x ∈ ys.take (lo ys a), x.a < a := by
  intro x hx
  obtain ⟨q, hq, rfl⟩ := List.mem_iff_getElem.1 hx
  rw [List.length_take] at hq
  rw [List.getElem_take]
  exact lo_lt a ys q _ (by omega) (List.getElem?_eq_getElem (by omega))
theorem Srt.drop_lo {ys : List Kp} (h : Srt ys) (a : Int) : ∀ x ∈ ys.drop (lo ys a), a ≤ x.a := by
  intro x hx
  obtain ⟨q, hq, rfl⟩ := List.mem_iff_getElem.1 hx
  rw [List.length_drop] at hq
  rw [List.getElem_drop]
  obtain ⟨z, hz⟩ : ∃ z, ys[lo ys a]? = some z := ⟨_, List.getElem?_eq_getElem (by omega)⟩
  have hz2 := lo_ge a ys z hz
  rcases Nat.eq_zero_or_pos q with rfl | hp
  · have := (List.getElem?_eq_some_iff.1 hz).2
    simp only [Nat.add_zero]
    rw [this]; omega
  · have := h.lt (show lo ys a < lo ys a + q by omega) hz (List.getElem?_eq_getElem (by omega))
    omega
/-- Where the row goes on behind an address. -/
def dn (ys : List Kp) (a : Int) : Nat := lo ys a + if isAt ys a = true then 1 else 0
theorem Srt.rest {ys : List Kp} (h : Srt ys) (a : Int) : ∀ x ∈ ys.drop (dn ys a), a < x.a := by
  unfold dn
  cases hi : isAt ys a with
  | false =>
    intro x hx
    simp only [Bool.false_eq_true, if_false, Nat.add_zero] at hx
    have h1 := h.drop_lo a x hx
    have h2 := h.not hi x (List.mem_of_mem_drop hx)
    omega
  | true =>
    intro x hx
    simp only [if_true] at hx
    obtain ⟨z, hz, hza, hlt⟩ := isAt_some hi
    obtain ⟨q, hq, rfl⟩ := List.mem_iff_getElem.1 hx
    rw [List.length_drop] at hq
    rw [List.getElem_drop]
    have := h.lt (show lo ys a < lo ys a + 1 + q by omega) hz (List.getElem?_eq_getElem (by omega))
    omega
theorem ins_def (ys : List Kp) (a : Int) (s : Sg) : ins ys a s = ys.take (lo ys a) ++ [⟨a, kp (sg ys a) s⟩] ++ ys.drop (dn ys a) := rfl
theorem Srt.mem_ins {ys : List Kp} (h : Srt ys) {a : Int} {s : Sg} {x : Kp} : x ∈ ins ys a s ↔ x = ⟨a, kp (sg ys a) s⟩ ∨ x ∈ ys ∧ x.a ≠ a := by
  rw [ins_def, List.mem_append, List.mem_append, List.mem_singleton]
  constructor
  · rintro ((h1 | h1) | h1)
    · have := take_lo a x h1
      exact .inr ⟨List.mem_of_mem_take h1, by omega⟩
    · exact .inl h1
    · have := h.rest a x h1
      exact .inr ⟨List.mem_of_mem_drop h1, by omega⟩
  · rintro (h1 | ⟨h1, h2⟩)
    · exact .inl (.inr h1)
    · have hx' : x ∈ ys.take (lo ys a) ++ ys.drop (lo ys a) := by rw [List.take_append_drop]; exact h1
      rcases List.mem_append.1 hx' with h3 | h3
      · exact .inl (.inl h3)
      · right
        unfold dn
        cases hi : isAt ys a with
        | false => simpa using h3
        | true =>
          obtain ⟨z, hz, hza, hlt⟩ := isAt_some hi
          rw [List.drop_eq_getElem_cons hlt] at h3
          rcases List.mem_cons.1 h3 with rfl | h3
          · exfalso
            have := (List.getElem?_eq_some_iff.1 hz).2
            rw [this] at h2
            exact h2 hza
          · simpa using h3
theorem Srt.ins {ys : List Kp} (h : Srt ys) (a : Int) (s : Sg) : Srt (ins ys a s) := by
  rw [ins_def]
  unfold Srt
  rw [List.append_assoc, List.pairwise_append]
  refine ⟨h.sublist (List.take_sublist _ _), ?_, ?_⟩
  · rw [List.singleton_append, List.pairwise_cons]
    exact ⟨fun x hx => h.rest a x hx, h.sublist (List.drop_sublist _ _)⟩
  · intro x hx y hy
    have h1 := take_lo a x hx
    rcases List.mem_append.1 hy with hy | hy
    · have : y = ⟨a, kp (sg ys a) s⟩ := by simpa using hy
      rw [this]; exact h1
    · have := h.rest a y hy
      omega
theorem ins_length (ys : List Kp) (a : Int) (s : Sg) : (ins ys a s).length = ys.length + if isAt ys a = true then 0 else 1 := by
  have := lo_le a ys
  rw [ins_def, List.length_append, List.length_append, List.length_take, List.length_drop, List.length_singleton]
  unfold dn
  cases hi : isAt ys a with
  | false => simp; omega
  | true =>
    obtain ⟨_, _, _, hlt⟩ := isAt_some hi
    simp; omega
/-- What a row with one more sighting tells. -/
theorem Srt.ins_at {ys : List Kp} (h : Srt ys) (a : Int) (s : Sg) (b : Int) : isAt (Ytcnhagcmklgpkaa.ins ys a s) b = (decide (b = a) || isAt ys b) ∧ sg (Ytcnhagcmklgpkaa.ins ys a s) b = if b = a then kp (sg ys a) s else sg ys b := by
  have hs := h.ins a s
  by_cases e : b = a
  · subst e
    obtain ⟨h1, h2⟩ := hs.mem (h.mem_ins.2 (.inl rfl))
    dsimp only at h1 h2
    rw [h1, h2]
    simp
  · rw [if_neg e, decide_eq_false e, Bool.false_or]
    cases hi : isAt ys b with
    | true =>
      obtain ⟨h1, h2⟩ := hs.mem (h.mem_ins.2 (.inr ⟨isAt_mem hi, e⟩))
      exact ⟨h1, h2⟩
    | false =>
      have : isAt (Ytcnhagcmklgpkaa.ins ys a s) b = false := isAt_not fun x hx => by
        rcases h.mem_ins.1 hx with rfl | ⟨hx, _⟩
        · exact fun e' => e e'.symm
        · exact h.not hi x hx
      exact ⟨this, by rw [sg_no this, sg_no hi]⟩

/-- A row that is right. -/
structure V (ps : List Kp) : Prop where
  srt : Srt ps
  ok : ∀ x ∈ ps, rsB x.ss = true
  le : ps.length ≤ 96
theorem V.nil : V [] := ⟨List.Pairwise.nil, fun x hx => by simp at hx, by simp⟩
theorem V.bd {ps : List Kp} (h : V ps) : Bd ps := ⟨by have := h.le; omega, fun x hx => by have := ((rsB_iff _).1 (h.ok x hx)).1.2; omega⟩
theorem V.any {ps : List Kp} (h : V ps) (a : Int) : any (sg ps a) = isAt ps a := by
  cases hi : isAt ps a with
  | false => rw [sg_no hi]; rfl
  | true =>
    have := ((rsB_iff _).1 (h.ok _ (isAt_mem hi))).1.1
    dsimp only at this
    unfold Ytcnhagcmklgpkaa.any
    exact decide_eq_true (by omega)
theorem V.sgs {ps : List Kp} (h : V ps) (a : Int) : sg ps a = [] ∨ rsB (sg ps a) = true := by
  cases hi : isAt ps a with
  | false => exact .inl (sg_no hi)
  | true => exact .inr (h.ok _ (isAt_mem hi))
theorem V.sg8 {ps : List Kp} (h : V ps) (a : Int) : (sg ps a).length ≤ 8 := by
  rcases h.sgs a with e | e
  · rw [e]; simp
  · exact ((rsB_iff _).1 e).1.2
theorem put_zero {ps : List Kp} {a : Int} {s : Sg} (h : putC ps a s = 0) : putR ps a s = ins ps a s ∧ isrc s.f = true ∧ 0 ≤ s.t ∧ (any (sg ps a) = true → tk (sg ps a) ≤ s.t) ∧ (any (sg ps a) = false → ps.length < 96) := by
  refine ⟨by unfold putR; rw [h]; rfl, ?_⟩
  unfold putC at h
  split at h
  · cases h
  · rename_i h1
    split at h
    · cases h
    · rename_i h2
      split at h
      · cases h
      · rename_i h3
        refine ⟨by simpa using h1, ?_, fun e => ?_, fun e => ?_⟩
        · exact Int.not_lt.1 fun e => h2 (.inl e)
        · exact Int.not_lt.1 fun e' => h2 (.inr ⟨e, e'⟩)
        · exact Nat.not_le.1 fun e' => h3 ⟨e, e'⟩
theorem put_yes {ps : List Kp} {a : Int} {s : Sg} (h1 : isrc s.f = true) (h2 : 0 ≤ s.t) (h3 : any (sg ps a) = true → tk (sg ps a) ≤ s.t) (h4 : any (sg ps a) = false → ps.length < 96) : putC ps a s = 0 := by
  unfold putC
  rw [if_neg (by rw [h1]; simp), if_neg, if_neg]
  · rintro ⟨e, e'⟩
    have := h4 e
    omega
  · rintro (e | ⟨e, e'⟩)
    · omega
    · have := h3 e
      omega
theorem V.put {ps : List Kp} (h : V ps) {a : Int} {s : Sg} (hp : putC ps a s = 0) : V (ins ps a s) := by
  obtain ⟨_, h1, h2, h3, h4⟩ := put_zero hp
  refine ⟨h.srt.ins a s, fun x hx => ?_, ?_⟩
  · rcases h.srt.mem_ins.1 hx with rfl | ⟨hx, _⟩
    · exact kp_right (h.sgs a) h1 h2 h3
    · exact h.ok x hx
  · rw [ins_length]
    rw [h.any] at h4
    cases hi : isAt ps a with
    | false => have := h4 hi; simp; omega
    | true => have := h.le; simp; omega
theorem V.right {ps : List Kp} (h : V ps) : rightB ps = true := by
  unfold rightB
  rw [decide_eq_true h.le, Bool.true_and]
  unfold kPre
  rw [List.all_eq_true]
  intro i hi
  obtain ⟨x, hx⟩ : ∃ x, ps[i]? = some x := ⟨_, List.getElem?_eq_getElem (List.mem_range.1 hi)⟩
  simp only [kOk, hx, h.ok x (List.mem_of_getElem? hx), Bool.and_true]
  cases i with
  | zero => rfl
  | succ i =>
    obtain ⟨y, hy⟩ : ∃ y, ps[i]? = some y := ⟨_, List.getElem?_eq_getElem (by have := List.mem_range.1 hi; omega)⟩
    simp only [Nat.add_sub_cancel, hy]
    rw [decide_eq_true (h.srt.lt (by omega) hy hx), Bool.or_true]
theorem V.filter {ps : List Kp} (h : V ps) (p : Kp → Bool) : V (ps.filter p) :=
  ⟨h.srt.sublist List.filter_sublist, fun x hx => h.ok x (List.mem_filter.1 hx).1, Nat.le_trans (List.length_filter_le _ _) h.le⟩
/-- A row that rises in so many numbers has no more. -/
theorem srt_count : ∀ (ps : List Kp) (l : Int) (n : Nat), Srt ps → (∀ x ∈ ps, l ≤ x.a ∧ x.a < l + n) → ps.length ≤ n
  | [], _, _, _, _ => by simp
  | x :: r, l, n, h, hr => by
    have h1 := hr x (List.mem_cons_self ..)
    rcases List.pairwise_cons.1 h with ⟨h2, h3⟩
    cases n with
    | zero => omega
    | succ n =>
      have := srt_count r (l + 1) n h3 fun y hy => by
        have h4 := h2 y hy
        have h5 := hr y (List.mem_cons_of_mem _ hy)
        omega
      rw [List.length_cons]; omega

/-- A row and a tick behind one more deed, and behind the first k. -/
def sm (p : List Kp × Int) (a : Ac) : List Kp × Int := (if putC p.1 (near a.ad) (sgt a (p.2 + a.la % 8)) = 0 then putR p.1 (near a.ad) (sgt a (p.2 + a.la % 8)) else p.1, p.2 + a.la % 8)
def SM (xs : List Ac) (k : Nat) : List Kp × Int := (xs.take k).foldl sm ([], 0)
theorem SM_zero (xs : List Ac) : SM xs 0 = ([], 0) := rfl
theorem SM_succ {xs : List Ac} {k : Nat} {a : Ac} (h : xs[k]? = some a) : SM xs (k + 1) = sm (SM xs k) a := by
  unfold SM
  rw [List.take_add_one, h]
  simp
/-- What such a row is. -/
structure Gd (p : List Kp × Int) (k : Nat) : Prop where
  v : V p.1
  n0 : 0 ≤ p.2
  n1 : p.2 ≤ 7 * k
  near : ∀ x ∈ p.1, 167772160 ≤ x.a ∧ x.a < 167772160 + (64 : Nat)
  now : ∀ a, any (sg p.1 a) = true → tk (sg p.1 a) ≤ p.2
theorem Gd.le {p : List Kp × Int} {k : Nat} (h : Gd p k) : p.1.length ≤ 64 := srt_count p.1 167772160 64 h.v.srt h.near
/-- Each deed does what it should. -/
theorem Gd.can {p : List Kp × Int} {k : Nat} (h : Gd p k) (x : Int) (a : Ac) {t : Int} (ht : p.2 ≤ t) : putC p.1 x (sgt a t) = 0 := by
  have h0 := h.n0
  refine put_yes (sgt_src a t) (by show 0 ≤ t; omega) (fun e => ?_) (fun _ => by have := h.le; omega)
  have := h.now x e
  show _ ≤ t
  omega
theorem Gd.step {p : List Kp × Int} {k : Nat} (h : Gd p k) (a : Ac) : Gd (sm p a) (k + 1) ∧ (sm p a).1 = ins p.1 (Ytcnhagcmklgpkaa.near a.ad) (sgt a (p.2 + a.la % 8)) := by
  have hl : 0 ≤ a.la % 8 ∧ a.la % 8 ≤ 7 := by omega
  have hc := h.can (Ytcnhagcmklgpkaa.near a.ad) a (show p.2 ≤ p.2 + a.la % 8 by omega)
  have e : sm p a = (ins p.1 (Ytcnhagcmklgpkaa.near a.ad) (sgt a (p.2 + a.la % 8)), p.2 + a.la % 8) := by
    unfold sm
    rw [if_pos hc, (put_zero hc).1]
  rw [e]
  have h0 := h.n0
  have h1 := h.n1
  refine ⟨⟨h.v.put hc, by dsimp only; omega, by dsimp only; omega, fun x hx => ?_, fun b hb => ?_⟩, rfl⟩
  · rcases h.v.srt.mem_ins.1 hx with rfl | ⟨hx, _⟩
    · show 167772160 ≤ 167772160 + a.ad % 64 ∧ 167772160 + a.ad % 64 < 167772160 + ((64 : Nat) : Int)
      omega
    · exact h.near x hx
  · dsimp only at hb ⊢
    rw [(h.v.srt.ins_at _ _ b).2] at hb ⊢
    split
    · rw [kp_tk]
      exact Int.le_refl _
    · rename_i hne
      rw [if_neg hne] at hb
      have := h.now b hb
      omega
theorem SM_good (xs : List Ac) : ∀ k, k ≤ xs.length → Gd (SM xs k) k
  | 0, _ => ⟨V.nil, Int.le_refl _, by show (0 : Int) ≤ 7 * 0; omega, fun x hx => by simp [SM_zero] at hx, fun a ha => by simp [SM_zero, sg, isAt, any] at ha⟩
  | k + 1, hk => by
    rw [SM_succ (List.getElem?_eq_getElem (show k < xs.length by omega))]
    exact ((SM_good xs k (by omega)).step _).1
/-- How many of the first k deeds are of an address. -/
def came (xs : List Ac) (a : Int) (k : Nat) : Nat := ((xs.take k).filter fun x => decide (near x.ad = a)).length
theorem came_succ {xs : List Ac} {a : Int} {k : Nat} {x : Ac} (h : xs[k]? = some x) : came xs a (k + 1) = came xs a k + if near x.ad = a then 1 else 0 := by
  unfold came
  rw [List.take_add_one, h, List.filter_append, List.length_append]
  by_cases e : near x.ad = a <;> simp [e]
theorem came_le (xs : List Ac) (a : Int) (k : Nat) : came xs a k ≤ k := by
  unfold came
  exact Nat.le_trans (List.length_filter_le _ _) (by rw [List.length_take]; omega)
theorem SM_came (xs : List Ac) (a : Int) : ∀ k, k ≤ xs.length → (sg (SM xs k).1 a).length = min (came xs a k) 8
  | 0, _ => by simp [SM_zero, sg, isAt, came]
  | k + 1, hk => by
    have hx := List.getElem?_eq_getElem (show k < xs.length by omega)
    have hg := SM_good xs k (by omega)
    have ih := SM_came xs a k (by omega)
    rw [SM_succ hx, (hg.step _).2, (hg.v.srt.ins_at _ _ a).2, came_succ hx]
    by_cases e : a = near xs[k].ad
    · rw [if_pos e, if_pos e.symm, kp_length, ← e, ih]
      omega
    · rw [if_neg e, if_neg (Ne.symm e), ih]
      omega
end Go.Proofs.Ytcnhagcmklgpkaa
