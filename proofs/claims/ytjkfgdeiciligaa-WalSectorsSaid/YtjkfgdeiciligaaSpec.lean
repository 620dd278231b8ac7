/-
  What Append, Begin, and Open of a new disk, make of a disk and of the log that stands there, as plain data: all goes well, or the log is the one it was, or the next one. Conditions: as each lemma says.
-/
import Derived.Test.YtjkfgdeiciligaaCrash
namespace Go.Proofs.Ytjkfgdeiciligaa

theorem pick4 {α : Type} {a b : α} {P1 : List α} {x : α} {P2 : List α} (h : [a, b] = P1 ++ x :: P2) : (P1 = [] ∧ x = a) ∨ (P1 = [a] ∧ x = b) := by
  match P1 with
  | [] => injection h with h1 h2; exact .inl ⟨rfl, h1.symm⟩
  | [c] => injection h with h1 h2; injection h2 with h3 h4; exact .inr ⟨by rw [h1], h3.symm⟩
  | c :: d :: r => injection h with h1 h2; injection h2 with h3 h4; simp at h4
theorem pick5 {α : Type} {a b c d e : α} {P1 : List α} {x : α} {P2 : List α} (h : [a, b, c, d, e] = P1 ++ x :: P2) : (P1 = [] ∧ x = a) ∨ (P1 = [a] ∧ x = b) ∨ (P1 = [a, b] ∧ x = c) ∨ (P1 = [a, b, c] ∧ x = d) ∨ (P1 = [a, b, c, d] ∧ x = e) := by
  match P1 with
  | [] => injection h with h1 h2; exact .inl ⟨rfl, h1.symm⟩
  | [p] => injection h with h1 h2; injection h2 with h3 h4; exact .inr (.inl ⟨by rw [h1], h3.symm⟩)
  | [p, q] => injection h with h1 h2; injection h2 with h3 h4; injection h4 with h5 h6; exact .inr (.inr (.inl ⟨by rw [h1, h3], h5.symm⟩))
  | [p, q, r] => injection h with h1 h2; injection h2 with h3 h4; injection h4 with h5 h6; injection h6 with h7 h8; exact .inr (.inr (.inr (.inl ⟨by rw [h1, h3, h5], h7.symm⟩)))
  | [p, q, r, s] => injection h with h1 h2; injection h2 with h3 h4; injection h4 with h5 h6; injection h6 with h7 h8; injection h8 with h9 h10; exact .inr (.inr (.inr (.inr ⟨by rw [h1, h3, h5, h7], h9.symm⟩)))
  | p :: q :: r :: s :: t :: u => injection h with h1 h2; injection h2 with h3 h4; injection h4 with h5 h6; injection h6 with h7 h8; injection h8 with h9 h10; simp at h10

theorem apd_spec {M : Dk} {L : Lk} {zs : List Nat} (h : Sys M L) (h5 : M.n ≤ 512) (hzb : Bs zs) (hr : rf6 L zs.length ((L.size : Int) - (L.fin : Int)) = 0) :
    ((apd L M zs).1 = 0 ∧ (apd L M zs).2.1 = L.more zs ∧ Sys (apd L M zs).2.2 (L.more zs) ∧ Kp M (apd L M zs).2.2) ∨ ((apd L M zs).1 ≠ 0 ∧ (apd L M zs).2.1 = { L with broken := true } ∧ Stp M L (L.more zs) (apd L M zs).1 (apd L M zs).2.2) := by
  obtain ⟨_, hz, hsc⟩ := rf6_zero hr
  have hg := h.gd
  have hsz := hg.sz
  have hle := hg.le
  have hsp := sct_pos zs.length
  have hscd : sct zs.length = 1 + (zs.length + 63) / 64 := rfl
  have hfit : L.fin + sct zs.length ≤ L.size := by omega
  have hh := h.half
  have hfs : L.first + L.size ≤ M.n := by rcases hg.fst with h0 | h0 <;> omega
  have hc := M.go_calls (fop (L.first + L.fin) 2 L.recs.length zs)
  rw [show (fop (L.first + L.fin) 2 L.recs.length zs).length = (zs.length + 63) / 64 + 3 by simp [fop]] at hc
  rw [apd, if_pos hr]
  rw [fop_phs] at hc ⊢
  have hdm : ∀ x ∈ ml (L.first + L.fin + 1) ((zs.length + 63) / 64) (bk zs), L.first + L.fin + 1 ≤ x.1 ∧ x.1 < L.first + L.size := fun x hx => by
    have := ml_mem hx
    omega
  have hK1 : ∀ i j, app (ml (L.first + L.fin + 1) ((zs.length + 63) / 64) (bk zs)) M.kept i j < 256 := kpa_byt h.byt (bk_byt hzb _ _) _
  rcases go_phs [ml (L.first + L.fin + 1) ((zs.length + 63) / 64) (bk zs), [(L.first + L.fin, hd 2 L.recs.length zs)]] M h.down h.pend (fun l hl x hx => by
    rcases (by simpa using hl : l = _ ∨ l = _) with rfl | rfl
    · have := hdm x hx; omega
    · obtain rfl : x = _ := by simpa using hx
      show L.first + L.fin < M.n
      omega) with ⟨h1, h2⟩ | ⟨h1, P1, l1, l2, P2, hP, h2⟩
  · rw [if_pos h1]
    have e2 : apps [ml (L.first + L.fin + 1) ((zs.length + 63) / 64) (bk zs), [(L.first + L.fin, hd 2 L.recs.length zs)]] M.kept = ov (app (ml (L.first + L.fin + 1) ((zs.length + 63) / 64) (bk zs)) M.kept) (L.first + L.fin) 64 (hd 2 L.recs.length zs) := rfl
    rw [e2] at h2
    refine .inl ⟨rfl, rfl, ⟨h2.up, h2.pend, by rw [h2.n]; exact hh, by rw [h2.kept]; exact (hg.head' hz hfit 64).2 (by omega), h.ok, ?_⟩, h2.kp (by omega)⟩
    rw [h2.kept, ← app_one]
    exact kpa_byt hK1 (fun x hx j => by (obtain rfl : x = _ := by simpa using hx); exact hd_lt _ _ _ (by omega) j) _
  · rw [if_neg h1]
    refine .inr ⟨h1, rfl, ?_⟩
    rcases pick4 hP with ⟨rfl, hx⟩ | ⟨rfl, hx⟩
    · have hmem : ∀ x ∈ l1, x ∈ ml (L.first + L.fin + 1) ((zs.length + 63) / 64) (bk zs) := fun x hx' => by rw [← hx]; exact List.mem_append_left _ hx'
      exact h2.stp h1 (by omega) h.byt (fun x hx => bk_byt hzb _ _ x (hmem x hx)) (fun am => .inl (hg.data (fun x hx => hdm x (hmem x hx)) _ _))
    · have e2 : apps [ml (L.first + L.fin + 1) ((zs.length + 63) / 64) (bk zs)] M.kept = app (ml (L.first + L.fin + 1) ((zs.length + 63) / 64) (bk zs)) M.kept := rfl
      rw [e2] at h2
      rcases one_split hx.symm with rfl | rfl
      · refine h2.stp h1 (by omega) hK1 (fun x hx => by simp at hx) (fun am => .inl ?_)
        exact hg.data hdm (fun _ => 64) _
      · refine h2.stp h1 (by omega) hK1 (fun x hx j => by (obtain rfl : x = _ := by simpa using hx); exact hd_lt _ _ _ (by omega) j) (fun am => ?_)
        show WG (kpa am [(L.first + L.fin, hd 2 L.recs.length zs)] _ 1) L ∨ WG (kpa am [(L.first + L.fin, hd 2 L.recs.length zs)] _ 1) (L.more zs)
        rw [kpa_one]
        rcases Nat.lt_or_ge (am 0) 12 with h3 | h3
        · exact .inl ((hg.head' hz hfit (am 0)).1 h3)
        · exact .inr ((hg.head' hz hfit (am 0)).2 h3).toWG

/-- Its phases, and what they are over. -/
def bph (L : Lk) (zs : List Nat) : List (List Wr) := [ml (L.size - L.first) L.size (fun _ => zer), ml (L.size - L.first + 1 + 1) ((zs.length + 63) / 64) (bk zs), [(L.size - L.first + 1, hd 2 0 zs)], [], [(L.size - L.first, hd 1 (L.turn + 1) [])]]
theorem bph_at {L : Lk} {zs : List Nat} {n : Nat} (hf : L.first = 0 ∨ L.first = L.size) (hn : n / 2 = L.size) (hfit : 1 + sct zs.length ≤ L.size) : ∀ l ∈ bph L zs, ∀ x ∈ l, x.1 < n := by
  intro l hl x hx
  have hscd : sct zs.length = 1 + (zs.length + 63) / 64 := rfl
  have hlt : L.size - L.first + L.size ≤ n := by rcases hf with h0 | h0 <;> omega
  rcases (by simpa [bph] using hl : l = _ ∨ l = _ ∨ l = _ ∨ l = _ ∨ l = _) with rfl | rfl | rfl | rfl | rfl
  · have := ml_mem hx; omega
  · have := ml_mem hx; omega
  · obtain rfl : x = _ := by simpa using hx
    show L.size - L.first + 1 < n
    omega
  · simp at hx
  · obtain rfl : x = _ := by simpa using hx
    show L.size - L.first < n
    omega
theorem bph_byt {L : Lk} {zs : List Nat} (h : Bs zs) : ∀ l ∈ bph L zs, ∀ x ∈ l, ∀ j, x.2 j < 256 := by
  intro l hl x hx
  rcases (by simpa [bph] using hl : l = _ ∨ l = _ ∨ l = _ ∨ l = _ ∨ l = _) with rfl | rfl | rfl | rfl | rfl
  · exact zer_byt _ _ x hx
  · exact bk_byt h _ _ x hx
  · obtain rfl : x = _ := by simpa using hx
    exact hd_lt _ _ _ (by omega)
  · simp at hx
  · obtain rfl : x = _ := by simpa using hx
    exact hd_lt _ _ _ (by omega)
theorem bph_apps (L : Lk) (zs : List Nat) (K : Nat → Nat → Nat) : apps (bph L zs) K = ov (ov (app (ml (L.size - L.first + 1 + 1) ((zs.length + 63) / 64) (bk zs)) (app (ml (L.size - L.first) L.size (fun _ => zer)) K)) (L.size - L.first + 1) 64 (hd 2 0 zs)) (L.size - L.first) 64 (hd 1 (L.turn + 1) []) := rfl

theorem bgn_spec {M : Dk} {L : Lk} {zs : List Nat} (h : Sys M L) (h5 : M.n ≤ 512) (ht : L.turn < 4000000000) (hzb : Bs zs) (hr : rf6 L zs.length ((L.size : Int) - 1) = 0) :
    ((bgn L M zs).1 = 0 ∧ (bgn L M zs).2.1 = L.next zs ∧ Sys (bgn L M zs).2.2 (L.next zs) ∧ Kp M (bgn L M zs).2.2) ∨ ((bgn L M zs).1 ≠ 0 ∧ (bgn L M zs).2.1 = { L with broken := true } ∧ Stp M L (L.next zs) (bgn L M zs).1 (bgn L M zs).2.2 ∧
      (∀ s, M.stop = some s → M.fail = none → s < L.size → ∀ am, WG (kpa am (bgn L M zs).2.2.pend (bgn L M zs).2.2.kept (bgn L M zs).2.2.pend.length) L)) := by
  obtain ⟨_, hz, hsc⟩ := rf6_zero hr
  have hg := h.gd
  have hw := hg.toWG
  have hsz := hg.sz
  have hsp := sct_pos zs.length
  have hscd : sct zs.length = 1 + (zs.length + 63) / 64 := rfl
  have hfit : 1 + sct zs.length ≤ L.size := by omega
  have hh := h.half
  have hc := M.go_calls (rop (L.size - L.first) L.size (L.turn + 1) zs)
  rw [show (rop (L.size - L.first) L.size (L.turn + 1) zs).length = L.size + 1 + ((zs.length + 63) / 64 + 3 + 3) by simp [rop, zop, fop]; omega] at hc
  have hnum : M.kept L.first 11 ≠ 197 ∨ num (M.kept L.first) 2 4 < L.turn + 1 := .inr (by rw [hd_num hg.head hg.tlt]; omega)
  rw [bgn, if_pos hr]
  rw [rop_phs] at hc ⊢
  have ebp : [ml (L.size - L.first) L.size (fun _ => zer), ml (L.size - L.first + 1 + 1) ((zs.length + 63) / 64) (bk zs), [(L.size - L.first + 1, hd 2 0 zs)], [], [(L.size - L.first, hd 1 (L.turn + 1) [])]] = bph L zs := rfl
  rw [ebp] at hc ⊢
  have hat := bph_at hg.fst hh hfit
  rcases go_phs (bph L zs) M h.down h.pend hat with ⟨h1, h2⟩ | ⟨h1, P1, l1, l2, P2, hP, h2⟩
  · rw [if_pos h1]
    refine .inl ⟨rfl, rfl, ⟨h2.up, h2.pend, by rw [h2.n]; exact hh, ?_, h.ok, ?_⟩, h2.kp (by omega)⟩
    · rw [h2.kept, bph_apps]
      exact begun hg.fst hsz (by omega) hz hfit hnum 64 (by omega)
    · rw [h2.kept]
      exact apps_byt h.byt _ (bph_byt hzb)
  · rw [if_neg h1]
    -- the contents behind the phases
    have hzz : ∀ x ∈ ml (L.size - L.first) L.size (fun _ => zer), L.size - L.first ≤ x.1 ∧ x.1 < L.size - L.first + L.size ∧ x.2 = zer := fun x hx => ml_mem hx
    have hdd : ∀ x ∈ ml (L.size - L.first + 1 + 1) ((zs.length + 63) / 64) (bk zs), L.size - L.first + 1 ≤ x.1 ∧ x.1 < L.size - L.first + L.size := fun x hx => by have := ml_mem hx; omega
    have hhh : ∀ x ∈ [((L.size - L.first + 1, hd 2 0 zs) : Wr)], L.size - L.first + 1 ≤ x.1 ∧ x.1 < L.size - L.first + L.size := fun x hx => by
      obtain rfl : x = _ := by simpa using hx
      exact ⟨Nat.le_refl _, by show L.size - L.first + 1 < _; omega⟩
    have w1 : WG (app (ml (L.size - L.first) L.size (fun _ => zer)) M.kept) L := hw.zeros hzz _ _
    have z1 : app (ml (L.size - L.first) L.size (fun _ => zer)) M.kept (L.size - L.first) 11 = 0 := by
      rw [app_ml, if_pos ⟨Nat.le_refl _, by omega, by omega⟩]
      rfl
    have w2 := w1.inner z1 hdd (fun _ => 64) (ml (L.size - L.first + 1 + 1) ((zs.length + 63) / 64) (bk zs)).length
    have z2 : app (ml (L.size - L.first + 1 + 1) ((zs.length + 63) / 64) (bk zs)) (app (ml (L.size - L.first) L.size (fun _ => zer)) M.kept) (L.size - L.first) 11 = 0 := by
      show kpa _ _ _ _ _ 11 = 0
      rw [w2.2]
      exact z1
    have w3 := w2.1.inner z2 hhh (fun _ => 64) 1
    have z3 : ov (app (ml (L.size - L.first + 1 + 1) ((zs.length + 63) / 64) (bk zs)) (app (ml (L.size - L.first) L.size (fun _ => zer)) M.kept)) (L.size - L.first + 1) 64 (hd 2 0 zs) (L.size - L.first) 11 = 0 := by
      have := w3.2
      rw [kpa_one] at this
      show ov (kpa _ _ _ _) _ _ _ _ 11 = 0
      rw [this]
      exact z2
    have hbm : ∀ x ∈ l1, ∀ j, x.2 j < 256 := fun x hx => bph_byt hzb (l1 ++ l2) (by rw [hP]; simp) x (List.mem_append_left _ hx)
    have hbP : ∀ i j, apps P1 M.kept i j < 256 := apps_byt h.byt _ (fun l hl => bph_byt hzb l (by rw [hP]; exact List.mem_append_left _ hl))
    refine .inr ⟨h1, rfl, ?_, ?_⟩
    · rcases pick5 hP with ⟨rfl, hx⟩ | ⟨rfl, hx⟩ | ⟨rfl, hx⟩ | ⟨rfl, hx⟩ | ⟨rfl, hx⟩
      · exact h2.stp h1 (by omega) hbP hbm (fun am => .inl (hw.zeros (fun x hx' => hzz x (by rw [← hx]; exact List.mem_append_left _ hx')) _ _))
      · exact h2.stp h1 (by omega) hbP hbm (fun am => .inl (w1.inner z1 (fun x hx' => hdd x (by rw [← hx]; exact List.mem_append_left _ hx')) _ _).1)
      · exact h2.stp h1 (by omega) hbP hbm (fun am => .inl (w2.1.inner z2 (fun x hx' => hhh x (by rw [← hx]; exact List.mem_append_left _ hx')) _ _).1)
      · obtain rfl : l1 = [] := (List.append_eq_nil_iff.1 hx).1
        exact h2.stp h1 (by omega) hbP hbm (fun am => .inl w3.1)
      · rcases one_split hx.symm with rfl | rfl
        · exact h2.stp h1 (by omega) hbP hbm (fun am => .inl w3.1)
        · refine h2.stp h1 (by omega) hbP hbm (fun am => ?_)
          show WG (ov (ov (app (ml (L.size - L.first + 1 + 1) ((zs.length + 63) / 64) (bk zs)) (app (ml (L.size - L.first) L.size (fun _ => zer)) M.kept)) (L.size - L.first + 1) 64 (hd 2 0 zs)) (L.size - L.first) (am 0) (hd 1 (L.turn + 1) [])) L ∨ WG (ov (ov (app (ml (L.size - L.first + 1 + 1) ((zs.length + 63) / 64) (bk zs)) (app (ml (L.size - L.first) L.size (fun _ => zer)) M.kept)) (L.size - L.first + 1) 64 (hd 2 0 zs)) (L.size - L.first) (am 0) (hd 1 (L.turn + 1) [])) (L.next zs)
          rcases Nat.lt_or_ge (am 0) 12 with h3 | h3
          · left
            refine WG.away w3.1 (fun i hi => ?_) (.inl ?_)
            · funext j
              show (if _ then _ else _) = _
              rw [if_neg (fun e => apart hg.fst (Nat.le_refl _) (by omega) hi e.1.symm)]
              rfl
            · show (if _ then _ else _) ≠ 197
              rw [if_neg (by omega), z3]
              omega
          · exact .inr (begun hg.fst hsz (by omega) hz hfit hnum (am 0) h3).toWG
    · intro s hs hf hlt am
      have hn9 := go_near (ml (L.size - L.first) L.size (fun _ => zer)) M s h.down (fun x hx => hat _ (by simp [bph]) x hx) hs hf (by simpa [ml] using hlt)
      have eg : M.go (phs (bph L zs)) = M.go (dops (ml (L.size - L.first) L.size (fun _ => zer))) := by
        rw [bph, phs_cons]
        exact Dk.go_stop (by rw [hn9]; omega)
      rcases go_writes (ml (L.size - L.first) L.size (fun _ => zer)) M h.down (fun x hx => hat _ (by simp [bph]) x hx) with ⟨h3, _⟩ | ⟨_, m1, m2, hm, h4⟩
      · omega
      · show WG (kpa am (M.go (phs (bph L zs))).2.pend (M.go (phs (bph L zs))).2.kept (M.go (phs (bph L zs))).2.pend.length) L
        rw [eg, h4.pend, h4.kept, h.pend, List.nil_append]
        exact hw.zeros (fun x hx' => hzz x (by rw [hm]; exact List.mem_append_left _ hx')) _ _

/-- Open of a new disk. -/
theorem opn_new {M : Dk} (hd : M.down = false) (hp : M.pend = []) (hs : M.stop = none) (hf : M.fail = none) (h4 : 4 ≤ M.n / 2) (h5 : M.n ≤ 512) (hK : M.kept = fun _ => zer) :
    (opn M).1 = some ⟨M.n / 2, M.n / 2, 1, 2, [[]], false⟩ ∧ (opn M).2.1 = 0 ∧ Sys (opn M).2.2 ⟨M.n / 2, M.n / 2, 1, 2, [[]], false⟩ ∧ Kp M (opn M).2.2 := by
  have ht : ∀ i, tin (M.kept i) = 0 := fun i => by
    rw [hK]
    have := tin_other (s := zer) (t := 1) (by omega) (.inl (by show (0 : Nat) ≠ 197; omega))
    show tin zer = 0
    omega
  have hl : ldd M = ⟨M.n / 2, 0, 0, 0, [], false⟩ := by
    unfold ldd
    have e1 : ∀ fr, ld1 ⟨M.n / 2, 0, 0, 0, [], false⟩ fr M.kept = ⟨M.n / 2, 0, 0, 0, [], false⟩ := fun fr => by
      unfold ld1
      rw [if_neg (by rw [ht]; simp)]
    rw [e1, e1]
  have hb : ∀ i j, M.kept i j < 256 := fun i j => by rw [hK]; show 0 < 256; omega
  obtain ⟨n, hn⟩ : ∃ n, n = M.n / 2 := ⟨_, rfl⟩
  have er : rf6 ⟨n, 0, 0, 0, [], false⟩ ([] : List Nat).length ((n : Int) - 1) = 0 := by
    unfold rf6
    rw [if_neg (by simp), if_neg (by simp), if_neg (by simp [sct]; omega)]
  have hat := bph_at (L := ⟨n, 0, 0, 0, [], false⟩) (zs := []) (n := M.n) (.inl rfl) hn.symm (by simp [sct]; omega)
  have hc := M.go_calls (rop (n - 0) n (0 + 1) [])
  rw [show (rop (n - 0) n (0 + 1) []).length = n + 1 + (3 + 3) by simp [rop, zop, fop]] at hc
  have hgo := go_phs (bph ⟨n, 0, 0, 0, [], false⟩ []) M hd hp hat
  have erp : rop (n - 0) n (0 + 1) [] = phs (bph ⟨n, 0, 0, 0, [], false⟩ []) := rop_phs _ _ _ _
  rcases hgo with ⟨h1, h2⟩ | ⟨h1, P1, l1, l2, P2, _, h2⟩
  · have ep : prp (ldd M) M = (0, ⟨n, n, 1, 2, [[]], false⟩, (M.go (phs (bph ⟨n, 0, 0, 0, [], false⟩ []))).2) := by
      rw [hl, ← hn, prp, if_pos rfl, bgn, if_pos er]
      show (if (M.go (rop (n - 0) n (0 + 1) [])).1 = 0 then _ else _) = _
      rw [erp, if_pos h1]
      rfl
    have eo : opn M = (some ⟨n, n, 1, 2, [[]], false⟩, 0, (M.go (phs (bph ⟨n, 0, 0, 0, [], false⟩ []))).2) := by
      rw [opn, if_neg (by omega), if_neg (by rw [hd]; simp), ep, if_pos rfl]
    rw [eo, ← hn]
    rw [erp] at hc
    refine ⟨rfl, rfl, ⟨h2.up, h2.pend, by rw [h2.n]; exact hn.symm, ?_, rfl, ?_⟩, h2.kp (by omega)⟩
    · rw [h2.kept, bph_apps]
      exact begun (L := ⟨n, 0, 0, 0, [], false⟩) (zs := []) (.inl rfl) (by show 4 ≤ n; omega) (by show 0 + 1 < _; omega) (by simp) (by simp [sct]; omega) (.inl (by rw [hK]; show (0 : Nat) ≠ 197; omega)) 64 (by omega)
    · rw [h2.kept]
      exact apps_byt hb _ (bph_byt (fun i => by simp))
  · have := (h2.stop hs).2
    have := (h2.fail hf).2
    rcases h2.err with ⟨h3, _⟩ | ⟨h3, _⟩ | ⟨h3, _⟩ <;> omega
end Go.Proofs.Ytjkfgdeiciligaa
