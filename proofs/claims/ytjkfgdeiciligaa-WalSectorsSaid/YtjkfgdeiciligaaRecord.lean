/-
  Contracts of turnIn and recordIn: what each returns, and that nothing that was there turns. Conditions: the region is there, and has up to 512 sectors of bytes.
-/
import Derived.Test.YtjkfgdeiciligaaRegion
set_option linter.unusedSimpArgs false
namespace Go.Proofs.Ytjkfgdeiciligaa
open Go.RowKit

/-- L bytes of a sector from o on. -/
def sl (s : Nat → Nat) (o L : Nat) : List Nat := (List.range L).map fun i => s (o + i)
theorem sl_length (s : Nat → Nat) (o L : Nat) : (sl s o L).length = L := by simp [sl]
theorem rd_sl {w : World} {b : Nat} {s : Nat → Nat} (h : w.rangeAt b 0 (sc s)) (hs : ∀ j, s j < 256) {o L : Nat} (hx : o + L ≤ 64) : Rd w (some ⟨b, o, none⟩) (sl s o L) := by
  have hg : ∀ i, i < L → (sl s o L).getD i 0 = s (o + i) := fun i hi => by rw [List.getD_eq_getElem?_getD]; simp [sl, hi]
  refine ⟨by rw [sl_length]; omega, fun i => ?_, fun k hk => ⟨_, rfl, ?_⟩⟩
  · rcases Nat.lt_or_ge i L with hi | hi
    · rw [hg i hi]; exact hs _
    · rw [getD_past (by rw [sl_length]; exact hi)]; omega
  · rw [sl_length] at hk
    rw [hg k hk, Addr.add_mid]
    have := h (o + k) _ (sc_get (by omega))
    rwa [Nat.zero_add] at this
/-- The number in L bytes of a sector from o on. -/
def num (s : Nat → Nat) (o L : Nat) : Nat := bek (sl s o L) L
theorem num_lt {s : Nat → Nat} (hs : ∀ j, s j < 256) (o L : Nat) : num s o L < 256 ^ L := bek_lt (fun i => by
  rcases Nat.lt_or_ge i L with hi | hi
  · rw [List.getD_eq_getElem?_getD]; simp [sl, hi, hs]
  · rw [getD_past (by rw [sl_length]; exact hi)]; omega) L

/-- A region's turn. -/
def tin (s : Nat → Nat) : Nat := if eq64 s (hd 1 (num s 2 4) []) = true then num s 2 4 else 0

theorem Rd.nil (w : World) (A : Option Addr) : Rd w A [] := ⟨by simp, fun i => by simp, fun k hk => by simp at hk⟩

set_option maxHeartbeats 1000000 in
set_option maxRecDepth 100000 in
theorem turnIn_any (g n : Nat) (R : Nat → Nat → Nat) (w : World) (h : Rg w g n R) (hn : 0 < n) (hR : ∀ i j, R i j < 256) :
    Calls Try.prog 42 #[.slice (some ⟨g, 0, none⟩) n n] w fun e w' => e = .returned (.int .i64 (tin (R 0) : Nat)) ∧ Below w.heap.size w w' := by
  have H0 := h.sec (i := 0) hn
  rw [Nat.zero_mul] at H0
  have HS := Lib.hid (rd_sl (stored_range w (R 0)) (hR 0) (o := 2) (L := 4) (by omega))
  have hnum : num (R 0) 2 4 < 4294967296 := num_lt (hR 0) 2 4
  have SR := Lib.hid (stored_range w (R 0))
  have SB := Lib.hid (stored_below w (R 0))
  have HT := Lib.hid (show tin (R 0) = if eq64 (R 0) (hd 1 (num (R 0) 2 4) []) = true then num (R 0) 2 4 else 0 from rfl)
  have CN := Lib.hid (numberIn_any _ _ 62 _ (by rw [sl_length]; omega) HS.out)
  rw [sl_length, show bek (sl (R 0) 2 4) 4 = num (R 0) 2 4 from rfl] at CN
  have TZ := thereZ w
  generalize hsw : stored w (R 0) = w1 at *
  clear h hR
  go_enter Try.func42, Try.ntmps42
  go_wp2_with (first
    | (with_reducible show wpList _ _ _ _ _ w; first | (refine at_load38 (.tmp 6) rfl rfl g 0 (R 0) (by simp [Act.eval, Act.put]) H0 ?_) | (refine at_alloc38 rfl rfl ?_))
    | (with_reducible show wpList _ _ _ _ _ (w.alloc Z64); refine at_store38 (.tmp 3) (.tmp 7) rfl rfl w.heap.size 0 (R 0) (by simp [Act.eval, Act.put]) (by simp [Act.eval, Act.put]) TZ ?_))
  rw [show (w.alloc Z64).setCells w.heap.size 0 (sc (R 0)) = w1 from hsw]
  refine CN.out.mono ?_
  rintro e w2 ⟨rfl, rfl⟩
  clear CN HS hsw TZ H0
  go_upto_region 3 with fail
  have CT := Lib.hid fun d os => Calls.regrown_of (headOf_any 1 (num (R 0) 2 4) none [] 0 (Sort.grow (redrawn w1 d) os) hnum (by simp) (Rd.nil _ _))
  refine wp_region_quiet_below (by kernel_rfl) (by kernel_rfl) ?_
  repeat (first
    | (refine quiet_load38 (.tmp 3) (by kernel_rfl) rfl w.heap.size 0 (R 0) rfl (fun W hW => by obtain ⟨⟨dq, oq⟩, rfl⟩ := hW; exact range_below SR.out (below_regrown w1 dq oq)) ?_; simp only [Act.put, List.setIfInBounds_toArray, List.set_cons_zero, List.set_cons_succ])
    | (refine quiet_neq38 (.tmp 10) (.tmp 12) (by kernel_rfl) rfl (R 0) (hd 1 (num (R 0) 2 4) []) rfl rfl ?_; simp only [Act.put, List.setIfInBounds_toArray, List.set_cons_zero, List.set_cons_succ])
    | (go_big_quiet_step ((go_at_call 47; exact CT.out _ _))))
  refine wpQuiet_nil ?_
  intro _ hw'
  obtain ⟨⟨dq, osq⟩, hw''⟩ := hw'
  subst hw''
  have B2 := Lib.hid (below_regrown w1 dq osq)
  generalize Sort.grow (redrawn w1 dq) osq = w3 at *
  clear CT
  have BB := Lib.hid (SB.out.trans (B2.out.mono SB.out.size))
  cases he : eq64 (R 0) (hd 1 (num (R 0) 2 4) [])
  · rw [he] at HT
    go_wp2_with fail
    go_ret
    exact ⟨by rw [HT.out]; rfl, BB.out⟩
  · rw [he] at HT
    go_wp2_with fail
    go_ret
    exact ⟨by rw [HT.out]; rfl, BB.out⟩

/-- A record of a region, if its frame exists. -/
def rin (R : Nat → Nat → Nat) (n a k : Nat) : Option (List Nat) :=
  if n ≤ a then none else if 16384 < num (R a) 0 2 then none else if n - a < sct (num (R a) 0 2) then none else
    if eq64 (R a) (hd 2 k (jn (fun i => R (a + 1 + i)) (num (R a) 0 2))) = true then some (jn (fun i => R (a + 1 + i)) (num (R a) 0 2)) else none

/-- What recordIn returns. -/
def RecPost (w : World) (r : Option (List Nat)) (e : Ending) (w' : World) : Prop :=
  match r with
  | none => e = .returned (.tuple #[.slice none 0 0, .bool false]) ∧ Below w.heap.size w w'
  | some b => ∃ g cap, e = .returned (.tuple #[.slice (some ⟨g, 0, none⟩) b.length cap, .bool true]) ∧ Rd w' (some ⟨g, 0, none⟩) b ∧ Below w.heap.size w w' ∧ w.heap.size ≤ g ∧ g < w'.heap.size

set_option maxRecDepth 100000 in
theorem rec_past (g n a k : Nat) (w : World) (h : n ≤ a) : Calls Try.prog 50 #[.slice (some ⟨g, 0, none⟩) n n, .int .i64 a, .int .i64 k] w fun e w' => e = .returned (.tuple #[.slice none 0 0, .bool false]) ∧ Below w.heap.size w w' := by
  go_enter Try.func50, Try.ntmps50
  go_wp2_with fail
  go_ret2
  exact ⟨rfl, Below.refl _ _⟩

set_option maxHeartbeats 1000000 in
set_option maxRecDepth 100000 in
theorem recordIn_any (g n a k : Nat) (R : Nat → Nat → Nat) (w : World) (h : Rg w g n R) (hn : n ≤ 512) (hk : k < 4294967296) (hR : ∀ i j, R i j < 256) :
    Calls Try.prog 50 #[.slice (some ⟨g, 0, none⟩) n n, .int .i64 a, .int .i64 k] w (RecPost w (rin R n a k)) := by
  by_cases ha : n ≤ a
  · unfold rin
    rw [if_pos ha]
    exact rec_past g n a k w ha
  have H0 := h.sec (i := a) (by omega)
  have HS := Lib.hid (rd_sl (stored_range w (R a)) (hR a) (o := 0) (L := 2) (by omega))
  have hnum : num (R a) 0 2 < 65536 := num_lt (hR a) 0 2
  have SR := Lib.hid (stored_range w (R a))
  have SB := Lib.hid (stored_below w (R a))
  have CN := Lib.hid (numberIn_any _ _ 64 _ (by rw [sl_length]; omega) HS.out)
  rw [sl_length, show bek (sl (R a) 0 2) 2 = num (R a) 0 2 from rfl] at CN
  have TZ := thereZ w
  have HRG := Lib.hid (h.below SB.out)
  have HRB := Lib.hid hR
  have CS := Lib.hid fun n W h => sectors_any n W h
  have HRI : Hid (rin R n a k = if 16384 < num (R a) 0 2 then none else if n - a < sct (num (R a) 0 2) then none else
    if eq64 (R a) (hd 2 k (jn (fun i => R (a + 1 + i)) (num (R a) 0 2))) = true then some (jn (fun i => R (a + 1 + i)) (num (R a) 0 2)) else none) := by
    show rin R n a k = _
    rw [rin, if_neg ha]
  generalize hsw : stored w (R a) = w1 at *
  clear h hR
  have ha' : a < n := by omega
  clear ha
  go_enter Try.func50, Try.ntmps50
  go_wp2_with (first
    | (with_reducible show wpList _ _ _ _ _ w; first | (refine at_load38 (.tmp 17) rfl rfl g (a * 64) (R a) (by simp [Act.eval, Act.put]) H0 ?_) | (refine at_alloc38 rfl rfl ?_))
    | (with_reducible show wpList _ _ _ _ _ (w.alloc Z64); refine at_store38 (.tmp 8) (.tmp 18) rfl rfl w.heap.size 0 (R a) (by simp [Act.eval, Act.put]) (by simp [Act.eval, Act.put]) TZ ?_))
  rw [show (w.alloc Z64).setCells w.heap.size 0 (sc (R a)) = w1 from hsw]
  refine CN.out.mono ?_
  rintro e w2 ⟨rfl, rfl⟩
  clear CN HS hsw TZ H0
  obtain ⟨m, hm⟩ : ∃ m, m = num (R a) 0 2 := ⟨_, rfl⟩
  rw [← hm] at hnum HRI ⊢
  clear hm
  by_cases h1 : 16384 < m
  · rw [if_pos h1] at HRI
    have h1' : 16384 < (m : Int) := by omega
    clear h1
    go_wp2_with fail
    go_ret2
    rw [HRI.out]
    exact ⟨rfl, SB.out⟩
  rw [if_neg h1] at HRI
  have hm1 : m ≤ 16384 := by omega
  have hs1 : sct m ≤ 257 := by unfold sct; omega
  have HSC := Lib.hid (show sct m = 1 + (m + 63) / 64 from rfl)
  clear h1 hnum
  go_wp2_with fail
  refine (CS.out m _ (by omega)).mono ?_
  rintro e w2 ⟨rfl, rfl⟩
  by_cases h2 : n - a < sct m
  · rw [if_pos h2] at HRI
    have h2' : (n : Int) - a < (sct m : Nat) := by omega
    clear h2
    go_wp2_with fail
    go_ret2
    rw [HRI.out]
    exact ⟨rfl, SB.out⟩
  rw [if_neg h2] at HRI
  have h2' : ((sct m : Nat) : Int) ≤ (n : Int) - a := by omega
  have H2 := Lib.hid h2
  clear h2
  have h3 : a + 1 ≤ n := by omega
  have JA := Lib.hid fun (A : Option Addr) (l c : Nat) (hA : (A = some ⟨g, (a + 1) * 64, none⟩ ∧ l = n - (a + 1)) ∨ (m = 0 ∧ l ≤ 512)) =>
    joined_any A l c m (fun i => R (a + 1 + i)) w1 hm1 (by omega) (fun i j => HRB.out _ _) (fun i hi => by
      rcases hA with ⟨rfl, rfl⟩ | ⟨rfl, _⟩
      · have h2 := H2.out
        have hsc := HSC.out
        refine ⟨by omega, g, _, rfl, ?_⟩
        have := HRG.out.sec (i := a + 1 + i) (by omega)
        rwa [show (a + 1 + i) * 64 = (a + 1) * 64 + i * 64 by omega] at this
      · omega)
  have HZ := Lib.hid (show n = a + 1 → m = 0 from fun e => by have := H2.out; have := HSC.out; omega)
  rcases Decidable.em (n = a + 1) with rfl | hq
  all_goals (
    go_wp2_with fail
    refine (JA.out _ _ _ (by first | exact .inl ⟨rfl, rfl⟩ | exact .inr ⟨HZ.out trivial, by omega⟩ | exact .inr ⟨HZ.out rfl, by omega⟩)).mono ?_
    rintro e w2 ⟨g2, cap, rfl, hrd, hb, hg1, hg2⟩
    have RD := Lib.hid hrd
    have SR2 := Lib.hid (range_below SR.out hb)
    have SB2 := Lib.hid (SB.out.trans (hb.mono SB.out.size))
    have HG := Lib.hid (And.intro (Nat.le_trans SB.out.size hg1) hg2)
    have hln : (jn (fun i => R (a + 1 + i)) m).length = m := jn_length _ _
    have HLN := Lib.hid hln
    clear hrd hb hg1 hg2 hln HRG JA HZ H2 HSC HRB SR CS
    generalize jn (fun i => R (a + 1 + i)) m = zs at *
    have hln := HLN.out
    subst hln
    clear HLN
    go_upto_region 8 with fail
    have CT := Lib.hid fun d os => Calls.regrown_of (headOf_any 2 k (some ⟨g2, 0, none⟩) zs cap (Sort.grow (redrawn w2 d) os) hk (by omega) (RD.out.below (below_regrown w2 d os)))
    refine wp_region_quiet_below (by kernel_rfl) (by kernel_rfl) ?_
    repeat (first
      | (refine quiet_load38 (.tmp 8) (by kernel_rfl) rfl w.heap.size 0 (R a) rfl (fun W hW => by obtain ⟨⟨dq, oq⟩, rfl⟩ := hW; exact range_below SR2.out (below_regrown w2 dq oq)) ?_; simp only [Act.put, List.setIfInBounds_toArray, List.set_cons_zero, List.set_cons_succ])
      | (refine quiet_neq38 (.tmp 38) (.tmp 41) (by kernel_rfl) rfl (R a) (hd 2 k zs) rfl rfl ?_; simp only [Act.put, List.setIfInBounds_toArray, List.set_cons_zero, List.set_cons_succ])
      | (go_big_quiet_step ((go_at_call 47; exact CT.out _ _))))
    refine wpQuiet_nil ?_
    intro _ hw'
    obtain ⟨⟨dq, osq⟩, hw''⟩ := hw'
    subst hw''
    have B2 := Lib.hid (below_regrown w2 dq osq)
    generalize Sort.grow (redrawn w2 dq) osq = w3 at *
    clear CT
    have BB := Lib.hid (SB2.out.trans (B2.out.mono SB2.out.size))
    have RD3 := Lib.hid (RD.out.below B2.out)
    have HG3 := Lib.hid (And.intro HG.out.1 (Nat.lt_of_lt_of_le HG.out.2 B2.out.size))
    cases he : eq64 (R a) (hd 2 k zs)
    · rw [he] at HRI
      go_wp2_with fail
      go_ret2
      rw [HRI.out]
      exact ⟨rfl, BB.out⟩
    · rw [he] at HRI
      go_wp2_with fail
      go_ret2
      rw [HRI.out]
      exact ⟨g2, cap, rfl, RD3.out, BB.out, HG3.out⟩)
end Go.Proofs.Ytjkfgdeiciligaa
