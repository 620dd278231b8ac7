/-
  SumOne's walk: for every row of bytes, and two numbers, it returns true, and nothing that was in memory is touched. Conditions: a row has at most 2^47 bytes, the numbers have 16 and 8 bits.
-/
import Derived.Test.YtnpmdhcebfpliaaFrame
import Derived.OwnWalk
namespace Go.Proofs.Ytnpmdhcebfpliaa
open Go.RowKit

theorem info5 : (Try.prog.info? 5).map (fun i => (i.zero, i.size, i.bytes)) = some (some (.int .u8 0), 1, 1) := by kernel_rfl
theorem cel_one (zs : List Nat) : ∀ u ∈ cel zs, u.oneCell' = true := by
  intro u hu
  unfold cel at hu
  obtain ⟨z, _, rfl⟩ := List.mem_map.1 hu
  rfl
theorem cel_set (zs : List Nat) (k v : Nat) : cel (zs.set k v) = (cel zs).set k (.int .u8 (v : Int)) := by unfold cel; exact List.map_set
theorem getD_set {zs : List Nat} {k v : Nat} (h : k < zs.length) (i : Nat) : (zs.set k v).getD i 0 = if i = k then v else zs.getD i 0 := by
  rw [List.getD_eq_getElem?_getD, List.getElem?_set]
  by_cases hi : i = k
  · subst hi
    simp [h]
  · rw [if_neg (fun e => hi e.symm), if_neg hi, List.getD_eq_getElem?_getD]
theorem Bs.set {zs : List Nat} (hb : Bs zs) {k v : Nat} (h : k < zs.length) (hv : v < 256) : Bs (zs.set k v) := by
  intro i
  rw [getD_set h]
  split
  · exact hv
  · exact hb i
/-- The cells that a row's reading gives, as an append wants them. -/
theorem Rd.cells {w : World} {x : Addr} {zs : List Nat} (h : Rd w (some x) zs) : ∀ j u, (cel zs)[j]? = some u → w.cell? (x.add j) = some u := by
  intro j u hj
  have hl : j < zs.length := by
    have := (List.getElem?_eq_some_iff.1 hj).1
    rw [cel_length] at this
    exact this
  obtain ⟨y, hy, hc⟩ := h.2.2 j hl
  injection hy with hy
  subst hy
  rw [cel_at hl] at hj
  injection hj with hj
  rw [hc, hj]
theorem chk_other {zs : List Nat} (hb : Bs zs) {k b : Nat} (hk : k < zs.length) (h : b < 256) : (chk (zs.set k (zs.getD k 0 ^^^ b)) = chk zs) ↔ b = 0 := by
  constructor
  · intro e
    apply Classical.byContradiction
    intro hne
    have hv : zs.getD k 0 ^^^ b < 256 := Nat.xor_lt_two_pow (n := 8) (hb k) h
    have e : reg (zs.set k (zs.getD k 0 ^^^ b)) zs.length = reg zs zs.length := by
      unfold chk at e
      rw [List.length_set] at e
      exact xor_right e
    refine reg_other (hb.set hk hv) hb (j := k) (fun i hi => by rw [getD_set hk, if_neg hi]) ?_ zs.length hk e
    rw [getD_set hk, if_pos rfl]
    intro h0
    apply hne
    have := congrArg (zs.getD k 0 ^^^ ·) h0
    simpa [← Nat.xor_assoc, Nat.xor_self] using this
  · rintro rfl
    have : zs.set k (zs.getD k 0 ^^^ 0) = zs := by
      rw [Nat.xor_zero, List.getD_eq_getElem?_getD, List.getElem?_eq_getElem hk]
      simp
    rw [this]

set_option maxRecDepth 100000 in
theorem sumOne_walk (A : Option Addr) (zs : List Nat) (c : Nat) (p q : Int) (w : World) (h : Rd w A zs) (hp : 0 ≤ p ∧ p < 65536) (hq : 0 ≤ q ∧ q < 256) :
    Calls Try.prog 7 #[.slice A zs.length c, .int .u16 p, .int .u8 q] w fun e w' => e = .returned (.bool true) ∧ Below w.heap.size w w' := by
  obtain ⟨i0, hi, hz0, hz1, hz2⟩ := info_parts info5
  obtain ⟨p, rfl⟩ := Int.eq_ofNat_of_zero_le hp.1
  obtain ⟨q, rfl⟩ := Int.eq_ofNat_of_zero_le hq.1
  have hp := hp.2
  have hq := hq.2
  have AW := Lib.hid (awake_any w)
  have H := Lib.hid h
  have hl := h.1
  by_cases hn : zs.length = 0
  · have hz : zs = [] := List.eq_nil_of_length_eq_zero hn
    clear h
    subst hz
    clear hn
    go_enter Try.func7, Try.ntmps7
    go_wp2_with fail
    refine AW.out.mono ?_
    rintro e w1 ⟨rfl, hb⟩
    have R := Lib.hid (H.out.below hb)
    have B := Lib.hid hb
    clear hb
    go_wp2_with fail
    refine (check_any _ [] _ _ R.out).mono ?_
    rintro e w2 ⟨rfl, rfl⟩
    go_wp2_with fail
    go_ret
    exact ⟨rfl, B.out⟩
  · obtain ⟨x, rfl, _⟩ := h.2.2 0 (by omega)
    have hn : 0 < zs.length := by omega
    clear h
    go_enter Try.func7, Try.ntmps7
    go_wp2_with fail
    refine AW.out.mono ?_
    rintro e w1 ⟨rfl, hb⟩
    have R := Lib.hid (H.out.below hb)
    have B := Lib.hid hb
    clear hb
    have F1 := Lib.hid (show 0 + zs.length ≤ maxLen by unfold maxLen; omega)
    have F2 := Lib.hid (show (0 + zs.length) * 1 ≤ 140737488355328 by omega)
    have F3 := Lib.hid (show (cel zs).length = zs.length * 1 by rw [cel_length]; omega)
    have HI := Lib.hid hi
    have HZ := Lib.hid hz0
    have HS := Lib.hid hz1
    have HY := Lib.hid hz2
    clear hi hz0 hz1 hz2
    have hnz : ((zs.length : Int) == 0) = false := by rw [beq_eq_false_iff_ne]; omega
    go_wp2_with (at_builtin; refine wpList_append_lies _ rfl (.const (.slice none 0 0)) (.tmp 16) 22 rfl w1.heap.size 5 i0 (.int .u8 0) 1 1 Try.underlying22 HI.out HZ.out HS.out HY.out rfl (by omega) (.slice none 0 0) 0 [] rfl (World.ownsRow_nil _ _ _ _) x zs.length c (cel zs) rfl F3.out R.out.cells (cel_one zs) hn F1.out F2.out (Nat.le_refl _) _ rfl ?_)
    intro g cap w2 hown hgrow hat hlt
    have hg : w1.heap.size ≤ g := by
      rcases hat with hat | hat
      · simp [Value.ownBlock] at hat
      · omega
    have B2 := Lib.hid (B.out.grown hgrow B.out.size (fun k hk => by simp [Value.ownBlock] at hk))
    have R2 := Lib.hid (H.out.below B2.out)
    have hk : p % zs.length < zs.length := Nat.mod_lt _ hn
    have E : (p : Int) % (zs.length : Int) = ((p % zs.length : Nat) : Int) := rfl
    have b1 := H.out.2.1 (p % zs.length)
    have hc : w2.cell? ⟨g, p % zs.length, none⟩ = some (.int .u8 ((zs.getD (p % zs.length) 0 : Nat) : Int)) := (hown.cellAt _ (by omega)).trans (cel_at hk)
    have hf := hown.frozenAt (p % zs.length)
    have X : bits .xor .u8 ((zs.getD (p % zs.length) 0 : Nat) : Int) (q : Int) = ((zs.getD (p % zs.length) 0 ^^^ q : Nat) : Int) := u8_xor_nat _ _ b1 (by omega)
    have hv : zs.getD (p % zs.length) 0 ^^^ q < 256 := Nat.xor_lt_two_pow (n := 8) b1 (by omega)
    have ST := hown.stored (p % zs.length) (.int .u8 ((zs.getD (p % zs.length) 0 ^^^ q : Nat) : Int))
    rw [← cel_set] at ST
    have R3 := Lib.hid (Rd.own ST.1 (H.out.2.1.set hk hv) (by rw [List.length_set]; exact hl)).2
    have R4 := Lib.hid (H.out.below (B2.out.setCell (p := ⟨g, p % zs.length, none⟩) (by have := B.out.size; show w.heap.size ≤ g; omega) (.int .u8 ((zs.getD (p % zs.length) 0 ^^^ q : Nat) : Int))))
    have B4 := Lib.hid (B2.out.setCell (p := ⟨g, p % zs.length, none⟩) (by have := B.out.size; show w.heap.size ≤ g; omega) (.int .u8 ((zs.getD (p % zs.length) 0 ^^^ q : Nat) : Int)))
    have C30 := check_any _ _ cap _ R3.out
    rw [List.length_set] at C30
    have C3 := Lib.hid C30
    clear C30
    have C4 := Lib.hid (check_any _ _ c _ R4.out)
    have CO := Lib.hid (chk_other H.out.2.1 hk (show q < 256 by omega))
    clear hown hgrow hat ST R3 R4
    generalize zs.getD (p % zs.length) 0 = a at *
    generalize p % zs.length = k at *
    go_wp2_with fail
    refine C3.out.mono ?_
    rintro e w3 ⟨rfl, rfl⟩
    go_wp2_with fail
    refine C4.out.mono ?_
    rintro e w3 ⟨rfl, rfl⟩
    go_wp2_with fail
    go_ret
    refine ⟨ret_bool ?_, B4.out⟩
    rw [beq_iff_eq, Bool.eq_iff_iff]
    have := CO.out
    simp
    exact Int.ofNat_inj.trans this
end Go.Proofs.Ytnpmdhcebfpliaa
