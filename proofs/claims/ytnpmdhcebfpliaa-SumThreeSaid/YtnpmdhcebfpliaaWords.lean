/-
  Contracts of Words and Sealed, of the statements' own words, and of awake: what each returns; nothing that was in memory is touched. Conditions: a row has at most 2^47 bytes.
-/
import Derived.Test.YtnpmdhcebfpliaaSum
import Derived.Lib.SlBytesConst
import Derived.Laws.OwnMore
import Derived.Deep.AppendLies
namespace Go.Proofs.Ytnpmdhcebfpliaa
open Go.RowKit

theorem carry_can (t v : Nat) (h : v ≤ 65535) : (can t + v) % 65536 + (can t + v) / 65536 = can (t + v) := by
  have := can_le t
  rw [can_add t v h]
  split <;> omega
theorem tot_two {zs : List Nat} {k : Nat} (h : k % 2 = 0) : tot zs (k + 2) = tot zs k + (256 * zs.getD k 0 + zs.getD (k + 1) 0) := by
  rw [tot, tot, vl, vl, if_pos h, if_neg (by omega)]
  omega
theorem tot_past {zs : List Nat} {k : Nat} (h : zs.length ≤ k) (g : k ≤ zs.length + 1) : tot zs k = tot zs zs.length := by
  rcases (show k = zs.length ∨ k = zs.length + 1 by omega) with rfl | rfl
  · rfl
  · rw [tot, getD_past (Nat.le_refl _)]
    simp [vl]
theorem not16 (t : Nat) (h : t ≤ 65535) : bits .xor .u16 IntKind.u16.max (t : Int) = ((65535 - t : Nat) : Int) := by
  have e : 65535 ^^^ t = 65535 - t := by
    have h := congrArg BitVec.toNat (BitVec.allOnes_xor (x := BitVec.ofNat 16 t))
    rw [BitVec.toNat_xor, BitVec.toNat_allOnes, BitVec.toNat_not, BitVec.toNat_ofNat, Nat.mod_eq_of_lt (by omega)] at h
    exact h
  rw [← e]
  exact u16_xor_nat 65535 t (by omega) (by omega)
theorem wd_le (zs : List Nat) : wd zs ≤ 65535 := can_le _

theorem words_any (A : Option Addr) (zs : List Nat) (c : Nat) (w : World) (h : Rd w A zs) :
    Calls Try.prog 10 #[.slice A zs.length c] w fun e w' => e = .returned (.int .u16 ((65535 - wd zs : Nat) : Int)) ∧ w = w' := by
  have H := Lib.hid h
  have hl := h.1
  clear h
  have C := Lib.hid fun n W h => carried_any n W h
  have W := Lib.hid fun k W h hk => wordAt_any A zs c k W h hk
  go_enter Try.func10, Try.ntmps10
  go_wp2
  go_loop [3, 4] (fun t i => ∃ k : Nat, k % 2 = 0 ∧ k ≤ zs.length + 1 ∧ i = .int .i64 k ∧ t = .int .u32 (can (tot zs k) : Nat)) (fun _ i => zs.length - (intOf i).toNat)
  case atStart => exact ⟨0, rfl, by omega, rfl, rfl⟩
  case round =>
    obtain ⟨k, hp, hk, rfl, rfl⟩ := hrel
    have ht := can_le (tot zs k)
    by_cases hlt : k < zs.length
    · have b1 := H.out.2.1 k
      have b2 := H.out.2.1 (k + 1)
      have T := Lib.hid (tot_two (zs := zs) hp)
      have HP := Lib.hid hp
      clear hp
      go_wp2_with fail
      refine (W.out k _ H.out hlt).mono ?_
      rintro e w1 ⟨rfl, rfl⟩
      obtain ⟨v, hv⟩ : ∃ v, v = 256 * zs.getD k 0 + zs.getD (k + 1) 0 := ⟨_, rfl⟩
      rw [← hv]
      have hb : v ≤ 65535 := by omega
      have V := Lib.hid hv
      have CC := Lib.hid (carry_can (tot zs k) v hb)
      clear hv b1 b2
      generalize can (tot zs k) = t at *
      go_wp2_with fail
      refine (C.out (t + v) _ (by omega)).mono ?_
      rintro e w1 ⟨rfl, rfl⟩
      go_wp2_with fail
      go_round
      case rel => exact ⟨k + 2, by have := HP.out; omega, by omega, by go_num, by rw [T.out, ← V.out, ← CC.out]; go_num⟩
      case measure => simp [intOf]; omega
    · have T := Lib.hid (show can (tot zs k) = wd zs by rw [tot_past (by omega) hk]; rfl)
      have N := Lib.hid (not16 _ ht)
      generalize can (tot zs k) = t at *
      clear hp
      go_wp2
      go_ret
      exact ⟨ret_int (by rw [← T.out]; exact N.out), rfl⟩

theorem lawWords_any (A : Option Addr) (zs : List Nat) (c : Nat) (w : World) (h : Rd w A zs) :
    Calls Try.prog 11 #[.slice A zs.length c] w fun e w' => e = .returned (.int .u16 ((65535 - wd zs : Nat) : Int)) ∧ w = w' := by
  have H := Lib.hid h
  have hl := h.1
  clear h
  go_enter Try.func11, Try.ntmps11
  go_wp2
  go_loop [3, 7] (fun t i => ∃ k : Nat, k ≤ zs.length ∧ i = .int .i64 k ∧ t = .int .i64 (can (tot zs k) : Nat)) (fun _ i => zs.length - (intOf i).toNat)
  case atStart => exact ⟨0, by omega, rfl, rfl⟩
  case round =>
    obtain ⟨k, hk, rfl, rfl⟩ := hrel
    have ht := can_le (tot zs k)
    by_cases hlt : k < zs.length
    · obtain ⟨x, rfl, h1⟩ := H.out.2.2 k hlt
      have b1 := H.out.2.1 k
      have vb := vl_le (k := k) b1
      have CC := Lib.hid (can_add (tot zs k) (vl k (zs.getD k 0)) (by omega))
      have T := Lib.hid (show tot zs (k + 1) = tot zs k + vl k (zs.getD k 0) from rfl)
      by_cases hp : k % 2 = 0
      · have E : (k : Int) % 2 = 0 := by omega
        have V := Lib.hid (show vl k (zs.getD k 0) = 256 * zs.getD k 0 by rw [vl, if_pos hp])
        clear hp vb
        generalize zs.getD k 0 = a at *
        by_cases hs : can (tot zs k) + 256 * a ≤ 65535
        · have F := Lib.hid (show can (tot zs (k + 1)) = can (tot zs k) + 256 * a by rw [T.out, CC.out, V.out, if_pos hs])
          clear CC T V
          generalize can (tot zs k) = t at *
          go_wp2
          go_round
          case rel => exact ⟨k + 1, by omega, by go_num, by rw [F.out]; go_num⟩
          case measure => simp [intOf]; omega
        · have F := Lib.hid (show can (tot zs (k + 1)) = can (tot zs k) + 256 * a - 65535 by rw [T.out, CC.out, V.out, if_neg hs])
          clear CC T V
          generalize can (tot zs k) = t at *
          go_wp2
          go_round
          case rel => exact ⟨k + 1, by omega, by go_num, by rw [F.out]; go_num⟩
          case measure => simp [intOf]; omega
      · have E : (k : Int) % 2 = 1 := by omega
        have V := Lib.hid (show vl k (zs.getD k 0) = zs.getD k 0 by rw [vl, if_neg hp])
        clear hp vb
        generalize zs.getD k 0 = a at *
        by_cases hs : can (tot zs k) + a ≤ 65535
        · have F := Lib.hid (show can (tot zs (k + 1)) = can (tot zs k) + a by rw [T.out, CC.out, V.out, if_pos hs])
          clear CC T V
          generalize can (tot zs k) = t at *
          go_wp2
          go_round
          case rel => exact ⟨k + 1, by omega, by go_num, by rw [F.out]; go_num⟩
          case measure => simp [intOf]; omega
        · have F := Lib.hid (show can (tot zs (k + 1)) = can (tot zs k) + a - 65535 by rw [T.out, CC.out, V.out, if_neg hs])
          clear CC T V
          generalize can (tot zs k) = t at *
          go_wp2
          go_round
          case rel => exact ⟨k + 1, by omega, by go_num, by rw [F.out]; go_num⟩
          case measure => simp [intOf]; omega
    · obtain rfl : k = zs.length := by omega
      have T := Lib.hid (show can (tot zs zs.length) = wd zs from rfl)
      generalize can (tot zs zs.length) = t at *
      go_wp2
      go_ret
      exact ⟨ret_int (by rw [← T.out]; omega), rfl⟩

theorem sealed_any (A : Option Addr) (zs : List Nat) (c : Nat) (w : World) (h : Rd w A zs) :
    Calls Try.prog 12 #[.slice A zs.length c] w fun e w' => e = .returned (.bool (decide (wd zs = 65535))) ∧ w = w' := by
  have C := Lib.hid (words_any A zs c w h)
  have hw := wd_le zs
  clear h
  go_enter Try.func12, Try.ntmps12
  go_wp2_with fail
  refine C.out.mono ?_
  rintro e w1 ⟨rfl, rfl⟩
  go_wp2_with fail
  go_ret
  exact ⟨ret_bool (by rw [Bool.eq_iff_iff]; simp; omega), rfl⟩

/-- The cells of bytes. -/
def cel (zs : List Nat) : List Value := zs.map fun z : Nat => Value.int .u8 (z : Int)
theorem cel_length (zs : List Nat) : (cel zs).length = zs.length := by unfold cel; simp
theorem cel_at {zs : List Nat} {k : Nat} (h : k < zs.length) : (cel zs)[k]? = some (.int .u8 ((zs.getD k 0 : Nat) : Int)) := by
  unfold cel
  rw [List.getElem?_map, List.getD_eq_getElem?_getD, List.getElem?_eq_getElem h]
  rfl
/-- What lies whole in a block can be read. -/
theorem Rd.block {w : World} {g : Nat} {cs : Array Value} {t : TypeId} {fr : Nat × Nat} {zs : List Nat} (h : w.heap[g]? = some (.cells cs t fr)) (hc : cs.toList = cel zs) (hb : Bs zs) (hn : zs.length ≤ 140737488355328) : Rd w (some ⟨g, 0, none⟩) zs := by
  refine ⟨hn, hb, fun k hk => ⟨_, rfl, ?_⟩⟩
  have e : (⟨g, 0, none⟩ : Addr).add k = ⟨g, k, none⟩ := by unfold Addr.add; split <;> simp_all
  rw [e, ← cel_at hk, ← hc]
  simp [World.cell?, h]
/-- What is owned can be read. -/
theorem Rd.own {w : World} {base : Nat} {e : TypeId} {A : Option Addr} {n c : Nat} {zs : List Nat} (h : w.ownsRow base e 1 (.slice A n c) n (cel zs)) (hb : Bs zs) (hn : zs.length ≤ 140737488355328) : n = zs.length ∧ Rd w A zs := by
  have hl : n = zs.length := by have := h.1; rw [cel_length] at this; omega
  refine ⟨hl, hn, hb, fun k hk => ?_⟩
  obtain ⟨g, cap, hv, _, hlt⟩ := h.form (by omega)
  have hA : A = some ⟨g, 0, none⟩ := by injection hv
  subst hA
  exact ⟨_, rfl, h.cells (g := g) rfl k _ (cel_at hk)⟩

theorem chk_nine : chk [49, 50, 51, 52, 53, 54, 55, 56, 57] = 3808858755 := by decide +kernel
theorem wd_eight : 65535 - wd [0, 1, 242, 3, 244, 245, 246, 247] = 8717 := by decide +kernel
theorem awake_any (w : World) : Calls Try.prog 9 #[] w fun e w' => e = .returned (.bool true) ∧ Below w.heap.size w w' := by
  obtain ⟨C1, hC1⟩ : ∃ C : Array Value, C = #[.int .u8 49, .int .u8 50, .int .u8 51, .int .u8 52, .int .u8 53, .int .u8 54, .int .u8 55, .int .u8 56, .int .u8 57] := ⟨_, rfl⟩
  obtain ⟨C2, hC2⟩ : ∃ C : Array Value, C = #[.int .u8 0, .int .u8 1, .int .u8 242, .int .u8 3, .int .u8 244, .int .u8 245, .int .u8 246, .int .u8 247] := ⟨_, rfl⟩
  have r1 : Rd (w.alloc (.cells C1 5 (C1.size, C1.size + 1))) (some ⟨w.heap.size, 0, none⟩) [49, 50, 51, 52, 53, 54, 55, 56, 57] :=
    Rd.block (heap_alloc_new w _) (by rw [hC1]; rfl) (by intro i; match i with | 0 | 1 | 2 | 3 | 4 | 5 | 6 | 7 | 8 => decide | i + 9 => simp) (by simp)
  have r2 : Rd ((w.alloc (.cells C1 5 (C1.size, C1.size + 1))).alloc (.cells C2 5)) (some ⟨w.heap.size + 1, 0, none⟩) [0, 1, 242, 3, 244, 245, 246, 247] :=
    Rd.block (heap_alloc2_new w _ _) (by rw [hC2]; rfl) (by intro i; match i with | 0 | 1 | 2 | 3 | 4 | 5 | 6 | 7 => decide | i + 8 => simp) (by simp)
  have C := check_any _ _ 9 _ r1
  have D := words_any _ _ 8 _ r2
  rw [chk_nine] at C
  rw [wd_eight] at D
  subst hC1 hC2
  have K := Lib.run_convert_bytes_const (P := Try.prog) w 22 5 #[.int .u8 49, .int .u8 50, .int .u8 51, .int .u8 52, .int .u8 53, .int .u8 54, .int .u8 55, .int .u8 56, .int .u8 57] 9 9 Try.underlying22 Try.underlying5
  have CH := Lib.hid C
  have DH := Lib.hid D
  clear r1 r2 C D
  go_enter Try.func9, Try.ntmps9
  go_wp2_with fail
  refine CH.out.mono ?_
  rintro e w1 ⟨rfl, rfl⟩
  go_wp2_with fail
  refine DH.out.mono ?_
  rintro e w1 ⟨rfl, rfl⟩
  go_wp2_with fail
  go_ret
  exact ⟨rfl, ((Below.refl _ w).alloc (Nat.le_refl _) _).alloc (by simp) _⟩
end Go.Proofs.Ytnpmdhcebfpliaa
