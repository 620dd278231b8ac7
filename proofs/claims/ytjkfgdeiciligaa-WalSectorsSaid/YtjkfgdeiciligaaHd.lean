/-
  The contract of the statements' own head. Conditions: a kind is a byte, a number has 32 bits, a row is short.
-/
import Derived.Test.YtjkfgdeiciligaaKept
namespace Go.Proofs.Ytjkfgdeiciligaa
open Go.RowKit

/-- The bytes of a head as they are put together. -/
def hcl (kind number len m : Nat) : List Value := [.int .u8 ((len : Int) / 256), .int .u8 ((len : Int) % 256), .int .u8 ((number : Int) / 16777216), .int .u8 ((number : Int) / 65536 % 256), .int .u8 ((number : Int) / 256 % 256), .int .u8 ((number : Int) % 256),
  .int .u8 ((m : Int) / 16777216), .int .u8 ((m : Int) / 65536 % 256), .int .u8 ((m : Int) / 256 % 256), .int .u8 ((m : Int) % 256), .int .u8 (kind : Int), .int .u8 197]
theorem hcl_one (kind number len m : Nat) : ∀ v ∈ hcl kind number len m, v.oneCell' = true := by
  intro v hv
  simp only [hcl, List.mem_cons, List.not_mem_nil, or_false] at hv
  rcases hv with rfl | rfl | rfl | rfl | rfl | rfl | rfl | rfl | rfl | rfl | rfl | rfl <;> rfl
theorem ret_u8 {a b : Int} (h : a = b) : Value.int .u8 a = .int .u8 b := by rw [h]
theorem hcl_hd (kind number : Nat) (zs : List Nat) (hn : number < 4294967296) (hl : zs.length < 65536) (hc : chk zs < 4294967296) (j : Nat) : ((hcl kind number zs.length (chk zs))[j]?).getD (.int .u8 0) = .int .u8 (hd kind number zs j : Int) := by
  match j with
  | 0 => exact ret_u8 (by simp [hd]; omega)
  | 1 => exact ret_u8 (by simp [hd])
  | 2 => exact ret_u8 (by simp [hd]; omega)
  | 3 => exact ret_u8 (by simp [hd])
  | 4 => exact ret_u8 (by simp [hd])
  | 5 => exact ret_u8 (by simp [hd])
  | 6 => exact ret_u8 (by simp [hd]; omega)
  | 7 => exact ret_u8 (by simp [hd])
  | 8 => exact ret_u8 (by simp [hd])
  | 9 => exact ret_u8 (by simp [hd])
  | 10 => exact ret_u8 (by simp [hd])
  | 11 => exact ret_u8 (by simp [hd])
  | j + 12 =>
    rw [List.getElem?_eq_none (by simp [hcl])]
    exact ret_u8 (by simp only [hd]; rw [if_neg (by omega), if_neg (by omega), if_neg (by omega), if_neg (by omega), if_neg (by omega)]; rfl)

theorem rowIs_setOther6 {w : World} {b n : Nat} {t : TypeId} {f : Nat → Value} (h : w.rowIs b t n f) (g : Nat) (hne : b ≠ g) (vs : List Value) (o : Nat) : (w.setCells g o vs).rowIs b t n f := h.of_block (heap_setCells_other _ _ _ _ _ hne)
set_option maxHeartbeats 1000000 in
set_option maxRecDepth 100000 in
theorem head_any (kind number : Nat) (A : Option Addr) (zs : List Nat) (c : Nat) (w : World) (hk : kind < 256) (hn : number < 4294967296) (hl : zs.length < 65536) (h : Rd w A zs) :
    Calls Try.prog 23 #[.int .i64 kind, .int .i64 number, .slice A zs.length c] w fun e w' => e = .returned (sv (hd kind number zs)) ∧ Below w.heap.size w w' := by
  have BB := Lib.hid (((Below.refl w.heap.size w).alloc (Nat.le_refl _) Z64).alloc (by simp) Z64)
  have CK := Lib.hid (check_any A zs c _ (h.below BB.out))
  have RX := Lib.hid (((rowZ w).alloc Z64))
  have R1 := Lib.hid (rowZ (w.alloc Z64))
  rw [World.size_alloc] at R1
  have hck := chk_lt h.2.1
  obtain ⟨m, hm⟩ : ∃ m, m = chk zs := ⟨_, rfl⟩
  have HM := Lib.hid hm
  rw [← hm] at CK hck
  clear h hm
  go_enter Try.func23, Try.ntmps23
  go_wp2_with (refine at_alloc38 rfl rfl ?_)
  refine CK.out.mono ?_
  rintro e w1 ⟨rfl, rfl⟩
  have TX := Lib.hid (((rowIs_there (RX.out.alloc (.cells (hcl kind number zs.length m).toArray 5)) (o := 0) (m := 64) (by omega))))
  have T1 := Lib.hid (rowIs_there (R1.out.alloc (.cells (hcl kind number zs.length m).toArray 5)) (o := 0) (m := 64) (by omega))
  have S1 : Hid (∀ j v, (hcl kind number zs.length m)[j]? = some v → (((w.alloc Z64).alloc Z64).alloc (.cells (hcl kind number zs.length m).toArray 5)).cell? ((⟨w.heap.size + 1 + 1, 0, none⟩ : Addr).add j) = some v) := fun j v hv => by
    have hb : (((w.alloc Z64).alloc Z64).alloc (.cells (hcl kind number zs.length m).toArray 5)).heap[w.heap.size + 1 + 1]? = some (.cells (hcl kind number zs.length m).toArray 5) := by
      have := heap_alloc_new ((w.alloc Z64).alloc Z64) (.cells (hcl kind number zs.length m).toArray 5)
      simpa using this
    rw [Addr.add_mid, Nat.zero_add, cell_of_row _ _ _ _ _ _ hb]
    simpa using hv
  have RR := Lib.hid (rowIs_setCells (hcl kind number zs.length m) 0 (R1.out.alloc (.cells (hcl kind number zs.length m).toArray 5)))
  have T2 := Lib.hid (rowIs_there (rowIs_setOther6 (RX.out.alloc (.cells (hcl kind number zs.length m).toArray 5)) (w.heap.size + 1) (by omega) (hcl kind number zs.length m) 0) (o := 0) (m := 64) (by omega))
  have B3 := Lib.hid (below_setCells (w.heap.size + 1) (hcl kind number zs.length m) 0 (BB.out.alloc (by simp; omega) (.cells (hcl kind number zs.length m).toArray 5)) (by omega))
  have HRD := Lib.hid (rowIs_range (s := hd kind number zs) RR.out rfl (fun j hj => by
    rw [if_pos (Nat.zero_le _), Nat.sub_zero, HM.out]
    exact hcl_hd kind number zs hn hl (by rw [← HM.out]; exact hck) j))
  have HRn := Lib.hid (loadVar38 (World.rangeAt_setCells_same _ w.heap.size 0 (sc (hd kind number zs)) (by rw [sc_length]; exact T2.out)))
  have B4 := Lib.hid (below_setCells w.heap.size (sc (hd kind number zs)) 0 B3.out (Nat.le_refl _))
  clear TX RX R1 RR BB B3 CK
  go_upto_region 4 with (refine wpList_copy2 ?_ (.tmp 11) (.tmp 43) ?_ (w.heap.size + 1) 0 64 64 ?_ ⟨w.heap.size + 1 + 1, 0, none⟩ 12 12 ?_ (hcl kind number zs.length m) ?_ ?_ ?_ (hcl_one _ _ _ _) ?_; (with_reducible rfl); (with_reducible rfl); rfl; rfl; rfl; exact S1.out; exact T1.out)
  clear T1 S1
  go_wp2_with (first
    | (refine at_load38 (.tmp 7) ?_ ?_ (w.heap.size + 1) 0 (hd kind number zs) ?_ HRD.out ?_; (with_reducible rfl); (with_reducible rfl); rfl)
    | (refine at_store38 (.tmp 6) (.tmp 45) ?_ ?_ w.heap.size 0 (hd kind number zs) ?_ ?_ T2.out ?_; (with_reducible rfl); (with_reducible rfl); rfl; rfl))
  refine bodyPost_ret (results_cell rfl _ _ _ _ rfl HRn.out) rfl ?_
  exact ⟨rfl, B4.out⟩
end Go.Proofs.Ytjkfgdeiciligaa
