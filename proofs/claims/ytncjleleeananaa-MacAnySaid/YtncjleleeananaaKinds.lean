/-
  Contracts of None, Group and Compare (package mac): what each returns, for every number, and that nothing that was in memory has changed.
-/
import Derived.Test.YtncjleleeananaaEq
import Derived.Lib.BytesEntry
import Derived.Lib.Bytealg
namespace Go.Proofs.Ytncjleleeananaa
open Go.RowKit

theorem none_any (b0 b1 b2 b3 b4 b5 : Int) (w : World) :
    Calls Try.prog 12 #[.agg #[.int .u8 b0, .int .u8 b1, .int .u8 b2, .int .u8 b3, .int .u8 b4, .int .u8 b5]] w fun e w' => e = .returned (.bool (eq6 b0 b1 b2 b3 b4 b5 0 0 0 0 0 0)) ∧ Below w.heap.size w w' := by
  have hq := fun W => run_eq6 b0 b1 b2 b3 b4 b5 0 0 0 0 0 0 W
  go_enter Try.func12, Try.ntmps12
  go_wp2
  go_ret
  exact ⟨rfl, (Below.refl _ _).alloc (Nat.le_refl _) _⟩
theorem and1 (b : Int) (h0 : 0 ≤ b) (h1 : b < 256) : bits .and .u8 b 1 = b % 2 := by
  rw [u8_and b 1 h0 h1 (by omega) (by omega)]
  have h : ∀ m : Fin 256, (m.val &&& 1) = m.val % 2 := by decide +kernel
  have := h ⟨b.toNat, by omega⟩
  simp only at this
  rw [show (1 : Int).toNat = 1 from rfl, this]
  omega
theorem group_any (b0 b1 b2 b3 b4 b5 : Int) (w : World) (h0 : 0 ≤ b0) (h1 : b0 < 256) :
    Calls Try.prog 13 #[.agg #[.int .u8 b0, .int .u8 b1, .int .u8 b2, .int .u8 b3, .int .u8 b4, .int .u8 b5]] w fun e w' => e = .returned (.bool (b0 % 2 == 1)) ∧ Below w.heap.size w w' := by
  have H := Lib.hid (and1 b0 h0 h1)
  go_enter Try.func13, Try.ntmps13
  go_wp2
  go_ret
  exact ⟨by rw [← H.out]; rfl, (Below.refl _ _).alloc (Nat.le_refl _) _⟩

/-- How two rows of bytes are ordered. -/
def cmpI : List Int → List Int → Int
  | x :: xs, y :: ys => if x < y then -1 else if y < x then 1 else cmpI xs ys
  | _, _ => 0
theorem byte_lt (x y : Int) (h0 : 0 ≤ x) (h1 : x < 256) (g0 : 0 ≤ y) (g1 : y < 256) : (x.toNat.toUInt8 < y.toNat.toUInt8) ↔ x < y := by
  rw [UInt8.lt_iff_toNat_lt]
  simp
  omega
theorem cmp_eq : ∀ (xs ys : List Int), xs.length = ys.length → (∀ n ∈ xs, 0 ≤ n ∧ n < 256) → (∀ n ∈ ys, 0 ≤ n ∧ n < 256) → Lib.compareBytes (Lib.bytesOf xs) (Lib.bytesOf ys) = cmpI xs ys
  | [], [], _, _, _ => rfl
  | x :: xs, y :: ys, hl, hx, hy => by
    have ih := cmp_eq xs ys (by simpa using hl) (fun n hn => hx n (List.mem_cons_of_mem _ hn)) (fun n hn => hy n (List.mem_cons_of_mem _ hn))
    have a := hx x (List.mem_cons_self ..)
    have b := hy y (List.mem_cons_self ..)
    have h1 := byte_lt x y a.1 a.2 b.1 b.2
    have h2 := byte_lt y x b.1 b.2 a.1 a.2
    simp only [Lib.bytesOf, List.map_cons, Lib.compareBytes, cmpI] at ih ⊢
    simp only [h1, h2, ih]

theorem run_cmp (p q c d : Nat) (xs ys : List Int) (w : World) (hx : xs.length = 6) (hy : ys.length = 6)
    (h1 : ∀ i, i < 6 → w.cell? ⟨p, i, none⟩ = some (.int .u8 (xs.getD i 0))) (h2 : ∀ i, i < 6 → w.cell? ⟨q, i, none⟩ = some (.int .u8 (ys.getD i 0))) :
    (Extern.BytealgCompare.compare #[.slice (some ⟨p, 0, none⟩) 6 c, .slice (some ⟨q, 0, none⟩) 6 d]).run Try.prog w = .ok (.int .i64 (Lib.compareBytes (Lib.bytesOf xs) (Lib.bytesOf ys))) w := by
  have go : ∀ (r : Nat) (zs : List Int), zs.length = 6 → (∀ i, i < 6 → w.cell? ⟨r, i, none⟩ = some (.int .u8 (zs.getD i 0))) →
      (Extern.Bytes.loadBytes ⟨r, 0, none⟩ 6 .empty).run Try.prog w = .ok ⟨(Lib.bytesOf zs).toArray⟩ w := by
    intro r zs hz hc
    have hl := Lib.run_loadBytesX (P := Try.prog) w zs ⟨r, 0, none⟩ .empty (fun j x hj => by
      have hjl : j < zs.length := (List.getElem?_eq_some_iff.1 hj).1
      have e : (⟨r, 0, none⟩ : Addr).add j = ⟨r, j, none⟩ := by unfold Addr.add; split <;> simp_all
      rw [e, hc j (by omega), List.getD_eq_getElem?_getD, hj]
      rfl)
    rw [hz] at hl
    rw [hl]
    have he : (⟨ByteArray.empty.data ++ (Lib.bytesOf zs).toArray⟩ : ByteArray) = ⟨(Lib.bytesOf zs).toArray⟩ := by
      apply ByteArray.ext
      show (#[] : Array UInt8) ++ (Lib.bytesOf zs).toArray = (Lib.bytesOf zs).toArray
      simp
    rw [he]
  change Sem.run Try.prog (do pure (goInt (Extern.BytealgCompare.cmp (← Extern.Bytes.bytesOf (.slice (some ⟨p, 0, none⟩) 6 c)) (← Extern.Bytes.bytesOf (.slice (some ⟨q, 0, none⟩) 6 d))))) w = _
  simp only [Extern.Bytes.bytesOf, Sem.run_bind, go p xs hx h1, go q ys hy h2, Result.andThen_ok, Sem.run_pure]
  rw [Lib.cmp_eq]
  rfl

theorem bytes_cmp (p q c d : Nat) (xs ys : List Int) (w : World) (hx : xs.length = 6) (hy : ys.length = 6)
    (h1 : ∀ i, i < 6 → w.cell? ⟨p, i, none⟩ = some (.int .u8 (xs.getD i 0))) (h2 : ∀ i, i < 6 → w.cell? ⟨q, i, none⟩ = some (.int .u8 (ys.getD i 0)))
    (b1 : ∀ n ∈ xs, 0 ≤ n ∧ n < 256) (b2 : ∀ n ∈ ys, 0 ≤ n ∧ n < 256) :
    Calls Try.prog 17 #[.slice (some ⟨p, 0, none⟩) 6 c, .slice (some ⟨q, 0, none⟩) 6 d] w fun e w' => e = .returned (.int .i64 (cmpI xs ys)) ∧ w' = w := by
  have hr := run_cmp p q c d xs ys w hx hy h1 h2
  rw [cmp_eq xs ys (hx.trans hy.symm) b1 b2] at hr
  have HR := Lib.hid hr
  clear hr hx hy h1 h2 b1 b2
  go_enter Try.func17, Try.ntmps17
  go_wp2
  rw [run_callFunc_extern Try.func19 (by kernel_rfl) (by kernel_rfl) (by kernel_rfl) (e := Extern.BytealgCompare.compare) (by kernel_rfl), HR.out]
  simp only [Result.andThen]
  rw [Oper.upon_value]
  go_wp2
  go_ret
  exact ⟨rfl, rfl⟩

theorem compare_any (a0 a1 a2 a3 a4 a5 b0 b1 b2 b3 b4 b5 : Int) (w : World) (h1 : ∀ n ∈ [a0, a1, a2, a3, a4, a5], 0 ≤ n ∧ n < 256) (h2 : ∀ n ∈ [b0, b1, b2, b3, b4, b5], 0 ≤ n ∧ n < 256) :
    Calls Try.prog 14 #[.agg #[.int .u8 a0, .int .u8 a1, .int .u8 a2, .int .u8 a3, .int .u8 a4, .int .u8 a5], .agg #[.int .u8 b0, .int .u8 b1, .int .u8 b2, .int .u8 b3, .int .u8 b4, .int .u8 b5]] w fun e w' => e = .returned (.int .i64 (cmpI [a0, a1, a2, a3, a4, a5] [b0, b1, b2, b3, b4, b5])) ∧ Below w.heap.size w w' := by
  have H1 := Lib.hid h1
  have H2 := Lib.hid h2
  clear h1 h2
  go_enter Try.func14, Try.ntmps14
  go_wp2
  go_quiet ((go_at_call 17; exact Calls.quiet_of_same (bytes_cmp _ _ _ _ [a0, a1, a2, a3, a4, a5] [b0, b1, b2, b3, b4, b5] _ rfl rfl (by intro i hi; rcases (show i = 0 ∨ i = 1 ∨ i = 2 ∨ i = 3 ∨ i = 4 ∨ i = 5 by omega) with rfl | rfl | rfl | rfl | rfl | rfl <;> simp) (by intro i hi; rcases (show i = 0 ∨ i = 1 ∨ i = 2 ∨ i = 3 ∨ i = 4 ∨ i = 5 by omega) with rfl | rfl | rfl | rfl | rfl | rfl <;> simp) H1.out H2.out)))
  go_wp2
  go_ret
  exact ⟨rfl, bdrewN (((Below.refl _ w).alloc (Nat.le_refl _) _).alloc (by simp) _) nq⟩
end Go.Proofs.Ytncjleleeananaa
