/-
  The contracts of formedArp and ReadArp: the packet of bytes by ARP, or that they are none. Conditions: rows of bytes that can be read.
-/
import Derived.Test.YtgdbkjiifliobaaEchoWalk
set_option linter.unusedSimpArgs false
namespace Go.Proofs.Ytgdbkjiifliobaa
open Go.RowKit

def h7 : List Nat := [0, 1, 8, 0, 6, 4, 0]
theorem bs_h7 : Bs h7 := by
  intro i
  match i with
  | 0 | 1 | 2 | 3 | 4 | 5 | 6 => decide
  | i + 7 => simp [h7]
/-- Whether bytes are a packet's by ARP, but for its station. -/
def fa (zs : List Nat) : Bool := decide (zs.length = 28 ∧ zs.take 7 = h7 ∧ (zs.getD 7 0 = 1 ∨ zs.getD 7 0 = 2))

set_option maxRecDepth 100000 in
set_option maxHeartbeats 1000000 in
theorem formedArp_any (A : Option Addr) (zs : List Nat) (c : Nat) (w : World) (h : Rd w A zs) (hc : zs.length ≤ c) :
    Calls Try.prog 24 #[.slice A zs.length c] w fun e w' => e = .returned (.bool (fa zs)) ∧ w = w' := by
  by_cases hl : zs.length = 28
  · obtain ⟨x, rfl⟩ := h.some (by omega)
    obtain ⟨T, hT⟩ : ∃ T, stg (zs.take 7) = T := ⟨_, rfl⟩
    have R : (convert 28 9 (.slice (some x) 7 c)).run Try.prog w = .ok (.string T) w := by
      have := run_stg (h.take 7) c
      rw [List.length_take, hl, hT] at this
      exact this
    have HB : (T.toList == ([0, 1, 8, 0, 6, 4, 0] : List UInt8)) = decide (zs.take 7 = h7) := by
      rw [← hT, show ([0, 1, 8, 0, 6, 4, 0] : List UInt8) = (stg h7).toList by rw [ByteArray.toList_eq]; rfl]
      exact stg_eq (h.2.1.take 7) bs_h7
    have c7 := h.at 6 (by omega)
    have F := Lib.hid (show fa zs = decide (zs.take 7 = h7 ∧ (zs.getD 7 0 = 1 ∨ zs.getD 7 0 = 2)) by unfold fa; simp [hl])
    rw [hl] at hc ⊢
    clear h hl hT
    change w.cell? ⟨x.block, x.off + 7, none⟩ = some (.int .u8 ((zs.getD 7 0 : Nat) : Int)) at c7
    generalize zs.getD 7 0 = z at *
    by_cases ht : zs.take 7 = h7
    · rw [decide_eq_true ht] at HB
      by_cases h1 : z = 1
      · have E1 : ((z : Int) == 1) = true := by simp; omega
        have F2 := Lib.hid (show fa zs = true by rw [F.out]; simp [ht, h1])
        clear F h1 ht
        go_enter Try.func24, Try.ntmps24
        go_wp2
        go_ret
        exact ⟨ret_bool F2.out.symm, rfl⟩
      · have E1 : ((z : Int) == 1) = false := by simp; omega
        have F2 := Lib.hid (show fa zs = ((z : Int) == 2) by rw [F.out, Bool.eq_iff_iff]; simp [ht, h1]; omega)
        clear F h1 ht
        go_enter Try.func24, Try.ntmps24
        go_wp2
        go_ret
        exact ⟨ret_bool F2.out.symm, rfl⟩
    · rw [decide_eq_false ht] at HB
      have F2 := Lib.hid (show fa zs = false by rw [F.out]; simp [ht])
      clear F ht
      go_enter Try.func24, Try.ntmps24
      go_wp2
      go_ret
      exact ⟨ret_bool F2.out.symm, rfl⟩
  · have F := Lib.hid (show fa zs = false by unfold fa; simp [hl])
    have E : ((zs.length : Int) == 28) = false := by simp; omega
    clear hl h
    generalize zs.length = n at *
    go_enter Try.func24, Try.ntmps24
    go_wp2
    go_ret
    exact ⟨ret_bool F.out.symm, rfl⟩

set_option maxRecDepth 100000 in
theorem readArp_form (A : Option Addr) (zs : List Nat) (c : Nat) (w : World) (h : Rd w A zs) (hc : zs.length ≤ c) (hf : fa zs = false) :
    Calls Try.prog 12 #[.slice A zs.length c] w fun e w' => e = .returned (.tuple #[pv zp, .int .i64 1]) ∧ Below w.heap.size w w' := by
  have C := Lib.hid (formedArp_any A zs c _ (h.below ((Below.refl _ w).alloc (Nat.le_refl _) (Px zp))) hc)
  rw [hf] at C
  have B := Lib.hid ((Below.refl w.heap.size w).alloc (Nat.le_refl _) (Px zp))
  have PB := Lib.hid (pb_box w zp)
  clear h hf
  generalize zs.length = n at *
  go_enter Try.func12, Try.ntmps12
  go_wp2_with fail
  refine C.out.mono ?_
  rintro e w1 ⟨rfl, rfl⟩
  go_wp2_with (refine at_store27 _ _ _ zp zp PB.out rfl rfl rfl rfl ?_; intro w2 P2 B2)
  refine bodyPost_ret (results_cell2 rfl _ _ _ _ rfl (load27 P2.out.1)) rfl ?_
  exact ⟨rfl, B.out.trans (B2.out _ (Nat.le_refl _))⟩

/-- The packet that bytes by ARP are. -/
def apk (zs : List Nat) : Pk :=
  ⟨((zs.getD 7 0 : Nat) : Int) == 2, 65536 * (256 * zs.getD 14 0 + zs.getD 15 0) + (256 * zs.getD 16 0 + zs.getD 17 0), 65536 * (256 * zs.getD 24 0 + zs.getD 25 0) + (256 * zs.getD 26 0 + zs.getD 27 0),
    zs.getD 8 0, zs.getD 9 0, zs.getD 10 0, zs.getD 11 0, zs.getD 12 0, zs.getD 13 0, 0, 0⟩
/-- No station's number, or one of many. -/
def bad (p : Pk) : Bool := eq6 p.m0 p.m1 p.m2 p.m3 p.m4 p.m5 0 0 0 0 0 0 || ((p.m0 : Int) % 2 == 1)
def rae (zs : List Nat) : Int := if fa zs = true then (if (apk zs).a = true ∧ bad (apk zs) = true then 1 else 0) else 1
def rap (zs : List Nat) : Pk := if rae zs = 0 then apk zs else zp
theorem at_copyMac {ops : Array Oper} {rest : List Oper} {o : Oper} {a : Act} {w : World} {Q : Exit → Act → World → Prop} (d s : Operand) (b : Nat) (p : Pk) (x : Addr) (m cm : Nat) (z0 z1 z2 z3 z4 z5 : Nat) (ys : List Nat) (H : Pb w b p) (R : Rd w (some x) (z0 :: z1 :: z2 :: z3 :: z4 :: z5 :: ys)) (hm : 6 ≤ m) (hgd : o.guard = none)
    (ho : o.op = .call { callee := .builtin .copy, args := #[d, s], argTypes := #[28, 28] }) (hd : a.eval d = .slice (some ⟨b, 3, none⟩) 6 6) (hs : a.eval s = .slice (some x) m cm)
    (h : ∀ w', Hid (Pb w' b ⟨p.a, p.f, p.t, z0, z1, z2, z3, z4, z5, p.i, p.s⟩) → Hid (∀ B, B ≤ b → Below B w w') → wpList Try.prog ops Q rest (a.put o.dst (goInt 6)) w') : wpList Try.prog ops Q (o :: rest) a w := by
  refine wpList_plain hgd fun K hK => ?_
  have hrun := run_copy_cells (P := Try.prog) w 28 28 o.type 5 b 3 6 6 x m cm (cel [z0, z1, z2, z3, z4, z5]) Try.underlying28 (by kernel_rfl) (by show 6 = min m 6; omega)
    (fun j v hv => R.cells j v (by
      have hj : j < 6 := by have := (List.getElem?_eq_some_iff.1 hv).1; rwa [cel_length] at this
      match j, hj with
      | 0, _ => exact hv
      | 1, _ => exact hv
      | 2, _ => exact hv
      | 3, _ => exact hv
      | 4, _ => exact hv
      | 5, _ => exact hv))
    (fun j hj => by have := (H.2 (3 + j) (by have : j < 6 := hj; omega)).1; rwa [Nat.zero_add] at this) (fun j hj => by have := (H.2 (3 + j) (by have : j < 6 := hj; omega)).2; rwa [Nat.zero_add] at this) (cel_one _)
  unfold Oper.wp execOp
  simp only [ho, resolve, invoke, builtin, Sem.run_bind, Sem.run_pure, Result.andThen_ok, List.map_toArray, List.map_cons, List.map_nil, hd, hs, hrun]
  refine hK _ _ (h _ (H.part 3 _ _ (by show 3 + 6 ≤ 11; omega) (fun j v hv => ?_)) (fun _ hB => below_put hB _ _ _ (Below.refl _ _)))
  match j, hv with
  | 0, hv | 1, hv | 2, hv | 3, hv | 4, hv | 5, hv | 6, hv | 7, hv | 8, hv | 9, hv | 10, hv => simpa [pl, cel] using hv
end Go.Proofs.Ytgdbkjiifliobaa
