/-
  The contract of the statements' own sights: sightings by numbers. Conditions: the numbers lie in memory, and are bytes.
-/
import Derived.Test.YtpiieagdgickgaaAwk
set_option linter.unusedSimpArgs false
set_option linter.unusedVariables false
namespace Go.Proofs.Ytpiieagdgickgaa
open Go.RowKit

/-- A sighting by numbers. -/
structure Sn where
  mc : Int
  la : Int
def Sn.ok (x : Sn) : Prop := (0 ≤ x.mc ∧ x.mc < 256) ∧ (0 ≤ x.la ∧ x.la < 256)
def nl (x : Sn) : List Value := [.int .u8 x.mc, .int .u8 x.la]
def nv (x : Sn) : Value := .agg #[.int .u8 x.mc, .int .u8 x.la]
def eN : El Sn := ⟨nl, 2, by decide, fun _ => rfl, by
  intro x u hu
  simp [nl] at hu
  rcases hu with rfl | rfl <;> rfl⟩
theorem size57 : (Try.prog.info? 57).map (·.size) = some 2 := by kernel_rfl
theorem load57 {w : World} {y : Addr} {x : Sn} (h : ∀ j v, (nl x)[j]? = some v → w.cell? (y.add j) = some v) : (Instr.loadAt 57 (.pointer (some y))).run Try.prog w = .ok (nv x) w := by
  have hl' : (loadCells y 2).run Try.prog w = .ok (nl x).toArray w := run_loadCells_list (P := Try.prog) w y (nl x) h
  obtain ⟨i, hi, hs⟩ := Option.map_eq_some_iff.1 size57
  have hg : (isAgg 57).run Try.prog w = .ok true w := by
    unfold isAgg
    simp only [Sem.run_bind, run_underlying Try.underlying57, Result.andThen_ok, Sem.run_pure]
  have hz : (Go.sizeOf 57).run Try.prog w = .ok 2 w := by
    rw [← hs]
    simp [Go.sizeOf, typeInfo, hi]
  simp only [Instr.loadAt, Instr.sureAddr, loadVar, Sem.run_bind, Sem.run_pure, Result.andThen_ok, hg, hz, hl', if_true]
  rfl
theorem at_load57 {ops : Array Oper} {rest : List Oper} {op : Oper} {a : Act} {w : World} {Q : Exit → Act → World → Prop} (x : Operand) (hgd : op.guard = none) (ho : op.op = .load 57 x) (y : Addr) (z : Sn) (hx : a.eval x = .pointer (some y)) (hr : ∀ j v, (nl z)[j]? = some v → w.cell? (y.add j) = some v)
    (h : wpList Try.prog ops Q rest (a.put op.dst (.agg #[.int .u8 z.mc, .int .u8 z.la])) w) : wpList Try.prog ops Q (op :: rest) a w :=
  wpList_plain hgd fun _ hK => by
    unfold Oper.wp execOp
    simp only [ho, hx, Sem.run_bind, Sem.run_pure, Result.andThen_ok, load57 hr]
    exact hK _ _ h
/-- How much later the last one is; the sightings. -/
def sm : List Sn → Int
  | [] => 0
  | x :: r => x.la % 8 + sm r
def sgL : Int → List Sn → List Sg
  | _, [] => []
  | a, x :: r => ⟨2, sn x.mc, a + x.la % 8⟩ :: sgL (a + x.la % 8) r
theorem sm_snoc (x : Sn) : ∀ l, sm (l ++ [x]) = sm l + x.la % 8
  | [] => by simp [sm]
  | y :: r => by
    have := sm_snoc x r
    simp only [List.cons_append, sm, this]
    omega
theorem sgL_snoc (x : Sn) : ∀ l a, sgL a (l ++ [x]) = sgL a l ++ [⟨2, sn x.mc, a + sm l + x.la % 8⟩]
  | [], a => by simp [sgL, sm]
  | y :: r, a => by
    have := sgL_snoc x r (a + y.la % 8)
    simp only [List.cons_append, sgL, this, sm]
    rw [show a + y.la % 8 + sm r = a + (y.la % 8 + sm r) by omega]
theorem sgL_length : ∀ l a, (sgL a l).length = l.length
  | [], _ => rfl
  | x :: r, a => by simp [sgL, sgL_length r]
theorem sm_in : ∀ l, 0 ≤ sm l ∧ sm l ≤ 7 * l.length
  | [] => by simp [sm]
  | x :: r => by
    have := sm_in r
    simp only [sm, List.length_cons]
    omega
/-- Every tick is between, and the last one is the greatest. -/
theorem sgL_in : ∀ l a, ∀ s ∈ sgL a l, a ≤ s.t ∧ s.t ≤ a + sm l
  | [], _, s, h => by simp [sgL] at h
  | x :: r, a, s, h => by
    simp only [sgL, List.mem_cons] at h
    have h1 := sm_in r
    simp only [sm]
    rcases h with rfl | h
    · dsimp only
      omega
    · have := sgL_in r (a + x.la % 8) s h
      omega
theorem sgL_last (l : List Sn) (a : Int) (h : l ≠ []) : ∃ s, (sgL a l).getLast? = some s ∧ s.t = a + sm l := by
  obtain ⟨r, x, rfl⟩ : ∃ r x, l = r ++ [x] := ⟨l.dropLast, l.getLast h, (List.dropLast_concat_getLast h).symm⟩
  refine ⟨_, by rw [sgL_snoc, List.getLast?_append]; rfl, ?_⟩
  rw [sm_snoc]
  show a + sm r + x.la % 8 = _
  omega
/-- The sightings of numbers: of up to 12. -/
def sgs (l : List Sn) : List Sg := sgL 0 (l.take 12)
theorem sgs_le (l : List Sn) : (sgs l).length ≤ 12 := by
  unfold sgs
  rw [sgL_length, List.length_take]
  omega

set_option maxRecDepth 100000 in
set_option maxHeartbeats 4000000 in
theorem sights_any (A : Option Addr) (xs : List Sn) (cap : Nat) (w : World) (h : Rw eN w A xs) (hok : ∀ x ∈ xs, x.ok) (hc : xs.length ≤ cap) :
    Calls Try.prog 11 #[.slice A xs.length cap] w (OwnPost eS 48 w (sgs xs)) := by
  obtain ⟨L, hL⟩ : ∃ L : Nat, min (xs.length : Int) 12 = L := ⟨min xs.length 12, by omega⟩
  have hL12 : L ≤ 12 := by omega
  have hLz : L ≤ xs.length := by omega
  have hLc : (L : Int) ≤ cap := by omega
  have hln := h.1
  have R := Lib.hid h
  have HT := Lib.hid (show xs.take L = xs.take 12 by
    by_cases h12 : xs.length ≤ 12
    · rw [List.take_of_length_le h12, List.take_of_length_le (by omega)]
    · rw [show L = 12 by omega])
  have HK := Lib.hid hok
  have HS := Lib.hid (fun (k : Nat) => sm_in (xs.take k))
  have HLN := Lib.hid (fun (k : Nat) => sgL_length (xs.take k) 0)
  have HLz := Lib.hid hLz
  clear h hok
  go_enter Try.func11, Try.ntmps11
  go_wp2_with fail
  go_loopw [3, 4, 13] (fun v a i wr => ∃ (k : Nat) (T : Int), i = .int .i64 k ∧ k ≤ L ∧ a = .int .i64 T ∧ 0 ≤ T ∧ T ≤ 7 * k ∧ Hid (T = sm (xs.take k) ∧ wr.ownsRow w.heap.size 48 8 v (sgL 0 (xs.take k)).length (eS.cs (sgL 0 (xs.take k))) ∧ Below w.heap.size w wr)) (fun _ _ i _ => L - (intOf i).toNat)
  case atStart => exact ⟨0, 0, rfl, by omega, rfl, by omega, by omega, Lib.hid ⟨rfl, World.ownsRow_nil _ _ _ _, Below.refl _ _⟩⟩
  case round =>
    obtain ⟨k, T, rfl, hk, rfl, hT0, hT1, HH⟩ := hrel
    by_cases hlt : k < L
    · obtain ⟨x, hx⟩ : ∃ x, xs[k]? = some x := ⟨_, List.getElem?_eq_getElem (by have := HLz.out; omega)⟩
      obtain ⟨⟨i0, i1⟩, ⟨i2, i3⟩⟩ := HK.out x (List.mem_of_getElem? hx)
      have RR := R.out.below HH.out.2.2
      obtain ⟨y, rfl⟩ := rw_some RR (by have := HLz.out; omega)
      have hat := RR.at hx
      have HTK := Lib.hid (show xs.take (k + 1) = xs.take k ++ [x] by rw [List.take_add_one, hx]; rfl)
      have HSM := Lib.hid (sm_snoc x (xs.take k))
      have HSG := Lib.hid (sgL_snoc x (xs.take k) 0)
      have HLE := Lib.hid (show (sgL 0 (xs.take k)).length + 1 ≤ 1000000000000 by rw [HLN.out, List.length_take]; omega)
      have HA1 : Below wr.heap.size wr (wr.alloc (.cells #[.int .u8 x.mc, .int .u8 x.la] 57)) := (Below.refl _ wr).alloc (Nat.le_refl _) _
      have HB1 := Lib.hid (bthen HH.out.2.2 HA1 HH.out.2.2.size)
      have HO1 := Lib.hid (own_keep HH.out.2.1 HA1)
      have b0 : (wr.alloc (.cells #[.int .u8 x.mc, .int .u8 x.la] 57)).cell? ⟨wr.heap.size, 0, none⟩ = some (.int .u8 x.mc) := by simp
      have b1 : (wr.alloc (.cells #[.int .u8 x.mc, .int .u8 x.la] 57)).cell? ⟨wr.heap.size, 1, none⟩ = some (.int .u8 x.la) := by simp
      have HST := Lib.hid fun W => station_any x.mc W i0 i1
      obtain ⟨S, hS⟩ : ∃ S, sn x.mc = S := ⟨_, rfl⟩
      rw [hS] at HST HSG
      obtain ⟨mc, la⟩ := x
      dsimp only at i0 i1 i2 i3 HST HSM HSG b0 b1 HB1 HO1
      obtain ⟨T1, hT⟩ : ∃ T1, T + la % 8 = T1 := ⟨_, rfl⟩
      have HT1 := Lib.hid hT
      have hT10 : 0 ≤ T1 := by omega
      have hT11 : T1 ≤ 7 * ((k : Int) + 1) := by omega
      have HRM := Lib.hid fun W => rw_one W ⟨2, S, T1⟩ 48
      obtain ⟨a0, a1, a2, a3, a4, a5⟩ := S
      simp only [mv, sl] at HST HRM
      clear hx RR HA1 hS
      go_upto_region 6 with (refine at_load57 _ rfl rfl _ _ rfl hat ?_)
      clear hat
      generalize wr.alloc (.cells #[.int .u8 mc, .int .u8 la] 57) = W1 at *
      generalize wr.heap.size = N1 at *
      go_wp2_with fail
      refine (HST.out _).mono ?_
      rintro e w2 ⟨rfl, hb⟩
      have HB2 := Lib.hid (bthen HB1.out hb HB1.out.size)
      have HO2 := Lib.hid (own_keep HO1.out hb)
      have HA3 : Below w2.heap.size w2 (w2.alloc (.cells #[.int .i64 2, .int .u8 a0, .int .u8 a1, .int .u8 a2, .int .u8 a3, .int .u8 a4, .int .u8 a5, .int .i64 T1] 48)) := (Below.refl _ w2).alloc (Nat.le_refl _) _
      have HB3 := Lib.hid (bthen HB2.out HA3 HB2.out.size)
      have HO3 := Lib.hid (own_keep HO2.out HA3)
      clear HA3 hb b0 b1 hT
      go_wp2_with (at_builtin; refine wpList_append_rw tS _ rfl (.tmp 23) (.tmp 29) rfl w.heap.size _ _ _ (by simp [Act.eval, Act.put]) HO3.out (some ⟨w2.heap.size, 0, none⟩) 1 1 [⟨2, ⟨a0, a1, a2, a3, a4, a5⟩, T1⟩] (by simp [Act.eval, Act.put]) rfl (HRM.out w2) HLE.out HB3.out.size ?_)
      intro v4 w4 ho4 hg4
      have O4 := Lib.hid ho4
      have B4 := Lib.hid (HB3.out.grown hg4 HB3.out.size (fun j hj => (HO3.out.lt j hj).1))
      clear ho4 hg4
      go_wp2_with fail
      go_roundw
      case rel => exact ⟨k + 1, T1, by go_num, by omega, rfl, hT10, by simpa using hT11, Lib.hid ⟨by rw [HTK.out, HSM.out, ← HH.out.1, HT1.out], by rw [HTK.out, HSG.out, List.length_append, Int.zero_add, ← HH.out.1, HT1.out]; exact O4.out, B4.out⟩⟩
      case measure => simp [intOf]; omega
    · obtain rfl : k = L := by omega
      go_wp2_with fail
      go_ret
      exact ⟨_, rfl, by unfold sgs; rw [← HT.out]; exact HH.out.2.1, HH.out.2.2⟩
end Go.Proofs.Ytpiieagdgickgaa
