/-
  The contracts of codec.addMac, addBlock, addSighted. Conditions: the row is the call's own; the numbers are of their sizes.
-/
import Derived.Test.YtbjlklkmcpnemaaCdN
import Derived.Deep.RegionWith
set_option linter.unusedSimpArgs false
set_option linter.unusedVariables false
namespace Go.Proofs.Ytbjlklkmcpnemaa
open Go.RowKit

/-- A station's bytes. -/
def mcB (m0 m1 m2 m3 m4 m5 : Int) : List UInt8 := [byt m0, byt m1, byt m2, byt m3, byt m4, byt m5]
/-- Six numbers that are bytes. -/
structure By6 (m0 m1 m2 m3 m4 m5 : Int) : Prop where
  a : 0 ≤ m0 ∧ m0 < 256
  b : 0 ≤ m1 ∧ m1 < 256
  c : 0 ≤ m2 ∧ m2 < 256
  d : 0 ≤ m3 ∧ m3 < 256
  e : 0 ≤ m4 ∧ m4 < 256
  f : 0 ≤ m5 ∧ m5 < 256
theorem byt_in {n : Int} (h : 0 ≤ n ∧ n < 256) : ((byt n).toNat : Int) = n := by
  rw [byt_nat]
  omega
theorem cs6 {m0 m1 m2 m3 m4 m5 : Int} (h : By6 m0 m1 m2 m3 m4 m5) : bs (mcB m0 m1 m2 m3 m4 m5) = [.int .u8 m0, .int .u8 m1, .int .u8 m2, .int .u8 m3, .int .u8 m4, .int .u8 m5] := by
  unfold bs El.cs mcB eB
  simp only [List.flatMap_cons, List.flatMap_nil, List.singleton_append, byt_in h.a, byt_in h.b, byt_in h.c, byt_in h.d, byt_in h.e, byt_in h.f]
/-- Bytes that lie in cells. -/
theorem rw_bytes {w : World} {x : Addr} {l : List UInt8} (hl : l.length ≤ 140737488355328) (h : ∀ j v, (bs l)[j]? = some v → w.cell? (x.add j) = some v) : Rw eB w (some x) l := by
  refine ⟨hl, fun q z hq => ⟨x, rfl, fun j v hv => ?_⟩⟩
  have e : (bs l)[q]? = some (.int .u8 (z.toNat : Int)) := by
    clear h hl hv
    induction l generalizing q with
    | nil => simp at hq
    | cons a l ih =>
      cases q with
      | zero => simp at hq; subst hq; rfl
      | succ q =>
        have := ih (q := q) (by simpa using hq)
        unfold bs El.cs at this ⊢
        rw [List.flatMap_cons]
        exact this
  match j, hv with
  | 0, hv =>
    have hv' : some (Value.int .u8 (z.toNat : Int)) = some v := hv
    injection hv' with hv'
    subst hv'
    have := h q _ e
    rwa [show q * eB.N + 0 = q from by show q * 1 + 0 = q; omega]
theorem rw_mac (w : World) {m0 m1 m2 m3 m4 m5 : Int} (h : By6 m0 m1 m2 m3 m4 m5) (t : TypeId) : Rw eB (w.alloc (.cells #[.int .u8 m0, .int .u8 m1, .int .u8 m2, .int .u8 m3, .int .u8 m4, .int .u8 m5] t)) (some ⟨w.heap.size, 0, none⟩) (mcB m0 m1 m2 m3 m4 m5) := by
  refine rw_bytes (by simp [mcB]) fun j v hv => ?_
  rw [cs6 h] at hv
  match j, hv with
  | 0, hv | 1, hv | 2, hv | 3, hv | 4, hv | 5, hv =>
    simp at hv
    subst hv
    simp [Addr.add]
set_option maxRecDepth 100000 in
set_option maxHeartbeats 4000000 in
theorem mac_any (B : Nat) (v : Value) (xs : List UInt8) (m0 m1 m2 m3 m4 m5 : Int) (w : World) (ho : w.ownsRow B 5 1 v xs.length (bs xs)) (hB : B ≤ w.heap.size) (hx : xs.length ≤ 1000000000) (hm : By6 m0 m1 m2 m3 m4 m5) :
    Calls Try.prog 48 #[v, .agg #[.int .u8 m0, .int .u8 m1, .int .u8 m2, .int .u8 m3, .int .u8 m4, .int .u8 m5]] w (OutB B w v (xs ++ mcB m0 m1 m2 m3 m4 m5)) := by
  have RX := Lib.hid (rw_mac w hm 26)
  have BX := Lib.hid (show Below w.heap.size w (w.alloc (.cells #[.int .u8 m0, .int .u8 m1, .int .u8 m2, .int .u8 m3, .int .u8 m4, .int .u8 m5] 26)) from (Below.refl _ _).alloc (Nat.le_refl _) _)
  have OX := Lib.hid (own_keep ho BX.out)
  have hb6 : B ≤ (w.alloc (.cells #[.int .u8 m0, .int .u8 m1, .int .u8 m2, .int .u8 m3, .int .u8 m4, .int .u8 m5] 26)).heap.size := Nat.le_trans hB BX.out.size
  have hll : xs.length + 6 ≤ 1000000000000 := by omega
  clear ho hm
  go_enter Try.func48, Try.ntmps48
  go_wp2_with (at_builtin; refine wpList_append_rw2 tB _ rfl (.tmp 5) (.tmp 6) rfl B _ xs.length xs (by simp [Act.eval, Act.put]) OX.out _ 6 6 (mcB m0 m1 m2 m3 m4 m5) (by simp [Act.eval, Act.put]) rfl RX.out hll hb6 ?_)
  intro v' w' ho' hg' hn'
  have HN := Lib.hid (show OutB B w v (xs ++ mcB m0 m1 m2 m3 m4 m5) (.returned v') w' from ⟨v', rfl, own_eq ho' (by simp [mcB]) rfl, (Gw.of_below _ BX.out).trans (Gw.of_grown hg' (by rw [World.size_alloc]; exact hn'))⟩)
  clear ho' hg' hn'
  go_wp2_with fail
  go_ret
  exact HN.out
set_option maxRecDepth 100000 in
set_option maxHeartbeats 4000000 in
theorem block_any (B : Nat) (v : Value) (xs : List UInt8) (a n : Int) (w : World) (ho : w.ownsRow B 5 1 v xs.length (bs xs)) (hB : B ≤ w.heap.size) (hx : xs.length ≤ 900000000) (h0 : 0 ≤ a) (h1 : a < 4294967296) (h2 : -9223372036854775808 ≤ n) (h3 : n ≤ 9223372036854775807) :
    Calls Try.prog 21 #[v, .agg #[.int .u32 a, .int .i64 n]] w (OutB B w v (xs ++ nb 4 a ++ nb 1 n)) := by
  have B0 := Lib.hid (show Below w.heap.size w (w.alloc (.cells #[.int .u32 a, .int .i64 n] 30)) from (Below.refl _ _).alloc (Nat.le_refl _) _)
  have O0 := Lib.hid (own_keep ho B0.out)
  have hv : some w.heap.size ≠ v.ownBlock := fun h => by have := (own_lt ho h.symm).2; omega
  have hlt : w.heap.size < (w.alloc (.cells #[.int .u32 a, .int .i64 n] 30)).heap.size := by simp
  have hb0 : B ≤ (w.alloc (.cells #[.int .u32 a, .int .i64 n] 30)).heap.size := Nat.le_trans hB B0.out.size
  have k0 : (w.alloc (.cells #[.int .u32 a, .int .i64 n] 30)).cell? ⟨w.heap.size, 0, none⟩ = some (.int .u32 a) := by simp
  have k1 : (w.alloc (.cells #[.int .u32 a, .int .i64 n] 30)).cell? ⟨w.heap.size, 1, none⟩ = some (.int .i64 n) := by simp
  have G0 := Lib.hid (show Gw w (w.alloc (.cells #[.int .u32 a, .int .i64 n] 30)) v v from Gw.of_below v B0.out)
  clear ho B0
  go_enter Try.func21, Try.ntmps21
  go_upto_region 1 with fail
  generalize w.alloc (.cells #[.int .u32 a, .int .i64 n] 30) = W at *
  have HA := Lib.hid fun W' (h : ∃ m, W' = W.drewN m) => (by
    obtain ⟨m, rfl⟩ := h
    exact addr_any B v xs a _ (own_keep O0.out (bdrewN (Below.refl _ _) m)) hb0 (by omega) h0 h1 : Calls Try.prog 20 #[v, .int .u32 a] W' (OutB B W' v (xs ++ nb 4 a)))
  have KK := Lib.hid fun W' (h : ∃ m, W' = W.drewN m) v1 w1 (hg : Gw W' w1 v v1) => (by
    obtain ⟨m, rfl⟩ := h
    exact ⟨hg.cell (a := ⟨w.heap.size, 1, none⟩) hlt hv k1, Nat.le_trans hb0 hg.size, (G0.out.trans (Gw.of_below v (bdrewN (Below.refl _ W) m))).trans hg⟩ : w1.cell? ⟨w.heap.size, 1, none⟩ = some (.int .i64 n) ∧ B ≤ w1.heap.size ∧ Gw w w1 v v1)
  have HN := Lib.hid fun v' W (hW : W.ownsRow B 5 1 v' (xs ++ nb 4 a).length (bs (xs ++ nb 4 a))) hB => number_any B v' (xs ++ nb 4 a) n 1 W hW hB (by rw [List.length_append, nb_length]; omega) (by omega) h2 h3
  go_region_with (first
    | (go_at_call 20; refine (HA.out _ ⟨_, rfl⟩).mono ?_; rintro e w1 ⟨v1, rfl, ho1, hg1⟩; obtain ⟨k2, hb1, hg2⟩ := KK.out _ ⟨_, rfl⟩ _ _ hg1; have G1 := Lib.hid hg2; clear hg1 hg2)
    | (go_at_call 18; refine (HN.out _ _ ho1 hb1).mono ?_; rintro e w2 ⟨v2, rfl, ho2, hg2⟩))
  all_goals (go_wp2_with fail; go_ret; exact ⟨v2, rfl, ho2, G1.out.trans hg2⟩)
set_option maxRecDepth 100000 in
set_option maxHeartbeats 4000000 in
theorem sighted_any (B : Nat) (v : Value) (xs : List UInt8) (f m0 m1 m2 m3 m4 m5 at_ : Int) (w : World) (ho : w.ownsRow B 5 1 v xs.length (bs xs)) (hB : B ≤ w.heap.size) (hx : xs.length ≤ 900000000) (h2 : -9223372036854775808 ≤ f) (h3 : f ≤ 9223372036854775807) (hm : By6 m0 m1 m2 m3 m4 m5) :
    Calls Try.prog 22 #[v, .agg #[.int .i64 f, .int .u8 m0, .int .u8 m1, .int .u8 m2, .int .u8 m3, .int .u8 m4, .int .u8 m5, .int .i64 at_]] w (OutB B w v (xs ++ nb 1 f ++ mcB m0 m1 m2 m3 m4 m5)) := by
  have B0 := Lib.hid (show Below w.heap.size w (w.alloc (.cells #[.int .i64 f, .int .u8 m0, .int .u8 m1, .int .u8 m2, .int .u8 m3, .int .u8 m4, .int .u8 m5, .int .i64 at_] 33)) from (Below.refl _ _).alloc (Nat.le_refl _) _)
  have O0 := Lib.hid (own_keep ho B0.out)
  have hv : some w.heap.size ≠ v.ownBlock := fun h => by have := (own_lt ho h.symm).2; omega
  have hlt : w.heap.size < (w.alloc (.cells #[.int .i64 f, .int .u8 m0, .int .u8 m1, .int .u8 m2, .int .u8 m3, .int .u8 m4, .int .u8 m5, .int .i64 at_] 33)).heap.size := by simp
  have hb0 : B ≤ (w.alloc (.cells #[.int .i64 f, .int .u8 m0, .int .u8 m1, .int .u8 m2, .int .u8 m3, .int .u8 m4, .int .u8 m5, .int .i64 at_] 33)).heap.size := Nat.le_trans hB B0.out.size
  have k0 : (w.alloc (.cells #[.int .i64 f, .int .u8 m0, .int .u8 m1, .int .u8 m2, .int .u8 m3, .int .u8 m4, .int .u8 m5, .int .i64 at_] 33)).cell? ⟨w.heap.size, 0, none⟩ = some (.int .i64 f) := by simp
  have k1 : (w.alloc (.cells #[.int .i64 f, .int .u8 m0, .int .u8 m1, .int .u8 m2, .int .u8 m3, .int .u8 m4, .int .u8 m5, .int .i64 at_] 33)).cell? ⟨w.heap.size, 1, none⟩ = some (.int .u8 m0) := by simp
  have k2 : (w.alloc (.cells #[.int .i64 f, .int .u8 m0, .int .u8 m1, .int .u8 m2, .int .u8 m3, .int .u8 m4, .int .u8 m5, .int .i64 at_] 33)).cell? ⟨w.heap.size, 2, none⟩ = some (.int .u8 m1) := by simp
  have k3 : (w.alloc (.cells #[.int .i64 f, .int .u8 m0, .int .u8 m1, .int .u8 m2, .int .u8 m3, .int .u8 m4, .int .u8 m5, .int .i64 at_] 33)).cell? ⟨w.heap.size, 3, none⟩ = some (.int .u8 m2) := by simp
  have k4 : (w.alloc (.cells #[.int .i64 f, .int .u8 m0, .int .u8 m1, .int .u8 m2, .int .u8 m3, .int .u8 m4, .int .u8 m5, .int .i64 at_] 33)).cell? ⟨w.heap.size, 4, none⟩ = some (.int .u8 m3) := by simp
  have k5 : (w.alloc (.cells #[.int .i64 f, .int .u8 m0, .int .u8 m1, .int .u8 m2, .int .u8 m3, .int .u8 m4, .int .u8 m5, .int .i64 at_] 33)).cell? ⟨w.heap.size, 5, none⟩ = some (.int .u8 m4) := by simp
  have k6 : (w.alloc (.cells #[.int .i64 f, .int .u8 m0, .int .u8 m1, .int .u8 m2, .int .u8 m3, .int .u8 m4, .int .u8 m5, .int .i64 at_] 33)).cell? ⟨w.heap.size, 6, none⟩ = some (.int .u8 m5) := by simp
  have G0 := Lib.hid (show Gw w (w.alloc (.cells #[.int .i64 f, .int .u8 m0, .int .u8 m1, .int .u8 m2, .int .u8 m3, .int .u8 m4, .int .u8 m5, .int .i64 at_] 33)) v v from Gw.of_below v B0.out)
  clear ho B0
  go_enter Try.func22, Try.ntmps22
  go_upto_region 1 with fail
  generalize w.alloc (.cells #[.int .i64 f, .int .u8 m0, .int .u8 m1, .int .u8 m2, .int .u8 m3, .int .u8 m4, .int .u8 m5, .int .i64 at_] 33) = W at *
  have HA := Lib.hid fun W' (h : ∃ m, W' = W.drewN m) => (by
    obtain ⟨m, rfl⟩ := h
    exact number_any B v xs f 1 _ (own_keep O0.out (bdrewN (Below.refl _ _) m)) hb0 (by omega) (by omega) h2 h3 : Calls Try.prog 18 #[v, .int .i64 f, .int .i64 1] W' (OutB B W' v (xs ++ nb 1 f)))
  have KK := Lib.hid fun W' (h : ∃ m, W' = W.drewN m) v1 w1 (hg : Gw W' w1 v v1) => (by
    obtain ⟨m, rfl⟩ := h
    exact ⟨hg.cell (a := ⟨w.heap.size, 1, none⟩) hlt hv k1, hg.cell (a := ⟨w.heap.size, 2, none⟩) hlt hv k2, hg.cell (a := ⟨w.heap.size, 3, none⟩) hlt hv k3, hg.cell (a := ⟨w.heap.size, 4, none⟩) hlt hv k4, hg.cell (a := ⟨w.heap.size, 5, none⟩) hlt hv k5, hg.cell (a := ⟨w.heap.size, 6, none⟩) hlt hv k6, Nat.le_trans hb0 hg.size, (G0.out.trans (Gw.of_below v (bdrewN (Below.refl _ W) m))).trans hg⟩ : w1.cell? ⟨w.heap.size, 1, none⟩ = some (.int .u8 m0) ∧ w1.cell? ⟨w.heap.size, 2, none⟩ = some (.int .u8 m1) ∧ w1.cell? ⟨w.heap.size, 3, none⟩ = some (.int .u8 m2) ∧ w1.cell? ⟨w.heap.size, 4, none⟩ = some (.int .u8 m3) ∧ w1.cell? ⟨w.heap.size, 5, none⟩ = some (.int .u8 m4) ∧ w1.cell? ⟨w.heap.size, 6, none⟩ = some (.int .u8 m5) ∧ B ≤ w1.heap.size ∧ Gw w w1 v v1)
  have HN := Lib.hid fun v' W (hW : W.ownsRow B 5 1 v' (xs ++ nb 1 f).length (bs (xs ++ nb 1 f))) hB => mac_any B v' (xs ++ nb 1 f) m0 m1 m2 m3 m4 m5 W hW hB (by rw [List.length_append, nb_length]; omega) hm
  go_region_with (first
    | (go_at_call 18; refine (HA.out _ ⟨_, rfl⟩).mono ?_; rintro e w1 ⟨v1, rfl, ho1, hg1⟩; obtain ⟨l1, l2, l3, l4, l5, l6, hb1, hg2⟩ := KK.out _ ⟨_, rfl⟩ _ _ hg1; have G1 := Lib.hid hg2; clear hg1 hg2)
    | (go_at_call 48; refine (HN.out _ _ ho1 hb1).mono ?_; rintro e w2 ⟨v2, rfl, ho2, hg2⟩))
  all_goals (go_wp2_with fail; go_ret; exact ⟨v2, rfl, ho2, G1.out.trans hg2⟩)
end Go.Proofs.Ytbjlklkmcpnemaa
