/-
  The contract of codec.addHolder. Conditions: the row is the call's own; the owner has at most 2^62 bytes, as has the row with it.
-/
import Derived.Test.YtbjlklkmcpnemaaCdM
set_option linter.unusedSimpArgs false
set_option linter.unusedVariables false
namespace Go.Proofs.Ytbjlklkmcpnemaa
open Go.RowKit

/-- A holder's bytes. -/
def hdB (a : Int) (T : ByteArray) (m0 m1 m2 m3 m4 m5 : Int) : List UInt8 := nb 4 a ++ nb 1 (T.size : Int) ++ T.data.toList ++ mcB m0 m1 m2 m3 m4 m5
theorem infoU : ∃ i, Try.prog.info? 5 = some i ∧ i.zero = some (.int .u8 0) ∧ i.size = 1 ∧ i.bytes = 1 := info_parts infoB
set_option maxRecDepth 100000 in
set_option maxHeartbeats 4000000 in
theorem holder_any (B : Nat) (v : Value) (xs : List UInt8) (a : Int) (T : ByteArray) (m0 m1 m2 m3 m4 m5 : Int) (w : World) (ho : w.ownsRow B 5 1 v xs.length (bs xs)) (hB : B ≤ w.heap.size) (hx : xs.length ≤ 800000000) (h0 : 0 ≤ a) (h1 : a < 4294967296) (hT : T.size ≤ 100000000) (hm : By6 m0 m1 m2 m3 m4 m5) :
    Calls Try.prog 19 #[v, .agg #[.int .u32 a, .string T, .int .u8 m0, .int .u8 m1, .int .u8 m2, .int .u8 m3, .int .u8 m4, .int .u8 m5]] w (OutL B w (xs ++ hdB a T m0 m1 m2 m3 m4 m5)) := by
  have B0 := (show Below w.heap.size w (w.alloc (.cells #[.int .u32 a, .string T, .int .u8 m0, .int .u8 m1, .int .u8 m2, .int .u8 m3, .int .u8 m4, .int .u8 m5] 28)) from (Below.refl _ _).alloc (Nat.le_refl _) _)
  have O0 := Lib.hid (own_keep ho B0)
  have hv : some w.heap.size ≠ v.ownBlock := fun h => by have := (own_lt ho h.symm).2; omega
  have hlt : w.heap.size < (w.alloc (.cells #[.int .u32 a, .string T, .int .u8 m0, .int .u8 m1, .int .u8 m2, .int .u8 m3, .int .u8 m4, .int .u8 m5] 28)).heap.size := by simp
  have hb0 : B ≤ (w.alloc (.cells #[.int .u32 a, .string T, .int .u8 m0, .int .u8 m1, .int .u8 m2, .int .u8 m3, .int .u8 m4, .int .u8 m5] 28)).heap.size := Nat.le_trans hB B0.size
  have E0 := Lib.hid (B0.mono hB)
  have k0 : (w.alloc (.cells #[.int .u32 a, .string T, .int .u8 m0, .int .u8 m1, .int .u8 m2, .int .u8 m3, .int .u8 m4, .int .u8 m5] 28)).cell? ⟨w.heap.size, 0, none⟩ = some (.int .u32 a) := by simp
  have KC := Lib.hid (show ∀ j v, ([.int .u32 a, .string T, .int .u8 m0, .int .u8 m1, .int .u8 m2, .int .u8 m3, .int .u8 m4, .int .u8 m5] : List Value)[j]? = some v → (w.alloc (.cells #[.int .u32 a, .string T, .int .u8 m0, .int .u8 m1, .int .u8 m2, .int .u8 m3, .int .u8 m4, .int .u8 m5] 28)).cell? ⟨w.heap.size, j, none⟩ = some v from fun j v h => by
    rw [← h]
    simp)
  obtain ⟨b, hb⟩ : ∃ b, w.heap.size = b := ⟨_, rfl⟩
  rw [hb] at hv hlt k0 KC
  clear ho B0
  go_enter Try.func19, Try.ntmps19
  go_upto_region 1 with fail
  generalize w.alloc (.cells #[.int .u32 a, .string T, .int .u8 m0, .int .u8 m1, .int .u8 m2, .int .u8 m3, .int .u8 m4, .int .u8 m5] 28) = W at *
  have HA := Lib.hid (addr_any B v xs a W O0.out hb0 (by omega) h0 h1)
  go_wp2_with fail
  refine HA.out.mono ?_
  rintro e w1 ⟨v1, rfl, ho1, hg1⟩
  have hb1 := Nat.le_trans hb0 hg1.size
  have E1 := Lib.hid (E0.out.trans (hg1.below O0.out hb0))
  have K1 := Lib.hid fun j v h => hg1.cell (a := ⟨b, j, none⟩) hlt hv (KC.out j v h)
  have hlt1 : b < w1.heap.size := Nat.lt_of_lt_of_le hlt hg1.size
  have hv1 : some b ≠ v1.ownBlock := fun h => by
    rcases hg1.new b h.symm with h2 | h2
    · exact hv h2.symm
    · omega
  have HN := Lib.hid (number_any B v1 (xs ++ nb 4 a) (T.size : Int) 1 w1 ho1 hb1 (by rw [List.length_append, nb_length]; omega) (by omega) (by omega) (by omega))
  have O1 := Lib.hid ho1
  have k1 := K1.out 1 _ rfl
  clear hg1 HA k0 KC hv hlt hb0 E0 O0 ho1
  go_wp2_with fail
  refine HN.out.mono ?_
  rintro e w2 ⟨v2, rfl, ho2, hg2⟩
  have hb2 := Nat.le_trans hb1 hg2.size
  have E2 := Lib.hid (E1.out.trans (hg2.below O1.out hb1))
  have K2 := Lib.hid fun j v h => hg2.cell (a := ⟨b, j, none⟩) hlt1 hv1 (K1.out j v h)
  have hlt2 : b < w2.heap.size := Nat.lt_of_lt_of_le hlt1 hg2.size
  have hv2 : some b ≠ v2.ownBlock := fun h => by
    rcases hg2.new b h.symm with h2 | h2
    · exact hv1 h2.symm
    · omega
  have O2 := Lib.hid ho2
  have k2 := K2.out 1 _ rfl
  clear hg2 HN k1 K1 hv1 hlt1 hb1 E1 O1 ho2
  obtain ⟨i, hi, hi1, hi2, hi3⟩ := infoU
  have hlen : (xs ++ nb 4 a ++ nb 1 (T.size : Int)).length = xs.length + 5 := by simp [nb_length]
  have hml : (xs ++ nb 4 a ++ nb 1 (T.size : Int)).length + T.size ≤ maxLen := by rw [hlen]; unfold maxLen; omega
  have hml2 : (xs ++ nb 4 a ++ nb 1 (T.size : Int)).length + T.size ≤ 140737488355328 := by rw [hlen]; omega
  go_upto_region 3 with fail
  go_wp2_with (at_builtin; refine Lib.wpList_append_own_string w2 rfl (.tmp 14) (.tmp 16) 37 9 rfl B 5 i Try.underlying37 Try.underlying9 hi hi1 hi2 hi3 v2 _ (bs (xs ++ nb 4 a ++ nb 1 (T.size : Int))) (by simp [Act.eval, Act.put]) O2.out T (by simp [Act.eval, Act.put]) hml hml2 hb2 ?_)
  intro v3 w3 ho3 hg3 hn3
  have E3 := Lib.hid (show Below B w w3 from E2.out.trans ⟨hg3.os, hg3.tape, hg3.output, hg3.size, fun k hk => hg3.block k (by omega) fun h => by have := (own_lt O2.out h.symm).1; omega⟩)
  have hb3 := Nat.le_trans hb2 hg3.size
  have O3 := Lib.hid (show w3.ownsRow B 5 1 v3 (xs ++ nb 4 a ++ nb 1 (T.size : Int) ++ T.data.toList).length (bs (xs ++ nb 4 a ++ nb 1 (T.size : Int) ++ T.data.toList)) from by
    rw [bs_app _ T.data.toList, bs_str]
    have e : (xs ++ nb 4 a ++ nb 1 (T.size : Int) ++ T.data.toList).length = (xs ++ nb 4 a ++ nb 1 (T.size : Int)).length + T.size := by rw [List.length_append]; rfl
    rw [e]
    simpa only [List.length_append, List.append_assoc] using ho3)
  have hk3 : ∀ j u, w2.cell? ⟨b, j, none⟩ = some u → w3.cell? ⟨b, j, none⟩ = some u := fun j u h => by
    rw [← h]
    unfold World.cell?
    rw [hg3.block _ hlt2 hv2]
  have k3 := hk3 2 _ (K2.out 2 _ rfl)
  have k4 := hk3 3 _ (K2.out 3 _ rfl)
  have k5 := hk3 4 _ (K2.out 4 _ rfl)
  have k6 := hk3 5 _ (K2.out 5 _ rfl)
  have k7 := hk3 6 _ (K2.out 6 _ rfl)
  have k8 := hk3 7 _ (K2.out 7 _ rfl)
  have HM := Lib.hid (mac_any B v3 (xs ++ nb 4 a ++ nb 1 (T.size : Int) ++ T.data.toList) m0 m1 m2 m3 m4 m5 w3 O3.out hb3 (by rw [List.length_append, hlen]; show _ + T.size ≤ _; omega) hm)
  clear ho3 hg3 hn3 hk3 k2 K2 O2
  go_wp2_with fail
  refine HM.out.mono ?_
  rintro e w4 ⟨v4, rfl, ho4, hg4⟩
  go_wp2_with fail
  go_ret
  refine ⟨v4, rfl, own_eq ho4 ?_ ?_, E3.out.trans (hg4.below O3.out hb3)⟩
  · simp [hdB]
  · simp [hdB]
end Go.Proofs.Ytbjlklkmcpnemaa
