/-
  The contract of codec.Event. Conditions: the event's numbers are of their sizes; its owner has at most 10^8 bytes.
-/
import Derived.Test.YtbjlklkmcpnemaaCdH
set_option linter.unusedSimpArgs false
set_option linter.unusedVariables false
namespace Go.Proofs.Ytbjlklkmcpnemaa
open Go.RowKit

/-- An event by its nineteen numbers. -/
structure Ev where
  k : Int
  a : Int
  T : ByteArray
  m0 : Int
  m1 : Int
  m2 : Int
  m3 : Int
  m4 : Int
  m5 : Int
  b : Int
  n : Int
  f : Int
  s0 : Int
  s1 : Int
  s2 : Int
  s3 : Int
  s4 : Int
  s5 : Int
  t : Int
def evl (e : Ev) : List Value := [.int .i64 e.k, .int .u32 e.a, .string e.T, .int .u8 e.m0, .int .u8 e.m1, .int .u8 e.m2, .int .u8 e.m3, .int .u8 e.m4, .int .u8 e.m5, .int .u32 e.b, .int .i64 e.n, .int .i64 e.f, .int .u8 e.s0, .int .u8 e.s1, .int .u8 e.s2, .int .u8 e.s3, .int .u8 e.s4, .int .u8 e.s5, .int .i64 e.t]
def evv (e : Ev) : Value := .agg (evl e).toArray
def Evx (e : Ev) : Obj := .cells (evl e).toArray 35
def I64 (n : Int) : Prop := -9223372036854775808 ≤ n ∧ n ≤ 9223372036854775807
structure Ev.Ok (e : Ev) : Prop where
  k : I64 e.k
  a0 : 0 ≤ e.a
  a1 : e.a < 4294967296
  m : By6 e.m0 e.m1 e.m2 e.m3 e.m4 e.m5
  b0 : 0 ≤ e.b
  b1 : e.b < 4294967296
  n : I64 e.n
  f : I64 e.f
  s : By6 e.s0 e.s1 e.s2 e.s3 e.s4 e.s5
  t : I64 e.t
/-- An event's bytes. -/
def evB (e : Ev) : List UInt8 :=
  nb 1 e.k ++ (if e.k = 1 then hdB e.a e.T e.m0 e.m1 e.m2 e.m3 e.m4 e.m5
  else if e.k = 2 ∨ e.k = 6 ∨ e.k = 7 then nb 4 e.a
  else if e.k = 3 ∨ e.k = 4 then nb 4 e.b ++ nb 1 e.n
  else if e.k = 5 then nb 4 e.a ++ (nb 1 e.f ++ mcB e.s0 e.s1 e.s2 e.s3 e.s4 e.s5) else [])
set_option maxRecDepth 100000 in
set_option maxHeartbeats 8000000 in
theorem event_any (e : Ev) (w : World) (h : e.Ok) (hT : e.T.size ≤ 100000000) :
    Calls Try.prog 7 #[evv e] w (OutL w.heap.size w (evB e)) := by
  have HQ := Lib.hid (show evB e = _ from by unfold evB; rfl)
  obtain ⟨k, a, T, m0, m1, m2, m3, m4, m5, b, n, f, s0, s1, s2, s3, s4, s5, t⟩ := e
  have hk := h.k
  have ha0 := h.a0
  have ha1 := h.a1
  have hb0 := h.b0
  have hb1 := h.b1
  have hn := h.n
  have hf := h.f
  have hm := Lib.hid h.m
  have hs := Lib.hid h.s
  dsimp only at hk ha0 ha1 hb0 hb1 hn hf hT HQ
  simp only [evv, evl]
  have B0 := (show Below w.heap.size w (w.alloc (.cells #[.int .i64 k, .int .u32 a, .string T, .int .u8 m0, .int .u8 m1, .int .u8 m2, .int .u8 m3, .int .u8 m4, .int .u8 m5, .int .u32 b, .int .i64 n, .int .i64 f, .int .u8 s0, .int .u8 s1, .int .u8 s2, .int .u8 s3, .int .u8 s4, .int .u8 s5, .int .i64 t] 35)) from (Below.refl _ _).alloc (Nat.le_refl _) _)
  have KC := Lib.hid (show ∀ j v, ([.int .i64 k, .int .u32 a, .string T, .int .u8 m0, .int .u8 m1, .int .u8 m2, .int .u8 m3, .int .u8 m4, .int .u8 m5, .int .u32 b, .int .i64 n, .int .i64 f, .int .u8 s0, .int .u8 s1, .int .u8 s2, .int .u8 s3, .int .u8 s4, .int .u8 s5, .int .i64 t] : List Value)[j]? = some v → (w.alloc (.cells #[.int .i64 k, .int .u32 a, .string T, .int .u8 m0, .int .u8 m1, .int .u8 m2, .int .u8 m3, .int .u8 m4, .int .u8 m5, .int .u32 b, .int .i64 n, .int .i64 f, .int .u8 s0, .int .u8 s1, .int .u8 s2, .int .u8 s3, .int .u8 s4, .int .u8 s5, .int .i64 t] 35)).cell? ⟨w.heap.size, j, none⟩ = some v from fun j v h => by
    rw [← h]
    simp)
  have hlt : w.heap.size < (w.alloc (.cells #[.int .i64 k, .int .u32 a, .string T, .int .u8 m0, .int .u8 m1, .int .u8 m2, .int .u8 m3, .int .u8 m4, .int .u8 m5, .int .u32 b, .int .i64 n, .int .i64 f, .int .u8 s0, .int .u8 s1, .int .u8 s2, .int .u8 s3, .int .u8 s4, .int .u8 s5, .int .i64 t] 35)).heap.size := by simp
  have k0 := KC.out 0 _ rfl
  have BB := Lib.hid B0
  clear h B0
  go_enter Try.func7, Try.ntmps7
  go_upto_region 1 with fail
  generalize w.alloc (.cells #[.int .i64 k, .int .u32 a, .string T, .int .u8 m0, .int .u8 m1, .int .u8 m2, .int .u8 m3, .int .u8 m4, .int .u8 m5, .int .u32 b, .int .i64 n, .int .i64 f, .int .u8 s0, .int .u8 s1, .int .u8 s2, .int .u8 s3, .int .u8 s4, .int .u8 s5, .int .i64 t] 35) = W at *
  have hB0 := BB.out.size
  have H1 := Lib.hid (number_any w.heap.size (.slice none 0 0) [] k 1 W (own_byte W _) hB0 (by simp) (by omega) hk.1 hk.2)
  go_wp2_with fail
  refine H1.out.mono ?_
  rintro e w1 ⟨v1, rfl, ho1, hg1⟩
  have hn1 : some w.heap.size ≠ (Value.slice none 0 0).ownBlock := by intro h; cases h
  have KC1 := Lib.hid fun j v h => hg1.cell (a := ⟨w.heap.size, j, none⟩) hlt hn1 (KC.out j v h)
  have hlt1 : w.heap.size < w1.heap.size := Nat.lt_of_lt_of_le hlt hg1.size
  have hB1 : w.heap.size ≤ w1.heap.size := Nat.le_of_lt hlt1
  have hv1 : some w.heap.size ≠ v1.ownBlock := fun h => by
    rcases hg1.new _ h.symm with h2 | h2
    · cases h2
    · omega
  have B1 := Lib.hid (show Below w.heap.size w w1 from BB.out.trans (hg1.below (own_byte W w.heap.size) hB0))
  have O1 := Lib.hid (show w1.ownsRow w.heap.size 5 1 v1 (nb 1 k).length (bs (nb 1 k)) from ho1)
  have hl1 : (nb 1 k).length ≤ 800000000 := by rw [nb_length]; omega
  clear ho1 hg1 H1 KC hlt BB hB0 hn1 k0
  have k0 := KC1.out 0 _ rfl
  have k1 := KC1.out 1 _ rfl
  have k2 := KC1.out 2 _ rfl
  have k3 := KC1.out 3 _ rfl
  have k4 := KC1.out 4 _ rfl
  have k5 := KC1.out 5 _ rfl
  have k6 := KC1.out 6 _ rfl
  have k7 := KC1.out 7 _ rfl
  have k8 := KC1.out 8 _ rfl
  have k9 := KC1.out 9 _ rfl
  have k10 := KC1.out 10 _ rfl
  by_cases e1 : k = 1
  · subst e1
    have HH := Lib.hid (holder_any w.heap.size v1 (nb 1 1) a T m0 m1 m2 m3 m4 m5 w1 O1.out hB1 hl1 ha0 ha1 hT hm.out)
    go_wp2_with fail
    refine HH.out.mono ?_
    rintro e w2 ⟨v2, rfl, ho2, hb2⟩
    go_wp2_with fail
    go_ret
    exact ⟨v2, rfl, own_eq ho2 (by rw [HQ.out]; rfl) (by rw [HQ.out]; rfl), B1.out.trans hb2⟩
  · by_cases e2 : k = 2 ∨ k = 6 ∨ k = 7
    · have HH := Lib.hid (addr_any w.heap.size v1 (nb 1 k) a w1 O1.out hB1 (by omega) ha0 ha1)
      rw [if_neg e1, if_pos e2] at HQ
      rcases e2 with rfl | rfl | rfl
      all_goals (
        go_wp2_with fail
        refine HH.out.mono ?_
        rintro e w2 ⟨v2, rfl, ho2, hg2⟩
        go_wp2_with fail
        go_ret
        exact ⟨v2, rfl, own_eq ho2 (by rw [HQ.out]) (by rw [HQ.out]), B1.out.trans (hg2.below O1.out hB1)⟩)
    · by_cases e3 : k = 3 ∨ k = 4
      · have HH := Lib.hid (block_any w.heap.size v1 (nb 1 k) b n w1 O1.out hB1 (by omega) hb0 hb1 hn.1 hn.2)
        rw [if_neg e1, if_neg e2, if_pos e3] at HQ
        rcases e3 with rfl | rfl
        all_goals (
          go_wp2_with fail
          refine HH.out.mono ?_
          rintro e w2 ⟨v2, rfl, ho2, hg2⟩
          go_wp2_with fail
          go_ret
          exact ⟨v2, rfl, own_eq ho2 (by rw [HQ.out, List.append_assoc]) (by rw [HQ.out, List.append_assoc]), B1.out.trans (hg2.below O1.out hB1)⟩)
      · by_cases e5 : k = 5
        · rw [if_neg e1, if_neg e2, if_neg e3, if_pos e5] at HQ
          subst e5
          have HA := Lib.hid fun W' (h : ∃ m, W' = w1.drewN m) => (by
            obtain ⟨m, rfl⟩ := h
            exact addr_any w.heap.size v1 (nb 1 5) a _ (own_keep O1.out (bdrewN (Below.refl _ _) m)) hB1 (by omega) ha0 ha1 : Calls Try.prog 20 #[v1, .int .u32 a] W' (OutB w.heap.size W' v1 (nb 1 5 ++ nb 4 a)))
          have KK := Lib.hid fun W' (h : ∃ m, W' = w1.drewN m) v2 w2 (hg : Gw W' w2 v1 v2) => (by
            obtain ⟨m, rfl⟩ := h
            exact ⟨fun j v hj => hg.cell (a := ⟨w.heap.size, j, none⟩) hlt1 hv1 (KC1.out j v hj), Nat.le_trans hB1 hg.size, B1.out.trans (((Below.refl _ _).mono (Nat.le_refl _) |> fun h => bdrewN h m).trans (hg.below (own_keep O1.out (bdrewN (Below.refl _ _) m)) hB1))⟩ : (∀ j v, ([.int .i64 5, .int .u32 a, .string T, .int .u8 m0, .int .u8 m1, .int .u8 m2, .int .u8 m3, .int .u8 m4, .int .u8 m5, .int .u32 b, .int .i64 n, .int .i64 f, .int .u8 s0, .int .u8 s1, .int .u8 s2, .int .u8 s3, .int .u8 s4, .int .u8 s5, .int .i64 t] : List Value)[j]? = some v → w2.cell? ⟨w.heap.size, j, none⟩ = some v) ∧ w.heap.size ≤ w2.heap.size ∧ Below w.heap.size w w2)
          have HN := Lib.hid fun v' W (hW : W.ownsRow w.heap.size 5 1 v' (nb 1 5 ++ nb 4 a).length (bs (nb 1 5 ++ nb 4 a))) hB => sighted_any w.heap.size v' (nb 1 5 ++ nb 4 a) f s0 s1 s2 s3 s4 s5 t W hW hB (by rw [List.length_append, nb_length, nb_length]; omega) hf.1 hf.2 hs.out
          have k11 := KC1.out 11 _ rfl
          have k12 := KC1.out 12 _ rfl
          have k13 := KC1.out 13 _ rfl
          have k14 := KC1.out 14 _ rfl
          have k15 := KC1.out 15 _ rfl
          have k16 := KC1.out 16 _ rfl
          have k17 := KC1.out 17 _ rfl
          have k18 := KC1.out 18 _ rfl
          clear k2 k3 k4 k5 k6 k7 k8 k9 k10
          go_upto_region 13 with fail
          go_region_with (first
            | (go_at_call 20; refine (HA.out _ ⟨_, rfl⟩).mono ?_; rintro e w2 ⟨v2, rfl, ho2, hg2⟩; obtain ⟨hk2, hb2, hB2⟩ := KK.out _ ⟨_, rfl⟩ _ _ hg2; have B2 := Lib.hid hB2; have j11 := hk2 11 _ rfl; have j12 := hk2 12 _ rfl; have j13 := hk2 13 _ rfl; have j14 := hk2 14 _ rfl; have j15 := hk2 15 _ rfl; have j16 := hk2 16 _ rfl; have j17 := hk2 17 _ rfl; have j18 := hk2 18 _ rfl; clear hg2 hB2 hk2)
            | (go_at_call 22; refine (HN.out _ _ ho2 hb2).mono ?_; rintro e w3 ⟨v3, rfl, ho3, hg3⟩))
          all_goals (go_wp2_with fail; go_ret; exact ⟨v3, rfl, own_eq ho3 (by rw [HQ.out]; simp only [List.append_assoc]) (by rw [HQ.out]; simp only [List.append_assoc]), B2.out.trans (hg3.below ho2 hb2)⟩)
        · rw [if_neg e1, if_neg e2, if_neg e3, if_neg e5, List.append_nil] at HQ
          have d1 : (k == 1) = false := beq_eq_false_iff_ne.2 e1
          have d2 : (k == 2) = false := beq_eq_false_iff_ne.2 fun h => e2 (.inl h)
          have d6 : (k == 6) = false := beq_eq_false_iff_ne.2 fun h => e2 (.inr (.inl h))
          have d7 : (k == 7) = false := beq_eq_false_iff_ne.2 fun h => e2 (.inr (.inr h))
          have d3 : (k == 3) = false := beq_eq_false_iff_ne.2 fun h => e3 (.inl h)
          have d4 : (k == 4) = false := beq_eq_false_iff_ne.2 fun h => e3 (.inr h)
          have d5 : (k == 5) = false := beq_eq_false_iff_ne.2 e5
          go_wp2_with fail
          go_ret
          exact ⟨v1, rfl, own_eq O1.out (by rw [HQ.out]) (by rw [HQ.out]), B1.out⟩
end Go.Proofs.Ytbjlklkmcpnemaa
