/-
  The contract of the statements' own Some: a row behind some deeds. Conditions: the deeds lie in memory, and bytes are bytes.
-/
import Derived.Test.YtenolbgadlehpaaAwk
set_option linter.unusedSimpArgs false
set_option linter.unusedVariables false
namespace Go.Proofs.Ytenolbgadlehpaa
open Go.RowKit

def sm1 (every : Int) (s : List Sw × Int) (a : Ac) : List Sw × Int :=
  if a.o % 3 = 0 then ((planO s.1 every (s.2 + 1) (1 + a.q % 9)).1, s.2 + 1)
  else if putC s.1 (ba a) (bn a) = 0 then (putR s.1 (ba a) (bn a) s.2, s.2) else s
/-- A row behind some deeds, and the tick then. -/
def smO (every : Int) (ys : List Ac) : List Sw × Int := ys.foldl (sm1 every) ([], 0)
theorem smO_snoc (every : Int) (ys : List Ac) (a : Ac) : smO every (ys ++ [a]) = sm1 every (smO every ys) a := by simp [smO, List.foldl_append]
theorem bn_in (x : Ac) (h : x.Ok) : 20 ≤ bn x ∧ bn x ≤ 32 := by unfold bn; omega
theorem ba_in (x : Ac) (h : x.Ok) : 0 ≤ ba x ∧ ba x < 4294967296 := by
  have h1 := h.p
  have h2 := p2_pos (bn x)
  have h3 := Int.emod_nonneg (167772160 + x.p * 4) (show p2 (bn x) ≠ 0 by omega)
  have h5 := Int.mul_ediv_add_emod (167772160 + x.p * 4) (p2 (bn x))
  have h6 : 0 ≤ (167772160 + x.p * 4) / p2 (bn x) := Int.ediv_nonneg (by omega) (by omega)
  have h7 := Int.mul_nonneg (Int.le_of_lt h2) h6
  unfold ba
  omega
theorem sm1_ok {every : Int} {s : List Sw × Int} {a : Ac} (ha : a.Ok) (h : V s.1) (h0 : 0 ≤ s.2) : V (sm1 every s a).1 ∧ 0 ≤ (sm1 every s a).2 ∧ (sm1 every s a).2 ≤ s.2 + 1 := by
  unfold sm1
  split
  · exact ⟨(planO_ok h _ _ _).1, by show 0 ≤ s.2 + 1; omega, by show s.2 + 1 ≤ s.2 + 1; omega⟩
  · split
    · rename_i hp
      exact ⟨(put_ok h (ba_in a ha).1 (ba_in a ha).2 hp).1, h0, by show s.2 ≤ s.2 + 1; omega⟩
    · exact ⟨h, h0, by omega⟩
theorem smO_ok (every : Int) : ∀ (ys : List Ac), (∀ y ∈ ys, y.Ok) → V (smO every ys).1 ∧ 0 ≤ (smO every ys).2 ∧ (smO every ys).2 ≤ ys.length := by
  intro ys
  have key : ∀ (ys : List Ac) (s : List Sw × Int), (∀ y ∈ ys, y.Ok) → V s.1 → 0 ≤ s.2 → V (ys.foldl (sm1 every) s).1 ∧ 0 ≤ (ys.foldl (sm1 every) s).2 ∧ (ys.foldl (sm1 every) s).2 ≤ s.2 + ys.length := by
    intro ys
    induction ys with
    | nil => intro s _ h h0; exact ⟨h, h0, by simp⟩
    | cons a r ih =>
      intro s hok h h0
      obtain ⟨g1, g2, g3⟩ := sm1_ok (every := every) (hok a (by simp)) h h0
      obtain ⟨k1, k2, k3⟩ := ih (sm1 every s a) (fun y hy => hok y (List.mem_cons_of_mem _ hy)) g1 g2
      rw [List.foldl_cons]
      refine ⟨k1, k2, ?_⟩
      rw [List.length_cons]
      omega
  intro hok
  have := key ys ([], 0) hok V.nil (Int.le_refl _)
  simpa [smO] using this
theorem run_sl24 (A : Option Addr) (n c i : Nat) (hi : i ≤ c) (W : World) : (Instr.slice 24 (.slice A n c) none (some (.int .i64 (i : Int))) none).run Try.prog W = .ok (.slice A i c) W := by
  have h1 : (i : Int) ≤ c := by omega
  have h2 : A.map (·.add (0 * 3)) = A := by cases A <;> simp [Addr.add]
  unfold Instr.slice Instr.sliceBounds Instr.sliceBound
  simp only [Sem.run_bind, run_underlying Try.underlying24, Result.andThen_ok, Sem.run_pure, run_size32, asIntOf]
  try simp only [Option.isSome_none, Bool.false_eq_true, if_false, Sem.run_bind, Sem.run_pure, Result.andThen_ok]
  rw [if_pos ⟨by omega, h1⟩]
  simp only [Sem.run_bind, Sem.run_pure, Result.andThen_ok, h2, ite_self, Nat.sub_zero, Int.toNat_natCast]
theorem ac_box (w : World) (x : Ac) : (w.alloc (Acx x)).cell? ⟨w.heap.size, 0, none⟩ = some (.int .u8 x.o) ∧ (w.alloc (Acx x)).cell? ⟨w.heap.size, 1, none⟩ = some (.int .u16 x.p) ∧ (w.alloc (Acx x)).cell? ⟨w.heap.size, 2, none⟩ = some (.int .u8 x.q) := by
  simp [Acx]

/-- What Some hands back. -/
def SomePost (w : World) (s : List Sw × Int) (e : Ending) (w' : World) : Prop :=
  ∃ A c, e = .returned (.tuple #[.slice A s.1.length c, .int .i64 s.2]) ∧ s.1.length ≤ c ∧ Rw eW w' A s.1 ∧ Below w.heap.size w w'

set_option maxRecDepth 100000 in
set_option maxHeartbeats 8000000 in
theorem some_any (cf : Cf) (A : Option Addr) (ys : List Ac) (cap : Nat) (w : World) (h : Rw eC w A ys) (hok : ∀ y ∈ ys, y.Ok) (hc : ys.length ≤ cap) :
    Calls Try.prog 20 #[cfv cf, .slice A ys.length cap] w (SomePost w (smO cf.d (ys.take 60))) := by
  have hln := h.1
  have HB0 := Lib.hid (show Below w.heap.size w (w.alloc (Cfx cf)) from (Below.refl _ w).alloc (Nat.le_refl _) _)
  have R0 := Lib.hid (h.below HB0.out)
  have C0 := Lib.hid (cm_box w cf)
  have hs0 : w.heap.size < (w.alloc (Cfx cf)).heap.size := by simp
  obtain ⟨zs, hzs⟩ : ∃ zs, ys.take 60 = zs := ⟨_, rfl⟩
  have RZ := Lib.hid (show Rw eC (w.alloc (Cfx cf)) A zs from hzs ▸ R0.out.take 60)
  have HOK := Lib.hid (show ∀ y ∈ zs, y.Ok from fun y hy => hok y (List.mem_of_mem_take (hzs ▸ hy)))
  have HSM := Lib.hid fun k => smO_ok cf.d (zs.take k) (fun y hy => HOK.out y (List.mem_of_mem_take hy))
  have HSN := Lib.hid fun l a => smO_snoc cf.d l a
  have hzn : zs.length = min 60 ys.length := by rw [← hzs, List.length_take]
  rw [hzs]
  clear h hok hzs R0
  obtain ⟨L, hL⟩ : ∃ L, ys.length = L := ⟨_, rfl⟩
  rw [hL] at hln hc hzn ⊢
  clear hL
  obtain ⟨N, hN⟩ : ∃ N, zs.length = N := ⟨_, rfl⟩
  have HN := Lib.hid hN
  rw [hN] at hzn
  clear hN
  have hmin : min (L : Int) 60 = (N : Int) := by omega
  have hNc : N ≤ cap := by omega
  have hNc' : (N : Int) ≤ cap := by omega
  have hN60 : N ≤ 60 := by omega
  have HSL := run_sl24 A L cap N hNc
  unfold Cfx cfv at *
  clear hzn
  go_enter Try.func20, Try.ntmps20
  go_wp2_with fail
  generalize w.alloc (.cells #[.int .i64 cf.a, .int .i64 cf.b, .int .i64 cf.c, .int .i64 cf.d, .int .i64 cf.e, .int .i64 cf.f, .int .i64 cf.g, .int .i64 cf.h, .int .i64 cf.i] 27) = W0 at *
  go_loopw [6, 7, 18] (fun v t i wr => ∃ (k : Nat) (As : Option Addr) (cs : Nat), i = .int .i64 k ∧ k ≤ N ∧ v = .slice As (smO cf.d (zs.take k)).1.length cs ∧ t = .int .i64 (smO cf.d (zs.take k)).2 ∧ Hid ((smO cf.d (zs.take k)).1.length ≤ cs ∧ Rw eW wr As (smO cf.d (zs.take k)).1 ∧ Below W0.heap.size W0 wr)) (fun _ _ i _ => N - (intOf i).toNat)
  case atStart => exact ⟨0, none, 0, rfl, by omega, rfl, rfl, Lib.hid ⟨by simp [smO], Rw.nil _ _, Below.refl _ _⟩⟩
  case round =>
    obtain ⟨k, As, cs, rfl, hk, rfl, rfl, HR⟩ := hrel
    obtain ⟨v1, v2, v3⟩ := HSM.out k
    have v4 : (smO cf.d (zs.take k)).2 ≤ 60 := by rw [List.length_take] at v3; omega
    by_cases hkN : k < N
    · obtain ⟨a, ha⟩ : ∃ a, zs[k]? = some a := ⟨_, List.getElem?_eq_getElem (by rw [HN.out]; exact hkN)⟩
      have hak := HOK.out a (List.mem_of_getElem? ha)
      obtain ⟨y, rfl⟩ := rw_some RZ.out (by rw [HN.out]; omega)
      have hat := (RZ.out.below HR.out.2.2).at ha
      have HT := Lib.hid (show smO cf.d (zs.take (k + 1)) = sm1 cf.d (smO cf.d (zs.take k)) a by rw [List.take_add_one, ha]; exact HSN.out _ _)
      have HV := Lib.hid v1
      obtain ⟨s, hs⟩ : ∃ s, smO cf.d (zs.take k) = s := ⟨_, rfl⟩
      rw [hs] at HR HT HV v2 v4 ⊢
      clear hs v1 v3 ha
      obtain ⟨ss, now⟩ := s
      dsimp only at *
      obtain ⟨s0, s1, s2⟩ := ac_box wr a
      have B1 := Lib.hid (show Below W0.heap.size W0 (wr.alloc (Acx a)) from HR.out.2.2.alloc HR.out.2.2.size _)
      have R1 := Lib.hid (HR.out.2.1.below ((Below.refl _ wr).alloc (Nat.le_refl _) (Acx a)))
      have C1 := Lib.hid (C0.out.keep B1.out hs0 B1.out.size)
      have HCS := Lib.hid HR.out.1
      have hss := HV.out.r.few
      obtain ⟨o0, o1⟩ := hak.o
      obtain ⟨p0, p1⟩ := hak.p
      obtain ⟨q0, q1⟩ := hak.q
      by_cases h3 : a.o % 3 = 0
      · have HT2 := Lib.hid (show smO cf.d (zs.take (k + 1)) = ((planO ss cf.d (now + 1) (1 + a.q % 9)).1, now + 1) by rw [HT.out]; unfold sm1; rw [if_pos h3])
        have HPL := Lib.hid fun W hR => plan_any cf (now + 1) (1 + a.q % 9) As ss cs W hR HCS.out hss HV.out.sv (by omega) (by omega)
        have e3 : (a.o % 3 == 0) = true := by simpa using h3
        unfold Acx cfv at *
        go_wp2_with (first | (refine at_load32 (.tmp 20) rfl rfl (y.add (k * 3)) a rfl hat ?_) | (refine at_load27 (.tmp 2) rfl rfl _ cf rfl C1.out.at ?_))
        refine (HPL.out _ R1.out).mono ?_
        rintro e w1 ⟨A2, c2, A3, c3, rfl, hc2, hR2, -, hb⟩
        have B2 := Lib.hid (B1.out.trans (hb.mono B1.out.size))
        have R2 := Lib.hid hR2
        have HC2 := Lib.hid hc2
        clear hb hR2 hc2
        go_wp2_with fail
        go_roundw
        case rel => exact ⟨k + 1, A2, c2, by go_num, by omega, by rw [HT2.out], by rw [HT2.out], Lib.hid (by rw [HT2.out]; exact ⟨HC2.out, R2.out, B2.out⟩)⟩
        case measure => simp [intOf]; omega
      · have e3 : (a.o % 3 == 0) = false := by simpa using h3
        have HBL := Lib.hid fun W => ablock_any a hak W
        obtain ⟨b0, b1⟩ := ba_in a hak
        have HPU := Lib.hid fun W hR => put_any (ba a) (bn a) now As ss cs W hR HV.out.u HCS.out (by omega) b0 b1
        by_cases hp : putC ss (ba a) (bn a) = 0
        · have HT2 := Lib.hid (show smO cf.d (zs.take (k + 1)) = (putR ss (ba a) (bn a) now, now) by rw [HT.out]; unfold sm1; rw [if_neg h3, if_pos hp])
          rw [hp] at HPU
          unfold Acx acv at *
          clear hp
          go_wp2_with (first | (refine at_load32 (.tmp 20) rfl rfl (y.add (k * 3)) a rfl hat ?_))
          refine (HBL.out _).mono ?_
          rintro e w1 ⟨rfl, hb⟩
          have B2 := Lib.hid (B1.out.trans (hb.mono B1.out.size))
          have R2 := Lib.hid (R1.out.below hb)
          clear hb
          go_wp2_with fail
          refine (HPU.out _ R2.out).mono ?_
          rintro e w2 ⟨A2, c2, rfl, hc2, -, hR2, hb⟩
          have B3 := Lib.hid (B2.out.trans (hb.mono B2.out.size))
          have R3 := Lib.hid hR2
          have HC2 := Lib.hid hc2
          clear hb hR2 hc2
          go_wp2_with fail
          go_roundw
          case rel => exact ⟨k + 1, A2, c2, by go_num, by omega, by rw [HT2.out], by rw [HT2.out], Lib.hid (by rw [HT2.out]; exact ⟨HC2.out, R3.out, B3.out⟩)⟩
          case measure => simp [intOf]; omega
        · have HT2 := Lib.hid (show smO cf.d (zs.take (k + 1)) = (ss, now) by rw [HT.out]; unfold sm1; rw [if_neg h3, if_neg hp])
          have hp' : (putC ss (ba a) (bn a) == 0) = false := by simpa using hp
          unfold Acx acv at *
          clear hp
          go_wp2_with (first | (refine at_load32 (.tmp 20) rfl rfl (y.add (k * 3)) a rfl hat ?_))
          refine (HBL.out _).mono ?_
          rintro e w1 ⟨rfl, hb⟩
          have B2 := Lib.hid (B1.out.trans (hb.mono B1.out.size))
          have R2 := Lib.hid (R1.out.below hb)
          clear hb
          go_wp2_with fail
          refine (HPU.out _ R2.out).mono ?_
          rintro e w2 ⟨A2, c2, rfl, hc2, -, hR2, hb⟩
          have B3 := Lib.hid (B2.out.trans (hb.mono B2.out.size))
          have R3 := Lib.hid (R2.out.below hb)
          clear hb hR2 hc2
          go_wp2_with fail
          go_roundw
          case rel => exact ⟨k + 1, As, cs, by go_num, by omega, by rw [HT2.out], by rw [HT2.out], Lib.hid (by rw [HT2.out]; exact ⟨HCS.out, R3.out, B3.out⟩)⟩
          case measure => simp [intOf]; omega
    · obtain rfl : N = k := by omega
      have hz : zs.take N = zs := List.take_of_length_le (by rw [HN.out]; exact Nat.le_refl _)
      rw [hz] at HR ⊢
      have BB := Lib.hid (HB0.out.trans (HR.out.2.2.mono HB0.out.size))
      go_wp2_with fail
      go_ret2
      exact ⟨As, cs, rfl, HR.out.1, HR.out.2.1, BB.out⟩
end Go.Proofs.Ytenolbgadlehpaa
