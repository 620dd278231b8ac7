/-
  SeenNew's walk: what is kept of an address are the last ones that came. Conditions: the deeds lie in memory.
-/
import Derived.Test.YtcnhagcmklgpkaaSom
set_option linter.unusedSimpArgs false
set_option linter.unusedVariables false
namespace Go.Proofs.Ytcnhagcmklgpkaa
open Go.RowKit

set_option maxRecDepth 100000 in
set_option maxHeartbeats 4000000 in
theorem seenNew_walk (A : Option Addr) (xs : List Ac) (cap : Nat) (q : Int) (w : World) (h : Ra w A xs) (hcap : xs.length ≤ cap) (q0 : 0 ≤ q) (q1 : q < 256) :
    Calls Try.prog 8 #[.slice A xs.length cap, .int .u8 q] w fun e w' => e = .returned (.bool true) ∧ Below w.heap.size w w' := by
  obtain ⟨L, hL⟩ : ∃ L : Nat, min (xs.length : Int) 120 = L := ⟨min xs.length 120, by omega⟩
  have hLn : min xs.length 120 = L := by omega
  have hL60 : L ≤ 120 := by omega
  have hLz : L ≤ xs.length := by omega
  have hLc : (L : Int) ≤ cap := by omega
  have hz := h.1
  have R := Lib.hid h
  have HAW := Lib.hid (awake_any w)
  have HSM := Lib.hid fun W (hW : Ra W A xs) => some_any A xs cap W hW hcap
  rw [hLn] at HSM
  have HG := Lib.hid (SM_good xs L hLz)
  have HCM := Lib.hid (SM_came xs (near q) L hLz)
  have HCL := Lib.hid (fun k => came_le xs (near q) k)
  have HCS := Lib.hid (fun (k : Nat) (x : Ac) (hx : xs[k]? = some x) => came_succ (a := near q) hx)
  have HC0 := Lib.hid (show came xs (near q) 0 = 0 from rfl)
  have HNQ := Lib.hid fun W => near_any q W q0 q1
  have n0 := (near_in q).1
  have n1 := (near_in q).2
  clear h hLn
  generalize near q = X at *
  obtain ⟨p, hp⟩ : ∃ p, SM xs L = p := ⟨_, rfl⟩
  rw [hp] at HSM HG HCM
  obtain ⟨ys, N⟩ := p
  have HOF := Lib.hid fun A1 c1 W (hW : Ks W A1 ys) (hc : ys.length ≤ c1) => of_any X A1 ys c1 W hW hc (fun x hx => Nat.le_trans (HG.out.v.bd.2 x hx) (by omega)) n0 n1
  have HLA := Lib.hid fun A1 c1 W (hW : Ks W A1 ys) (hc : ys.length ≤ c1) => last_any X A1 ys c1 W hW hc n0 n1
  have HNW := Lib.hid (HG.out.now X)
  have HG8 := Lib.hid (HG.out.v.sg8 X)
  dsimp only at HCM HNW HG8 HSM
  clear hp
  obtain ⟨G, hG⟩ : ∃ G, sg ys X = G := ⟨_, rfl⟩
  rw [hG] at HOF HLA HCM HNW HG8
  obtain ⟨YL, hYL⟩ : ∃ YL, ys.length = YL := ⟨_, rfl⟩
  have HYL := Lib.hid hYL
  rw [hYL] at HOF HLA
  clear hG hYL HG
  go_enter Try.func8, Try.ntmps8
  go_wp2_with fail
  refine HAW.out.mono ?_
  rintro e w1 ⟨rfl, hb⟩
  have RW := Lib.hid (R.out.below hb)
  have B1 := Lib.hid hb
  clear hb
  go_wp2_with fail
  refine (HSM.out _ RW.out).mono ?_
  rintro e w2 ⟨v2, rfl, hb, A2, c2, rfl, hc2, -, hK2⟩
  rw [HYL.out] at hc2 ⊢
  dsimp only at hK2
  have RW2 := Lib.hid (RW.out.below hb)
  have B2 := Lib.hid (bthen B1.out hb B1.out.size)
  have K2 := Lib.hid hK2
  clear hb hK2 RW B1 HSM HAW
  go_wp2_with fail
  refine (HNQ.out _).mono ?_
  rintro e w3 ⟨rfl, rfl⟩
  go_wp2_with fail
  refine (HOF.out _ _ _ K2.out hc2).mono ?_
  rintro e w4 ⟨v4, rfl, hb, A4, c4, rfl, hc4, -, hR4⟩
  have RW4 := Lib.hid (RW2.out.below hb)
  have B4 := Lib.hid (bthen B2.out hb B2.out.size)
  have K4 := Lib.hid (K2.out.below hb)
  have R4 := Lib.hid hR4
  obtain ⟨GL, hGL⟩ : ∃ GL, G.length = GL := ⟨_, rfl⟩
  have HGL := Lib.hid hGL
  rw [hGL] at hc4 HCM HG8 ⊢
  clear hb hR4 RW2 B2 K2 hGL HOF
  go_wp2_with fail
  go_loopw [9, 32] (fun v i wr => ∃ k : Nat, i = .int .i64 k ∧ k ≤ L ∧ v = .int .i64 (came xs X k : Nat) ∧ Hid (Below w.heap.size w wr ∧ Ra wr A xs ∧ Ks wr A2 ys ∧ Rw eS wr A4 G)) (fun _ i _ => L - (intOf i).toNat)
  case atStart => exact ⟨0, rfl, by omega, by rw [HC0.out]; rfl, Lib.hid ⟨B4.out, RW4.out, K4.out, R4.out⟩⟩
  case round =>
    obtain ⟨k, rfl, hk, rfl, HH⟩ := hrel
    have hck := HCL.out k
    by_cases hlt : k < L
    · obtain ⟨a, ha⟩ : ∃ a, xs[k]? = some a := ⟨_, List.getElem?_eq_getElem (by omega)⟩
      obtain ⟨hok, x, rfl, hc⟩ := HH.out.2.1.2 k a ha
      have hc28 : ∀ j v, (ac a)[j]? = some v → wr.cell? ((x.add (k * 4)).add j) = some v := fun j v hv => by rw [Go.Deep.add_add]; exact hc j v hv
      have HS := Lib.hid (HCS.out k a ha)
      have HNR := Lib.hid fun W => near_any a.ad W hok.1.1 hok.1.2
      have hA1 : Below wr.heap.size wr (wr.alloc (Ax a)) := (Below.refl _ wr).alloc (Nat.le_refl _) _
      have HB := Lib.hid (show Below w.heap.size w (wr.alloc (Ax a)) ∧ Ra (wr.alloc (Ax a)) (some x) xs ∧ Ks (wr.alloc (Ax a)) A2 ys ∧ Rw eS (wr.alloc (Ax a)) A4 G from ⟨bthen HH.out.1 hA1 HH.out.1.size, HH.out.2.1.below hA1, HH.out.2.2.1.below hA1, HH.out.2.2.2.below hA1⟩)
      obtain ⟨⟨i0, i1⟩, _⟩ := hok
      have ni0 := (near_in a.ad).1
      have ni1 := (near_in a.ad).2
      generalize near a.ad = Y at *
      obtain ⟨a0, a1, a2, a3⟩ := a
      dsimp only at HNR
      simp only [Ax] at HB
      clear ha hc hA1
      by_cases hxy : Y = X
      · have HS1 := Lib.hid (show came xs X (k + 1) = came xs X k + 1 by rw [HS.out, if_pos hxy])
        have hxy2 : (Y == X) = true := by simpa using hxy
        clear hxy
        generalize came xs X k = CK at *
        go_wp2_with (refine at_load28 _ rfl rfl _ _ rfl hc28 ?_)
        refine (HNR.out _).mono ?_
        rintro e w5 ⟨rfl, rfl⟩
        go_wp2_with fail
        go_roundw
        case rel => exact ⟨k + 1, by go_num, by omega, by rw [HS1.out]; go_num, HB⟩
        case measure => simp [intOf]; omega
      · have HS1 := Lib.hid (show came xs X (k + 1) = came xs X k by rw [HS.out, if_neg hxy]; rfl)
        have hxy2 : (Y == X) = false := by simpa using hxy
        clear hxy
        go_wp2_with (refine at_load28 _ rfl rfl _ _ rfl hc28 ?_)
        refine (HNR.out _).mono ?_
        rintro e w5 ⟨rfl, rfl⟩
        go_wp2_with fail
        go_roundw
        case rel => exact ⟨k + 1, by go_num, by omega, by rw [HS1.out], HB⟩
        case measure => simp [intOf]; omega
    · obtain rfl : k = L := by omega
      have hcm := HCM.out
      generalize came xs X k = CK at *
      have hmin : min (CK : Int) 8 = (GL : Int) := by omega
      clear B4 RW4 K4 R4
      rcases GL with _ | gl
      · have hck0 : CK = 0 := by omega
        subst hck0
        have HA0 := Lib.hid (show any G = false ∧ tk G = 0 by rw [List.eq_nil_of_length_eq_zero HGL.out]; exact ⟨rfl, rfl⟩)
        rw [HA0.out.1, HA0.out.2] at HLA
        clear hcm HCM hmin hck hL
        have hm0 : min (0 : Int) 8 = 0 := rfl
        go_wp2_with fail
        refine (HLA.out _ _ _ HH.out.2.2.1 hc2).mono ?_
        rintro e w6 ⟨rfl, n6, rfl⟩
        go_wp2_with fail
        go_ret
        exact ⟨rfl, bdrewN HH.out.1 n6⟩
      · have hckp : (0 : Int) < CK := by omega
        obtain ⟨z, hz⟩ : ∃ z, G[gl]? = some z := ⟨_, List.getElem?_eq_getElem (by rw [HGL.out]; omega)⟩
        obtain ⟨y4, rfl⟩ := rw_some HH.out.2.2.2 (by rw [HGL.out]; omega)
        have HA0 := Lib.hid (show any G = true ∧ tk G = z.t by
          refine ⟨by unfold any; rw [HGL.out]; exact decide_eq_true (by omega), ?_⟩
          unfold tk
          rw [HGL.out, Nat.add_sub_cancel, hz]
          rfl)
        have hzn : z.t ≤ N := by
          have := HNW.out HA0.out.1
          rw [HA0.out.2] at this
          exact this
        have c7 : wr.cell? ⟨(y4.add (gl * 8)).block, (y4.add (gl * 8)).off + 7, none⟩ = some (.int .i64 z.t) := HH.out.2.2.2.at hz 7 _ rfl
        have hgl : IntKind.i64.wrap (gl : Int) = (gl : Int) := i64_nat (by have := HG8.out; omega)
        have hgl8 := HG8.out
        rw [HA0.out.1, HA0.out.2] at HLA
        clear hz hcm HCM
        go_wp2_with fail
        refine (HLA.out _ _ _ HH.out.2.2.1 hc2).mono ?_
        rintro e w6 ⟨rfl, n6, rfl⟩
        go_wp2_with fail
        go_ret
        exact ⟨rfl, bdrewN HH.out.1 n6⟩
end Go.Proofs.Ytcnhagcmklgpkaa
