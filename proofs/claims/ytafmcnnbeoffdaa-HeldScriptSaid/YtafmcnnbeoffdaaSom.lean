/-
  The contracts of the statements' own awake and Some. Conditions: the deeds lie in memory.
-/
import Derived.Test.YtafmcnnbeoffdaaAct
set_option linter.unusedSimpArgs false
set_option linter.unusedVariables false
namespace Go.Proofs.Ytafmcnnbeoffdaa
open Go.RowKit

def ann : Hr := ⟨5, ⟨#[97, 110, 110]⟩, 0, 0, 0, 0, 0, 0⟩
def bob : Hr := ⟨5, ⟨#[98, 111, 98]⟩, 0, 0, 0, 0, 0, 0⟩
theorem ann_put : putR [] ann = [ann] ∧ putC [] ann = 0 := by
  have h : mayB ann.T = true := by decide
  have e : putC [] ann = 0 := by simp [putC, h, isAt]
  exact ⟨by simp [putR, e, ins], e⟩
theorem bob_put : putR [ann] bob = [] ∧ putC [ann] bob = 6 := by
  have h : mayB bob.T = true := by decide
  have e : putC [ann] bob = 6 := by unfold putC; rw [h, if_neg (by simp)]; simp [isAt, lo, ann, bob]
  exact ⟨by simp [putR, e], e⟩
theorem ann_next : nextA 4 30 [ann] = 4 ∧ nextB 4 30 [ann] = true := by
  have hs : sizeOf 4 30 = 4 := by decide
  have hk : nextK 4 30 [ann] = 0 := by simp [nextK, nxk, nxS, ann]
  have hb : nextB 4 30 [ann] = true := by simp [nextB, hk, hs]
  exact ⟨by simp [nextA, hb, hk], hb⟩
theorem ann_used : usedN 4 30 [ann] = 1 := by decide

set_option maxRecDepth 100000 in
set_option maxHeartbeats 2000000 in
theorem awake_any (w : World) : Calls Try.prog 9 #[] w fun e w' => e = .returned (.bool true) ∧ Below w.heap.size w w' := by
  have H1 := Lib.hid (put_any ann none [] 0 w ⟨by decide, by decide, by decide⟩ (Hs.nil _ _) (by simp) (by simp))
  rw [ann_put.1, ann_put.2] at H1
  have H2 := Lib.hid fun A cap W (h : Hs W A [ann]) (hc : [ann].length ≤ cap) => next_any 4 30 A [ann] cap W h hc (by omega) (by omega)
  rw [ann_next.1, ann_next.2] at H2
  have H3 := Lib.hid fun A cap W (h : Hs W A [ann]) (hc : [ann].length ≤ cap) => put_any bob A [ann] cap W ⟨by decide, by decide, by decide⟩ h hc (by simp)
  rw [bob_put.1, bob_put.2] at H3
  have H4 := Lib.hid fun A cap W (h : Hs W A [ann]) (hc : [ann].length ≤ cap) => used_any 4 30 A [ann] cap W h hc (by omega) (by omega)
  rw [ann_used] at H4
  simp only [hv, ann, bob, List.length_singleton, List.length_nil] at H1 H2 H3 H4
  go_enter Try.func9, Try.ntmps9
  go_wp2_with fail
  refine H1.out.mono ?_
  rintro e w1 ⟨A1, c1, rfl, hc1, _, hH1, hb⟩
  have R1 := Lib.hid hH1
  have B1 := Lib.hid hb
  have hc1' : 1 ≤ c1 := hc1
  clear hH1 hb hc1
  simp only [List.length_singleton]
  go_wp2_with fail
  refine (H2.out _ _ _ R1.out hc1').mono ?_
  rintro e w2 ⟨rfl, hb⟩
  have R2 := Lib.hid (R1.out.below hb)
  have B2 := Lib.hid (B1.out.trans (hb.mono B1.out.size))
  clear hb
  go_wp2_with fail
  refine (H3.out _ _ _ R2.out hc1').mono ?_
  rintro e w3 ⟨A3, c3, rfl, hc3, _, hH3, hb⟩
  have R3 := Lib.hid (R2.out.below hb)
  have B3 := Lib.hid (B2.out.trans (hb.mono B2.out.size))
  clear hb hH3 hc3
  simp only [List.length_nil]
  go_wp2_with fail
  refine (H4.out _ _ _ R3.out hc1').mono ?_
  rintro e w4 ⟨rfl, hb⟩
  have B4 := Lib.hid (B3.out.trans (hb.mono B3.out.size))
  clear hb
  go_wp2_with fail
  go_ret
  exact ⟨rfl, B4.out⟩

/-- A row behind one more deed, and behind the first k. -/
def sm (ys : List Hr) (a : Ac) : List Hr := if putC ys (hd a) = 0 ∧ a.tk = false then putR ys (hd a) else ys
def SM (xs : List Ac) (k : Nat) : List Hr := (xs.take k).foldl sm []
theorem SM_zero (xs : List Ac) : SM xs 0 = [] := rfl
theorem SM_succ {xs : List Ac} {k : Nat} {a : Ac} (h : xs[k]? = some a) : SM xs (k + 1) = sm (SM xs k) a := by
  unfold SM
  rw [List.take_add_one, h]
  simp
theorem ins_length (ys : List Hr) (h : Hr) : (ins ys h).length = ys.length + 1 := by
  unfold ins
  have := lo_le h.a ys
  rw [List.length_append, List.length_append, List.length_take, List.length_drop, List.length_singleton]
  omega
theorem put_zero {ys : List Hr} {h : Hr} (e : putC ys h = 0) : ys.length < 48 ∧ isAt ys h.a = false ∧ mayB h.T = true ∧ putR ys h = ins ys h := by
  have hr : putR ys h = ins ys h := by simp [putR, e]
  unfold putC at e
  split at e
  · cases e
  · rename_i h1
    split at e
    · cases e
    · rename_i h2
      split at e
      · cases e
      · rename_i h3
        exact ⟨by omega, by simpa using h2, by simpa using h1, hr⟩
theorem sm_len {ys : List Hr} {a : Ac} (h : ys.length ≤ 48) : (sm ys a).length ≤ 48 := by
  unfold sm
  split
  · rename_i e
    obtain ⟨h1, _, _, h4⟩ := put_zero e.1
    rw [h4, ins_length]; omega
  · exact h
def SomPost (w : World) (ys : List Hr) (e : Ending) (w' : World) : Prop := ∃ A cap, e = .returned (.slice A ys.length cap) ∧ ys.length ≤ cap ∧ cap ≤ maxLen ∧ Hs w' A ys ∧ Below w.heap.size w w'

set_option maxRecDepth 100000 in
set_option maxHeartbeats 4000000 in
theorem some_any (A : Option Addr) (xs : List Ac) (cap : Nat) (w : World) (h : Ra w A xs) (hcap : xs.length ≤ cap) :
    Calls Try.prog 17 #[.slice A xs.length cap] w (SomPost w (SM xs (min xs.length 60))) := by
  obtain ⟨L, hL⟩ : ∃ L : Nat, min (xs.length : Int) 60 = L := ⟨min xs.length 60, by omega⟩
  have hLn : min xs.length 60 = L := by omega
  rw [hLn]
  have hL60 : L ≤ 60 := by omega
  have hLz : L ≤ xs.length := by omega
  have hLc : (L : Int) ≤ cap := by omega
  have hz := h.1
  have R := Lib.hid h
  have HLz := Lib.hid hLz
  clear h hLn
  go_enter Try.func17, Try.ntmps17
  go_wp2_with fail
  go_loopw [3, 14] (fun v i wr => ∃ (k : Nat) (ys : List Hr) (A1 : Option Addr) (c1 : Nat), i = .int .i64 k ∧ k ≤ L ∧ v = .slice A1 ys.length c1 ∧ ys.length ≤ 48 ∧ ys.length ≤ c1 ∧ Hid (c1 ≤ maxLen ∧ ys = SM xs k ∧ Hs wr A1 ys ∧ Below w.heap.size w wr)) (fun _ i _ => L - (intOf i).toNat)
  case atStart => exact ⟨0, [], none, 0, rfl, by omega, rfl, by simp, by simp, Lib.hid ⟨by unfold maxLen; omega, rfl, Hs.nil _ _, Below.refl _ _⟩⟩
  case round =>
    obtain ⟨k, ys, A1, c1, rfl, hk, rfl, hy48, hyc, HH⟩ := hrel
    by_cases hlt : k < L
    · obtain ⟨a, ha⟩ : ∃ a, xs[k]? = some a := ⟨_, List.getElem?_eq_getElem (by omega)⟩
      obtain ⟨hok, x, rfl, hc⟩ := (R.out.below HH.out.2.2.2).2 k a ha
      have hc27 : ∀ j v, (ac a)[j]? = some v → wr.cell? ((x.add (k * 5)).add j) = some v := fun j v hv => by rw [Go.Deep.add_add]; exact hc j v hv
      have HS := Lib.hid (SM_succ ha)
      have HHD := Lib.hid fun W => holder_any a W hok
      have HPT := Lib.hid fun W (hW : Hs W A1 ys) => put_any (hd a) A1 ys c1 W (hd_ok a) hW hyc (by omega)
      have HSM := Lib.hid (show sm ys a = if putC ys (hd a) = 0 ∧ a.tk = false then putR ys (hd a) else ys from rfl)
      have HSL := Lib.hid (sm_len (ys := ys) (a := a) hy48)
      have HBX := Lib.hid (fun w => ac_box w a)
      generalize hd a = H at *
      obtain ⟨ha', hT, h0, h1, h2, h3, h4, h5⟩ := H
      obtain ⟨tk, ad, ow, mc, an⟩ := a
      simp only [hv, av] at HHD HPT
      dsimp only at HSM HBX
      obtain ⟨Q, hQ⟩ : ∃ Q, putC ys ⟨ha', hT, h0, h1, h2, h3, h4, h5⟩ = Q := ⟨_, rfl⟩
      rw [hQ] at HSM HPT
      clear ha hok hc hQ
      go_wp2_with (refine at_load27 _ rfl rfl _ _ rfl hc27 ?_)
      refine (HHD.out _).mono ?_
      rintro e w1 ⟨rfl, hb⟩
      have B1 := Lib.hid (HH.out.2.2.2.trans ((hx_below _ hb).mono HH.out.2.2.2.size))
      have R1 := Lib.hid (HH.out.2.2.1.below (hx_below _ hb))
      have q0 : w1.cell? ⟨wr.heap.size, 0, none⟩ = some (.bool tk) := by rw [hb.cell (p := ⟨wr.heap.size, 0, none⟩) (by simp)]; exact HBX.out wr 0 _ rfl
      have z1 : wr.heap.size < w1.heap.size := by have := hb.size; simp at this; omega
      clear hb
      go_wp2_with fail
      refine (HPT.out _ R1.out).mono ?_
      rintro e w2 ⟨A2, c2, rfl, hc2, hm2, hH2, hb⟩
      have B2 := Lib.hid (B1.out.trans (hb.mono B1.out.size))
      have R2 := Lib.hid (R1.out.below hb)
      have RR2 := Lib.hid (show c2 ≤ maxLen ∧ Hs w2 A2 (putR ys ⟨ha', hT, h0, h1, h2, h3, h4, h5⟩) from ⟨hm2, hH2⟩)
      have q1 : w2.cell? ⟨wr.heap.size, 0, none⟩ = some (.bool tk) := by rw [hb.cell (p := ⟨wr.heap.size, 0, none⟩) z1]; exact q0
      clear hb hm2 hH2
      by_cases hQ0 : Q = 0
      · subst hQ0
        cases tk
        · have HS1 := Lib.hid (show SM xs (k + 1) = putR ys ⟨ha', hT, h0, h1, h2, h3, h4, h5⟩ by rw [HS.out, ← HH.out.2.1, HSM.out]; simp)
          have hl2 : (putR ys ⟨ha', hT, h0, h1, h2, h3, h4, h5⟩).length ≤ 48 := by have := HSL.out; rw [HSM.out] at this; simpa using this
          go_wp2_with fail
          go_roundw
          case rel => exact ⟨k + 1, _, A2, c2, by go_num, by omega, rfl, hl2, hc2, Lib.hid ⟨RR2.out.1, by rw [HS1.out], RR2.out.2, B2.out⟩⟩
          case measure => simp [intOf]; omega
        · have HS1 := Lib.hid (show SM xs (k + 1) = ys by rw [HS.out, ← HH.out.2.1, HSM.out]; simp)
          go_wp2_with fail
          go_roundw
          case rel => exact ⟨k + 1, ys, A1, c1, by go_num, by omega, rfl, hy48, hyc, Lib.hid ⟨HH.out.1, by rw [HS1.out], R2.out, B2.out⟩⟩
          case measure => simp [intOf]; omega
      · have HS1 := Lib.hid (show SM xs (k + 1) = ys by rw [HS.out, ← HH.out.2.1, HSM.out]; simp [hQ0])
        have hQ1 : (Q == 0) = false := by simpa using hQ0
        go_wp2_with fail
        go_roundw
        case rel => exact ⟨k + 1, ys, A1, c1, by go_num, by omega, rfl, hy48, hyc, Lib.hid ⟨HH.out.1, by rw [HS1.out], R2.out, B2.out⟩⟩
        case measure => simp [intOf]; omega
    · obtain rfl : k = L := by omega
      go_wp2_with fail
      go_ret
      exact ⟨A1, c1, by rw [← HH.out.2.1]; rfl, by rw [← HH.out.2.1]; exact hyc, HH.out.1, by rw [← HH.out.2.1]; exact HH.out.2.2.1, HH.out.2.2.2⟩
end Go.Proofs.Ytafmcnnbeoffdaa
