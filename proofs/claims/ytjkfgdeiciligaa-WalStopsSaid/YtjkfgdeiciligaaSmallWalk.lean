/-
  WalSmall's walk: for every number and row of bytes it returns true, and nothing that was in memory is touched. Conditions: a row has at most 2^47 bytes, and not more than its room.
-/
import Derived.Test.YtjkfgdeiciligaaWake
set_option linter.unusedSimpArgs false
namespace Go.Proofs.Ytjkfgdeiciligaa
open Go.RowKit

/-- A stop at once. -/
theorem go_at_once {M : Dk} {o : Dop} {l : List Dop} (hd : M.down = false) (ho : ∀ a s, o = .wr a s → a < M.n) (hs : M.stop = some 0) : (M.go (o :: l)).1 = 9 := by
  have he : M.err = 9 := by simp [Dk.err, hs, rings]
  have e1 : (M.one o).1 = 9 := by
    cases o with
    | wr a s =>
      have hr := rfs_up hd (ho a s rfl)
      simp [Dk.one, Dk.wer, hr, he]
    | fl => simp [Dk.one, Dk.fer, hd, he]
  rw [Dk.go_cons, if_neg (by rw [e1]; omega)]
  exact e1
theorem apd_at_once {M : Dk} {L : Lk} {zs : List Nat} (h : Sys M L) (hr : rf6 L zs.length ((L.size : Int) - (L.fin : Int)) = 0) (hs : M.stop = some 0) : (apd L M zs).1 = 9 := by
  have hh := h.half
  obtain ⟨_, _, hsc⟩ := rf6_zero hr
  have hscd : sct zs.length = 1 + (zs.length + 63) / 64 := rfl
  have h9 : (M.go (fop (L.first + L.fin) 2 L.recs.length zs)).1 = 9 := by
    unfold fop
    cases hc : (zs.length + 63) / 64 with
    | zero => exact go_at_once h.down (fun a s e => by cases e) hs
    | succ c =>
      obtain ⟨r, hr⟩ := range_split (fw (L.first + L.fin) zs) (show 0 < c + 1 by omega)
      rw [hr]
      refine go_at_once h.down (fun a s e => ?_) hs
      injection e with e1 e2
      subst e1
      show L.first + L.fin + 1 + 0 < M.n
      rcases h.gd.fst with h0 | h0 <;> omega
  rw [apd, if_pos hr, if_neg (by rw [h9]; omega)]
  exact h9

set_option maxHeartbeats 4000000 in
set_option maxRecDepth 100000 in
theorem walSmall_walk (n : Int) (A : Option Addr) (zs : List Nat) (c : Nat) (w : World) (h : Rd w A zs) (hc : zs.length ≤ c) :
    Calls Try.prog 7 #[.int .i64 n, .slice A zs.length c] w fun e w' => e = .returned (.bool true) ∧ Below w.heap.size w w' := by
  have AW := Lib.hid (awake_any w)
  have H := Lib.hid h
  have hzl := h.1
  clear h
  obtain ⟨m, hm⟩ : ∃ m : Nat, min (max n 0) 512 = (m : Int) := ⟨(min (max n 0) 512).toNat, by omega⟩
  have E : max 0 (min n 512) = (m : Int) := by omega
  have hm5 : m ≤ 512 := by omega
  have HM := Lib.hid hm
  clear hm
  go_enter Try.func7, Try.ntmps7
  go_wp2_with fail
  refine AW.out.mono ?_
  rintro e w1 ⟨rfl, b1⟩
  have B1 := Lib.hid b1
  have H1 := Lib.hid (H.out.below b1)
  clear b1 AW
  go_wp2_with fail
  refine (of_at (N := w.heap.size) (w0 := w) n m HM.out w1 B1.out (Nat.le_refl _)).mono ?_
  rintro e w2 ⟨p, k, rfl, a2⟩
  have A2 := Lib.hid a2
  clear a2
  by_cases h4 : m / 2 < 4
  · have h4' : (m : Int) / 2 < 4 := by omega
    have C2 := Lib.hid (open_any p k _ _ w2 A2.out.d (fun _ => rfl) (fun _ i j => by show 0 < 256; omega) (fun _ h => by have h : 4 ≤ m / 2 := h; omega) (by show 0 + 1000 < _; omega))
    rw [show opn ⟨m, fun _ => zer, [], 0, none, none, false⟩ = (none, 12, ⟨m, fun _ => zer, [], 0, none, none, false⟩) by rw [opn, if_pos h4]] at C2
    clear h4
    go_wp2_with fail
    refine C2.out.mono ?_
    rintro e w3 ⟨pv3, rfl, d3, s3⟩
    have B3 := Lib.hid (A2.out.disk d3 s3).b
    clear d3 s3 C2
    go_wp2_with fail
    go_ret
    exact ⟨rfl, B3.out⟩
  · have h4' : ¬ (m : Int) / 2 < 4 := by omega
    have C2 := Lib.hid (open_new m A2.out (by omega) hm5)
    go_wp2_with fail
    refine C2.out.mono ?_
    rintro e w3 ⟨q, pv3, rv3, M3, rfl, a3, s3, k3⟩
    have A3 := Lib.hid a3
    have S3 := Lib.hid s3
    have K3 := Lib.hid k3
    clear a3 s3 k3 C2
    have CR := Lib.hid (room_any A3.out.l (show m / 2 ≤ 1000 by omega) (show 2 ≤ 1000 by omega))
    go_wp2_with fail
    refine CR.out.mono ?_
    rintro e w4 ⟨rfl, b4⟩
    have A4 := Lib.hid (A3.out.below (Nat.le_refl _) b4)
    clear b4 CR A3
    have ER : ((m / 2 : Nat) : Int) - ((2 : Nat) : Int) = (m : Int) / 2 - 2 := by omega
    simp only at *
    go_wp2_with fail
    refine (arm_any p k _ _ 0 _ A4.out.d (by omega)).mono ?_
    rintro e w5 ⟨rfl, d5, s5⟩
    have A5 := Lib.hid (A4.out.disk (Nat.le_refl _) d5 s5)
    have S5 : Hid (Sys { M3 with stop := al 0 } ⟨m / 2, m / 2, 1, 2, [[]], false⟩) := ⟨S3.out.down, S3.out.pend, S3.out.half, S3.out.gd, S3.out.ok, S3.out.byt⟩
    clear d5 s5 A4
    obtain ⟨x, hx⟩ : ∃ x, x = min zs.length 60 := ⟨_, rfl⟩
    have hlx : (zs.take x).length = x := by rw [List.length_take]; omega
    have EX : min (zs.length : Int) 60 = (x : Int) := by omega
    have hxc : x ≤ c := by omega
    have hx60 : x ≤ 60 := by omega
    have hxz : x ≤ zs.length := by omega
    clear hx
    have hn3 : M3.n = m := K3.out.n
    have hc3 : M3.calls ≤ 1000 := by
      have h1 := K3.out.calls
      have e : (⟨m, fun _ => zer, [], 0, none, none, false⟩ : Dk).calls = 0 := rfl
      omega
    have m5 : ({ M3 with stop := al 0 } : Dk).n ≤ 512 := by show M3.n ≤ 512; omega
    have R5 := Lib.hid ((H.out.take x).below (A5.out.b.mono (Nat.le_refl _)))
    have hr : rf6 ⟨m / 2, m / 2, 1, 2, [[]], false⟩ (zs.take x).length (((m / 2 : Nat) : Int) - ((2 : Nat) : Int)) = 0 := rf6_fits rfl (by omega) (by
      rw [hlx]
      have : sct x ≤ 2 := by unfold sct; omega
      omega)
    have C5 := Lib.hid (append_at A (zs.take x) c A5.out (Nat.le_refl _) (S5.out.small m5) R5.out (fun y hy hA hf => by
      have h1 := rd_lt (H.out.take x) y hy hA
      have h2 := A5.out.new _ hf
      omega) (by omega) (by omega) (by show M3.calls + 1000 < _; omega))
    have e5 := apd_at_once S5.out hr rfl
    have d5 := apd_done S5.out m5 (zs := zs.take x) (H.out.2.1.take x)
    have hdown : (apd ⟨m / 2, m / 2, 1, 2, [[]], false⟩ { M3 with stop := al 0 } (zs.take x)).2.2.down = true := by
      cases d5 with
      | no h _ _ _ => exact (h hr).elim
      | ok _ e _ _ _ => omega
      | err _ _ _ s =>
        rcases s.err with ⟨_, h⟩ | ⟨h, _⟩
        · exact h
        · omega
    have hcl : (apd ⟨m / 2, m / 2, 1, 2, [[]], false⟩ { M3 with stop := al 0 } (zs.take x)).2.2.calls ≤ 2000 := by
      have e : ({ M3 with stop := al 0 } : Dk).calls = M3.calls := rfl
      cases d5 with
      | no h _ _ _ => exact (h hr).elim
      | ok _ e _ _ _ => omega
      | err _ _ _ s =>
        have := s.calls
        omega
    have hnn : (apd ⟨m / 2, m / 2, 1, 2, [[]], false⟩ { M3 with stop := al 0 } (zs.take x)).2.2.n = m := by
      cases d5 with
      | no h _ _ _ => exact (h hr).elim
      | ok _ e _ _ _ => omega
      | err _ _ _ s => exact s.n.trans hn3
    rw [hlx, e5] at C5
    generalize (apd ⟨m / 2, m / 2, 1, 2, [[]], false⟩ { M3 with stop := al 0 } (zs.take x)) = r at *
    have HD := Lib.hid (And.intro hdown (And.intro hcl hnn))
    clear hdown hcl hnn d5 e5 hr R5 m5 hc3 hn3 hlx S3 K3
    go_wp2_with fail
    refine C5.out.mono ?_
    rintro e w6 ⟨rfl, pv6, rv6, a6, _⟩
    have A6 := Lib.hid (a6.ad (Nat.le_refl _))
    clear a6 C5 A5
    have C6 := Lib.hid (open_any p k pv6 r.2.2 w6 A6.out.d (fun h => by rw [HD.out.1] at h; cases h) (fun h => by rw [HD.out.1] at h; cases h) (fun h => by rw [HD.out.1] at h; cases h) (by have := HD.out.2.1; omega))
    rw [show opn r.2.2 = (none, 9, r.2.2) by rw [opn, if_neg (by rw [HD.out.2.2]; exact h4), if_pos HD.out.1]] at C6
    go_wp2_with fail
    refine C6.out.mono ?_
    rintro e w7 ⟨pv7, rfl, d7, s7⟩
    have B7 := Lib.hid (A6.out.disk d7 s7).b
    clear d7 s7 C6
    go_wp2_with fail
    go_ret
    exact ⟨rfl, B7.out⟩
end Go.Proofs.Ytjkfgdeiciligaa
