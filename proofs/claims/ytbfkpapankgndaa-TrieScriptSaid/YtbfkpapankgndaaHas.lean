/-
  The contracts of Len and Has, for whatever trie. Conditions: addresses are numbers of 32 bits.
-/
import Derived.Test.YtbfkpapankgndaaMem
namespace Go.Proofs.Ytbfkpapankgndaa
open Go.RowKit

/-- A prefix that is there. -/
def isIn (T : Tr) (x b : Int) : Bool := decide ((x, b) ∈ ent 32 0 T)

theorem len_any {w : World} {p : Nat} {T : Tr} (h : Td w p T) : Calls Try.prog 18 #[.pointer (some ⟨p, 0, none⟩)] w fun e w' => e = .returned (.int .i64 ((ent 32 0 T).length : Int)) ∧ w' = w := by
  have h1 := h.c1
  go_enter Try.func18, Try.ntmps18
  go_wp2_with fail
  go_ret
  exact ⟨rfl, rfl⟩

theorem in_ok {T : Tr} {x b : Int} (h : okB x b = false) : isIn T x b = false := by
  unfold isIn
  rw [decide_eq_false_iff_not]
  intro hm
  have := ent_ok (n := 32) (by omega) (by simp) hm
  rw [h] at this
  cases this
theorem in_kept {T : Tr} {x : Int} {m : Nat} (hx0 : 0 ≤ x) (hx1 : x < 4294967296) (h : okB x m = true) : isIn T x m = kept m 32 x T := by
  obtain ⟨_, h1, h2⟩ := ok_out h
  rw [p2_two (m := 32 - m) (by omega)] at h2
  have := kept_iff 32 m 0 x T (by omega) (by omega) (by simp) hx0 (by simpa using hx1) h2
  rw [show (32 : Int) - ((32 : Nat) : Int) + (m : Int) = m by omega] at this
  unfold isIn
  rw [Bool.eq_iff_iff, decide_eq_true_iff]
  exact this.symm

theorem has9_any {w : World} {p : Nat} {T : Tr} (x b : Int) (hT : Td w p T) (hx0 : 0 ≤ x) (hx1 : x < 4294967296) :
    Calls Try.prog 10 #[.pointer (some ⟨p, 0, none⟩), .agg #[.int .u32 x, .int .i64 b]] w fun e w' => e = .returned (.bool (isIn T x b)) ∧ Below w.heap.size w w' := by
  have H0 := Lib.hid (Below.refl w.heap.size w)
  cases hok : okB x b
  · have HF := Lib.hid (in_ok (T := T) hok)
    have HR := Lib.hid fun W => right_no x b W hx0 hx1 hok
    clear hok
    go_enter Try.func10, Try.ntmps10
    go_wp2_with fail
    refine (HR.out _).mono ?_
    rintro e w1 ⟨rfl, hb⟩
    have HB := Lib.hid (below_box1 _ _ _ _ hb)
    clear hb
    go_wp2_with fail
    go_ret
    exact ⟨by rw [HF.out]; rfl, HB.out⟩
  · obtain ⟨m, rfl⟩ : ∃ m : Nat, b = (m : Int) := ⟨b.toNat, by have := (ok_out hok).1; omega⟩
    have hm : m ≤ 32 := by have := (ok_out hok).2.1; omega
    have HK := Lib.hid (in_kept (T := T) hx0 hx1 hok)
    have HR := Lib.hid fun W => right_yes x m W hx0 hx1 hok
    clear hok
    go_enter Try.func10, Try.ntmps10
    go_wp2_with fail
    refine (HR.out _).mono ?_
    rintro e w1 ⟨rfl, hb⟩
    have hlt : w.heap.size < w1.heap.size := by have := hb.size; simp at this; omega
    have HB := Lib.hid (below_box1 _ _ _ _ hb)
    obtain ⟨hc, hf⟩ := bcell hb
    have k0 : w1.cell? ⟨w.heap.size, 0, none⟩ = some (.int .u32 x) := (hc _ 0 (by simp)).trans (boxed x m w).1
    have k1 : w1.cell? ⟨w.heap.size, 1, none⟩ = some (.int .i64 m) := (hc _ 1 (by simp)).trans (boxed x m w).2
    have T1 := hT.below HB.out
    have c0 := T1.c0
    obtain ⟨pv, hpv⟩ : ∃ v, v = T.ptr := ⟨_, rfl⟩
    rw [← hpv] at c0
    have HV := Lib.hid hpv
    have HT := Lib.hid T1.hd
    clear hb hc hf T1 hT hpv
    generalize hN : w.heap.size = N at *
    go_wp2_with fail
    go_loopg [5, 6] m (fun g v i wr => ∃ (d : Nat) (U : Tr), d + g = m ∧ i = .int .i64 (d : Int) ∧ v = U.ptr ∧ wr.cell? ⟨N, 0, none⟩ = some (.int .u32 x) ∧ wr.cell? ⟨N, 1, none⟩ = some (.int .i64 m) ∧ Hid (Hd wr U ∧ kept g (32 - d) x U = isIn T x m ∧ Below N w wr))
    case atStart => exact ⟨0, T, by omega, rfl, HV.out, k0, k1, Lib.hid ⟨HT.out, HK.out.symm, HB.out⟩⟩
    case round =>
      obtain ⟨d, U, hd, rfl, rfl, c0, c1, HH⟩ := hrel
      clear k0 k1 HT HV
      cases U with
      | e =>
        have HE := Lib.hid (show isIn T x m = false by rw [← HH.out.2.1, kept_e])
        simp only [Tr.ptr]
        go_wp2_with fail
        go_ret
        exact ⟨by rw [HE.out]; rfl, by rw [hN]; exact HH.out.2.2⟩
      | nd bk k l r =>
        have d0 : wr.cell? ⟨bk, 0, none⟩ = some l.ptr := by simp [World.cell?, HH.out.1.1]
        have d1 : wr.cell? ⟨bk, 1, none⟩ = some r.ptr := by simp [World.cell?, HH.out.1.1]
        have d2 : wr.cell? ⟨bk, 2, none⟩ = some (.bool k) := by simp [World.cell?, HH.out.1.1]
        simp only [Tr.ptr]
        match gk with
        | 0 =>
          obtain rfl : d = m := by omega
          have HE := Lib.hid (show isIn T x d = k from HH.out.2.1.symm)
          go_wp2_with fail
          go_ret
          exact ⟨by rw [HE.out]; rfl, by rw [hN]; exact HH.out.2.2⟩
        | g + 1 =>
          have hlt2 : (d : Int) < m := by omega
          have hd31 : d ≤ 31 := by omega
          have HB2 : ∀ t : Int, x / 2 ^ (31 - d) % 2 = t → Hid (∀ W, Calls Try.prog 25 #[.int .u32 x, .int .i64 d] W fun e w' => e = .returned (.int .i64 t) ∧ w' = W) := fun t ht => Lib.hid fun W => bit_any x d t W hx0 hx1 (by omega) (by omega) (by rw [show (31 - (d : Int)).toNat = 31 - d by omega]; exact ht)
          by_cases hz : x / 2 ^ (31 - d) % 2 = 0
          · have HQ := HB2 0 hz
            have HE := Lib.hid (show kept g (32 - (d + 1)) x l = isIn T x m by
              have := HH.out.2.1
              rw [kept, show 32 - d - 1 = 31 - d by omega, if_pos hz] at this
              rwa [show 32 - (d + 1) = 31 - d by omega])
            clear HB2 hz
            go_upto_region 7 with fail
            go_quiet ((go_at_call 25; exact Calls.quiet_of_same (HQ.out _)))
            go_wp2_with fail
            go_roundg g
            case measure => omega
            case rel => exact ⟨d + 1, l, by omega, by simp, rfl, c0, c1, Lib.hid ⟨HH.out.1.2.1.keep fun _ _ => rfl, HE.out, bdrewN HH.out.2.2 _⟩⟩
          · have hz1 : x / 2 ^ (31 - d) % 2 = 1 := by omega
            have HQ := HB2 1 hz1
            have HE := Lib.hid (show kept g (32 - (d + 1)) x r = isIn T x m by
              have := HH.out.2.1
              rw [kept, show 32 - d - 1 = 31 - d by omega, if_neg hz] at this
              rwa [show 32 - (d + 1) = 31 - d by omega])
            clear HB2 hz hz1
            go_upto_region 7 with fail
            go_quiet ((go_at_call 25; exact Calls.quiet_of_same (HQ.out _)))
            go_wp2_with fail
            go_roundg g
            case measure => omega
            case rel => exact ⟨d + 1, r, by omega, by simp, rfl, c0, c1, Lib.hid ⟨HH.out.1.2.2.keep fun _ _ => rfl, HE.out, bdrewN HH.out.2.2 _⟩⟩
end Go.Proofs.Ytbfkpapankgndaa
