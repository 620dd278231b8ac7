/-
  The contract of Take: what becomes of a trie. Conditions: addresses are numbers of 32 bits.
-/
import Derived.Test.YtbfkpapankgndaaPut
namespace Go.Proofs.Ytbfkpapankgndaa
open Go.RowKit

/-- What Take tells. -/
def takeC (T : Tr) (x b : Int) : Int := if isIn T x b = true then 0 else 7
/-- What Take leaves. -/
def TakeR (w w' : World) (p : Nat) (x b : Int) (T : Tr) : Prop := ∃ T', Td w' p T' ∧ Step w w' (fp p T) (fp p T') ∧ (ent 32 0 T).Perm (if takeC T x b = 0 then (x, b) :: ent 32 0 T' else ent 32 0 T')

set_option maxRecDepth 100000 in
theorem take_any (x b : Int) (p : Nat) (T : Tr) (w : World) (hT : Td w p T) (hx0 : 0 ≤ x) (hx1 : x < 4294967296) :
    Calls Try.prog 11 #[.pointer (some ⟨p, 0, none⟩), .agg #[.int .u32 x, .int .i64 b]] w fun e w' => e = .returned (.int .i64 (takeC T x b)) ∧ TakeR w w' p x b T := by
  have k0 := (boxed x b w).1
  have k1 := (boxed x b w).2
  have hs0 : w.heap.size < (w.alloc (.cells #[.int .u32 x, .int .i64 b] 32)).heap.size := by simp
  have hB0 : Below w.heap.size w (w.alloc (.cells #[.int .u32 x, .int .i64 b] 32)) := (Below.refl _ w).alloc (Nat.le_refl _) _
  have HB := Lib.hid hB0
  cases hin : isIn T x b
  · have HC := Lib.hid (show takeC T x b = 7 by simp [takeC, hin])
    have HH := Lib.hid ((by have := has9_any x b (hT.below hB0) hx0 hx1; rwa [hin] at this : Calls Try.prog 10 #[.pointer (some ⟨p, 0, none⟩), .agg #[.int .u32 x, .int .i64 b]] (w.alloc (.cells #[.int .u32 x, .int .i64 b] 32)) fun e w' => e = .returned (.bool false) ∧ Below (w.alloc (.cells #[.int .u32 x, .int .i64 b] 32)).heap.size (w.alloc (.cells #[.int .u32 x, .int .i64 b] 32)) w'))
    have HT := Lib.hid hT
    clear hT hin hB0 hs0
    go_enter Try.func11, Try.ntmps11
    go_wp2_with fail
    refine HH.out.mono ?_
    rintro e w2 ⟨rfl, hb⟩
    have HB2 := Lib.hid (HB.out.trans (hb.mono HB.out.size))
    clear hb
    go_wp2_with fail
    go_ret
    exact ⟨by rw [HC.out]; rfl, T, HT.out.below HB2.out, Step.of_below HB2.out _, by rw [HC.out]; simp⟩
  · have hok : okB x b = true := by
      cases h : okB x b
      · rw [in_ok h] at hin; cases hin
      · rfl
    have HC := Lib.hid (show takeC T x b = 0 by simp [takeC, hin])
    have HH := Lib.hid ((by have := has9_any x b (hT.below hB0) hx0 hx1; rwa [hin] at this : Calls Try.prog 10 #[.pointer (some ⟨p, 0, none⟩), .agg #[.int .u32 x, .int .i64 b]] (w.alloc (.cells #[.int .u32 x, .int .i64 b] 32)) fun e w' => e = .returned (.bool true) ∧ Below (w.alloc (.cells #[.int .u32 x, .int .i64 b] 32)).heap.size (w.alloc (.cells #[.int .u32 x, .int .i64 b] 32)) w'))
    have HS := Lib.hid fun (W : World) (h : Td W p T) => set9_any x b false p T W h hx0 hx1 hok
    have HM := Lib.hid fun (T' : Tr) (h : Upd x b false (ent 32 0 T) (ent 32 0 T')) => upd_less h hin
    have HT := Lib.hid hT
    have hfew := hT.few
    clear hok hT hin hB0
    go_enter Try.func11, Try.ntmps11
    go_wp2_with fail
    refine HH.out.mono ?_
    rintro e w2 ⟨rfl, hb⟩
    have HB2 := Lib.hid (HB.out.trans (hb.mono HB.out.size))
    obtain ⟨hc, hf⟩ := bcell hb
    have k0' := (hc _ 0 hs0).trans k0
    have k1' := (hc _ 1 hs0).trans k1
    clear hb hc hf k0 k1
    go_wp2_with fail
    refine (HS.out _ (HT.out.below HB2.out)).mono ?_
    rintro e w3 ⟨T', rfl, hs⟩
    have hl := (HM.out T' hs.upd).length_eq
    rw [List.length_cons] at hl
    have c1 : w3.cell? ⟨p, 1, none⟩ = some (.int .i64 ((ent 32 0 T).length : Int)) := by simp [World.cell?, hs.blk]
    have f1 : w3.frozen? ⟨p, 1, none⟩ = false := by simp [World.frozen?, hs.blk]
    have HE := Lib.hid (td_count hs (by omega))
    have HW := Lib.hid (((Step.of_below HB2.out (fp p T)).trans hs.step).setCell (a := ⟨p, 1, none⟩) (.inl rfl) (.int .i64 ((ent 32 0 T').length : Int)))
    have HP := Lib.hid (HM.out T' hs.upd)
    have hw : wrap64 (((ent 32 0 T).length : Int) - 1) = (ent 32 0 T').length := by unfold wrap64; omega
    clear hs
    generalize hN : (ent 32 0 T).length = N at *
    generalize hN' : (ent 32 0 T').length = N' at *
    clear hl hfew
    go_wp2_with fail
    go_ret
    exact ⟨by rw [HC.out]; rfl, T', HE.out, HW.out, by rw [HC.out]; exact HP.out⟩
end Go.Proofs.Ytbfkpapankgndaa
