/-
  A trie of the call's own, and what Put, Take and the others make of it; the document's examples. No condition.
-/
import Derived.Test.YtbfkpapankgndaaSem
namespace Go.Proofs.Ytbfkpapankgndaa
open Go.RowKit

/-- A trie of the call's own: what lay below B lies as it lay. -/
structure Tb (B : Nat) (w W : World) (p : Nat) (T : Tr) : Prop where
  td : Td W p T
  bel : Below B w W
  own : ∀ c, fp p T c → B ≤ c
  hB : B ≤ w.heap.size
namespace Tb
variable {B : Nat} {w W W' : World} {p : Nat} {T : Tr}
theorem below (h : Tb B w W p T) (hb : Below W.heap.size W W') : Tb B w W' p T := ⟨h.td.below hb, h.bel.trans (hb.mono (Nat.le_trans h.hB h.bel.size)), h.own, h.hB⟩
theorem step {T' : Tr} (h : Tb B w W p T) (ht : Td W' p T') (hs : Step W W' (fp p T) (fp p T')) : Tb B w W' p T' :=
  ⟨ht, h.bel.trans (hs.below (Nat.le_trans h.hB h.bel.size) h.own), fun c hc => (hs.foot c hc).elim (h.own c) (fun e => Nat.le_trans (Nat.le_trans h.hB h.bel.size) e), h.hB⟩
theorem put {x b : Int} (h : Tb B w W p T) (hr : PutR W W' p x b T) : ∃ T', Tb B w W' p T' ∧ (ent 32 0 T').Perm (if putC T x b = 0 then (x, b) :: ent 32 0 T else ent 32 0 T) := by
  obtain ⟨T', ht, hs, hp⟩ := hr
  exact ⟨T', h.step ht hs, hp⟩
theorem take {x b : Int} (h : Tb B w W p T) (hr : TakeR W W' p x b T) : ∃ T', Tb B w W' p T' ∧ (ent 32 0 T).Perm (if takeC T x b = 0 then (x, b) :: ent 32 0 T' else ent 32 0 T') := by
  obtain ⟨T', ht, hs, hp⟩ := hr
  exact ⟨T', h.step ht hs, hp⟩
end Tb
theorem td_new (w : World) : Td (w.alloc (.cells #[.pointer none, .int .i64 0] 27)) w.heap.size .e :=
  ⟨World.alloc_heap_new w _, trivial, wf_e 32, by simp [Tr.blocks], by simp [Tr.blocks], by simp [ent_e]⟩
theorem tb_new (w : World) : Tb w.heap.size w (w.alloc (.cells #[.pointer none, .int .i64 0] 27)) w.heap.size .e :=
  ⟨td_new w, (Below.refl _ w).alloc (Nat.le_refl _) _, fun c hc => by rcases hc with rfl | hc; exact Nat.le_refl _; simp [Tr.blocks] at hc, Nat.le_refl _⟩

theorem aw_1 : putC .e 167772160 8 = 0 := by decide
theorem aw_2 {T : Tr} (h : (ent 32 0 T).Perm [((167772160 : Int), (8 : Int))]) : putC T 167837696 16 = 0 := by
  have h1 : okB 167837696 16 = true := by decide
  unfold putC
  rw [if_pos h1, isIn_perm h]
  decide
theorem aw_3 {T : Tr} (h : (ent 32 0 T).Perm [((167837696 : Int), (16 : Int)), (167772160, 8)]) : lst (ovl 167838211 32 32 0 T) = (167837696, 16) ∧ anyOv T 167838211 32 = true ∧ (ent 32 0 T).length = 2 := by
  have e : ent 32 0 T = [((167772160 : Int), (8 : Int)), (167837696, 16)] := by
    refine ent_eq (h.trans (List.Perm.swap _ _ _)) ?_
    simp [Ahead]
  refine ⟨?_, ?_, by rw [e]; rfl⟩
  · unfold ovl; rw [e]; decide
  · unfold anyOv ovl; rw [e]; decide

set_option maxRecDepth 100000 in
theorem awake_any (w : World) : Calls Try.prog 8 #[] w fun e w' => e = .returned (.bool true) ∧ Below w.heap.size w w' := by
  have T0 := Lib.hid (tb_new w)
  have HP1 := Lib.hid (fun W (h : Td W w.heap.size .e) => put_any 167772160 8 w.heap.size .e W h (by omega) (by omega) (by simp [ent_e]))
  go_enter Try.func8, Try.ntmps8
  go_wp2_with fail
  refine (HP1.out _ T0.out.td).mono ?_
  rintro e w1 ⟨rfl, hr⟩
  obtain ⟨T1, h1, p1⟩ := T0.out.put hr
  rw [aw_1, if_pos rfl, ent_e] at p1
  have H1 := Lib.hid h1
  have HP2 := Lib.hid (put_any 167837696 16 w.heap.size T1 w1 h1.td (by omega) (by omega) (by rw [p1.length_eq]; decide))
  have a1 := aw_1
  have a2 := aw_2 p1
  have P1 := Lib.hid p1
  clear hr h1 p1
  rw [a1]
  go_wp2_with fail
  refine HP2.out.mono ?_
  rintro e w2 ⟨rfl, hr⟩
  obtain ⟨T2, h2, p2'⟩ := H1.out.put hr
  rw [a2, if_pos rfl] at p2'
  obtain ⟨b1, b2, b3⟩ := aw_3 (p2'.trans (P1.out.cons _))
  have H2 := Lib.hid h2
  have HL := Lib.hid (longest_any 167838211 w.heap.size T2 w2 h2.td (by omega) (by omega))
  rw [b1, b2] at HL
  clear hr h2 p2' b1 b2
  rw [a2]
  clear a1 a2
  simp only [bv] at HL
  go_wp2_with fail
  refine HL.out.mono ?_
  rintro e w3 ⟨rfl, hb⟩
  have H3 := Lib.hid (H2.out.below hb)
  clear hb
  have HN := Lib.hid (len_any (H3.out.below ((Below.refl _ _).alloc (Nat.le_refl _) (.cells #[.int .u32 167837696, .int .i64 16] 32))).td)
  rw [b3] at HN
  have H4 := Lib.hid (H3.out.below ((Below.refl _ _).alloc (Nat.le_refl _) (.cells #[.int .u32 167837696, .int .i64 16] 32))).bel
  clear b3
  go_wp2_with fail
  refine HN.out.mono ?_
  rintro e w4 ⟨rfl, rfl⟩
  go_wp2_with fail
  go_ret
  exact ⟨rfl, H4.out⟩
end Go.Proofs.Ytbfkpapankgndaa
