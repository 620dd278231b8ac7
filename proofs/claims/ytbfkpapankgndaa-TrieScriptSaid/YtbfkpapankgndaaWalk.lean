/-
  The closure that walks a trie's nodes and hands on each prefix that overlaps one: from whatever node, for every loop body that keeps what is not its own. Conditions: addresses are numbers of 32 bits.
-/
import Derived.Test.YtbfkpapankgndaaKv
namespace Go.Proofs.Ytbfkpapankgndaa
open Go.RowKit

attribute [local go_sem] Oper.semAt_some

def bv (y : Int × Int) : Value := .agg #[.int .u32 y.1, .int .i64 y.2]
/-- A round: it goes on, or has said 'no more'. -/
def Rounds (l b1 b2 N : Nat) (J Jx : List (Int × Int) → World → Prop) : Prop :=
  ∀ pre y W, J pre W → pre.length < N → YieldAt Fence.wide 0 Try.prog l #[bv y] W fun e W' =>
    (e = .returned (.bool true) ∧ J (pre ++ [y]) W' ∧ Kv b1 b2 W W') ∨ (e = .returned (.bool false) ∧ Jx (pre ++ [y]) W')
/-- What a walk over these prefixes comes to. -/
def Walked (b1 b2 : Nat) (J Jx : List (Int × Int) → World → Prop) (pre ys : List (Int × Int)) (W : World) : Ending → World → Prop := fun e W' =>
  (e = .returned (.bool true) ∧ J (pre ++ ys) W' ∧ Kv b1 b2 W W') ∨ (e = .returned (.bool false) ∧ ∃ q, q <+: ys ∧ Jx (pre ++ q) W')

set_option maxRecDepth 100000 in
/-- Where there is no node. -/
theorem walk_e (b1 b2 : Nat) (J Jx : List (Int × Int) → World → Prop) (jb : ∀ s A B, J s A → Below A.heap.size A B → J s B) (u v : Int) (z1 z2 z3 : Value) (pre : List (Int × Int)) (W : World) (hb1 : b1 < W.heap.size) (hJ : J pre W) :
    CallsIn Fence.wide 0 Try.prog 34 #[.pointer none, .agg #[.int .u32 u, .int .i64 v], z1, z2, z3] W (Walked b1 b2 J Jx pre [] W) := by
  have HB : Below W.heap.size W (W.alloc (.cells #[.int .u32 u, .int .i64 v] 32)) := (Below.refl _ _).alloc (Nat.le_refl _) _
  have HE := Lib.hid (show Walked b1 b2 J Jx pre [] W (.returned (.bool true)) (W.alloc (.cells #[.int .u32 u, .int .i64 v] 32)) from .inl ⟨rfl, by rw [List.append_nil]; exact jb _ _ _ hJ HB, .of_below HB hb1⟩)
  clear HB hJ
  refine callsIn_of_wp Try.func34 rfl trivial ?_
  simp only [Try.ntmps34, List.size_toArray, List.length_cons, List.length_nil, Nat.reduceAdd, Nat.reduceSub, Array.replicate_succ, Array.replicate_zero, List.push_toArray, List.append_toArray, List.nil_append, List.cons_append]
  gi_wp2_with fail
  refine ⟨trivial, ?_⟩
  gi_wp2_with fail
  go_ret
  exact HE.out

set_option maxRecDepth 100000 in
/-- A node whose prefix does not overlap. -/
theorem walk_off (l b1 b2 : Nat) (J Jx : List (Int × Int) → World → Prop) (jb : ∀ s A B, J s A → Below A.heap.size A B → J s B) (x b a d : Int) (Bb Y V : Nat) (U : Tr) (bn : Nat) (pre : List (Int × Int)) (W : World)
    (ha0 : 0 ≤ a) (ha1 : a < 4294967296) (hx0 : 0 ≤ x) (hx1 : x < 4294967296) (hW : Wi l b1 b2 x b Bb Y V W U) (hJ : J pre W) (hov : overB a d x b = false) :
    CallsIn Fence.wide 0 Try.prog 34 #[.pointer (some ⟨bn, 0, none⟩), .agg #[.int .u32 a, .int .i64 d], .pointer (some ⟨Bb, 0, none⟩), .pointer (some ⟨Y, 0, none⟩), .pointer (some ⟨V, 0, none⟩)] W (Walked b1 b2 J Jx pre [] W) := by
  have HB : Below W.heap.size W (W.alloc (.cells #[.int .u32 a, .int .i64 d] 32)) := (Below.refl _ _).alloc (Nat.le_refl _) _
  obtain ⟨c0, c1, _, _⟩ := (hW.below HB).cells
  have HO := Lib.hid fun W' => callsIn_wide (n := 0).2 (overlap_eq a d x b false W' ha0 ha1 hx0 hx1 hov)
  have HE := Lib.hid (fun (W' : World) (h : Below (W.alloc (.cells #[.int .u32 a, .int .i64 d] 32)).heap.size (W.alloc (.cells #[.int .u32 a, .int .i64 d] 32)) W') =>
    (show Walked b1 b2 J Jx pre [] W (.returned (.bool true)) W' from .inl ⟨rfl, by rw [List.append_nil]; exact jb _ _ _ hJ (HB.trans (h.mono HB.size)), .of_below (HB.trans (h.mono HB.size)) hW.b1lt⟩))
  clear hJ hov hW HB
  refine callsIn_of_wp Try.func34 rfl trivial ?_
  simp only [Try.ntmps34, List.size_toArray, List.length_cons, List.length_nil, Nat.reduceAdd, Nat.reduceSub, Array.replicate_succ, Array.replicate_zero, List.push_toArray, List.append_toArray, List.nil_append, List.cons_append]
  gi_wp2_with ((first | refine ⟨trivial, rfl, ?_⟩ | refine ⟨rfl, ?_⟩); gi_at_call 15; refine (HO.out _).mono ?_; rintro e w1 ⟨rfl, hb⟩; (have HB1 := Lib.hid hb); clear hb)
  go_ret
  exact HE.out _ HB1.out

set_option maxRecDepth 100000 in
set_option maxHeartbeats 2000000 in
/-- A node whose prefix overlaps. -/
theorem walk_on (l b1 b2 N : Nat) (J Jx : List (Int × Int) → World → Prop) (jb : ∀ s A B, J s A → Below A.heap.size A B → J s B) (hY : Rounds l b1 b2 N J Jx) (x b a d la ld ra rd : Int) (t : Bool) (Bb Y V bn : Nat) (k : Bool) (tl tr : Tr)
    (ol or : List (Int × Int)) (pre : List (Int × Int)) (W : World)
    (ha0 : 0 ≤ a) (ha1 : a < 4294967296) (hx0 : 0 ≤ x) (hx1 : x < 4294967296) (hW : Wi l b1 b2 x b Bb Y V W (.nd bn k tl tr)) (hJ : J pre W) (hov : overB a d x b = true)
    (hN : pre.length + ((if k = true then [(a, d)] else []) ++ (ol ++ or)).length ≤ N)
    (HH : ∀ W, Calls Try.prog 22 #[.agg #[.int .u32 a, .int .i64 d]] W fun e w' => e = .returned (.tuple #[.agg #[.int .u32 la, .int .i64 ld], .agg #[.int .u32 ra, .int .i64 rd], .bool t]) ∧ Below W.heap.size W w')
    (HL : ∀ p' W', Wi l b1 b2 x b Bb Y V W' tl → J p' W' → p'.length + ol.length ≤ N → CallsIn Fence.wide 0 Try.prog 34 #[tl.ptr, .agg #[.int .u32 la, .int .i64 ld], .pointer (some ⟨Bb, 0, none⟩), .pointer (some ⟨Y, 0, none⟩), .pointer (some ⟨V, 0, none⟩)] W' (Walked b1 b2 J Jx p' ol W'))
    (HR : ∀ p' W', Wi l b1 b2 x b Bb Y V W' tr → J p' W' → p'.length + or.length ≤ N → CallsIn Fence.wide 0 Try.prog 34 #[tr.ptr, .agg #[.int .u32 ra, .int .i64 rd], .pointer (some ⟨Bb, 0, none⟩), .pointer (some ⟨Y, 0, none⟩), .pointer (some ⟨V, 0, none⟩)] W' (Walked b1 b2 J Jx p' or W')) :
    CallsIn Fence.wide 0 Try.prog 34 #[.pointer (some ⟨bn, 0, none⟩), .agg #[.int .u32 a, .int .i64 d], .pointer (some ⟨Bb, 0, none⟩), .pointer (some ⟨Y, 0, none⟩), .pointer (some ⟨V, 0, none⟩)] W
      (Walked b1 b2 J Jx pre ((if k = true then [(a, d)] else []) ++ (ol ++ or)) W) := by
  have HB : Below W.heap.size W (W.alloc (.cells #[.int .u32 a, .int .i64 d] 32)) := (Below.refl _ _).alloc (Nat.le_refl _) _
  have hW1 := hW.below HB
  obtain ⟨c0, c1, c2, c3⟩ := hW1.cells
  obtain ⟨⟨n0, n1, n2⟩, _⟩ := nd_cells hW1.hd
  have HO := Lib.hid fun W' => callsIn_wide (n := 0).2 (overlap_eq a d x b true W' ha0 ha1 hx0 hx1 hov)
  have hn0 : (W.alloc (.cells #[.int .u32 a, .int .i64 d] 32)).heap[W.heap.size]? = some (.cells #[.int .u32 a, .int .i64 d] 32 (0, 0)) := World.alloc_heap_new W _
  have HHH := Lib.hid fun W => callsIn_wide (n := 0).2 (HH W)
  have HHL := Lib.hid HL
  have HHR := Lib.hid HR
  have HHY := Lib.hid hY
  have HW := Lib.hid hW
  have HJ := Lib.hid hJ
  have HN := Lib.hid hN
  have HBB := Lib.hid HB
  have HN0 := Lib.hid hn0
  clear HH HL HR hY hW hJ hov hW1 HB hn0 hN
  cases k with
  | false =>
    rw [show (if false = true then [(a, d)] else []) = ([] : List (Int × Int)) from rfl] at HN ⊢
    refine callsIn_of_wp Try.func34 rfl trivial ?_
    simp only [Try.ntmps34, List.size_toArray, List.length_cons, List.length_nil, Nat.reduceAdd, Nat.reduceSub, Array.replicate_succ, Array.replicate_zero, List.push_toArray, List.append_toArray, List.nil_append, List.cons_append]
    gi_wp2_with fail
    refine ⟨trivial, rfl, ?_⟩
    refine (HO.out _).mono ?_
    rintro e w1 ⟨rfl, hb⟩
    have HB1 := Lib.hid (HBB.out.trans (hb.mono HBB.out.size))
    have HW1 := Lib.hid (HW.out.below HB1.out)
    obtain ⟨⟨n0, n1, n2⟩, _⟩ := nd_cells HW1.out.hd
    have HN1 := Lib.hid ((hb.block W.heap.size (by simp)).trans HN0.out)
    have m0 : w1.cell? ⟨W.heap.size, 0, none⟩ = some (.int .u32 a) := by simp [World.cell?, HN1.out]
    have m1 : w1.cell? ⟨W.heap.size, 1, none⟩ = some (.int .i64 d) := by simp [World.cell?, HN1.out]
    have hs1 : W.heap.size < w1.heap.size := (Array.getElem?_eq_some_iff.1 HN1.out).1
    clear hb c0 c1 c2 c3
    have HJ1 := Lib.hid (jb _ _ _ HJ.out HB1.out)
    have HK1 := Lib.hid (Kv.of_below (b2 := b2) HB1.out HW.out.b1lt)
    gi_wp2_with fail
    refine ⟨fun _ h => (by cases h), ?_⟩
    gi_wp2_with fail
    refine ⟨trivial, rfl, ?_⟩
    refine (HHH.out _).mono ?_
    rintro e w2 ⟨rfl, hb⟩
    have HB2 := Lib.hid hb
    clear hb
    gi_upto_region 6 with fail
    obtain ⟨W5, hW5⟩ : ∃ W5, (w2.alloc (.cells #[.int .u32 la, .int .i64 ld] 32)).alloc (.cells #[.int .u32 ra, .int .i64 rd] 32) = W5 := ⟨_, rfl⟩
    have hB5 : Below w1.heap.size w1 W5 := by
      rw [← hW5]
      exact (HB2.out.alloc HB2.out.size _).alloc (by have := HB2.out.size; simp; omega) _
    have h8 : W5.heap[w2.heap.size]? = some (.cells #[.int .u32 la, .int .i64 ld] 32 (0, 0)) := by
      rw [← hW5, Below.heap_alloc _ _ _ (by simp)]
      exact World.alloc_heap_new w2 _
    have h9 : W5.heap[w2.heap.size + 1]? = some (.cells #[.int .u32 ra, .int .i64 rd] 32 (0, 0)) := by
      rw [← hW5]
      have := World.alloc_heap_new (w2.alloc (.cells #[.int .u32 la, .int .i64 ld] 32)) (.cells #[.int .u32 ra, .int .i64 rd] 32)
      rwa [World.size_alloc] at this
    have hWn : Wi l b1 b2 x b Bb Y V w1 (.nd bn false tl tr) := HW.out.kv HK1.out
    have hv9 : ¬ Vx b1 b2 W5.drew (w2.heap.size + 1) := fun hv => by
      have h1 : Vx b1 b2 W5 (w2.heap.size + 1) := hv
      have := hWn.vb _ ((vx_below hB5 hWn.b1lt _).1 h1)
      have := HB2.out.size
      omega
    rw [hW5]
    generalize w2.heap.size + 1 = N9 at *
    generalize w2.heap.size = N8 at *
    clear hW5 HB2
    have hW5 := hWn.below hB5
    have hWd : Wi l b1 b2 x b Bb Y V W5.drew (.nd bn false tl tr) := ⟨hW5.bb, hW5.yy, hW5.vv, hW5.hd.keep fun _ _ => rfl, hW5.fb, hW5.fy, hW5.fv, hW5.fu, hW5.vb⟩
    have hJ5 := jb _ _ _ (jb _ _ _ HJ1.out hB5) (Below.refl _ W5).drew
    have HK5 := Lib.hid ((HK1.out.trans (.of_below hB5 hWn.b1lt)).trans (.of_below (Below.refl _ W5).drew hW5.b1lt))
    obtain ⟨c0, c1, c2, c3⟩ := hW5.cells
    obtain ⟨⟨n0, n1, n2⟩, _⟩ := nd_cells hW5.hd
    have m0 : W5.cell? ⟨N8, 0, none⟩ = some (.int .u32 la) := by simp [World.cell?, h8]
    have m1 : W5.cell? ⟨N8, 1, none⟩ = some (.int .i64 ld) := by simp [World.cell?, h8]
    have HCL := Lib.hid ((HHL.out pre W5.drew hWd.left hJ5 (by have := HN.out; simp at this ⊢; omega)).mono (R' := fun e W6 =>
        (e = .returned (.bool true) ∧ Hid (J (pre ++ ol) W6 ∧ Kv b1 b2 W W6 ∧ Wi l b1 b2 x b Bb Y V W6 (.nd bn false tl tr)) ∧ W6.cell? ⟨V, 0, none⟩ = some (.func (.func 34) #[] #[.pointer (some ⟨Bb, 0, none⟩), .pointer (some ⟨Y, 0, none⟩), .pointer (some ⟨V, 0, none⟩)]) ∧
          W6.cell? ⟨bn, 1, none⟩ = some tr.ptr ∧ W6.cell? ⟨N9, 0, none⟩ = some (.int .u32 ra) ∧ W6.cell? ⟨N9, 1, none⟩ = some (.int .i64 rd)) ∨
        (e = .returned (.bool false) ∧ Hid (∃ q, q <+: ol ∧ Jx (pre ++ q) W6)))
      (fun e W6 h => h.elim (fun ⟨he, hj, hk⟩ => by
          have hw6 := hWd.kv hk
          have h96 : W6.heap[N9]? = some (.cells #[.int .u32 ra, .int .i64 rd] 32 (0, 0)) := hk.same N9 _ h9 rfl hv9
          exact .inl ⟨he, Lib.hid ⟨hj, HK5.out.trans hk, hw6⟩, hw6.cells.2.2.2, (nd_cells hw6.hd).1.2.1, by simp [World.cell?, h96], by simp [World.cell?, h96]⟩) (fun ⟨he, hq⟩ => .inr ⟨he, Lib.hid hq⟩)))
    clear h8 h9 hv9 hWn hW5 hWd hJ5 hB5 c0 c1 c2 n2
    refine wpIn_region_mx (fun i => i == 7 || i == 8 || i == 16 || i == 17 || i == 18) rfl (by kernel_rfl) ?_
    refine at_quiet (by kernel_rfl) [0, 1, 2, 3, 4, 5, 6] 12 _ _ (by kernel_rfl) ?_
    simp only [opsAt, List.getElem?_toArray, List.getElem?_cons_zero, List.getElem?_cons_succ, Option.toList_some, List.cons_append, List.nil_append]
    repeat (gi_big_quiet_step (fail))
    refine wpQuietIn_nil ?_
    refine at_solo [7, 8] 10 _ _ _ (by kernel_rfl) ?_
    simp only [opsAt, List.getElem?_toArray, List.getElem?_cons_zero, List.getElem?_cons_succ, Option.toList_some, List.cons_append, List.nil_append]
    clear n0 n1 m0 m1
    gi_wp2_with ((first | refine ⟨trivial, rfl, ?_⟩ | refine ⟨rfl, ?_⟩); gi_at_call 34; refine HCL.out.mono ?_; clear HCL; rintro e W6 (⟨rfl, h6, c3', n1', m0', m1'⟩ | ⟨rfl, hx⟩))
    · refine at_quiet (by kernel_rfl) [9, 10, 11, 12, 13, 14, 15] 3 _ _ (by kernel_rfl) ?_
      simp only [opsAt, List.getElem?_toArray, List.getElem?_cons_zero, List.getElem?_cons_succ, Option.toList_some, List.cons_append, List.nil_append]
      repeat (gi_big_quiet_step (fail))
      refine wpQuietIn_nil ?_
      refine at_last [16, 17, 18] _ _ _ (by kernel_rfl) (by kernel_rfl) ?_
      simp only [opsAt, List.getElem?_toArray, List.getElem?_cons_zero, List.getElem?_cons_succ, Option.toList_some, List.cons_append, List.nil_append]
      have HCR := Lib.hid (HHR.out (pre ++ ol) W6 h6.out.2.2.right h6.out.1 (by have := HN.out; simp at this ⊢; omega))
      clear c3' n1' m0' m1'
      gi_wp2_with ((first | refine ⟨trivial, rfl, ?_⟩ | refine ⟨rfl, ?_⟩); gi_at_call 34; refine HCR.out.mono ?_; clear HCR; rintro e W7 (⟨rfl, hj7, hk7⟩ | ⟨rfl, q, ⟨r, hq⟩, hx⟩))
      · have HE := Lib.hid (show Walked b1 b2 J Jx pre ([] ++ (ol ++ or)) W (.returned (.bool true)) W7 from .inl ⟨rfl, by simpa [List.append_assoc] using hj7, h6.out.2.1.trans hk7⟩)
        clear hj7 hk7
        gi_wp2_with fail
        go_ret
        exact HE.out
      · have HE := Lib.hid (show Walked b1 b2 J Jx pre ([] ++ (ol ++ or)) W (.returned (.bool false)) W7 from .inr ⟨rfl, [] ++ (ol ++ q), ⟨r, by simp [← hq, List.append_assoc]⟩, by simpa [List.append_assoc] using hx⟩)
        clear hx hq
        gi_wp2_with fail
        go_ret
        exact HE.out
    · obtain ⟨q, ⟨r, hq⟩, hx'⟩ := hx.out
      have HE := Lib.hid (show Walked b1 b2 J Jx pre ([] ++ (ol ++ or)) W (.returned (.bool false)) W6 from .inr ⟨rfl, [] ++ q, ⟨r ++ or, by simp [← hq, List.append_assoc]⟩, by simpa [List.append_assoc] using hx'⟩)
      clear hx hx' hq
      refine at_quiet (by kernel_rfl) [9, 10, 11, 12, 13, 14, 15] 3 _ _ (by kernel_rfl) ?_
      simp only [opsAt, List.getElem?_toArray, List.getElem?_cons_zero, List.getElem?_cons_succ, Option.toList_some, List.cons_append, List.nil_append]
      repeat (gi_big_quiet_step (fail))
      refine wpQuietIn_nil ?_
      refine at_last [16, 17, 18] _ _ _ (by kernel_rfl) (by kernel_rfl) ?_
      simp only [opsAt, List.getElem?_toArray, List.getElem?_cons_zero, List.getElem?_cons_succ, Option.toList_some, List.cons_append, List.nil_append]
      gi_wp2_with fail
      refine ⟨fun _ h => (by cases h), ?_⟩
      gi_wp2_with fail
      go_ret
      exact HE.out
  | true =>
    rw [show (if true = true then [(a, d)] else []) = [(a, d)] from rfl] at HN ⊢
    refine callsIn_of_wp Try.func34 rfl trivial ?_
    simp only [Try.ntmps34, List.size_toArray, List.length_cons, List.length_nil, Nat.reduceAdd, Nat.reduceSub, Array.replicate_succ, Array.replicate_zero, List.push_toArray, List.append_toArray, List.nil_append, List.cons_append]
    gi_wp2_with fail
    refine ⟨trivial, rfl, ?_⟩
    refine (HO.out _).mono ?_
    rintro e w1 ⟨rfl, hb⟩
    have HB1 := Lib.hid (HBB.out.trans (hb.mono HBB.out.size))
    have HW1 := Lib.hid (HW.out.below HB1.out)
    obtain ⟨⟨n0, n1, n2⟩, _⟩ := nd_cells HW1.out.hd
    have HN1 := Lib.hid ((hb.block W.heap.size (by simp)).trans HN0.out)
    have m0 : w1.cell? ⟨W.heap.size, 0, none⟩ = some (.int .u32 a) := by simp [World.cell?, HN1.out]
    have m1 : w1.cell? ⟨W.heap.size, 1, none⟩ = some (.int .i64 d) := by simp [World.cell?, HN1.out]
    have hs1 : W.heap.size < w1.heap.size := (Array.getElem?_eq_some_iff.1 HN1.out).1
    obtain ⟨_, _, c2, _⟩ := HW1.out.cells
    have HJ0 := Lib.hid (jb _ _ _ HJ.out HB1.out)
    have HK0 := Lib.hid (Kv.of_below (b2 := b2) HB1.out HW.out.b1lt)
    obtain ⟨fn, tmps, assign, body, hy, hR⟩ := HHY.out pre (a, d) w1 HJ0.out (by have := HN.out; simp at this; omega)
    simp only [bv] at hy
    have HR := Lib.hid hR
    clear hb c0 c1 c3 hR
    gi_wp2_with fail
    first | refine ⟨trivial, rfl, ?_⟩ | refine ⟨rfl, ?_⟩ | skip
    refine HR.out.mono ?_
    rintro e w3 (⟨rfl, hJ1, hk1⟩ | ⟨rfl, hx⟩)
    rotate_left
    · have HE := Lib.hid (show Walked b1 b2 J Jx pre ([(a, d)] ++ (ol ++ or)) W (.returned (.bool false)) w3 from .inr ⟨rfl, [(a, d)], ⟨ol ++ or, rfl⟩, hx⟩)
      clear hx
      gi_wp2_with fail
      go_ret
      exact HE.out
    have HJ1 := Lib.hid hJ1
    have HK1 := Lib.hid (HK0.out.trans hk1)
    have hn3 : w3.heap[W.heap.size]? = some (.cells #[.int .u32 a, .int .i64 d] 32 (0, 0)) := HW.out.own HB1.out (Nat.le_refl _) HN1.out rfl hk1
    have m0' : w3.cell? ⟨W.heap.size, 0, none⟩ = some (.int .u32 a) := by simp [World.cell?, hn3]
    have m1' : w3.cell? ⟨W.heap.size, 1, none⟩ = some (.int .i64 d) := by simp [World.cell?, hn3]
    clear hJ1 hk1 hn3 m0 m1 n0 n1 n2 c2 hy
    gi_wp2_with fail
    refine ⟨trivial, rfl, ?_⟩
    refine (HHH.out _).mono ?_
    rintro e w2 ⟨rfl, hb⟩
    have HB2 := Lib.hid hb
    clear hb
    gi_upto_region 6 with fail
    obtain ⟨W5, hW5⟩ : ∃ W5, (w2.alloc (.cells #[.int .u32 la, .int .i64 ld] 32)).alloc (.cells #[.int .u32 ra, .int .i64 rd] 32) = W5 := ⟨_, rfl⟩
    have hB5 : Below w3.heap.size w3 W5 := by
      rw [← hW5]
      exact (HB2.out.alloc HB2.out.size _).alloc (by have := HB2.out.size; simp; omega) _
    have h8 : W5.heap[w2.heap.size]? = some (.cells #[.int .u32 la, .int .i64 ld] 32 (0, 0)) := by
      rw [← hW5, Below.heap_alloc _ _ _ (by simp)]
      exact World.alloc_heap_new w2 _
    have h9 : W5.heap[w2.heap.size + 1]? = some (.cells #[.int .u32 ra, .int .i64 rd] 32 (0, 0)) := by
      rw [← hW5]
      have := World.alloc_heap_new (w2.alloc (.cells #[.int .u32 la, .int .i64 ld] 32)) (.cells #[.int .u32 ra, .int .i64 rd] 32)
      rwa [World.size_alloc] at this
    have hWn : Wi l b1 b2 x b Bb Y V w3 (.nd bn true tl tr) := HW.out.kv HK1.out
    have hv9 : ¬ Vx b1 b2 W5.drew (w2.heap.size + 1) := fun hv => by
      have h1 : Vx b1 b2 W5 (w2.heap.size + 1) := hv
      have := hWn.vb _ ((vx_below hB5 hWn.b1lt _).1 h1)
      have := HB2.out.size
      omega
    rw [hW5]
    generalize w2.heap.size + 1 = N9 at *
    generalize w2.heap.size = N8 at *
    clear hW5 HB2
    have hW5 := hWn.below hB5
    have hWd : Wi l b1 b2 x b Bb Y V W5.drew (.nd bn true tl tr) := ⟨hW5.bb, hW5.yy, hW5.vv, hW5.hd.keep fun _ _ => rfl, hW5.fb, hW5.fy, hW5.fv, hW5.fu, hW5.vb⟩
    have hJ5 := jb _ _ _ (jb _ _ _ HJ1.out hB5) (Below.refl _ W5).drew
    have HK5 := Lib.hid ((HK1.out.trans (.of_below hB5 hWn.b1lt)).trans (.of_below (Below.refl _ W5).drew hW5.b1lt))
    obtain ⟨c0, c1, c2, c3⟩ := hW5.cells
    obtain ⟨⟨n0, n1, n2⟩, _⟩ := nd_cells hW5.hd
    have m0 : W5.cell? ⟨N8, 0, none⟩ = some (.int .u32 la) := by simp [World.cell?, h8]
    have m1 : W5.cell? ⟨N8, 1, none⟩ = some (.int .i64 ld) := by simp [World.cell?, h8]
    have HCL := Lib.hid ((HHL.out (pre ++ [(a, d)]) W5.drew hWd.left hJ5 (by have := HN.out; simp at this ⊢; omega)).mono (R' := fun e W6 =>
        (e = .returned (.bool true) ∧ Hid (J ((pre ++ [(a, d)]) ++ ol) W6 ∧ Kv b1 b2 W W6 ∧ Wi l b1 b2 x b Bb Y V W6 (.nd bn true tl tr)) ∧ W6.cell? ⟨V, 0, none⟩ = some (.func (.func 34) #[] #[.pointer (some ⟨Bb, 0, none⟩), .pointer (some ⟨Y, 0, none⟩), .pointer (some ⟨V, 0, none⟩)]) ∧
          W6.cell? ⟨bn, 1, none⟩ = some tr.ptr ∧ W6.cell? ⟨N9, 0, none⟩ = some (.int .u32 ra) ∧ W6.cell? ⟨N9, 1, none⟩ = some (.int .i64 rd)) ∨
        (e = .returned (.bool false) ∧ Hid (∃ q, q <+: ol ∧ Jx ((pre ++ [(a, d)]) ++ q) W6)))
      (fun e W6 h => h.elim (fun ⟨he, hj, hk⟩ => by
          have hw6 := hWd.kv hk
          have h96 : W6.heap[N9]? = some (.cells #[.int .u32 ra, .int .i64 rd] 32 (0, 0)) := hk.same N9 _ h9 rfl hv9
          exact .inl ⟨he, Lib.hid ⟨hj, HK5.out.trans hk, hw6⟩, hw6.cells.2.2.2, (nd_cells hw6.hd).1.2.1, by simp [World.cell?, h96], by simp [World.cell?, h96]⟩) (fun ⟨he, hq⟩ => .inr ⟨he, Lib.hid hq⟩)))
    clear h8 h9 hv9 hWn hW5 hWd hJ5 hB5 c0 c1 c2 n2
    refine wpIn_region_mx (fun i => i == 7 || i == 8 || i == 16 || i == 17 || i == 18) rfl (by kernel_rfl) ?_
    refine at_quiet (by kernel_rfl) [0, 1, 2, 3, 4, 5, 6] 12 _ _ (by kernel_rfl) ?_
    simp only [opsAt, List.getElem?_toArray, List.getElem?_cons_zero, List.getElem?_cons_succ, Option.toList_some, List.cons_append, List.nil_append]
    repeat (gi_big_quiet_step (fail))
    refine wpQuietIn_nil ?_
    refine at_solo [7, 8] 10 _ _ _ (by kernel_rfl) ?_
    simp only [opsAt, List.getElem?_toArray, List.getElem?_cons_zero, List.getElem?_cons_succ, Option.toList_some, List.cons_append, List.nil_append]
    clear n0 n1 m0 m1
    gi_wp2_with ((first | refine ⟨trivial, rfl, ?_⟩ | refine ⟨rfl, ?_⟩); gi_at_call 34; refine HCL.out.mono ?_; clear HCL; rintro e W6 (⟨rfl, h6, c3', n1', m0', m1'⟩ | ⟨rfl, hx⟩))
    · refine at_quiet (by kernel_rfl) [9, 10, 11, 12, 13, 14, 15] 3 _ _ (by kernel_rfl) ?_
      simp only [opsAt, List.getElem?_toArray, List.getElem?_cons_zero, List.getElem?_cons_succ, Option.toList_some, List.cons_append, List.nil_append]
      repeat (gi_big_quiet_step (fail))
      refine wpQuietIn_nil ?_
      refine at_last [16, 17, 18] _ _ _ (by kernel_rfl) (by kernel_rfl) ?_
      simp only [opsAt, List.getElem?_toArray, List.getElem?_cons_zero, List.getElem?_cons_succ, Option.toList_some, List.cons_append, List.nil_append]
      have HCR := Lib.hid (HHR.out ((pre ++ [(a, d)]) ++ ol) W6 h6.out.2.2.right h6.out.1 (by have := HN.out; simp at this ⊢; omega))
      clear c3' n1' m0' m1'
      gi_wp2_with ((first | refine ⟨trivial, rfl, ?_⟩ | refine ⟨rfl, ?_⟩); gi_at_call 34; refine HCR.out.mono ?_; clear HCR; rintro e W7 (⟨rfl, hj7, hk7⟩ | ⟨rfl, q, ⟨r, hq⟩, hx⟩))
      · have HE := Lib.hid (show Walked b1 b2 J Jx pre ([(a, d)] ++ (ol ++ or)) W (.returned (.bool true)) W7 from .inl ⟨rfl, by simpa [List.append_assoc] using hj7, h6.out.2.1.trans hk7⟩)
        clear hj7 hk7
        gi_wp2_with fail
        go_ret
        exact HE.out
      · have HE := Lib.hid (show Walked b1 b2 J Jx pre ([(a, d)] ++ (ol ++ or)) W (.returned (.bool false)) W7 from .inr ⟨rfl, [(a, d)] ++ (ol ++ q), ⟨r, by simp [← hq, List.append_assoc]⟩, by simpa [List.append_assoc] using hx⟩)
        clear hx hq
        gi_wp2_with fail
        go_ret
        exact HE.out
    · obtain ⟨q, ⟨r, hq⟩, hx'⟩ := hx.out
      have HE := Lib.hid (show Walked b1 b2 J Jx pre ([(a, d)] ++ (ol ++ or)) W (.returned (.bool false)) W6 from .inr ⟨rfl, [(a, d)] ++ q, ⟨r ++ or, by simp [← hq, List.append_assoc]⟩, by simpa [List.append_assoc] using hx'⟩)
      clear hx hx' hq
      refine at_quiet (by kernel_rfl) [9, 10, 11, 12, 13, 14, 15] 3 _ _ (by kernel_rfl) ?_
      simp only [opsAt, List.getElem?_toArray, List.getElem?_cons_zero, List.getElem?_cons_succ, Option.toList_some, List.cons_append, List.nil_append]
      repeat (gi_big_quiet_step (fail))
      refine wpQuietIn_nil ?_
      refine at_last [16, 17, 18] _ _ _ (by kernel_rfl) (by kernel_rfl) ?_
      simp only [opsAt, List.getElem?_toArray, List.getElem?_cons_zero, List.getElem?_cons_succ, Option.toList_some, List.cons_append, List.nil_append]
      gi_wp2_with fail
      refine ⟨fun _ h => (by cases h), ?_⟩
      gi_wp2_with fail
      go_ret
      exact HE.out
end Go.Proofs.Ytbfkpapankgndaa
