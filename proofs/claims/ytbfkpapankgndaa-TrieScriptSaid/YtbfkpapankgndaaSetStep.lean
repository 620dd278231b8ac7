/-
  The closure that keeps a prefix, or keeps it no more, one bit further on; then, by induction, whatever bits are left. Conditions: addresses are numbers of 32 bits.
-/
import Derived.Test.YtbfkpapankgndaaSet
import Derived.Test.YtbfkpapankgndaaMx
namespace Go.Proofs.Ytbfkpapankgndaa
open Go.RowKit

theorem e_ptr : Tr.ptr .e = .pointer none := rfl

set_option maxRecDepth 100000 in
theorem left_nd (n : Nat) (a x b d : Int) (kv : Bool) (bn : Nat) (k : Bool) (l r : Tr) (B K V : Nat) (w : World) (hn : n + 1 ≤ 32) (ha : a % 2 ^ (n + 1) = 0) (hd : d = 32 - ((n + 1 : Nat) : Int)) (hb : d < b) (hx0 : 0 ≤ x) (hx1 : x < 4294967296) (hlt : x < a + 2 ^ n) (hs : x / 2 ^ n % 2 = 0)
    (hE : Ev w B K V x b kv) (hT : Hd w (.nd bn k l r)) (hw : Wf (n + 1) (.nd bn k l r)) (hnd : (Tr.nd bn k l r).blocks.Nodup)
    (hI : ∀ w1, Hd w1 l → Ev w1 B K V x b kv → CallsIn Fence.wide 0 Try.prog 32 #[(l : Tr).ptr, .int .i64 (d + 1), .pointer (some ⟨B, 0, none⟩), .pointer (some ⟨K, 0, none⟩), .pointer (some ⟨V, 0, none⟩)] w1 fun e w' =>
      ∃ T', e = .returned T'.ptr ∧ Ch w1 w' n a x b kv l T') :
    CallsIn Fence.wide 0 Try.prog 32 #[.pointer (some ⟨bn, 0, none⟩), .int .i64 d, .pointer (some ⟨B, 0, none⟩), .pointer (some ⟨K, 0, none⟩), .pointer (some ⟨V, 0, none⟩)] w fun e w' =>
      ∃ T', e = .returned T'.ptr ∧ Ch w w' (n + 1) a x b kv (.nd bn k l r) T' := by
  obtain ⟨bx, bb, bk, bv⟩ := hE.cells
  obtain ⟨lB, lK, lV⟩ := hE.lt
  have hd0 : 0 ≤ d := by omega
  have hd1 : d ≤ 31 := by omega
  have hne : ¬ d = b := by omega
  have HQ := Lib.hid fun W => callsIn_wide (n := 0).2 (bit_any x d 0 W hx0 hx1 hd0 hd1 (by rw [show (31 - d).toNat = n by omega]; exact hs))
  obtain ⟨⟨d0, d1, d2⟩, f0, f1, f2⟩ := nd_cells hT
  have HI := Lib.hid ((hI w.drew (hT.2.1.keep fun _ _ => rfl) (hE.keep rfl rfl rfl)).mono (R' := fun e w' => ∃ (T' : Tr) (q : Option Addr) (z : Bool), e = .returned (.pointer q) ∧ Hid (T'.ptr = .pointer q ∧ (T'.no && r.no) = z ∧ Ch w.drew w' n a x b kv l T') ∧ (∀ W, (Op.equalIn 9999 55 (.agg #[.pointer q, r.ptr]) (.agg #[.pointer none, .pointer none])).run Try.prog W = .ok z W) ∧ w'.cell? ⟨bn, 0, none⟩ = some l.ptr ∧ w'.cell? ⟨bn, 1, none⟩ = some r.ptr ∧ w'.cell? ⟨bn, 2, none⟩ = some (.bool k) ∧ w'.frozen? ⟨bn, 0, none⟩ = false ∧ w'.frozen? ⟨bn, 1, none⟩ = false)
    (fun e w' h => by
      obtain ⟨T', he, hc⟩ := h
      have hbk : w'.heap[bn]? = some (.cells #[l.ptr, r.ptr, .bool k] 57 (0, 0)) := (hc.step.block _ (hT.lt bn (by simp [Tr.blocks])) (nodup_nd.1 hnd).1).trans hT.1
      obtain ⟨q, hq⟩ : ∃ q, T'.ptr = .pointer q := by cases T' <;> exact ⟨_, rfl⟩
      have heq := run_eq55 T' r
      rw [hq] at heq
      exact ⟨T', q, _, by rw [he, hq], Lib.hid ⟨hq, rfl, hc⟩, heq, by simp [World.cell?, hbk], by simp [World.cell?, hbk], by simp [World.cell?, hbk], by simp [World.frozen?, hbk], by simp [World.frozen?, hbk]⟩))
  have HEND := Lib.hid (fun (w3 : World) (T3 : Tr) (hc : Ch w.drew w3 n a x b kv l T3) => ch_left hn ha hlt (by omega) hT hw hnd hc.drew)
  clear hI hE hT hw hnd hlt hn ha hd hb hs
  generalize hpl : l.ptr = pl at *
  generalize hpr : r.ptr = pr at *
  cases k with
  | true =>
    refine callsIn_of_wp Try.func32 rfl trivial ?_
    simp only [Try.ntmps32, List.size_toArray, List.length_cons, List.length_nil, Nat.reduceAdd, Nat.reduceSub, Array.replicate_succ, Array.replicate_zero, List.push_toArray, List.append_toArray, List.nil_append, List.cons_append]
    gi_upto_region 6 with ((first | refine ⟨trivial, rfl, ?_⟩ | refine ⟨rfl, ?_⟩); gi_at_call 25; refine (HQ.out _).mono ?_; rintro e w1 ⟨rfl, rfl⟩)
    refine wpIn_region_mx (fun i => i == 11 || i == 14 || i == 15) rfl (by kernel_rfl) ?_
    refine at_pure rfl (by kernel_rfl) (fun _ _ _ d _ h => by cases d <;> exact h) [0, 1, 12, 13] 12 _ _ (by kernel_rfl) ?_
    simp only [opsAt, List.getElem?_toArray, List.getElem?_cons_zero, List.getElem?_cons_succ, Option.toList_some, List.cons_append, List.nil_append]
    repeat (gi_big_quiet_step (fail))
    refine wpQuietIn_nil ?_
    refine at_quiet (by kernel_rfl) [2, 3, 4, 5, 6, 7, 8, 9, 10] 3 _ _ (by kernel_rfl) ?_
    simp only [opsAt, List.getElem?_toArray, List.getElem?_cons_zero, List.getElem?_cons_succ, Option.toList_some, List.cons_append, List.nil_append]
    repeat (gi_big_quiet_step (fail))
    refine wpQuietIn_nil ?_
    refine at_last [11, 14, 15] _ _ _ (by kernel_rfl) (by kernel_rfl) ?_
    simp only [opsAt, List.getElem?_toArray, List.getElem?_cons_zero, List.getElem?_cons_succ, Option.toList_some, List.cons_append, List.nil_append]
    gi_wp2_with ((first | refine ⟨trivial, rfl, ?_⟩ | refine ⟨rfl, ?_⟩); gi_at_call 32; refine HI.out.mono ?_; clear HI; rintro e w3 ⟨T3, q, z, rfl, hc, heq, k0, k1, k2, f3, f4⟩; cases z)
    all_goals go_ret
    all_goals first
      | exact ⟨(.nd bn _ T3 r), rfl, by have h := HEND.out w3 T3 hc.out.2.2; rw [hc.out.1] at h; exact h⟩
      | exact ⟨.e, rfl, by
          have h := HEND.out w3 T3 hc.out.2.2
          rw [hc.out.1] at h
          obtain ⟨n1, n2⟩ := Bool.and_eq_true_iff.1 hc.out.2.1
          have e1 := no_e n1
          have e2 := no_e n2
          (try subst e1); (try subst e2)
          exact ch_gone h⟩
  | false =>
    refine callsIn_of_wp Try.func32 rfl trivial ?_
    simp only [Try.ntmps32, List.size_toArray, List.length_cons, List.length_nil, Nat.reduceAdd, Nat.reduceSub, Array.replicate_succ, Array.replicate_zero, List.push_toArray, List.append_toArray, List.nil_append, List.cons_append]
    gi_upto_region 6 with ((first | refine ⟨trivial, rfl, ?_⟩ | refine ⟨rfl, ?_⟩); gi_at_call 25; refine (HQ.out _).mono ?_; rintro e w1 ⟨rfl, rfl⟩)
    refine wpIn_region_mx (fun i => i == 11 || i == 14 || i == 15) rfl (by kernel_rfl) ?_
    refine at_pure rfl (by kernel_rfl) (fun _ _ _ d _ h => by cases d <;> exact h) [0, 1, 12, 13] 12 _ _ (by kernel_rfl) ?_
    simp only [opsAt, List.getElem?_toArray, List.getElem?_cons_zero, List.getElem?_cons_succ, Option.toList_some, List.cons_append, List.nil_append]
    repeat (gi_big_quiet_step (fail))
    refine wpQuietIn_nil ?_
    refine at_quiet (by kernel_rfl) [2, 3, 4, 5, 6, 7, 8, 9, 10] 3 _ _ (by kernel_rfl) ?_
    simp only [opsAt, List.getElem?_toArray, List.getElem?_cons_zero, List.getElem?_cons_succ, Option.toList_some, List.cons_append, List.nil_append]
    repeat (gi_big_quiet_step (fail))
    refine wpQuietIn_nil ?_
    refine at_last [11, 14, 15] _ _ _ (by kernel_rfl) (by kernel_rfl) ?_
    simp only [opsAt, List.getElem?_toArray, List.getElem?_cons_zero, List.getElem?_cons_succ, Option.toList_some, List.cons_append, List.nil_append]
    gi_wp2_with ((first | refine ⟨trivial, rfl, ?_⟩ | refine ⟨rfl, ?_⟩); gi_at_call 32; refine HI.out.mono ?_; clear HI; rintro e w3 ⟨T3, q, z, rfl, hc, heq, k0, k1, k2, f3, f4⟩; cases z)
    all_goals go_ret
    all_goals first
      | exact ⟨(.nd bn _ T3 r), rfl, by have h := HEND.out w3 T3 hc.out.2.2; rw [hc.out.1] at h; exact h⟩
      | exact ⟨.e, rfl, by
          have h := HEND.out w3 T3 hc.out.2.2
          rw [hc.out.1] at h
          obtain ⟨n1, n2⟩ := Bool.and_eq_true_iff.1 hc.out.2.1
          have e1 := no_e n1
          have e2 := no_e n2
          (try subst e1); (try subst e2)
          exact ch_gone h⟩
set_option maxRecDepth 100000 in
theorem left_e (n : Nat) (a x b d : Int) (kv : Bool)  (B K V : Nat) (w : World) (hn : n + 1 ≤ 32) (ha : a % 2 ^ (n + 1) = 0) (hd : d = 32 - ((n + 1 : Nat) : Int)) (hb : d < b) (hx0 : 0 ≤ x) (hx1 : x < 4294967296) (hlt : x < a + 2 ^ n) (hs : x / 2 ^ n % 2 = 0)
    (hE : Ev w B K V x b kv) 
    (hI : ∀ w1, Hd w1 .e → Ev w1 B K V x b kv → CallsIn Fence.wide 0 Try.prog 32 #[(.e : Tr).ptr, .int .i64 (d + 1), .pointer (some ⟨B, 0, none⟩), .pointer (some ⟨K, 0, none⟩), .pointer (some ⟨V, 0, none⟩)] w1 fun e w' =>
      ∃ T', e = .returned T'.ptr ∧ Ch w1 w' n a x b kv .e T') :
    CallsIn Fence.wide 0 Try.prog 32 #[.pointer none, .int .i64 d, .pointer (some ⟨B, 0, none⟩), .pointer (some ⟨K, 0, none⟩), .pointer (some ⟨V, 0, none⟩)] w fun e w' =>
      ∃ T', e = .returned T'.ptr ∧ Ch w w' (n + 1) a x b kv .e T' := by
  obtain ⟨bx, bb, bk, bv⟩ := hE.cells
  obtain ⟨lB, lK, lV⟩ := hE.lt
  have hd0 : 0 ≤ d := by omega
  have hd1 : d ≤ 31 := by omega
  have hne : ¬ d = b := by omega
  have HQ := Lib.hid fun W => callsIn_wide (n := 0).2 (bit_any x d 0 W hx0 hx1 hd0 hd1 (by rw [show (31 - d).toNat = n by omega]; exact hs))
  have hT := new_hd w
  have HI := Lib.hid ((hI (w.alloc (.cells #[.pointer none, .pointer none, .bool false] 57)).drew (hT.2.1.keep fun _ _ => rfl) ((hE.below ((Below.refl _ w).alloc (Nat.le_refl _) (.cells #[.pointer none, .pointer none, .bool false] 57))).keep rfl rfl rfl)).mono (R' := fun e w' => ∃ (T' : Tr) (q : Option Addr) (z : Bool), e = .returned (.pointer q) ∧ Hid (T'.ptr = .pointer q ∧ (T'.no && Tr.e.no) = z ∧ Ch (w.alloc (.cells #[.pointer none, .pointer none, .bool false] 57)).drew w' n a x b kv .e T') ∧ (∀ W, (Op.equalIn 9999 55 (.agg #[.pointer q, .pointer none]) (.agg #[.pointer none, .pointer none])).run Try.prog W = .ok z W) ∧ w'.cell? ⟨w.heap.size, 0, none⟩ = some (.pointer none) ∧ w'.cell? ⟨w.heap.size, 1, none⟩ = some (.pointer none) ∧ w'.cell? ⟨w.heap.size, 2, none⟩ = some (.bool false) ∧ w'.frozen? ⟨w.heap.size, 0, none⟩ = false ∧ w'.frozen? ⟨w.heap.size, 1, none⟩ = false)
    (fun e w' h => by
      obtain ⟨T', he, hc⟩ := h
      have hbk : w'.heap[w.heap.size]? = some (.cells #[(.pointer none), (.pointer none), .bool false] 57 (0, 0)) := (hc.step.block _ (by show w.heap.size < (w.alloc _).heap.size; simp) (by simp [Tr.blocks])).trans hT.1
      obtain ⟨q, hq⟩ : ∃ q, T'.ptr = .pointer q := by cases T' <;> exact ⟨_, rfl⟩
      have heq := run_eq55 T' .e
      simp only [hq, e_ptr] at heq
      exact ⟨T', q, _, by rw [he, hq], Lib.hid ⟨hq, rfl, hc⟩, heq, by simp [World.cell?, hbk], by simp [World.cell?, hbk], by simp [World.cell?, hbk], by simp [World.frozen?, hbk], by simp [World.frozen?, hbk]⟩))
  have HEND := Lib.hid (fun (w3 : World) (T3 : Tr) (hc : Ch (w.alloc (.cells #[.pointer none, .pointer none, .bool false] 57)).drew w3 n a x b kv .e T3) => ch_new _ (ch_left hn ha hlt (by omega) hT (wf_new (n + 1) _) (nd_new _) hc.drew))
  clear hI hE hT hlt hn ha hd hb hs
  simp only [e_ptr] at HI
  refine callsIn_of_wp Try.func32 rfl trivial ?_
  simp only [Try.ntmps32, List.size_toArray, List.length_cons, List.length_nil, Nat.reduceAdd, Nat.reduceSub, Array.replicate_succ, Array.replicate_zero, List.push_toArray, List.append_toArray, List.nil_append, List.cons_append]
  gi_upto_region 6 with ((first | refine ⟨trivial, rfl, ?_⟩ | refine ⟨rfl, ?_⟩); gi_at_call 25; refine (HQ.out _).mono ?_; rintro e w1 ⟨rfl, rfl⟩)
  refine wpIn_region_mx (fun i => i == 11 || i == 14 || i == 15) rfl (by kernel_rfl) ?_
  refine at_pure rfl (by kernel_rfl) (fun _ _ _ d _ h => by cases d <;> exact h) [0, 1, 12, 13] 12 _ _ (by kernel_rfl) ?_
  simp only [opsAt, List.getElem?_toArray, List.getElem?_cons_zero, List.getElem?_cons_succ, Option.toList_some, List.cons_append, List.nil_append]
  repeat (gi_big_quiet_step (fail))
  refine wpQuietIn_nil ?_
  refine at_quiet (by kernel_rfl) [2, 3, 4, 5, 6, 7, 8, 9, 10] 3 _ _ (by kernel_rfl) ?_
  simp only [opsAt, List.getElem?_toArray, List.getElem?_cons_zero, List.getElem?_cons_succ, Option.toList_some, List.cons_append, List.nil_append]
  repeat (gi_big_quiet_step (fail))
  refine wpQuietIn_nil ?_
  refine at_last [11, 14, 15] _ _ _ (by kernel_rfl) (by kernel_rfl) ?_
  simp only [opsAt, List.getElem?_toArray, List.getElem?_cons_zero, List.getElem?_cons_succ, Option.toList_some, List.cons_append, List.nil_append]
  gi_wp2_with ((first | refine ⟨trivial, rfl, ?_⟩ | refine ⟨rfl, ?_⟩); gi_at_call 32; refine HI.out.mono ?_; clear HI; rintro e w3 ⟨T3, q, z, rfl, hc, heq, k0, k1, k2, f3, f4⟩; cases z)
  all_goals go_ret
  all_goals first
    | exact ⟨(.nd w.heap.size _ T3 .e), rfl, by have h := HEND.out w3 T3 hc.out.2.2; rw [hc.out.1] at h; exact h⟩
    | exact ⟨.e, rfl, by
        have h := HEND.out w3 T3 hc.out.2.2
        rw [hc.out.1] at h
        obtain ⟨n1, n2⟩ := Bool.and_eq_true_iff.1 hc.out.2.1
        have e1 := no_e n1
        have e2 := no_e n2
        (try subst e1); (try subst e2)
        exact ch_gone h⟩
set_option maxRecDepth 100000 in
theorem right_nd (n : Nat) (a x b d : Int) (kv : Bool) (bn : Nat) (k : Bool) (l r : Tr) (B K V : Nat) (w : World) (hn : n + 1 ≤ 32) (ha : a % 2 ^ (n + 1) = 0) (hd : d = 32 - ((n + 1 : Nat) : Int)) (hb : d < b) (hx0 : 0 ≤ x) (hx1 : x < 4294967296) (hlt : a + 2 ^ n ≤ x) (hs : x / 2 ^ n % 2 = 1)
    (hE : Ev w B K V x b kv) (hT : Hd w (.nd bn k l r)) (hw : Wf (n + 1) (.nd bn k l r)) (hnd : (Tr.nd bn k l r).blocks.Nodup)
    (hI : ∀ w1, Hd w1 r → Ev w1 B K V x b kv → CallsIn Fence.wide 0 Try.prog 32 #[(r : Tr).ptr, .int .i64 (d + 1), .pointer (some ⟨B, 0, none⟩), .pointer (some ⟨K, 0, none⟩), .pointer (some ⟨V, 0, none⟩)] w1 fun e w' =>
      ∃ T', e = .returned T'.ptr ∧ Ch w1 w' n (a + 2 ^ n) x b kv r T') :
    CallsIn Fence.wide 0 Try.prog 32 #[.pointer (some ⟨bn, 0, none⟩), .int .i64 d, .pointer (some ⟨B, 0, none⟩), .pointer (some ⟨K, 0, none⟩), .pointer (some ⟨V, 0, none⟩)] w fun e w' =>
      ∃ T', e = .returned T'.ptr ∧ Ch w w' (n + 1) a x b kv (.nd bn k l r) T' := by
  obtain ⟨bx, bb, bk, bv⟩ := hE.cells
  obtain ⟨lB, lK, lV⟩ := hE.lt
  have hd0 : 0 ≤ d := by omega
  have hd1 : d ≤ 31 := by omega
  have hne : ¬ d = b := by omega
  have HQ := Lib.hid fun W => callsIn_wide (n := 0).2 (bit_any x d 1 W hx0 hx1 hd0 hd1 (by rw [show (31 - d).toNat = n by omega]; exact hs))
  obtain ⟨⟨d0, d1, d2⟩, f0, f1, f2⟩ := nd_cells hT
  have HI := Lib.hid ((hI w.drew (hT.2.2.keep fun _ _ => rfl) (hE.keep rfl rfl rfl)).mono (R' := fun e w' => ∃ (T' : Tr) (q : Option Addr) (z : Bool), e = .returned (.pointer q) ∧ Hid (T'.ptr = .pointer q ∧ (l.no && T'.no) = z ∧ Ch w.drew w' n (a + 2 ^ n) x b kv r T') ∧ (∀ W, (Op.equalIn 9999 55 (.agg #[l.ptr, .pointer q]) (.agg #[.pointer none, .pointer none])).run Try.prog W = .ok z W) ∧ w'.cell? ⟨bn, 0, none⟩ = some l.ptr ∧ w'.cell? ⟨bn, 1, none⟩ = some r.ptr ∧ w'.cell? ⟨bn, 2, none⟩ = some (.bool k) ∧ w'.frozen? ⟨bn, 0, none⟩ = false ∧ w'.frozen? ⟨bn, 1, none⟩ = false)
    (fun e w' h => by
      obtain ⟨T', he, hc⟩ := h
      have hbk : w'.heap[bn]? = some (.cells #[l.ptr, r.ptr, .bool k] 57 (0, 0)) := (hc.step.block _ (hT.lt bn (by simp [Tr.blocks])) (nodup_nd.1 hnd).2.1).trans hT.1
      obtain ⟨q, hq⟩ : ∃ q, T'.ptr = .pointer q := by cases T' <;> exact ⟨_, rfl⟩
      have heq := run_eq55 l T'
      rw [hq] at heq
      exact ⟨T', q, _, by rw [he, hq], Lib.hid ⟨hq, rfl, hc⟩, heq, by simp [World.cell?, hbk], by simp [World.cell?, hbk], by simp [World.cell?, hbk], by simp [World.frozen?, hbk], by simp [World.frozen?, hbk]⟩))
  have HEND := Lib.hid (fun (w3 : World) (T3 : Tr) (hc : Ch w.drew w3 n (a + 2 ^ n) x b kv r T3) => ch_right hn ha hlt (by omega) hT hw hnd hc.drew)
  clear hI hE hT hw hnd hlt hn ha hd hb hs
  generalize hpl : l.ptr = pl at *
  generalize hpr : r.ptr = pr at *
  cases k with
  | true =>
    refine callsIn_of_wp Try.func32 rfl trivial ?_
    simp only [Try.ntmps32, List.size_toArray, List.length_cons, List.length_nil, Nat.reduceAdd, Nat.reduceSub, Array.replicate_succ, Array.replicate_zero, List.push_toArray, List.append_toArray, List.nil_append, List.cons_append]
    gi_upto_region 6 with ((first | refine ⟨trivial, rfl, ?_⟩ | refine ⟨rfl, ?_⟩); gi_at_call 25; refine (HQ.out _).mono ?_; rintro e w1 ⟨rfl, rfl⟩)
    refine wpIn_region_mx (fun i => i == 11 || i == 14 || i == 15) rfl (by kernel_rfl) ?_
    refine at_pure rfl (by kernel_rfl) (fun _ _ _ d _ h => by cases d <;> exact h) [0, 1, 12, 13] 12 _ _ (by kernel_rfl) ?_
    simp only [opsAt, List.getElem?_toArray, List.getElem?_cons_zero, List.getElem?_cons_succ, Option.toList_some, List.cons_append, List.nil_append]
    repeat (gi_big_quiet_step (fail))
    refine wpQuietIn_nil ?_
    refine at_quiet (by kernel_rfl) [2, 3, 4, 5, 6, 7, 8, 9, 10] 3 _ _ (by kernel_rfl) ?_
    simp only [opsAt, List.getElem?_toArray, List.getElem?_cons_zero, List.getElem?_cons_succ, Option.toList_some, List.cons_append, List.nil_append]
    repeat (gi_big_quiet_step (fail))
    refine wpQuietIn_nil ?_
    refine at_last [11, 14, 15] _ _ _ (by kernel_rfl) (by kernel_rfl) ?_
    simp only [opsAt, List.getElem?_toArray, List.getElem?_cons_zero, List.getElem?_cons_succ, Option.toList_some, List.cons_append, List.nil_append]
    gi_wp2_with ((first | refine ⟨trivial, rfl, ?_⟩ | refine ⟨rfl, ?_⟩); gi_at_call 32; refine HI.out.mono ?_; clear HI; rintro e w3 ⟨T3, q, z, rfl, hc, heq, k0, k1, k2, f3, f4⟩; cases z)
    all_goals go_ret
    all_goals first
      | exact ⟨(.nd bn _ l T3), rfl, by have h := HEND.out w3 T3 hc.out.2.2; rw [hc.out.1] at h; exact h⟩
      | exact ⟨.e, rfl, by
          have h := HEND.out w3 T3 hc.out.2.2
          rw [hc.out.1] at h
          obtain ⟨n1, n2⟩ := Bool.and_eq_true_iff.1 hc.out.2.1
          have e1 := no_e n1
          have e2 := no_e n2
          (try subst e1); (try subst e2)
          exact ch_gone h⟩
  | false =>
    refine callsIn_of_wp Try.func32 rfl trivial ?_
    simp only [Try.ntmps32, List.size_toArray, List.length_cons, List.length_nil, Nat.reduceAdd, Nat.reduceSub, Array.replicate_succ, Array.replicate_zero, List.push_toArray, List.append_toArray, List.nil_append, List.cons_append]
    gi_upto_region 6 with ((first | refine ⟨trivial, rfl, ?_⟩ | refine ⟨rfl, ?_⟩); gi_at_call 25; refine (HQ.out _).mono ?_; rintro e w1 ⟨rfl, rfl⟩)
    refine wpIn_region_mx (fun i => i == 11 || i == 14 || i == 15) rfl (by kernel_rfl) ?_
    refine at_pure rfl (by kernel_rfl) (fun _ _ _ d _ h => by cases d <;> exact h) [0, 1, 12, 13] 12 _ _ (by kernel_rfl) ?_
    simp only [opsAt, List.getElem?_toArray, List.getElem?_cons_zero, List.getElem?_cons_succ, Option.toList_some, List.cons_append, List.nil_append]
    repeat (gi_big_quiet_step (fail))
    refine wpQuietIn_nil ?_
    refine at_quiet (by kernel_rfl) [2, 3, 4, 5, 6, 7, 8, 9, 10] 3 _ _ (by kernel_rfl) ?_
    simp only [opsAt, List.getElem?_toArray, List.getElem?_cons_zero, List.getElem?_cons_succ, Option.toList_some, List.cons_append, List.nil_append]
    repeat (gi_big_quiet_step (fail))
    refine wpQuietIn_nil ?_
    refine at_last [11, 14, 15] _ _ _ (by kernel_rfl) (by kernel_rfl) ?_
    simp only [opsAt, List.getElem?_toArray, List.getElem?_cons_zero, List.getElem?_cons_succ, Option.toList_some, List.cons_append, List.nil_append]
    gi_wp2_with ((first | refine ⟨trivial, rfl, ?_⟩ | refine ⟨rfl, ?_⟩); gi_at_call 32; refine HI.out.mono ?_; clear HI; rintro e w3 ⟨T3, q, z, rfl, hc, heq, k0, k1, k2, f3, f4⟩; cases z)
    all_goals go_ret
    all_goals first
      | exact ⟨(.nd bn _ l T3), rfl, by have h := HEND.out w3 T3 hc.out.2.2; rw [hc.out.1] at h; exact h⟩
      | exact ⟨.e, rfl, by
          have h := HEND.out w3 T3 hc.out.2.2
          rw [hc.out.1] at h
          obtain ⟨n1, n2⟩ := Bool.and_eq_true_iff.1 hc.out.2.1
          have e1 := no_e n1
          have e2 := no_e n2
          (try subst e1); (try subst e2)
          exact ch_gone h⟩
set_option maxRecDepth 100000 in
theorem right_e (n : Nat) (a x b d : Int) (kv : Bool)  (B K V : Nat) (w : World) (hn : n + 1 ≤ 32) (ha : a % 2 ^ (n + 1) = 0) (hd : d = 32 - ((n + 1 : Nat) : Int)) (hb : d < b) (hx0 : 0 ≤ x) (hx1 : x < 4294967296) (hlt : a + 2 ^ n ≤ x) (hs : x / 2 ^ n % 2 = 1)
    (hE : Ev w B K V x b kv) 
    (hI : ∀ w1, Hd w1 .e → Ev w1 B K V x b kv → CallsIn Fence.wide 0 Try.prog 32 #[(.e : Tr).ptr, .int .i64 (d + 1), .pointer (some ⟨B, 0, none⟩), .pointer (some ⟨K, 0, none⟩), .pointer (some ⟨V, 0, none⟩)] w1 fun e w' =>
      ∃ T', e = .returned T'.ptr ∧ Ch w1 w' n (a + 2 ^ n) x b kv .e T') :
    CallsIn Fence.wide 0 Try.prog 32 #[.pointer none, .int .i64 d, .pointer (some ⟨B, 0, none⟩), .pointer (some ⟨K, 0, none⟩), .pointer (some ⟨V, 0, none⟩)] w fun e w' =>
      ∃ T', e = .returned T'.ptr ∧ Ch w w' (n + 1) a x b kv .e T' := by
  obtain ⟨bx, bb, bk, bv⟩ := hE.cells
  obtain ⟨lB, lK, lV⟩ := hE.lt
  have hd0 : 0 ≤ d := by omega
  have hd1 : d ≤ 31 := by omega
  have hne : ¬ d = b := by omega
  have HQ := Lib.hid fun W => callsIn_wide (n := 0).2 (bit_any x d 1 W hx0 hx1 hd0 hd1 (by rw [show (31 - d).toNat = n by omega]; exact hs))
  have hT := new_hd w
  have HI := Lib.hid ((hI (w.alloc (.cells #[.pointer none, .pointer none, .bool false] 57)).drew (hT.2.1.keep fun _ _ => rfl) ((hE.below ((Below.refl _ w).alloc (Nat.le_refl _) (.cells #[.pointer none, .pointer none, .bool false] 57))).keep rfl rfl rfl)).mono (R' := fun e w' => ∃ (T' : Tr) (q : Option Addr) (z : Bool), e = .returned (.pointer q) ∧ Hid (T'.ptr = .pointer q ∧ (Tr.e.no && T'.no) = z ∧ Ch (w.alloc (.cells #[.pointer none, .pointer none, .bool false] 57)).drew w' n (a + 2 ^ n) x b kv .e T') ∧ (∀ W, (Op.equalIn 9999 55 (.agg #[.pointer none, .pointer q]) (.agg #[.pointer none, .pointer none])).run Try.prog W = .ok z W) ∧ w'.cell? ⟨w.heap.size, 0, none⟩ = some (.pointer none) ∧ w'.cell? ⟨w.heap.size, 1, none⟩ = some (.pointer none) ∧ w'.cell? ⟨w.heap.size, 2, none⟩ = some (.bool false) ∧ w'.frozen? ⟨w.heap.size, 0, none⟩ = false ∧ w'.frozen? ⟨w.heap.size, 1, none⟩ = false)
    (fun e w' h => by
      obtain ⟨T', he, hc⟩ := h
      have hbk : w'.heap[w.heap.size]? = some (.cells #[(.pointer none), (.pointer none), .bool false] 57 (0, 0)) := (hc.step.block _ (by show w.heap.size < (w.alloc _).heap.size; simp) (by simp [Tr.blocks])).trans hT.1
      obtain ⟨q, hq⟩ : ∃ q, T'.ptr = .pointer q := by cases T' <;> exact ⟨_, rfl⟩
      have heq := run_eq55 .e T'
      simp only [hq, e_ptr] at heq
      exact ⟨T', q, _, by rw [he, hq], Lib.hid ⟨hq, rfl, hc⟩, heq, by simp [World.cell?, hbk], by simp [World.cell?, hbk], by simp [World.cell?, hbk], by simp [World.frozen?, hbk], by simp [World.frozen?, hbk]⟩))
  have HEND := Lib.hid (fun (w3 : World) (T3 : Tr) (hc : Ch (w.alloc (.cells #[.pointer none, .pointer none, .bool false] 57)).drew w3 n (a + 2 ^ n) x b kv .e T3) => ch_new _ (ch_right hn ha hlt (by omega) hT (wf_new (n + 1) _) (nd_new _) hc.drew))
  clear hI hE hT hlt hn ha hd hb hs
  simp only [e_ptr] at HI
  refine callsIn_of_wp Try.func32 rfl trivial ?_
  simp only [Try.ntmps32, List.size_toArray, List.length_cons, List.length_nil, Nat.reduceAdd, Nat.reduceSub, Array.replicate_succ, Array.replicate_zero, List.push_toArray, List.append_toArray, List.nil_append, List.cons_append]
  gi_upto_region 6 with ((first | refine ⟨trivial, rfl, ?_⟩ | refine ⟨rfl, ?_⟩); gi_at_call 25; refine (HQ.out _).mono ?_; rintro e w1 ⟨rfl, rfl⟩)
  refine wpIn_region_mx (fun i => i == 11 || i == 14 || i == 15) rfl (by kernel_rfl) ?_
  refine at_pure rfl (by kernel_rfl) (fun _ _ _ d _ h => by cases d <;> exact h) [0, 1, 12, 13] 12 _ _ (by kernel_rfl) ?_
  simp only [opsAt, List.getElem?_toArray, List.getElem?_cons_zero, List.getElem?_cons_succ, Option.toList_some, List.cons_append, List.nil_append]
  repeat (gi_big_quiet_step (fail))
  refine wpQuietIn_nil ?_
  refine at_quiet (by kernel_rfl) [2, 3, 4, 5, 6, 7, 8, 9, 10] 3 _ _ (by kernel_rfl) ?_
  simp only [opsAt, List.getElem?_toArray, List.getElem?_cons_zero, List.getElem?_cons_succ, Option.toList_some, List.cons_append, List.nil_append]
  repeat (gi_big_quiet_step (fail))
  refine wpQuietIn_nil ?_
  refine at_last [11, 14, 15] _ _ _ (by kernel_rfl) (by kernel_rfl) ?_
  simp only [opsAt, List.getElem?_toArray, List.getElem?_cons_zero, List.getElem?_cons_succ, Option.toList_some, List.cons_append, List.nil_append]
  gi_wp2_with ((first | refine ⟨trivial, rfl, ?_⟩ | refine ⟨rfl, ?_⟩); gi_at_call 32; refine HI.out.mono ?_; clear HI; rintro e w3 ⟨T3, q, z, rfl, hc, heq, k0, k1, k2, f3, f4⟩; cases z)
  all_goals go_ret
  all_goals first
    | exact ⟨(.nd w.heap.size _ .e T3), rfl, by have h := HEND.out w3 T3 hc.out.2.2; rw [hc.out.1] at h; exact h⟩
    | exact ⟨.e, rfl, by
        have h := HEND.out w3 T3 hc.out.2.2
        rw [hc.out.1] at h
        obtain ⟨n1, n2⟩ := Bool.and_eq_true_iff.1 hc.out.2.1
        have e1 := no_e n1
        have e2 := no_e n2
        (try subst e1); (try subst e2)
        exact ch_gone h⟩
theorem not_in {T : Tr} {w : World} (h : Hd w T) {c : Nat} (hc : w.heap.size ≤ c) : c ∉ T.blocks := fun hm => by have := h.lt c hm; omega

/-- From whatever node: what it leaves. -/
theorem set_any (B K V : Nat) (x b : Int) (kv : Bool) (hx0 : 0 ≤ x) (hx1 : x < 4294967296) : ∀ (s n : Nat) (a d : Int) (T : Tr) (w : World), n ≤ 32 → s ≤ n → d = 32 - (n : Int) → b = d + s → a % 2 ^ n = 0 → a ≤ x → x < a + 2 ^ n → x % 2 ^ (n - s) = 0 →
    Ev w B K V x b kv → Hd w T → Wf n T → T.blocks.Nodup →
    CallsIn Fence.wide 0 Try.prog 32 #[T.ptr, .int .i64 d, .pointer (some ⟨B, 0, none⟩), .pointer (some ⟨K, 0, none⟩), .pointer (some ⟨V, 0, none⟩)] w fun e w' => ∃ T', e = .returned T'.ptr ∧ Ch w w' n a x b kv T T'
  | 0, n, a, d, T, w, hn, _, hd, hb, ha, h0, h1, hx, hE, hT, hw, hnd => by
    have hxa : x = a := by
      rw [Nat.sub_zero] at hx
      have e1 : (x - a) % 2 ^ n = 0 := by rw [Int.sub_emod, hx, ha]; simp
      rw [Int.emod_eq_of_lt (by omega) (by omega)] at e1
      omega
    have hbn : b = 32 - (n : Int) := by omega
    subst hxa hd hbn
    cases T with
    | e => exact zero_e n x kv B K V w hn ha hE
    | nd bn k l r => exact zero_nd n x kv bn k l r B K V w hn ha hE hT hw hnd
  | s + 1, 0, _, _, _, _, _, hs, _, _, _, _, _, _, _, _, _, _ => by omega
  | s + 1, n + 1, a, d, T, w, hn, hs, hd, hb, ha, h0, h1, hx, hE, hT, hw, hnd => by
    have hal : a % 2 ^ n = 0 := Int.emod_eq_zero_of_dvd (Int.dvd_trans (two_dvd (Nat.le_succ n)) (Int.dvd_of_emod_eq_zero ha))
    have har : (a + 2 ^ n) % 2 ^ n = 0 := by rw [Int.add_emod_right]; exact hal
    have h2 := two_succ n
    have hx' : x % 2 ^ (n - s) = 0 := by rw [show n - s = n + 1 - (s + 1) by omega]; exact hx
    have hsd := side ha h0 h1
    by_cases hz : x / 2 ^ n % 2 = 0
    · have hlt := hsd.1 hz
      cases T with
      | e => exact left_e n a x b d kv B K V w hn ha hd (by omega) hx0 hx1 hlt hz hE (fun w1 hh he => set_any B K V x b kv hx0 hx1 s n a (d + 1) .e w1 (by omega) (by omega) (by omega) (by omega) hal h0 hlt hx' he hh (wf_e n) (by simp [Tr.blocks]))
      | nd bn k l r => exact left_nd n a x b d kv bn k l r B K V w hn ha hd (by omega) hx0 hx1 hlt hz hE hT hw hnd (fun w1 hh he => set_any B K V x b kv hx0 hx1 s n a (d + 1) l w1 (by omega) (by omega) (by omega) (by omega) hal h0 hlt hx' he hh hw.1 (nodup_nd.1 hnd).2.2.1)
    · have hge : a + 2 ^ n ≤ x := by
        rcases Int.lt_or_le x (a + 2 ^ n) with h' | h'
        · exact absurd (hsd.2 h') hz
        · exact h'
      have hz1 : x / 2 ^ n % 2 = 1 := by omega
      cases T with
      | e => exact right_e n a x b d kv B K V w hn ha hd (by omega) hx0 hx1 hge hz1 hE (fun w1 hh he => set_any B K V x b kv hx0 hx1 s n (a + 2 ^ n) (d + 1) .e w1 (by omega) (by omega) (by omega) (by omega) har hge (by omega) hx' he hh (wf_e n) (by simp [Tr.blocks]))
      | nd bn k l r => exact right_nd n a x b d kv bn k l r B K V w hn ha hd (by omega) hx0 hx1 hge hz1 hE hT hw hnd (fun w1 hh he => set_any B K V x b kv hx0 hx1 s n (a + 2 ^ n) (d + 1) r w1 (by omega) (by omega) (by omega) (by omega) har hge (by omega) hx' he hh hw.2 (nodup_nd.1 hnd).2.2.2.1)
end Go.Proofs.Ytbfkpapankgndaa
