/-
  The contract of the closure that keeps a prefix, or keeps it no more: from whatever node, by induction on the bits that are left. Conditions: addresses are numbers of 32 bits.
-/
import Derived.Test.YtbfkpapankgndaaSetPlain
import Derived.TacticsIn
import Derived.TacticsInMore
import Derived.OwnWalkIn
import Derived.Sort.CutIn
namespace Go.Proofs.Ytbfkpapankgndaa
open Go.RowKit

/-- What the closure has captured: the prefix, whether it is to be kept, itself. -/
structure Ev (w : World) (B K V : Nat) (x b : Int) (kv : Bool) : Prop where
  b0 : w.heap[B]? = some (.cells #[.int .u32 x, .int .i64 b] 32 (0, 0))
  k0 : w.heap[K]? = some (.cells #[.bool kv] 4 (0, 0))
  v0 : w.heap[V]? = some (.cells #[.func (.func 32) #[] #[.pointer (some ⟨B, 0, none⟩), .pointer (some ⟨K, 0, none⟩), .pointer (some ⟨V, 0, none⟩)]] 66 (0, 0))
theorem Ev.keep {w w' : World} {B K V : Nat} {x b : Int} {kv : Bool} (h : Ev w B K V x b kv) (hB : w'.heap[B]? = w.heap[B]?) (hK : w'.heap[K]? = w.heap[K]?) (hV : w'.heap[V]? = w.heap[V]?) : Ev w' B K V x b kv :=
  ⟨hB.trans h.b0, hK.trans h.k0, hV.trans h.v0⟩
theorem Ev.lt {w : World} {B K V : Nat} {x b : Int} {kv : Bool} (h : Ev w B K V x b kv) : B < w.heap.size ∧ K < w.heap.size ∧ V < w.heap.size :=
  ⟨(Array.getElem?_eq_some_iff.1 h.b0).1, (Array.getElem?_eq_some_iff.1 h.k0).1, (Array.getElem?_eq_some_iff.1 h.v0).1⟩
theorem Ev.below {w w' : World} {B K V : Nat} {x b : Int} {kv : Bool} (h : Ev w B K V x b kv) (hb : Below w.heap.size w w') : Ev w' B K V x b kv :=
  h.keep (hb.block _ h.lt.1) (hb.block _ h.lt.2.1) (hb.block _ h.lt.2.2)
theorem Ev.cells {w : World} {B K V : Nat} {x b : Int} {kv : Bool} (h : Ev w B K V x b kv) : w.cell? ⟨B, 0, none⟩ = some (.int .u32 x) ∧ w.cell? ⟨B, 1, none⟩ = some (.int .i64 b) ∧ w.cell? ⟨K, 0, none⟩ = some (.bool kv) ∧
    w.cell? ⟨V, 0, none⟩ = some (.func (.func 32) #[] #[.pointer (some ⟨B, 0, none⟩), .pointer (some ⟨K, 0, none⟩), .pointer (some ⟨V, 0, none⟩)]) :=
  ⟨by simp [World.cell?, h.b0], by simp [World.cell?, h.b0], by simp [World.cell?, h.k0], by simp [World.cell?, h.v0]⟩
theorem nd_cells {w : World} {b : Nat} {k : Bool} {l r : Tr} (h : Hd w (.nd b k l r)) : (w.cell? ⟨b, 0, none⟩ = some l.ptr ∧ w.cell? ⟨b, 1, none⟩ = some r.ptr ∧ w.cell? ⟨b, 2, none⟩ = some (.bool k)) ∧
    (w.frozen? ⟨b, 0, none⟩ = false ∧ w.frozen? ⟨b, 1, none⟩ = false ∧ w.frozen? ⟨b, 2, none⟩ = false) :=
  ⟨⟨by simp [World.cell?, h.1], by simp [World.cell?, h.1], by simp [World.cell?, h.1]⟩, ⟨by simp [World.frozen?, h.1], by simp [World.frozen?, h.1], by simp [World.frozen?, h.1]⟩⟩

def Tr.no : Tr → Bool
  | .e => true
  | .nd .. => false
theorem run_each2 {P : Program} {W : World} (f : Nat → Bool) (body : Nat → Option Bool × Unit → Sem (ForInStep (Option Bool × Unit))) :
    ∀ ks : List Nat, (∀ k ∈ ks, (body k (none, ())).run P W = .ok (if f k = true then ForInStep.yield (none, ()) else ForInStep.done (some false, ())) W) →
      (forIn ks (none, ()) body).run P W = .ok (if ks.all f = true then (none, ()) else (some false, ())) W
  | [], _ => by simp [Sem.run_pure]
  | k :: ks, h => by
    have ih := run_each2 f body ks (fun j hj => h j (List.mem_cons_of_mem _ hj))
    rw [List.forIn_cons, Sem.run_bind, h k (List.mem_cons_self ..), Result.andThen_ok]
    cases hk : f k
    · simp [hk, Sem.run_pure]
    · simp only [if_true]
      rw [ih]
      simp [hk]
theorem run_ptr (T : Tr) (W : World) : (Op.equalIn 9998 25 T.ptr (.pointer none)).run Try.prog W = .ok T.no W := by
  show (Op.equalIn (9997 + 1) 25 _ _).run Try.prog W = _
  unfold Op.equalIn
  cases T <;> simp [Tr.ptr, Tr.no, Sem.run_bind, run_underlying Try.underlying25, Sem.run_pure]
/-- Two children are compared with none. -/
theorem run_eq55 (l r : Tr) (W : World) : (Op.equalIn 9999 55 (.agg #[l.ptr, r.ptr]) (.agg #[.pointer none, .pointer none])).run Try.prog W = .ok (l.no && r.no) W := by
  show (Op.equalIn (9998 + 1) 55 _ _).run Try.prog W = _
  have hs : (Go.sizeOf 25).run Try.prog W = .ok 1 W := by simp [go_sem]
  have e1 : ∀ (xs : Array Value) (k : Nat) (x : Option Addr), xs[k]? = some (.pointer x) → (part 25 xs (k * 1)).run Try.prog W = .ok (.pointer x) W := by
    intro xs k x h
    simp [part, go_sem, h]
  unfold Op.equalIn
  simp only [Sem.run_bind, run_underlying Try.underlying55, Result.andThen_ok, hs]
  have hl : List.range' 0 2 1 = [0, 1] := rfl
  rw [Std.Legacy.Range.forIn_eq_forIn_range']
  simp only [Std.Legacy.Range.size]
  simp only [Nat.sub_zero, Nat.add_one_sub_one, Nat.reduceAdd, Nat.reduceDiv, hl]
  have pp : ∀ T : Tr, ∃ x, T.ptr = .pointer x := fun T => by cases T <;> exact ⟨_, rfl⟩
  obtain ⟨xl, hxl⟩ := pp l
  obtain ⟨xr, hxr⟩ := pp r
  have ql := run_ptr l W
  have qr := run_ptr r W
  rw [hxl] at ql ⊢
  rw [hxr] at qr ⊢
  have ae0 := e1 #[.pointer xl, .pointer xr] 0 xl rfl
  have ae1 := e1 #[.pointer xl, .pointer xr] 1 xr rfl
  have be0 := e1 #[.pointer none, .pointer none] 0 none rfl
  have be1 := e1 #[.pointer none, .pointer none] 1 none rfl
  rw [run_each2 (fun k => [l.no, r.no].getD k true) _ [0, 1] (by
    intro k hk
    simp only [List.mem_cons, List.not_mem_nil, or_false] at hk
    rcases hk with rfl | rfl
    · simp only [Sem.run_bind, ae0, be0, ql, Result.andThen_ok, Sem.run_ite, Sem.run_pure, List.getD_cons_zero]
      cases l.no <;> rfl
    · simp only [Sem.run_bind, ae1, be1, qr, Result.andThen_ok, Sem.run_ite, Sem.run_pure, List.getD_cons_zero, List.getD_cons_succ]
      cases r.no <;> rfl), Result.andThen_ok]
  cases l.no <;> cases r.no <;> simp [Sem.run_pure]

theorem no_e : ∀ {T : Tr}, T.no = true → T = .e
  | .e, _ => rfl
  | .nd .., h => by simp [Tr.no] at h
set_option maxRecDepth 100000 in
/-- At the depth of the prefix, from a node. -/
theorem zero_nd (n : Nat) (a : Int) (kv : Bool) (bn : Nat) (k : Bool) (l r : Tr) (B K V : Nat) (w : World) (hn : n ≤ 32) (ha : a % 2 ^ n = 0) (hE : Ev w B K V a (32 - (n : Int)) kv) (hT : Hd w (.nd bn k l r)) (hw : Wf n (.nd bn k l r)) (hd : (Tr.nd bn k l r).blocks.Nodup) :
    CallsIn Fence.wide 0 Try.prog 32 #[.pointer (some ⟨bn, 0, none⟩), .int .i64 (32 - (n : Int)), .pointer (some ⟨B, 0, none⟩), .pointer (some ⟨K, 0, none⟩), .pointer (some ⟨V, 0, none⟩)] w fun e w' =>
      ∃ T', e = .returned T'.ptr ∧ Ch w w' n a a (32 - (n : Int)) kv (.nd bn k l r) T' := by
  obtain ⟨bx, bb, bk, bv⟩ := hE.cells
  have hC := ch_top (kv := kv) hn ha hT hw hd
  obtain ⟨⟨d0, d1, d2⟩, f0, f1, f2⟩ := nd_cells hT
  have heq := run_eq55 l r
  have HG := Lib.hid (show l.no = true → r.no = true → kv = false → Ch w (w.setCell ⟨bn, 2, none⟩ (.bool kv)) n a a (32 - (n : Int)) kv (.nd bn k l r) .e from fun h1 h2 h3 => by
    have e1 := no_e h1
    have e2 := no_e h2
    subst e1 e2 h3
    exact ch_gone hC)
  have HC := Lib.hid hC
  have H1 := Lib.hid (⟨rfl, rfl⟩ : l.ptr = l.ptr ∧ r.ptr = r.ptr)
  clear hC hE hT hw hd hn ha
  generalize l.ptr = pl at d0 heq
  generalize r.ptr = pr at d1 heq
  generalize l.no = tl at heq HG
  generalize r.no = tr at heq HG
  cases kv with
  | true =>
    refine callsIn_of_wp Try.func32 rfl trivial ?_
    simp only [Try.ntmps32, List.size_toArray, List.length_cons, List.length_nil, Nat.reduceAdd, Nat.reduceSub, Array.replicate_succ, Array.replicate_zero, List.push_toArray, List.append_toArray, List.nil_append, List.cons_append]
    gi_wp2_with fail
    go_ret
    exact ⟨_, rfl, HC.out⟩
  | false =>
    cases tl with
    | false =>
      refine callsIn_of_wp Try.func32 rfl trivial ?_
      simp only [Try.ntmps32, List.size_toArray, List.length_cons, List.length_nil, Nat.reduceAdd, Nat.reduceSub, Array.replicate_succ, Array.replicate_zero, List.push_toArray, List.append_toArray, List.nil_append, List.cons_append]
      gi_wp2_with fail
      go_ret
      exact ⟨_, rfl, HC.out⟩
    | true =>
      cases tr with
      | false =>
        refine callsIn_of_wp Try.func32 rfl trivial ?_
        simp only [Try.ntmps32, List.size_toArray, List.length_cons, List.length_nil, Nat.reduceAdd, Nat.reduceSub, Array.replicate_succ, Array.replicate_zero, List.push_toArray, List.append_toArray, List.nil_append, List.cons_append]
        gi_wp2_with fail
        go_ret
        exact ⟨_, rfl, HC.out⟩
      | true =>
        refine callsIn_of_wp Try.func32 rfl trivial ?_
        simp only [Try.ntmps32, List.size_toArray, List.length_cons, List.length_nil, Nat.reduceAdd, Nat.reduceSub, Array.replicate_succ, Array.replicate_zero, List.push_toArray, List.append_toArray, List.nil_append, List.cons_append]
        gi_wp2_with fail
        go_ret
        exact ⟨.e, rfl, HG.out (by first | rfl | trivial) (by first | rfl | trivial) (by first | rfl | trivial)⟩
set_option maxRecDepth 100000 in
/-- At the depth of the prefix, where there is no node. -/
theorem zero_e (n : Nat) (a : Int) (kv : Bool) (B K V : Nat) (w : World) (hn : n ≤ 32) (ha : a % 2 ^ n = 0) (hE : Ev w B K V a (32 - (n : Int)) kv) :
    CallsIn Fence.wide 0 Try.prog 32 #[.pointer none, .int .i64 (32 - (n : Int)), .pointer (some ⟨B, 0, none⟩), .pointer (some ⟨K, 0, none⟩), .pointer (some ⟨V, 0, none⟩)] w fun e w' =>
      ∃ T', e = .returned T'.ptr ∧ Ch w w' n a a (32 - (n : Int)) kv .e T' := by
  obtain ⟨bx, bb, bk, bv⟩ := hE.cells
  obtain ⟨lB, lK, lV⟩ := hE.lt
  have hC := ch_new _ (ch_top (kv := kv) hn ha (new_hd w) (wf_new n _) (nd_new _))
  have heq := run_eq55 .e .e
  have HG := Lib.hid (show kv = false → Ch w ((w.alloc (.cells #[.pointer none, .pointer none, .bool false] 57)).setCell ⟨w.heap.size, 2, none⟩ (.bool kv)) n a a (32 - (n : Int)) kv .e .e from fun h3 => by
    subst h3
    exact ch_gone hC)
  have HC := Lib.hid hC
  clear hC hE hn ha
  simp only [Tr.ptr, Tr.no, Bool.and_self] at heq
  cases kv with
  | true =>
    refine callsIn_of_wp Try.func32 rfl trivial ?_
    simp only [Try.ntmps32, List.size_toArray, List.length_cons, List.length_nil, Nat.reduceAdd, Nat.reduceSub, Array.replicate_succ, Array.replicate_zero, List.push_toArray, List.append_toArray, List.nil_append, List.cons_append]
    gi_wp2_with fail
    go_ret
    exact ⟨.nd w.heap.size true .e .e, rfl, by have h := HC.out; simp [go_sem] at h; exact h⟩
  | false =>
    refine callsIn_of_wp Try.func32 rfl trivial ?_
    simp only [Try.ntmps32, List.size_toArray, List.length_cons, List.length_nil, Nat.reduceAdd, Nat.reduceSub, Array.replicate_succ, Array.replicate_zero, List.push_toArray, List.append_toArray, List.nil_append, List.cons_append]
    gi_wp2_with fail
    go_ret
    exact ⟨.e, rfl, by have h := HG.out (by first | rfl | trivial); simp [go_sem] at h; exact h⟩
end Go.Proofs.Ytbfkpapankgndaa
