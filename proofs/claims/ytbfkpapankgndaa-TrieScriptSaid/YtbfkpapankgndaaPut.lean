/-
  The contracts of set, Put and Take: what becomes of a trie. Conditions: addresses are numbers of 32 bits; fewer than a million prefixes.
-/
import Derived.Test.YtbfkpapankgndaaSetStep
import Derived.Laws.EntriesVeiled
namespace Go.Proofs.Ytbfkpapankgndaa
open Go.RowKit

/-- What 'set' leaves. -/
structure Sd (w w' : World) (p : Nat) (x b : Int) (kv : Bool) (T T' : Tr) : Prop where
  blk : w'.heap[p]? = some (.cells #[T'.ptr, .int .i64 ((ent 32 0 T).length : Int)] 27 (0, 0))
  hd : Hd w' T'
  wf : Wf 32 T'
  nd : T'.blocks.Nodup
  out : p ∉ T'.blocks
  step : Step w w' (fp p T) (fp p T')
  upd : Upd x b kv (ent 32 0 T) (ent 32 0 T')

theorem sd_of {w w1 w3 : World} {p : Nat} {x b : Int} {kv : Bool} {T T' : Tr} (hT : Td w p T) (hb : Below w.heap.size w w1) (hc : Ch w1 w3 32 0 x b kv T T') : Sd w (w3.setCell ⟨p, 0, none⟩ T'.ptr) p x b kv T T' := by
  have h1 := hT.below hb
  have hp : w3.heap[p]? = some (.cells #[T.ptr, .int .i64 ((ent 32 0 T).length : Int)] 27 (0, 0)) := (hc.step.block p h1.plt h1.out).trans h1.blk
  have n1 : p ∉ T'.blocks := fun hm => (hc.step.foot p hm).elim h1.out (fun e => by have := h1.plt; omega)
  refine ⟨by rw [heap_setCell_same _ _ _ _ _ _ hp]; rfl, hc.hd.keep fun c hm => far hm n1, hc.wf, hc.nd, n1, ?_, hc.upd⟩
  have s0 := Step.of_below hb (fp p T)
  have s1 : Step w1 w3 (fp p T) (fp p T') := ⟨hc.step.os, hc.step.tape, hc.step.output, hc.step.size, fun c hcc hno => hc.step.block c hcc (fun hl => hno (.inr hl)), fun c hm => hm.elim (fun e => .inl (.inl e)) (fun hm => (hc.step.foot c hm).elim (fun hl => .inl (.inr hl)) .inr)⟩
  exact (s0.trans s1).setCell (a := ⟨p, 0, none⟩) (.inl rfl) _

set_option maxRecDepth 100000 in
theorem set_in (x b : Int) (kv : Bool) (p : Nat) (T : Tr) (w : World) (hT : Td w p T) (hx0 : 0 ≤ x) (hx1 : x < 4294967296) (hok : okB x b = true) :
    CallsIn Fence.wide 0 Try.prog 26 #[.pointer (some ⟨p, 0, none⟩), .agg #[.int .u32 x, .int .i64 b], .bool kv] w fun e w' => ∃ T', e = .returned (.tuple #[]) ∧ Sd w w' p x b kv T T' := by
  obtain ⟨hb0, hb1, hm⟩ := ok_out hok
  obtain ⟨m, rfl⟩ : ∃ m : Nat, b = (m : Int) := ⟨b.toNat, by omega⟩
  have c0 := hT.c0
  have c1 := hT.c1
  have fz := hT.f0
  have hp := hT.plt
  have hv : (((w.alloc (.cells #[.int .u32 x, .int .i64 m] 32)).alloc (.cells #[.bool kv] 4)).alloc (.cells #[.nilFunc] 66)).heap[w.heap.size + 1 + 1]? = some (.cells #[.nilFunc] 66 (0, 0)) := by
    have := World.alloc_heap_new ((w.alloc (.cells #[.int .u32 x, .int .i64 m] 32)).alloc (.cells #[.bool kv] 4)) (.cells #[.nilFunc] 66)
    rwa [World.size_alloc, World.size_alloc] at this
  have v0 : (((w.alloc (.cells #[.int .u32 x, .int .i64 m] 32)).alloc (.cells #[.bool kv] 4)).alloc (.cells #[.nilFunc] 66)).cell? ⟨w.heap.size + 1 + 1, 0, none⟩ = some .nilFunc := by
    unfold World.cell?
    rw [show (⟨w.heap.size + 1 + 1, 0, none⟩ : Addr).block = w.heap.size + 1 + 1 from rfl, hv]
    rfl
  have v1 : (((w.alloc (.cells #[.int .u32 x, .int .i64 m] 32)).alloc (.cells #[.bool kv] 4)).alloc (.cells #[.nilFunc] 66)).frozen? ⟨w.heap.size + 1 + 1, 0, none⟩ = false := by
    unfold World.frozen?
    rw [show (⟨w.heap.size + 1 + 1, 0, none⟩ : Addr).block = w.heap.size + 1 + 1 from rfl, hv]
    rfl
  obtain ⟨w1, hw1⟩ : ∃ w1, (((w.alloc (.cells #[.int .u32 x, .int .i64 m] 32)).alloc (.cells #[.bool kv] 4)).alloc (.cells #[.nilFunc] 66)).setCell ⟨w.heap.size + 1 + 1, 0, none⟩ (.func (.func 32) #[] #[.pointer (some ⟨w.heap.size, 0, none⟩), .pointer (some ⟨w.heap.size + 1, 0, none⟩), .pointer (some ⟨w.heap.size + 1 + 1, 0, none⟩)]) = w1 := ⟨_, rfl⟩
  have hB : Below w.heap.size w w1 := by
    rw [← hw1]
    exact ((((Below.refl _ w).alloc (Nat.le_refl _) _).alloc (by simp) _).alloc (by simp; omega) _).setCell (p := ⟨w.heap.size + 1 + 1, 0, none⟩) (by show w.heap.size ≤ w.heap.size + 1 + 1; omega) _
  have hE : Ev w1 w.heap.size (w.heap.size + 1) (w.heap.size + 1 + 1) x m kv := by
    rw [← hw1]
    refine ⟨?_, ?_, ?_⟩
    · rw [heap_setCell_other _ _ _ _ (by show ¬ w.heap.size = w.heap.size + 1 + 1; omega), Below.heap_alloc _ _ _ (by simp; omega), Below.heap_alloc _ _ _ (by simp), World.alloc_heap_new]
    · rw [heap_setCell_other _ _ _ _ (by show ¬ w.heap.size + 1 = w.heap.size + 1 + 1; omega), Below.heap_alloc _ _ _ (by simp)]
      have := World.alloc_heap_new (w.alloc (.cells #[.int .u32 x, .int .i64 m] 32)) (.cells #[.bool kv] 4)
      rwa [World.size_alloc] at this
    · rw [heap_setCell_same _ _ _ _ _ _ hv]; rfl
  have h1 := hT.below hB
  have HI := Lib.hid ((set_any w.heap.size (w.heap.size + 1) (w.heap.size + 1 + 1) x m kv hx0 hx1 m 32 0 0 T w1.drew (by omega) (by omega) (by omega) (by omega) (by simp) hx0 (by simpa using hx1) (by rw [p2_two (m := 32 - m) (by omega)] at hm; exact hm)
      (hE.keep rfl rfl rfl) (h1.hd.keep fun _ _ => rfl) h1.wf h1.nd).mono (R' := fun e w' => ∃ (T' : Tr) (q : Option Addr), e = .returned (.pointer q) ∧ Hid (T'.ptr = .pointer q ∧ Ch w1 w' 32 0 x m kv T T') ∧ w'.cell? ⟨p, 0, none⟩ = some T.ptr ∧ w'.frozen? ⟨p, 0, none⟩ = false)
    (fun e w' h => by
      obtain ⟨T', he, hc⟩ := h
      obtain ⟨q, hq⟩ : ∃ q, T'.ptr = .pointer q := by cases T' <;> exact ⟨_, rfl⟩
      have hpk : w'.heap[p]? = some (.cells #[T.ptr, .int .i64 ((ent 32 0 T).length : Int)] 27 (0, 0)) := (hc.step.block _ h1.plt h1.out).trans h1.blk
      exact ⟨T', q, by rw [he, hq], Lib.hid ⟨hq, hc.drew⟩, by simp [World.cell?, hpk], by simp [World.frozen?, hpk]⟩))
  have HEND := Lib.hid (fun (w3 : World) (T' : Tr) (hc : Ch w1 w3 32 0 x m kv T T') => sd_of hT hB hc)
  have w0 : w1.cell? ⟨w.heap.size + 1 + 1, 0, none⟩ = some (.func (.func 32) #[] #[.pointer (some ⟨w.heap.size, 0, none⟩), .pointer (some ⟨w.heap.size + 1, 0, none⟩), .pointer (some ⟨w.heap.size + 1 + 1, 0, none⟩)]) := hE.cells.2.2.2
  have w2 := h1.c0
  clear hE hB h1 hT hm hok hb0 hb1 hv
  generalize T.ptr = pt at *
  refine callsIn_of_wp Try.func26 rfl trivial ?_
  simp only [Try.ntmps26, List.size_toArray, List.length_cons, List.length_nil, Nat.reduceAdd, Nat.reduceSub, Array.replicate_succ, Array.replicate_zero, List.push_toArray, List.append_toArray, List.nil_append, List.cons_append]
  gi_upto_region 3 with fail
  refine wpIn_region_mx (fun i => i == 6 || i == 7 || i == 8 || i == 9) rfl (by kernel_rfl) ?_
  refine at_pure rfl (by kernel_rfl) (fun _ _ _ d _ h => by cases d <;> exact h) [0] 9 _ _ (by kernel_rfl) ?_
  simp only [opsAt, List.getElem?_toArray, List.getElem?_cons_zero, Option.toList_some, List.cons_append, List.nil_append]
  repeat (gi_big_quiet_step (fail))
  refine wpQuietIn_nil ?_
  refine at_quiet (by kernel_rfl) [1, 2, 3, 4, 5] 4 _ _ (by kernel_rfl) ?_
  simp only [opsAt, List.getElem?_toArray, List.getElem?_cons_zero, List.getElem?_cons_succ, Option.toList_some, List.cons_append, List.nil_append]
  repeat (gi_big_quiet_step (fail))
  refine wpQuietIn_nil ?_
  refine at_last [6, 7, 8, 9] _ _ _ (by kernel_rfl) (by kernel_rfl) ?_
  simp only [opsAt, List.getElem?_toArray, List.getElem?_cons_zero, List.getElem?_cons_succ, Option.toList_some, List.cons_append, List.nil_append]
  gi_wp2_with ((first | refine ⟨trivial, rfl, ?_⟩ | refine ⟨rfl, ?_⟩); gi_at_call 32; refine HI.out.mono ?_; clear HI; rintro e w3 ⟨T3, q, rfl, hc, k0, f3⟩)
  go_end0
  exact ⟨T3, rfl, by have h := HEND.out w3 T3 hc.out.2; rw [hc.out.1] at h; exact h⟩

theorem set9_any (x b : Int) (kv : Bool) (p : Nat) (T : Tr) (w : World) (hT : Td w p T) (hx0 : 0 ≤ x) (hx1 : x < 4294967296) (hok : okB x b = true) :
    Calls Try.prog 26 #[.pointer (some ⟨p, 0, none⟩), .agg #[.int .u32 x, .int .i64 b], .bool kv] w fun e w' => ∃ T', e = .returned (.tuple #[]) ∧ Sd w w' p x b kv T T' :=
  callsIn_wide.1 (set_in x b kv p T w hT hx0 hx1 hok)

theorem ent_nodup (T : Tr) : (ent 32 0 T).Nodup := nodup_of_sorted (ent_sorted 32 0 T (by omega) (by simp))
theorem perm_of {l m : List (Int × Int)} (hl : l.Nodup) (hm : m.Nodup) (h : ∀ y, y ∈ l ↔ y ∈ m) : l.Perm m := (List.perm_ext_iff_of_nodup hl hm).2 h
/-- One more. -/
theorem upd_more {T T' : Tr} {x b : Int} (h : Upd x b true (ent 32 0 T) (ent 32 0 T')) (hn : isIn T x b = false) : (ent 32 0 T').Perm ((x, b) :: ent 32 0 T) := by
  have hn' : (x, b) ∉ ent 32 0 T := by simpa [isIn] using hn
  refine perm_of (ent_nodup _) (List.nodup_cons.2 ⟨hn', ent_nodup _⟩) fun y => ?_
  rw [h y, List.mem_cons]
  by_cases hy : y = (x, b)
  · simp [hy]
  · simp [hy]
/-- One less. -/
theorem upd_less {T T' : Tr} {x b : Int} (h : Upd x b false (ent 32 0 T) (ent 32 0 T')) (hn : isIn T x b = true) : (ent 32 0 T).Perm ((x, b) :: ent 32 0 T') := by
  have hn' : (x, b) ∈ ent 32 0 T := by simpa [isIn] using hn
  have hq : (x, b) ∉ ent 32 0 T' := fun hm => by have := (h (x, b)).1 hm; simp at this
  refine perm_of (ent_nodup _) (List.nodup_cons.2 ⟨hq, ent_nodup _⟩) fun y => ?_
  rw [List.mem_cons, h y]
  by_cases hy : y = (x, b)
  · subst hy; simp [hn']
  · simp [hy]

/-- What Put tells. -/
def putC (T : Tr) (x b : Int) : Int := if okB x b = true then (if isIn T x b = true then 6 else 0) else 12
theorem td_count {w w' : World} {p : Nat} {x b : Int} {kv : Bool} {T T' : Tr} (h : Sd w w' p x b kv T T') (hf : (ent 32 0 T').length < 4611686018427387904) : Td (w'.setCell ⟨p, 1, none⟩ (.int .i64 ((ent 32 0 T').length : Int))) p T' :=
  ⟨by rw [heap_setCell_same _ _ _ _ _ _ h.blk]; rfl, h.hd.keep fun c hm => far hm h.out, h.wf, h.nd, h.out, hf⟩

/-- What Put leaves. -/
def PutR (w w' : World) (p : Nat) (x b : Int) (T : Tr) : Prop := ∃ T', Td w' p T' ∧ Step w w' (fp p T) (fp p T') ∧ (ent 32 0 T').Perm (if putC T x b = 0 then (x, b) :: ent 32 0 T else ent 32 0 T)

set_option maxRecDepth 100000 in
theorem put_any (x b : Int) (p : Nat) (T : Tr) (w : World) (hT : Td w p T) (hx0 : 0 ≤ x) (hx1 : x < 4294967296) (hfew : (ent 32 0 T).length < 1000000) :
    Calls Try.prog 12 #[.pointer (some ⟨p, 0, none⟩), .agg #[.int .u32 x, .int .i64 b]] w fun e w' => e = .returned (.int .i64 (putC T x b)) ∧ PutR w w' p x b T := by
  cases hok : okB x b
  · have HC := Lib.hid (show putC T x b = 12 by simp [putC, hok])
    have HR := Lib.hid fun W => right_no x b W hx0 hx1 hok
    have HT := Lib.hid hT
    clear hok hT
    go_enter Try.func12, Try.ntmps12
    go_wp2_with fail
    refine (HR.out _).mono ?_
    rintro e w1 ⟨rfl, hb⟩
    have HB := Lib.hid (below_box1 _ _ _ _ hb)
    clear hb
    go_wp2_with fail
    go_ret
    exact ⟨by rw [HC.out]; rfl, T, HT.out.below HB.out, Step.of_below HB.out _, by rw [HC.out]; simp⟩
  · have HR := Lib.hid fun W => right_yes x b W hx0 hx1 hok
    cases hin : isIn T x b
    · have HC := Lib.hid (show putC T x b = 0 by simp [putC, hok, hin])
      have HH := Lib.hid fun (W : World) (h : Td W p T) => (by have := has9_any x b h hx0 hx1; rwa [hin] at this : Calls Try.prog 10 #[.pointer (some ⟨p, 0, none⟩), .agg #[.int .u32 x, .int .i64 b]] W fun e w' => e = .returned (.bool false) ∧ Below W.heap.size W w')
      have HS := Lib.hid fun (W : World) (h : Td W p T) => set9_any x b true p T W h hx0 hx1 hok
      have HM := Lib.hid fun (T' : Tr) (h : Upd x b true (ent 32 0 T) (ent 32 0 T')) => upd_more h hin
      have HT := Lib.hid hT
      have hp := hT.plt
      clear hok hT hin
      go_enter Try.func12, Try.ntmps12
      go_wp2_with fail
      refine (HR.out _).mono ?_
      rintro e w1 ⟨rfl, hb⟩
      have HB := Lib.hid (below_box1 _ _ _ _ hb)
      obtain ⟨hc, hf⟩ := bcell hb
      have k0 : w1.cell? ⟨w.heap.size, 0, none⟩ = some (.int .u32 x) := (hc _ 0 (by simp)).trans (boxed x b w).1
      have k1 : w1.cell? ⟨w.heap.size, 1, none⟩ = some (.int .i64 b) := (hc _ 1 (by simp)).trans (boxed x b w).2
      have hs1 : w.heap.size < w1.heap.size := by have := hb.size; simp at this; omega
      clear hb hc hf
      go_wp2_with fail
      refine (HH.out _ (HT.out.below HB.out)).mono ?_
      rintro e w2 ⟨rfl, hb⟩
      have HB2 := Lib.hid (HB.out.trans (hb.mono HB.out.size))
      obtain ⟨hc, hf⟩ := bcell hb
      have k0' := (hc _ 0 hs1).trans k0
      have k1' := (hc _ 1 hs1).trans k1
      clear hb hc hf k0 k1
      go_wp2_with fail
      refine (HS.out _ (HT.out.below HB2.out)).mono ?_
      rintro e w3 ⟨T', rfl, hs⟩
      have hl := (HM.out T' hs.upd).length_eq
      rw [List.length_cons] at hl
      have c1 : w3.cell? ⟨p, 1, none⟩ = some (.int .i64 ((ent 32 0 T).length : Int)) := by simp [World.cell?, hs.blk]
      have f1 : w3.frozen? ⟨p, 1, none⟩ = false := by simp [World.frozen?, hs.blk]
      have HE := Lib.hid (td_count hs (by omega))
      rw [hl] at HE
      have HW := Lib.hid (((Step.of_below HB2.out (fp p T)).trans hs.step).setCell (a := ⟨p, 1, none⟩) (.inl rfl) (.int .i64 (((ent 32 0 T).length + 1 : Nat) : Int)))
      have HP := Lib.hid (HM.out T' hs.upd)
      have hw : wrap64 (((ent 32 0 T).length : Int) + 1) = ((ent 32 0 T).length : Int) + 1 := by unfold wrap64; omega
      clear hs hl
      generalize hN : (ent 32 0 T).length = N at *
      simp only [Int.natCast_add, Int.cast_ofNat_Int] at HE HW
      go_wp2_with fail
      go_ret
      exact ⟨by rw [HC.out]; rfl, T', HE.out, HW.out, by rw [HC.out]; exact HP.out⟩
    · have HC := Lib.hid (show putC T x b = 6 by simp [putC, hok, hin])
      have HH := Lib.hid fun (W : World) (h : Td W p T) => (by have := has9_any x b h hx0 hx1; rwa [hin] at this : Calls Try.prog 10 #[.pointer (some ⟨p, 0, none⟩), .agg #[.int .u32 x, .int .i64 b]] W fun e w' => e = .returned (.bool true) ∧ Below W.heap.size W w')
      have HT := Lib.hid hT
      clear hok hT hin
      go_enter Try.func12, Try.ntmps12
      go_wp2_with fail
      refine (HR.out _).mono ?_
      rintro e w1 ⟨rfl, hb⟩
      have HB := Lib.hid (below_box1 _ _ _ _ hb)
      obtain ⟨hc, hf⟩ := bcell hb
      have k0 : w1.cell? ⟨w.heap.size, 0, none⟩ = some (.int .u32 x) := (hc _ 0 (by simp)).trans (boxed x b w).1
      have k1 : w1.cell? ⟨w.heap.size, 1, none⟩ = some (.int .i64 b) := (hc _ 1 (by simp)).trans (boxed x b w).2
      clear hb hc hf
      go_wp2_with fail
      refine (HH.out _ (HT.out.below HB.out)).mono ?_
      rintro e w2 ⟨rfl, hb⟩
      have HB2 := Lib.hid (HB.out.trans (hb.mono HB.out.size))
      clear hb
      go_wp2_with fail
      go_ret
      exact ⟨by rw [HC.out]; rfl, T, HT.out.below HB2.out, Step.of_below HB2.out _, by rw [HC.out]; simp⟩
end Go.Proofs.Ytbfkpapankgndaa
