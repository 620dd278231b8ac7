/-
  The log as plain data, what of memory holds it, and the contracts of Clone, refusal, Turn, Room and Broken. Conditions: a log is there, rows are short.
-/
import Derived.Test.YtjkfgdeiciligaaOps
import Derived.Lib.SliceRun
set_option linter.unusedSimpArgs false
namespace Go.Proofs.Ytjkfgdeiciligaa
open Go.RowKit

/-- The log, as plain data. -/
structure Lk where
  size : Nat
  first : Nat
  turn : Nat
  fin : Nat
  recs : List (List Nat)
  broken : Bool

/-- The blocks of a log, besides those of its records. -/
def fs (F : Nat → Prop) (q : Nat) (rv : Value) : Nat → Prop := fun b => F b ∨ b = q ∨ rv.ownBlock = some b

/-- What of memory holds the log; F: the blocks of its disk. -/
structure Ls (w : World) (p q : Nat) (rv : Value) (L : Lk) (F : Nat → Prop) : Prop where
  blk : w.heap[q]? = some (.cells #[.pointer (some ⟨p, 0, none⟩), .int .i64 (L.size : Int), .int .i64 (L.first : Int), .int .i64 (L.turn : Int), .int .i64 (L.fin : Int), rv, .bool L.broken] 65 (0, 0))
  recs : Recs w (fs F q rv) rv L.recs
  nq : ¬ F q
  nr : ∀ g, rv.ownBlock = some g → ¬ F g ∧ g ≠ q

namespace Ls
variable {w w' : World} {p q : Nat} {rv : Value} {L : Lk} {F F' : Nat → Prop}
theorem cell (h : Ls w p q rv L F) (i : Nat) : w.cell? ⟨q, i, none⟩ = #[.pointer (some ⟨p, 0, none⟩), .int .i64 (L.size : Int), .int .i64 (L.first : Int), .int .i64 (L.turn : Int), .int .i64 (L.fin : Int), rv, .bool L.broken][i]? := by
  simp [World.cell?, h.blk]
theorem frozen (h : Ls w p q rv L F) (i : Nat) : w.frozen? ⟨q, i, none⟩ = false := by simp [World.frozen?, h.blk]
theorem qlt (h : Ls w p q rv L F) : q < w.heap.size := by
  obtain ⟨hlt, _⟩ := Array.getElem?_eq_some_iff.1 h.blk
  exact hlt
/-- What the disk does leaves the log. -/
theorem step (h : Ls w p q rv L F) (hs : Step w w' F F') : Ls w' p q rv L F' := by
  refine ⟨(hs.block q h.qlt h.nq).trans h.blk, h.recs.step hs (fun b hb => .inl hb) ?_ (fun g hg => (h.nr g hg).1), ?_, ?_⟩
  · rintro b (hb | hb | hb)
    · exact (hs.foot b hb).elim (fun e => .inl (.inl e)) .inr
    · exact .inl (.inr (.inl hb))
    · exact .inl (.inr (.inr hb))
  · intro hq
    rcases hs.foot q hq with e | e
    · exact h.nq e
    · have := h.qlt; omega
  · intro g hg
    refine ⟨fun hf => ?_, (h.nr g hg).2⟩
    rcases hs.foot g hf with e | e
    · exact (h.nr g hg).1 e
    · have := h.recs.lt hg; omega
theorem below (h : Ls w p q rv L F) (hb : Below w.heap.size w w') : Ls w' p q rv L F := h.step (Step.of_below hb F)
end Ls

/-- Why a record can't be written. -/
def rf6 (L : Lk) (n : Nat) (room : Int) : Int := if L.broken = true then 11 else if 16384 < n then 12 else if room < (sct n : Nat) then 4 else 0

set_option maxRecDepth 100000 in
theorem refusal6_any (p q : Nat) (rv : Value) (L : Lk) (F : Nat → Prop) (A : Option Addr) (n c : Nat) (room : Int) (w : World) (h : Ls w p q rv L F) (hn : n < 1000000000) :
    Calls Try.prog 33 #[.pointer (some ⟨q, 0, none⟩), .slice A n c, .int .i64 room] w fun e w' => e = .returned (.int .i64 (rf6 L n room)) ∧ w = w' := by
  have c6 : w.cell? ⟨q, 6, none⟩ = some (.bool L.broken) := h.cell 6
  have CS := Lib.hid fun n W h => sectors_any n W h
  clear h
  unfold rf6
  cases hb : L.broken
  · rw [hb] at c6
    rw [if_neg (by simp)]
    by_cases h1 : 16384 < n
    · rw [if_pos h1]
      have h1' : 16384 < (n : Int) := by omega
      clear h1
      go_enter Try.func33, Try.ntmps33
      go_wp2_with fail
      go_ret
      exact ⟨rfl, rfl⟩
    · rw [if_neg h1]
      have h1' : ¬ 16384 < (n : Int) := by omega
      clear h1
      by_cases h2 : room < (sct n : Nat)
      · rw [if_pos h2]
        go_enter Try.func33, Try.ntmps33
        go_wp2_with fail
        refine (CS.out n _ hn).mono ?_
        rintro e w1 ⟨rfl, rfl⟩
        go_wp2_with fail
        go_ret
        exact ⟨rfl, rfl⟩
      · rw [if_neg h2]
        go_enter Try.func33, Try.ntmps33
        go_wp2_with fail
        refine (CS.out n _ hn).mono ?_
        rintro e w1 ⟨rfl, rfl⟩
        go_wp2_with fail
        go_ret
        exact ⟨rfl, rfl⟩
  · rw [hb] at c6
    rw [if_pos rfl]
    go_enter Try.func33, Try.ntmps33
    go_wp2_with fail
    go_ret
    exact ⟨rfl, rfl⟩

section
variable {w : World} {p q : Nat} {rv : Value} {L : Lk} {F : Nat → Prop}
theorem turn_any (h : Ls w p q rv L F) : Calls Try.prog 22 #[.pointer (some ⟨q, 0, none⟩)] w fun e w' => e = .returned (.int .i64 (L.turn : Int)) ∧ w = w' := by
  have c3 : w.cell? ⟨q, 3, none⟩ = some (.int .i64 (L.turn : Int)) := h.cell 3
  clear h
  go_enter Try.func22, Try.ntmps22
  go_wp2_with fail
  go_ret
  exact ⟨rfl, rfl⟩
theorem broken_any (h : Ls w p q rv L F) : Calls Try.prog 17 #[.pointer (some ⟨q, 0, none⟩)] w fun e w' => e = .returned (.bool L.broken) ∧ w = w' := by
  have c3 : w.cell? ⟨q, 6, none⟩ = some (.bool L.broken) := h.cell 6
  clear h
  go_enter Try.func17, Try.ntmps17
  go_wp2_with fail
  go_ret
  exact ⟨rfl, rfl⟩
theorem room_any (h : Ls w p q rv L F) (h1 : L.size ≤ 1000) (h2 : L.fin ≤ 1000) : Calls Try.prog 16 #[.pointer (some ⟨q, 0, none⟩)] w fun e w' => e = .returned (.int .i64 ((L.size : Int) - (L.fin : Int))) ∧ Below w.heap.size w w' := by
  have c1 : w.cell? ⟨q, 1, none⟩ = some (.int .i64 (L.size : Int)) := h.cell 1
  have c4 : w.cell? ⟨q, 4, none⟩ = some (.int .i64 (L.fin : Int)) := h.cell 4
  clear h
  generalize L.size = a at *
  generalize L.fin = b at *
  have EW : IntKind.i64.wrap ((a : Int) - (b : Int)) = (a : Int) - (b : Int) := by rw [IntKind.wrap_i64]; omega
  go_enter Try.func16, Try.ntmps16
  go_upto_region 1 with fail
  go_still (by kernel_rfl)
  go_wp2_with fail
  go_ret
  exact ⟨rfl, (Below.refl _ w).drew⟩
end

theorem run_append_some (w : World) (base : Nat) (ty : TypeId) (v : Value) (n : Nat) (xs : List Nat) (hown : w.ownsRow base 5 1 v n (cel xs)) (hv : v ≠ .slice none 0 0) (x : Addr) (m c : Nat) (ys : List Nat) (hm : m = ys.length) (hr : Rd w (some x) ys) (hlen : n + m ≤ 140737488355328) (hbase : base ≤ w.heap.size) :
    ∃ g cap w', (Builtin.append_ #[33, 33] ty #[v, .slice (some x) m c]).run Try.prog w = .ok (.slice (some ⟨g, 0, none⟩) (n + m) cap) w' ∧
      w'.ownsRow base 5 1 (.slice (some ⟨g, 0, none⟩) (n + m) cap) (n + m) (cel (xs ++ ys)) ∧ w.grownBy w' v.ownBlock ∧ (v.ownBlock = some g ∨ g = w.heap.size) ∧ g < w'.heap.size := by
  subst hm
  obtain ⟨i, hi, hz0, hz1, hz2⟩ := info_parts info5
  obtain ⟨v', w', hrun, h2, h3, h4, h5⟩ := run_append_own_at (P := Try.prog) w base 33 ty 5 i (.int .u8 0) 1 1 Try.underlying33 hi hz0 hz1 hz2 rfl (by omega) v n (cel xs) hown x ys.length c (cel ys) (by rw [cel_length]; omega) hr.cells (cel_one ys) (by unfold maxLen; omega) (by omega) hbase
  rw [← cel_append] at h2
  rcases h2.2 with ⟨h, _⟩ | ⟨g, cap, cur, rfl, _, hh, _⟩
  · exact (hv (h4.1 h).1).elim
  · refine ⟨g, cap, w', hrun, h2, h3, ?_, (Array.getElem?_eq_some_iff.1 hh).1⟩
    rcases h5 with h5 | h5
    · exact .inl (by rw [← h5]; rfl)
    · exact .inr (by simpa [Value.ownBlock] using h5)
theorem wpList_append_some (w : World) {ops : Array Oper} {rest : List Oper} {o : Oper} {a : Act} {Q : Exit → Act → World → Prop} (hgd : o.guard = none) (s y : Operand) (ho : o.op = .call { callee := .builtin .append, args := #[s, y], argTypes := #[33, 33] })
    (base : Nat) (v : Value) (n : Nat) (xs : List Nat) (hs : a.eval s = v) (hown : w.ownsRow base 5 1 v n (cel xs)) (hv : v ≠ .slice none 0 0) (x : Addr) (m c : Nat) (ys : List Nat) (hx : a.eval y = .slice (some x) m c) (hm : m = ys.length) (hr : Rd w (some x) ys) (hlen : n + m ≤ 140737488355328) (hbase : base ≤ w.heap.size)
    (h : ∀ g cap w', w'.ownsRow base 5 1 (.slice (some ⟨g, 0, none⟩) (n + m) cap) (n + m) (cel (xs ++ ys)) → w.grownBy w' v.ownBlock → (v.ownBlock = some g ∨ g = w.heap.size) → g < w'.heap.size → wpList Try.prog ops Q rest (a.put o.dst (.slice (some ⟨g, 0, none⟩) (n + m) cap)) w') : wpList Try.prog ops Q (o :: rest) a w :=
  wpList_plain hgd fun _ hK => by
    obtain ⟨g, cap, w', hrun, h2, h3, h4, h5⟩ := run_append_some w base o.type v n xs hown hv x m c ys hm hr hlen hbase
    unfold Oper.wp execOp
    simp only [ho, resolve, invoke, builtin, Sem.run_bind, Sem.run_pure, Result.andThen_ok, List.map_toArray, List.map_cons, List.map_nil, hs, hx, hrun]
    exact hK _ _ (h g cap w' h2 h3 h4 h5)

/-- What Clone returns: the same bytes, in a block of their own. -/
def CPost (w : World) (zs : List Nat) (e : Ending) (w' : World) : Prop :=
  ∃ A c, e = .returned (.slice A zs.length c) ∧ Rd w' A zs ∧ zs.length ≤ c ∧ Below w.heap.size w w' ∧ ∀ x, A = some x → w.heap.size ≤ x.block ∧ x.block < w'.heap.size

set_option maxRecDepth 100000 in
theorem clone_any (A : Option Addr) (zs : List Nat) (c : Nat) (w : World) (h : Rd w A zs) : Calls Try.prog 35 #[.slice A zs.length c] w (CPost w zs) := by
  cases A with
  | none =>
    have hz : zs = [] := by
      rcases Nat.eq_zero_or_pos zs.length with h0 | h0
      · exact List.eq_nil_of_length_eq_zero h0
      · obtain ⟨x, hx, _⟩ := h.2.2 0 h0
        cases hx
    subst hz
    have EN := fun W => Lib.run_eql_slice_nil (P := Try.prog) W 33 5 none 0 c 0 0 Try.underlying33
    go_enter Try.func35, Try.ntmps35
    go_wp2_with fail
    go_ret
    exact ⟨none, 0, rfl, Rd.nil _ _, by simp, Below.refl _ _, fun x hx => by cases hx⟩
  | some x =>
    have hl := h.1
    have HR := Lib.hid (h.below ((Below.refl _ w).alloc (Nat.le_refl _) (.cells #[] 5)))
    have HB := Lib.hid h.2.1
    clear h
    have HL : Hid (zs.length = zs.length) := rfl
    have HO : Hid ((w.alloc (.cells #[] 5)).ownsRow w.heap.size 5 1 (.slice (some ⟨w.heap.size, 0, none⟩) 0 0) 0 (cel [])) := World.ownsRow_made w #[] 0 (Nat.le_refl _) (by unfold maxLen; omega) rfl
    have EN := fun W => Lib.run_eql_slice_nil (P := Try.prog) W 33 5 (some x) zs.length c 0 0 Try.underlying33
    go_enter Try.func35, Try.ntmps35
    go_wp2_with (at_builtin; refine wpList_append_some _ rfl (.tmp 5) (.tmp 6) rfl w.heap.size (.slice (some ⟨w.heap.size, 0, none⟩) 0 0) 0 [] rfl HO.out (by simp) x zs.length c zs rfl rfl HR.out (by omega) (by simp) ?_)
    intro g cap w1 hown hgrow hat hlt
    have HW := Lib.hid hown
    have HG := Lib.hid (((Below.refl w.heap.size w).alloc (Nat.le_refl _) (.cells #[] 5)).grown hgrow (by simp) (fun k hk => by simp [Value.ownBlock] at hk; omega))
    have HAT : Hid (w.heap.size ≤ g) := by
      show _ ≤ _
      rcases hat with hat | hat
      · simp [Value.ownBlock] at hat; omega
      · omega
    clear hown hgrow hat
    have hcap := Lib.hid (show zs.length ≤ cap by
      rcases HW.out.2 with ⟨h, _⟩ | ⟨g', cap', cur, hv, _, _, hle, _⟩
      · cases h
      · injection hv with _ _ hc
        omega)
    go_wp2_with fail
    go_ret
    exact ⟨some ⟨g, 0, none⟩, cap, rfl, (Rd.own HW.out HB.out hl).2, hcap.out, HG.out, fun y hy => by injection hy with hy; subst hy; exact ⟨HAT.out, hlt⟩⟩
end Go.Proofs.Ytjkfgdeiciligaa
