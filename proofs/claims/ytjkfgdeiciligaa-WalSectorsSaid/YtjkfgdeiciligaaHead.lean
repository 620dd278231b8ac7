/-
  Contracts of Sectors, putNumber, numberIn and headOf: what each returns, and what of memory turns. Conditions: lengths are small, numbers have their bits.
-/
import Derived.Test.YtjkfgdeiciligaaBytes
import Derived.StillTailTactics
import Derived.Lib.QuoteBits
set_option linter.unusedSimpArgs false
namespace Go.Proofs.Ytjkfgdeiciligaa
open Go.RowKit

/-- How many sectors a frame has. -/
def sct (n : Nat) : Nat := 1 + (n + 63) / 64

theorem sectors_any (n : Nat) (w : World) (h : n < 1000000000) : Calls Try.prog 25 #[.int .i64 n] w fun e w' => e = .returned (.int .i64 (sct n : Nat)) ∧ w = w' := by
  by_cases hz : n % 64 = 0
  · have E : (((n : Int) % 64)) = 0 := by omega
    have R := Lib.hid (show (1 : Int) + (n : Int) / 64 = ((sct n : Nat) : Int) by unfold sct; omega)
    clear hz
    go_enter Try.func25, Try.ntmps25
    go_wp2
    all_goals (go_ret; exact ⟨ret_int (by have := R.out; omega), rfl⟩)
  · have E : 0 < (((n : Int) % 64)) := by omega
    have R := Lib.hid (show (1 : Int) + (n : Int) / 64 + 1 = ((sct n : Nat) : Int) by unfold sct; omega)
    clear hz
    go_enter Try.func25, Try.ntmps25
    go_wp2
    all_goals (go_ret; exact ⟨ret_int (by have := R.out; omega), rfl⟩)

theorem need_any (n : Nat) (w : World) (h : n < 1000000000) : Calls Try.prog 14 #[.int .i64 n] w fun e w' => e = .returned (.int .i64 (sct n : Nat)) ∧ w = w' := by
  have R := Lib.hid (show (1 : Int) + ((n : Int) + 63) / 64 = ((sct n : Nat) : Int) by unfold sct; omega)
  go_enter Try.func14, Try.ntmps14
  go_wp2
  all_goals (go_ret; exact ⟨ret_int (by have := R.out; omega), rfl⟩)

/-- A sector's bytes with a number put in. -/
def pn (f : Nat → Nat) (o L n : Nat) : Nat → Nat := fun j => if o ≤ j ∧ j < o + L then n / 256 ^ (o + L - 1 - j) % 256 else f j

set_option maxRecDepth 100000 in
theorem putNumber_any (b o L c n : Nat) (f : Nat → Nat) (w : World) (hL : L ≤ 4) (ho : o + L ≤ 64) (hn : n < 4294967296) (h : w.rowIs b 52 64 (fun j => .int .u8 (f j : Int))) :
    Calls Try.prog 52 #[.slice (some ⟨b, o, none⟩) L c, .int .u32 n] w fun e w' => e = .returned (.tuple #[]) ∧ w'.rowIs b 52 64 (fun j => .int .u8 (pn f o L n j : Int)) ∧ Step w w' (· = b) (· = b) := by
  have H := Lib.hid h
  clear h
  go_enter Try.func52, Try.ntmps52
  go_wp2
  go_loopg [1, 4] L (fun m x i wr => ∃ q : Nat, q = m ∧ q ≤ L ∧ i = .int .i64 ((q : Int) - 1) ∧ x = .int .u32 ((n / 256 ^ (L - q) : Nat) : Int) ∧ Hid (wr.rowIs b 52 64 (fun j => .int .u8 ((if o + q ≤ j ∧ j < o + L then n / 256 ^ (o + L - 1 - j) % 256 else f j : Nat) : Int)) ∧ Step w wr (· = b) (· = b)))
  case atStart =>
    refine ⟨L, rfl, Nat.le_refl _, rfl, by simp, ?_, Step.refl _ _⟩
    exact H.out.congr fun j hj => by rw [if_neg (by omega)]
  case round =>
    clear H
    obtain ⟨q, rfl, hq, rfl, rfl, HH⟩ := hrel
    match q with
    | 0 =>
      go_wp2_with fail
      go_end0
      refine ⟨rfl, HH.out.1.congr fun j hj => ?_, HH.out.2⟩
      unfold pn
      rw [Nat.add_zero]
    | q + 1 =>
      obtain ⟨hr, hs⟩ := HH.out
      have hx : n / 256 ^ (L - (q + 1)) < 4294967296 := Nat.lt_of_le_of_lt (Nat.div_le_self _ _) hn
      have hxe : Hid (n / 256 ^ (L - (q + 1)) / 256 = n / 256 ^ (L - q)) := by
        show _ = _
        rw [Nat.div_div_eq_div_mul, ← Nat.pow_succ, show (L - (q + 1)).succ = L - q by omega]
      have hc := hr.cell (i := o + q) (by omega)
      have hf := hr.frozen (o + q)
      have HR := Lib.hid hr
      have HS := Lib.hid hs
      clear hr hs HH
      have HX := Lib.hid (show n / 256 ^ (L - (q + 1)) = n / 256 ^ (o + L - 1 - (o + q)) by rw [show L - (q + 1) = o + L - 1 - (o + q) by omega])
      generalize n / 256 ^ (L - (q + 1)) = x at *
      go_wp2
      go_roundg q
      case measure => omega
      case rel =>
        refine ⟨q, rfl, by omega, by go_num, by rw [← hxe.out]; go_num, (HR.out.set (o + q) _).congr fun j hj => ?_, HS.out.setCell rfl _⟩
        by_cases e : j = o + q
        · subst e; rw [if_pos rfl, if_pos (by omega), ← HX.out]; simp
        · rw [if_neg e]
          by_cases e2 : o + (q + 1) ≤ j ∧ j < o + L
          · rw [if_pos e2, if_pos (by omega)]
          · rw [if_neg e2, if_neg (by omega)]

theorem i64_or_nat (a b : Nat) (ha : a < 1099511627776) (hb : b < 1099511627776) : bits .or .i64 (a : Int) (b : Int) = ((a ||| b : Nat) : Int) := by
  have hx : a ||| b < 2 ^ 40 := Nat.or_lt_two_pow (by omega) (by omega)
  show IntKind.i64.wrap ((BitVec.ofInt 64 (a : Int) ||| BitVec.ofInt 64 (b : Int)).toNat : Int) = _
  rw [BitVec.toNat_or, ofInt_u64 a (by omega), ofInt_u64 b (by omega)]
  exact Lib.wrap_i64_small _ (by omega)
/-- The number that the first k bytes of a row make. -/
def bek (zs : List Nat) : Nat → Nat
  | 0 => 0
  | k + 1 => bek zs k * 256 + zs.getD k 0
theorem bek_lt {zs : List Nat} (h : Bs zs) : ∀ k, bek zs k < 256 ^ k
  | 0 => by simp [bek]
  | k + 1 => by
    have := bek_lt h k
    have := h k
    rw [bek, Nat.pow_succ]
    omega

set_option maxRecDepth 100000 in
theorem numberIn_any (A : Option Addr) (zs : List Nat) (c : Nat) (w : World) (hl : zs.length ≤ 4) (h : Rd w A zs) :
    Calls Try.prog 49 #[.slice A zs.length c] w fun e w' => e = .returned (.int .i64 (bek zs zs.length : Nat)) ∧ w = w' := by
  obtain ⟨_, hb, hc⟩ := h
  have HB := Lib.hid hb
  have HC := Lib.hid hc
  clear hb hc
  go_enter Try.func49, Try.ntmps49
  go_wp2
  go_loop [3, 8] (fun r i => ∃ k : Nat, k ≤ zs.length ∧ i = .int .i64 k ∧ r = .int .i64 (bek zs k : Nat)) (fun _ i => zs.length - (intOf i).toNat)
  case atStart => exact ⟨0, by omega, rfl, rfl⟩
  case round =>
    obtain ⟨k, hk, rfl, rfl⟩ := hrel
    have hr : bek zs k < 4294967296 := Nat.lt_of_lt_of_le (bek_lt HB.out k) (Nat.pow_le_pow_right (n := 256) (j := 4) (by omega) (by omega))
    by_cases hlt : k < zs.length
    · obtain ⟨x, rfl, h1⟩ := HC.out k hlt
      have b1 := HB.out k
      have HR := Lib.hid (show bek zs (k + 1) = bek zs k * 256 + zs.getD k 0 from rfl)
      generalize zs.getD k 0 = a at *
      generalize bek zs k = r at *
      have X := Lib.hid (show bits .or .i64 ((r : Int) * 256) (a : Int) = ((r * 256 + a : Nat) : Int) by
        rw [show (r : Int) * 256 = ((256 * r : Nat) : Int) by omega, i64_or_nat (256 * r) a (by omega) (by omega), nat_join 8 _ _ (by omega) (by omega)]; omega)
      go_wp2_with fail
      go_round
      case rel => exact ⟨k + 1, by omega, by go_num, by rw [HR.out, X.out]⟩
      case measure => simp [intOf]; omega
    · obtain rfl : k = zs.length := by omega
      go_wp2
      go_ret
      exact ⟨rfl, rfl⟩

theorem still {f : FuncId} {args : Array Value} {w : World} {v : Value} (h : Calls Try.prog f args w fun e w' => e = .returned v ∧ w = w') : Calls Try.prog f args w fun e w' => e = .returned v ∧ w' = w := h.mono fun _ _ ⟨a, b⟩ => ⟨a, b.symm⟩
theorem Rd.drew {w : World} {A : Option Addr} {zs : List Nat} (h : Rd w A zs) : Rd w.drew A zs := h
/-- The bytes of a head. -/
def hd (kind number : Nat) (zs : List Nat) : Nat → Nat := fun j =>
  if j < 2 then zs.length / 256 ^ (1 - j) % 256 else if j < 6 then number / 256 ^ (5 - j) % 256 else if j < 10 then chk zs / 256 ^ (9 - j) % 256 else if j = 10 then kind else if j = 11 then 197 else 0
theorem rowIs_step {w w' : World} {b n : Nat} {t : TypeId} {f : Nat → Value} {F F' : Nat → Prop} (h : w.rowIs b t n f) (hs : Step w w' F F') (hb : ¬ F b) : w'.rowIs b t n f := h.of_block (hs.block b h.lt hb)

/-- What can be read stays so where the blocks that may have turned are others. -/
theorem Rd.step {w w' : World} {A : Option Addr} {zs : List Nat} {F F' : Nat → Prop} (h : Rd w A zs) (hs : Step w w' F F') (hA : ∀ x, zs ≠ [] → A = some x → ¬ F x.block) : Rd w' A zs := by
  refine ⟨h.1, h.2.1, fun k hk => ?_⟩
  obtain ⟨x, hx, hc⟩ := h.2.2 k hk
  have hb : (x.add k).block = x.block := by unfold Addr.add; split <;> rfl
  refine ⟨x, hx, ?_⟩
  rw [World.cell?_of_block (hs.block _ (World.block_lt_of_cell? _ _ hc) (by rw [hb]; exact hA x (fun e => by rw [e] at hk; simp at hk) hx))]
  exact hc

set_option maxHeartbeats 1000000 in
set_option maxRecDepth 100000 in
theorem headOf_any (kind number : Nat) (A : Option Addr) (zs : List Nat) (c : Nat) (w : World) (hn : number < 4294967296) (hl : zs.length < 65536) (h : Rd w A zs) :
    Calls Try.prog 47 #[.int .u8 kind, .int .i64 number, .slice A zs.length c] w fun e w' => e = .returned (sv (hd kind number zs)) ∧ Below w.heap.size w w' := by
  have HC := Lib.hid fun W (h : Rd W A zs) => check_any A zs c W h
  have HP := Lib.hid fun b o L c n f W hL ho hn h => putNumber_any b o L c n f W hL ho hn h
  have HR := Lib.hid (((h.below ((Below.refl _ w).alloc (Nat.le_refl _) Z64))).below ((Below.refl _ (w.alloc Z64)).alloc (Nat.le_refl _) Z64))
  have R0 := Lib.hid ((rowZ w).alloc Z64)
  have R1 := Lib.hid (rowZ (w.alloc Z64))
  have hck := chk_lt h.2.1
  have HX := Lib.hid h
  clear h
  go_enter Try.func47, Try.ntmps47
  go_wp2_with (refine at_alloc38 rfl rfl ?_)
  have L1 : w.heap.size < (w.alloc Z64).heap.size := by simp
  have L2 : (w.alloc Z64).heap.size = w.heap.size + 1 := by simp
  rw [L2] at R1
  have BB := Lib.hid (((Below.refl w.heap.size w).alloc (Nat.le_refl _) Z64).alloc (by simp) Z64)
  have hA : Hid (∀ x, zs ≠ [] → A = some x → x.block < w.heap.size) := fun x hz hx => by
    obtain ⟨y, hy, hc⟩ := HX.out.2.2 0 (List.length_pos_iff.2 hz)
    rw [hx] at hy
    injection hy with hy
    subst hy
    exact World.block_lt_of_cell? _ _ hc
  refine (HP.out _ _ _ _ _ zer _ (by omega) (by omega) (by omega) R1.out).mono ?_
  rintro e w1 ⟨rfl, r1, s1⟩
  have R1' := Lib.hid r1
  have R0' := Lib.hid (rowIs_step R0.out s1 (by omega))
  have HR' := Lib.hid (HR.out.step s1 (fun x hz hx e => by have := hA.out x hz hx; omega))
  have S1 := Lib.hid s1
  clear r1 s1 R1 R0 HR
  go_wp2_with fail
  refine (HP.out _ _ _ _ _ _ _ (by omega) (by omega) (by omega) R1'.out).mono ?_
  rintro e w2 ⟨rfl, r2, s2⟩
  have R2 := Lib.hid r2
  have Q2 := Lib.hid (rowIs_step R0'.out s2 (by omega))
  have H2 := Lib.hid (HR'.out.step s2 (fun x hz hx e => by have := hA.out x hz hx; omega))
  have S2 := Lib.hid (S1.out.trans s2)
  clear r2 s2 R1' R0' HR' S1
  go_upto_region 4 with fail
  refine wp_region_still_tail 3 (by kernel_rfl) (by kernel_rfl) ?_
  simp only [List.take_succ_cons, List.take_zero, List.drop_succ_cons, List.drop_zero]
  still_step
  still_step
  still_call (still (HC.out _ H2.out.drew))
  refine wpStill_nil ?_
  change wpList _ _ _ _ _ w2.drew
  have R2' := Lib.hid (show w2.drew.rowIs _ 52 64 _ from R2.out)
  have Q2' := Lib.hid (show w2.drew.rowIs _ 52 64 _ from Q2.out)
  have S2' := Lib.hid (S2.out.drew)
  clear R2 Q2 S2 H2
  generalize w2.drew = w3 at *
  go_wp2_with fail
  refine (HP.out _ _ _ _ _ _ _ (by omega) (by omega) hck R2'.out).mono ?_
  rintro e w4 ⟨rfl, r4, s4⟩
  have Q4 := Lib.hid (rowIs_step Q2'.out s4 (by omega))
  have S4 := Lib.hid (S2'.out.trans s4)
  clear s4 R2' Q2' S2'
  have c10 := r4.cell (i := 10) (by omega)
  have f10 := r4.frozen 10
  have c11 := (r4.set 10 (.int .u8 kind)).cell (i := 11) (by omega)
  have f11 := (r4.set 10 (.int .u8 kind)).frozen 11
  have r6 := (r4.set 10 (.int .u8 kind)).set 11 (.int .u8 197)
  have Q6 := (Q4.out.setOther (a := ⟨w.heap.size + 1, 10, none⟩) (by show w.heap.size ≠ w.heap.size + 1; omega) (.int .u8 kind)).setOther (a := ⟨w.heap.size + 1, 11, none⟩) (by show w.heap.size ≠ w.heap.size + 1; omega) (.int .u8 197)
  have S6 := Lib.hid ((S4.out.setCell (a := ⟨w.heap.size + 1, 10, none⟩) rfl (.int .u8 kind)).setCell (a := ⟨w.heap.size + 1, 11, none⟩) rfl (.int .u8 197))
  have HL := rowIs_range (s := hd kind number zs) r6 rfl (fun j hj => by
    simp only [pn, hd, zer]
    by_cases e1 : j = 11
    · subst e1; simp
    by_cases e2 : j = 10
    · subst e2; simp
    rw [if_neg e1, if_neg e2, if_neg e1, if_neg e2]
    congr 2
    by_cases h1 : j < 2
    · rw [if_neg (by omega), if_neg (by omega), if_pos (by omega), if_pos h1, show 0 + 2 - 1 - j = 1 - j by omega]
    · by_cases h2 : j < 6
      · rw [if_neg (by omega), if_pos (by omega), if_neg h1, if_pos h2, show 2 + 4 - 1 - j = 5 - j by omega]
      · by_cases h3 : j < 10
        · rw [if_pos (by omega), if_neg h1, if_neg h2, if_pos h3, show 6 + 4 - 1 - j = 9 - j by omega]
        · rw [if_neg (by omega), if_neg (by omega), if_neg (by omega), if_neg h1, if_neg h2, if_neg h3])
  have HT := rowIs_there Q6 (o := 0) (m := 64) (by omega)
  clear r4 r6 Q6 Q4
  have HRn := Lib.hid (loadVar38 (World.rangeAt_setCells_same _ w.heap.size 0 (sc (hd kind number zs)) (by rw [sc_length]; exact HT)))
  go_wp2_with (first | (refine at_load38 _ rfl rfl _ _ _ rfl HL ?_) | (refine at_store38 _ _ rfl rfl _ _ _ rfl rfl HT ?_))
  refine bodyPost_ret (results_cell rfl _ _ _ _ rfl HRn.out) rfl ?_
  refine ⟨rfl, ?_⟩
  refine below_setCells w.heap.size _ 0 ?_ (Nat.le_refl _)
  exact BB.out.trans (S6.out.below (by simp; omega) (by rintro b rfl; omega))
end Go.Proofs.Ytjkfgdeiciligaa
