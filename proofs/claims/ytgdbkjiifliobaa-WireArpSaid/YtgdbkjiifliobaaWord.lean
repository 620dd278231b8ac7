/-
  Contracts of package wire's inner functions on words and addresses (wordOf, addrOf, putWord, putAddr, kindOf), and of mac.None and mac.Group. Conditions: rows are long enough, numbers have their bits.
-/
import Derived.Test.YtgdbkjiifliobaaBytes
import Derived.Lib.QuietBelow
import Derived.StillTailTactics
namespace Go.Proofs.Ytgdbkjiifliobaa
open Go.RowKit

theorem bcell {W w1 : World} (hb : Below W.heap.size W w1) : (∀ b o, b < W.heap.size → w1.cell? ⟨b, o, none⟩ = W.cell? ⟨b, o, none⟩) ∧ (∀ b o, b < W.heap.size → w1.frozen? ⟨b, o, none⟩ = W.frozen? ⟨b, o, none⟩) :=
  ⟨fun b o h => hb.cell (p := ⟨b, o, none⟩) h, fun b o h => hb.frozen (p := ⟨b, o, none⟩) h⟩

theorem wordOf_any (x : Addr) (n a b c : Nat) (w : World) (hn : 2 ≤ n) (ha : a < 256) (hb : b < 256) (h0 : w.cell? x = some (.int .u8 (a : Int))) (h1 : w.cell? ⟨x.block, x.off + 1, none⟩ = some (.int .u8 (b : Int))) :
    Calls Try.prog 28 #[.slice (some x) n c] w fun e w' => e = .returned (.int .u16 ((256 * a + b : Nat) : Int)) ∧ ∃ m, w' = w.drewN m := by
  have X := Lib.hid (show bits .or .u16 ((a : Int) * 256) (b : Int) = ((256 * a + b : Nat) : Int) by
      rw [show (a : Int) * 256 = ((256 * a : Nat) : Int) by omega, u16_or_nat (256 * a) b (by omega) (by omega), nat_join 8 _ _ (by omega) (by omega)])
  go_enter Try.func28, Try.ntmps28
  go_wp2
  go_quiet (fail)
  go_wp2
  go_ret
  exact ⟨ret_int X.out, nq, rfl⟩

theorem drewN_drewN (w : World) (m n : Nat) : (w.drewN m).drewN n = w.drewN (m + n) := by simp [World.drewN, Nat.add_assoc]
/-- A callee that only draws, where the world has drawn already. -/
theorem q_drew {P : Program} {f : FuncId} {args : Array Value} {w : World} {n : Nat} {v : Value} (h : Calls P f args (w.drewN n) fun e w' => e = .returned v ∧ ∃ m, w' = (w.drewN n).drewN m) :
    Calls P f args (w.drewN n) fun e w'' => e = .returned v ∧ ∃ m, w'' = w.drewN m := h.mono fun _ _ ⟨he, m, hm⟩ => ⟨he, n + m, by rw [hm, drewN_drewN]⟩

theorem addrOf_any (x : Addr) (n a b c d cap : Nat) (w : World) (hn : 4 ≤ n) (hc : n ≤ cap) (ha : a < 256) (hb : b < 256) (hc2 : c < 256) (hd : d < 256) (h0 : w.cell? x = some (.int .u8 (a : Int))) (h1 : w.cell? ⟨x.block, x.off + 1, none⟩ = some (.int .u8 (b : Int)))
    (h2 : w.cell? ⟨x.block, x.off + 2, none⟩ = some (.int .u8 (c : Int))) (h3 : w.cell? ⟨x.block, x.off + 3, none⟩ = some (.int .u8 (d : Int))) :
    Calls Try.prog 25 #[.slice (some x) n cap] w fun e w' => e = .returned (.int .u32 ((65536 * (256 * a + b) + (256 * c + d) : Nat) : Int)) ∧ ∃ m, w' = w.drewN m := by
  have X := Lib.hid (show bits .or .u32 (((256 * a + b : Nat) : Int) * 65536) ((256 * c + d : Nat) : Int) = ((65536 * (256 * a + b) + (256 * c + d) : Nat) : Int) by
      rw [show ((256 * a + b : Nat) : Int) * 65536 = ((65536 * (256 * a + b) : Nat) : Int) by omega, u32_or_nat (65536 * (256 * a + b)) (256 * c + d) (by omega) (by omega), nat_join 16 _ _ (by omega) (by omega)])
  have W1 := Lib.hid fun N => q_drew (wordOf_any x n a b cap (w.drewN N) (by omega) ha hb h0 h1)
  have W2 := Lib.hid fun N => q_drew (wordOf_any ⟨x.block, x.off + 2, none⟩ (n - 2) c d (cap - 2) (w.drewN N) (by omega) hc2 hd h2 h3)
  have hz : ¬ cap = 2 := by omega
  obtain ⟨u, hu⟩ : ∃ u, u = 256 * a + b := ⟨_, rfl⟩
  obtain ⟨v, hv⟩ : ∃ v, v = 256 * c + d := ⟨_, rfl⟩
  have hu1 : u < 65536 := by omega
  have hv1 : v < 65536 := by omega
  rw [← hu] at X W1
  rw [← hv] at X W2
  rw [← hu, ← hv]
  clear hu hv h0 h1 h2 h3
  go_enter Try.func25, Try.ntmps25
  go_wp2
  go_quiet ((go_at_call 28; first | (with_reducible exact W1.out _) | (with_reducible exact W2.out _)))
  go_wp2
  go_ret
  exact ⟨ret_int X.out, nq, rfl⟩

/-- A row of bytes of the call's own, in block g, that may be written. -/
def Ow (base g n : Nat) (zs : List Nat) (w : World) : Prop := w.ownsRow base 5 1 (.slice (some ⟨g, 0, none⟩) n n) n (cel zs) ∧ Bs zs ∧ n ≤ 4096
theorem Ow.len {base g n : Nat} {zs : List Nat} {w : World} (h : Ow base g n zs w) : zs.length = n := by have := h.1.1; rw [cel_length] at this; omega
theorem Ow.cell {base g n : Nat} {zs : List Nat} {w : World} (h : Ow base g n zs w) {k : Nat} (hk : k < n) : w.cell? ⟨g, k, none⟩ = some (.int .u8 ((zs.getD k 0 : Nat) : Int)) :=
  (h.1.cellAt _ (by omega)).trans (cel_at (by rw [h.len]; exact hk))
theorem Ow.frozen {base g n : Nat} {zs : List Nat} {w : World} (h : Ow base g n zs w) (k : Nat) : w.frozen? ⟨g, k, none⟩ = false := h.1.frozenAt k
theorem Ow.set {base g n : Nat} {zs : List Nat} {w : World} (h : Ow base g n zs w) {k v : Nat} (hk : k < n) (hv : v < 256) : Ow base g n (zs.set k v) (w.setCell ⟨g, k, none⟩ (.int .u8 (v : Int))) :=
  ⟨by rw [cel_set]; exact (h.1.stored k (.int .u8 (v : Int))).1, h.2.1.set (by rw [h.len]; exact hk) hv, h.2.2⟩
theorem Ow.block {base g n : Nat} {zs : List Nat} {w : World} (h : Ow base g n zs w) (_hn : 0 < n) : base ≤ g ∧ g < w.heap.size := h.1.lt g rfl
theorem Ow.below {base g n : Nat} {zs : List Nat} {w w' : World} (h : Ow base g n zs w) (hn : 0 < n) (hb : Below w.heap.size w w') : Ow base g n zs w' := by
  refine ⟨?_, h.2⟩
  have hl := (h.block hn).2
  rcases h.1.2 with ⟨h0, _⟩ | ⟨g', cap', cur, h1, h2, h3⟩
  · cases h0
  · refine ⟨h.1.1, .inr ⟨g', cap', cur, h1, h2, ?_⟩⟩
    injection h1 with h1
    injection h1 with h1
    injection h1 with h1
    subst h1
    rw [hb.block _ hl]
    exact h3
theorem Ow.drewN {base g n : Nat} {zs : List Nat} {w : World} (h : Ow base g n zs w) (m : Nat) : Ow base g n zs (w.drewN m) := h
theorem Ow.drew {base g n : Nat} {zs : List Nat} {w : World} (h : Ow base g n zs w) : Ow base g n zs w.drew := h
theorem Ow.rd {base g n : Nat} {zs : List Nat} {w : World} (h : Ow base g n zs w) : Rd w (some ⟨g, 0, none⟩) zs := (Rd.own h.1 h.2.1 (by have := h.len; have := h.2.2; omega)).2

theorem putWord_any (base g n k L c v : Nat) (zs : List Nat) (w : World) (h : Ow base g n zs w) (hk : k + 1 < n) (hL : 2 ≤ L) (hv : v < 65536) :
    Calls Try.prog 26 #[.slice (some ⟨g, k, none⟩) L c, .int .u16 (v : Int)] w fun e w' => e = .returned (.tuple #[]) ∧ Ow base g n ((zs.set k (v / 256)).set (k + 1) (v % 256)) w' ∧ Below base w w' := by
  have e0 := h.cell (k := k) (by omega)
  have e1 := h.cell hk
  have f0 := h.frozen k
  have f1 := h.frozen (k + 1)
  have H := Lib.hid ((h.set (k := k) (v := v / 256) (by omega) (by omega)).set (k := k + 1) (v := v % 256) hk (by omega))
  have B := Lib.hid (((Below.refl base w).setCell (p := ⟨g, k, none⟩) (h.block (by omega)).1 (.int .u8 ((v / 256 : Nat) : Int))).setCell (p := ⟨g, k + 1, none⟩) (h.block (by omega)).1 (.int .u8 ((v % 256 : Nat) : Int)))
  clear h
  generalize zs.getD k 0 = y0 at *
  generalize zs.getD (k + 1) 0 = y1 at *
  go_enter Try.func26, Try.ntmps26
  go_wp2
  go_end0
  exact ⟨rfl, H.out, B.out⟩

/-- Four bytes of an address, laid at a place. -/
def put4 (zs : List Nat) (k v : Nat) : List Nat := (((zs.set k (v / 65536 / 256)).set (k + 1) (v / 65536 % 256)).set (k + 2) (v % 65536 / 256)).set (k + 2 + 1) (v % 65536 % 256)
theorem putAddr_any (base g n k L c v : Nat) (zs : List Nat) (w : World) (h : Ow base g n zs w) (hk : k + 3 < n) (hL : 4 ≤ L) (hc : L ≤ c) (hv : v < 4294967296) :
    Calls Try.prog 23 #[.slice (some ⟨g, k, none⟩) L c, .int .u32 (v : Int)] w fun e w' => e = .returned (.tuple #[]) ∧ Ow base g n (put4 zs k v) w' ∧ Below base w w' := by
  have C1 := Lib.hid (putWord_any base g n k L c (v / 65536) zs w h (by omega) (by omega) (by omega))
  have C2 := Lib.hid fun zs w (h : Ow base g n zs w) => putWord_any base g n (k + 2) (L - 2) (c - 2) (v % 65536) zs w h (by omega) (by omega) (by omega)
  have hz : ¬ c = 2 := by omega
  clear h
  go_enter Try.func23, Try.ntmps23
  go_wp2_with fail
  refine C1.out.mono ?_
  rintro e w1 ⟨rfl, h1, b1⟩
  have H1 := Lib.hid h1
  have B1 := Lib.hid b1
  clear h1 b1
  go_wp2_with fail
  refine (C2.out _ _ H1.out).mono ?_
  rintro e w2 ⟨rfl, h2, b2⟩
  have H2 := Lib.hid h2
  have B2 := Lib.hid b2
  clear h2 b2
  go_wp2_with fail
  go_end0
  exact ⟨rfl, H2.out, B1.out.trans B2.out⟩

theorem kindOf_any (A : Bool) (F T : Int) (m0 m1 m2 m3 m4 m5 i s : Int) (p q : Int) (w : World) :
    Calls Try.prog 22 #[.agg #[.bool A, .int .u32 F, .int .u32 T, .int .u8 m0, .int .u8 m1, .int .u8 m2, .int .u8 m3, .int .u8 m4, .int .u8 m5, .int .i64 i, .int .i64 s], .int .u8 p, .int .u8 q] w
      fun e w' => e = .returned (.int .u8 (if A = true then q else p)) ∧ Below w.heap.size w w' := by
  cases A
  all_goals
    go_enter Try.func22, Try.ntmps22
    go_wp2
    go_ret
    exact ⟨rfl, (Below.refl _ _).alloc (Nat.le_refl _) _⟩
end Go.Proofs.Ytgdbkjiifliobaa
