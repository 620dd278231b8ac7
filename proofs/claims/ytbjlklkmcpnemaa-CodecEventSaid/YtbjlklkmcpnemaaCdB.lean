/-
  Bytes: rows of them, and rows of the call's own that grow by them, in place or not. No condition.
-/
import Derived.Test.YtbjlklkmcpnemaaGCsCat
import Derived.Lib.AppendStr
import Derived.Laws.IdiomStrings
set_option linter.unusedSimpArgs false
set_option linter.unusedVariables false
namespace Go.Proofs.Ytbjlklkmcpnemaa
open Go.RowKit

/-- A byte as an element of a row. -/
def eB : El UInt8 := ⟨fun u => [.int .u8 (u.toNat : Int)], 1, by decide, fun _ => rfl, by
  intro x u hu
  simp at hu
  subst hu
  rfl⟩
theorem infoB : (Try.prog.info? 5).map (fun i => (i.zero, i.size, i.bytes)) = some (some (.int .u8 0), 1, 1) := by kernel_rfl
theorem tB : Ty eB 37 5 := ⟨Try.underlying37, by
  obtain ⟨i, hi, h1, h2, h3⟩ := info_parts infoB
  exact ⟨i, .int .u8 0, 1, hi, h1, h2, h3, rfl, by decide⟩⟩
def bs (l : List UInt8) : List Value := eB.cs l
theorem bs_app (a b : List UInt8) : bs (a ++ b) = bs a ++ bs b := cs_append a b
theorem bs_str (s : ByteArray) : bs s.data.toList = Lib.strCells s := by
  unfold bs El.cs Lib.strCells eB
  generalize s.data.toList = l
  induction l with
  | nil => rfl
  | cons a l ih => simp [List.flatMap_cons, ih]
/-- The last byte of a number. -/
def byt (n : Int) : UInt8 := UInt8.ofNat (n % 256).toNat
theorem byt_nat (n : Int) : ((byt n).toNat : Int) = n % 256 := by
  unfold byt
  rw [UInt8.toNat_ofNat']
  omega
/-- The last bytes of a number, the most significant one first. -/
def nb : Nat → Int → List UInt8
  | 0, _ => []
  | k + 1, n => byt (n / 2 ^ (8 * k)) :: nb k n
theorem nb_length (k : Nat) (n : Int) : (nb k n).length = k := by
  induction k with
  | zero => rfl
  | succ k ih => simp [nb, ih]
/-- Those but the last k of them. -/
def nh (s k : Nat) (n : Int) : List UInt8 := (nb s n).take (s - k)
theorem nb_get {s j : Nat} (n : Int) (h : j < s) : (nb s n)[j]? = some (byt (n / 2 ^ (8 * (s - 1 - j)))) := by
  induction s generalizing j with
  | zero => omega
  | succ s ih =>
    cases j with
    | zero => simp [nb]
    | succ j =>
      rw [nb, List.getElem?_cons_succ, ih (by omega)]
      rw [show s + 1 - 1 - (j + 1) = s - 1 - j by omega]
theorem nh_all (s : Nat) (n : Int) : nh s s n = [] := by unfold nh; rw [Nat.sub_self]; rfl
theorem nh_none (s : Nat) (n : Int) : nh s 0 n = nb s n := by
  unfold nh
  rw [List.take_of_length_le]
  rw [nb_length]
  omega
theorem nh_step {s k : Nat} (n : Int) (h : k + 1 ≤ s) : nh s k n = nh s (k + 1) n ++ [byt (n / 2 ^ (8 * k))] := by
  unfold nh
  rw [show s - k = (s - (k + 1)) + 1 by omega, List.take_add_one, nb_get n (by omega)]
  rw [show s - 1 - (s - (k + 1)) = k by omega]
  rfl
theorem nh_length {s k : Nat} (n : Int) (h : k ≤ s) : (nh s k n).length = s - k := by
  unfold nh
  rw [List.length_take, nb_length]
  omega
/-! ### A row of the call's own that is handed to a call, and comes back longer -/
/-- What a call that makes row v into row v' leaves as it was. -/
structure Gw (w w' : World) (v v' : Value) : Prop where
  os : w'.os = w.os
  tape : w'.tape = w.tape
  output : w'.output = w.output
  size : w.heap.size ≤ w'.heap.size
  block : ∀ k, k < w.heap.size → some k ≠ v.ownBlock → w'.heap[k]? = w.heap[k]?
  new : ∀ k, v'.ownBlock = some k → v.ownBlock = some k ∨ w.heap.size ≤ k
theorem Gw.refl (w : World) (v : Value) : Gw w w v v := ⟨rfl, rfl, rfl, Nat.le_refl _, fun _ _ _ => rfl, fun _ h => .inl h⟩
theorem Gw.trans {a b c : World} {u v x : Value} (h : Gw a b u v) (k : Gw b c v x) : Gw a c u x := by
  refine ⟨k.os.trans h.os, k.tape.trans h.tape, k.output.trans h.output, Nat.le_trans h.size k.size, fun i hi hn => ?_, fun i hi => ?_⟩
  · rw [k.block i (Nat.lt_of_lt_of_le hi h.size), h.block i hi hn]
    intro hv
    rcases h.new i hv.symm with h1 | h1
    · exact hn h1.symm
    · omega
  · rcases k.new i hi with h1 | h1
    · exact h.new i h1
    · exact .inr (Nat.le_trans h.size h1)
theorem Gw.of_grown {w w' : World} {v v' : Value} (h : w.grownBy w' v.ownBlock) (hn : v'.ownBlock = v.ownBlock ∨ v'.ownBlock = some w.heap.size) : Gw w w' v v' := by
  refine ⟨h.os, h.tape, h.output, h.size, h.block, fun k hk => ?_⟩
  rcases hn with h1 | h1
  · exact .inl (h1 ▸ hk)
  · rw [h1] at hk
    injection hk with hk
    exact .inr (Nat.le_of_eq hk)
theorem Gw.of_below {w w' : World} (v : Value) (h : Below w.heap.size w w') : Gw w w' v v := ⟨h.os, h.tape, h.output, h.size, fun k hk _ => h.block k hk, fun _ h => .inl h⟩
/-- The block of a row of the call's own. -/
theorem own_lt {w : World} {B : Nat} {e : TypeId} {sz : Nat} {v : Value} {n : Nat} {xs : List Value} (h : w.ownsRow B e sz v n xs) {k : Nat} (hk : v.ownBlock = some k) : B ≤ k ∧ k < w.heap.size := by
  rcases h.2 with ⟨rfl, -⟩ | ⟨g, cap, cur, rfl, hb, hg, -⟩
  · cases hk
  · have hk' : some g = some k := hk
    injection hk' with hk'
    subst hk'
    exact ⟨hb, (Array.getElem?_eq_some_iff.1 hg).1⟩
theorem Gw.below {w w' : World} {v v' : Value} {B : Nat} {e : TypeId} {sz n : Nat} {xs : List Value} (h : Gw w w' v v') (ho : w.ownsRow B e sz v n xs) (hB : B ≤ w.heap.size) : Below B w w' := by
  refine ⟨h.os, h.tape, h.output, h.size, fun k hk => h.block k (Nat.lt_of_lt_of_le hk hB) fun hv => ?_⟩
  have := (own_lt ho hv.symm).1
  omega
/-- A variable that was made behind the row. -/
theorem Gw.cell {w w' : World} {v v' : Value} (h : Gw w w' v v') {a : Addr} {u : Value} (hl : a.block < w.heap.size) (hn : some a.block ≠ v.ownBlock) (hc : w.cell? a = some u) : w'.cell? a = some u := by
  rw [← hc]
  unfold World.cell?
  rw [h.block _ hl hn]
/-- What a call that adds bytes gives. -/
def OutB (B : Nat) (w : World) (v : Value) (ys : List UInt8) (e : Ending) (w' : World) : Prop :=
  ∃ v', e = .returned v' ∧ w'.ownsRow B 5 1 v' ys.length (bs ys) ∧ Gw w w' v v'
/-- The same, but of the row's place nothing is told. -/
def OutL (B : Nat) (w : World) (ys : List UInt8) (e : Ending) (w' : World) : Prop :=
  ∃ v', e = .returned v' ∧ w'.ownsRow B 5 1 v' ys.length (bs ys) ∧ Below B w w'
theorem OutB.l {B : Nat} {w w' : World} {v : Value} {xs ys : List UInt8} {e : Ending} (ho : w.ownsRow B 5 1 v xs.length (bs xs)) (hB : B ≤ w.heap.size) (h : OutB B w v ys e w') : OutL B w ys e w' := by
  obtain ⟨v', he, h1, h2⟩ := h
  exact ⟨v', he, h1, h2.below ho hB⟩
theorem own_eq {w : World} {B : Nat} {v : Value} {n : Nat} {xs ys : List UInt8} (h : w.ownsRow B 5 1 v n (bs xs)) (hn : n = ys.length) (he : xs = ys) : w.ownsRow B 5 1 v ys.length (bs ys) := by
  subst hn he
  exact h
theorem own_byte (w : World) (B : Nat) : w.ownsRow B 5 1 (.slice none 0 0) ([] : List UInt8).length (bs []) := World.ownsRow_nil _ _ _ _
/-- A row of one byte. -/
theorem rw_byte (w : World) (x : Int) (u : UInt8) (h : (u.toNat : Int) = x) : Rw eB (w.alloc (.cells #[.int .u8 x] 5)) (some ⟨w.heap.size, 0, none⟩) [u] := by
  refine ⟨by simp, fun q z hq => ?_⟩
  match q, hq with
  | 0, hq =>
    have hq' : some u = some z := hq
    injection hq' with hq'
    subst hq'
    refine ⟨_, rfl, fun j v hv => ?_⟩
    match j, hv with
    | 0, hv =>
      have hv' : some (Value.int .u8 (u.toNat : Int)) = some v := hv
      injection hv' with hv'
      subst hv'
      rw [h]
      show (w.alloc (.cells #[.int .u8 x] 5)).cell? ⟨w.heap.size, 0, none⟩ = _
      simp
end Go.Proofs.Ytbjlklkmcpnemaa
