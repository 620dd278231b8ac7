/-
  Making a row of bytes, and copying a constant text, or bytes, into it: laws at an operation of the walk. Conditions: what is copied fits.
-/
import Derived.Test.YtgdbkjiifliobaaWord
import Derived.Laws.CopyRow
import Derived.Lib.BufferWrite
namespace Go.Proofs.Ytgdbkjiifliobaa
open Go.RowKit

def Zr (n : Nat) : Obj := .cells (madeCells #[.int .u8 0] n) 5
theorem made_eq (n : Nat) : (madeCells #[.int .u8 0] n).toList = cel (List.replicate n 0) := by
  apply List.ext_getElem?
  intro k
  by_cases hk : k < n
  · rw [cel_at (by simpa using hk)]
    simp [madeCells, hk, Nat.mod_one]
  · rw [List.getElem?_eq_none (by simp [madeCells]; omega), List.getElem?_eq_none (by rw [cel_length]; simp; omega)]
theorem run_make28 (m : Nat) (h : m ≤ 4096) (w : World) : (Instr.makeSlice 28 (.int .i64 (m : Int)) (.int .i64 (m : Int))).run Try.prog w = .ok (.slice (some ⟨w.heap.size, 0, none⟩) m m) (w.alloc (Zr m)) := by
  obtain ⟨i, hi, h0, h1, h2⟩ := info_parts info5
  have := run_make (P := Try.prog) w 28 5 i _ Try.underlying28 hi h0 .i64 .i64 (m : Int) (m : Int) (by omega) (by omega) (by rw [h2]; omega) (by omega)
  rw [h1] at this
  simp only [Int.toNat_natCast] at this
  rw [this]
  simp
  rfl
theorem ow_made (w : World) (n base : Nat) (h : n ≤ 4096) (hb : base ≤ w.heap.size) : Ow base w.heap.size n (List.replicate n 0) (w.alloc (Zr n)) := by
  refine ⟨?_, fun i => ?_, h⟩
  · rw [← made_eq]
    exact World.ownsRow_lit w _ n hb (by unfold maxLen; omega) (by simp [madeCells])
  · rw [List.getD_eq_getElem?_getD, List.getElem?_replicate]
    split <;> simp
theorem Ow.heap {base g n : Nat} {zs : List Nat} {w : World} (h : Ow base g n zs w) : w.heap[g]? = some (.cells (cel zs).toArray 5 (0, 0)) := by
  rcases h.1.2 with ⟨h0, _⟩ | ⟨g', cap', cur, h1, h2, h3, h4, h5, h6, h7⟩
  · cases h0
  · injection h1 with h1 _ h8
    injection h1 with h1
    injection h1 with h1
    subst h1 h8
    rw [h3, ← h7, List.take_of_length_le (by simp at h6 ⊢; omega)]
theorem ow_of_heap {base g n : Nat} {zs : List Nat} {w : World} (h : w.heap[g]? = some (.cells (cel zs).toArray 5 (0, 0))) (hl : zs.length = n) (hb : Bs zs) (hn : n ≤ 4096) (hg : base ≤ g) : Ow base g n zs w := by
  refine ⟨⟨by rw [cel_length]; omega, .inr ⟨g, n, _, rfl, hg, h, Nat.le_refl _, by unfold maxLen; omega, by simp [cel_length]; omega, ?_⟩⟩, hb, hn⟩
  rw [List.take_of_length_le (by simp [cel_length]; omega)]

/-- The bytes of a text. -/
def bts (t : ByteArray) : List Nat := t.data.toList.map UInt8.toNat
theorem bts_length (t : ByteArray) : (bts t).length = t.size := by unfold bts; rw [List.length_map, ← Lib.size_eq]
theorem cel_bts (t : ByteArray) : cel (bts t) = Lib.byteCells t.data.toList := by unfold cel bts Lib.byteCells; rw [List.map_map]; rfl
theorem Bs.bts (t : ByteArray) : Bs (bts t) := by
  intro i
  rw [List.getD_eq_getElem?_getD]
  unfold Ytgdbkjiifliobaa.bts
  rw [List.getElem?_map]
  cases t.data.toList[i]? with
  | none => simp
  | some b => simpa using UInt8.toNat_lt b
/-- Bytes laid over others from a place on. -/
def lay (zs : List Nat) (k : Nat) (ys : List Nat) : List Nat := zs.take k ++ ys ++ zs.drop (k + ys.length)
theorem cel_take (zs : List Nat) (k : Nat) : cel (zs.take k) = (cel zs).take k := by unfold cel; exact List.map_take
theorem cel_drop (zs : List Nat) (k : Nat) : cel (zs.drop k) = (cel zs).drop k := by unfold cel; exact List.map_drop
theorem Bs.drop {zs : List Nat} (h : Bs zs) (k : Nat) : Bs (zs.drop k) := fun i => by rw [getD_drop]; exact h _
theorem lay_length {zs ys : List Nat} {k : Nat} (h : k + ys.length ≤ zs.length) : (lay zs k ys).length = zs.length := by unfold lay; simp; omega
theorem Ow.lay {base g n : Nat} {zs : List Nat} {w : World} (h : Ow base g n zs w) {k : Nat} {ys : List Nat} (hy : Bs ys) (hk : k + ys.length ≤ n) :
    Ow base g n (lay zs k ys) (w.setRow g ((cel zs).take k ++ cel ys ++ (cel zs).drop (k + ys.length)).toArray) := by
  refine ow_of_heap ?_ ((lay_length (by rw [h.len]; exact hk)).trans h.len) (((h.2.1.take k).append hy).append (h.2.1.drop _)) h.2.2 ?_
  · have := setRow_heap w g _ ((cel zs).take k ++ cel ys ++ (cel zs).drop (k + ys.length)).toArray 5 _ h.heap
    rw [this]
    unfold Ytgdbkjiifliobaa.lay
    rw [cel_append, cel_append, cel_take, cel_drop]
  · rcases h.1.2 with ⟨h0, _⟩ | ⟨g', cap', cur, h1, h2, _⟩
    · cases h0
    · injection h1 with h1
      injection h1 with h1
      injection h1 with h1
      omega
theorem below_setRow {B g : Nat} {w0 w : World} (hb : Below B w0 w) (hBg : B ≤ g) (cs : Array Value) : Below B w0 (w.setRow g cs) :=
  hb.trans ⟨rfl, rfl, rfl, by simp [World.setRow], fun k hk => setRow_other w g k cs (by omega)⟩

section
variable {ops : Array Oper} {rest : List Oper} {o : Oper} {a : Act} {w : World} {Q : Exit → Act → World → Prop}
theorem at_make28 (m : Nat) (hgd : o.guard = none) (ho : o.op = .makeSlice 28 (.const (.int .i64 (m : Int))) (.const (.int .i64 (m : Int)))) (hm : m ≤ 4096)
    (h : wpList Try.prog ops Q rest (a.put o.dst (.slice (some ⟨w.heap.size, 0, none⟩) m m)) (w.alloc (Zr m))) : wpList Try.prog ops Q (o :: rest) a w :=
  wpList_plain hgd fun _ hK => by
    unfold Oper.wp execOp
    simp only [ho, Act.eval, Sem.run_bind, Sem.run_pure, Result.andThen_ok, run_make28 m hm w]
    exact hK _ _ h
theorem at_copy_str (hgd : o.guard = none) (d s : Operand) (ho : o.op = .call { callee := .builtin .copy, args := #[d, s], argTypes := #[28, 9] })
    (base g n k L c : Nat) (zs : List Nat) (t : ByteArray) (hd : a.eval d = .slice (some ⟨g, k, none⟩) L c) (hs : a.eval s = .string t) (H : Ow base g n zs w) (hg : base ≤ g) (hle : t.size ≤ L) (hk : k + t.size ≤ n)
    (h : ∀ w', Hid (Ow base g n (lay zs k (bts t)) w') → Hid (Below base w w') → wpList Try.prog ops Q rest (a.put o.dst (goInt t.size)) w') : wpList Try.prog ops Q (o :: rest) a w := by
  refine wpList_plain hgd fun K hK => ?_
  have hrun := Lib.run_copy_row_string (P := Try.prog) w 28 9 o.type 5 g k L c t _ 5 Try.underlying28 (by kernel_rfl) H.heap hle (by simp [cel_length, H.len]; exact hk)
  have h1 := H.lay (k := k) (Bs.bts t) (by rw [bts_length]; exact hk)
  rw [bts_length, cel_bts] at h1
  unfold Oper.wp execOp
  simp only [ho, resolve, invoke, builtin, Sem.run_bind, Sem.run_pure, Result.andThen_ok, List.map_toArray, List.map_cons, List.map_nil, hd, hs, hrun]
  exact hK _ _ (h _ h1 (below_setRow (Below.refl _ _) hg _))
theorem at_copy_bytes (hgd : o.guard = none) (d s : Operand) (ho : o.op = .call { callee := .builtin .copy, args := #[d, s], argTypes := #[28, 28] })
    (base g n k L c m cm : Nat) (zs ys : List Nat) (x : Addr) (hd : a.eval d = .slice (some ⟨g, k, none⟩) L c) (hs : a.eval s = .slice (some x) m cm) (H : Ow base g n zs w) (R : Rd w (some x) ys) (hm : ys.length = m) (hg : base ≤ g) (hle : m ≤ L) (hk : k + m ≤ n)
    (h : ∀ w', Hid (Ow base g n (lay zs k ys) w') → Hid (Below base w w') → wpList Try.prog ops Q rest (a.put o.dst (goInt m)) w') : wpList Try.prog ops Q (o :: rest) a w := by
  refine wpList_plain hgd fun K hK => ?_
  have hrun := run_copy_row (P := Try.prog) w 28 28 o.type 5 g k L c x m cm _ 5 (cel ys) Try.underlying28 (by kernel_rfl) H.heap (by rw [cel_length, hm]; exact (Nat.min_eq_left hle).symm) R.cells (by simp [cel_length, H.len, hm]; exact hk) (cel_one _)
  have h1 := H.lay (k := k) R.2.1 (by rw [hm]; exact hk)
  rw [cel_length, hm] at hrun
  rw [hm] at h1
  unfold Oper.wp execOp
  simp only [ho, resolve, invoke, builtin, Sem.run_bind, Sem.run_pure, Result.andThen_ok, List.map_toArray, List.map_cons, List.map_nil, hd, hs, hrun]
  exact hK _ _ (h _ h1 (below_setRow (Below.refl _ _) hg _))
end
end Go.Proofs.Ytgdbkjiifliobaa
