/-
  The document's examples, and the round trip: what Text writes is read by Parse, whatever the letters' size and what stands between. No condition but that bytes are bytes.
-/
import Derived.Test.YtegbdagmnibfmaaDoorMcText
import Derived.Test.YtegbdagmnibfmaaDoorMcKinds
namespace Go.Proofs.YtegbdagmnibfmaaDoor.Mc
open Go.RowKit

theorem bthen {a b c : World} (h : Below a.heap.size a b) (k : Below b.heap.size b c) : Below a.heap.size a c := h.trans (k.mono h.size)
theorem bnew {a b : World} (h : Below a.heap.size a b) (o : Obj) : Below a.heap.size a (b.alloc o) := h.alloc h.size o

/-- The letter of a digit, great or small. -/
def hxg (g : Bool) (n : Int) : Int := if n < 10 then 48 + n else if g then 55 + n else 87 + n
def duog (g : Bool) (b : Int) : List Int := [hxg g (b / 16), hxg g (b % 16)]
/-- The text of the first k bytes, with what stands between, and whose letters are great. -/
def txg (sep : Int) (gs : Nat → Bool) (bs : List Int) : Nat → List Int
  | 0 => []
  | 1 => duog (gs 0) (bs.getD 0 0)
  | k + 2 => txg sep gs bs (k + 1) ++ [sep] ++ duog (gs (k + 1)) (bs.getD (k + 1) 0)
theorem tx_eq (bs : List Int) : ∀ k, tx bs k = txg 58 (fun _ => false) bs k
  | 0 => rfl
  | 1 => rfl
  | k + 2 => by rw [tx, txg, tx_eq bs (k + 1)]; rfl

theorem hxg_bd (g : Bool) (n : Int) (h0 : 0 ≤ n) (h1 : n < 16) : 0 ≤ hxg g n ∧ hxg g n < 256 := by unfold hxg; cases g <;> simp <;> split <;> omega
theorem dig_hxg (g : Bool) (n : Int) (h0 : 0 ≤ n) (h1 : n < 16) : digO (hxg g n) = some n := by
  have h : ∀ (g : Bool) (m : Fin 16), digO (hxg g (m.val : Int)) = some (m.val : Int) := by decide +kernel
  have := h g ⟨n.toNat, by omega⟩
  simp only [Int.toNat_of_nonneg h0] at this
  exact this
theorem byt_duog (g : Bool) (b : Int) (h0 : 0 ≤ b) (h1 : b < 256) : Byt (duog g b) := by
  intro n hn
  simp only [duog, List.mem_cons, List.not_mem_nil, or_false] at hn
  rcases hn with rfl | rfl
  · exact hxg_bd _ _ (by omega) (by omega)
  · exact hxg_bd _ _ (by omega) (by omega)
theorem byt_txg (sep : Int) (gs : Nat → Bool) (bs : List Int) (hs : 0 ≤ sep ∧ sep < 256) (h : ∀ k, 0 ≤ bs.getD k 0 ∧ bs.getD k 0 < 256) : ∀ k, Byt (txg sep gs bs k)
  | 0 => by intro n hn; cases hn
  | 1 => byt_duog _ _ (h 0).1 (h 0).2
  | k + 2 => byt_app (byt_app (byt_txg sep gs bs hs h (k + 1)) (by intro n hn; simp at hn; rw [hn]; exact hs)) (byt_duog _ _ (h _).1 (h _).2)

/-- Six bytes. -/
structure Six (b0 b1 b2 b3 b4 b5 : Int) : Prop where
  h0 : 0 ≤ b0
  g0 : b0 < 256
  h1 : 0 ≤ b1
  g1 : b1 < 256
  h2 : 0 ≤ b2
  g2 : b2 < 256
  h3 : 0 ≤ b3
  g3 : b3 < 256
  h4 : 0 ≤ b4
  g4 : b4 < 256
  h5 : 0 ≤ b5
  g5 : b5 < 256
theorem Six.getD {b0 b1 b2 b3 b4 b5 : Int} (h : Six b0 b1 b2 b3 b4 b5) (k : Nat) : 0 ≤ [b0, b1, b2, b3, b4, b5].getD k 0 ∧ [b0, b1, b2, b3, b4, b5].getD k 0 < 256 := by
  rcases (show k = 0 ∨ k = 1 ∨ k = 2 ∨ k = 3 ∨ k = 4 ∨ k = 5 ∨ 6 ≤ k by omega) with rfl | rfl | rfl | rfl | rfl | rfl | hk6
  · exact ⟨h.h0, h.g0⟩
  · exact ⟨h.h1, h.g1⟩
  · exact ⟨h.h2, h.g2⟩
  · exact ⟨h.h3, h.g3⟩
  · exact ⟨h.h4, h.g4⟩
  · exact ⟨h.h5, h.g5⟩
  · rw [List.getD_eq_getElem?_getD, List.getElem?_eq_none (by simpa using hk6)]; decide
theorem Six.mem {b0 b1 b2 b3 b4 b5 : Int} (h : Six b0 b1 b2 b3 b4 b5) : ∀ n ∈ [b0, b1, b2, b3, b4, b5], 0 ≤ n ∧ n < 256 := by
  intro n hn
  simp only [List.mem_cons, List.not_mem_nil, or_false] at hn
  rcases hn with rfl | rfl | rfl | rfl | rfl | rfl
  · exact ⟨h.h0, h.g0⟩
  · exact ⟨h.h1, h.g1⟩
  · exact ⟨h.h2, h.g2⟩
  · exact ⟨h.h3, h.g3⟩
  · exact ⟨h.h4, h.g4⟩
  · exact ⟨h.h5, h.g5⟩

theorem at_str (l : List Int) (h : Byt l) (k : Nat) : at_ (strOf l) k = l.getD k 0 := by
  unfold at_ strOf
  simp only [List.getD_eq_getElem?_getD, List.getElem?_map]
  cases hk : l[k]? with
  | none => rfl
  | some n =>
    have hb := h n (List.mem_of_getElem? hk)
    simp
    omega
theorem str_size (l : List Int) : (strOf l).size = l.length := by
  unfold strOf
  show (List.toArray _).size = _
  simp

theorem txg_ok {sep : Int} (gs : Nat → Bool) {b0 b1 b2 b3 b4 b5 : Int} (hs : sep = 58 ∨ sep = 45) (h : Six b0 b1 b2 b3 b4 b5) : okB (strOf (txg sep gs [b0, b1, b2, b3, b4, b5] 6)) = true := by
  have hB := byt_txg sep gs [b0, b1, b2, b3, b4, b5] (by omega) h.getD 6
  have ha := at_str _ hB
  have hd : ∀ g n, 0 ≤ n → n < 16 → digB (hxg g n) = true := fun g n h0 h1 => by unfold digB; rw [dig_hxg g n h0 h1]; rfl
  have hg := h.getD
  unfold okB
  rw [str_size, decide_eq_true (show (txg sep gs [b0, b1, b2, b3, b4, b5] 6).length = 17 from rfl), Bool.true_and, Bool.and_eq_true]
  constructor
  · unfold sepB
    rw [decide_eq_true_eq]
    refine ⟨by rw [ha]; exact hs, fun i hi hm => ?_⟩
    rw [ha, ha]
    rcases (show i = 2 ∨ i = 5 ∨ i = 8 ∨ i = 11 ∨ i = 14 by omega) with rfl | rfl | rfl | rfl | rfl <;> rfl
  · rw [decide_eq_true_eq]
    intro i hi hm
    rw [ha]
    rcases (show i = 0 ∨ i = 1 ∨ i = 3 ∨ i = 4 ∨ i = 6 ∨ i = 7 ∨ i = 9 ∨ i = 10 ∨ i = 12 ∨ i = 13 ∨ i = 15 ∨ i = 16 by omega) with rfl | rfl | rfl | rfl | rfl | rfl | rfl | rfl | rfl | rfl | rfl | rfl
    · exact hd (gs 0) ([b0, b1, b2, b3, b4, b5].getD 0 0 / 16) (by have := hg 0; omega) (by have := hg 0; omega)
    · exact hd (gs 0) ([b0, b1, b2, b3, b4, b5].getD 0 0 % 16) (by have := hg 0; omega) (by have := hg 0; omega)
    · exact hd (gs 1) ([b0, b1, b2, b3, b4, b5].getD 1 0 / 16) (by have := hg 1; omega) (by have := hg 1; omega)
    · exact hd (gs 1) ([b0, b1, b2, b3, b4, b5].getD 1 0 % 16) (by have := hg 1; omega) (by have := hg 1; omega)
    · exact hd (gs 2) ([b0, b1, b2, b3, b4, b5].getD 2 0 / 16) (by have := hg 2; omega) (by have := hg 2; omega)
    · exact hd (gs 2) ([b0, b1, b2, b3, b4, b5].getD 2 0 % 16) (by have := hg 2; omega) (by have := hg 2; omega)
    · exact hd (gs 3) ([b0, b1, b2, b3, b4, b5].getD 3 0 / 16) (by have := hg 3; omega) (by have := hg 3; omega)
    · exact hd (gs 3) ([b0, b1, b2, b3, b4, b5].getD 3 0 % 16) (by have := hg 3; omega) (by have := hg 3; omega)
    · exact hd (gs 4) ([b0, b1, b2, b3, b4, b5].getD 4 0 / 16) (by have := hg 4; omega) (by have := hg 4; omega)
    · exact hd (gs 4) ([b0, b1, b2, b3, b4, b5].getD 4 0 % 16) (by have := hg 4; omega) (by have := hg 4; omega)
    · exact hd (gs 5) ([b0, b1, b2, b3, b4, b5].getD 5 0 / 16) (by have := hg 5; omega) (by have := hg 5; omega)
    · exact hd (gs 5) ([b0, b1, b2, b3, b4, b5].getD 5 0 % 16) (by have := hg 5; omega) (by have := hg 5; omega)
theorem txg_mb {sep : Int} (gs : Nat → Bool) {b0 b1 b2 b3 b4 b5 : Int} (hs : sep = 58 ∨ sep = 45) (h : Six b0 b1 b2 b3 b4 b5) (k : Nat) (hk : k < 6) : mb (strOf (txg sep gs [b0, b1, b2, b3, b4, b5] 6)) k = [b0, b1, b2, b3, b4, b5].getD k 0 := by
  have hB := byt_txg sep gs [b0, b1, b2, b3, b4, b5] (by omega) h.getD 6
  have ha := at_str _ hB
  have hb := h.getD k
  have hd : ∀ g n, 0 ≤ n → n < 16 → digN (hxg g n) = n := fun g n h0 h1 => by unfold digN; rw [dig_hxg g n h0 h1]; rfl
  have e0 : (txg sep gs [b0, b1, b2, b3, b4, b5] 6).getD (3 * k) 0 = hxg (gs k) ([b0, b1, b2, b3, b4, b5].getD k 0 / 16) := by
    rcases (show k = 0 ∨ k = 1 ∨ k = 2 ∨ k = 3 ∨ k = 4 ∨ k = 5 by omega) with rfl | rfl | rfl | rfl | rfl | rfl <;> rfl
  have e1 : (txg sep gs [b0, b1, b2, b3, b4, b5] 6).getD (3 * k + 1) 0 = hxg (gs k) ([b0, b1, b2, b3, b4, b5].getD k 0 % 16) := by
    rcases (show k = 0 ∨ k = 1 ∨ k = 2 ∨ k = 3 ∨ k = 4 ∨ k = 5 by omega) with rfl | rfl | rfl | rfl | rfl | rfl <;> rfl
  unfold mb
  rw [ha, ha, e0, e1, hd _ _ (by omega) (by omega), hd _ _ (by omega) (by omega)]
  omega

theorem parse_txg (sep : Int) (gs : Nat → Bool) (b0 b1 b2 b3 b4 b5 : Int) (w : World) (hs : sep = 58 ∨ sep = 45) (h : Six b0 b1 b2 b3 b4 b5) :
    Calls Tryd.prog 31 #[.string (strOf (txg sep gs [b0, b1, b2, b3, b4, b5] 6))] w fun e w' => e = .returned (.tuple #[.agg #[.int .u8 b0, .int .u8 b1, .int .u8 b2, .int .u8 b3, .int .u8 b4, .int .u8 b5], .bool true]) ∧ Below w.heap.size w w' := by
  have hp := parse_yes _ w (txg_ok gs hs h)
  rw [txg_mb gs hs h 0 (by omega), txg_mb gs hs h 1 (by omega), txg_mb gs hs h 2 (by omega), txg_mb gs hs h 3 (by omega), txg_mb gs hs h 4 (by omega), txg_mb gs hs h 5 (by omega)] at hp
  exact hp
theorem text_six (b0 b1 b2 b3 b4 b5 : Int) (w : World) (h : Six b0 b1 b2 b3 b4 b5) :
    Calls Tryd.prog 19 #[.agg #[.int .u8 b0, .int .u8 b1, .int .u8 b2, .int .u8 b3, .int .u8 b4, .int .u8 b5]] w fun e w' => e = .returned (.string (strOf (txg 58 (fun _ => false) [b0, b1, b2, b3, b4, b5] 6))) ∧ Below w.heap.size w w' := by
  rw [← tx_eq]
  exact text_any b0 b1 b2 b3 b4 b5 w h.h0 h.g0 h.h1 h.g1 h.h2 h.g2 h.h3 h.g3 h.h4 h.g4 h.h5 h.g5
/-- Unlike numbers have unlike texts. -/
theorem text_inj {a0 a1 a2 a3 a4 a5 b0 b1 b2 b3 b4 b5 : Int} (ha : Six a0 a1 a2 a3 a4 a5) (hb : Six b0 b1 b2 b3 b4 b5)
    (h : strOf (txg 58 (fun _ => false) [a0, a1, a2, a3, a4, a5] 6) = strOf (txg 58 (fun _ => false) [b0, b1, b2, b3, b4, b5] 6)) : a0 = b0 ∧ a1 = b1 ∧ a2 = b2 ∧ a3 = b3 ∧ a4 = b4 ∧ a5 = b5 := by
  have e : ∀ k, k < 6 → [a0, a1, a2, a3, a4, a5].getD k 0 = [b0, b1, b2, b3, b4, b5].getD k 0 := fun k hk => by
    rw [← txg_mb (fun _ => false) (.inl rfl) ha k hk, ← txg_mb (fun _ => false) (.inl rfl) hb k hk, h]
  exact ⟨e 0 (by omega), e 1 (by omega), e 2 (by omega), e 3 (by omega), e 4 (by omega), e 5 (by omega)⟩
end Go.Proofs.YtegbdagmnibfmaaDoor.Mc
