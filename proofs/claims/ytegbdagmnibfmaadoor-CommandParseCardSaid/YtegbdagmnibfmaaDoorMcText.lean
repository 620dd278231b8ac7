/-
  Contract of Text (package mac): what it returns, for every number, and that nothing that was in memory has changed.
-/
import Derived.Test.YtegbdagmnibfmaaDoorMcParse
import Derived.Deep.RegionLaw
namespace Go.Proofs.YtegbdagmnibfmaaDoor.Mc
open Go.RowKit

theorem Tryd.info5 : (Tryd.prog.info? 5).map (fun i => (i.zero, i.size, i.bytes)) = some (some (.int .u8 0), 1, 1) := by kernel_rfl

/-- append within the capacity, as one step of a region that draws its order. -/
theorem step_fits {P : Program} (w : World) {ops : Array Oper} {o : Oper} {a : Act} {K : Act → World → Prop} {Q : Exit → Act → World → Prop} {E : Prop}
    (hg : o.guard = none) (s x : Operand) (t : TypeId) (hop : o.op = Op.call { callee := Callee.builtin Builtin.append, args := #[s, x], argTypes := #[t, t] })
    (base : Nat) (e : TypeId) (i : TypeInfo) (size : Nat) (h1 : P.underlying t = some (.slice e)) (h2 : P.info? e = some i) (h4 : i.size = size)
    (g k cap : Nat) (xs : List Value) (hs : a.eval s = .slice (some ⟨g, 0, none⟩) k cap) (hown : w.ownsRow base e size (.slice (some ⟨g, 0, none⟩) k cap) k xs)
    (ad : Addr) (m c : Nat) (news : List Value) (hx : a.eval x = .slice (some ad) m c) (hn : news.length = m * size)
    (hc : ∀ j u, news[j]? = some u → w.cell? (ad.add j) = some u) (h1c : ∀ u ∈ news, u.oneCell' = true) (b1 : k + m ≤ cap)
    (hK : ∀ w', w'.ownsRow base e size (.slice (some ⟨g, 0, none⟩) (k + m) cap) (k + m) (xs ++ news) → w.grownBy w' (some g) → K (a.put o.dst (.slice (some ⟨g, 0, none⟩) (k + m) cap)) w') :
    if Region.wanted o (yielded ops a.tmps) = true then Oper.wp P o a w K Q else E := by
  have hw : Region.wanted o (yielded ops a.tmps) = true := by simp [Region.wanted, hg]
  rw [if_pos hw]
  obtain ⟨w', hrun, r1, r2⟩ := run_append_fits (P := P) w base t o.type e i size h1 h2 h4 g k cap xs hown ad m c news hn hc h1c b1
  unfold Oper.wp
  simp [execOp, hop, resolve, invoke, builtin, hs, hx, hrun, Result.andThen]
  exact hK w' r1 r2

/-- The letter of a digit. -/
def hx (n : Int) : Int := if n < 10 then 48 + n else 87 + n
/-- The letters of a byte. -/
def duo (b : Int) : List Int := [hx (b / 16), hx (b % 16)]
/-- The text of the first k bytes. -/
def tx (bs : List Int) : Nat → List Int
  | 0 => []
  | 1 => duo (bs.getD 0 0)
  | k + 2 => tx bs (k + 1) ++ [58] ++ duo (bs.getD (k + 1) 0)
def cellsOf (l : List Int) : List Value := l.map (Value.int .u8)

/-- The text of the digits. -/
def hexTab : ByteArray := ⟨#[48, 49, 50, 51, 52, 53, 54, 55, 56, 57, 97, 98, 99, 100, 101, 102]⟩
theorem hex_at (n : Nat) (h : n < 16) : ((hexTab[n]?).getD 0).toNat = hx n := by
  have : ∀ m : Fin 16, (((hexTab[m.val]?).getD 0).toNat : Int) = hx m.val := by decide +kernel
  exact this ⟨n, h⟩
theorem run_hex (kd : IntKind) (i : Int) (h0 : 0 ≤ i) (h1 : i < 16) (W : World) :
    (Instr.index 9 (.string ⟨#[48, 49, 50, 51, 52, 53, 54, 55, 56, 57, 97, 98, 99, 100, 101, 102]⟩) (.int kd i)).run Tryd.prog W = .ok (.int .u8 (hx i)) W := by
  have hs : hexTab.size = 16 := by decide
  have hi : 0 ≤ i ∧ i < (hexTab.size : Int) := by rw [hs]; omega
  have h2 : i.toNat < hexTab.size := by rw [hs]; omega
  show (Instr.index 9 (.string hexTab) (.int kd i)).run Tryd.prog W = _
  rw [run_index_string W 9 hexTab kd i Tryd.underlying9, dif_pos hi]
  have := hex_at i.toNat (by omega)
  rw [ByteArray.getElem?_lt' _ _ h2, Option.getD_some] at this
  rw [this, Int.toNat_of_nonneg h0]
theorem run_at6 (b0 b1 b2 b3 b4 b5 : Int) (k : Nat) (hk : k < 6) (W : World) :
    (Instr.index 32 (.agg #[.int .u8 b0, .int .u8 b1, .int .u8 b2, .int .u8 b3, .int .u8 b4, .int .u8 b5]) (.int .i64 (k : Int))).run Tryd.prog W = .ok (.int .u8 ([b0, b1, b2, b3, b4, b5].getD k 0)) W := by
  rcases (show k = 0 ∨ k = 1 ∨ k = 2 ∨ k = 3 ∨ k = 4 ∨ k = 5 by omega) with rfl | rfl | rfl | rfl | rfl | rfl <;>
    simp [Instr.index, run_underlying Tryd.underlying32, asIntOf, go_sem]

theorem and15 (b : Int) (h0 : 0 ≤ b) (h1 : b < 256) : bits .and .u8 b 15 = b % 16 := by
  rw [u8_and b 15 h0 h1 (by omega) (by omega)]
  have h : ∀ m : Fin 256, (m.val &&& 15) = m.val % 16 := by decide +kernel
  have := h ⟨b.toNat, by omega⟩
  simp only at this
  rw [show (15 : Int).toNat = 15 from rfl, this]
  omega
theorem run_hexA (b : Int) (h0 : 0 ≤ b) (h1 : b < 256) (W : World) :
    (Instr.index 9 (.string ⟨#[48, 49, 50, 51, 52, 53, 54, 55, 56, 57, 97, 98, 99, 100, 101, 102]⟩) (.int .u8 (b / 16))).run Tryd.prog W = .ok (.int .u8 (hx (b / 16))) W :=
  run_hex _ _ (by omega) (by omega) W
theorem run_hexB (b : Int) (h0 : 0 ≤ b) (h1 : b < 256) (W : World) :
    (Instr.index 9 (.string ⟨#[48, 49, 50, 51, 52, 53, 54, 55, 56, 57, 97, 98, 99, 100, 101, 102]⟩) (.int .u8 (bits .and .u8 b 15))).run Tryd.prog W = .ok (.int .u8 (hx (b % 16))) W := by
  rw [and15 b h0 h1]; exact run_hex _ _ (by omega) (by omega) W
theorem news1 {w : World} {B : Nat} {a : Value} {t : TypeId} (h : w.heap.size = B) : ∀ (j : Nat) (u : Value), [a][j]? = some u → (w.alloc (.cells #[a] t)).cell? ((⟨B, 0, none⟩ : Addr).add j) = some u := by
  subst h
  intro j u hj
  match j, hj with
  | 0, hj => simp at hj; subst hj; simp [Addr.add]
theorem news2 {w : World} {B : Nat} {a b : Value} {t : TypeId} (h : w.heap.size = B) : ∀ (j : Nat) (u : Value), [a, b][j]? = some u → (w.alloc (.cells #[a, b] t)).cell? ((⟨B, 0, none⟩ : Addr).add j) = some u := by
  subst h
  intro j u hj
  match j, hj with
  | 0, hj => simp at hj; subst hj; simp [Addr.add]
  | 1, hj => simp at hj; subst hj; simp [Addr.add]
theorem one1 (a : Int) : ∀ u ∈ [Value.int .u8 a], u.oneCell' = true := by intro u hu; simp at hu; subst hu; rfl
theorem one2 (a b : Int) : ∀ u ∈ [Value.int .u8 a, Value.int .u8 b], u.oneCell' = true := by intro u hu; simp at hu; rcases hu with hu | hu <;> subst hu <;> rfl

/-- A string of numbers. -/
def strOf (l : List Int) : ByteArray := ⟨(l.map fun n => UInt8.ofNat n.toNat).toArray⟩
/-- Numbers that are bytes. -/
def Byt (l : List Int) : Prop := ∀ n ∈ l, 0 ≤ n ∧ n < 256
theorem hx_bd (n : Int) (h0 : 0 ≤ n) (h1 : n < 16) : 0 ≤ hx n ∧ hx n < 256 := by unfold hx; split <;> omega
theorem byt_app {a b : List Int} (ha : Byt a) (hb : Byt b) : Byt (a ++ b) := by
  intro n hn; rcases List.mem_append.1 hn with h | h
  · exact ha n h
  · exact hb n h
theorem byt_duo (b : Int) (h0 : 0 ≤ b) (h1 : b < 256) : Byt (duo b) := by
  intro n hn
  simp only [duo, List.mem_cons, List.not_mem_nil, or_false] at hn
  rcases hn with rfl | rfl
  · exact hx_bd _ (by omega) (by omega)
  · exact hx_bd _ (by omega) (by omega)
theorem byt_tx (bs : List Int) (h : ∀ k, 0 ≤ bs.getD k 0 ∧ bs.getD k 0 < 256) : ∀ k, Byt (tx bs k)
  | 0 => by intro n hn; cases hn
  | 1 => byt_duo _ (h 0).1 (h 0).2
  | k + 2 => byt_app (byt_app (byt_tx bs h (k + 1)) (by intro n hn; simp at hn; omega)) (byt_duo _ (h _).1 (h _).2)
theorem run_str (l : List Int) (hl : Byt l) (n G cap : Nat) (hn : l.length = n) (W : World) (hc : ∀ j, j < n → W.cell? ⟨G, j, none⟩ = (cellsOf l)[j]?) :
    (convert 93 9 (.slice (some ⟨G, 0, none⟩) n cap)).run Tryd.prog W = .ok (.string (strOf l)) W := by
  subst hn
  have h := run_convert_bytes_back (P := Tryd.prog) W 93 9 5 ⟨G, 0, none⟩ cap (l.map fun n => UInt8.ofNat n.toNat) Tryd.underlying93 Tryd.underlying5 Tryd.underlying9 (by
    intro j hj
    have hj' : j < l.length := by simpa using hj
    have hb := hl l[j] (List.getElem_mem hj')
    rw [show (⟨G, 0, none⟩ : Addr).add j = ⟨G, j, none⟩ by unfold Addr.add; split <;> simp_all, hc j hj']
    simp [cellsOf, hj']
    omega)
  rw [List.length_map] at h
  exact h

set_option maxHeartbeats 2000000 in
theorem text_any (b0 b1 b2 b3 b4 b5 : Int) (w : World) (h0 : 0 ≤ b0) (g0 : b0 < 256) (h1 : 0 ≤ b1) (g1 : b1 < 256) (h2 : 0 ≤ b2) (g2 : b2 < 256) (h3 : 0 ≤ b3) (g3 : b3 < 256) (h4 : 0 ≤ b4) (g4 : b4 < 256) (h5 : 0 ≤ b5) (g5 : b5 < 256) :
    Calls Tryd.prog 19 #[.agg #[.int .u8 b0, .int .u8 b1, .int .u8 b2, .int .u8 b3, .int .u8 b4, .int .u8 b5]] w fun e w' => e = .returned (.string (strOf (tx [b0, b1, b2, b3, b4, b5] 6))) ∧ Below w.heap.size w w' := by
  obtain ⟨i0, hi, hz0, hz1, hz2⟩ := info_parts Tryd.info5
  go_enter Tryd.func19, Tryd.ntmps19
  go_wp2_with (at_make; refine wpList_make_own _ rfl _ _ 93 rfl (w.heap.size + 1) 5 i0 (.int .u8 0) 1 Tryd.underlying93 hi hz0 hz1 _ _ _ 18 rfl rfl (by rfl) (by rw [hz2]; omega) (by unfold maxLen; omega) (by simp) ?_)
  intro w0 hown0 hgrow0
  have hb0 : Below w.heap.size w w0 := ((Below.refl _ _).alloc (Nat.le_refl _) _).grown hgrow0 (by simp) (by intro g h; cases h)
  have c0 : w0.cell? ⟨w.heap.size, 0, none⟩ = some (.int .u8 b0) := hgrow0.cell (by simp) (by simp)
  have c1 : w0.cell? ⟨w.heap.size, 1, none⟩ = some (.int .u8 b1) := hgrow0.cell (by simp) (by simp)
  have c2 : w0.cell? ⟨w.heap.size, 2, none⟩ = some (.int .u8 b2) := hgrow0.cell (by simp) (by simp)
  have c3 : w0.cell? ⟨w.heap.size, 3, none⟩ = some (.int .u8 b3) := hgrow0.cell (by simp) (by simp)
  have c4 : w0.cell? ⟨w.heap.size, 4, none⟩ = some (.int .u8 b4) := hgrow0.cell (by simp) (by simp)
  have c5 : w0.cell? ⟨w.heap.size, 5, none⟩ = some (.int .u8 b5) := hgrow0.cell (by simp) (by simp)
  have HO := Lib.hid hown0
  have HB0 := Lib.hid hb0
  clear hown0 hb0 hgrow0
  go_wp2_with fail
  go_loopw [3, 8] (fun v i wr => ∃ k : Nat, k ≤ 6 ∧ i = .int .i64 k ∧ v = .slice (some ⟨w.heap.size + 1, 0, none⟩) (3 * k - 1) 18 ∧ wr.ownsRow (w.heap.size + 1) 5 1 v (3 * k - 1) (cellsOf (tx [b0, b1, b2, b3, b4, b5] k)) ∧ Below w.heap.size w wr) (fun _ i _ => 6 - (intOf i).toNat)
  case atStart => exact ⟨0, by omega, rfl, rfl, HO.out, HB0.out⟩
  case round =>
    clear c0 c1 c2 c3 c4 c5
    obtain ⟨k, hk, rfl, rfl, ho, hB⟩ := hrel
    have hsz : w.heap.size ≤ wr.heap.size := hB.size
    have hsz1 : w.heap.size + 1 < wr.heap.size := (ho.lt _ rfl).2
    have HW := Lib.hid ho
    have HB := Lib.hid hB
    clear ho hB
    rcases (show k = 0 ∨ k = 1 ∨ k = 2 ∨ k = 3 ∨ k = 4 ∨ k = 5 ∨ k = 6 by omega) with rfl | rfl | rfl | rfl | rfl | rfl | rfl
    · have e0 := fun W => run_at6 b0 b1 b2 b3 b4 b5 0 (by omega) W
      simp only [List.getD_cons_zero, Int.cast_ofNat_Int] at e0
      have eA := fun W => run_hexA b0 h0 g0 W
      have eB := fun W => run_hexB b0 h0 g0 W
      have HV : Hid (wr.ownsRow (w.heap.size + 1) 5 1 (.slice (some ⟨w.heap.size + 1, 0, none⟩) 0 18) 0 (cellsOf (tx [b0, b1, b2, b3, b4, b5] 0))) := HW
      clear HW
      go_wp2_with fail
      go_region_law (refine step_fits _ rfl (.tmp 17) (.tmp 24) 93 rfl (w.heap.size + 1) 5 i0 1 Tryd.underlying93 hi hz1 (w.heap.size + 1) 0 18 _ (by simp [Act.eval]) (HV.out.drew.alloc _) ⟨wr.heap.size, 0, none⟩ 2 2 [.int .u8 (hx (b0 / 16)), .int .u8 (hx (b0 % 16))] (by simp [Act.eval]) rfl (news2 rfl) (one2 _ _) (by omega) ?_; intro w2 ho2 hg2)
      all_goals
        have HV2 := Lib.hid ho2
        have HB2 := Lib.hid ((HB.out.alloc hsz _).drew.grown hg2 (by simp; omega) (by intro g h; injection h with h; omega))
        clear ho2 hg2
        go_wp2_with fail
        go_roundw
        case measure => simp [intOf]
        refine ⟨1, by omega, rfl, rfl, ?_, HB2.out⟩
        have h := HV2.out
        simp only [cellsOf, tx, duo, List.map_cons, List.map_nil, List.getD_cons_zero, List.nil_append] at h ⊢
        exact h
    · have e0 := fun W => run_at6 b0 b1 b2 b3 b4 b5 1 (by omega) W
      simp only [List.getD_cons_zero, List.getD_cons_succ, Int.cast_ofNat_Int] at e0
      have eA := fun W => run_hexA b1 h1 g1 W
      have eB := fun W => run_hexB b1 h1 g1 W
      have HV : Hid (wr.ownsRow (w.heap.size + 1) 5 1 (.slice (some ⟨w.heap.size + 1, 0, none⟩) 2 18) 2 (cellsOf (tx [b0, b1, b2, b3, b4, b5] 1))) := HW
      clear HW
      go_wp2_with (at_builtin; refine wpList_append_fits _ rfl (.tmp 14) (.tmp 15) 93 rfl (w.heap.size + 1) 5 i0 1 Tryd.underlying93 hi hz1 (w.heap.size + 1) 2 18 _ rfl (HV.out.alloc _) ⟨wr.heap.size, 0, none⟩ 1 1 [.int .u8 58] rfl rfl (news1 rfl) (one1 _) (by omega) ?_)
      intro w1 ho1 hg1
      have HV1 := Lib.hid ho1
      have HB1 := Lib.hid ((HB.out.alloc hsz _).grown hg1 (by simp; omega) (by intro g h; injection h with h; omega))
      have hsz2 : w.heap.size ≤ w1.heap.size := HB1.out.size
      clear ho1 hg1
      go_wp2_with fail
      go_region_law (refine step_fits _ rfl (.tmp 17) (.tmp 24) 93 rfl (w.heap.size + 1) 5 i0 1 Tryd.underlying93 hi hz1 (w.heap.size + 1) 3 18 _ (by simp [Act.eval]) (HV1.out.drew.alloc _) ⟨w1.heap.size, 0, none⟩ 2 2 [.int .u8 (hx (b1 / 16)), .int .u8 (hx (b1 % 16))] (by simp [Act.eval]) rfl (news2 rfl) (one2 _ _) (by omega) ?_; intro w2 ho2 hg2)
      all_goals
        have HV2 := Lib.hid ho2
        have HB2 := Lib.hid ((HB1.out.alloc hsz2 _).drew.grown hg2 (by simp; omega) (by intro g h; injection h with h; omega))
        clear ho2 hg2
        go_wp2_with fail
        go_roundw
        case measure => simp [intOf]
        refine ⟨2, by omega, rfl, rfl, ?_, HB2.out⟩
        have h := HV2.out
        simp only [cellsOf, tx, duo, List.map_cons, List.map_nil, List.getD_cons_zero, List.map_append, List.getD_cons_succ] at h ⊢
        exact h
    · have e0 := fun W => run_at6 b0 b1 b2 b3 b4 b5 2 (by omega) W
      simp only [List.getD_cons_zero, List.getD_cons_succ, Int.cast_ofNat_Int] at e0
      have eA := fun W => run_hexA b2 h2 g2 W
      have eB := fun W => run_hexB b2 h2 g2 W
      have HV : Hid (wr.ownsRow (w.heap.size + 1) 5 1 (.slice (some ⟨w.heap.size + 1, 0, none⟩) 5 18) 5 (cellsOf (tx [b0, b1, b2, b3, b4, b5] 2))) := HW
      clear HW
      go_wp2_with (at_builtin; refine wpList_append_fits _ rfl (.tmp 14) (.tmp 15) 93 rfl (w.heap.size + 1) 5 i0 1 Tryd.underlying93 hi hz1 (w.heap.size + 1) 5 18 _ rfl (HV.out.alloc _) ⟨wr.heap.size, 0, none⟩ 1 1 [.int .u8 58] rfl rfl (news1 rfl) (one1 _) (by omega) ?_)
      intro w1 ho1 hg1
      have HV1 := Lib.hid ho1
      have HB1 := Lib.hid ((HB.out.alloc hsz _).grown hg1 (by simp; omega) (by intro g h; injection h with h; omega))
      have hsz2 : w.heap.size ≤ w1.heap.size := HB1.out.size
      clear ho1 hg1
      go_wp2_with fail
      go_region_law (refine step_fits _ rfl (.tmp 17) (.tmp 24) 93 rfl (w.heap.size + 1) 5 i0 1 Tryd.underlying93 hi hz1 (w.heap.size + 1) 6 18 _ (by simp [Act.eval]) (HV1.out.drew.alloc _) ⟨w1.heap.size, 0, none⟩ 2 2 [.int .u8 (hx (b2 / 16)), .int .u8 (hx (b2 % 16))] (by simp [Act.eval]) rfl (news2 rfl) (one2 _ _) (by omega) ?_; intro w2 ho2 hg2)
      all_goals
        have HV2 := Lib.hid ho2
        have HB2 := Lib.hid ((HB1.out.alloc hsz2 _).drew.grown hg2 (by simp; omega) (by intro g h; injection h with h; omega))
        clear ho2 hg2
        go_wp2_with fail
        go_roundw
        case measure => simp [intOf]
        refine ⟨3, by omega, rfl, rfl, ?_, HB2.out⟩
        have h := HV2.out
        simp only [cellsOf, tx, duo, List.map_cons, List.map_nil, List.getD_cons_zero, List.map_append, List.getD_cons_succ] at h ⊢
        exact h
    · have e0 := fun W => run_at6 b0 b1 b2 b3 b4 b5 3 (by omega) W
      simp only [List.getD_cons_zero, List.getD_cons_succ, Int.cast_ofNat_Int] at e0
      have eA := fun W => run_hexA b3 h3 g3 W
      have eB := fun W => run_hexB b3 h3 g3 W
      have HV : Hid (wr.ownsRow (w.heap.size + 1) 5 1 (.slice (some ⟨w.heap.size + 1, 0, none⟩) 8 18) 8 (cellsOf (tx [b0, b1, b2, b3, b4, b5] 3))) := HW
      clear HW
      go_wp2_with (at_builtin; refine wpList_append_fits _ rfl (.tmp 14) (.tmp 15) 93 rfl (w.heap.size + 1) 5 i0 1 Tryd.underlying93 hi hz1 (w.heap.size + 1) 8 18 _ rfl (HV.out.alloc _) ⟨wr.heap.size, 0, none⟩ 1 1 [.int .u8 58] rfl rfl (news1 rfl) (one1 _) (by omega) ?_)
      intro w1 ho1 hg1
      have HV1 := Lib.hid ho1
      have HB1 := Lib.hid ((HB.out.alloc hsz _).grown hg1 (by simp; omega) (by intro g h; injection h with h; omega))
      have hsz2 : w.heap.size ≤ w1.heap.size := HB1.out.size
      clear ho1 hg1
      go_wp2_with fail
      go_region_law (refine step_fits _ rfl (.tmp 17) (.tmp 24) 93 rfl (w.heap.size + 1) 5 i0 1 Tryd.underlying93 hi hz1 (w.heap.size + 1) 9 18 _ (by simp [Act.eval]) (HV1.out.drew.alloc _) ⟨w1.heap.size, 0, none⟩ 2 2 [.int .u8 (hx (b3 / 16)), .int .u8 (hx (b3 % 16))] (by simp [Act.eval]) rfl (news2 rfl) (one2 _ _) (by omega) ?_; intro w2 ho2 hg2)
      all_goals
        have HV2 := Lib.hid ho2
        have HB2 := Lib.hid ((HB1.out.alloc hsz2 _).drew.grown hg2 (by simp; omega) (by intro g h; injection h with h; omega))
        clear ho2 hg2
        go_wp2_with fail
        go_roundw
        case measure => simp [intOf]
        refine ⟨4, by omega, rfl, rfl, ?_, HB2.out⟩
        have h := HV2.out
        simp only [cellsOf, tx, duo, List.map_cons, List.map_nil, List.getD_cons_zero, List.map_append, List.getD_cons_succ] at h ⊢
        exact h
    · have e0 := fun W => run_at6 b0 b1 b2 b3 b4 b5 4 (by omega) W
      simp only [List.getD_cons_zero, List.getD_cons_succ, Int.cast_ofNat_Int] at e0
      have eA := fun W => run_hexA b4 h4 g4 W
      have eB := fun W => run_hexB b4 h4 g4 W
      have HV : Hid (wr.ownsRow (w.heap.size + 1) 5 1 (.slice (some ⟨w.heap.size + 1, 0, none⟩) 11 18) 11 (cellsOf (tx [b0, b1, b2, b3, b4, b5] 4))) := HW
      clear HW
      go_wp2_with (at_builtin; refine wpList_append_fits _ rfl (.tmp 14) (.tmp 15) 93 rfl (w.heap.size + 1) 5 i0 1 Tryd.underlying93 hi hz1 (w.heap.size + 1) 11 18 _ rfl (HV.out.alloc _) ⟨wr.heap.size, 0, none⟩ 1 1 [.int .u8 58] rfl rfl (news1 rfl) (one1 _) (by omega) ?_)
      intro w1 ho1 hg1
      have HV1 := Lib.hid ho1
      have HB1 := Lib.hid ((HB.out.alloc hsz _).grown hg1 (by simp; omega) (by intro g h; injection h with h; omega))
      have hsz2 : w.heap.size ≤ w1.heap.size := HB1.out.size
      clear ho1 hg1
      go_wp2_with fail
      go_region_law (refine step_fits _ rfl (.tmp 17) (.tmp 24) 93 rfl (w.heap.size + 1) 5 i0 1 Tryd.underlying93 hi hz1 (w.heap.size + 1) 12 18 _ (by simp [Act.eval]) (HV1.out.drew.alloc _) ⟨w1.heap.size, 0, none⟩ 2 2 [.int .u8 (hx (b4 / 16)), .int .u8 (hx (b4 % 16))] (by simp [Act.eval]) rfl (news2 rfl) (one2 _ _) (by omega) ?_; intro w2 ho2 hg2)
      all_goals
        have HV2 := Lib.hid ho2
        have HB2 := Lib.hid ((HB1.out.alloc hsz2 _).drew.grown hg2 (by simp; omega) (by intro g h; injection h with h; omega))
        clear ho2 hg2
        go_wp2_with fail
        go_roundw
        case measure => simp [intOf]
        refine ⟨5, by omega, rfl, rfl, ?_, HB2.out⟩
        have h := HV2.out
        simp only [cellsOf, tx, duo, List.map_cons, List.map_nil, List.getD_cons_zero, List.map_append, List.getD_cons_succ] at h ⊢
        exact h
    · have e0 := fun W => run_at6 b0 b1 b2 b3 b4 b5 5 (by omega) W
      simp only [List.getD_cons_zero, List.getD_cons_succ, Int.cast_ofNat_Int] at e0
      have eA := fun W => run_hexA b5 h5 g5 W
      have eB := fun W => run_hexB b5 h5 g5 W
      have HV : Hid (wr.ownsRow (w.heap.size + 1) 5 1 (.slice (some ⟨w.heap.size + 1, 0, none⟩) 14 18) 14 (cellsOf (tx [b0, b1, b2, b3, b4, b5] 5))) := HW
      clear HW
      go_wp2_with (at_builtin; refine wpList_append_fits _ rfl (.tmp 14) (.tmp 15) 93 rfl (w.heap.size + 1) 5 i0 1 Tryd.underlying93 hi hz1 (w.heap.size + 1) 14 18 _ rfl (HV.out.alloc _) ⟨wr.heap.size, 0, none⟩ 1 1 [.int .u8 58] rfl rfl (news1 rfl) (one1 _) (by omega) ?_)
      intro w1 ho1 hg1
      have HV1 := Lib.hid ho1
      have HB1 := Lib.hid ((HB.out.alloc hsz _).grown hg1 (by simp; omega) (by intro g h; injection h with h; omega))
      have hsz2 : w.heap.size ≤ w1.heap.size := HB1.out.size
      clear ho1 hg1
      go_wp2_with fail
      go_region_law (refine step_fits _ rfl (.tmp 17) (.tmp 24) 93 rfl (w.heap.size + 1) 5 i0 1 Tryd.underlying93 hi hz1 (w.heap.size + 1) 15 18 _ (by simp [Act.eval]) (HV1.out.drew.alloc _) ⟨w1.heap.size, 0, none⟩ 2 2 [.int .u8 (hx (b5 / 16)), .int .u8 (hx (b5 % 16))] (by simp [Act.eval]) rfl (news2 rfl) (one2 _ _) (by omega) ?_; intro w2 ho2 hg2)
      all_goals
        have HV2 := Lib.hid ho2
        have HB2 := Lib.hid ((HB1.out.alloc hsz2 _).drew.grown hg2 (by simp; omega) (by intro g h; injection h with h; omega))
        clear ho2 hg2
        go_wp2_with fail
        go_roundw
        case measure => simp [intOf]
        refine ⟨6, by omega, rfl, rfl, ?_, HB2.out⟩
        have h := HV2.out
        simp only [cellsOf, tx, duo, List.map_cons, List.map_nil, List.getD_cons_zero, List.map_append, List.getD_cons_succ] at h ⊢
        exact h
    · have HV : Hid (wr.ownsRow (w.heap.size + 1) 5 1 (.slice (some ⟨w.heap.size + 1, 0, none⟩) 17 18) 17 (cellsOf (tx [b0, b1, b2, b3, b4, b5] 6))) := HW
      clear HW
      have hc := run_str (tx [b0, b1, b2, b3, b4, b5] 6) (byt_tx _ (by
        intro k
        rcases (show k = 0 ∨ k = 1 ∨ k = 2 ∨ k = 3 ∨ k = 4 ∨ k = 5 ∨ 6 ≤ k by omega) with rfl | rfl | rfl | rfl | rfl | rfl | hk6
        · exact ⟨h0, g0⟩
        · exact ⟨h1, g1⟩
        · exact ⟨h2, g2⟩
        · exact ⟨h3, g3⟩
        · exact ⟨h4, g4⟩
        · exact ⟨h5, g5⟩
        · rw [List.getD_eq_getElem?_getD, List.getElem?_eq_none (by simpa using hk6)]; decide) 6) 17 (w.heap.size + 1) 18 rfl wr (fun j hj => HV.out.cellAt j (by omega))
      go_wp2_with fail
      go_ret
      exact ⟨rfl, HB.out⟩
end Go.Proofs.YtegbdagmnibfmaaDoor.Mc
