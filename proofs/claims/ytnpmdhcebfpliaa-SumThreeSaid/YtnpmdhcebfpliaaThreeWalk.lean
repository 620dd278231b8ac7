/-
  SumThree's walk: for every three numbers of 64 bits it returns true, and nothing that was in memory is touched. Condition: the numbers have 64 bits.
-/
import Derived.Test.YtnpmdhcebfpliaaSealWalk
namespace Go.Proofs.Ytnpmdhcebfpliaa
open Go.RowKit

/-- The first bytes of a number, the least significant first. -/
def bts (n : Nat) : Nat → List Nat
  | 0 => []
  | j + 1 => bts n j ++ [n / 2 ^ (8 * j) % 256]
theorem bts_length (n : Nat) : ∀ j, (bts n j).length = j
  | 0 => rfl
  | j + 1 => by rw [bts, List.length_append, bts_length n j]; rfl
theorem bts_bs (n : Nat) : ∀ j, Bs (bts n j)
  | 0 => fun i => by simp [bts]
  | j + 1 => (bts_bs n j).append (Bs.one (by omega))
theorem bts_at (n : Nat) : ∀ j i, i < j → (bts n j).getD i 0 = n / 2 ^ (8 * i) % 256
  | 0, i, h => by omega
  | j + 1, i, h => by
    rw [bts]
    rcases Nat.lt_or_ge i j with hi | hi
    · rw [getD_left (by rw [bts_length]; exact hi), bts_at n j i hi]
    · obtain rfl : i = j := by omega
      rw [getD_right (by rw [bts_length]; omega), bts_length, Nat.sub_self]
      rfl
theorem byte_xor (a b i : Nat) : (a ^^^ b) / 2 ^ i % 256 = (a / 2 ^ i % 256) ^^^ (b / 2 ^ i % 256) := by
  apply Nat.eq_of_testBit_eq
  intro k
  rw [show (256 : Nat) = 2 ^ 8 from rfl, Nat.testBit_xor, Nat.testBit_mod_two_pow, Nat.testBit_mod_two_pow, Nat.testBit_mod_two_pow, Nat.testBit_div_two_pow, Nat.testBit_div_two_pow, Nat.testBit_div_two_pow, Nat.testBit_xor]
  cases decide (k < 8) <;> simp
theorem chk_three (a b c : Nat) : chk (bts (a ^^^ b ^^^ c) 8) = chk (bts a 8) ^^^ chk (bts b 8) ^^^ chk (bts c 8) := by
  unfold chk
  rw [bts_length, bts_length, bts_length, bts_length, reg_three (xs := bts a 8) (ys := bts b 8) (zs := bts c 8) 8 (fun i hi => by rw [bts_at _ _ _ hi, bts_at _ _ _ hi, bts_at _ _ _ hi, bts_at _ _ _ hi, byte_xor, byte_xor])]
  rw [xor4 (reg (bts a 8) 8), Nat.xor_self, Nat.xor_zero, ← Nat.xor_assoc]

/-- Two rows in blocks of their own. -/
def Apart (v u : Value) : Prop := ∀ g, v.ownBlock = some g → u.ownBlock ≠ some g
theorem Apart.ne {v u : Value} (h : Apart v u) : u.ownBlock = none ∨ u.ownBlock ≠ v.ownBlock := by
  cases hu : u.ownBlock with
  | none => exact .inl rfl
  | some g => exact .inr fun e => h g e.symm hu
theorem Apart.turn {v u : Value} (h : Apart v u) : Apart u v := fun g hu hv => h g hv hu

/-- Four rows, of so many bytes. -/
def R4 (w : World) (base a b c d nx ny nz nu : Nat) (x y z u : Value) (wr : World) : Prop :=
  Below w.heap.size w wr ∧ w.heap.size ≤ base ∧ base ≤ wr.heap.size ∧
    wr.ownsRow base 5 1 x nx (cel (bts a nx)) ∧ wr.ownsRow base 5 1 y ny (cel (bts b ny)) ∧ wr.ownsRow base 5 1 z nz (cel (bts c nz)) ∧ wr.ownsRow base 5 1 u nu (cel (bts d nu)) ∧
    Apart x y ∧ Apart x z ∧ Apart x u ∧ Apart y z ∧ Apart y u ∧ Apart z u
def Rel3 (w : World) (base a b c d : Nat) (x y z u i : Value) (wr : World) : Prop :=
  ∃ j : Nat, j ≤ 8 ∧ i = .int .i64 ((8 * j : Nat) : Int) ∧ R4 w base a b c d j j j j x y z u wr

theorem blk_at {w : World} {o : Obj} {i : Nat} (h : i = w.heap.size) : (w.alloc o).heap[i]? = some o := by subst h; exact heap_alloc_new w o
theorem blk_past {w : World} {o p : Obj} {i : Nat} (h : w.heap[i]? = some p) : (w.alloc o).heap[i]? = some p := by
  have hi : i < w.heap.size := by
    rcases Nat.lt_or_ge i w.heap.size with hi | hi
    · exact hi
    · rw [Array.getElem?_eq_none hi] at h
      cases h
  exact (Below.heap_alloc w o i hi).trans h
theorem blk_drew {w : World} {p : Obj} {i : Nat} (h : w.heap[i]? = some p) : w.drew.heap[i]? = some p := h
theorem kb_of {w w' : World} {row : Option Nat} {N : Nat} (hg : w.grownBy w' row) (hr : ∀ k, row = some k → k < N) : ∀ i (p : Obj), N ≤ i → w.heap[i]? = some p → w'.heap[i]? = some p := by
  intro i p hN h
  have hi : i < w.heap.size := by
    rcases Nat.lt_or_ge i w.heap.size with hi | hi
    · exact hi
    · rw [Array.getElem?_eq_none hi] at h
      cases h
  exact (hg.block i hi (fun e => by have := hr i e.symm; omega)).trans h

/-- One byte appended, inside a region that draws its order. -/
theorem step_append_one (w : World) {ops : Array Oper} {o : Oper} {a : Act} {K : Act → World → Prop} {Q : Exit → Act → World → Prop} {E : Prop} (hgd : o.guard = none) (s x : Operand) (ho : o.op = .call { callee := .builtin .append, args := #[s, x], argTypes := #[22, 22] })
    (base : Nat) (v : Value) (n : Nat) (xs : List Nat) (hs : a.eval s = v) (hown : w.ownsRow base 5 1 v n (cel xs)) (t : Nat) (ht : t < 256)
    (hb : ∃ g, a.eval x = .slice (some ⟨g, 0, none⟩) 1 1 ∧ w.heap[g]? = some (.cells #[.int .u8 (t : Int)] 5 (0, 0))) (hlen : n ≤ 100) (hbase : base ≤ w.heap.size)
    (h : ∀ g cap w', w'.ownsRow base 5 1 (.slice (some ⟨g, 0, none⟩) (n + 1) cap) (n + 1) (cel (xs ++ [t])) → w.grownBy w' v.ownBlock → (v.ownBlock = some g ∨ g = w.heap.size) → g < w'.heap.size → K (a.put o.dst (.slice (some ⟨g, 0, none⟩) (n + 1) cap)) w') :
    if Region.wanted o (yielded ops a.tmps) = true then Oper.wp Try.prog o a w K Q else E := by
  obtain ⟨g, hx, hg⟩ := hb
  exact step_append_rd w hgd s x ho base v n xs hs hown (some ⟨g, 0, none⟩) 1 1 [t] hx rfl (Rd.block hg rfl (Bs.one ht) (by simp)) (by omega) (by omega) hbase h

/-- Where a row lies behind an append: where it was, or from N on. -/
def At (v : Value) (N g : Nat) : Prop := v.ownBlock = some g ∨ N ≤ g
theorem ap_old {v u : Value} {N g L c : Nat} (h : At v N g) (a : Apart v u) (hu : ∀ k, u.ownBlock = some k → k < N) : Apart (.slice (some ⟨g, 0, none⟩) L c) u := by
  intro k hk e
  have hk : g = k := by simpa [Value.ownBlock] using hk
  subst hk
  rcases h with h | h
  · exact a g h e
  · have := hu g e
    omega
theorem ap_new {v u : Value} {N M g k L c L' c' : Nat} (h : At v N g) (h' : At u M k) (a : Apart v u) (hv : ∀ i, v.ownBlock = some i → i < N) (hu : ∀ i, u.ownBlock = some i → i < N) (hg : g < M) : Apart (.slice (some ⟨g, 0, none⟩) L c) (.slice (some ⟨k, 0, none⟩) L' c') := by
  intro i hi e
  have hi : g = i := by simpa [Value.ownBlock] using hi
  have e : k = i := by simpa [Value.ownBlock] using e
  subst hi
  subst e
  rcases h with h | h
  · rcases h' with h' | h'
    · exact a k h h'
    · have := hv k h; omega
  · rcases h' with h' | h'
    · have := hu k h'; omega
    · omega
theorem wrap_byte (n j : Nat) : IntKind.u8.wrap ((n : Int) / 2 ^ (8 * (j : Int)).toNat) = ((n / 2 ^ (8 * j) % 256 : Nat) : Int) := by
  rw [IntKind.wrap_u8', show (8 * (j : Int)).toNat = 8 * j by omega]
  have e : (2 : Int) ^ (8 * j) = ((2 ^ (8 * j) : Nat) : Int) := (Int.natCast_pow 2 (8 * j)).symm
  rw [e, ← Int.natCast_ediv]
  rfl

set_option maxRecDepth 100000 in
set_option maxHeartbeats 8000000 in
theorem sumThree_walk (a b c : Int) (w : World) (ha : 0 ≤ a ∧ a < 18446744073709551616) (hb : 0 ≤ b ∧ b < 18446744073709551616) (hc : 0 ≤ c ∧ c < 18446744073709551616) :
    Calls Try.prog 8 #[.int .u64 a, .int .u64 b, .int .u64 c] w fun e w' => e = .returned (.bool true) ∧ Below w.heap.size w w' := by
  obtain ⟨a, rfl⟩ := Int.eq_ofNat_of_zero_le ha.1
  obtain ⟨b, rfl⟩ := Int.eq_ofNat_of_zero_le hb.1
  obtain ⟨c, rfl⟩ := Int.eq_ofNat_of_zero_le hc.1
  have hA := Lib.hid (show a < 18446744073709551616 by omega)
  have hB := Lib.hid (show b < 18446744073709551616 by omega)
  have hC := Lib.hid (show c < 18446744073709551616 by omega)
  clear ha hb hc
  obtain ⟨d, hd⟩ : ∃ d, d = a ^^^ b ^^^ c := ⟨_, rfl⟩
  have HD := Lib.hid hd
  clear hd
  have AW := Lib.hid (awake_any w)
  go_enter Try.func8, Try.ntmps8
  go_wp2_with fail
  refine AW.out.mono ?_
  rintro e w1 ⟨rfl, hb⟩
  have B := Lib.hid hb
  clear hb
  go_wp2_with fail
  go_loopw [7, 8, 9, 10, 11] (fun x y z u i wr => Rel3 w w1.heap.size a b c d x y z u i wr) (fun _ _ _ _ i _ => 64 - (intOf i).toNat)
  case atStart =>
    have n0 : Apart (.slice none 0 0) (.slice none 0 0) := fun g h => by cases h
    exact ⟨0, by omega, rfl, B.out, B.out.size, Nat.le_refl _, World.ownsRow_nil _ _ _ _, World.ownsRow_nil _ _ _ _, World.ownsRow_nil _ _ _ _, World.ownsRow_nil _ _ _ _, n0, n0, n0, n0, n0, n0⟩
  case round =>
    obtain ⟨j, hj, rfl, hbel, hz1, hz2, ox, oy, oz, ou, axy, axz, axu, ayz, ayu, azu⟩ := hrel
    have LX := Lib.hid fun k hk => (ox.lt k hk).2
    have LY := Lib.hid fun k hk => (oy.lt k hk).2
    have LZ := Lib.hid fun k hk => (oz.lt k hk).2
    have LU := Lib.hid fun k hk => (ou.lt k hk).2
    have DX := Lib.hid fun k hk => Nat.le_trans hz1 (ox.lt k hk).1
    have DY := Lib.hid fun k hk => Nat.le_trans hz1 (oy.lt k hk).1
    have DZ := Lib.hid fun k hk => Nat.le_trans hz1 (oz.lt k hk).1
    have DU := Lib.hid fun k hk => Nat.le_trans hz1 (ou.lt k hk).1
    have OX := Lib.hid ox
    have OY := Lib.hid oy
    have OZ := Lib.hid oz
    have OU := Lib.hid ou
    have BB := Lib.hid hbel
    have AXY := Lib.hid axy
    have AXZ := Lib.hid axz
    have AXU := Lib.hid axu
    have AYZ := Lib.hid ayz
    have AYU := Lib.hid ayu
    have AZU := Lib.hid azu
    clear ox oy oz ou hbel axy axz axu ayz ayu azu
    by_cases hlt : j < 8
    · go_upto_region 7 with (fail)
      go_cut [7, 8, 9] from 14 to 49 (fun x y z wc => R4 w w1.heap.size a b c d (j + 1) (j + 1) (j + 1) j x y z u10 wc)
      case first =>
        obtain ⟨ba, hba⟩ : ∃ n, n = a / 2 ^ (8 * j) % 256 := ⟨_, rfl⟩
        obtain ⟨bb, hbb⟩ : ∃ n, n = b / 2 ^ (8 * j) % 256 := ⟨_, rfl⟩
        obtain ⟨bc, hbc⟩ : ∃ n, n = c / 2 ^ (8 * j) % 256 := ⟨_, rfl⟩
        have ba1 : ba < 256 := by omega
        have bb1 : bb < 256 := by omega
        have bc1 : bc < 256 := by omega
        have EA := wrap_byte a j
        have EB := wrap_byte b j
        have EC := wrap_byte c j
        rw [← hba] at EA
        rw [← hbb] at EB
        rw [← hbc] at EC
        have HBA := Lib.hid hba
        have HBB := Lib.hid hbb
        have HBC := Lib.hid hbc
        clear hba hbb hbc
        go_region_held3 (fun _ => True) (trivial)
          (first
            | ((with_reducible show if Region.wanted (Oper.mk (some 24) _ _ _ _ _) _ = true then _ else _); refine step_append_one _ (by rfl) (.tmp 18) (.tmp 23) (by rfl) w1.heap.size u7 j (bts a j) (by rfl) (by repeat (first | with_reducible exact OX.out | with_reducible refine World.ownsRow.drew ?_ | with_reducible refine World.ownsRow.alloc ?_ _)) ba ba1 (by refine ⟨_, rfl, ?_⟩; repeat (first | ((with_reducible refine blk_at ?_); simp; done) | with_reducible refine blk_drew ?_ | with_reducible refine blk_past ?_ | ((with_reducible refine KBx.out _ _ ?_ ?_); omega) | ((with_reducible refine KBy.out _ _ ?_ ?_); omega))) (by omega) (by first | omega | (simp; omega)) ?_; intro gx cx wx hox hgx hax hlx; have sx : wr.heap.size ≤ wx.heap.size := (by have := hgx.size; first | omega | (simp at this; omega)); have GX := Lib.hid (show At u7 wr.heap.size gx from (hax.imp id (fun h => (by first | omega | (simp at h; omega))))); have KBx := Lib.hid (kb_of hgx LX.out); have OY1 := Lib.hid (show wx.ownsRow w1.heap.size 5 1 u8 j (cel (bts b j)) from World.ownsRow.kept (by repeat (first | with_reducible exact OY.out | with_reducible refine World.ownsRow.drew ?_ | with_reducible refine World.ownsRow.alloc ?_ _)) hgx AXY.out.ne); have OZ1 := Lib.hid (show wx.ownsRow w1.heap.size 5 1 u9 j (cel (bts c j)) from World.ownsRow.kept (by repeat (first | with_reducible exact OZ.out | with_reducible refine World.ownsRow.drew ?_ | with_reducible refine World.ownsRow.alloc ?_ _)) hgx AXZ.out.ne); have OU1 := Lib.hid (show wx.ownsRow w1.heap.size 5 1 u10 j (cel (bts d j)) from World.ownsRow.kept (by repeat (first | with_reducible exact OU.out | with_reducible refine World.ownsRow.drew ?_ | with_reducible refine World.ownsRow.alloc ?_ _)) hgx AXU.out.ne); have BX := Lib.hid (show Below w.heap.size w wx from Below.grown (by repeat (first | with_reducible exact BB.out | with_reducible refine Below.drew ?_ | refine Below.alloc ?_ (by first | omega | (simp; omega)) _)) hgx (by first | omega | (simp; omega)) DX.out); have HOX := Lib.hid hox; clear hox hgx hax)
            | ((with_reducible show if Region.wanted (Oper.mk (some 31) _ _ _ _ _) _ = true then _ else _); refine step_append_one _ (by rfl) (.tmp 25) (.tmp 30) (by rfl) w1.heap.size u8 j (bts b j) (by rfl) (by repeat (first | with_reducible exact OY1.out | with_reducible refine World.ownsRow.drew ?_ | with_reducible refine World.ownsRow.alloc ?_ _)) bb bb1 (by refine ⟨_, rfl, ?_⟩; repeat (first | ((with_reducible refine blk_at ?_); simp; done) | with_reducible refine blk_drew ?_ | with_reducible refine blk_past ?_ | ((with_reducible refine KBx.out _ _ ?_ ?_); omega) | ((with_reducible refine KBy.out _ _ ?_ ?_); omega))) (by omega) (by first | omega | (simp; omega)) ?_; intro gy cy wy hoy hgy hay hly; have sy : wx.heap.size ≤ wy.heap.size := (by have := hgy.size; first | omega | (simp at this; omega)); have GY := Lib.hid (show At u8 wx.heap.size gy from (hay.imp id (fun h => (by first | omega | (simp at h; omega))))); have KBy := Lib.hid (kb_of hgy LY.out); have HOX1 := Lib.hid (show wy.ownsRow w1.heap.size 5 1 (.slice (some ⟨gx, 0, none⟩) (j + 1) cx) (j + 1) (cel (bts a j ++ [ba])) from World.ownsRow.kept (by repeat (first | with_reducible exact HOX.out | with_reducible refine World.ownsRow.drew ?_ | with_reducible refine World.ownsRow.alloc ?_ _)) hgy (ap_old GX.out AXY.out LY.out).turn.ne); have OZ2 := Lib.hid (show wy.ownsRow w1.heap.size 5 1 u9 j (cel (bts c j)) from World.ownsRow.kept (by repeat (first | with_reducible exact OZ1.out | with_reducible refine World.ownsRow.drew ?_ | with_reducible refine World.ownsRow.alloc ?_ _)) hgy AYZ.out.ne); have OU2 := Lib.hid (show wy.ownsRow w1.heap.size 5 1 u10 j (cel (bts d j)) from World.ownsRow.kept (by repeat (first | with_reducible exact OU1.out | with_reducible refine World.ownsRow.drew ?_ | with_reducible refine World.ownsRow.alloc ?_ _)) hgy AYU.out.ne); have BY := Lib.hid (show Below w.heap.size w wy from Below.grown (by repeat (first | with_reducible exact BX.out | with_reducible refine Below.drew ?_ | refine Below.alloc ?_ (by first | omega | (simp; omega)) _)) hgy (by first | omega | (simp; omega)) DY.out); have HOY := Lib.hid hoy; clear hoy hgy hay)
            | ((with_reducible show if Region.wanted (Oper.mk (some 38) _ _ _ _ _) _ = true then _ else _); refine step_append_one _ (by rfl) (.tmp 32) (.tmp 37) (by rfl) w1.heap.size u9 j (bts c j) (by rfl) (by repeat (first | with_reducible exact OZ2.out | with_reducible refine World.ownsRow.drew ?_ | with_reducible refine World.ownsRow.alloc ?_ _)) bc bc1 (by refine ⟨_, rfl, ?_⟩; repeat (first | ((with_reducible refine blk_at ?_); simp; done) | with_reducible refine blk_drew ?_ | with_reducible refine blk_past ?_ | ((with_reducible refine KBx.out _ _ ?_ ?_); omega) | ((with_reducible refine KBy.out _ _ ?_ ?_); omega))) (by omega) (by first | omega | (simp; omega)) ?_; intro gz cz wz hoz hgz haz hlz; have sz : wy.heap.size ≤ wz.heap.size := (by have := hgz.size; first | omega | (simp at this; omega)); have GZ := Lib.hid (show At u9 wy.heap.size gz from (haz.imp id (fun h => (by first | omega | (simp at h; omega))))); have HOX2 := Lib.hid (show wz.ownsRow w1.heap.size 5 1 (.slice (some ⟨gx, 0, none⟩) (j + 1) cx) (j + 1) (cel (bts a j ++ [ba])) from World.ownsRow.kept (by repeat (first | with_reducible exact HOX1.out | with_reducible refine World.ownsRow.drew ?_ | with_reducible refine World.ownsRow.alloc ?_ _)) hgz (ap_old GX.out AXZ.out LZ.out).turn.ne); have HOY2 := Lib.hid (show wz.ownsRow w1.heap.size 5 1 (.slice (some ⟨gy, 0, none⟩) (j + 1) cy) (j + 1) (cel (bts b j ++ [bb])) from World.ownsRow.kept (by repeat (first | with_reducible exact HOY.out | with_reducible refine World.ownsRow.drew ?_ | with_reducible refine World.ownsRow.alloc ?_ _)) hgz (ap_old GY.out AYZ.out (fun k hk => Nat.lt_of_lt_of_le (LZ.out k hk) sx)).turn.ne); have OU3 := Lib.hid (show wz.ownsRow w1.heap.size 5 1 u10 j (cel (bts d j)) from World.ownsRow.kept (by repeat (first | with_reducible exact OU2.out | with_reducible refine World.ownsRow.drew ?_ | with_reducible refine World.ownsRow.alloc ?_ _)) hgz AZU.out.ne); have BZ := Lib.hid (show Below w.heap.size w wz from Below.grown (by repeat (first | with_reducible exact BY.out | with_reducible refine Below.drew ?_ | refine Below.alloc ?_ (by first | omega | (simp; omega)) _)) hgz (by first | omega | (simp; omega)) DZ.out); have HOZ := Lib.hid hoz; clear hoz hgz haz)
            | fail)
        all_goals
          have FIN := Lib.hid (show R4 w w1.heap.size a b c d (j + 1) (j + 1) (j + 1) j (.slice (some ⟨gx, 0, none⟩) (j + 1) cx) (.slice (some ⟨gy, 0, none⟩) (j + 1) cy) (.slice (some ⟨gz, 0, none⟩) (j + 1) cz) u10 wz from by
            have e1 := HOX2.out
            have e2 := HOY2.out
            have e3 := HOZ.out
            rw [HBA.out] at e1
            rw [HBB.out] at e2
            rw [HBC.out] at e3
            exact ⟨BZ.out, hz1, by omega, e1, e2, e3, OU3.out, ap_new GX.out GY.out AXY.out LX.out LY.out hlx, ap_new GX.out (GZ.out.imp id (fun h => Nat.le_trans sy h)) AXZ.out LX.out LZ.out hlx, ap_old GX.out AXU.out LU.out,
              ap_new (N := wr.heap.size) (GY.out.imp id (fun h => Nat.le_trans sx h)) GZ.out AYZ.out LY.out LZ.out hly, ap_old (GY.out.imp id (fun h => Nat.le_trans sx h)) AYU.out LU.out, ap_old (GZ.out.imp id (fun h => Nat.le_trans (Nat.le_trans sx sy) h)) AZU.out LU.out⟩)
          clear EA EB EC
          go_wp2_with fail
          go_meet
          exact FIN.out
      case rest =>
        clear OX OY OZ OU BB AXY AXZ AXU AYZ AYU AZU LX LY LZ LU DX DY DZ DU
        obtain ⟨hbel, _, hz3, ox, oy, oz, ou, axy, axz, axu, ayz, ayu, azu⟩ := hcut
        have LX := Lib.hid fun k hk => (ox.lt k hk).2
        have LY := Lib.hid fun k hk => (oy.lt k hk).2
        have LZ := Lib.hid fun k hk => (oz.lt k hk).2
        have LU := Lib.hid fun k hk => (ou.lt k hk).2
        have DU := Lib.hid fun k hk => Nat.le_trans hz1 (ou.lt k hk).1
        have OX := Lib.hid ox
        have OY := Lib.hid oy
        have OZ := Lib.hid oz
        have OU := Lib.hid ou
        have BB := Lib.hid hbel
        have AXY := Lib.hid axy
        have AXZ := Lib.hid axz
        have AXU := Lib.hid axu
        have AYZ := Lib.hid ayz
        have AYU := Lib.hid ayu
        have AZU := Lib.hid azu
        clear ox oy oz ou hbel axy axz axu ayz ayu azu
        obtain ⟨bd, hbd⟩ : ∃ n, n = d / 2 ^ (8 * j) % 256 := ⟨_, rfl⟩
        have bd1 : bd < 256 := by omega
        have EW := wrap_byte d j
        rw [← hbd] at EW
        have EM : ((d : Int) / 2 ^ (8 * j)) % 256 = (bd : Int) := by rw [← EW, IntKind.wrap_u8', show (8 * (j : Int)).toNat = 8 * j by omega]
        have HBD := Lib.hid hbd
        clear hbd
        have X1 : bits .xor .u64 (a : Int) (b : Int) = ((a ^^^ b : Nat) : Int) := u64_xor_nat a b hA.out hB.out
        have X2 : bits .xor .u64 ((a ^^^ b : Nat) : Int) (c : Int) = (d : Int) := by rw [HD.out]; exact u64_xor_nat (a ^^^ b) c (Nat.xor_lt_two_pow (n := 64) hA.out hB.out) hC.out
        clear EW
        go_wp2_with (at_builtin; refine wpList_append_rd _ rfl (.tmp 39) (.tmp 48) rfl w1.heap.size u10 j (bts d j) rfl (OU.out.alloc _) (some ⟨wc.heap.size, 0, none⟩) 1 1 [bd] rfl rfl (Rd.one wc bd1) (by omega) (by omega) (by simp; omega) ?_)
        intro gu cu wu hou hgu hau hlu
        have GU := Lib.hid (show At u10 wc.heap.size gu from hau.imp id (fun h => (by first | omega | (simp at h; omega))))
        have FIN := Lib.hid (show Rel3 w w1.heap.size a b c d u7 u8 u9 (.slice (some ⟨gu, 0, none⟩) (j + 1) cu) (.int .i64 ((8 * (j + 1) : Nat) : Int)) wu from by
          have e4 := hou
          rw [HBD.out] at e4
          have su := hgu.size
          simp at su
          exact ⟨j + 1, by omega, rfl, (BB.out.alloc BB.out.size _).grown hgu (by have := BB.out.size; simp; omega) DU.out, hz1, by omega, (OX.out.alloc _).kept hgu AXU.out.turn.ne, (OY.out.alloc _).kept hgu AYU.out.turn.ne, (OZ.out.alloc _).kept hgu AZU.out.turn.ne, e4, AXY.out, AXZ.out, (ap_old GU.out AXU.out.turn LX.out).turn, AYZ.out, (ap_old GU.out AYU.out.turn LY.out).turn, (ap_old GU.out AZU.out.turn LZ.out).turn⟩)
        clear hou hgu hau
        clear EM X1 X2
        go_wp2_with fail
        have e8 : (8 : Int) * (j : Int) + 8 = ((8 * (j + 1) : Nat) : Int) := by omega
        go_roundw
        case measure => simp [intOf]; omega
        case rel =>
          rw [e8]
          first | exact FIN.out | ((repeat apply Exists.intro); exact ⟨FIN.out, rfl⟩)
    · obtain rfl : j = 8 := by omega
      have fx := OX.out.form (by omega)
      have fy := OY.out.form (by omega)
      have fz := OZ.out.form (by omega)
      have fu := OU.out.form (by omega)
      obtain ⟨gx, cx, rfl, _⟩ := fx
      obtain ⟨gy, cy, rfl, _⟩ := fy
      obtain ⟨gz, cz, rfl, _⟩ := fz
      obtain ⟨gu, cu, rfl, _⟩ := fu
      have C1 := check_any _ _ cx _ (Rd.own OX.out (bts_bs a 8) (by rw [bts_length]; omega)).2
      have C2 := check_any _ _ cy _ (Rd.own OY.out (bts_bs b 8) (by rw [bts_length]; omega)).2
      have C3 := check_any _ _ cz _ (Rd.own OZ.out (bts_bs c 8) (by rw [bts_length]; omega)).2
      have C4 := check_any _ _ cu _ (Rd.own OU.out (bts_bs d 8) (by rw [bts_length]; omega)).2
      rw [bts_length] at C1 C2 C3 C4
      have l1 := chk_lt (bts_bs a 8)
      have l2 := chk_lt (bts_bs b 8)
      have l3 := chk_lt (bts_bs c 8)
      have CT := Lib.hid (show chk (bts d 8) = chk (bts a 8) ^^^ chk (bts b 8) ^^^ chk (bts c 8) by rw [HD.out]; exact chk_three a b c)
      have X1 : bits .xor .u32 (chk (bts a 8) : Int) (chk (bts b 8) : Int) = ((chk (bts a 8) ^^^ chk (bts b 8) : Nat) : Int) := u32_xor_nat _ _ l1 l2
      have X2 : bits .xor .u32 ((chk (bts a 8) ^^^ chk (bts b 8) : Nat) : Int) (chk (bts c 8) : Int) = ((chk (bts a 8) ^^^ chk (bts b 8) ^^^ chk (bts c 8) : Nat) : Int) := u32_xor_nat _ _ (xor_lt l1 l2) l3
      have H1 := Lib.hid C1
      have H2 := Lib.hid C2
      have H3 := Lib.hid C3
      have H4 := Lib.hid C4
      clear C1 C2 C3 C4
      generalize chk (bts a 8) = ka at *
      generalize chk (bts b 8) = kb at *
      generalize chk (bts c 8) = kc at *
      generalize chk (bts d 8) = kd at *
      go_wp2_with fail
      refine H4.out.mono ?_
      rintro e w3 ⟨rfl, rfl⟩
      go_wp2_with fail
      refine H1.out.mono ?_
      rintro e w3 ⟨rfl, rfl⟩
      go_wp2_with fail
      refine H2.out.mono ?_
      rintro e w3 ⟨rfl, rfl⟩
      go_wp2_with fail
      refine H3.out.mono ?_
      rintro e w3 ⟨rfl, rfl⟩
      go_wp2_with fail
      go_ret
      exact ⟨ret_bool (by rw [CT.out]; simp), BB.out⟩
end Go.Proofs.Ytnpmdhcebfpliaa
