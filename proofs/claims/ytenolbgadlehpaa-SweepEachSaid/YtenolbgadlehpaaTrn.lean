/-
  The contract of sweep.turns: in which order the sweeps of a row ask. Conditions: the row lies in memory, and has up to 16 sweeps.
-/
import Derived.Test.YtenolbgadlehpaaSrt
set_option linter.unusedSimpArgs false
set_option linter.unusedVariables false
namespace Go.Proofs.Ytenolbgadlehpaa
open Go.RowKit

set_option maxRecDepth 100000 in
set_option maxHeartbeats 2000000 in
theorem stableSort_at {R : Ending → World → Prop} (A : Option Addr) (n c : Nat) (F : Value) (w : World) (hn : n ≤ 16) (h : Calls Try.prog 44 #[.slice A n c, .int .i64 ((0 : Nat) : Int), .int .i64 (n : Int), F] w fun e w' => e = .returned (.tuple #[]) ∧ R e w') :
    Calls Try.prog 36 #[.slice A n c, F] w fun e w' => e = .returned (.tuple #[]) ∧ R e w' := by
  have H := Lib.hid h
  clear h
  have h42 : Calls Try.prog 42 #[.slice A n c, .int .i64 (n : Int), F] w fun e w' => e = .returned (.tuple #[]) ∧ R e w' := by
    go_enter Try.func42, Try.ntmps42
    go_wp2_with fail
    go_loopw [7, 8] (fun a b wr => a = .int .i64 0 ∧ b = .int .i64 20 ∧ wr = w) (fun _ _ _ => 0)
    case atStart => exact ⟨rfl, rfl, rfl⟩
    case round =>
      obtain ⟨rfl, rfl, rfl⟩ := hrel
      go_wp2_with fail
      refine H.out.mono ?_
      rintro e w1 ⟨rfl, hR⟩
      have HR := Lib.hid hR
      clear hR
      go_wp2_with fail
      go_loopw [6] (fun b wr => b = .int .i64 20 ∧ wr = w1) (fun _ _ => 0)
      case atStart => exact ⟨rfl, rfl⟩
      case round =>
        obtain ⟨rfl, rfl⟩ := hrel
        go_wp2_with fail
        go_end0
        exact ⟨rfl, HR.out⟩
  have H2 := Lib.hid h42
  clear h42
  go_enter Try.func36, Try.ntmps36
  go_wp2_with fail
  refine H2.out.mono ?_
  rintro e w1 ⟨rfl, hR⟩
  have HR := Lib.hid hR
  clear hR
  go_wp2_with fail
  go_end0
  exact ⟨rfl, HR.out⟩
set_option maxRecDepth 100000 in
set_option maxHeartbeats 2000000 in
theorem sort_none (A : Option Addr) (c : Nat) (F : Value) (w : World) : Calls Try.prog 44 #[.slice A 0 c, .int .i64 ((0 : Nat) : Int), .int .i64 ((0 : Nat) : Int), F] w fun e w' => e = .returned (.tuple #[]) ∧ w = w' := by
  go_enter Try.func44, Try.ntmps44
  go_wp2_with fail
  go_loopw [8] (fun b wr => b = .int .i64 1 ∧ wr = w) (fun _ _ => 0)
  case atStart => exact ⟨rfl, rfl⟩
  case round =>
    obtain ⟨rfl, rfl⟩ := hrel
    go_wp2_with fail
    go_end0
    exact ⟨rfl, rfl⟩

/-- The places, of a row in memory that may be turned. -/
theorem fin_of {xs : List Sw} {now : Int} {m : Nat} (hm : xs.length = m + 1) : ∃ d : Array (Fin (m + 1)), d.toList.map (·.val) = pl xs now xs.length := by
  refine ⟨((pl xs now xs.length).map fun i => if h : i < m + 1 then (⟨i, h⟩ : Fin (m + 1)) else 0).toArray, ?_⟩
  rw [List.map_map]
  conv => rhs; rw [← List.map_id (pl xs now xs.length)]
  refine List.map_congr_left fun i hi => ?_
  have := (pl_mem.1 hi).1
  show (dite _ _ _ : Fin (m + 1)).val = i
  rw [dif_pos (by omega)]

/-- What turns hands back. -/
def TurnPost (w : World) (ys : List Nat) (e : Ending) (w' : World) : Prop := ∃ A cap, e = .returned (.slice A ys.length cap) ∧ Rw eN w' A ys ∧ Below w.heap.size w w' ∧ (∀ y, A = some y → w.heap.size ≤ y.block)

theorem sort_any (pb : Nat) (A : Option Addr) (xs : List Sw) (cap : Nat) (v : Value) (w : World) (now : Int) (B : Nat) (hp : w.cell? ⟨pb, 0, none⟩ = some (.slice A xs.length cap)) (h : Rw eW w A xs) (hpb : pb < B) (hA : ∀ y, A = some y → 0 < xs.length → y.block < B) (h16 : xs.length ≤ 16)
    (ho : w.ownsRow B 3 1 v (pl xs now xs.length).length (eN.cs (pl xs now xs.length))) :
    ∃ A' c, v = .slice A' (ord xs now).length c ∧ (∀ y, A' = some y → B ≤ y.block) ∧ Calls Try.prog 36 #[.slice A' (ord xs now).length c, .func (.func 37) #[] #[.pointer (some ⟨pb, 0, none⟩)]] w fun e w' => e = .returned (.tuple #[]) ∧ Rw eN w' A' (ord xs now) ∧ Below B w w' := by
  have hl := ord_len xs now
  have hpl := pl_len xs now xs.length
  rcases hn : ord xs now with _ | ⟨i0, r⟩
  · rw [hn] at hl
    rw [← hl] at ho
    simp only [List.length_nil] at ho ⊢
    have key : ∃ A' c, v = .slice A' 0 c ∧ (∀ y, A' = some y → B ≤ y.block) := by
      rcases ho.2 with ⟨rfl, -⟩ | ⟨g, c, cur, rfl, hB, -⟩
      · exact ⟨none, 0, rfl, fun y e => by cases e⟩
      · exact ⟨_, _, rfl, fun y e => by injection e with e; subst e; exact hB⟩
    obtain ⟨A', c, rfl, hB⟩ := key
    refine ⟨A', c, rfl, hB, stableSort_at A' 0 c _ w (by omega) ((sort_none A' c _ w).mono ?_)⟩
    rintro e w' ⟨he, rfl⟩
    exact ⟨he, Rw.nil _ _, Below.refl _ _⟩
  · have hpos : 0 < (ord xs now).length := by rw [hn]; simp
    rw [← hn]
    obtain ⟨m, hm⟩ : ∃ m, xs.length = m + 1 := ⟨xs.length - 1, by omega⟩
    obtain ⟨d, hd⟩ := fin_of (now := now) hm
    have hdl : d.size = (pl xs now xs.length).length := by rw [← hd]; simp
    rcases ho.2 with ⟨-, h0⟩ | ⟨g, c, cur, rfl, hB, hg, hle, hmx, hs, ht⟩
    · omega
    · refine ⟨some ⟨g, 0, none⟩, c, by rw [hl], fun y e => by injection e with e; subst e; exact hB, ?_⟩
      have hH : Sort.Holds (encF m) w g 0 d := fun j hj => by
        have hjl : j < (pl xs now xs.length).length := by omega
        have e1 := ho.cellAt j (by omega)
        have e2 := ho.frozenAt j
        rw [Nat.zero_add]
        refine ⟨?_, e2⟩
        rw [e1]
        have e3 := cs_at (E := eN) (pl xs now xs.length) j (pl xs now xs.length)[j] 0 (List.getElem?_eq_getElem hjl) (by show 0 < 1; omega)
        rw [show j * eN.N + 0 = j by show j * 1 + 0 = j; omega] at e3
        rw [e3]
        show some (Value.int .i64 (((pl xs now xs.length)[j] : Nat) : Int)) = some (encF m d[j]!)
        have e4 : (pl xs now xs.length)[j] = d[j]!.val := by
          rw [getElem!_pos d j hj]
          have := congrArg (·[j]?) hd
          simp only [List.getElem?_map, Array.getElem?_toList, Array.getElem?_eq_getElem hj, List.getElem?_eq_getElem hjl, Option.map_some] at this
          exact (Option.some.inj this).symm
        rw [e4, encF]
      have hso := sort_one pb g A xs cap c d w hm hp h (by omega) (fun y hy => Nat.lt_of_lt_of_le (hA y hy (by omega)) hB) (Array.getElem?_eq_some_iff.1 hg).1 hH (by omega) now hd
      rw [hdl, ← hl] at hso
      exact stableSort_at _ _ c _ w (by omega) (hso.mono fun e w' ⟨he, h1, h2⟩ => ⟨he, h1, h2.mono hB⟩)
theorem nat_box (W : World) (k : Nat) : Rw eN (W.alloc (.cells #[.int .i64 (k : Int)] 3)) (some ⟨W.heap.size, 0, none⟩) [k] := by
  refine ⟨by simp, fun q z hq => ?_⟩
  match q, hq with
  | 0, hq =>
    simp at hq
    subst hq
    refine ⟨_, rfl, fun j v hv => ?_⟩
    match j, hv with
    | 0, hv => simp [eN] at hv; subst hv; rw [Addr.add_mid]; simp [eN]
    | j + 1, hv => simp [eN] at hv
  | q + 1, hq => simp at hq

set_option maxRecDepth 100000 in
set_option maxHeartbeats 4000000 in
theorem turns_any (now : Int) (A : Option Addr) (xs : List Sw) (cap : Nat) (w : World) (h : Rw eW w A xs) (h16 : xs.length ≤ 16) :
    Calls Try.prog 27 #[.slice A xs.length cap, .int .i64 now] w (TurnPost w (ord xs now)) := by
  have hln := h.1
  have R := Lib.hid (h.below ((Below.refl _ w).alloc (Nat.le_refl _) (.cells #[.slice A xs.length cap] 29)))
  have HB := Lib.hid (show Below w.heap.size w (w.alloc (.cells #[.slice A xs.length cap] 29)) from (Below.refl _ w).alloc (Nat.le_refl _) _)
  have HA := Lib.hid (show ∀ y, A = some y → 0 < xs.length → y.block < w.heap.size from fun y hy hp => by
    obtain ⟨y', hy', hc⟩ := h.2 0 xs[0] (List.getElem?_eq_getElem hp)
    rw [hy] at hy'
    obtain rfl := Option.some.inj hy'
    have := World.block_lt_of_cell? _ _ (hc 0 _ rfl)
    rwa [add_block] at this)
  have HS := Lib.hid (fun B v W hp hR hpb hA ho => sort_any w.heap.size A xs cap v W now B hp hR hpb hA h16 ho)
  clear h
  have HPL := Lib.hid (fun k => pl_succ xs now k)
  have HLN := Lib.hid (fun k => pl_len xs now k)
  obtain ⟨L, hL⟩ : ∃ L, xs.length = L := ⟨_, rfl⟩
  have HL := Lib.hid hL
  rw [hL] at hln HS HB h16 R HA ⊢
  clear hL
  have b0 : (w.alloc (.cells #[.slice A L cap] 29)).cell? ⟨w.heap.size, 0, none⟩ = some (.slice A L cap) := by simp
  have hs : w.heap.size < (w.alloc (.cells #[.slice A L cap] 29)).heap.size := by simp
  go_enter Try.func27, Try.ntmps27
  go_wp2_with fail
  generalize w.alloc (.cells #[.slice A L cap] 29) = W at *
  go_loopw [5, 10] (fun v i wr => ∃ k : Nat, i = .int .i64 k ∧ k ≤ L ∧ Hid (wr.ownsRow W.heap.size 3 1 v (pl xs now k).length (eN.cs (pl xs now k)) ∧ Below W.heap.size W wr)) (fun _ i _ => L - (intOf i).toNat)
  case atStart => exact ⟨0, rfl, by omega, Lib.hid ⟨World.ownsRow_nil _ _ _ _, Below.refl _ _⟩⟩
  case round =>
    obtain ⟨k, rfl, hk, HW⟩ := hrel
    by_cases hkL : k < L
    · obtain ⟨x, hx⟩ : ∃ x, xs[k]? = some x := ⟨_, List.getElem?_eq_getElem (by rw [HL.out]; exact hkL)⟩
      obtain ⟨y, rfl⟩ := rw_some R.out (by rw [HL.out]; omega)
      have hat := (R.out.below HW.out.2).at hx
      have HX := Lib.hid hx
      have HD := Lib.hid (du_at hx)
      have B1 := Lib.hid (show Below W.heap.size W (wr.alloc (Swx x)) from HW.out.2.alloc HW.out.2.size _)
      have O1 := Lib.hid (own_keep HW.out.1 ((Below.refl _ wr).alloc (Nat.le_refl _) (Swx x)))
      clear hx
      by_cases hdue : x.d ≤ now
      · have HE := Lib.hid (show pl xs now (k + 1) = pl xs now k ++ [k] by rw [HPL.out, HD.out, if_pos hdue])
        have B2 := Lib.hid (show Below W.heap.size W ((wr.alloc (Swx x)).alloc (.cells #[.int .i64 (k : Int)] 3)) from B1.out.alloc B1.out.size _)
        have O2 := Lib.hid (own_keep O1.out ((Below.refl _ (wr.alloc (Swx x))).alloc (Nat.le_refl _) (.cells #[.int .i64 (k : Int)] 3)))
        have N2 := Lib.hid (nat_box (wr.alloc (Swx x)) k)
        have hlen : (pl xs now k).length + 1 ≤ 1000000000000 := by have := HLN.out k; omega
        have hbase := Lib.hid B2.out.size
        unfold Swx at *
        go_wp2_with (first | (refine at_load39 (.tmp 13) rfl rfl (y.add (k * 4)) x rfl hat ?_) | (at_builtin; refine wpList_append_rw tN _ rfl (.tmp 19) (.tmp 21) rfl W.heap.size _ _ _ (by simp [Act.eval, Act.put]) O2.out _ 1 1 [k] (by simp [Act.eval, Act.put]) rfl N2.out hlen hbase.out ?_))
        intro v2 w2 ho2 hg2
        have O3 := Lib.hid ho2
        have B3 := Lib.hid (B2.out.grown hg2 hbase.out (fun j hj => (O2.out.lt j hj).1))
        clear ho2 hg2
        go_wp2_with fail
        go_roundw
        case rel => exact ⟨k + 1, by go_num, by omega, Lib.hid ⟨by rw [HE.out, List.length_append]; exact O3.out, B3.out⟩⟩
        case measure => simp [intOf]; omega
      · have HE := Lib.hid (show pl xs now (k + 1) = pl xs now k by rw [HPL.out, HD.out, if_neg hdue, List.append_nil])
        unfold Swx at *
        go_wp2_with (refine at_load39 (.tmp 13) rfl rfl (y.add (k * 4)) x rfl hat ?_)
        go_roundw
        case rel => exact ⟨k + 1, by go_num, by omega, Lib.hid ⟨by rw [HE.out]; exact O1.out, B1.out⟩⟩
        case measure => simp [intOf]; omega
    · obtain rfl : k = L := by omega
      have hp : wr.cell? ⟨w.heap.size, 0, none⟩ = some (.slice A k cap) := by rw [HW.out.2.cell (p := ⟨w.heap.size, 0, none⟩) hs]; exact b0
      obtain ⟨A', c, rfl, hAB, hc⟩ := HS.out W.heap.size _ wr hp (R.out.below HW.out.2) hs (fun y hy hp => Nat.lt_trans (HA.out y hy hp) hs) HW.out.1
      have HC := Lib.hid hc
      have HAB := Lib.hid hAB
      clear hc hp hAB
      go_wp2_with fail
      refine HC.out.mono ?_
      rintro e w1 ⟨rfl, h1, h2⟩
      have H1 := Lib.hid h1
      have H2 := Lib.hid (HB.out.trans ((HW.out.2.trans h2).mono HB.out.size))
      clear h1 h2
      go_wp2_with fail
      go_ret
      exact ⟨A', c, rfl, H1.out, H2.out, fun y hy => by have := HAB.out y hy; have := HB.out.size; omega⟩
end Go.Proofs.Ytenolbgadlehpaa
