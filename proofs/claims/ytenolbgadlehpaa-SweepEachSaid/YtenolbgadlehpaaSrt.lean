/-
  The contracts of sweep.turns' comparison, and of slices.SortStableFunc at it. Conditions: the row and the places lie in memory, and there are up to 16.
-/
import Derived.Test.YtenolbgadlehpaaOrd
import Derived.Test.YtenolbgadlehpaaPlace
import Derived.Test.YtenolbgadlehpaaShelf
set_option linter.unusedSimpArgs false
set_option linter.unusedVariables false
namespace Go.Proofs.Ytenolbgadlehpaa
open Go.RowKit

theorem rw_f {w : World} {y : Addr} {xs : List Sw} (R : Rw eW w (some y) xs) {k : Nat} {x : Sw} (hx : xs[k]? = some x) : w.cell? ⟨(y.add (k * 4)).block, (y.add (k * 4)).off + 1, none⟩ = some (.int .i64 x.b) ∧ w.cell? ⟨(y.add (k * 4)).block, (y.add (k * 4)).off + 2, none⟩ = some (.int .i64 x.d) ∧ w.cell? ⟨(y.add (k * 4)).block, (y.add (k * 4)).off + 3, none⟩ = some (.int .i64 x.n) := by
  obtain ⟨-, h1, h2, h3⟩ := rw_c0 R hx
  have e : ∀ j, 0 < j → (⟨(y.add (k * 4)).block, (y.add (k * 4)).off + j, none⟩ : Addr) = y.add (k * 4 + j) := fun j hj => by
    rw [← Addr.add_add]
    generalize y.add (k * 4) = z
    unfold Addr.add
    rw [if_neg (by omega)]
  exact ⟨by rw [e 1 (by omega)]; exact h1, by rw [e 2 (by omega)]; exact h2, by rw [e 3 (by omega)]; exact h3⟩
set_option maxRecDepth 100000 in
set_option maxHeartbeats 2000000 in
theorem clo_any (i j pb : Nat) (A : Option Addr) (xs : List Sw) (cap : Nat) (w : World) (hp : w.cell? ⟨pb, 0, none⟩ = some (.slice A xs.length cap)) (h : Rw eW w A xs) (hi : i < xs.length) (hj : j < xs.length) :
    Calls Try.prog 37 #[.int .i64 (i : Int), .int .i64 (j : Int), .pointer (some ⟨pb, 0, none⟩)] w fun e w' => e = .returned (.int .i64 (cmpI (du xs i) (du xs j))) ∧ ∃ q, w' = w.drewN q := by
  have hln := h.1
  obtain ⟨y, rfl⟩ := rw_some h (by omega)
  obtain ⟨x, hx⟩ : ∃ x, xs[i]? = some x := ⟨_, List.getElem?_eq_getElem hi⟩
  obtain ⟨z, hz⟩ : ∃ z, xs[j]? = some z := ⟨_, List.getElem?_eq_getElem hj⟩
  rw [du_at hx, du_at hz]
  obtain ⟨-, c2, -⟩ := rw_f h hx
  obtain ⟨-, d2, -⟩ := rw_f h hz
  have HC := Lib.hid fun W => (cmp_any x.d z.d W).mono fun _ _ ⟨he, hw⟩ => (show _ ∧ _ from ⟨he, hw.symm⟩)
  clear h hx hz
  generalize xs.length = L at *
  have hi' : (i : Int) < L := by omega
  have hj' : (j : Int) < L := by omega
  go_enter Try.func37, Try.ntmps37
  go_wp2_with fail
  go_quiet ((go_at_call 38; exact Calls.quiet_of_same (HC.out _)))
  go_wp2_with fail
  go_ret
  exact ⟨rfl, _, rfl⟩

theorem sortWorld_below {α : Type} [Inhabited α] (enc : α → Value) (w : World) (blk off m : Nat) (dk : Array α) (os : Array Obj) (hb : blk < w.heap.size) : Below blk w (sortWorld enc w blk off m dk os) := by
  refine ⟨rfl, rfl, rfl, ?_, fun k hk => ?_⟩
  · simp [sortWorld, Sort.grow, Sort.putRow, Sort.mapBlock, Sort.ahead]
  · unfold sortWorld Sort.grow Sort.putRow Sort.mapBlock Sort.ahead
    show (w.heap.modify blk _ ++ os)[k]? = _
    rw [Array.getElem?_append_left (by simp; omega), Array.getElem?_modify, if_neg (by omega)]

theorem cmpReads {m : Nat} (pb blk : Nat) (A : Option Addr) (xs : List Sw) (cap n : Nat) (w : World) (hm : xs.length = m + 1) (hp : w.cell? ⟨pb, 0, none⟩ = some (.slice A xs.length cap)) (h : Rw eW w A xs) (hpb : pb < blk) (hA : ∀ y, A = some y → y.block < blk) (hblk : blk < w.heap.size) :
    CmpReads Try.prog 37 #[.pointer (some ⟨pb, 0, none⟩)] (encF m) (fun x y => cmpI (du xs x.val) (du xs y.val)) blk 0 n w := by
  intro k os dk hdk x y
  have hb := sortWorld_below (encF m) w blk 0 k dk os hblk
  exact clo_any x.val y.val pb A xs cap _ (by rw [hb.cell (p := ⟨pb, 0, none⟩) hpb]; exact hp) (h.belowB hb hA) (by have := x.isLt; omega) (by have := y.isLt; omega)

theorem ord_len (xs : List Sw) (now : Int) : (ord xs now).length = (pl xs now xs.length).length := by
  unfold ord
  have h : ∀ l : List Nat, (l.foldr (insO xs) []).length = l.length := by
    intro l
    induction l with
    | nil => rfl
    | cons x r ih =>
      have g : ∀ t : List Nat, (insO xs x t).length = t.length + 1 := by
        intro t
        induction t with
        | nil => rfl
        | cons y t iht =>
          unfold insO
          split
          · rfl
          · rw [List.length_cons, iht, List.length_cons]
      rw [List.foldr_cons, g, ih, List.length_cons]
  exact h _
/-- A row of places that may be turned. -/
theorem sort_one {m : Nat} (pb blk : Nat) (A : Option Addr) (xs : List Sw) (cap c : Nat) (d : Array (Fin (m + 1))) (w : World) (hm : xs.length = m + 1) (hp : w.cell? ⟨pb, 0, none⟩ = some (.slice A xs.length cap)) (h : Rw eW w A xs) (hpb : pb < blk) (hA : ∀ y, A = some y → y.block < blk) (hblk : blk < w.heap.size)
    (hH : Sort.Holds (encF m) w blk 0 d) (hd : d.size ≤ 16) (now : Int) (hdv : d.toList.map (·.val) = pl xs now xs.length) :
    Calls Try.prog 44 #[.slice (some ⟨blk, 0, none⟩) d.size c, .int .i64 ((0 : Nat) : Int), .int .i64 (d.size : Int), .func (.func 37) #[] #[.pointer (some ⟨pb, 0, none⟩)]] w fun e w' =>
      e = .returned (.tuple #[]) ∧ Rw eN w' (some ⟨blk, 0, none⟩) (ord xs now) ∧ Below blk w w' := by
  have hcs := cmpReads pb blk A xs cap d.size w hm hp h hpb hA hblk
  refine (Any.insertionSortCmpFunc_one Try.srt (encF m) (fun _ => rfl) _ 37 _ blk 0 c 0 d.size d w (fun args w => by kernel_rfl) hcs hH (Nat.zero_le _) (Nat.le_refl _) (by omega)).mono ?_
  rintro e w' ⟨he, q, rfl⟩
  have hso := sorted_is xs now hm d hdv
  have hbw := sortWorld_below (encF m) w blk 0 q (Sort.insertionSort (ltOf fun x y : Fin (m + 1) => cmpI (du xs x.val) (du xs y.val)) d 0 d.size) #[] hblk
  rw [sortWorld_none] at hbw
  have hsd : (Sort.insertionSort (ltOf fun x y : Fin (m + 1) => cmpI (du xs x.val) (du xs y.val)) d 0 d.size).toList.map (·.val) = ord xs now := hso
  have hsz : (Sort.insertionSort (ltOf fun x y : Fin (m + 1) => cmpI (du xs x.val) (du xs y.val)) d 0 d.size).size = d.size := by
    have h1 := congrArg List.length hsd
    have h2 := congrArg List.length hdv
    have h3 := ord_len xs now
    rw [List.length_map, Array.length_toList] at h1 h2
    omega
  generalize Sort.insertionSort (ltOf fun x y : Fin (m + 1) => cmpI (du xs x.val) (du xs y.val)) d 0 d.size = s at *
  refine ⟨he, ⟨?_, fun p x hx => ⟨_, rfl, fun j v hv => ?_⟩⟩, hbw⟩
  · rw [← hsd, List.length_map, Array.length_toList]; omega
  · have hps : p < s.size := by
      have := (List.getElem?_eq_some_iff.1 hx).1
      rw [← hsd, List.length_map, Array.length_toList] at this
      exact this
    have hxv : s[p]!.val = x := by
      rw [← hsd, List.getElem?_map, Array.getElem?_toList, Array.getElem?_eq_getElem hps] at hx
      rw [getElem!_pos s p hps]
      simpa using hx
    match j, hv with
    | 0, hv =>
      simp [eN] at hv
      subst hv
      have hc := (Sort.holds_putRow (encF m) w blk 0 d s hH hsz p (by omega)).1
      rw [Addr.add_mid]
      show ((Sort.putRow (encF m) w blk 0 s).drewN q).cell? _ = _
      rw [show (0 + (p * eN.N + 0)) = 0 + p by show 0 + (p * 1 + 0) = _; omega]
      refine Eq.trans hc ?_
      rw [encF, hxv]
    | j + 1, hv => simp [eN] at hv
end Go.Proofs.Ytenolbgadlehpaa
