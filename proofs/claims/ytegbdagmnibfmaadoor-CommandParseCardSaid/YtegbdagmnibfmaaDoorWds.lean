/-
  The words of a command: what strings.Split at a blank gives; texts put together. No condition but that texts are short.
-/
import Derived.Test.YtegbdagmnibfmaaDoorEv
set_option linter.unusedSimpArgs false
set_option linter.unusedVariables false
namespace Go.Proofs.YtegbdagmnibfmaaDoor
open Go.RowKit

/-- The words of a line: what stands between blanks. -/
def wl : List UInt8 → List (List UInt8)
  | [] => [[]]
  | c :: r => if c = 32 then [] :: wl r else match wl r with
    | [] => [[c]]
    | h :: t => (c :: h) :: t
theorem wl_ne (l : List UInt8) : wl l ≠ [] := by
  cases l with
  | nil => simp [wl]
  | cons c r => unfold wl; split <;> try simp
                split <;> simp
/-- A text as a value. -/
def sv (l : List UInt8) : Value := .string ⟨l.toArray⟩
theorem sv_data (s : ByteArray) : sv s.data.toList = .string s := rfl

theorem wl_split : ∀ l : List UInt8, Lib.splitK [32] 0 (Lib.count l [32]) l = wl l
  | [] => by rw [Lib.count_one]; rfl
  | c :: r => by
    have ih := wl_split r
    by_cases h : c = 32
    · subst h
      rw [Lib.count_cons_eq, Nat.add_comm]
      have hix : Lib.index (32 :: r) [32] = ((0 : Nat) : Int) := by rw [Lib.index]; simp [List.isPrefixOf]
      simp only [Lib.splitK, hix]
      rw [if_neg (by decide)]
      simp only [wl, if_true]
      rw [← ih]
      simp
    · rw [Lib.count_cons_ne c 32 r h]
      have hp : ([32] : List UInt8).isPrefixOf (c :: r) = false := by simp [List.isPrefixOf, Ne.symm h]
      have hix : Lib.index (c :: r) [32] = if Lib.index r [32] == -1 then -1 else Lib.index r [32] + 1 := by rw [Lib.index, hp]; simp
      simp only [wl, if_neg h]
      rw [← ih]
      by_cases hm : Lib.index r [32] = -1
      · have hc : Lib.count r [32] = 0 := Lib.count_miss hm
        rw [hc]
        rfl
      · have hge := Lib.index_ge r [32]
        obtain ⟨j, hj⟩ : ∃ j : Nat, Lib.index r [32] = j := ⟨(Lib.index r [32]).toNat, by omega⟩
        have hhit := Lib.count_hit (by simp) hj
        obtain ⟨m, hmm⟩ : ∃ m, Lib.count r [32] = m + 1 := ⟨Lib.count r [32] - 1, by omega⟩
        rw [hmm]
        simp only [Lib.splitK, hix]
        rw [if_neg (show ¬ (Lib.index r [32] == -1) = true from fun e => hm (beq_iff_eq.1 e)), hj]
        rw [if_neg (show ¬ ((j : Int) + 1 == -1) = true from fun e => by have := beq_iff_eq.1 e; omega), if_neg (show ¬ ((j : Int) == -1) = true from fun e => by have := beq_iff_eq.1 e; omega)]
        simp only [Int.toNat_natCast, show ((j : Int) + 1).toNat = j + 1 by omega]
        simp
theorem words_cells (s : ByteArray) : (Lib.splitB ⟨#[32]⟩ 0 (Lib.countB s ⟨#[32]⟩) s).map Value.string = (wl s.data.toList).map sv := by
  have h := Lib.splitB_data ⟨#[32]⟩ 0 (Lib.countB s ⟨#[32]⟩) s
  rw [← wl_split s.data.toList]
  have e : Lib.countB s ⟨#[32]⟩ = Lib.count s.data.toList [32] := rfl
  rw [← e]
  have h2 : ((⟨#[32]⟩ : ByteArray).data.toList) = [32] := rfl
  rw [h2] at h
  rw [← h, List.map_map]
  rfl
theorem words_length (s : ByteArray) : Lib.countB s ⟨#[32]⟩ + 1 = (wl s.data.toList).length := by
  have h := congrArg List.length (words_cells s)
  rw [List.length_map, List.length_map, Lib.splitB_all ⟨#[32]⟩ (Nat.le_refl _) 0 _ s rfl] at h
  exact h

theorem wl_len : ∀ (l : List UInt8), ∀ x ∈ wl l, x.length ≤ l.length
  | [], x, hx => by simp [wl] at hx; simp [hx]
  | c :: r, x, hx => by
    have ih := wl_len r
    simp only [wl] at hx
    split at hx
    · rcases List.mem_cons.1 hx with rfl | h
      · simp
      · have := ih x h; simp; omega
    · split at hx
      · simp at hx; simp [hx]
      · rename_i h t he
        rcases List.mem_cons.1 hx with rfl | h1
        · have := ih h (by rw [he]; simp); simp; omega
        · have := ih x (by rw [he]; simp [h1]); simp; omega

/-- Two texts put together, under names. -/
theorem sadd {a b : List UInt8} {s t u : ByteArray} (hs : s = ⟨a.toArray⟩) (ht : t = ⟨b.toArray⟩) (hu : u = ⟨(a ++ b).toArray⟩) (hl : a.length + b.length ≤ 1000) (W : World) : (Op.stringOp .add s t).run Tryd.prog W = .ok (.string u) W := by
  subst hs ht hu
  have e : (⟨a.toArray⟩ : ByteArray) ++ ⟨b.toArray⟩ = ⟨(a ++ b).toArray⟩ := Ad.cat a b
  have h1 : (⟨a.toArray⟩ : ByteArray).size = a.length := by show a.toArray.size = _; simp
  have h2 : (⟨b.toArray⟩ : ByteArray).size = b.length := by show b.toArray.size = _; simp
  rw [run_string_add_sum (P := Tryd.prog) W _ _ (by rw [h1, h2]; omega), e]

/-! ### The words of lines that are put together -/
theorem wl_app : ∀ {x r : List UInt8}, (32 : UInt8) ∉ x → wl (x ++ 32 :: r) = x :: wl r
  | [], r, _ => by simp [wl]
  | c :: x, r, h => by
    have h1 : ¬ c = 32 := fun e => h (by simp [e])
    have h2 := wl_app (x := x) (r := r) (fun m => h (by simp [m]))
    simp only [List.cons_append, wl, if_neg h1, h2]
theorem wl_one : ∀ {x : List UInt8}, (32 : UInt8) ∉ x → wl x = [x]
  | [], _ => rfl
  | c :: x, h => by
    have h1 : ¬ c = 32 := fun e => h (by simp [e])
    have h2 := wl_one (x := x) (fun m => h (by simp [m]))
    simp only [wl, if_neg h1, h2]

/-- A station's text. -/
def mt (b0 b1 b2 b3 b4 b5 : Int) : ByteArray := Mc.strOf (Mc.txg 58 (fun _ => false) [b0, b1, b2, b3, b4, b5] 6)
theorem txg_48 {b0 b1 b2 b3 b4 b5 : Int} (h : Mc.Six b0 b1 b2 b3 b4 b5) : ∀ k, ∀ n ∈ Mc.txg 58 (fun _ => false) [b0, b1, b2, b3, b4, b5] k, 48 ≤ n ∧ n < 256 := by
  have hx : ∀ n : Int, 0 ≤ n → n < 16 → 48 ≤ Mc.hxg false n ∧ Mc.hxg false n < 256 := fun n h0 h1 => by unfold Mc.hxg; simp; split <;> omega
  have hd : ∀ k, ∀ n ∈ Mc.duog false ([b0, b1, b2, b3, b4, b5].getD k 0), 48 ≤ n ∧ n < 256 := fun k n hn => by
    have := h.getD k
    simp only [Mc.duog, List.mem_cons, List.not_mem_nil, or_false] at hn
    rcases hn with rfl | rfl
    · exact hx _ (by omega) (by omega)
    · exact hx _ (by omega) (by omega)
  intro k
  induction k using Mc.txg.induct with
  | case1 => intro n hn; cases hn
  | case2 => exact hd 0
  | case3 k ih =>
    intro n hn
    simp only [Mc.txg, List.mem_append, List.mem_singleton] at hn
    rcases hn with (hn | rfl) | hn
    · exact ih n hn
    · omega
    · exact hd (k + 1) n hn
theorem mt_not {b0 b1 b2 b3 b4 b5 : Int} (h : Mc.Six b0 b1 b2 b3 b4 b5) : (32 : UInt8) ∉ (mt b0 b1 b2 b3 b4 b5).data.toList := by
  intro hm
  unfold mt Mc.strOf at hm
  simp only [List.mem_map] at hm
  obtain ⟨n, hn, e⟩ := hm
  have h1 := txg_48 h 6 n hn
  have h2 := congrArg UInt8.toNat e
  simp at h2
  omega
theorem mt_len (b0 b1 b2 b3 b4 b5 : Int) : (mt b0 b1 b2 b3 b4 b5).data.toList.length = 17 := by
  unfold mt Mc.strOf
  simp only [List.length_map]
  rfl
theorem textL_len (a : Int) (h0 : 0 ≤ a) (h1 : a < 4294967296) : (Ad.textL a).length ≤ 15 := by
  unfold Ad.textL
  have d1 := Ad.dig_len (n := a / 16777216) (by omega)
  have d2 := Ad.dig_len (n := a / 65536 % 256) (by omega)
  have d3 := Ad.dig_len (n := a / 256 % 256) (by omega)
  have d4 := Ad.dig_len (n := a % 256) (by omega)
  simp
  omega
end Go.Proofs.YtegbdagmnibfmaaDoor
