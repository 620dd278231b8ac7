/-
  The contract of the statements' own line: some text, no longer than the words and the blanks between them. Conditions: up to 5 words that lie in memory, together no longer than a process can hold.
-/
import Derived.Test.YtegbdagmnibfmaaDoorFld
set_option linter.unusedSimpArgs false
set_option linter.unusedVariables false
namespace Go.Proofs.YtegbdagmnibfmaaDoor
open Go.RowKit

/-- How long a text is. -/
def szv : Value → Nat
  | .string s => s.size
  | _ => 0
def tot (xs : List Value) : Nat := (xs.map szv).sum
/-- All of them are texts. -/
def Str (xs : List Value) : Prop := ∀ u ∈ xs, ∃ s : ByteArray, u = .string s
theorem tot_take (xs : List Value) (k : Nat) (u : Value) (h : xs[k]? = some u) : tot (xs.take (k + 1)) = tot (xs.take k) + szv u := by
  obtain ⟨hk, e⟩ := List.getElem?_eq_some_iff.1 h
  unfold tot
  rw [List.take_succ_eq_append_getElem hk, List.map_append, List.sum_append, e]
  simp
/-- A row of texts, up to so many bytes together. -/
def Rt (M : Nat) (v : Value) (W : World) : Prop := ∃ g c xs, v = .slice (some ⟨g, 0, none⟩) xs.length c ∧ xs.length ≤ 5 ∧ (∀ j u, xs[j]? = some u → W.cell? ⟨g, j, none⟩ = some u) ∧ Str xs ∧ tot xs ≤ M
theorem stable_Rt (M : Nat) : Stable (Rt M) := fun _ _ _ ⟨g, c, xs, h1, h2, h3, h4, h5⟩ hb =>
  ⟨g, c, xs, h1, h2, fun j u h => (hb.cell (p := ⟨g, j, none⟩) (World.block_lt_of_cell? _ _ (h3 j u h))).trans (h3 j u h), h4, h5⟩
/-- A text of up to so many bytes. -/
def St (M : Nat) (v : Value) (_ : World) : Prop := ∃ T : ByteArray, v = .string T ∧ T.size ≤ M
theorem stable_St (M : Nat) : Stable (St M) := fun _ _ _ h _ => h

set_option maxRecDepth 100000 in
set_option maxHeartbeats 4000000 in
theorem line_any (M : Nat) (v : Value) (w : World) (hM : M ≤ 281474976710656) (h : Rt M v w) : Calls Tryd.prog 8 #[v] w fun e w' => ∃ v, e = .returned v ∧ Below w.heap.size w w' ∧ St (M + 5) v w' := by
  obtain ⟨g, c, xs, rfl, h2, h3, h4, h5⟩ := h
  have HC := Lib.hid h3
  have HS := Lib.hid h4
  have HT := Lib.hid h5
  have HTK := Lib.hid (tot_take xs)
  have HTA := Lib.hid (show tot (xs.take xs.length) = tot xs by rw [List.take_length])
  have HMX := Lib.hid (show ∀ k u, xs[k]? = some u → tot (xs.take k) + szv u ≤ M from fun k u hu => by
    rw [← tot_take xs k u hu]
    have : tot xs = tot (xs.take (k + 1)) + tot (xs.drop (k + 1)) := by
      unfold tot
      rw [← List.sum_append, ← List.map_append, List.take_append_drop]
    omega)
  have HGE := Lib.hid (fun k (hk : k < xs.length) => (show ∃ u, xs[k]? = some u from ⟨_, List.getElem?_eq_getElem hk⟩))
  have HST := Lib.hid (fun k u (hu : xs[k]? = some u) => h4 u (List.mem_of_getElem? hu))
  generalize hn : xs.length = n at *
  clear h3 h4 h5 hn
  go_enter Tryd.func8, Tryd.ntmps8
  go_wp2_with fail
  go_loopg [3, 8] n (fun m t i wr => ∃ (k : Nat) (T : ByteArray), k + m = n ∧ i = .int .i64 (k : Int) ∧ t = .string T ∧ wr = w ∧ Hid (T.size ≤ tot (xs.take k) + k))
  case atStart => exact ⟨0, ⟨#[]⟩, by omega, rfl, rfl, rfl, Lib.hid (Nat.zero_le _)⟩
  case round =>
    obtain ⟨k, T, hkm, rfl, rfl, rfl, HH⟩ := hrel
    match gk with
    | 0 =>
      obtain rfl : k = n := by omega
      go_wp2_with fail
      go_ret
      have := HH.out
      rw [HTA.out] at this
      exact ⟨_, rfl, Below.refl _ _, T, rfl, by have := HT.out; omega⟩
    | m + 1 =>
      have hk : k < n := by omega
      obtain ⟨u, hu⟩ := HGE.out k hk
      obtain ⟨S, rfl⟩ := HST.out k u hu
      have ck := HC.out k _ hu
      have hmx := HMX.out k _ hu
      have htk := HTK.out k _ hu
      have hTs := HH.out
      dsimp only [szv] at hmx htk
      by_cases hk0 : k = 0
      · subst hk0
        obtain ⟨V, hV⟩ : ∃ V, V = T ++ S := ⟨_, rfl⟩
        have hadd := fun W => run_string_add_sum (P := Tryd.prog) W T S (by omega)
        rw [← hV] at hadd
        have HV := Lib.hid (show V.size ≤ tot (xs.take 1) + 1 by rw [hV, ByteArray.size_append, htk]; omega)
        clear hV hmx htk hTs
        go_wp2_with fail
        go_roundg m
        case measure => omega
        case rel => exact ⟨1, V, by omega, by go_num, rfl, rfl, HV⟩
      · have hk1 : (0 : Int) < k := by omega
        obtain ⟨B, hB⟩ : ∃ B : ByteArray, B = ⟨#[32]⟩ := ⟨_, rfl⟩
        have hBs : B.size = 1 := by rw [hB]; rfl
        obtain ⟨U, hU⟩ : ∃ U, U = T ++ B := ⟨_, rfl⟩
        have hUs : U.size = T.size + 1 := by rw [hU, ByteArray.size_append, hBs]
        obtain ⟨V, hV⟩ : ∃ V, V = U ++ S := ⟨_, rfl⟩
        have hadd1 := fun W => run_string_add_sum (P := Tryd.prog) W T B (by omega)
        have hadd2 := fun W => run_string_add_sum (P := Tryd.prog) W U S (by omega)
        rw [← hU, hB] at hadd1
        rw [← hV] at hadd2
        have HV := Lib.hid (show V.size ≤ tot (xs.take (k + 1)) + ((k + 1 : Nat) : Nat) by rw [hV, ByteArray.size_append, htk, hUs]; omega)
        clear hV hU hB hBs hUs hmx htk hTs hk0
        go_wp2_with fail
        go_roundg m
        case measure => omega
        case rel => exact ⟨k + 1, V, by omega, by go_num, rfl, rfl, HV⟩
end Go.Proofs.YtegbdagmnibfmaaDoor
