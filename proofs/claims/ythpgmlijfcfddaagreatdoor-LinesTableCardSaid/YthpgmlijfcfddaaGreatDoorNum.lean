/-
  Contracts of lines.Number and lines.Place (errors.As at a number and at a fault), at a chain of errors, and of the statements' own 'told'. Conditions: the chain lies in memory, and errors.errorType is what its text lays.
-/
import Derived.Test.YthpgmlijfcfddaaGreatDoorAs
namespace Go.Proofs.YthpgmlijfcfddaaGreatDoor
open Go.RowKit Go.Extern.Stop Go.Stop Go.Extern

/-- errors.errorType is the handle of 'error'. -/
def Et (w : World) : Prop := w.cell? ⟨0, 0, none⟩ = some (.iface 94 (.agg #[.pointer (some ⟨9, 35, none⟩)]))
theorem Et.keep {w w' : World} (h : Et w) (hb : Below w.heap.size w w') : Et w' := by
  unfold Et
  rw [hb.cell (p := ⟨0, 0, none⟩) (World.block_lt_of_cell? _ _ h)]; exact h

set_option maxHeartbeats 4000000 in
theorem as_num (n : Int) (k : Nat) (v old : Value) (tb : Nat) (w : World) (h : Ch w n k v) (ht : w.cell? ⟨tb, 0, none⟩ = some old) (hf : w.frozen? ⟨tb, 0, none⟩ = false) (hg : Et w) :
    Calls Tryz.prog 26 #[v, .iface 74 (.pointer (some ⟨tb, 0, none⟩))] w fun e w' => e = .returned (.bool true) ∧ w'.cell? ⟨tb, 0, none⟩ = some (.int .i64 n) ∧ Below tb w w' := by
  have hV := @run_callFunc_extern Tryz.prog 37 _ (fun args => ReflectliteValue.unpack (args.getD 0 (.tuple #[]))) Tryz.func37 (by kernel_rfl) (by kernel_rfl) (by kernel_rfl) (by kernel_rfl)
  have hY := @run_callFunc_extern Tryz.prog 38 _ (ReflectliteValue.methodAny (ReflectliteValue.valueError "reflectlite.Value.Type" 0) (fun t _ _ _ => ReflectliteType.toType t)) Tryz.func38 (by kernel_rfl) (by kernel_rfl) (by kernel_rfl) (by kernel_rfl)
  have hN := @run_callFunc_extern Tryz.prog 39 _ eIsNil Tryz.func39 (by kernel_rfl) (by kernel_rfl) (by kernel_rfl) (by kernel_rfl)
  have hK := @run_callFunc_extern Tryz.prog 103 _ eKind Tryz.func103 (by kernel_rfl) (by kernel_rfl) (by kernel_rfl) (by kernel_rfl)
  have hL := @run_callFunc_extern Tryz.prog 117 _ (ReflectliteType.method ReflectliteType.elem) Tryz.func117 (by kernel_rfl) (by kernel_rfl) (by kernel_rfl) (by kernel_rfl)
  have hI := @run_callFunc_extern Tryz.prog 118 _ (ReflectliteType.relation "Implements" ReflectliteType.implements_) Tryz.func118 (by kernel_rfl) (by kernel_rfl) (by kernel_rfl) (by kernel_rfl)
  have f1 := valueOfN
  have f2 := typeN
  have f3 := mKind
  have f4 := mElem
  have f5 := mImplements
  have f6 := kindPN
  have f7 := kindN
  have f8 := elemN
  have f9 := implN
  have htl := World.block_lt_of_cell? _ _ ht
  have hgl := World.block_lt_of_cell? _ _ hg
  simp only at htl hgl
  have n8 := isNilN ⟨w.heap.size, 0, none⟩ ⟨tb, 0, none⟩ ((w.alloc (.cells #[.pointer (some ⟨tb, 0, none⟩)] 74)).alloc (.cells #[.pointer (some ⟨9, 74, none⟩), .pointer (some ⟨w.heap.size, 0, none⟩), .int .u64 150] 86)) (by rw [World.cell?_alloc_lt _ _ ⟨w.heap.size, 0, none⟩ (by simp)]; simp)
  have hg2 : ((w.alloc (.cells #[.pointer (some ⟨tb, 0, none⟩)] 74)).alloc (.cells #[.pointer (some ⟨9, 74, none⟩), .pointer (some ⟨w.heap.size, 0, none⟩), .int .u64 150] 86)).cell? ⟨0, 0, none⟩ = some (.iface 94 (.agg #[.pointer (some ⟨9, 35, none⟩)])) := by
    rw [World.cell?_alloc_lt _ _ ⟨0, 0, none⟩ (by simp), World.cell?_alloc_lt _ _ ⟨0, 0, none⟩ hgl]; exact hg
  have B2 := ((Below.refl w.heap.size w).alloc (Nat.le_refl _) (.cells #[.pointer (some ⟨tb, 0, none⟩)] 74)).alloc (by simp) (.cells #[.pointer (some ⟨9, 74, none⟩), .pointer (some ⟨w.heap.size, 0, none⟩), .int .u64 150] 86)
  have HA := Lib.hid (ass_num n k v old tb w.heap.size _ (h.keep B2) (by rw [World.cell?_alloc_lt _ _ ⟨w.heap.size, 0, none⟩ (by simp)]; simp) (by rw [B2.cell (p := ⟨tb, 0, none⟩) htl]; exact ht) (by rw [B2.frozen (p := ⟨tb, 0, none⟩) htl]; exact hf))
  have HB2 := Lib.hid B2
  obtain ⟨T1, X1, rfl⟩ := h.held
  clear h ht hf hg B2
  go_enter Tryz.func26, Tryz.ntmps26
  go_wp2_with fail
  refine (HA.out).mono ?_
  rintro e w' ⟨rfl, hc, hb⟩
  have HB := Lib.hid (And.intro hc ((HB2.out.mono (Nat.le_of_lt htl)).trans hb))
  clear hc hb
  go_wp2_with fail
  go_ret
  exact ⟨rfl, HB.out⟩

/-- lines.Number of nil. -/
theorem number_nil (w : World) : Calls Tryz.prog 16 #[.nilIface] w fun e w' => e = .returned (.int .i64 0) ∧ Below w.heap.size w w' := by
  go_enter Tryz.func16, Tryz.ntmps16
  go_wp2_with fail
  refine (as_nil _ _).mono ?_
  rintro e w' ⟨rfl, rfl⟩
  go_wp2_with fail
  go_ret
  exact ⟨rfl, (Below.refl _ w).alloc (Nat.le_refl _) _⟩
theorem number_any (n : Int) (k : Nat) (v : Value) (w : World) (h : Ch w n k v) (hg : Et w) :
    Calls Tryz.prog 16 #[v] w fun e w' => e = .returned (.int .i64 n) ∧ Below w.heap.size w w' := by
  have B1 := (Below.refl w.heap.size w).alloc (Nat.le_refl _) (.cells #[.int .i64 0] 38)
  have HA := Lib.hid (as_num n k v (.int .i64 0) w.heap.size _ (h.keep B1) (by simp) (by simp) (hg.keep B1))
  have HB1 := Lib.hid B1
  obtain ⟨T1, X1, rfl⟩ := h.held
  clear h hg B1
  go_enter Tryz.func16, Tryz.ntmps16
  go_wp2_with fail
  refine (HA.out).mono ?_
  rintro e w' ⟨rfl, hc, hb⟩
  have HB := Lib.hid (HB1.out.trans hb)
  clear hb
  go_wp2_with fail
  go_ret
  exact ⟨rfl, HB.out⟩

/-- The statements' own 'told': is an error this one? -/
def Er (w : World) (n : Int) (v : Value) : Prop := (n = 0 ∧ v = .nilIface) ∨ n ≠ 0 ∧ ∃ k, Ch w n k v
theorem Er.keep {w w' : World} {n : Int} {v : Value} (h : Er w n v) (hb : Below w.heap.size w w') : Er w' n v := by
  rcases h with h | ⟨h, k, hc⟩
  · exact .inl h
  · exact .inr ⟨h, k, hc.keep hb⟩
set_option maxHeartbeats 1000000 in
theorem told_any (n t : Int) (v : Value) (w : World) (h : Er w n v) (hg : Et w) :
    Calls Tryz.prog 10 #[v, .int .i64 t] w fun e w' => e = .returned (.bool (n == t)) ∧ Below w.heap.size w w' := by
  rcases h with ⟨rfl, rfl⟩ | ⟨hn, k, hc⟩
  · by_cases ht : t = 0
    · subst ht
      have HN := Lib.hid fun W => number_nil W
      clear hg
      go_enter Tryz.func10, Tryz.ntmps10
      go_wp2_with fail
      refine (HN.out _).mono ?_
      rintro e w' ⟨rfl, hb⟩
      have HB := Lib.hid hb
      clear hb
      go_wp2_with fail
      go_ret
      exact ⟨rfl, HB.out⟩
    · have e1 : (t == 0) = false := by simpa using ht
      have e2 : ((0 : Int) == t) = false := by simpa using fun e => ht e.symm
      rw [e2]
      have HI := Lib.hid fun W => is_nil t W
      clear hg ht e2
      go_enter Tryz.func10, Tryz.ntmps10
      go_wp2_with fail
      refine (HI.out _).mono ?_
      rintro e w' ⟨rfl, rfl⟩
      go_wp2_with fail
      go_ret
      exact ⟨rfl, Below.refl _ _⟩
  · have HH := Lib.hid (And.intro hc hg)
    obtain ⟨T1, X1, rfl⟩ := hc.held
    by_cases ht : t = 0
    · subst ht
      have e2 : (n == 0) = false := by simpa using hn
      rw [e2]
      clear hg hc hn e2
      go_enter Tryz.func10, Tryz.ntmps10
      go_wp2_with fail
      go_ret
      exact ⟨rfl, Below.refl _ _⟩
    · have e1 : (t == 0) = false := by simpa using ht
      have HI := Lib.hid fun W (H : Ch W n k (.iface T1 X1)) => is_any n t k (.iface T1 X1) W H
      have HN := Lib.hid fun W (H : Ch W n k (.iface T1 X1)) (E : Et W) => number_any n k (.iface T1 X1) W H E
      obtain ⟨T, hT⟩ : ∃ T, (n == t) = T := ⟨_, rfl⟩
      rw [hT] at HI
      have HT := Lib.hid hT
      rw [hT]
      clear hg hc hn ht hT
      go_enter Tryz.func10, Tryz.ntmps10
      go_wp2_with fail
      refine (HI.out _ HH.out.1).mono ?_
      rintro e w1 ⟨rfl, hb⟩
      have H1 := Lib.hid (And.intro hb (And.intro (HH.out.1.keep hb) (HH.out.2.keep hb)))
      clear hb
      cases T
      · go_wp2_with fail
        go_ret
        exact ⟨rfl, H1.out.1⟩
      · go_wp2_with fail
        refine (HN.out _ H1.out.2.1 H1.out.2.2).mono ?_
        rintro e w2 ⟨rfl, hb⟩
        have H2 := Lib.hid (H1.out.1.trans (hb.mono H1.out.1.size))
        clear hb
        have e3 := HT.out
        go_wp2_with fail
        go_ret
        exact ⟨rfl, H2.out⟩
end Go.Proofs.YthpgmlijfcfddaaGreatDoor
