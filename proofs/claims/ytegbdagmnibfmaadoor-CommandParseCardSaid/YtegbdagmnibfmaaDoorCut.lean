/-
  The contract of the statements' own 'cut': the words of a line, in a row of the call's own. Condition: the line has up to 200 bytes.
-/
import Derived.Test.YtegbdagmnibfmaaDoorWds
import Derived.Deep.OwnRows
import Derived.Deep.AppendLies
import Derived.Laws.OwnMore
import Derived.Laws.AppendOwn
import Derived.Deep.LoopGhost
import Derived.RegionTactic
import Derived.OwnWalk
import Derived.Deep.MidRow
set_option linter.unusedSimpArgs false
set_option linter.unusedVariables false
namespace Go.Proofs.YtegbdagmnibfmaaDoor
open Go.RowKit

theorem info9 : (Tryd.prog.info? 9).map (fun i => (i.zero, i.size, i.bytes)) = some (some (.string ⟨#[]⟩), 1, 16) := by kernel_rfl
/-- One more value is put behind a row of the call's own. -/
theorem run_append1 {T e : TypeId} {z : Value} {by' : Nat} (hu : Tryd.prog.underlying T = some (.slice e)) (hi : (Tryd.prog.info? e).map (fun i => (i.zero, i.size, i.bytes)) = some (some z, 1, by')) (hz : z.cells = #[z]) (hby : by' ≤ 24) (w : World) (base : Nat) (ty : TypeId) (v : Value) (n : Nat) (xs : List Value) (hown : w.ownsRow base e 1 v n xs) (b c : Nat) (u : Value) (hr : w.cell? ⟨b, 0, none⟩ = some u) (h1 : u.oneCell' = true) (hl : n < 1000000) (hbase : base ≤ w.heap.size) :
    ∃ g cap w', (Builtin.append_ #[T, T] ty #[v, .slice (some ⟨b, 0, none⟩) 1 c]).run Tryd.prog w = .ok (.slice (some ⟨g, 0, none⟩) (n + 1) cap) w' ∧
      w'.ownsRow base e 1 (.slice (some ⟨g, 0, none⟩) (n + 1) cap) (n + 1) (xs ++ [u]) ∧ w.grownBy w' v.ownBlock ∧ (v.ownBlock = some g ∨ g = w.heap.size) ∧ g < w'.heap.size := by
  obtain ⟨i, hii, hz0, hz1, hz2⟩ := info_parts hi
  obtain ⟨v', w', hrun, h2, h3, _, h5⟩ := run_append_own_at (P := Tryd.prog) w base T ty e i z 1 by' hu hii hz0 hz1 hz2 (by rw [hz]; rfl) (by omega) v n xs hown ⟨b, 0, none⟩ 1 c [u] rfl (fun j x hx => by
    rw [Addr.add_mid]
    match j with
    | 0 => simp at hx; subst hx; exact hr
    | j + 1 => simp at hx) (by simpa using h1) (by unfold maxLen; omega) (by have : (n + 1) * by' ≤ (n + 1) * 24 := Nat.mul_le_mul_left _ hby; omega) hbase
  obtain ⟨g, cap, rfl, _, hlt⟩ := h2.form (by omega)
  refine ⟨g, cap, w', hrun, h2, h3, ?_, hlt⟩
  rcases h5 with h5 | h5
  · exact .inl (by rw [← h5]; rfl)
  · exact .inr (by simpa [Value.ownBlock] using h5)

theorem wp_append1 {T e : TypeId} {z : Value} {by' : Nat} (hu : Tryd.prog.underlying T = some (.slice e)) (hi : (Tryd.prog.info? e).map (fun i => (i.zero, i.size, i.bytes)) = some (some z, 1, by')) (hz : z.cells = #[z]) (hby : by' ≤ 24) (w : World) {o : Oper} {a : Act} {K : Act → World → Prop} {Q : Exit → Act → World → Prop} (s x : Operand) (ho : o.op = .call { callee := .builtin .append, args := #[s, x], argTypes := #[T, T] })
    (base : Nat) (v : Value) (n : Nat) (xs : List Value) (hs : a.eval s = v) (hown : w.ownsRow base e 1 v n xs) (b c : Nat) (u : Value) (hx : a.eval x = .slice (some ⟨b, 0, none⟩) 1 c) (hr : w.cell? ⟨b, 0, none⟩ = some u) (h1 : u.oneCell' = true) (hl : n < 1000000) (hbase : base ≤ w.heap.size)
    (h : ∀ g cap w', w'.ownsRow base e 1 (.slice (some ⟨g, 0, none⟩) (n + 1) cap) (n + 1) (xs ++ [u]) → w.grownBy w' v.ownBlock → (v.ownBlock = some g ∨ g = w.heap.size) → g < w'.heap.size → K (a.put o.dst (.slice (some ⟨g, 0, none⟩) (n + 1) cap)) w') : o.wp Tryd.prog a w K Q := by
  obtain ⟨g, cap, w', hrun, h2, h3, h4, h5⟩ := run_append1 hu hi hz hby w base o.type v n xs hown b c u hr h1 hl hbase
  unfold Oper.wp execOp
  simp only [ho, resolve, invoke, builtin, Sem.run_bind, Sem.run_pure, Result.andThen_ok, List.map_toArray, List.map_cons, List.map_nil, hs, hx, hrun]
  exact h g cap w' h2 h3 h4 h5
theorem wpList_append1 {T e : TypeId} {z : Value} {by' : Nat} (hu : Tryd.prog.underlying T = some (.slice e)) (hi : (Tryd.prog.info? e).map (fun i => (i.zero, i.size, i.bytes)) = some (some z, 1, by')) (hz : z.cells = #[z]) (hby : by' ≤ 24) (w : World) {ops : Array Oper} {rest : List Oper} {o : Oper} {a : Act} {Q : Exit → Act → World → Prop} (hgd : o.guard = none) (s x : Operand) (ho : o.op = .call { callee := .builtin .append, args := #[s, x], argTypes := #[T, T] })
    (base : Nat) (v : Value) (n : Nat) (xs : List Value) (hs : a.eval s = v) (hown : w.ownsRow base e 1 v n xs) (b c : Nat) (u : Value) (hx : a.eval x = .slice (some ⟨b, 0, none⟩) 1 c) (hr : w.cell? ⟨b, 0, none⟩ = some u) (h1 : u.oneCell' = true) (hl : n < 1000000) (hbase : base ≤ w.heap.size)
    (h : ∀ g cap w', w'.ownsRow base e 1 (.slice (some ⟨g, 0, none⟩) (n + 1) cap) (n + 1) (xs ++ [u]) → w.grownBy w' v.ownBlock → (v.ownBlock = some g ∨ g = w.heap.size) → g < w'.heap.size → wpList Tryd.prog ops Q rest (a.put o.dst (.slice (some ⟨g, 0, none⟩) (n + 1) cap)) w') : wpList Tryd.prog ops Q (o :: rest) a w :=
  wpList_plain hgd fun _ hK => wp_append1 hu hi hz hby w s x ho base v n xs hs hown b c u hx hr h1 hl hbase fun g cap w' h2 h3 h4 h5 => hK _ _ (h g cap w' h2 h3 h4 h5)


theorem wl_last : ∀ l : List UInt8, ∃ ws x, wl l = ws ++ [x] ∧ ∀ c, wl (l ++ [c]) = if c = 32 then ws ++ [x] ++ [[]] else ws ++ [x ++ [c]]
  | [] => ⟨[], [], rfl, fun c => by by_cases h : c = 32 <;> simp [wl, h]⟩
  | d :: l => by
    obtain ⟨ws, x, h1, h2⟩ := wl_last l
    by_cases hd : d = 32
    · refine ⟨[] :: ws, x, by simp [wl, hd, h1], fun c => ?_⟩
      have h3 := h2 c
      by_cases hc : c = 32
      · rw [if_pos hc] at h3 ⊢
        simp [wl, hd, h3]
      · rw [if_neg hc] at h3 ⊢
        simp [wl, hd, h3]
    · cases ws with
      | nil =>
        refine ⟨[], d :: x, by simp [wl, hd, h1], fun c => ?_⟩
        have h3 := h2 c
        by_cases hc : c = 32
        · rw [if_pos hc] at h3 ⊢
          simp [wl, hd, h3]
        · rw [if_neg hc] at h3 ⊢
          simp [wl, hd, h3]
      | cons h t =>
        refine ⟨(d :: h) :: t, x, by simp [wl, hd, h1], fun c => ?_⟩
        have h3 := h2 c
        by_cases hc : c = 32
        · rw [if_pos hc] at h3 ⊢
          simp [wl, hd, h3]
        · rw [if_neg hc] at h3 ⊢
          simp [wl, hd, h3]

/-- A row of words of the call's own. -/
def Wr (w : World) (N : Nat) (v : Value) (ls : List (List UInt8)) : Prop := w.ownsRow N 9 1 v ls.length (ls.map sv)
theorem sv_one (ls : List (List UInt8)) : ∀ u ∈ ls.map sv, u.oneCell' = true := by
  intro u hu
  obtain ⟨z, _, rfl⟩ := List.mem_map.1 hu
  rfl
theorem words_le : ∀ l : List UInt8, (wl l).length ≤ l.length + 1
  | [] => by simp [wl]
  | c :: r => by
    have := words_le r
    simp only [wl]
    split
    · simp; omega
    · split
      · simp
      · rename_i h t e; rw [e] at this; simp at this ⊢; omega

set_option maxHeartbeats 4000000 in
theorem cut_any (s : ByteArray) (w : World) (hs : s.size ≤ 200) :
    Calls Tryd.prog 27 #[.string s] w fun e w' => (∃ g cap, e = .returned (.slice (some ⟨g, 0, none⟩) (wl s.data.toList).length cap) ∧ w.heap.size ≤ g ∧ Wr w' w.heap.size (.slice (some ⟨g, 0, none⟩) (wl s.data.toList).length cap) (wl s.data.toList)) ∧ Below w.heap.size w w' := by
  go_enter Tryd.func27, Tryd.ntmps27
  go_wp2_with fail
  go_loopg [3, 4] s.size (fun m v i wr => ∃ (k g cap q : Nat), k + m = s.size ∧ i = .int .i64 (k : Int) ∧ v = .slice (some ⟨g, 0, none⟩) (q + 1) cap ∧
    Hid (q + 1 = (wl (s.data.toList.take k)).length ∧ w.heap.size ≤ g ∧ wr.ownsRow w.heap.size 9 1 (.slice (some ⟨g, 0, none⟩) (q + 1) cap) (q + 1) ((wl (s.data.toList.take k)).map sv) ∧ Below w.heap.size w wr))
  case atStart =>
    refine ⟨0, w.heap.size, 1, 0, by omega, rfl, rfl, Lib.hid ⟨rfl, Nat.le_refl _, ?_, (Below.refl _ w).alloc (Nat.le_refl _) _⟩⟩
    exact World.ownsRow_lit w #[.string ⟨#[]⟩] 1 (Nat.le_refl _) (by unfold maxLen; omega) rfl
  case round =>
    obtain ⟨k, g, cap, q, hkm, rfl, rfl, HH⟩ := hrel
    have hq : q ≤ 200 := by
      have h1 := HH.out.1
      have h2 := words_le (s.data.toList.take k)
      rw [List.length_take] at h2
      have := Nat.min_le_left k s.data.toList.length
      omega
    match gk with
    | 0 =>
      obtain rfl : k = s.size := by omega
      go_wp2_with fail
      go_ret
      have e1 : s.data.toList.take s.size = s.data.toList := List.take_of_length_le (by rw [Lib.size_eq]; exact Nat.le_refl _)
      obtain ⟨h1, h2, h3, h4⟩ := HH.out
      rw [e1] at h1 h3
      exact ⟨⟨g, cap, by rw [← h1]; rfl, h2, by unfold Wr; rw [← h1]; exact h3⟩, h4⟩
    | m + 1 =>
      have hk : k < s.size := by omega
      obtain ⟨ws, x, hw1, hw2⟩ := wl_last (s.data.toList.take k)
      have ht : s.data.toList.take (k + 1) = s.data.toList.take k ++ [s[k]] := by
        rw [List.take_add_one, List.getElem?_eq_getElem (by rw [← Lib.size_eq]; exact hk)]; rfl
      have hw3 := hw2 s[k]
      rw [← ht] at hw3
      have hql : ws.length = q := by have := HH.out.1; rw [hw1] at this; simp at this; omega
      have HO := Lib.hid HH.out.2.2.1
      rw [hw1] at HO
      have HB := Lib.hid HH.out.2.2.2
      have HG := Lib.hid HH.out.2.1
      by_cases hc : s[k] = 32
      · rw [if_pos hc] at hw3
        have hc' : ((s[k].toNat : Int) == 32) = true := by rw [hc]; rfl
        have HW3 := Lib.hid hw3
        clear hw3 hw2 ht hc hw1 HH
        go_wp2_with (at_builtin; refine wpList_append1 Tryd.underlying27 info9 rfl (by omega) _ rfl (.tmp 16) (.tmp 17) rfl w.heap.size _ (q + 1) _ (by simp [Act.eval, Act.put]) (HO.out.alloc _) wr.heap.size 1 (.string ⟨#[]⟩) (by simp [Act.eval, Act.put]) (by simp) rfl (by omega) (by have := HB.out.size; simp; omega) ?_)
        intro g3 cap3 w3 hown hgrow hat hlt
        have hbs := HB.out.size
        have B3 := Lib.hid ((HB.out.alloc hbs _).grown hgrow (by simp; omega) (fun j hj => by simp [Value.ownBlock] at hj; have := HG.out; omega))
        have O3 := Lib.hid hown
        have G3 : w.heap.size ≤ g3 := by
          rcases hat with hat | hat
          · simp [Value.ownBlock] at hat; have := HG.out; omega
          · omega
        clear hown hgrow hat hlt
        go_wp2_with fail
        go_roundg m
        case measure => omega
        case rel =>
          refine ⟨k + 1, g3, cap3, q + 1, by omega, by go_num, rfl, Lib.hid ⟨?_, G3, ?_, B3.out⟩⟩
          · rw [HW3.out]; simp; omega
          · rw [HW3.out]
            have e9 : sv [] = .string ⟨#[]⟩ := rfl
            have := O3.out
            simpa [e9] using this
      · rw [if_neg hc] at hw3
        have hc' : ((s[k].toNat : Int) == 32) = false := by
          rw [beq_eq_false_iff_ne]; intro e; exact hc (UInt8.toNat_inj.1 (by simp; omega))
        have HW3 := Lib.hid hw3
        have hcell := HO.out.cellAt q (by omega)
        rw [List.map_append, List.getElem?_append_right (by simp; omega)] at hcell
        simp only [List.length_map, hql, Nat.sub_self, List.map_cons, List.map_nil, List.getElem?_cons_zero] at hcell
        have hfro := HO.out.frozenAt q
        have HX := Lib.hid (show x.length ≤ 200 by
          have := wl_len (s.data.toList.take k) x (by rw [hw1]; simp)
          rw [List.length_take] at this
          have := Nat.min_le_left k s.data.toList.length
          omega)
        obtain ⟨X, hX⟩ : ∃ X : ByteArray, X = ⟨x.toArray⟩ := ⟨_, rfl⟩
        obtain ⟨P, hP⟩ : ∃ P : ByteArray, P = s.extract k (k + 1) := ⟨_, rfl⟩
        obtain ⟨Y, hY⟩ : ∃ Y : ByteArray, Y = ⟨(x ++ [s[k]]).toArray⟩ := ⟨_, rfl⟩
        have hP2 : P = ⟨[s[k]].toArray⟩ := by
          rw [hP]
          apply ByteArray.ext
          apply Array.toList_inj.1
          rw [Lib.extract_data]
          rw [List.drop_eq_getElem_cons (by rw [← Lib.size_eq]; exact hk)]
          simp
          rfl
        have hadd := fun W => sadd hX hP2 hY (by have := HX.out; simp; omega) W
        have hsl := fun W => run_slice_string (P := Tryd.prog) (w := W) 9 s .i64 .i64 (k : Int) ((k : Int) + 1) Tryd.underlying9 (by omega) (by omega) (by omega)
        rw [show ((k : Int) + 1).toNat = k + 1 by omega, Int.toNat_natCast, ← hP] at hsl
        have wq : IntKind.i64.wrap (q : Int) = (q : Int) := by unfold IntKind.wrap; simp [IntKind.signed, IntKind.bits]; omega
        have wk : IntKind.i64.wrap ((k : Int) + 1) = (k : Int) + 1 := by unfold IntKind.wrap; simp [IntKind.signed, IntKind.bits]; omega
        have hsv : sv x = .string X := by rw [hX]; rfl
        rw [hsv] at hcell
        have HY := Lib.hid (show sv (x ++ [s[k]]) = .string Y by rw [hY]; rfl)
        clear hw3 hw2 ht hc hw1 HH hX hP hP2 hY hsv
        go_wp2_with fail
        go_region
        go_wp2_with fail
        go_roundg m
        case measure => omega
        case rel =>
          refine ⟨k + 1, g, cap, q, by omega, by go_num, rfl, Lib.hid ⟨?_, HG.out, ?_, (HB.out.setCell HG.out _).drew⟩⟩
          · rw [HW3.out]; simp; omega
          · rw [HW3.out]
            have e9 : (ws ++ [x ++ [s[k]]]).map sv = ((ws ++ [x]).map sv).set q (.string Y) := by
              rw [List.map_append, List.map_append, List.set_append_right _ _ (by simp; omega)]
              simp [hql, HY.out]
            rw [e9]
            exact (HO.out.stored q (.string Y)).1.drew
end Go.Proofs.YtegbdagmnibfmaaDoor
