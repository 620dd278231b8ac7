/-
  Rows of texts of the call's own, append onto them, and the contract of the statements' names. Conditions: rows are short.
-/
import Derived.Test.YtjkfgdeiciligaaWake
set_option linter.unusedSimpArgs false
namespace Go.Proofs.Ytjkfgdeiciligaa
open Go.RowKit

/-- The cells of texts. -/
def tcl (ss : List (List Nat)) : List Value := ss.map fun z => .string (stg z)
theorem tcl_length (ss : List (List Nat)) : (tcl ss).length = ss.length := by simp [tcl]
theorem tcl_one (ss : List (List Nat)) : ∀ v ∈ tcl ss, v.oneCell' = true := by
  intro v hv
  obtain ⟨z, _, rfl⟩ := List.mem_map.1 hv
  rfl
theorem tcl_append (a b : List (List Nat)) : tcl (a ++ b) = tcl a ++ tcl b := by simp [tcl]
/-- A row of texts of one's own, in no block of F. -/
structure Sr (w : World) (F : Nat → Prop) (v : Value) (ss : List (List Nat)) : Prop where
  own : w.ownsRow 0 9 1 v ss.length (tcl ss)
  byt : ∀ z ∈ ss, Bs z
  away : ∀ g, v.ownBlock = some g → ¬ F g
namespace Sr
variable {w w' : World} {F F' : Nat → Prop} {v : Value} {ss : List (List Nat)}
theorem shape (h : Sr w F v ss) : ∃ A c, v = .slice A ss.length c ∧ Strs w A ss := by
  rcases h.own.2 with ⟨rfl, h0⟩ | ⟨g, cap, cur, hv, _⟩
  · refine ⟨none, 0, by rw [h0], fun k z hk => ?_⟩
    have := (List.getElem?_eq_some_iff.1 hk).1
    omega
  · refine ⟨_, cap, hv, fun k z hk => ⟨h.byt z (List.mem_of_getElem? hk), _, rfl, ?_⟩⟩
    exact h.own.cells (g := g) (by rw [hv]; rfl) k _ (by simp [tcl, hk])
theorem step (h : Sr w F v ss) (hs : Step w w' F F') : Sr w' F' v ss := by
  refine ⟨ownsRow_of_block h.own (fun g hg => hs.block g (h.own.lt g hg).2 (h.away g hg)), h.byt, fun g hg hf => ?_⟩
  rcases hs.foot g hf with e | e
  · exact h.away g hg e
  · have := (h.own.lt g hg).2; omega
theorem below (h : Sr w F v ss) (hb : Below w.heap.size w w') : Sr w' F v ss := h.step (Step.of_below hb F)
theorem lt (h : Sr w F v ss) {g : Nat} (hg : v.ownBlock = some g) : g < w.heap.size := (h.own.lt g hg).2
end Sr

/-- One text in a block of its own. -/
theorem Sr.one (w : World) (F : Nat → Prop) (z : List Nat) (hz : Bs z) (hF : ∀ b, F b → b < w.heap.size) : Sr (w.alloc (.cells #[.string (stg z)] 9)) F (.slice (some ⟨w.heap.size, 0, none⟩) 1 1) [z] := by
  refine ⟨⟨rfl, .inr ⟨w.heap.size, 1, #[.string (stg z)], rfl, Nat.zero_le _, heap_alloc_new w _, Nat.le_refl _, by unfold maxLen; omega, rfl, rfl⟩⟩, fun y hy => ?_, fun g hg hf => ?_⟩
  · obtain rfl : y = z := by simpa using hy
    exact hz
  · obtain rfl : w.heap.size = g := by simpa [Value.ownBlock] using hg
    have := hF _ hf
    omega

/-- A row of texts put behind none. -/
theorem run_append_copy (w : World) (ty : TypeId) (v : Value) (ss : List (List Nat)) (hown : w.ownsRow 0 9 1 v ss.length (tcl ss)) (hp : 0 < ss.length) (hl : ss.length < 1000000) :
    ∃ A cap g cap' w', v = .slice A ss.length cap ∧ (Builtin.append_ #[32, 32] ty #[.slice none 0 0, v]).run Try.prog w = .ok (.slice (some ⟨g, 0, none⟩) ss.length cap') w' ∧
      w'.ownsRow 0 9 1 (.slice (some ⟨g, 0, none⟩) ss.length cap') ss.length (tcl ss) ∧ w.grownBy w' none ∧ g = w.heap.size ∧ g < w'.heap.size := by
  obtain ⟨i, hi, hz0, hz1, hz2⟩ := info_parts info9
  obtain ⟨g0, cap, rfl, _, _⟩ := hown.form hp
  obtain ⟨v', w', hrun, h2, h3, _, h5⟩ := run_append_own_at (P := Try.prog) w 0 32 ty 9 i (.string ⟨#[]⟩) 1 16 Try.underlying32 hi hz0 hz1 hz2 rfl (by omega) (.slice none 0 0) 0 [] (World.ownsRow_nil _ _ _ _) ⟨g0, 0, none⟩ ss.length cap (tcl ss) (by rw [tcl_length]; omega) (fun j u hu => hown.cells (g := g0) rfl j u hu) (tcl_one ss) (by unfold maxLen; omega) (by omega) (Nat.zero_le _)
  rw [Nat.zero_add, List.nil_append] at h2
  obtain ⟨g, cap', rfl, _, hlt⟩ := h2.form hp
  refine ⟨_, cap, g, cap', w', rfl, hrun, h2, h3, ?_, hlt⟩
  rcases h5 with h5 | h5
  · simp [Value.ownBlock] at h5
  · simpa [Value.ownBlock] using h5
theorem step_append_copy (w : World) {ops : Array Oper} {o : Oper} {a : Act} {K : Act → World → Prop} {Q : Exit → Act → World → Prop} {E : Prop} (hgd : o.guard = none) (s x : Operand) (ho : o.op = .call { callee := .builtin .append, args := #[s, x], argTypes := #[32, 32] })
    (v : Value) (ss : List (List Nat)) (hs : a.eval s = .slice none 0 0) (hx : a.eval x = v) (hown : w.ownsRow 0 9 1 v ss.length (tcl ss)) (hp : 0 < ss.length) (hl : ss.length < 1000000)
    (h : ∀ g cap w', w'.ownsRow 0 9 1 (.slice (some ⟨g, 0, none⟩) ss.length cap) ss.length (tcl ss) → w.grownBy w' none → g = w.heap.size → g < w'.heap.size → K (a.put o.dst (.slice (some ⟨g, 0, none⟩) ss.length cap)) w') :
    if Region.wanted o (yielded ops a.tmps) = true then Oper.wp Try.prog o a w K Q else E := by
  have hw : Region.wanted o (yielded ops a.tmps) = true := by simp [Region.wanted, hgd]
  rw [if_pos hw]
  obtain ⟨A, cap, g, cap', w', rfl, hrun, h2, h3, h4, h5⟩ := run_append_copy w o.type v ss hown hp hl
  unfold Oper.wp execOp
  simp only [ho, resolve, invoke, builtin, Sem.run_bind, Sem.run_pure, Result.andThen_ok, List.map_toArray, List.map_cons, List.map_nil, hs, hx, hrun]
  exact h g cap' w' h2 h3 h4 h5

/-- What names returns. -/
def NPost (w : World) (rs : List (List Nat)) (e : Ending) (w' : World) : Prop :=
  ∃ v, e = .returned v ∧ Sr w' (fun b => b < w.heap.size) v rs ∧ Below w.heap.size w w'

set_option maxHeartbeats 2000000 in
set_option maxRecDepth 100000 in
theorem names_any {w : World} {g : Nat} {rs : List (List Nat)} {vs : List Value} (h : Rw w g rs vs) (hb : ∀ z ∈ rs, Bs z) (hl : rs.length ≤ 1000) : Calls Try.prog 21 #[.slice (some ⟨g, 0, none⟩) rs.length rs.length] w (NPost w rs) := by
  have H := Lib.hid h
  have HB := Lib.hid hb
  clear h hb
  obtain ⟨n, hn⟩ : ∃ n, n = rs.length := ⟨_, rfl⟩
  have HN := Lib.hid hn
  rw [← hn] at hl ⊢
  clear hn
  go_enter Try.func21, Try.ntmps21
  go_wp2_with fail
  go_loopg [3, 8] n (fun m v i wr => ∃ (qn : Nat) (A : Option Addr) (c : Nat), qn + m = n ∧ i = .int .i64 (qn : Int) ∧ v = .slice A qn c ∧ Hid (Below w.heap.size w wr ∧ wr.ownsRow w.heap.size 9 1 (.slice A qn c) qn (tcl (rs.take qn))))
  case atStart => exact ⟨0, none, 0, by omega, rfl, rfl, Below.refl _ _, World.ownsRow_nil _ _ _ _⟩
  case round =>
    obtain ⟨qn, A, c, hqn, rfl, rfl, HH⟩ := hrel
    match gk with
    | 0 =>
      obtain rfl : qn = n := by omega
      go_wp2_with fail
      go_ret
      obtain ⟨hb, ho⟩ := HH.out
      rw [HN.out, List.take_length] at ho
      refine ⟨.slice A rs.length c, by rw [← HN.out]; rfl, ⟨?_, HB.out, fun g hg hf => ?_⟩, hb⟩
      · refine ⟨ho.1, ?_⟩
        rcases ho.2 with h | ⟨g, cap, cur, h1, _, h3⟩
        · exact .inl h
        · exact .inr ⟨g, cap, cur, h1, Nat.zero_le _, h3⟩
      · have := (ho.lt g hg).1
        have hf : g < w.heap.size := hf
        omega
    | m + 1 =>
      have hql : qn < n := by omega
      obtain ⟨zs, hzs⟩ : ∃ zs, rs[qn]? = some zs := ⟨_, List.getElem?_eq_getElem (by have := HN.out; omega)⟩
      have hrw := H.out.below HH.out.1
      obtain ⟨v, hv, A1, c1, rfl, hrd, _⟩ := hrw.sl qn zs hzs
      have cc := hrw.row.cell (i := qn) (by have := HN.out; omega)
      rw [hv] at cc
      simp only [Option.getD_some] at cc
      have HCV := run_stg hrd c1
      have HO := Lib.hid (ownsRow_of_block (w' := wr.alloc (.cells #[.string (stg zs)] 9)) HH.out.2 (fun g' hg' => Below.heap_alloc _ _ _ (HH.out.2.lt g' hg').2))
      have HB1 := Lib.hid (HH.out.1.alloc HH.out.1.size (.cells #[.string (stg zs)] 9))
      have HC : Hid ((wr.alloc (.cells #[.string (stg zs)] 9)).cell? ⟨wr.heap.size, 0, none⟩ = some (.string (stg zs))) := by
        show _ = _
        rw [cell_of_row _ _ _ _ _ _ (heap_alloc_new wr _)]
        rfl
      have HT : Hid (rs.take (qn + 1) = rs.take qn ++ [zs]) := take_succ_get hzs
      have hbase := Lib.hid (show w.heap.size ≤ (wr.alloc (.cells #[.string (stg zs)] 9)).heap.size from HB1.out.size)
      have HLT := Lib.hid (fun g' hg' => (HH.out.2.lt g' hg').1)
      clear hrw hv hrd hzs HH
      go_wp2_with (at_builtin; refine wpList_append1 Try.underlying32 info9 rfl (by omega) _ rfl (.tmp 12) (.tmp 15) rfl w.heap.size _ qn _ (by simp [Act.eval, Act.put]) HO.out wr.heap.size 1 (.string (stg zs)) (by simp [Act.eval, Act.put]) HC.out rfl (by omega) hbase.out ?_)
      intro g3 cap3 w3 hown hgrow hat hlt
      have B3 := Lib.hid (HB1.out.grown hgrow hbase.out (fun k hk => HLT.out k hk))
      have O3 := Lib.hid hown
      clear hown hgrow hat HCV cc
      go_wp2_with fail
      go_roundg m
      case measure => omega
      case rel =>
        refine ⟨qn + 1, some ⟨g3, 0, none⟩, cap3, by omega, by go_num, rfl, B3.out, ?_⟩
        rw [HT.out, tcl_append]
        exact O3.out
end Go.Proofs.Ytjkfgdeiciligaa
