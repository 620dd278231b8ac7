/-
  The contract of lines.Table, at a reader of lines whose contract is known: the rows of the lines, or the fault of the first one that is wrong. Conditions: up to 1000 texts, which lie in memory ahead of the call; the reader is lines.Neighbour or lines.Lease.
-/
import Derived.Test.YthpgmlijfcfddaaGreatDoorSt
import Derived.Test.YthpgmlijfcfddaaGreatDoorIa
import Derived.Deep.OwnRows
import Derived.Deep.AppendLies
import Derived.Laws.OwnMore
import Derived.Laws.AppendOwn
import Derived.Maps.AppendAt
import Derived.Deep.LoopGhost
import Derived.RegionTactic
import Derived.OwnWalk
import Derived.Deep.MidRow
set_option linter.unusedSimpArgs false
set_option linter.unusedVariables false
namespace Go.Proofs.YthpgmlijfcfddaaGreatDoor
open Go.RowKit

theorem info33 : (Tryz.prog.info? 33).map (fun i => (i.zero, i.size, i.bytes)) = some (some (rv zr), 8, 24) := by kernel_rfl
/-- A row's cells. -/
def rc (r : Rr) : List Value := [.int .u32 r.a, .int .u8 r.m0, .int .u8 r.m1, .int .u8 r.m2, .int .u8 r.m3, .int .u8 r.m4, .int .u8 r.m5, .int .i64 r.u]
def rcs (rs : List Rr) : List Value := rs.flatMap rc
theorem rcs_snoc (rs : List Rr) (r : Rr) : rcs (rs ++ [r]) = rcs rs ++ rc r := by simp [rcs]
theorem rcs_one (rs : List Rr) : ∀ u ∈ rcs rs, u.oneCell' = true := by
  intro u hu
  obtain ⟨r, _, h⟩ := List.mem_flatMap.1 hu
  simp [rc] at h
  rcases h with rfl | rfl | rfl | rfl | rfl | rfl | rfl | rfl <;> rfl
/-- What a table says of its first lines: the rows so far, and the first line that is wrong, with its number. -/
def tS (f : ByteArray → Rr × Int) (g : Nat → ByteArray) : Nat → List Rr × Option (Nat × Int)
  | 0 => ([], none)
  | k + 1 => match (tS f g k).2 with
    | some x => ((tS f g k).1, some x)
    | none => if (f (g k)).2 = 8 then ((tS f g k).1, none) else if (f (g k)).2 = 0 then ((tS f g k).1 ++ [(f (g k)).1], none) else ((tS f g k).1, some (k, (f (g k)).2))
theorem tS_stays (f : ByteArray → Rr × Int) (g : Nat → ByteArray) (k n : Nat) (x : Nat × Int) (h : (tS f g k).2 = some x) (hk : k ≤ n) : tS f g n = tS f g k := by
  induction hk with
  | refl => rfl
  | step h1 ih =>
    rw [tS, ih, h]
    simp only
    rw [← h]

theorem own_keep {w w' : World} {base : Nat} {e : TypeId} {size : Nat} {v : Value} {n : Nat} {xs : List Value} (h : w.ownsRow base e size v n xs) (hb : Below w.heap.size w w') : w'.ownsRow base e size v n xs := by
  refine ⟨h.1, h.2.imp id ?_⟩
  rintro ⟨g, cap, cur, e1, e2, e3, r⟩
  refine ⟨g, cap, cur, e1, e2, ?_, r⟩
  rw [hb.block g (by
    by_cases hg : g < w.heap.size
    · exact hg
    · rw [Array.getElem?_eq_none (by omega)] at e3; cases e3)]
  exact e3

theorem run_append8 {T e : TypeId} (hu : Tryz.prog.underlying T = some (.slice e)) (hi : (Tryz.prog.info? e).map (fun i => (i.zero, i.size, i.bytes)) = some (some (rv zr), 8, 24)) (w : World) (base : Nat) (ty : TypeId) (v : Value) (n : Nat) (xs : List Value) (hown : w.ownsRow base e 8 v n xs) (b c : Nat) (r : Rr) (hr : ∀ j u, (rc r)[j]? = some u → w.cell? ((⟨b, 0, none⟩ : Addr).add j) = some u) (hl : n < 1000000) (hbase : base ≤ w.heap.size) :
    ∃ g cap w', (Builtin.append_ #[T, T] ty #[v, .slice (some ⟨b, 0, none⟩) 1 c]).run Tryz.prog w = .ok (.slice (some ⟨g, 0, none⟩) (n + 1) cap) w' ∧
      w'.ownsRow base e 8 (.slice (some ⟨g, 0, none⟩) (n + 1) cap) (n + 1) (xs ++ rc r) ∧ w.grownBy w' v.ownBlock ∧ (v.ownBlock = some g ∨ g = w.heap.size) ∧ g < w'.heap.size := by
  obtain ⟨i, hii, hz0, hz1, hz2⟩ := info_parts hi
  obtain ⟨v', w', hrun, h2, h3, _, h5⟩ := run_append_own_at (P := Tryz.prog) w base T ty e i (rv zr) 8 24 hu hii hz0 hz1 hz2 rfl (by omega) v n xs hown ⟨b, 0, none⟩ 1 c (rc r) rfl hr (fun u hu => rcs_one [r] u (by simpa [rcs] using hu)) (by unfold maxLen; omega) (by omega) hbase
  obtain ⟨g, cap, rfl, _, hlt⟩ := h2.form (by omega)
  refine ⟨g, cap, w', hrun, h2, h3, ?_, hlt⟩
  rcases h5 with h5 | h5
  · exact .inl (by rw [← h5]; rfl)
  · exact .inr (by simpa [Value.ownBlock] using h5)
theorem wp_append8 {T e : TypeId} (hu : Tryz.prog.underlying T = some (.slice e)) (hi : (Tryz.prog.info? e).map (fun i => (i.zero, i.size, i.bytes)) = some (some (rv zr), 8, 24)) (w : World) {o : Oper} {a : Act} {K : Act → World → Prop} {Q : Exit → Act → World → Prop} (s x : Operand) (ho : o.op = .call { callee := .builtin .append, args := #[s, x], argTypes := #[T, T] })
    (base : Nat) (v : Value) (n : Nat) (xs : List Value) (hs : a.eval s = v) (hown : w.ownsRow base e 8 v n xs) (b c : Nat) (r : Rr) (hx : a.eval x = .slice (some ⟨b, 0, none⟩) 1 c) (hr : ∀ j u, (rc r)[j]? = some u → w.cell? ((⟨b, 0, none⟩ : Addr).add j) = some u) (hl : n < 1000000) (hbase : base ≤ w.heap.size)
    (h : ∀ g cap w', w'.ownsRow base e 8 (.slice (some ⟨g, 0, none⟩) (n + 1) cap) (n + 1) (xs ++ rc r) → w.grownBy w' v.ownBlock → (v.ownBlock = some g ∨ g = w.heap.size) → g < w'.heap.size → K (a.put o.dst (.slice (some ⟨g, 0, none⟩) (n + 1) cap)) w') : o.wp Tryz.prog a w K Q := by
  obtain ⟨g, cap, w', hrun, h2, h3, h4, h5⟩ := run_append8 hu hi w base o.type v n xs hown b c r hr hl hbase
  unfold Oper.wp execOp
  simp only [ho, resolve, invoke, builtin, Sem.run_bind, Sem.run_pure, Result.andThen_ok, List.map_toArray, List.map_cons, List.map_nil, hs, hx, hrun]
  exact h g cap w' h2 h3 h4 h5
theorem wpList_append8 {T e : TypeId} (hu : Tryz.prog.underlying T = some (.slice e)) (hi : (Tryz.prog.info? e).map (fun i => (i.zero, i.size, i.bytes)) = some (some (rv zr), 8, 24)) (w : World) {ops : Array Oper} {rest : List Oper} {o : Oper} {a : Act} {Q : Exit → Act → World → Prop} (hgd : o.guard = none) (s x : Operand) (ho : o.op = .call { callee := .builtin .append, args := #[s, x], argTypes := #[T, T] })
    (base : Nat) (v : Value) (n : Nat) (xs : List Value) (hs : a.eval s = v) (hown : w.ownsRow base e 8 v n xs) (b c : Nat) (r : Rr) (hx : a.eval x = .slice (some ⟨b, 0, none⟩) 1 c) (hr : ∀ j u, (rc r)[j]? = some u → w.cell? ((⟨b, 0, none⟩ : Addr).add j) = some u) (hl : n < 1000000) (hbase : base ≤ w.heap.size)
    (h : ∀ g cap w', w'.ownsRow base e 8 (.slice (some ⟨g, 0, none⟩) (n + 1) cap) (n + 1) (xs ++ rc r) → w.grownBy w' v.ownBlock → (v.ownBlock = some g ∨ g = w.heap.size) → g < w'.heap.size → wpList Tryz.prog ops Q rest (a.put o.dst (.slice (some ⟨g, 0, none⟩) (n + 1) cap)) w') : wpList Tryz.prog ops Q (o :: rest) a w :=
  wpList_plain hgd fun _ hK => wp_append8 hu hi w s x ho base v n xs hs hown b c r hx hr hl hbase fun g cap w' h2 h3 h4 h5 => hK _ _ (h g cap w' h2 h3 h4 h5)

theorem row_new (w : World) (r : Rr) (T : TypeId) : ∀ j u, (rc r)[j]? = some u → (w.alloc (.cells #[.int .u32 r.a, .int .u8 r.m0, .int .u8 r.m1, .int .u8 r.m2, .int .u8 r.m3, .int .u8 r.m4, .int .u8 r.m5, .int .i64 r.u] T)).cell? ((⟨w.heap.size, 0, none⟩ : Addr).add j) = some u := by
  intro j u h
  rw [Addr.add_mid]
  match j, h with
  | 0, h => simp [rc] at h; subst h; simp
  | 1, h => simp [rc] at h; subst h; simp
  | 2, h => simp [rc] at h; subst h; simp
  | 3, h => simp [rc] at h; subst h; simp
  | 4, h => simp [rc] at h; subst h; simp
  | 5, h => simp [rc] at h; subst h; simp
  | 6, h => simp [rc] at h; subst h; simp
  | 7, h => simp [rc] at h; subst h; simp
  | j + 8, h => simp [rc] at h

/-- What a table returns. -/
def TbPost (w : World) (R : List Rr × Option (Nat × Int)) (e : Ending) (w' : World) : Prop :=
  Below w.heap.size w w' ∧ match R.2 with
    | none => ∃ v, e = .returned (.tuple #[v, .nilIface]) ∧ w'.ownsRow w.heap.size 33 8 v R.1.length (rcs R.1)
    | some (i, t) => ∃ b, e = .returned (.tuple #[.slice none 0 0, eF b]) ∧ w'.cell? ⟨b, 0, none⟩ = some (.int .i64 (i : Int)) ∧ t ≠ 0 ∧ Ch w' t 2 (eF b)

set_option maxRecDepth 100000 in
set_option maxHeartbeats 4000000 in
theorem table_any (f : ByteArray → Rr × Int) (g : Nat → ByteArray) (F : FuncId) (n gb cap : Nat) (w : World) (hn : n ≤ 1000) (hc : ∀ k, k < n → w.cell? ⟨gb, k, none⟩ = some (.string (g k))) (hg : gb < w.heap.size)
    (hF : ∀ k, k < n → ∀ W, Below w.heap.size w W → Calls Tryz.prog F #[.string (g k)] W (SPost W (f (g k)).1 (f (g k)).2)) (hFF : F = 8 ∨ F = 11) :
    Calls Tryz.prog 13 #[.slice (some ⟨gb, 0, none⟩) n cap, .func (.func F) #[] #[]] w (TbPost w (tS f g n)) := by
  rcases hFF with rfl | rfl
  all_goals
    have HC := Lib.hid hc
    have HF := Lib.hid hF
    clear hc hF
    go_enter Tryz.func13, Tryz.ntmps13
    go_wp2_with fail
    go_loopg [6, 13] n (fun m v i wr => ∃ (k : Nat) (rs : List Rr), k + m = n ∧ i = .int .i64 (k : Int) ∧ Hid (tS f g k = (rs, none) ∧ rs.length ≤ k ∧ wr.ownsRow w.heap.size 33 8 v rs.length (rcs rs) ∧ Below w.heap.size w wr))
    case atStart => exact ⟨0, [], by omega, rfl, Lib.hid ⟨rfl, Nat.le_refl _, World.ownsRow_nil _ _ _ _, Below.refl _ w⟩⟩
    case round =>
      obtain ⟨k, rs, hkm, rfl, HH⟩ := hrel
      match gk with
      | 0 =>
        obtain rfl : k = n := by omega
        go_wp2_with fail
        go_ret2
        refine ⟨HH.out.2.2.2, ?_⟩
        rw [HH.out.1]
        exact ⟨_, rfl, HH.out.2.2.1⟩
      | m + 1 =>
        have hk : k < n := by omega
        have cS : wr.cell? ⟨gb, k, none⟩ = some (.string (g k)) := by rw [HH.out.2.2.2.cell (p := ⟨gb, k, none⟩) hg]; exact HC.out k hk
        have HFk := Lib.hid (HF.out k hk)
        have HT := Lib.hid (show tS f g (k + 1) = _ by rw [tS, HH.out.1])
        generalize f (g k) = R at HFk HT
        generalize g k = S at cS HFk
        obtain ⟨r, q⟩ := R
        obtain ⟨ra, r0, r1, r2, r3, r4, r5, ru⟩ := r
        have hk1 : ((k : Int) < n) := by omega
        go_wp2_with fail
        refine (HFk.out _ HH.out.2.2.2).mono ?_
        rintro e w3 ⟨⟨ev, rfl, hev⟩, hb⟩
        have B3 := Lib.hid (HH.out.2.2.2.trans (hb.mono HH.out.2.2.2.size))
        have O3 := Lib.hid (own_keep HH.out.2.2.1 hb)
        have z3 : w.heap.size ≤ w3.heap.size := B3.out.size
        clear hb cS
        simp only [rv]
        rcases hev with ⟨rfl, rfl⟩ | ⟨hq, p, rfl⟩
        · have HT1 := Lib.hid (show tS f g (k + 1) = (rs ++ [⟨ra, r0, r1, r2, r3, r4, r5, ru⟩], none) by simpa using HT.out)
          clear HT
          go_wp2_with fail
          refine (is_nil 8 _).mono ?_
          rintro e w4 ⟨rfl, hw4⟩
          have B34 : Below w3.heap.size w3 w4 := by rw [hw4]; exact (Below.refl _ w3).alloc (Nat.le_refl _) _
          have B4 := Lib.hid (B3.out.trans (B34.mono B3.out.size))
          have O4 := Lib.hid (own_keep O3.out B34)
          have k0 : w4.cell? ⟨w3.heap.size, 0, none⟩ = some (.int .u32 ra) := by rw [hw4]; simp
          have k1 : w4.cell? ⟨w3.heap.size, 1, none⟩ = some (.int .u8 r0) := by rw [hw4]; simp
          have k2 : w4.cell? ⟨w3.heap.size, 2, none⟩ = some (.int .u8 r1) := by rw [hw4]; simp
          have k3 : w4.cell? ⟨w3.heap.size, 3, none⟩ = some (.int .u8 r2) := by rw [hw4]; simp
          have k4 : w4.cell? ⟨w3.heap.size, 4, none⟩ = some (.int .u8 r3) := by rw [hw4]; simp
          have k5 : w4.cell? ⟨w3.heap.size, 5, none⟩ = some (.int .u8 r4) := by rw [hw4]; simp
          have k6 : w4.cell? ⟨w3.heap.size, 6, none⟩ = some (.int .u8 r5) := by rw [hw4]; simp
          have k7 : w4.cell? ⟨w3.heap.size, 7, none⟩ = some (.int .i64 ru) := by rw [hw4]; simp
          have z4 : w3.heap.size < w4.heap.size := by rw [hw4]; simp
          clear hw4 B34
          have hrn := row_new w4 ⟨ra, r0, r1, r2, r3, r4, r5, ru⟩ 33
          have hl4 : rs.length < 1000000 := by have := HH.out.2.1; omega
          go_wp2_with (at_builtin; refine wpList_append8 Tryz.underlying44 info33 _ rfl (.tmp 34) (.tmp 36) rfl w.heap.size _ rs.length _ (by simp [Act.eval, Act.put]) (O4.out.alloc _) w4.heap.size 1 ⟨ra, r0, r1, r2, r3, r4, r5, ru⟩ (by simp [Act.eval, Act.put]) hrn hl4 (by simp; omega) ?_)
          intro g5 cap5 w5 hown hgrow hat hlt
          have B5 := Lib.hid ((B4.out.alloc B4.out.size _).grown hgrow (by have := B4.out.size; simp; omega) (fun j hj => (O4.out.lt j hj).1))
          have O5 := Lib.hid hown
          clear hown hgrow hat hlt
          go_wp2_with fail
          go_roundg m
          case measure => omega
          case rel =>
            refine ⟨k + 1, _, by omega, by go_num, Lib.hid ⟨HT1.out, ?_, ?_, B5.out⟩⟩
            · have := HH.out.2.1; simp; omega
            · have := O5.out
              rw [← rcs_snoc] at this
              simpa using this
        · by_cases h8 : q = 8
          · subst h8
            have HT1 := Lib.hid (show tS f g (k + 1) = (rs, none) by simpa using HT.out)
            clear HT
            go_wp2_with fail
            refine (is_any 8 8 1 (eW p 8) _ (.wrong p)).mono ?_
            rintro e w4 ⟨rfl, hb⟩
            have B34 : Below w3.heap.size w3 w4 := ((Below.refl _ w3).alloc (Nat.le_refl _) _).trans (hb.mono (by simp))
            have B4 := Lib.hid (B3.out.trans (B34.mono B3.out.size))
            have O4 := Lib.hid (own_keep O3.out B34)
            clear hb B34
            go_wp2_with fail
            go_roundg m
            case measure => omega
            case rel =>
              refine ⟨k + 1, rs, by omega, by go_num, Lib.hid ⟨HT1.out, ?_, O4.out, B4.out⟩⟩
              have := HH.out.2.1; omega
          · have HT1 := Lib.hid (show tS f g (k + 1) = (rs, some (k, q)) by simpa [h8, hq] using HT.out)
            have HS := Lib.hid (tS_stays f g (k + 1) n (k, q) (by rw [HT1.out]) (by omega))
            have h9 : (q == 8) = false := by simpa using h8
            clear HT
            go_wp2_with fail
            refine (is_any q 8 1 (eW p q) _ (.wrong p)).mono ?_
            rintro e w4 ⟨rfl, hb⟩
            have B34 : Below w3.heap.size w3 w4 := ((Below.refl _ w3).alloc (Nat.le_refl _) _).trans (hb.mono (by simp))
            have B4 := Lib.hid (B3.out.trans (B34.mono B3.out.size))
            clear hb B34
            simp only [h9, eW]
            go_wp2_with fail
            go_ret2
            refine ⟨B4.out.alloc B4.out.size _, ?_⟩
            rw [HS.out, HT1.out]
            exact ⟨w4.heap.size, rfl, by simp, hq, .fault _ 1 (eW p q) (by simp [eW]) (.wrong p)⟩

set_option maxHeartbeats 1000000 in
theorem table_nil (F : FuncId) (w : World) : Calls Tryz.prog 13 #[.slice none 0 0, .func (.func F) #[] #[]] w fun e w' => e = .returned (.tuple #[.slice none 0 0, .nilIface]) ∧ Below w.heap.size w w' := by
  go_enter Tryz.func13, Tryz.ntmps13
  go_wp2_with fail
  go_loopg [6, 13] 0 (fun m v i wr => v = .slice none 0 0 ∧ i = .int .i64 0 ∧ wr = w)
  case atStart => exact ⟨rfl, rfl, rfl⟩
  case round =>
    obtain ⟨rfl, rfl, rfl⟩ := hrel
    go_wp2_with fail
    go_ret2
    exact ⟨rfl, Below.refl _ _⟩
end Go.Proofs.YthpgmlijfcfddaaGreatDoor
