/-
  The walk of LinesTable: called at any words and either reader it returns true and changes nothing that was in memory. Conditions: numbers have their bits, texts are ones that a process can hold, and the library's variables lie as their texts lay them (Env).
-/
import Derived.Test.YthpgmlijfcfddaaGreatDoorNeighbourWalk
import Derived.Test.YthpgmlijfcfddaaGreatDoorLl
import Derived.Test.YthpgmlijfcfddaaGreatDoorWz
import Derived.Test.YthpgmlijfcfddaaGreatDoorPc
import Derived.Lib.MinMax
set_option linter.unusedSimpArgs false
set_option linter.unusedVariables false
namespace Go.Proofs.YthpgmlijfcfddaaGreatDoor
open Go.RowKit

/-- The reader that is asked for. -/
def rdO (le : Bool) (s : ByteArray) : Rr × Int := if le = true then lsO s else nbO s
def atO : Option (Nat × Int) → Int
  | none => -1
  | some x => x.1
def erO : Option (Nat × Int) → Int
  | none => 0
  | some x => x.2
/-- What lies in memory ahead of a round: the lines so far, the rows that are wanted so far. -/
structure Tw (w0 w : World) (le : Bool) (L : List ByteArray) (v5 v6 : Value) : Prop where
  b : Below w0.heap.size w0 w
  ls : w.ownsRow w0.heap.size 9 1 v5 L.length (L.map .string)
  want : w.ownsRow w0.heap.size 33 8 v6 (tS (rdO le) (gL L) L.length).1.length (rcs (tS (rdO le) (gL L) L.length).1)
  ne : ∀ b, v5.ownBlock = some b → v6.ownBlock ≠ some b
  few : (tS (rdO le) (gL L) L.length).1.length ≤ L.length
  len : ∀ s ∈ L, s.size ≤ maxLen

theorem Tw.below {w0 w w' : World} {le : Bool} {L : List ByteArray} {v5 v6 : Value} (h : Tw w0 w le L v5 v6) (hb : Below w.heap.size w w') : Tw w0 w' le L v5 v6 :=
  ⟨h.b.trans (hb.mono h.b.size), own_keep h.ls hb, own_keep h.want hb, h.ne, h.few, h.len⟩
/-- One more line is in. -/
structure Tv (w0 w : World) (le : Bool) (L : List ByteArray) (s : ByteArray) (v5 v6 : Value) : Prop where
  b : Below w0.heap.size w0 w
  ls : w.ownsRow w0.heap.size 9 1 v5 (L.length + 1) ((L ++ [s]).map .string)
  want : w.ownsRow w0.heap.size 33 8 v6 (tS (rdO le) (gL L) L.length).1.length (rcs (tS (rdO le) (gL L) L.length).1)
  ne : ∀ b, v5.ownBlock = some b → v6.ownBlock ≠ some b
  few : (tS (rdO le) (gL L) L.length).1.length ≤ L.length
  len : ∀ x ∈ L ++ [s], x.size ≤ maxLen
theorem Tv.below {w0 w w' : World} {le : Bool} {L : List ByteArray} {s : ByteArray} {v5 v6 : Value} (h : Tv w0 w le L s v5 v6) (hb : Below w.heap.size w w') : Tv w0 w' le L s v5 v6 :=
  ⟨h.b.trans (hb.mono h.b.size), own_keep h.ls hb, own_keep h.want hb, h.ne, h.few, h.len⟩
theorem Tw.more {w0 w w' : World} {le : Bool} {L : List ByteArray} {s : ByteArray} {v5 v6 : Value} {g cap : Nat} (h : Tw w0 w le L v5 v6) (hs : s.size ≤ maxLen) (ho : w'.ownsRow w0.heap.size 9 1 (.slice (some ⟨g, 0, none⟩) (L.length + 1) cap) (L.length + 1) (L.map .string ++ [.string s])) (hg : w.grownBy w' v5.ownBlock) (hat : v5.ownBlock = some g ∨ g = w.heap.size) : Tv w0 w' le L s (.slice (some ⟨g, 0, none⟩) (L.length + 1) cap) v6 := by
  refine ⟨h.b.grown hg h.b.size (fun j hj => (h.ls.lt j hj).1), by simpa using ho, h.want.kept hg ?_, ?_, h.few, ?_⟩
  · cases e : v6.ownBlock with
    | none => exact .inl rfl
    | some b => exact .inr fun e2 => h.ne b e2.symm e
  · intro b hb
    obtain rfl : g = b := by simpa [Value.ownBlock] using hb
    rcases hat with hat | hat
    · exact h.ne g hat
    · intro e
      have := (h.want.lt g e).2
      omega
  · intro x hx
    rcases List.mem_append.1 hx with hx | hx
    · exact h.len x hx
    · obtain rfl : x = s := by simpa using hx
      exact hs

theorem Tv.stay {w0 w : World} {le : Bool} {L : List ByteArray} {s : ByteArray} {v5 v6 : Value} (h : Tv w0 w le L s v5 v6) (e : (tS (rdO le) (gL (L ++ [s])) (L.length + 1)).1 = (tS (rdO le) (gL L) L.length).1) : Tw w0 w le (L ++ [s]) v5 v6 := by
  have hl : (L ++ [s]).length = L.length + 1 := by simp
  refine ⟨h.b, by rw [hl]; exact h.ls, by rw [hl, e]; exact h.want, h.ne, by rw [hl, e]; have := h.few; omega, h.len⟩
theorem Tv.push {w0 w w' : World} {le : Bool} {L : List ByteArray} {s : ByteArray} {v5 v6 : Value} {g cap : Nat} {r : Rr} (h : Tv w0 w le L s v5 v6) (ho : w'.ownsRow w0.heap.size 33 8 (.slice (some ⟨g, 0, none⟩) ((tS (rdO le) (gL L) L.length).1.length + 1) cap) ((tS (rdO le) (gL L) L.length).1.length + 1) (rcs (tS (rdO le) (gL L) L.length).1 ++ rc r)) (hg : w.grownBy w' v6.ownBlock) (hat : v6.ownBlock = some g ∨ g = w.heap.size)
    (e : (tS (rdO le) (gL (L ++ [s])) (L.length + 1)).1 = (tS (rdO le) (gL L) L.length).1 ++ [r]) : Tw w0 w' le (L ++ [s]) v5 (.slice (some ⟨g, 0, none⟩) ((tS (rdO le) (gL L) L.length).1.length + 1) cap) := by
  have hl : (L ++ [s]).length = L.length + 1 := by simp
  refine ⟨h.b.grown hg h.b.size (fun j hj => (h.want.lt j hj).1), ?_, ?_, ?_, ?_, h.len⟩
  · rw [hl]
    refine h.ls.kept hg ?_
    cases e5 : v5.ownBlock with
    | none => exact .inl rfl
    | some b => exact .inr fun e2 => h.ne b e5 e2.symm
  · rw [hl, e, rcs_snoc]
    simpa using ho
  · intro b hb e2
    obtain rfl : g = b := by simpa [Value.ownBlock] using e2
    rcases hat with hat | hat
    · exact h.ne g hb hat
    · have := (h.ls.lt g hb).2
      omega
  · rw [hl, e]
    have := h.few
    simp
    omega

/-- A row's form, whether it is nil or not. -/
theorem row_form {w : World} {base : Nat} {e : TypeId} {size : Nat} {v : Value} {n : Nat} {ys : List Value} (h : w.ownsRow base e size v n ys) : ∃ A cap, v = .slice A n cap ∧ n ≤ cap ∧ (A = none → n = 0) ∧ ∀ y, A = some y → y = ⟨y.block, 0, none⟩ ∧ base ≤ y.block := by
  rcases h.2 with ⟨rfl, h0⟩ | ⟨g, cap, cur, rfl, e2, e3, e4, _⟩
  · exact ⟨none, 0, by rw [h0], by omega, fun _ => h0, fun y hy => by cases hy⟩
  · exact ⟨some ⟨g, 0, none⟩, cap, rfl, e4, fun h => (by cases h), fun y hy => by cases hy; exact ⟨rfl, e2⟩⟩
theorem rcs_at : ∀ (rs : List Rr) (k : Nat) (r : Rr) (j : Nat), rs[k]? = some r → j < 8 → (rcs rs)[k * 8 + j]? = (rc r)[j]?
  | [], k, r, j, h, _ => by simp at h
  | a :: l, 0, r, j, h, hj => by
    obtain rfl : a = r := by simpa using h
    show (rc a ++ rcs l)[0 * 8 + j]? = _
    rw [List.getElem?_append_left (by show 0 * 8 + j < 8; omega)]
    simp
  | a :: l, k + 1, r, j, h, hj => by
    have h' : l[k]? = some r := by simpa using h
    show (rc a ++ rcs l)[(k + 1) * 8 + j]? = _
    rw [List.getElem?_append_right (by show 8 ≤ _; omega), show (k + 1) * 8 + j - (rc a).length = k * 8 + j by show _ - 8 = _; omega]
    exact rcs_at l k r j h' hj
theorem rows_at {w : World} {base n b cap : Nat} {e : TypeId} {rs : List Rr} (h : w.ownsRow base e 8 (.slice (some ⟨b, 0, none⟩) n cap) n (rcs rs)) (k : Nat) (r : Rr) (hr : rs[k]? = some r) (hk : k < n) : ∀ j, j < 8 → w.cell? ⟨b, k * 8 + j, none⟩ = (rc r)[j]? := fun j hj => by
  rw [h.cellAt (k * 8 + j) (by omega)]
  exact rcs_at rs k r j hr hj
theorem lines_any (F : FuncId) {w0 w : World} {le : Bool} {L : List ByteArray} {v5 v6 : Value} (h : Tw w0 w le L v5 v6) (hl : L.length ≤ 1000) (hFF : F = 8 ∨ F = 11) (hF : ∀ s : ByteArray, s.size ≤ maxLen → ∀ W : World, Below w.heap.size w W → Calls Tryz.prog F #[.string s] W (SPost W (rdO le s).1 (rdO le s).2)) :
    Calls Tryz.prog 13 #[v5, .func (.func F) #[] #[]] w (TbPost w (tS (rdO le) (gL L) L.length)) := by
  rcases h.ls.2 with ⟨rfl, h0⟩ | ⟨g, cap, cur, rfl, e2, e3, _⟩
  · rw [h0]
    refine (table_nil F w).mono ?_
    rintro e w' ⟨rfl, hb⟩
    exact ⟨hb, _, rfl, World.ownsRow_nil _ _ _ _⟩
  · refine table_any (rdO le) (gL L) F L.length g cap w hl (fun k hk => ?_) ?_ (fun k hk W hW => hF _ (by
        unfold gL
        rw [List.getElem?_eq_getElem hk]
        exact h.len _ (List.getElem_mem hk)) W hW) hFF
    · have h1 := h.ls.cellAt k (by omega)
      rw [h1]
      simp [gL, hk]
    · by_cases hg : g < w.heap.size
      · exact hg
      · rw [Array.getElem?_eq_none (by omega)] at e3; cases e3

set_option maxRecDepth 100000 in
set_option maxHeartbeats 8000000 in
theorem table_walk (A : Option Addr) (xs : List Wz) (c : Nat) (le : Bool) (w : World) (h : Rz w A xs) (hc : xs.length ≤ c) (hE : Env w) :
    Calls Tryz.prog 5 #[.slice A xs.length c, .bool le] w fun e w' => e = .returned (.bool true) ∧ Below w.heap.size w w' := by
  have HAW := Lib.hid fun W (E : Env W) => awake_any W E
  have HE := Lib.hid hE
  obtain ⟨n, hn⟩ : ∃ n, n = min xs.length 40 := ⟨_, rfl⟩
  have EX : min (xs.length : Int) 40 = (n : Int) := by omega
  have hnc : n ≤ c := by omega
  have hn40 : n ≤ 40 := by omega
  have HNX := Lib.hid (show n ≤ xs.length by omega)
  have H := Lib.hid h
  have hxl := h.1
  clear h hn hE
  go_enter Tryz.func5, Tryz.ntmps5
  go_wp2_with fail
  refine (HAW.out _ HE.out).mono ?_
  rintro e w1 ⟨rfl, hb⟩
  have B1 := Lib.hid hb
  clear hb HAW
  go_wp2_with fail
  go_loopg [5, 6, 7, 8, 29] n (fun m v5 v6 v7 v8 i wr => ∃ (L : List ByteArray), L.length + m = n ∧ i = .int .i64 (L.length : Int) ∧ v7 = .int .i64 (atO (tS (rdO le) (gL L) L.length).2) ∧ v8 = .int .i64 (erO (tS (rdO le) (gL L) L.length).2) ∧ Hid (Tw w wr le L v5 v6))
  case atStart => exact ⟨[], by simp, rfl, rfl, rfl, Lib.hid ⟨B1.out, World.ownsRow_nil _ _ _ _, World.ownsRow_nil _ _ _ _, (fun b hb => by cases hb), Nat.le_refl _, fun s hs => by cases hs⟩⟩
  case round =>
    clear B1
    obtain ⟨L, hL, rfl, rfl, rfl, HH⟩ := hrel
    match gk with
    | 0 =>
      have HT : Hid (Calls Tryz.prog 13 #[u5, .func (.func (if le = true then 11 else 8)) #[] #[]] wr (TbPost wr (tS (rdO le) (gL L) L.length))) := Lib.hid (lines_any _ HH.out (by omega) (by cases le <;> simp) (fun s hs W hW => by
        cases le
        · exact neighbour_any s W hs
        · exact lease_any s W hs ((HE.out.keep HH.out.b).keep hW)))
      have B0 := Lib.hid HH.out.b
      have W0 := Lib.hid HH.out.want
      have E0 := Lib.hid (HE.out.keep HH.out.b)
      have z0 : w.heap.size ≤ wr.heap.size := B0.out.size
      have hrs : (tS (rdO le) (gL L) L.length).1.length ≤ 40 := by have := HH.out.few; omega
      clear HH
      generalize tS (rdO le) (gL L) L.length = R at *
      obtain ⟨rs, p⟩ := R
      have hrs2 : rs.length ≤ 40 := hrs
      rcases p with _ | ⟨i, t⟩
      · have h7 : atO none = -1 := rfl
        have h8 : erO none = 0 := rfl
        simp only [h7, h8]
        cases le <;> simp only [if_true, if_false, Bool.false_eq_true] at HT
        all_goals
          go_wp2_with fail
          refine HT.out.mono ?_
          rintro e w5 ⟨hb, v, rfl, ho⟩
          have B5 := Lib.hid (B0.out.trans (hb.mono B0.out.size))
          have O5 := Lib.hid ho
          have W5 := Lib.hid (own_keep W0.out hb)
          clear hb ho W0 B0
          obtain ⟨A1, c1, rfl, hc1, hA1, hB1⟩ := row_form O5.out
          obtain ⟨A2, c2, rfl, hc2, hA2, hB2⟩ := row_form W5.out
          have HA1 := Lib.hid (And.intro hA1 hB1)
          have HA2 := Lib.hid (And.intro hA2 hB2)
          clear hA1 hB1 hA2 hB2
          go_wp2_with fail
          refine (place_nil w5).mono ?_
          rintro e w6 ⟨rfl, hb⟩
          have B6 := Lib.hid (B5.out.trans (hb.mono B5.out.size))
          have O6 := Lib.hid (own_keep O5.out hb)
          have W6 := Lib.hid (own_keep W5.out hb)
          clear hb O5 W5 B5
          go_wp2_with fail
          go_loopg [129] rs.length (fun m i wr2 => ∃ k : Nat, k + m = rs.length ∧ i = .int .i64 (k : Int) ∧ Hid (Below w.heap.size w wr2 ∧ wr2.ownsRow wr.heap.size 33 8 (.slice A1 rs.length c1) rs.length (rcs rs) ∧ wr2.ownsRow w.heap.size 33 8 (.slice A2 rs.length c2) rs.length (rcs rs)))
          case atStart => exact ⟨0, by omega, rfl, Lib.hid ⟨B6.out, O6.out, W6.out⟩⟩
          case round =>
            clear B6 O6 W6
            obtain ⟨k, hk, rfl, HK⟩ := hrel
            match gk with
            | 0 =>
              obtain rfl : k = rs.length := by omega
              go_wp2_with fail
              go_ret
              exact ⟨rfl, HK.out.1⟩
            | m + 1 =>
              have hkl : k < rs.length := by omega
              obtain ⟨⟨ra, r0, r1, r2, r3, r4, r5, ru⟩, hr⟩ : ∃ r, rs[k]? = some r := ⟨_, List.getElem?_eq_getElem hkl⟩
              rcases A1 with _ | y1
              · have := HA1.out.1 rfl; omega
              rcases A2 with _ | y2
              · have := HA2.out.1 rfl; omega
              obtain ⟨b1, rfl⟩ : ∃ b, y1 = ⟨b, 0, none⟩ := ⟨_, (HA1.out.2 y1 rfl).1⟩
              obtain ⟨b2, rfl⟩ : ∃ b, y2 = ⟨b, 0, none⟩ := ⟨_, (HA2.out.2 y2 rfl).1⟩
              have c1a := rows_at HK.out.2.1 k _ hr hkl
              have c2a := rows_at HK.out.2.2 k _ hr hkl
              have hk0 := hkl
              have u0 := c1a 0 (by decide); have u1 := c1a 1 (by decide); have u2 := c1a 2 (by decide); have u3 := c1a 3 (by decide); have u4 := c1a 4 (by decide); have u5' := c1a 5 (by decide); have u6' := c1a 6 (by decide); have u7 := c1a 7 (by decide)
              have t0 := c2a 0 (by decide); have t1 := c2a 1 (by decide); have t2 := c2a 2 (by decide); have t3 := c2a 3 (by decide); have t4 := c2a 4 (by decide); have t5 := c2a 5 (by decide); have t6 := c2a 6 (by decide); have t7 := c2a 7 (by decide)
              simp only [rc, List.getElem?_cons_zero, List.getElem?_cons_succ, Nat.add_zero] at u0 u1 u2 u3 u4 u5' u6' u7 t0 t1 t2 t3 t4 t5 t6 t7
              clear c1a c2a hr
              have q1 := fun W => run_neqR ⟨ra, r0, r1, r2, r3, r4, r5, ru⟩ W
              have q3 := guardR
              simp only [rv] at q1
              go_wp2_with fail
              go_region
              go_wp2_with fail
              go_roundg m
              case measure => omega
              case rel => exact ⟨k + 1, by omega, by go_num, Lib.hid ⟨HK.out.1.drew, HK.out.2.1.drew, HK.out.2.2.drew⟩⟩
      · have h7 : atO (some (i, t)) = (i : Int) := rfl
        have h8 : erO (some (i, t)) = t := rfl
        simp only [h7, h8]
        have hi0 : (0 : Int) ≤ (i : Int) := by omega
        have hi1 : ¬ ((i : Int) < 0) := by omega
        cases le <;> simp only [if_true, if_false, Bool.false_eq_true] at HT
        all_goals
          go_wp2_with fail
          refine HT.out.mono ?_
          rintro e w5 ⟨hb, b, rfl, hcb, ht, hch⟩
          have B5 := Lib.hid (B0.out.trans (hb.mono B0.out.size))
          have E5 := Lib.hid (E0.out.keep hb)
          have CB := Lib.hid hcb
          have CH := Lib.hid hch
          clear hb hcb hch
          go_wp2_with fail
          refine (place_fault b i w5 CB.out E5.out.et).mono ?_
          rintro e w6 ⟨rfl, hb⟩
          have B6 := Lib.hid (B5.out.trans (hb.mono B5.out.size))
          have TL := Lib.hid (told_any t t (eF b) w6 (.inr ⟨ht, 2, CH.out.keep hb⟩) (E5.out.keep hb).et)
          clear hb
          go_wp2_with fail
          refine TL.out.mono ?_
          rintro e w7 ⟨rfl, hb⟩
          have B7 := Lib.hid (B6.out.trans (hb.mono B6.out.size))
          clear hb
          simp only [beq_self_eq_true]
          go_wp2_with fail
          go_ret
          exact ⟨rfl, B7.out⟩
    | m + 1 =>
      have hin : L.length < n := by omega
      obtain ⟨x, hx⟩ : ∃ x, xs[L.length]? = some x := ⟨_, List.getElem?_eq_getElem (by have := HNX.out; omega)⟩
      have HR := H.out.2 _ x hx
      obtain ⟨hok, y, hAy, hcy⟩ := HR
      subst hAy
      have hld : ∀ j v, x.cs[j]? = some v → wr.cell? ((y.add (L.length * 11)).add j) = some v := fun j v hv => by
        rw [Addr.add_add]
        exact (HH.out.b.cell (World.block_lt_of_cell? _ _ (hcy j v hv))).trans (hcy j v hv)
      obtain ⟨xa, x0, x1, x2, x3, x4, x5, xs', xu, xp, xT⟩ := x
      have hT := hok.2
      have HFO := Lib.hid fun W (E : Env W) => four_any xa x0 x1 x2 x3 x4 x5 xs' xu xp xT le W hok.1.a0 hok.1.a1 hok.1.six hok.1.s0 hok.1.s1 hok.1.u0 hok.1.u1 hok.1.p0 hok.1.p1 E
      have hxT : xT.size ≤ 140737488351232 := hT
      clear hok hcy hT hx
      go_wp2_with (with_reducible show wpList _ _ _ _ _ wr; refine at_load26 (.tmp 32) rfl rfl (y.add (L.length * 11)) _ (by simp [Act.eval, Act.put]) hld ?_; simp only [Wz.v, wv])
      refine (HFO.out _ (HE.out.keep (HH.out.b.alloc HH.out.b.size _))).mono ?_
      rintro e w2 ⟨⟨X0, X1, X2, X3, rfl, z0, z1, z2, z3⟩, hb⟩
      have T2 := Lib.hid (HH.out.below (((Below.refl _ wr).alloc (Nat.le_refl _) _).trans (hb.mono (by simp))))
      have z2m : w.heap.size ≤ w2.heap.size := T2.out.b.size
      clear hb HH hld HFO
      obtain ⟨Y1, e1⟩ : ∃ Y : ByteArray, Y = X0 ++ ⟨#[32]⟩ := ⟨_, rfl⟩
      obtain ⟨Y2, e2⟩ : ∃ Y : ByteArray, Y = Y1 ++ X1 := ⟨_, rfl⟩
      obtain ⟨Y3, e3⟩ : ∃ Y : ByteArray, Y = Y2 ++ ⟨#[32]⟩ := ⟨_, rfl⟩
      obtain ⟨Y4, e4⟩ : ∃ Y : ByteArray, Y = Y3 ++ X2 := ⟨_, rfl⟩
      obtain ⟨Y5, e5⟩ : ∃ Y : ByteArray, Y = Y4 ++ ⟨#[32]⟩ := ⟨_, rfl⟩
      obtain ⟨Y6, e6⟩ : ∃ Y : ByteArray, Y = Y5 ++ X3 := ⟨_, rfl⟩
      have n1 : Y1.size = X0.size + 1 := by rw [e1, ByteArray.size_append]; rfl
      have n2 : Y2.size = Y1.size + X1.size := by rw [e2, ByteArray.size_append]
      have n3 : Y3.size = Y2.size + 1 := by rw [e3, ByteArray.size_append]; rfl
      have n4 : Y4.size = Y3.size + X2.size := by rw [e4, ByteArray.size_append]
      have n5 : Y5.size = Y4.size + 1 := by rw [e5, ByteArray.size_append]; rfl
      have n6 : Y6.size = Y5.size + X3.size := by rw [e6, ByteArray.size_append]
      have a1 := fun W => sadd2 e1 (by rw [show (⟨#[32]⟩ : ByteArray).size = 1 from rfl]; omega) W
      have a2 := fun W => sadd2 e2 (by omega) W
      have a3 := fun W => sadd2 e3 (by rw [show (⟨#[32]⟩ : ByteArray).size = 1 from rfl]; omega) W
      have a4 := fun W => sadd2 e4 (by omega) W
      have a5 := fun W => sadd2 e5 (by rw [show (⟨#[32]⟩ : ByteArray).size = 1 from rfl]; omega) W
      have a6 := fun W => sadd2 e6 (by omega) W
      have HY := Lib.hid (show Y6.size ≤ maxLen by unfold maxLen; omega)
      clear e1 e2 e3 e4 e5 e6 n1 n2 n3 n4 n5 n6 z0 z1 z2 z3 hxT
      have hl4 : L.length < 1000000 := by omega
      go_wp2_with (at_builtin; refine wpList_append1 Tryz.underlying30 info9 rfl (by omega) _ rfl (.tmp 51) (.tmp 53) rfl w.heap.size _ L.length _ (by simp [Act.eval, Act.put]) ((T2.out.ls.alloc _).alloc _) (w2.heap.size + 1) 1 (.string Y6) (by simp [Act.eval, Act.put]) (by simp) rfl hl4 (by simp; omega) ?_)
      intro g3 cap3 w3 hown hgrow hat hlt
      have T3 := Lib.hid ((T2.out.below (((Below.refl _ w2).alloc (Nat.le_refl _) _).alloc (by simp) _)).more HY.out hown hgrow (by simpa using hat))
      clear hown hgrow hat hlt a1 a2 a3 a4 a5 a6 T2
      have HS := Lib.hid (tS_snoc (rdO le) L Y6)
      have HNB := Lib.hid fun W => nbl_any Y6 W HY.out
      have HLS := Lib.hid fun W => lsl_any Y6 W HY.out
      have HF := Lib.hid T3.out.few
      obtain ⟨p, hp⟩ : ∃ p, (tS (rdO le) (gL L) L.length).2 = p := ⟨_, rfl⟩
      rw [hp] at HS ⊢
      clear hp
      cases le
      · have E1 : rdO false Y6 = nbO Y6 := rfl
        rw [E1] at HS
        clear E1 HLS
        generalize nbO Y6 = R at HS HNB
        obtain ⟨⟨ra, r0, r1, r2, r3, r4, r5, ru⟩, q⟩ := R
        go_wp2_with fail
        refine (HNB.out _).mono ?_
        rintro e w4 ⟨rfl, hb⟩
        have T4 := Lib.hid (T3.out.below hb)
        have z4 : w.heap.size ≤ w4.heap.size := T4.out.b.size
        have T5 := Lib.hid (T4.out.below ((Below.refl _ w4).alloc (Nat.le_refl _) (.cells #[.int .u32 ra, .int .u8 r0, .int .u8 r1, .int .u8 r2, .int .u8 r3, .int .u8 r4, .int .u8 r5, .int .i64 ru] 33)))
        clear hb T3 T4
        simp only [rv]
        rcases p with _ | ⟨i, t⟩
        · have h7 : atO none = -1 := rfl
          have h8 : erO none = 0 := rfl
          rw [h7, h8]
          by_cases hq8 : q = 8
          · subst hq8
            have HS1 := Lib.hid (show tS (rdO false) (gL (L ++ [Y6])) (L.length + 1) = ((tS (rdO false) (gL L) L.length).1, none) by simpa using HS.out)
            go_wp2_with fail
            go_roundg m
            case measure => omega
            case rel =>
              refine ⟨L ++ [Y6], (by have := hL; simp only [List.length_append, List.length_cons, List.length_nil]; omega), (by first | go_num | simp), ?_, ?_, Lib.hid (T5.out.stay (by rw [HS1.out]))⟩
              · rw [List.length_append]; show _ = Value.int .i64 (atO (tS _ _ (L.length + 1)).2); rw [HS1.out]; rfl
              · rw [List.length_append]; show _ = Value.int .i64 (erO (tS _ _ (L.length + 1)).2); rw [HS1.out]; rfl
          · by_cases hq0 : q = 0
            · subst hq0
              have HS1 := Lib.hid (show tS (rdO false) (gL (L ++ [Y6])) (L.length + 1) = ((tS (rdO false) (gL L) L.length).1 ++ [⟨ra, r0, r1, r2, r3, r4, r5, ru⟩], none) by simpa using HS.out)
              have hl6 : (tS (rdO false) (gL L) L.length).1.length < 1000000 := by have := HF.out; omega
              have hrn := row_new (w4.alloc (.cells #[.int .u32 ra, .int .u8 r0, .int .u8 r1, .int .u8 r2, .int .u8 r3, .int .u8 r4, .int .u8 r5, .int .i64 ru] 33)) ⟨ra, r0, r1, r2, r3, r4, r5, ru⟩ 33
              rw [show (w4.alloc (.cells #[.int .u32 ra, .int .u8 r0, .int .u8 r1, .int .u8 r2, .int .u8 r3, .int .u8 r4, .int .u8 r5, .int .i64 ru] 33)).heap.size = w4.heap.size + 1 by simp] at hrn
              go_wp2_with (at_builtin; refine wpList_append8 Tryz.underlying44 info33 _ rfl (.tmp 76) (.tmp 78) rfl w.heap.size _ (tS (rdO false) (gL L) L.length).1.length _ (by simp [Act.eval, Act.put]) (T5.out.want.alloc _) (w4.heap.size + 1) 1 ⟨ra, r0, r1, r2, r3, r4, r5, ru⟩ (by simp [Act.eval, Act.put]) hrn hl6 (by simp; omega) ?_)
              intro g6 cap6 w6 hown hgrow hat hlt
              have T6 := Lib.hid ((T5.out.below ((Below.refl _ _).alloc (Nat.le_refl _) _)).push hown hgrow (by simpa using hat) (by rw [HS1.out]))
              clear hown hgrow hat hlt
              go_wp2_with fail
              go_roundg m
              case measure => omega
              case rel =>
                refine ⟨L ++ [Y6], (by have := hL; simp only [List.length_append, List.length_cons, List.length_nil]; omega), (by first | go_num | simp), ?_, ?_, Lib.hid (T6.out)⟩
                · rw [List.length_append]; show _ = Value.int .i64 (atO (tS _ _ (L.length + 1)).2); rw [HS1.out]; rfl
                · rw [List.length_append]; show _ = Value.int .i64 (erO (tS _ _ (L.length + 1)).2); rw [HS1.out]; rfl
            · have HS1 := Lib.hid (show tS (rdO false) (gL (L ++ [Y6])) (L.length + 1) = ((tS (rdO false) (gL L) L.length).1, some (L.length, q)) by simpa [hq8, hq0] using HS.out)
              go_wp2_with fail
              go_roundg m
              case measure => omega
              case rel =>
                refine ⟨L ++ [Y6], (by have := hL; simp only [List.length_append, List.length_cons, List.length_nil]; omega), (by first | go_num | simp), ?_, ?_, Lib.hid (T5.out.stay (by rw [HS1.out]))⟩
                · rw [List.length_append]; show _ = Value.int .i64 (atO (tS _ _ (L.length + 1)).2); rw [HS1.out]; rfl
                · rw [List.length_append]; show _ = Value.int .i64 (erO (tS _ _ (L.length + 1)).2); rw [HS1.out]; rfl
        · have h7 : atO (some (i, t)) = (i : Int) := rfl
          have h8 : erO (some (i, t)) = t := rfl
          rw [h7, h8]
          have hi0 : (0 : Int) ≤ (i : Int) := by omega
          have hi1 : ¬ ((i : Int) < 0) := by omega
          have HS1 := Lib.hid (show tS (rdO false) (gL (L ++ [Y6])) (L.length + 1) = ((tS (rdO false) (gL L) L.length).1, some (i, t)) by simpa using HS.out)
          go_wp2_with fail
          go_roundg m
          case measure => omega
          case rel =>
            refine ⟨L ++ [Y6], (by have := hL; simp only [List.length_append, List.length_cons, List.length_nil]; omega), (by first | go_num | simp), ?_, ?_, Lib.hid (T5.out.stay (by rw [HS1.out]))⟩
            · rw [List.length_append]; show _ = Value.int .i64 (atO (tS _ _ (L.length + 1)).2); rw [HS1.out]; rfl
            · rw [List.length_append]; show _ = Value.int .i64 (erO (tS _ _ (L.length + 1)).2); rw [HS1.out]; rfl
      · have E1 : rdO true Y6 = lsO Y6 := rfl
        rw [E1] at HS
        clear E1
        generalize lsO Y6 = R at HS HLS
        generalize nbO Y6 = R9 at HNB
        obtain ⟨⟨ra, r0, r1, r2, r3, r4, r5, ru⟩, q⟩ := R
        obtain ⟨⟨sa, s0, s1, s2, s3, s4, s5, su⟩, q9⟩ := R9
        go_wp2_with fail
        refine (HNB.out _).mono ?_
        rintro e w9 ⟨rfl, hb⟩
        have T9 := Lib.hid (T3.out.below hb)
        have z9 : w.heap.size ≤ w9.heap.size := T9.out.b.size
        clear hb T3
        simp only [rv]
        go_wp2_with fail
        refine (HLS.out _).mono ?_
        rintro e w4 ⟨rfl, hb⟩
        obtain ⟨hc4, hf4⟩ := bcell hb
        have z4 : w9.heap.size < w4.heap.size := by have := hb.size; simp at this; omega
        have T5 := Lib.hid (T9.out.below (set8 (w := w9) (((Below.refl _ w9).alloc (Nat.le_refl _) _).trans (hb.mono (by simp))) (Nat.le_refl _) (.int .u32 ra) (.int .u8 r0) (.int .u8 r1) (.int .u8 r2) (.int .u8 r3) (.int .u8 r4) (.int .u8 r5) (.int .i64 ru)))
        clear hb T9
        simp only [rv]
        rcases p with _ | ⟨i, t⟩
        · have h7 : atO none = -1 := rfl
          have h8 : erO none = 0 := rfl
          rw [h7, h8]
          by_cases hq8 : q = 8
          · subst hq8
            have HS1 := Lib.hid (show tS (rdO true) (gL (L ++ [Y6])) (L.length + 1) = ((tS (rdO true) (gL L) L.length).1, none) by simpa using HS.out)
            go_wp2_with fail
            go_roundg m
            case measure => omega
            case rel =>
              refine ⟨L ++ [Y6], (by have := hL; simp only [List.length_append, List.length_cons, List.length_nil]; omega), (by first | go_num | simp), ?_, ?_, Lib.hid (T5.out.stay (by rw [HS1.out]))⟩
              · rw [List.length_append]; show _ = Value.int .i64 (atO (tS _ _ (L.length + 1)).2); rw [HS1.out]; rfl
              · rw [List.length_append]; show _ = Value.int .i64 (erO (tS _ _ (L.length + 1)).2); rw [HS1.out]; rfl
          · by_cases hq0 : q = 0
            · subst hq0
              have HS1 := Lib.hid (show tS (rdO true) (gL (L ++ [Y6])) (L.length + 1) = ((tS (rdO true) (gL L) L.length).1 ++ [⟨ra, r0, r1, r2, r3, r4, r5, ru⟩], none) by simpa using HS.out)
              have hl6 : (tS (rdO true) (gL L) L.length).1.length < 1000000 := by have := HF.out; omega
              have hrn := row_new ((((((((w4.setCell ⟨w9.heap.size, 0, none⟩ (.int .u32 ra)).setCell ⟨w9.heap.size, 1, none⟩ (.int .u8 r0)).setCell ⟨w9.heap.size, 2, none⟩ (.int .u8 r1)).setCell ⟨w9.heap.size, 3, none⟩ (.int .u8 r2)).setCell ⟨w9.heap.size, 4, none⟩ (.int .u8 r3)).setCell ⟨w9.heap.size, 5, none⟩ (.int .u8 r4)).setCell ⟨w9.heap.size, 6, none⟩ (.int .u8 r5)).setCell ⟨w9.heap.size, 7, none⟩ (.int .i64 ru)) ⟨ra, r0, r1, r2, r3, r4, r5, ru⟩ 33
              rw [show (((((((((w4.setCell ⟨w9.heap.size, 0, none⟩ (.int .u32 ra)).setCell ⟨w9.heap.size, 1, none⟩ (.int .u8 r0)).setCell ⟨w9.heap.size, 2, none⟩ (.int .u8 r1)).setCell ⟨w9.heap.size, 3, none⟩ (.int .u8 r2)).setCell ⟨w9.heap.size, 4, none⟩ (.int .u8 r3)).setCell ⟨w9.heap.size, 5, none⟩ (.int .u8 r4)).setCell ⟨w9.heap.size, 6, none⟩ (.int .u8 r5)).setCell ⟨w9.heap.size, 7, none⟩ (.int .i64 ru))).heap.size = w4.heap.size by simp] at hrn
              go_wp2_with (at_builtin; refine wpList_append8 Tryz.underlying44 info33 _ rfl (.tmp 76) (.tmp 78) rfl w.heap.size _ (tS (rdO true) (gL L) L.length).1.length _ (by simp [Act.eval, Act.put]) (T5.out.want.alloc _) w4.heap.size 1 ⟨ra, r0, r1, r2, r3, r4, r5, ru⟩ (by simp [Act.eval, Act.put]) hrn hl6 (by simp; omega) ?_)
              intro g6 cap6 w6 hown hgrow hat hlt
              have T6 := Lib.hid ((T5.out.below ((Below.refl _ _).alloc (Nat.le_refl _) _)).push hown hgrow (by simpa using hat) (by rw [HS1.out]))
              clear hown hgrow hat hlt
              go_wp2_with fail
              go_roundg m
              case measure => omega
              case rel =>
                refine ⟨L ++ [Y6], (by have := hL; simp only [List.length_append, List.length_cons, List.length_nil]; omega), (by first | go_num | simp), ?_, ?_, Lib.hid (T6.out)⟩
                · rw [List.length_append]; show _ = Value.int .i64 (atO (tS _ _ (L.length + 1)).2); rw [HS1.out]; rfl
                · rw [List.length_append]; show _ = Value.int .i64 (erO (tS _ _ (L.length + 1)).2); rw [HS1.out]; rfl
            · have HS1 := Lib.hid (show tS (rdO true) (gL (L ++ [Y6])) (L.length + 1) = ((tS (rdO true) (gL L) L.length).1, some (L.length, q)) by simpa [hq8, hq0] using HS.out)
              go_wp2_with fail
              go_roundg m
              case measure => omega
              case rel =>
                refine ⟨L ++ [Y6], (by have := hL; simp only [List.length_append, List.length_cons, List.length_nil]; omega), (by first | go_num | simp), ?_, ?_, Lib.hid (T5.out.stay (by rw [HS1.out]))⟩
                · rw [List.length_append]; show _ = Value.int .i64 (atO (tS _ _ (L.length + 1)).2); rw [HS1.out]; rfl
                · rw [List.length_append]; show _ = Value.int .i64 (erO (tS _ _ (L.length + 1)).2); rw [HS1.out]; rfl
        · have h7 : atO (some (i, t)) = (i : Int) := rfl
          have h8 : erO (some (i, t)) = t := rfl
          rw [h7, h8]
          have hi0 : (0 : Int) ≤ (i : Int) := by omega
          have hi1 : ¬ ((i : Int) < 0) := by omega
          have HS1 := Lib.hid (show tS (rdO true) (gL (L ++ [Y6])) (L.length + 1) = ((tS (rdO true) (gL L) L.length).1, some (i, t)) by simpa using HS.out)
          go_wp2_with fail
          go_roundg m
          case measure => omega
          case rel =>
            refine ⟨L ++ [Y6], (by have := hL; simp only [List.length_append, List.length_cons, List.length_nil]; omega), (by first | go_num | simp), ?_, ?_, Lib.hid (T5.out.stay (by rw [HS1.out]))⟩
            · rw [List.length_append]; show _ = Value.int .i64 (atO (tS _ _ (L.length + 1)).2); rw [HS1.out]; rfl
            · rw [List.length_append]; show _ = Value.int .i64 (erO (tS _ _ (L.length + 1)).2); rw [HS1.out]; rfl
end Go.Proofs.YthpgmlijfcfddaaGreatDoor
