/-
  The contract of an act's bytes: up to 300 of its own, or zeros, as many as it says. Conditions: the act's numbers have their bits, and its first bytes lie where it says.
-/
import Derived.Test.YtjkfgdeiciligaaDeeds
import Derived.Laws.CopyRow
namespace Go.Proofs.Ytjkfgdeiciligaa
open Go.RowKit

def Zr (n : Nat) : Obj := .cells (madeCells #[.int .u8 0] n) 5
theorem made_eq (n : Nat) : (madeCells #[.int .u8 0] n).toList = cel (List.replicate n 0) := by
  apply List.ext_getElem?
  intro k
  by_cases hk : k < n
  · rw [cel_at (by simpa using hk)]
    simp [madeCells, hk, Nat.mod_one]
  · rw [List.getElem?_eq_none (by simp [madeCells]; omega), List.getElem?_eq_none (by rw [cel_length]; simp; omega)]
theorem run_mk33 (m : Nat) (h : m ≤ 17000) (w : World) : (Instr.makeSlice 33 (.int .i64 (m : Int)) (.int .i64 (m : Int))).run Try.prog w = .ok (.slice (some ⟨w.heap.size, 0, none⟩) m m) (w.alloc (Zr m)) := by
  obtain ⟨i, hi, h0, h1, h2⟩ := info_parts info5
  have := run_make (P := Try.prog) w 33 5 i _ Try.underlying33 hi h0 .i64 .i64 (m : Int) (m : Int) (by omega) (by omega) (by rw [h2]; omega) (by omega)
  rw [h1] at this
  simp only [Int.toNat_natCast] at this
  rw [this]
  simp
  rfl
theorem rd_made (w : World) (n : Nat) (h : n ≤ 17000) : Rd (w.alloc (Zr n)) (some ⟨w.heap.size, 0, none⟩) (List.replicate n 0) := by
  refine ⟨by simp; omega, fun i => ?_, fun k hk => ⟨_, rfl, ?_⟩⟩
  · rw [List.getD_eq_getElem?_getD, List.getElem?_replicate]
    split <;> simp
  · have hb : (w.alloc (Zr n)).heap[w.heap.size]? = some (Zr n) := heap_alloc_new _ _
    have e : (⟨w.heap.size, 0, none⟩ : Addr).add k = ⟨w.heap.size, k, none⟩ := by rw [Addr.add_mid, Nat.zero_add]
    rw [e, cell_of_row _ _ _ _ _ _ hb, ← cel_at hk, ← made_eq, Array.getElem?_toList]
section
variable {ops : Array Oper} {rest : List Oper} {op : Oper} {a : Act} {w : World} {Q : Exit → Act → World → Prop}
theorem at_make33 (m : Nat) (x y : Operand) (hgd : op.guard = none) (ho : op.op = .makeSlice 33 x y) (hx : a.eval x = .int .i64 (m : Int)) (hy : a.eval y = .int .i64 (m : Int)) (hm : m ≤ 17000)
    (h : wpList Try.prog ops Q rest (a.put op.dst (.slice (some ⟨w.heap.size, 0, none⟩) m m)) (w.alloc (Zr m))) : wpList Try.prog ops Q (op :: rest) a w :=
  wpList_plain hgd fun _ hK => by
    unfold Oper.wp execOp
    simp only [ho, hx, hy, Sem.run_bind, Sem.run_pure, Result.andThen_ok, run_mk33 m hm w]
    exact hK _ _ h
end

/-- What an act's bytes are: a row that may be read, and is new, or lies where the act's own bytes lie. -/
def BOut (w : World) (a : Dd) (e : Ending) (w' : World) : Prop :=
  ∃ (A : Option Addr) (c : Nat) (zs : List Nat), e = .returned (.slice A zs.length c) ∧ Rd w' A zs ∧ zs.length ≤ c ∧ zs.length ≤ 17000 ∧ Below w.heap.size w w' ∧ ∀ y, zs ≠ [] → A = some y → (w.heap.size ≤ y.block ∨ (A = a.adr ∧ a.zs ≠ []))

theorem Dd.ok.below {a : Dd} {w w' : World} (h : a.ok w) (hb : Below w.heap.size w w') : a.ok w' := ⟨h.op, h.long, h.cap, h.much, h.few, h.rd.below hb⟩
set_option maxRecDepth 100000 in
theorem bytes_any (a : Dd) (w : World) (h : a.ok w) : Calls Try.prog 12 #[dv a] w (BOut w a) := by
  obtain ⟨hop, hlong, hcap, hmuch, hfew, hrd⟩ := h
  have B0 := Lib.hid ((Below.refl w.heap.size w).alloc (Nat.le_refl _) (OA a))
  unfold dv dc
  by_cases h200 : 200 ≤ a.op
  · obtain ⟨m, hm⟩ : ∃ m, m = a.long % 17000 := ⟨_, rfl⟩
    have EM : (a.long : Int) % 17000 = (m : Int) := by omega
    have hm2 : m ≤ 17000 := by omega
    have F : Hid (BOut w a (.returned (.slice (some ⟨w.heap.size + 1, 0, none⟩) m m)) ((w.alloc (OA a)).alloc (Zr m))) := by
      have hr := rd_made (w.alloc (OA a)) m hm2
      rw [World.size_alloc] at hr
      exact ⟨_, m, List.replicate m 0, by rw [List.length_replicate], hr, by simp, by simpa using hm2, B0.out.alloc (by simp) _, fun y _ hy => .inl (by injection hy with hy; rw [← hy]; show w.heap.size ≤ w.heap.size + 1; omega)⟩
    clear hrd hfew hm
    go_enter Try.func12, Try.ntmps12
    go_wp2_with (refine at_make33 m (.tmp 9) (.tmp 9) ?_ ?_ ?_ ?_ hm2 ?_; (with_reducible rfl); (with_reducible rfl); rfl; rfl)
    go_ret
    exact F.out
  · obtain ⟨x, hx⟩ : ∃ x, x = min a.len 300 := ⟨_, rfl⟩
    have EM : min (a.len : Int) 300 = (x : Int) := by omega
    have hxc : x ≤ a.cap := by omega
    have F : Hid (BOut w a (.returned (.slice a.adr x a.cap)) (w.alloc (OA a))) := by
      have hl : (a.zs.take x).length = x := by rw [List.length_take]; omega
      exact ⟨a.adr, a.cap, a.zs.take x, by rw [hl], (hrd.take x).below B0.out, by omega, by omega, B0.out, fun _ hne _ => .inr ⟨rfl, fun e => hne (by rw [e]; simp)⟩⟩
    clear hrd hfew hx
    go_enter Try.func12, Try.ntmps12
    go_wp2_with fail
    go_ret
    exact F.out
/-- A row of texts grown by one: it is another one's, and of its own. -/
theorem Sr.grow1 {w w' : World} {F : Nat → Prop} {ss : List (List Nat)} {z : List Nat} {N g cap n : Nat} (hb : Below N w w') (hF : ∀ b, F b → b < N) (hg : N ≤ g) (ho : w'.ownsRow 0 9 1 (.slice (some ⟨g, 0, none⟩) (n + 1) cap) (n + 1) (tcl ss ++ [.string (stg z)])) (hn : n = ss.length) (hs : ∀ y ∈ ss, Bs y) (hz : Bs z) : Below N w w' ∧ Sr w' F (.slice (some ⟨g, 0, none⟩) (n + 1) cap) (ss ++ [z]) := by
  refine ⟨hb, ⟨?_, fun y hy => ?_, fun b hb' hf => ?_⟩⟩
  · rw [tcl_append, List.length_append, List.length_singleton, ← hn]
    exact ho
  · rcases List.mem_append.1 hy with h | h
    · exact hs y h
    · obtain rfl : y = z := by simpa using h
      exact hz
  · obtain rfl : g = b := by simpa [Value.ownBlock] using hb'
    have := hF _ hf
    omega

/-- A log that was opened is none of theirs. -/
theorem Sr.open1 {w w' : World} {F F' : Nat → Prop} {v : Value} {ss : List (List Nat)} {q : Nat} {rv : Value} (h : Sr w F v ss) (hs : Step w w' F F') (hq : w.heap.size ≤ q) (hr : ∀ g, rv.ownBlock = some g → w.heap.size ≤ g) : Sr w' (fs F' q rv) v ss := by
  have h1 := h.step hs
  refine ⟨h1.own, h1.byt, fun g hg hf => ?_⟩
  have hlt := h.lt hg
  rcases hf with hf | hf | hf
  · exact h1.away g hg hf
  · omega
  · have := hr g hf; omega

theorem nextcap16 {n : Nat} (h : n < 1000000) : Builtin.nextslicecap (n + 1) n * 16 ≤ 281474976710656 := by
  rcases Nat.eq_zero_or_pos n with rfl | hp
  · rw [nextslicecap_zero (by omega)]; omega
  · have h2 := nextslicecap_succ hp
    omega
/-- Texts alone. -/
def Txt (u : Value) : Prop := ∃ s, u = .string s
/-- A row of texts of the call's own, whose block has texts alone, and lies behind N, in no block of F. -/
structure Tx (N : Nat) (w : World) (F : Nat → Prop) (v : Value) (ss : List (List Nat)) (g cap : Nat) (cur : Array Value) : Prop where
  v : v = .slice (some ⟨g, 0, none⟩) ss.length cap
  hN : N ≤ g
  blk : w.heap[g]? = some (.cells cur 9 (0, 0))
  le : ss.length ≤ cap
  mx : cap ≤ maxLen
  sz : cur.size = cap
  at' : cur.toList.take ss.length = tcl ss
  txt : ∀ u ∈ cur.toList, Txt u
  byt : ∀ z ∈ ss, Bs z
  away : ¬ F g
def Tr (N : Nat) (w : World) (F : Nat → Prop) (v : Value) (ss : List (List Nat)) : Prop := ∃ g cap cur, Tx N w F v ss g cap cur
section
variable {N : Nat} {w w' : World} {F F' : Nat → Prop} {v : Value} {ss : List (List Nat)}
theorem Tx.lt {g cap : Nat} {cur : Array Value} (h : Tx N w F v ss g cap cur) : g < w.heap.size := by
  obtain ⟨hlt, _⟩ := Array.getElem?_eq_some_iff.1 h.blk
  exact hlt
theorem Tr.step (h : Tr N w F v ss) (hs : Step w w' F F') : Tr N w' F' v ss := by
  obtain ⟨g, cap, cur, h⟩ := h
  refine ⟨g, cap, cur, h.v, h.hN, (hs.block g h.lt h.away).trans h.blk, h.le, h.mx, h.sz, h.at', h.txt, h.byt, fun hf => ?_⟩
  rcases hs.foot g hf with e | e
  · exact h.away e
  · have := h.lt; omega
theorem Tr.below (h : Tr N w F v ss) (hb : Below w.heap.size w w') : Tr N w' F v ss := h.step (Step.of_below hb F)
theorem Tr.sr (h : Tr N w F v ss) : Sr w F v ss := by
  obtain ⟨g, cap, cur, h⟩ := h
  obtain ⟨rfl, hN, blk, le, mx, sz, at', txt, byt, away⟩ := h
  refine ⟨⟨by rw [tcl_length, Nat.mul_one], .inr ⟨g, cap, cur, rfl, Nat.zero_le _, blk, le, mx, by rw [sz, Nat.mul_one], by rw [Nat.mul_one]; exact at'⟩⟩, byt, fun g' hg' hf => ?_⟩
  obtain rfl : g = g' := by simpa [Value.ownBlock] using hg'
  exact away hf
theorem Tr.new (w : World) (F : Nat → Prop) (N : Nat) (hN : N ≤ w.heap.size) (z : List Nat) (hz : Bs z) (hF : ∀ b, F b → b < w.heap.size) : Tr N (w.alloc (.cells #[.string (stg z)] 9)) F (.slice (some ⟨w.heap.size, 0, none⟩) 1 1) [z] := by
  refine ⟨w.heap.size, 1, #[.string (stg z)], rfl, hN, heap_alloc_new w _, Nat.le_refl _, by unfold maxLen; omega, rfl, rfl, fun u hu => ?_, fun y hy => ?_, fun hf => by have := hF _ hf; omega⟩
  · obtain rfl : u = .string (stg z) := by simpa using hu
    exact ⟨_, rfl⟩
  · obtain rfl : y = z := by simpa using hy
    exact hz
theorem Tr.foot (h : Tr N w F v ss) {F' : Nat → Prop} (hF : ∀ g, v.ownBlock = some g → ¬ F' g) : Tr N w F' v ss := by
  obtain ⟨g, cap, cur, h⟩ := h
  exact ⟨g, cap, cur, h.v, h.hN, h.blk, h.le, h.mx, h.sz, h.at', h.txt, h.byt, hF g (by rw [h.v]; rfl)⟩
/-- One more text. -/
theorem Tr.push (h : Tr N w F v ss) (hF : ∀ b, F b → b < w.heap.size) (z : List Nat) (hz : Bs z) (hl : ss.length < 1000000) (hN : N ≤ w.heap.size) (ty : TypeId) (b c : Nat) (hr : w.cell? ⟨b, 0, none⟩ = some (.string (stg z))) :
    ∃ g3 cap3 w', (Builtin.append_ #[32, 32] ty #[v, .slice (some ⟨b, 0, none⟩) 1 c]).run Try.prog w = .ok (.slice (some ⟨g3, 0, none⟩) (ss.length + 1) cap3) w' ∧ Tr N w' F (.slice (some ⟨g3, 0, none⟩) (ss.length + 1) cap3) (ss ++ [z]) ∧
      ∃ g, N ≤ g ∧ ¬ F g ∧ w.grownBy w' (some g) ∧ ∀ (y : Addr) u, y.block = g → w.cell? y = some u → Txt u := by
  obtain ⟨g, cap, cur, h⟩ := h
  obtain ⟨rfl, hNg, blk, le, mx, sz, at', txt, byt, away⟩ := h
  obtain ⟨i, hi, hz0, hz1, hz2⟩ := info_parts info9
  have hnews : ∀ j u, [Value.string (stg z)][j]? = some u → w.cell? ((⟨b, 0, none⟩ : Addr).add j) = some u := fun j x hx => by
    rw [Addr.add_mid]
    match j with
    | 0 => simp at hx; subst hx; exact hr
    | j + 1 => simp at hx
  have hcell : ∀ (y : Addr) u, y.block = g → w.cell? y = some u → Txt u := fun y u hy hu => by
    unfold World.cell? at hu
    rw [hy, blk] at hu
    simp only at hu
    split at hu
    · cases hu
    · exact txt u (Array.mem_toList_iff.2 (Array.mem_of_getElem? hu))
  have hbyt : ∀ y ∈ ss ++ [z], Bs y := fun y hy => by
    rcases List.mem_append.1 hy with h | h
    · exact byt y h
    · obtain rfl : y = z := by simpa using h
      exact hz
  by_cases hroom : ss.length + 1 ≤ cap
  · have hr := run_append_room (P := Try.prog) w 32 ty 9 i Try.underlying32 hi g ss.length cap cur blk ⟨b, 0, none⟩ 1 c [.string (stg z)] (by rw [hz1]; rfl) hnews (by simp [Value.oneCell']) hroom (by rw [hz1, sz]; simpa using hroom)
    rw [hz1] at hr
    simp only [Nat.mul_one, List.length_singleton] at hr
    refine ⟨g, cap, _, hr, ⟨g, cap, _, by rw [List.length_append, List.length_singleton], hNg, setRow_heap w g cur _ 9 _ blk, by simpa using hroom, mx, ?_, ?_, ?_, hbyt, away⟩, g, hNg, away, ⟨rfl, rfl, rfl, by simp, fun k _ hk => setRow_other w g k _ (fun e => hk (by rw [e]))⟩, hcell⟩
    · simp only [List.size_toArray, List.length_append, List.length_take, List.length_drop, Array.length_toList, List.length_singleton]
      omega
    · rw [at', tcl_append, List.length_append, List.length_singleton]
      have : (tcl ss ++ [Value.string (stg z)]).length = ss.length + 1 := by rw [List.length_append, tcl_length]; rfl
      rw [← this]
      exact List.take_left
    · intro u hu
      simp only [List.mem_append, List.mem_singleton] at hu
      rcases hu with (hu | hu) | hu
      · exact txt u (List.mem_of_mem_take hu)
      · exact ⟨_, hu⟩
      · exact txt u (List.mem_of_mem_drop hu)
  · have hcap : cap = ss.length := by omega
    subst hcap
    have hr := run_append_grow (P := Try.prog) w 32 ty 9 i _ Try.underlying32 hi hz0 ⟨g, 0, none⟩ ss.length ss.length (tcl ss) (by rw [hz1, tcl_length, Nat.mul_one]) (fun j x hx => by
      rw [Addr.add_mid, Nat.zero_add, cell_of_row _ _ _ _ _ _ blk, ← hx, ← at', List.getElem?_take]
      have hj : j < ss.length := by have := (List.getElem?_eq_some_iff.1 hx).1; rwa [tcl_length] at this
      rw [if_pos hj, Array.getElem?_toList]) ⟨b, 0, none⟩ 1 c [.string (stg z)] (by rw [hz1]; rfl) hnews (by omega) (by omega) (by
        rw [hz2]
        have h2 : Builtin.nextslicecap (ss.length + 1) ss.length * 16 ≤ 281474976710656 := nextcap16 hl
        exact h2)
    have hge := grownCap_ge w (ss.length + 1) ss.length 9
    have hcm := grownCap_le_maxLen w (ss.length + 1) ss.length 9 (by unfold maxLen; omega)
    refine ⟨w.heap.size, _, _, hr, ⟨w.heap.size, _, _, by rw [List.length_append, List.length_singleton], hN, heap_alloc_new w.drew _, by rw [List.length_append, List.length_singleton]; exact hge, hcm, ?_, ?_, ?_, hbyt, fun hf => by have := hF _ hf; omega⟩, g, hNg, away, ⟨rfl, rfl, rfl, by simp, fun k hk _ => Below.heap_alloc w.drew _ k hk⟩, hcell⟩
    · simp only [Array.size_append, List.size_toArray, size_zeroCells, tcl_length, List.length_singleton]
      show ss.length + 1 + (grownCap w (ss.length + 1) ss.length 9 - (ss.length + 1)) * 1 = _
      omega
    · rw [tcl_append, List.length_append, List.length_singleton]
      simp only [Array.toList_append, List.append_assoc]
      have : (tcl ss ++ [Value.string (stg z)]).length = ss.length + 1 := by rw [List.length_append, tcl_length]; rfl
      rw [← this, ← List.append_assoc]
      exact List.take_left
    · intro u hu
      simp only [Array.toList_append, List.mem_append, List.mem_singleton] at hu
      rcases hu with (hu | hu) | hu
      · obtain ⟨y, _, rfl⟩ := List.mem_map.1 hu
        exact ⟨_, rfl⟩
      · exact ⟨_, hu⟩
      · simp only [Builtin.zeroCells, Array.toList_map, List.mem_map] at hu
        obtain ⟨j, _, rfl⟩ := hu
        exact ⟨⟨#[]⟩, by simp [Value.cells, Nat.mod_one]⟩
end
/-- A log that was opened is none of theirs. -/
theorem Tr.opened {N : Nat} {w w' : World} {F F' : Nat → Prop} {v : Value} {ss : List (List Nat)} {q0 q : Nat} {rv0 rv : Value} (h : Tr N w (fs F q0 rv0) v ss) (hs : Step w w' F F') (hq : w.heap.size ≤ q) (hr : ∀ g, rv.ownBlock = some g → w.heap.size ≤ g) : Tr N w' (fs F' q rv) v ss := by
  obtain ⟨g, cap, cur, h⟩ := h
  have hlt := h.lt
  refine ⟨g, cap, cur, h.v, h.hN, (hs.block g hlt (fun e => h.away (.inl e))).trans h.blk, h.le, h.mx, h.sz, h.at', h.txt, h.byt, fun hf => ?_⟩
  rcases hf with hf | hf | hf
  · rcases hs.foot g hf with e | e
    · exact h.away (.inl e)
    · omega
  · omega
  · have := hr g hf; omega
/-- A log stays where a row of texts is grown. -/
theorem Ls.texts {w w' : World} {p q g : Nat} {rv : Value} {L : Lk} {F : Nat → Prop} (h : Ls w p q rv L F) (hg : w.grownBy w' (some g)) (hn : ¬ fs F q rv g) (ht : ∀ (y : Addr) u, y.block = g → w.cell? y = some u → Txt u) : Ls w' p q rv L F := by
  have hblk : ∀ b, b < w.heap.size → b ≠ g → w'.heap[b]? = w.heap[b]? := fun b hb hne => hg.block b hb (fun e => hne (Option.some.inj e))
  obtain ⟨vs, ho, hv⟩ := h.recs
  refine ⟨(hblk q h.qlt (fun e => hn (.inr (.inl e.symm)))).trans h.blk, ⟨vs, ownsRow_of_block ho (fun g' hg' => hblk g' (ho.lt g' hg').2 (fun e => hn (.inr (.inr (by rw [hg', e]))))), fun i zs hi => ?_⟩, h.nq, h.nr⟩
  obtain ⟨v, hvi, A, c, rfl, hr, hx⟩ := hv i zs hi
  refine ⟨_, hvi, A, c, rfl, ⟨hr.1, hr.2.1, fun k hk => ?_⟩, fun x hA => ⟨Nat.lt_of_lt_of_le (hx x hA).1 hg.size, (hx x hA).2⟩⟩
  obtain ⟨x, hA, hc⟩ := hr.2.2 k hk
  refine ⟨x, hA, ?_⟩
  have hbx : (x.add k).block = x.block := by unfold Addr.add; split <;> rfl
  by_cases hxg : x.block = g
  · exfalso
    obtain ⟨s, hs⟩ := ht _ _ (hbx.trans hxg) hc
    cases hs
  · rw [World.cell?_of_block (hblk _ (by rw [hbx]; exact (hx x hA).1) (by rw [hbx]; exact hxg))]
    exact hc
set_option maxRecDepth 100000 in
theorem add_calls {a b i : Nat} (h : b ≤ a + 1000) (g : a ≤ 2000 + 1000 * i) : b ≤ 2000 + 1000 * (i + 1) := by omega
/-- What there is ahead of a deed of a script: the disk, the log, and the account: a row of texts. -/
structure Wt (N : Nat) (w0 w : World) (p k : Nat) (pv : Value) (M : Dk) (q : Nat) (rv : Value) (L : Lk) (v : Value) (rs : List (List Nat)) (n i : Nat) : Prop where
  at' : At N w0 w p k pv M q rv L
  sys : Sys M L
  sr : Tr N w (fs (ft p k pv) q rv) v rs
  n : M.n = n
  stop : M.stop = none
  fail : M.fail = none
  calls : M.calls ≤ 2000 + 1000 * i
  turn : L.turn ≤ 1 + i
section
variable {N : Nat} {w0 w w' : World} {p k : Nat} {pv : Value} {M : Dk} {q : Nat} {rv : Value} {L : Lk} {v : Value} {rs : List (List Nat)} {n i : Nat}
theorem Wt.below (h : Wt N w0 w p k pv M q rv L v rs n i) (hN : N ≤ w0.heap.size) (hb : Below w.heap.size w w') : Wt N w0 w' p k pv M q rv L v rs n i :=
  ⟨h.at'.below hN hb, h.sys, h.sr.below hb, h.n, h.stop, h.fail, h.calls, h.turn⟩
theorem Wt.drawn (h : Wt N w0 w p k pv M q rv L v rs n i) (hN : N ≤ w0.heap.size) : Wt N w0 w.drew p k pv M q rv L v rs n i := h.below hN (Below.refl _ _).drew
theorem Wt.set (h : Wt N w0 w p k pv M q rv L v rs n i) {v' : Value} {rs' : List (List Nat)} (hs : Tr N w (fs (ft p k pv) q rv) v' rs') : Wt N w0 w p k pv M q rv L v' rs' n i := ⟨h.at', h.sys, hs, h.n, h.stop, h.fail, h.calls, h.turn⟩
/-- Nothing came of it. -/
theorem Wt.same (h : Wt N w0 w p k pv M q rv L v rs n i) {pv' rv' : Value} (a : At N w0 w' p k pv' M q rv' L) (s : Step w w' (fs (ft p k pv) q rv) (fs (ft p k pv') q rv')) : Wt N w0 w' p k pv' M q rv' L v rs n (i + 1) :=
  ⟨a, h.sys, h.sr.step s, h.n, h.stop, h.fail, by have := h.calls; omega, by have := h.turn; omega⟩
/-- It was done. -/
theorem Wt.new (h : Wt N w0 w p k pv M q rv L v rs n i) {pv' rv' : Value} {M' : Dk} {L' : Lk} (a : At N w0 w' p k pv' M' q rv' L') (s : Step w w' (fs (ft p k pv) q rv) (fs (ft p k pv') q rv')) (sy : Sys M' L') (kp : Kp M M') (ht : L'.turn ≤ L.turn + 1) : Wt N w0 w' p k pv' M' q rv' L' v rs n (i + 1) :=
  ⟨a, sy, h.sr.step s, kp.n.trans h.n, kp.stop h.stop, kp.fail h.fail, add_calls kp.calls h.calls, by have := h.turn; omega⟩
/-- It was opened anew. -/
theorem Wt.opened (h : Wt N w0 w p k pv M q rv L v rs n i) {pv' rv' : Value} {q' : Nat} {M' : Dk} (a : At N w0 w' p k pv' M' q' rv' L) (s : Sys M' L) (kp : Kp M M') (st : Step w w' (ft p k pv) (ft p k pv')) (hq : w.heap.size ≤ q') (hr : ∀ g, rv'.ownBlock = some g → w.heap.size ≤ g) :
    Wt N w0 w' p k pv' M' q' rv' L v rs n (i + 1) :=
  ⟨a, s, h.sr.opened st hq hr, kp.n.trans h.n, kp.stop h.stop, kp.fail h.fail, add_calls kp.calls h.calls, by have := h.turn; omega⟩

theorem open_calm (h : Wt N w0 w p k pv M q rv L v rs n i) (hN : N ≤ w0.heap.size) (hn : n ≤ 512) (hi : i ≤ 60) :
    Calls Try.prog 10 #[.pointer (some ⟨p, 0, none⟩)] w fun e w' => ∃ q' pv' rv' M', e = .returned (.tuple #[.pointer (some ⟨q', 0, none⟩), .int .i64 0]) ∧ Wt N w0 w' p k pv' M' q' rv' L v rs n (i + 1) := by
  have h1 := h.n
  have h2 := h.turn
  have h3 := h.calls
  refine (open_at (h.at'.ad hN) h.sys.down h.sys.pend (L := L) h.sys.half (by omega) h.sys.gd.toWG h.sys.ok h.sys.byt (by omega) (by omega)).mono ?_
  rintro e w' (⟨q2, pv2, rv2, M2, rfl, a5, s5, k5, st5, hq5, hr5⟩ | ⟨pv2, er2, M2, her2, rfl, a5, s5, st5⟩)
  · exact ⟨q2, pv2, rv2, M2, rfl, h.opened a5 s5 k5 st5 hq5 hr5⟩
  · have := s5.stop h.stop
    have := s5.fail h.fail
    rcases s5.err with ⟨h, _⟩ | ⟨h, _⟩ <;> omega

/-- What Append and Begin leave that tell an error: all is as it was. -/
def Err (N : Nat) (w0 : World) (p k : Nat) (M : Dk) (q : Nat) (L : Lk) (v : Value) (rs : List (List Nat)) (n i : Nat) (r : Int) (e : Ending) (w' : World) : Prop :=
  e = .returned (.int .i64 r) ∧ ∃ pv' rv', Wt N w0 w' p k pv' M q rv' L v rs n (i + 1)
/-- What they leave that tell none. -/
def Did (N : Nat) (w0 : World) (p k : Nat) (q : Nat) (L' : Lk) (v : Value) (rs : List (List Nat)) (n i : Nat) (A : Option Addr) (zs : List Nat) (e : Ending) (w' : World) : Prop :=
  e = .returned (.int .i64 0) ∧ ∃ pv' rv' M', Wt N w0 w' p k pv' M' q rv' L' v rs n (i + 1) ∧ Rd w' A zs
section
variable (A : Option Addr) (zs : List Nat) (c : Nat)
theorem append_err (h : Wt N w0 w p k pv M q rv L v rs n i) (hN : N ≤ w0.heap.size) (hn : n ≤ 512) (hi : i ≤ 60) (hr : Rd w A zs) (hA : ∀ x, zs ≠ [] → A = some x → ¬ fs (ft p k pv) q rv x.block) (hzc : zs.length ≤ c) (hl : zs.length ≤ 17000) {r : Int} (he : rf6 L zs.length ((L.size : Int) - (L.fin : Int)) = r) (h0 : r ≠ 0) :
    Calls Try.prog 15 #[.pointer (some ⟨q, 0, none⟩), .slice A zs.length c] w (Err N w0 p k M q L v rs n i r) := by
  have h1 := h.n
  have h3 := h.calls
  have hno : apd L M zs = (r, L, M) := by rw [apd, if_neg (by rw [he]; exact h0), he]
  have := append_at A zs c h.at' hN (h.sys.small (by omega)) hr hA hzc (by omega) (by omega)
  rw [hno] at this
  exact this.mono fun e w' ⟨e1, pv', rv', a, s⟩ => ⟨e1, pv', rv', h.same a s⟩
theorem append_did (h : Wt N w0 w p k pv M q rv L v rs n i) (hN : N ≤ w0.heap.size) (hn : n ≤ 512) (hi : i ≤ 60) (hr : Rd w A zs) (hA : ∀ x, zs ≠ [] → A = some x → ¬ fs (ft p k pv) q rv x.block) (hzc : zs.length ≤ c) (hl : zs.length ≤ 17000) (he : rf6 L zs.length ((L.size : Int) - (L.fin : Int)) = 0) :
    Calls Try.prog 15 #[.pointer (some ⟨q, 0, none⟩), .slice A zs.length c] w (Did N w0 p k q (L.more zs) v rs n i A zs) := by
  have h1 := h.n
  have h3 := h.calls
  have := append_at A zs c h.at' hN (h.sys.small (by omega)) hr hA hzc (by omega) (by omega)
  obtain ⟨e0, l0, s0, k0⟩ := (apd_done h.sys (by omega) hr.2.1).calm h.stop h.fail he
  rw [e0, l0] at this
  exact this.mono fun e w' ⟨e1, pv', rv', a, s⟩ => ⟨e1, pv', rv', _, h.new a s s0 k0 (by show L.turn ≤ _; omega), hr.step s hA⟩
theorem begin_err (h : Wt N w0 w p k pv M q rv L v rs n i) (hN : N ≤ w0.heap.size) (hn : n ≤ 512) (hi : i ≤ 60) (hr : Rd w A zs) (hA : ∀ x, zs ≠ [] → A = some x → ¬ fs (ft p k pv) q rv x.block) (hzc : zs.length ≤ c) (hl : zs.length ≤ 17000) {r : Int} (he : rf6 L zs.length ((L.size : Int) - 1) = r) (h0 : r ≠ 0) :
    Calls Try.prog 13 #[.pointer (some ⟨q, 0, none⟩), .slice A zs.length c] w (Err N w0 p k M q L v rs n i r) := by
  have h1 := h.n
  have h2 := h.turn
  have h3 := h.calls
  have hno : bgn L M zs = (r, L, M) := by rw [bgn, if_neg (by rw [he]; exact h0), he]
  have := begin_at A zs c h.at' hN (h.sys.small (by omega)) (by omega) hr hA hzc (by omega) (by omega)
  rw [hno] at this
  exact this.mono fun e w' ⟨e1, pv', rv', a, s⟩ => ⟨e1, pv', rv', h.same a s⟩
theorem begin_did (h : Wt N w0 w p k pv M q rv L v rs n i) (hN : N ≤ w0.heap.size) (hn : n ≤ 512) (hi : i ≤ 60) (hr : Rd w A zs) (hA : ∀ x, zs ≠ [] → A = some x → ¬ fs (ft p k pv) q rv x.block) (hzc : zs.length ≤ c) (hl : zs.length ≤ 17000) (he : rf6 L zs.length ((L.size : Int) - 1) = 0) :
    Calls Try.prog 13 #[.pointer (some ⟨q, 0, none⟩), .slice A zs.length c] w (Did N w0 p k q (L.next zs) v rs n i A zs) := by
  have h1 := h.n
  have h2 := h.turn
  have h3 := h.calls
  have := begin_at A zs c h.at' hN (h.sys.small (by omega)) (by omega) hr hA hzc (by omega) (by omega)
  obtain ⟨e0, l0, s0, k0⟩ := (bgn_done h.sys (by omega) (by omega) hr.2.1).calm h.stop h.fail he
  rw [e0, l0] at this
  exact this.mono fun e w' ⟨e1, pv', rv', a, s⟩ => ⟨e1, pv', rv', _, h.new a s s0 k0 (by show L.turn + 1 ≤ _; omega), hr.step s hA⟩
end
theorem shows_yes {F' : Nat → Prop} (A : Option Addr) (ss : List (List Nat)) (c : Nat) (t : Int) (h : Ls w p q rv L F') (hl : L.recs.length ≤ 1000) (hs : Strs w A ss) (h1 : L.recs = ss) (h2 : (L.turn : Int) = t) :
    Calls Try.prog 11 #[.pointer (some ⟨q, 0, none⟩), .slice A ss.length c, .int .i64 t] w fun e w' => e = .returned (.bool true) ∧ Below w.heap.size w w' := by
  have := shows_any A ss c t h hl hs (by rw [← h1]; exact hl)
  rwa [show decide (L.recs = ss ∧ (L.turn : Int) = t) = true from decide_eq_true ⟨h1, h2⟩] at this
/-- A text is put behind the account. -/
theorem Wt.push (h : Wt N w0 w p k pv M q rv L v rs n i) (hN : N ≤ w0.heap.size) (z : List Nat) (hz : Bs z) (hl : rs.length < 1000000) (ty : TypeId) (b c : Nat) (hr : w.cell? ⟨b, 0, none⟩ = some (.string (stg z))) :
    ∃ g3 cap3 w', (Builtin.append_ #[32, 32] ty #[v, .slice (some ⟨b, 0, none⟩) 1 c]).run Try.prog w = .ok (.slice (some ⟨g3, 0, none⟩) (rs.length + 1) cap3) w' ∧ Wt N w0 w' p k pv M q rv L (.slice (some ⟨g3, 0, none⟩) (rs.length + 1) cap3) (rs ++ [z]) n i := by
  have hNw : N ≤ w.heap.size := Nat.le_trans hN h.at'.b.size
  obtain ⟨g3, cap3, w', hrun, ht, g, hNg, hng, hgr, hc⟩ := h.sr.push (fun b hb => h.at'.lt hb) z hz hl hNw ty b c hr
  refine ⟨g3, cap3, w', hrun, ⟨⟨h.at'.d.grown hgr (fun b hb hf => hng (.inl (by rwa [Option.some.inj hb]))), h.at'.l.texts hgr hng hc, h.at'.b.grown hgr hNw (fun k hk => by rw [← Option.some.inj hk]; exact hNg), h.at'.new⟩, h.sys, ht, h.n, h.stop, h.fail, h.calls, h.turn⟩⟩
theorem at_texts {ops : Array Oper} {rest : List Oper} {op : Oper} {a : Act} {Q : Exit → Act → World → Prop} (h : Wt N w0 w p k pv M q rv L v rs n i) (hN : N ≤ w0.heap.size) (z : List Nat) (hz : Bs z) (hl : rs.length < 1000000) (b c : Nat) (hr : w.cell? ⟨b, 0, none⟩ = some (.string (stg z)))
    (x y : Operand) (hgd : op.guard = none) (ho : op.op = .call { callee := .builtin .append, args := #[x, y], argTypes := #[32, 32] }) (hx : a.eval x = v) (hy : a.eval y = .slice (some ⟨b, 0, none⟩) 1 c)
    (hK : ∀ g3 cap3 w', Hid (Wt N w0 w' p k pv M q rv L (.slice (some ⟨g3, 0, none⟩) (rs.length + 1) cap3) (rs ++ [z]) n i) → wpList Try.prog ops Q rest (a.put op.dst (.slice (some ⟨g3, 0, none⟩) (rs.length + 1) cap3)) w') : wpList Try.prog ops Q (op :: rest) a w := by
  refine wpList_plain hgd fun K hk => ?_
  obtain ⟨g3, cap3, w', hrun, hw⟩ := h.push hN z hz hl op.type b c hr
  unfold Oper.wp execOp
  simp only [ho, resolve, invoke, builtin, Sem.run_bind, Sem.run_pure, Result.andThen_ok, List.map_toArray, List.map_cons, List.map_nil, hx, hy, hrun]
  exact hk _ _ (hK g3 cap3 w' hw)
end
end Go.Proofs.Ytjkfgdeiciligaa
