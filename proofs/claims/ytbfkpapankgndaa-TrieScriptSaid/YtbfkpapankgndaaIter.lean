/-
  The iterator over a trie's prefixes that overlap one: what it hands on, in order, to whatever loop body keeps what is not its own. Conditions: addresses are numbers of 32 bits.
-/
import Derived.Test.YtbfkpapankgndaaWalk
namespace Go.Proofs.Ytbfkpapankgndaa
open Go.RowKit

attribute [local go_sem] Oper.semAt_some

theorem walk_any (l b1 b2 N : Nat) (J Jx : List (Int × Int) → World → Prop) (jb : ∀ s A B, J s A → Below A.heap.size A B → J s B) (hY : Rounds l b1 b2 N J Jx) (x b : Int) (Bb Y V : Nat) (hx0 : 0 ≤ x) (hx1 : x < 4294967296) :
    ∀ (n : Nat) (a : Int) (U : Tr) (pre : List (Int × Int)) (W : World), n ≤ 32 → a % 2 ^ n = 0 → 0 ≤ a → a + 2 ^ n ≤ 4294967296 → Wf n U → Wi l b1 b2 x b Bb Y V W U → J pre W → pre.length + (ovl x b n a U).length ≤ N →
      CallsIn Fence.wide 0 Try.prog 34 #[U.ptr, .agg #[.int .u32 a, .int .i64 (32 - (n : Int))], .pointer (some ⟨Bb, 0, none⟩), .pointer (some ⟨Y, 0, none⟩), .pointer (some ⟨V, 0, none⟩)] W (Walked b1 b2 J Jx pre (ovl x b n a U) W)
  | n, a, .e, pre, W, _, _, _, _, _, hW, hJ, _ => by
    rw [ovl_e]
    exact walk_e b1 b2 J Jx jb a _ _ _ _ pre W hW.b1lt hJ
  | 0, a, .nd bn k tl tr, pre, W, hn, ha, h0, h1, hw, hW, hJ, hN => by
    obtain ⟨rfl, rfl⟩ := hw
    have ha1 : a < 4294967296 := by simp at h1; omega
    cases hov : overB a (32 - ((0 : Nat) : Int)) x b
    · rw [ovl_off hn ha hov]
      exact walk_off l b1 b2 J Jx jb x b a _ Bb Y V _ bn pre W h0 ha1 hx0 hx1 hW hJ hov
    · have e32 : (32 : Int) - ((0 : Nat) : Int) = 32 := by omega
      rw [e32] at hov ⊢
      have eo := ovl_leaf (bk := bn) (k := k) (l := .e) (r := .e) hov
      rw [show (if k = true then [(a, (32 : Int))] else []) = (if k = true then [(a, (32 : Int))] else []) ++ ([] ++ []) by simp] at eo
      rw [eo] at hN ⊢
      exact walk_on l b1 b2 N J Jx jb hY x b a 32 0 0 0 0 false Bb Y V bn k .e .e [] [] pre W h0 ha1 hx0 hx1 hW hJ hov hN (fun W => halves_no a 32 W h0 ha1 (by simp [halvesB]))
        (fun p' W' hw' hj' _ => walk_e b1 b2 J Jx jb 0 0 _ _ _ p' W' hw'.b1lt hj') (fun p' W' hw' hj' _ => walk_e b1 b2 J Jx jb 0 0 _ _ _ p' W' hw'.b1lt hj')
  | n + 1, a, .nd bn k tl tr, pre, W, hn, ha, h0, h1, hw, hW, hJ, hN => by
    have hp := two_pos n
    have h2 := two_succ n
    have hal : a % 2 ^ n = 0 := Int.emod_eq_zero_of_dvd (Int.dvd_trans (two_dvd (Nat.le_succ n)) (Int.dvd_of_emod_eq_zero ha))
    have har : (a + 2 ^ n) % 2 ^ n = 0 := by rw [Int.add_emod_right]; exact hal
    have ha1 : a < 4294967296 := by omega
    cases hov : overB a (32 - ((n + 1 : Nat) : Int)) x b
    · rw [ovl_off hn ha hov]
      exact walk_off l b1 b2 J Jx jb x b a _ Bb Y V _ bn pre W h0 ha1 hx0 hx1 hW hJ hov
    · have e31 : (32 : Int) - ((n + 1 : Nat) : Int) = 31 - (n : Int) := by omega
      rw [e31] at hov ⊢
      have eo := ovl_node (bk := bn) (k := k) (l := tl) (r := tr) hov
      rw [eo] at hN ⊢
      have hok : okB a (31 - (n : Int)) = true := ok_iff.2 ⟨by omega, by omega, by rw [p2_two (m := n + 1) (by omega)]; exact ha⟩
      have hh : ∀ W, Calls Try.prog 22 #[.agg #[.int .u32 a, .int .i64 (31 - (n : Int))]] W fun e w' => e = .returned (.tuple #[.agg #[.int .u32 a, .int .i64 (32 - (n : Int))], .agg #[.int .u32 (a + 2 ^ n), .int .i64 (32 - (n : Int))], .bool true]) ∧ Below W.heap.size W w' := fun W => by
        have := halves_yes a (31 - (n : Int)) W h0 ha1 (by simp [halvesB, hok]; omega)
        rw [show 31 - (n : Int) + 1 = 32 - (n : Int) by omega, p2_two (m := n) rfl] at this
        exact this
      exact walk_on l b1 b2 N J Jx jb hY x b a _ a (32 - (n : Int)) (a + 2 ^ n) (32 - (n : Int)) true Bb Y V bn k tl tr _ _ pre W h0 ha1 hx0 hx1 hW hJ hov hN hh
        (fun p' W' hw' hj' hl => walk_any l b1 b2 N J Jx jb hY x b Bb Y V hx0 hx1 n a tl p' W' (by omega) hal h0 (by omega) hw.1 hw' hj' hl)
        (fun p' W' hw' hj' hl => walk_any l b1 b2 N J Jx jb hY x b Bb Y V hx0 hx1 n (a + 2 ^ n) tr p' W' (by omega) har (by omega) (by omega) hw.2 hw' hj' hl)

theorem vnil_at (W : World) (o1 : Obj) : ((W.alloc o1).alloc (.cells #[.nilFunc] 67)).heap[W.heap.size + 1]? = some (.cells #[.nilFunc] 67 (0, 0)) := by
  have := World.alloc_heap_new (W.alloc o1) (.cells #[.nilFunc] 67)
  rwa [World.size_alloc] at this
set_option maxRecDepth 100000 in
/-- The iterator's value. -/
theorem over_stops (b1 b2 p Bb Bt : Nat) (x b : Int) (T : Tr) (w : World) (hx0 : 0 ≤ x) (hx1 : x < 4294967296) (hT : Td w p T) (hBb : w.heap[Bb]? = some (.cells #[.int .u32 x, .int .i64 b] 32 (0, 0))) (hBt : w.heap[Bt]? = some (.cells #[.pointer (some ⟨p, 0, none⟩)] 24 (0, 0)))
    (vb : ∀ c, Vx b1 b2 w c → c < w.heap.size) (fb : ¬ Vx b1 b2 w Bb) (fu : ∀ c, fp p T c → ¬ Vx b1 b2 w c) :
    SeqStopsK Fence.wide 0 Try.prog 33 #[.pointer (some ⟨Bb, 0, none⟩), .pointer (some ⟨Bt, 0, none⟩)] (fun y : Int × Int => #[bv y]) (Kv b1 b2) (fun ys => ys = ovl x b 32 0 T) (fun q => q <+: ovl x b 32 0 T) (ovl x b 32 0 T).length w := by
  intro l J Jx W hW hJ _ hY h0
  have jb : ∀ s A B, J s A → Below A.heap.size A B → J s B := fun s A B hj hb => hJ s A B none hj ⟨hb.os, hb.tape, hb.output, hb.size, fun k hk _ => hb.block k hk⟩ (fun r e => by cases e)
  have hb1 : b1 < w.heap.size := vb b1 (.inl rfl)
  have hv := vnil_at W (.cells #[.func (.yield l) #[] #[]] 36)
  have v0 : ((W.alloc (.cells #[.func (.yield l) #[] #[]] 36)).alloc (.cells #[.nilFunc] 67)).cell? ⟨W.heap.size + 1, 0, none⟩ = some .nilFunc := by
    unfold World.cell?
    rw [show (⟨W.heap.size + 1, 0, none⟩ : Addr).block = W.heap.size + 1 from rfl, hv]
    rfl
  have v1 : ((W.alloc (.cells #[.func (.yield l) #[] #[]] 36)).alloc (.cells #[.nilFunc] 67)).frozen? ⟨W.heap.size + 1, 0, none⟩ = false := by
    unfold World.frozen?
    rw [show (⟨W.heap.size + 1, 0, none⟩ : Addr).block = W.heap.size + 1 from rfl, hv]
    rfl
  obtain ⟨W1, hW1⟩ : ∃ W1, ((W.alloc (.cells #[.func (.yield l) #[] #[]] 36)).alloc (.cells #[.nilFunc] 67)).setCell ⟨W.heap.size + 1, 0, none⟩ (.func (.func 34) #[] #[.pointer (some ⟨Bb, 0, none⟩), .pointer (some ⟨W.heap.size, 0, none⟩), .pointer (some ⟨W.heap.size + 1, 0, none⟩)]) = W1 := ⟨_, rfl⟩
  have hB : Below W.heap.size W W1 := by
    rw [← hW1]
    exact (((Below.refl _ W).alloc (Nat.le_refl _) _).alloc (by simp) _).setCell (p := ⟨W.heap.size + 1, 0, none⟩) (by show W.heap.size ≤ W.heap.size + 1; omega) _
  have hBw : Below w.heap.size w W1 := hW.trans (hB.mono hW.size)
  have lt : ∀ {c : Nat} {o : Obj}, w.heap[c]? = some o → c < w.heap.size := fun h => (Array.getElem?_eq_some_iff.1 h).1
  have hvx : ∀ c, Vx b1 b2 W1 c ↔ Vx b1 b2 w c := vx_below hBw hb1
  have hWi : Wi l b1 b2 x b Bb W.heap.size (W.heap.size + 1) W1.drew T := by
    have h1 : Wi l b1 b2 x b Bb W.heap.size (W.heap.size + 1) W1 T := by
      refine ⟨(hBw.block _ (lt hBb)).trans hBb, ?_, ?_, (hT.below hBw).hd, fun h => fb ((hvx _).1 h), fun h => ?_, fun h => ?_, fun c hc h => fu c (.inr hc) ((hvx _).1 h), fun c hc => Nat.lt_of_lt_of_le (vb c ((hvx c).1 hc)) hBw.size⟩
      · rw [← hW1, heap_setCell_other _ _ _ _ (by show ¬ W.heap.size = W.heap.size + 1; omega), Below.heap_alloc _ _ _ (by simp)]
        exact World.alloc_heap_new W _
      · rw [← hW1, heap_setCell_same _ _ _ _ _ _ hv]; rfl
      · have := vb _ ((hvx _).1 h); have := hW.size; omega
      · have := vb _ ((hvx _).1 h); have := hW.size; omega
    exact ⟨h1.bb, h1.yy, h1.vv, h1.hd.keep fun _ _ => rfl, h1.fb, h1.fy, h1.fv, h1.fu, h1.vb⟩
  have hJ1 : J [] W1.drew := jb _ _ _ (jb _ _ _ h0 hB) (Below.refl _ W1).drew
  have HC := Lib.hid (walk_any l b1 b2 (ovl x b 32 0 T).length J Jx jb hY x b Bb W.heap.size (W.heap.size + 1) hx0 hx1 32 0 T [] W1.drew (by omega) (by simp) (by omega) (by simp) hT.wf hWi hJ1 (by simp))
  have c3 : W1.cell? ⟨W.heap.size + 1, 0, none⟩ = some (.func (.func 34) #[] #[.pointer (some ⟨Bb, 0, none⟩), .pointer (some ⟨W.heap.size, 0, none⟩), .pointer (some ⟨W.heap.size + 1, 0, none⟩)]) := hWi.cells.2.2.2
  have hBt1 : W1.heap[Bt]? = some (.cells #[.pointer (some ⟨p, 0, none⟩)] 24 (0, 0)) := (hBw.block _ (lt hBt)).trans hBt
  have t0 : W1.cell? ⟨Bt, 0, none⟩ = some (.pointer (some ⟨p, 0, none⟩)) := by simp [World.cell?, hBt1]
  have p0 := (hT.below hBw).c0
  clear hT hBb hBt vb fb fu hY h0 hJ jb hv hB hBw hvx hWi hJ1 hBt1 hW hb1
  simp only [show (32 : Int) - ((32 : Nat) : Int) = 0 by omega] at HC
  show CallsIn Fence.wide 0 Try.prog 33 #[.func (.yield l) #[] #[], .pointer (some ⟨Bb, 0, none⟩), .pointer (some ⟨Bt, 0, none⟩)] W _
  refine callsIn_of_wp Try.func33 rfl trivial ?_
  simp only [Try.ntmps33, List.size_toArray, List.length_cons, List.length_nil, Nat.reduceAdd, Nat.reduceSub, Array.replicate_succ, Array.replicate_zero, List.push_toArray, List.append_toArray, List.nil_append, List.cons_append]
  gi_upto_region 3 with fail
  refine wpIn_region_mx (fun i => i == 6) rfl (by kernel_rfl) ?_
  refine at_quiet (by kernel_rfl) [0, 1, 2, 3, 4, 5] 1 _ _ (by kernel_rfl) ?_
  simp only [opsAt, List.getElem?_toArray, List.getElem?_cons_zero, List.getElem?_cons_succ, Option.toList_some, List.cons_append, List.nil_append]
  repeat (gi_big_quiet_step (fail))
  refine wpQuietIn_nil ?_
  refine at_last [6] _ _ _ (by kernel_rfl) (by kernel_rfl) ?_
  simp only [opsAt, List.getElem?_toArray, List.getElem?_cons_zero, List.getElem?_cons_succ, Option.toList_some, List.cons_append, List.nil_append]
  gi_wp2_with ((first | refine ⟨trivial, rfl, ?_⟩ | refine ⟨rfl, ?_⟩); gi_at_call 34; refine HC.out.mono ?_; clear HC; rintro e W2 (⟨rfl, hj, hk⟩ | ⟨rfl, q, hq, hx⟩))
  · go_end0
    exact ⟨⟨_, rfl⟩, .inl ⟨_, rfl, by simpa using hj⟩⟩
  · go_end0
    exact ⟨⟨_, rfl⟩, .inr ⟨q, hq, by simpa using hx⟩⟩

/-- What 'overlapping' hands back. -/
theorem over_any (x b : Int) (p : Nat) (w : World) :
    Calls Try.prog 30 #[.pointer (some ⟨p, 0, none⟩), .agg #[.int .u32 x, .int .i64 b]] w fun e w' => e = .returned (.func (.func 33) #[] #[.pointer (some ⟨w.heap.size + 1, 0, none⟩), .pointer (some ⟨w.heap.size, 0, none⟩)]) ∧
      w' = (w.alloc (.cells #[.pointer (some ⟨p, 0, none⟩)] 24)).alloc (.cells #[.int .u32 x, .int .i64 b] 32) := by
  go_enter Try.func30, Try.ntmps30
  go_wp2_with fail
  go_ret
  exact ⟨rfl, rfl⟩
end Go.Proofs.Ytbfkpapankgndaa
