/-
  The contract of sweep.ask: whom a sweep asks, and how it stands behind that. Conditions: the sweep is right, but for when it is due.
-/
import Derived.Test.YtenolbgadlehpaaChg
set_option linter.unusedSimpArgs false
set_option linter.unusedVariables false
namespace Go.Proofs.Ytenolbgadlehpaa
open Go.RowKit

theorem Wb.c {w : World} {b : Nat} {x : Sw} (h : Wb w b x) : w.cell? ⟨b, 0, none⟩ = some (.int .u32 x.a) ∧ w.cell? ⟨b, 1, none⟩ = some (.int .i64 x.b) ∧ w.cell? ⟨b, 2, none⟩ = some (.int .i64 x.d) ∧ w.cell? ⟨b, 3, none⟩ = some (.int .i64 x.n) := ⟨h.key 0 _ rfl, h.key 1 _ rfl, h.key 2 _ rfl, h.key 3 _ rfl⟩
theorem Wb.fr {w : World} {b : Nat} {x : Sw} (h : Wb w b x) (j : Nat) (hj : j < 4) : w.frozen? ⟨b, j, none⟩ = false := by
  have := (h.2 j hj).2
  rwa [Nat.zero_add] at this
theorem Wb.other {w : World} {b c j : Nat} {x : Sw} (h : Wb w b x) (hne : b ≠ c) (v : Value) : Wb (w.setCell ⟨c, j, none⟩ v) b x :=
  ⟨fun i u hu => by rw [World.cell?_setCell_other _ _ _ _ (by intro e; injection e with e1; exact hne e1.symm)]; exact h.1 i u hu, World.there_setCells h.2 c j [v]⟩
theorem Wb.set3 {w : World} {b : Nat} {x : Sw} (h : Wb w b x) (m : Int) : Wb (w.setCell ⟨b, 3, none⟩ (.int .i64 m)) b ⟨x.a, x.b, x.d, m⟩ := by
  refine ⟨fun j v hv => ?_, World.there_setCells h.2 b 3 [.int .i64 m]⟩
  match j, hv with
  | 0, hv => rw [World.cell?_setCell_other _ _ _ _ (by simp)]; exact h.1 0 v hv
  | 1, hv => rw [World.cell?_setCell_other _ _ _ _ (by simp)]; exact h.1 1 v hv
  | 2, hv => rw [World.cell?_setCell_other _ _ _ _ (by simp)]; exact h.1 2 v hv
  | 3, hv =>
    simp [swl] at hv
    subst hv
    exact World.cell?_setCell_same _ _ _ (h.1 3 _ rfl)
  | j + 4, hv => simp [swl] at hv
theorem Wb.set2 {w : World} {b : Nat} {x : Sw} (h : Wb w b x) (m : Int) : Wb (w.setCell ⟨b, 2, none⟩ (.int .i64 m)) b ⟨x.a, x.b, m, x.n⟩ := by
  refine ⟨fun j v hv => ?_, World.there_setCells h.2 b 2 [.int .i64 m]⟩
  match j, hv with
  | 0, hv => rw [World.cell?_setCell_other _ _ _ _ (by simp)]; exact h.1 0 v hv
  | 1, hv => rw [World.cell?_setCell_other _ _ _ _ (by simp)]; exact h.1 1 v hv
  | 2, hv =>
    simp [swl] at hv
    subst hv
    exact World.cell?_setCell_same _ _ _ (h.1 2 _ rfl)
  | 3, hv => rw [World.cell?_setCell_other _ _ _ _ (by simp)]; exact h.1 3 v hv
  | j + 4, hv => simp [swl] at hv

theorem own_cells {base : Nat} {e : TypeId} {size : Nat} {v : Value} {n : Nat} {xs : List Value} {b : Nat} (hb : b < base) : ∀ (us : List Value) (o : Nat) (w : World), w.ownsRow base e size v n xs → (w.setCells b o us).ownsRow base e size v n xs
  | [], _, _, h => h
  | u :: r, o, w, h => own_cells hb r (o + 1) _ (ownsRow_setCell_below h (a := ⟨b, o, none⟩) hb u)
theorem at_store39o {ops : Array Oper} {rest : List Oper} {o : Oper} {a : Act} {w : World} {Q : Exit → Act → World → Prop} (x y : Operand) (b : Nat) (p q : Sw) (H : Wb w b p) (hgd : o.guard = none) (ho : o.op = .store 39 x y) (hx : a.eval x = .pointer (some ⟨b, 0, none⟩)) (hy : a.eval y = swv q)
    (h : ∀ w', Hid (Wb w' b q) → Hid (∀ B, B ≤ b → Below B w w') → Hid (∀ base e size v n xs, b < base → w.ownsRow base e size v n xs → w'.ownsRow base e size v n xs) → wpList Try.prog ops Q rest (a.put o.dst undef) w') : wpList Try.prog ops Q (o :: rest) a w :=
  wpList_store_mid hgd 39 x y ho b 0 (swl q).toArray hx hy H.2 size39 (swl_one q) (h _ (H.put q) (fun _ hB => below_put hB _ _ _ (Below.refl _ _)) (fun _ _ _ _ _ _ hb ho => own_cells hb _ _ _ ho))

/-- How many addresses a sweep asks, if there is so much room; which they are; how it stands behind that. -/
def tk (x : Sw) (room : Int) : Nat := min room.toNat (p2 x.b - x.n).toNat
def asl (x : Sw) (k : Nat) : List Int := (List.range k).map fun (j : Nat) => x.a + (x.n + (j : Int))
def stp (x : Sw) (every room : Int) : Sw := if x.n + tk x room = p2 x.b then ⟨x.a, x.b, ad x.d every, 0⟩ else ⟨x.a, x.b, x.d, x.n + tk x room⟩
theorem asl_succ (x : Sw) (k : Nat) : asl x (k + 1) = asl x k ++ [x.a + (x.n + k)] := by
  unfold asl
  rw [List.range_succ, List.map_append]
  rfl
theorem asl_len (x : Sw) (k : Nat) : (asl x k).length = k := by simp [asl]
theorem addr_box (W : World) (a : Int) : Rw eA (W.alloc (.cells #[.int .u32 a] 34)) (some ⟨W.heap.size, 0, none⟩) [a] := by
  refine ⟨by simp, fun q z hq => ?_⟩
  match q, hq with
  | 0, hq =>
    simp at hq
    subst hq
    refine ⟨_, rfl, fun j v hv => ?_⟩
    match j, hv with
    | 0, hv => simp [eA] at hv; subst hv; rw [Addr.add_mid]; simp [eA]
    | j + 1, hv => simp [eA] at hv
  | q + 1, hq => simp at hq

/-- What ask hands back. -/
def AskPost (w : World) (x : Sw) (zs : List Int) (e : Ending) (w' : World) : Prop :=
  ∃ v, e = .returned (.tuple #[swv x, v]) ∧ w'.ownsRow w.heap.size 34 1 v zs.length (eA.cs zs) ∧ Below w.heap.size w w'
/-- What the loop keeps. -/
structure AskI (w wr : World) (x : Sw) (k : Nat) (v : Value) : Prop where
  bx : Wb wr w.heap.size ⟨x.a, x.b, x.d, x.n + k⟩
  rs : Wb wr (w.heap.size + 1) zw
  own : wr.ownsRow (w.heap.size + 2) 34 1 v (asl x k).length (eA.cs (asl x k))
  bel : Below w.heap.size w wr
  sz : w.heap.size + 2 ≤ wr.heap.size

theorem AskI.below {w wr W : World} {x : Sw} {k : Nat} {v : Value} (h : AskI w wr x k v) (hb : Below wr.heap.size wr W) : AskI w W x k v :=
  ⟨h.bx.below hb, h.rs.below hb, own_keep h.own hb, h.bel.trans (hb.mono h.bel.size), Nat.le_trans h.sz hb.size⟩

set_option maxRecDepth 100000 in
set_option maxHeartbeats 8000000 in
theorem ask_any (x : Sw) (every room : Int) (w : World) (ha0 : 0 ≤ x.a) (ha1 : x.a < 4294967296) (hok : okB x.a x.b = true) (h256 : p2 x.b ≤ 256) (hn0 : 0 ≤ x.n) (hn1 : x.n < p2 x.b) (hr0 : -1099511627776 ≤ room) (hr1 : room ≤ 1099511627776) :
    Calls Try.prog 28 #[swv x, .int .i64 every, .int .i64 room] w (AskPost w (stp x every room) (asl x (tk x room))) := by
  have hse : sizeOf x.a x.b = p2 x.b := by simp [sizeOf, hok]
  have I0 := Lib.hid (show AskI w ((w.alloc (Swx x)).alloc (Swx zw)) x 0 (.slice none 0 0) from by
    refine ⟨?_, ?_, World.ownsRow_nil _ _ _ _, ((Below.refl _ w).alloc (Nat.le_refl _) _).alloc (by simp) _, by simp⟩
    · have := (wb_box w x).below ((Below.refl _ _).alloc (Nat.le_refl _) (Swx zw))
      simpa using this
    · have := wb_box (w.alloc (Swx x)) zw
      simpa using this)
  have HSZ := Lib.hid fun W => size_eq x.a x.b (p2 x.b) W ha0 ha1 hse
  have HAY := Lib.hid fun (k : Nat) (hk : x.n + k < p2 x.b) W => at_yes x.a x.b (x.n + k) W ha0 ha1 (by omega) (by rw [hse]; exact hk)
  have HAN := Lib.hid fun (k : Nat) (hk : x.n + k = p2 x.b) W => at_no x.a x.b (x.n + k) W ha0 ha1 (Or.inr (by rw [hse, hk]; exact Int.le_refl _))
  have HAD := Lib.hid fun W => add_any x.d every W
  have HASL := Lib.hid (asl_succ x)
  have HLEN := Lib.hid (asl_len x)
  have HTK : Hid (∀ k : Nat, k = tk x room → AskPost w (stp x every room) (asl x (tk x room)) = AskPost w (if x.n + k = p2 x.b then ⟨x.a, x.b, ad x.d every, 0⟩ else ⟨x.a, x.b, x.d, x.n + k⟩) (asl x k)) := Lib.hid fun k hk => by subst hk; rfl
  have HTE := Lib.hid (show ∀ k : Nat, (k : Int) ≤ max room 0 → x.n + k ≤ p2 x.b → (¬ (k : Int) < min room 256 ∨ x.n + k = p2 x.b) → k = tk x room from fun k h1 h2 h3 => by unfold tk; omega)
  unfold swv
  obtain ⟨P, hP⟩ : ∃ P, p2 x.b = P := ⟨_, rfl⟩
  rw [hP] at h256 hn1 HSZ HAY HAN HTE HTK
  clear hP hse hok
  have hp1 : 0 < P := by omega
  unfold Swx at I0
  simp only [zw] at I0
  go_enter Try.func28, Try.ntmps28
  go_wp2_with fail
  generalize hW0 : (w.alloc (.cells #[.int .u32 x.a, .int .i64 x.b, .int .i64 x.d, .int .i64 x.n] 39)).alloc (.cells #[.int .u32 0, .int .i64 0, .int .i64 0, .int .i64 0] 39) = W0 at *
  clear hW0
  go_loopw [8] (fun v wr => ∃ k : Nat, (k : Int) ≤ max room 0 ∧ x.n + k ≤ P ∧ Hid (AskI w wr x k v) ∧ ∃ A c, v = .slice A k c) (fun v _ => 256 - match v with | .slice _ n _ => n | _ => 0)
  case atStart => exact ⟨0, by omega, by omega, I0, none, 0, rfl⟩
  case round =>
    obtain ⟨k, hk1, hk2, HI, Av, cv, rfl⟩ := hrel
    have hkb : k ≤ 256 := by omega
    obtain ⟨q0, q1, q2, q3⟩ := HI.out.bx.c
    have f2 := HI.out.bx.fr 2 (by omega)
    have f3 := HI.out.bx.fr 3 (by omega)
    dsimp only at q0 q1 q2 q3
    have hsz := HI.out.sz
    by_cases hlt : (k : Int) < min room 256
    · by_cases hend : x.n + k = P
      · -- no more
        have HK := Lib.hid (HTE.out k hk1 hk2 (Or.inr hend))
        have HE := Lib.hid hend
        have HAN1 := Lib.hid (HAN.out k hend)
        clear hend
        go_wp2_with fail
        refine (HAN1.out _).mono ?_
        rintro e W1 ⟨rfl, hb⟩
        have I1 := Lib.hid (show AskI w W1 x k _ from ⟨HI.out.bx.below hb, HI.out.rs.below hb, own_keep HI.out.own hb, HI.out.bel.trans (hb.mono HI.out.bel.size), Nat.le_trans HI.out.sz hb.size⟩)
        clear hb q0 q1 q2 q3 f2 f3 HI
        have HI := I1
        clear I1
        obtain ⟨q0, q1, q2, q3⟩ := HI.out.bx.c
        have f2 := HI.out.bx.fr 2 (by omega)
        have f3 := HI.out.bx.fr 3 (by omega)
        dsimp only at q0 q1 q2 q3
        go_wp2_with fail
        have hee : (x.n + (k : Int) == P) = true := by simpa using HE.out
        have r0 := cell_regrown q0
        have r1 := cell_regrown q1
        have r2 := cell_regrown q2
        have r3 := cell_regrown q3
        have HSR := Lib.hid fun d os => Calls.regrown_of (d := d) (os := os) (HSZ.out (Sort.grow (redrawn W1 d) os))
        refine wp_region_quiet_below (by kernel_rfl) (by kernel_rfl) ?_
        repeat (go_big_quiet_step ((go_at_call 23; exact HSR.out _ _)))
        refine wpQuiet_nil ?_
        intro _ hw'
        obtain ⟨⟨dq, osq⟩, hw''⟩ := hw'
        subst hw''
        have I2 := Lib.hid (show AskI w (Sort.grow (redrawn W1 dq) osq) x k _ from HI.out.below (below_regrown _ dq osq))
        clear r0 r1 r2 r3 q0 q1 q2 q3 f2 f3 HI HSR
        generalize Sort.grow (redrawn W1 dq) osq = W2 at *
        have HI := I2
        clear I2
        obtain ⟨q0, q1, q2, q3⟩ := HI.out.bx.c
        have f2 := HI.out.bx.fr 2 (by omega)
        have f3 := HI.out.bx.fr 3 (by omega)
        dsimp only at q0 q1 q2 q3
        go_wp2_with fail
        refine (HAD.out _).mono ?_
        rintro e W3 ⟨rfl, rfl⟩
        have RS := Lib.hid ((HI.out.rs.other (c := w.heap.size) (j := 3) (by omega) (.int .i64 0)).other (c := w.heap.size) (j := 2) (by omega) (.int .i64 (ad x.d every)))
        go_wp2_with (refine at_store39o _ _ (w.heap.size + 1) zw ⟨x.a, x.b, ad x.d every, 0⟩ RS.out rfl rfl rfl rfl ?_; intro w5 P5 B5 O5)
        obtain ⟨p0, p1, p2', p3⟩ := P5.out.c
        dsimp only at p0 p1 p2' p3
        have own5 := O5.out _ _ _ _ _ _ (by omega) (ownsRow_setCell_below (a := ⟨w.heap.size, 2, none⟩) (ownsRow_setCell_below (a := ⟨w.heap.size, 3, none⟩) HI.out.own (by show w.heap.size < w.heap.size + 2; omega) (.int .i64 0)) (by show w.heap.size < w.heap.size + 2; omega) (.int .i64 (ad x.d every)))
        rw [HLEN.out] at own5
        rw [HTK.out k HK.out]
        exact bodyPost_ret (v := .tuple #[.agg #[.int .u32 x.a, .int .i64 x.b, .int .i64 (ad x.d every), .int .i64 0], .slice Av k cv]) (by simp [results, Try.results28, go_sem, p0, p1, p2', p3]) rfl ⟨_, by rw [if_pos HE.out]; rfl, by rw [HLEN.out]; exact own_base own5 (by omega), ((HI.out.bel.setCell (p := ⟨w.heap.size, 3, none⟩) (Nat.le_refl _) _).setCell (p := ⟨w.heap.size, 2, none⟩) (Nat.le_refl _) _).trans (B5.out _ (by omega))⟩
      · have hlt2 : x.n + k < P := by omega
        go_wp2_with fail
        refine (HAY.out k hlt2 _).mono ?_
        rintro e W1 ⟨rfl, hb⟩
        have I1 := Lib.hid (show AskI w W1 x k _ from ⟨HI.out.bx.below hb, HI.out.rs.below hb, own_keep HI.out.own hb, HI.out.bel.trans (hb.mono HI.out.bel.size), Nat.le_trans HI.out.sz hb.size⟩)
        clear hb q0 q1 q2 q3 f2 f3
        have hAl : (W1.alloc (.cells #[.int .u32 (x.a + (x.n + k))] 34)).heap.size = W1.heap.size + 1 := by simp
        have bA := Lib.hid (show Below W1.heap.size W1 (W1.alloc (.cells #[.int .u32 (x.a + (x.n + k))] 34)) from (Below.refl _ W1).alloc (Nat.le_refl _) _)
        have N2 := Lib.hid (addr_box W1 (x.a + (x.n + k)))
        have O2 := Lib.hid (own_keep I1.out.own bA.out)
        rw [HLEN.out] at O2
        have hbase := Lib.hid (show w.heap.size + 2 ≤ (W1.alloc (.cells #[.int .u32 (x.a + (x.n + k))] 34)).heap.size by have := I1.out.sz; rw [hAl]; omega)
        go_wp2_with (at_builtin; refine wpList_append_rw tA _ rfl (.tmp 26) (.tmp 28) rfl (w.heap.size + 2) _ _ _ (by simp [Act.eval, Act.put]) O2.out _ 1 1 [x.a + (x.n + k)] (by simp [Act.eval, Act.put]) rfl N2.out (by omega) hbase.out ?_)
        intro v2 w2 ho2 hg2
        have bB := Lib.hid ((Below.refl (w.heap.size + 2) (W1.alloc (.cells #[.int .u32 (x.a + (x.n + k))] 34))).grown hg2 hbase.out (fun j hj => (O2.out.lt j hj).1))
        have bx2 := Lib.hid ((I1.out.bx.below bA.out).keep bB.out (by omega))
        have rs2 := Lib.hid ((I1.out.rs.below bA.out).keep bB.out (by omega))
        have bel2 := Lib.hid (I1.out.bel.trans ((bA.out.mono I1.out.bel.size).trans (bB.out.mono (by omega))))
        have sz2 := Lib.hid (show w.heap.size + 2 ≤ w2.heap.size from Nat.le_trans hbase.out bB.out.size)
        have hon := ho2
        rw [show eA.cs (asl x k ++ [x.a + (x.n + k)]) = eA.cs (asl x (k + 1)) by rw [HASL.out]] at hon
        obtain ⟨A2, c2, hv2, -⟩ := own_rw (E := eA) (xs := asl x (k + 1)) (n := k + 1) hon (by rw [HLEN.out]; omega)
        rw [HLEN.out] at hv2
        subst hv2
        have ON := Lib.hid hon
        clear ho2 hg2 hon hAl
        obtain ⟨q0, q1, q2, q3⟩ := bx2.out.c
        have f3 := bx2.out.fr 3 (by omega)
        dsimp only at q0 q1 q2 q3
        go_wp2_with fail
        go_roundw
        case rel =>
          refine ⟨k + 1, by omega, by omega, Lib.hid ⟨?_, rs2.out.other (by omega) _, ?_, bel2.out.setCell (Nat.le_refl _) _, by rw [World.size_setCell]; exact sz2.out⟩, A2, c2, rfl⟩
          · rw [show x.n + ((k + 1 : Nat) : Int) = x.n + k + 1 by omega]
            exact bx2.out.set3 _
          · rw [HLEN.out]
            exact ownsRow_setCell_below ON.out (by show w.heap.size < w.heap.size + 2; omega) _
        case measure => simp; omega
    · have HK := Lib.hid (HTE.out k hk1 hk2 (Or.inl (by omega)))
      have hlt' : decide ((k : Int) < min room 256) = false := decide_eq_false hlt
      clear hlt
      go_wp2_with fail
      by_cases hend : x.n + k = P
      · have HE := Lib.hid hend
        clear hend
        have hee : (x.n + (k : Int) == P) = true := by simpa using HE.out
        have r0 := cell_regrown q0
        have r1 := cell_regrown q1
        have r2 := cell_regrown q2
        have r3 := cell_regrown q3
        have HSR := Lib.hid fun d os => Calls.regrown_of (d := d) (os := os) (HSZ.out (Sort.grow (redrawn wr d) os))
        refine wp_region_quiet_below (by kernel_rfl) (by kernel_rfl) ?_
        repeat (go_big_quiet_step ((go_at_call 23; exact HSR.out _ _)))
        refine wpQuiet_nil ?_
        intro _ hw'
        obtain ⟨⟨dq, osq⟩, hw''⟩ := hw'
        subst hw''
        have I2 := Lib.hid (show AskI w (Sort.grow (redrawn wr dq) osq) x k _ from HI.out.below (below_regrown _ dq osq))
        clear r0 r1 r2 r3 q0 q1 q2 q3 f2 f3 HI HSR
        generalize Sort.grow (redrawn wr dq) osq = W2 at *
        have HI := I2
        clear I2
        obtain ⟨q0, q1, q2, q3⟩ := HI.out.bx.c
        have f2 := HI.out.bx.fr 2 (by omega)
        have f3 := HI.out.bx.fr 3 (by omega)
        dsimp only at q0 q1 q2 q3
        go_wp2_with fail
        refine (HAD.out _).mono ?_
        rintro e W3 ⟨rfl, rfl⟩
        have RS := Lib.hid ((HI.out.rs.other (c := w.heap.size) (j := 3) (by omega) (.int .i64 0)).other (c := w.heap.size) (j := 2) (by omega) (.int .i64 (ad x.d every)))
        go_wp2_with (refine at_store39o _ _ (w.heap.size + 1) zw ⟨x.a, x.b, ad x.d every, 0⟩ RS.out rfl rfl rfl rfl ?_; intro w5 P5 B5 O5)
        obtain ⟨p0, p1, p2', p3⟩ := P5.out.c
        dsimp only at p0 p1 p2' p3
        have own5 := O5.out _ _ _ _ _ _ (by omega) (ownsRow_setCell_below (a := ⟨w.heap.size, 2, none⟩) (ownsRow_setCell_below (a := ⟨w.heap.size, 3, none⟩) HI.out.own (by show w.heap.size < w.heap.size + 2; omega) (.int .i64 0)) (by show w.heap.size < w.heap.size + 2; omega) (.int .i64 (ad x.d every)))
        rw [HLEN.out] at own5
        rw [HTK.out k HK.out]
        exact bodyPost_ret (v := .tuple #[.agg #[.int .u32 x.a, .int .i64 x.b, .int .i64 (ad x.d every), .int .i64 0], .slice Av k cv]) (by simp [results, Try.results28, go_sem, p0, p1, p2', p3]) rfl ⟨_, by rw [if_pos HE.out]; rfl, by rw [HLEN.out]; exact own_base own5 (by omega), ((HI.out.bel.setCell (p := ⟨w.heap.size, 3, none⟩) (Nat.le_refl _) _).setCell (p := ⟨w.heap.size, 2, none⟩) (Nat.le_refl _) _).trans (B5.out _ (by omega))⟩
      · have HN := Lib.hid hend
        clear hend
        have hee : (x.n + (k : Int) == P) = false := by simpa using HN.out
        have r0 := cell_regrown q0
        have r1 := cell_regrown q1
        have r2 := cell_regrown q2
        have r3 := cell_regrown q3
        have HSR := Lib.hid fun d os => Calls.regrown_of (d := d) (os := os) (HSZ.out (Sort.grow (redrawn wr d) os))
        refine wp_region_quiet_below (by kernel_rfl) (by kernel_rfl) ?_
        repeat (go_big_quiet_step ((go_at_call 23; exact HSR.out _ _)))
        refine wpQuiet_nil ?_
        intro _ hw'
        obtain ⟨⟨dq, osq⟩, hw''⟩ := hw'
        subst hw''
        have I2 := Lib.hid (show AskI w (Sort.grow (redrawn wr dq) osq) x k _ from HI.out.below (below_regrown _ dq osq))
        clear r0 r1 r2 r3 q0 q1 q2 q3 f2 f3 HI HSR
        generalize Sort.grow (redrawn wr dq) osq = W2 at *
        have HI := I2
        clear I2
        obtain ⟨q0, q1, q2, q3⟩ := HI.out.bx.c
        have f2 := HI.out.bx.fr 2 (by omega)
        have f3 := HI.out.bx.fr 3 (by omega)
        dsimp only at q0 q1 q2 q3
        go_wp2_with (refine at_store39o _ _ (w.heap.size + 1) zw ⟨x.a, x.b, x.d, x.n + k⟩ HI.out.rs rfl rfl rfl rfl ?_; intro w5 P5 B5 O5)
        obtain ⟨p0, p1, p2', p3⟩ := P5.out.c
        dsimp only at p0 p1 p2' p3
        have own5 := O5.out _ _ _ _ _ _ (by omega) HI.out.own
        rw [HLEN.out] at own5
        rw [HTK.out k HK.out]
        exact bodyPost_ret (v := .tuple #[.agg #[.int .u32 x.a, .int .i64 x.b, .int .i64 x.d, .int .i64 (x.n + k)], .slice Av k cv]) (by simp [results, Try.results28, go_sem, p0, p1, p2', p3]) rfl ⟨_, by rw [if_neg HN.out]; rfl, by rw [HLEN.out]; exact own_base own5 (by omega), HI.out.bel.trans (B5.out _ (by omega))⟩
end Go.Proofs.Ytenolbgadlehpaa
