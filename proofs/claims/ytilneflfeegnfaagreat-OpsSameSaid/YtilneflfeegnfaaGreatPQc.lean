/-
  Part of the proof: several texts in one file. No condition of its own.
-/
import Derived.Test.YtilneflfeegnfaaGreatPQa
import Derived.Test.YtilneflfeegnfaaGreatPQb
import Derived.Test.YtilneflfeegnfaaGreatProg
import Derived.WalkKit
import Derived.Lib.Strings
import Derived.WalkLawsBesides
import Derived.BigQuiet
import Derived.Deep.QuietTactic
import Derived.Deep.MidRow
import Derived.Deep.CutRange
import Derived.Deep.LoopGhost
import Derived.Deep.Slices
import Derived.Deep.OwnRows
import Derived.Deep.AppendLies
import Derived.Laws.OwnMore
import Derived.Laws.AppendOwn
import Derived.Laws.ResultCell
import Derived.Laws.BitsAllLaws
import Derived.Maps.AppendAt
import Derived.RegionTactic
import Derived.OwnWalk
import Derived.Lib.Hide
import Derived.Lib.MinMax
import Derived.Lib.QuietBelow
import Derived.StillTailTactics
import Derived.Lib.SliceRun
set_option linter.unusedSimpArgs false
set_option linter.unusedVariables false
namespace Go.Proofs.YtilneflfeegnfaaGreat.Sw
open Go.RowKit
theorem Wb.c {w : World} {b : Nat} {x : Sw} (h : Wb w b x) : w.cell? ⟨b, 0, none⟩ = some (.int .u32 x.a) ∧ w.cell? ⟨b, 1, none⟩ = some (.int .i64 x.b) ∧ w.cell? ⟨b, 2, none⟩ = some (.int .i64 x.d) ∧ w.cell? ⟨b, 3, none⟩ = some (.int .i64 x.n) := ⟨h.key 0 _ rfl, h.key 1 _ rfl, h.key 2 _ rfl, h.key 3 _ rfl⟩
theorem Wb.fr {w : World} {b : Nat} {x : Sw} (h : Wb w b x) (j : Nat) (hj : j < 4) : w.frozen? ⟨b, j, none⟩ = false := by
  have := (h.2 j hj).2
  rwa [Nat.zero_add] at this
theorem Wb.other {w : World} {b c j : Nat} {x : Sw} (h : Wb w b x) (hne : b ≠ c) (v : Value) : Wb (w.setCell ⟨c, j, none⟩ v) b x :=
  ⟨fun i u hu => by rw [World.cell?_setCell_other _ _ _ _ (by intro e; injection e with e1; exact hne e1.symm)]; exact h.1 i u hu, World.there_setCells h.2 c j [v]⟩
theorem Wb.set3 {w : World} {b : Nat} {x : Sw} (h : Wb w b x) (m : Int) : Wb (w.setCell ⟨b, 3, none⟩ (.int .i64 m)) b ⟨x.a, x.b, x.d, m⟩ := by
  refine ⟨fun j v hv => ?_, World.there_setCells h.2 b 3 [.int .i64 m]⟩
  match j, hv with
  | 0, hv => rw [World.cell?_setCell_other _ _ _ _ (by simp)]; exact h.1 0 v hv
  | 1, hv => rw [World.cell?_setCell_other _ _ _ _ (by simp)]; exact h.1 1 v hv
  | 2, hv => rw [World.cell?_setCell_other _ _ _ _ (by simp)]; exact h.1 2 v hv
  | 3, hv =>
    simp [swl] at hv
    subst hv
    exact World.cell?_setCell_same _ _ _ (h.1 3 _ rfl)
  | j + 4, hv => simp [swl] at hv
theorem own_cells {base : Nat} {e : TypeId} {size : Nat} {v : Value} {n : Nat} {xs : List Value} {b : Nat} (hb : b < base) : ∀ (us : List Value) (o : Nat) (w : World), w.ownsRow base e size v n xs → (w.setCells b o us).ownsRow base e size v n xs
  | [], _, _, h => h
  | u :: r, o, w, h => own_cells hb r (o + 1) _ (ownsRow_setCell_below h (a := ⟨b, o, none⟩) hb u)
theorem at_store39o {ops : Array Oper} {rest : List Oper} {o : Oper} {a : Act} {w : World} {Q : Exit → Act → World → Prop} (x y : Operand) (b : Nat) (p q : Sw) (H : Wb w b p) (hgd : o.guard = none) (ho : o.op = .store 101 x y) (hx : a.eval x = .pointer (some ⟨b, 0, none⟩)) (hy : a.eval y = swv q)
    (h : ∀ w', Hid (Wb w' b q) → Hid (∀ B, B ≤ b → Below B w w') → Hid (∀ base e size v n xs, b < base → w.ownsRow base e size v n xs → w'.ownsRow base e size v n xs) → wpList Tryz.prog ops Q rest (a.put o.dst undef) w') : wpList Tryz.prog ops Q (o :: rest) a w :=
  wpList_store_mid hgd 101 x y ho b 0 (swl q).toArray hx hy H.2 size39 (swl_one q) (h _ (H.put q) (fun _ hB => below_put hB _ _ _ (Below.refl _ _)) (fun _ _ _ _ _ _ hb ho => own_cells hb _ _ _ ho))
def tk (x : Sw) (room : Int) : Nat := min room.toNat (p2 x.b - x.n).toNat
def asl (x : Sw) (k : Nat) : List Int := (List.range k).map fun (j : Nat) => x.a + (x.n + (j : Int))
def stp (x : Sw) (every room : Int) : Sw := if x.n + tk x room = p2 x.b then ⟨x.a, x.b, ad x.d every, 0⟩ else ⟨x.a, x.b, x.d, x.n + tk x room⟩
theorem asl_succ (x : Sw) (k : Nat) : asl x (k + 1) = asl x k ++ [x.a + (x.n + k)] := by
  unfold asl
  rw [List.range_succ, List.map_append]
  rfl
theorem asl_len (x : Sw) (k : Nat) : (asl x k).length = k := by simp [asl]
theorem addr_box (W : World) (a : Int) : Rw eA (W.alloc (.cells #[.int .u32 a] 40)) (some ⟨W.heap.size, 0, none⟩) [a] := by
  refine ⟨by simp, fun q z hq => ?_⟩
  match q, hq with
  | 0, hq =>
    simp at hq
    subst hq
    refine ⟨_, rfl, fun j v hv => ?_⟩
    match j, hv with
    | 0, hv => simp [eA] at hv; subst hv; rw [Addr.add_mid]; simp [eA]
    | j + 1, hv => simp [eA] at hv
  | q + 1, hq => simp at hq
def AskPost (w : World) (x : Sw) (zs : List Int) (e : Ending) (w' : World) : Prop :=
  ∃ v, e = .returned (.tuple #[swv x, v]) ∧ w'.ownsRow w.heap.size 40 1 v zs.length (eA.cs zs) ∧ Below w.heap.size w w'
structure AskI (w wr : World) (x : Sw) (k : Nat) (v : Value) : Prop where
  bx : Wb wr w.heap.size ⟨x.a, x.b, x.d, x.n + k⟩
  rs : Wb wr (w.heap.size + 1) zw
  own : wr.ownsRow (w.heap.size + 2) 40 1 v (asl x k).length (eA.cs (asl x k))
  bel : Below w.heap.size w wr
  sz : w.heap.size + 2 ≤ wr.heap.size
theorem AskI.below {w wr W : World} {x : Sw} {k : Nat} {v : Value} (h : AskI w wr x k v) (hb : Below wr.heap.size wr W) : AskI w W x k v :=
  ⟨h.bx.below hb, h.rs.below hb, own_keep h.own hb, h.bel.trans (hb.mono h.bel.size), Nat.le_trans h.sz hb.size⟩
set_option maxRecDepth 100000 in
set_option maxHeartbeats 8000000 in
theorem ask_any (x : Sw) (every room : Int) (w : World) (ha0 : 0 ≤ x.a) (ha1 : x.a < 4294967296) (hok : okB x.a x.b = true) (h256 : p2 x.b ≤ 256) (hn0 : 0 ≤ x.n) (hn1 : x.n < p2 x.b) (hr0 : -1099511627776 ≤ room) (hr1 : room ≤ 1099511627776) :
    Calls Tryz.prog 112 #[swv x, .int .i64 every, .int .i64 room] w (AskPost w (stp x every room) (asl x (tk x room))) := by
  have hse : sizeOf x.a x.b = p2 x.b := by simp [sizeOf, hok]
  have I0 := Lib.hid (show AskI w ((w.alloc (Swx x)).alloc (Swx zw)) x 0 (.slice none 0 0) from by
    refine ⟨?_, ?_, World.ownsRow_nil _ _ _ _, ((Below.refl _ w).alloc (Nat.le_refl _) _).alloc (by simp) _, by simp⟩
    · have := (wb_box w x).below ((Below.refl _ _).alloc (Nat.le_refl _) (Swx zw))
      simpa using this
    · have := wb_box (w.alloc (Swx x)) zw
      simpa using this)
  have HSZ := Lib.hid fun W => size_eq x.a x.b (p2 x.b) W ha0 ha1 hse
  have HAY := Lib.hid fun (k : Nat) (hk : x.n + k < p2 x.b) W => at_yes x.a x.b (x.n + k) W ha0 ha1 (by omega) (by rw [hse]; exact hk)
  have HAN := Lib.hid fun (k : Nat) (hk : x.n + k = p2 x.b) W => at_no x.a x.b (x.n + k) W ha0 ha1 (Or.inr (by rw [hse, hk]; exact Int.le_refl _))
  have HAD := Lib.hid fun W => add_any x.d every W
  have HASL := Lib.hid (asl_succ x)
  have HLEN := Lib.hid (asl_len x)
  have HTK : Hid (∀ k : Nat, k = tk x room → AskPost w (stp x every room) (asl x (tk x room)) = AskPost w (if x.n + k = p2 x.b then ⟨x.a, x.b, ad x.d every, 0⟩ else ⟨x.a, x.b, x.d, x.n + k⟩) (asl x k)) := Lib.hid fun k hk => by subst hk; rfl
  have HTE := Lib.hid (show ∀ k : Nat, (k : Int) ≤ max room 0 → x.n + k ≤ p2 x.b → (¬ (k : Int) < min room 256 ∨ x.n + k = p2 x.b) → k = tk x room from fun k h1 h2 h3 => by unfold tk; omega)
  unfold swv
  obtain ⟨P, hP⟩ : ∃ P, p2 x.b = P := ⟨_, rfl⟩
  rw [hP] at h256 hn1 HSZ HAY HAN HTE HTK
  clear hP hse hok
  have hp1 : 0 < P := by omega
  unfold Swx at I0
  simp only [zw] at I0
  go_enter Tryz.func112, Tryz.ntmps112
  go_wp2_with fail
  generalize hW0 : (w.alloc (.cells #[.int .u32 x.a, .int .i64 x.b, .int .i64 x.d, .int .i64 x.n] 101)).alloc (.cells #[.int .u32 0, .int .i64 0, .int .i64 0, .int .i64 0] 101) = W0 at *
  clear hW0
  go_loopw [8] (fun v wr => ∃ k : Nat, (k : Int) ≤ max room 0 ∧ x.n + k ≤ P ∧ Hid (AskI w wr x k v) ∧ ∃ A c, v = .slice A k c) (fun v _ => 256 - match v with | .slice _ n _ => n | _ => 0)
  case atStart => exact ⟨0, by omega, by omega, I0, none, 0, rfl⟩
  case round =>
    obtain ⟨k, hk1, hk2, HI, Av, cv, rfl⟩ := hrel
    have hkb : k ≤ 256 := by omega
    obtain ⟨q0, q1, q2, q3⟩ := HI.out.bx.c
    have f2 := HI.out.bx.fr 2 (by omega)
    have f3 := HI.out.bx.fr 3 (by omega)
    dsimp only at q0 q1 q2 q3
    have hsz := HI.out.sz
    by_cases hlt : (k : Int) < min room 256
    · by_cases hend : x.n + k = P
      · -- no more
        have HK := Lib.hid (HTE.out k hk1 hk2 (Or.inr hend))
        have HE := Lib.hid hend
        have HAN1 := Lib.hid (HAN.out k hend)
        clear hend
        go_wp2_with fail
        refine (HAN1.out _).mono ?_
        rintro e W1 ⟨rfl, hb⟩
        have I1 := Lib.hid (show AskI w W1 x k _ from ⟨HI.out.bx.below hb, HI.out.rs.below hb, own_keep HI.out.own hb, HI.out.bel.trans (hb.mono HI.out.bel.size), Nat.le_trans HI.out.sz hb.size⟩)
        clear hb q0 q1 q2 q3 f2 f3 HI
        have HI := I1
        clear I1
        obtain ⟨q0, q1, q2, q3⟩ := HI.out.bx.c
        have f2 := HI.out.bx.fr 2 (by omega)
        have f3 := HI.out.bx.fr 3 (by omega)
        dsimp only at q0 q1 q2 q3
        go_wp2_with fail
        have hee : (x.n + (k : Int) == P) = true := by simpa using HE.out
        have r0 := cell_regrown q0
        have r1 := cell_regrown q1
        have r2 := cell_regrown q2
        have r3 := cell_regrown q3
        have HSR := Lib.hid fun d os => Calls.regrown_of (d := d) (os := os) (HSZ.out (Sort.grow (redrawn W1 d) os))
        refine wp_region_quiet_below (by kernel_rfl) (by kernel_rfl) ?_
        repeat (go_big_quiet_step ((go_at_call 76; exact HSR.out _ _)))
        refine wpQuiet_nil ?_
        intro _ hw'
        obtain ⟨⟨dq, osq⟩, hw''⟩ := hw'
        subst hw''
        have I2 := Lib.hid (show AskI w (Sort.grow (redrawn W1 dq) osq) x k _ from HI.out.below (below_regrown _ dq osq))
        clear r0 r1 r2 r3 q0 q1 q2 q3 f2 f3 HI HSR
        generalize Sort.grow (redrawn W1 dq) osq = W2 at *
        have HI := I2
        clear I2
        obtain ⟨q0, q1, q2, q3⟩ := HI.out.bx.c
        have f2 := HI.out.bx.fr 2 (by omega)
        have f3 := HI.out.bx.fr 3 (by omega)
        dsimp only at q0 q1 q2 q3
        go_wp2_with fail
        refine (HAD.out _).mono ?_
        rintro e W3 ⟨rfl, rfl⟩
        have RS := Lib.hid ((HI.out.rs.other (c := w.heap.size) (j := 3) (by omega) (.int .i64 0)).other (c := w.heap.size) (j := 2) (by omega) (.int .i64 (ad x.d every)))
        go_wp2_with (refine at_store39o _ _ (w.heap.size + 1) zw ⟨x.a, x.b, ad x.d every, 0⟩ RS.out rfl rfl rfl rfl ?_; intro w5 P5 B5 O5)
        obtain ⟨p0, p1, p2', p3⟩ := P5.out.c
        dsimp only at p0 p1 p2' p3
        have own5 := O5.out _ _ _ _ _ _ (by omega) (ownsRow_setCell_below (a := ⟨w.heap.size, 2, none⟩) (ownsRow_setCell_below (a := ⟨w.heap.size, 3, none⟩) HI.out.own (by show w.heap.size < w.heap.size + 2; omega) (.int .i64 0)) (by show w.heap.size < w.heap.size + 2; omega) (.int .i64 (ad x.d every)))
        rw [HLEN.out] at own5
        rw [HTK.out k HK.out]
        exact bodyPost_ret (v := .tuple #[.agg #[.int .u32 x.a, .int .i64 x.b, .int .i64 (ad x.d every), .int .i64 0], .slice Av k cv]) (by simp [results, Tryz.results112, go_sem, p0, p1, p2', p3]) rfl ⟨_, by rw [if_pos HE.out]; rfl, by rw [HLEN.out]; exact own_base own5 (by omega), ((HI.out.bel.setCell (p := ⟨w.heap.size, 3, none⟩) (Nat.le_refl _) _).setCell (p := ⟨w.heap.size, 2, none⟩) (Nat.le_refl _) _).trans (B5.out _ (by omega))⟩
      · have hlt2 : x.n + k < P := by omega
        go_wp2_with fail
        refine (HAY.out k hlt2 _).mono ?_
        rintro e W1 ⟨rfl, hb⟩
        have I1 := Lib.hid (show AskI w W1 x k _ from ⟨HI.out.bx.below hb, HI.out.rs.below hb, own_keep HI.out.own hb, HI.out.bel.trans (hb.mono HI.out.bel.size), Nat.le_trans HI.out.sz hb.size⟩)
        clear hb q0 q1 q2 q3 f2 f3
        have hAl : (W1.alloc (.cells #[.int .u32 (x.a + (x.n + k))] 40)).heap.size = W1.heap.size + 1 := by simp
        have bA := Lib.hid (show Below W1.heap.size W1 (W1.alloc (.cells #[.int .u32 (x.a + (x.n + k))] 40)) from (Below.refl _ W1).alloc (Nat.le_refl _) _)
        have N2 := Lib.hid (addr_box W1 (x.a + (x.n + k)))
        have O2 := Lib.hid (own_keep I1.out.own bA.out)
        rw [HLEN.out] at O2
        have hbase := Lib.hid (show w.heap.size + 2 ≤ (W1.alloc (.cells #[.int .u32 (x.a + (x.n + k))] 40)).heap.size by have := I1.out.sz; rw [hAl]; omega)
        go_wp2_with (at_builtin; refine wpList_append_rw tA _ rfl (.tmp 26) (.tmp 28) rfl (w.heap.size + 2) _ _ _ (by simp [Act.eval, Act.put]) O2.out _ 1 1 [x.a + (x.n + k)] (by simp [Act.eval, Act.put]) rfl N2.out (by omega) hbase.out ?_)
        intro v2 w2 ho2 hg2
        have bB := Lib.hid ((Below.refl (w.heap.size + 2) (W1.alloc (.cells #[.int .u32 (x.a + (x.n + k))] 40))).grown hg2 hbase.out (fun j hj => (O2.out.lt j hj).1))
        have bx2 := Lib.hid ((I1.out.bx.below bA.out).keep bB.out (by omega))
        have rs2 := Lib.hid ((I1.out.rs.below bA.out).keep bB.out (by omega))
        have bel2 := Lib.hid (I1.out.bel.trans ((bA.out.mono I1.out.bel.size).trans (bB.out.mono (by omega))))
        have sz2 := Lib.hid (show w.heap.size + 2 ≤ w2.heap.size from Nat.le_trans hbase.out bB.out.size)
        have hon := ho2
        rw [show eA.cs (asl x k ++ [x.a + (x.n + k)]) = eA.cs (asl x (k + 1)) by rw [HASL.out]] at hon
        obtain ⟨A2, c2, hv2, -⟩ := own_rw (E := eA) (xs := asl x (k + 1)) (n := k + 1) hon (by rw [HLEN.out]; omega)
        rw [HLEN.out] at hv2
        subst hv2
        have ON := Lib.hid hon
        clear ho2 hg2 hon hAl
        obtain ⟨q0, q1, q2, q3⟩ := bx2.out.c
        have f3 := bx2.out.fr 3 (by omega)
        dsimp only at q0 q1 q2 q3
        go_wp2_with fail
        go_roundw
        case rel =>
          refine ⟨k + 1, by omega, by omega, Lib.hid ⟨?_, rs2.out.other (by omega) _, ?_, bel2.out.setCell (Nat.le_refl _) _, by rw [World.size_setCell]; exact sz2.out⟩, A2, c2, rfl⟩
          · rw [show x.n + ((k + 1 : Nat) : Int) = x.n + k + 1 by omega]
            exact bx2.out.set3 _
          · rw [HLEN.out]
            exact ownsRow_setCell_below ON.out (by show w.heap.size < w.heap.size + 2; omega) _
        case measure => simp; omega
    · have HK := Lib.hid (HTE.out k hk1 hk2 (Or.inl (by omega)))
      have hlt' : decide ((k : Int) < min room 256) = false := decide_eq_false hlt
      clear hlt
      go_wp2_with fail
      by_cases hend : x.n + k = P
      · have HE := Lib.hid hend
        clear hend
        have hee : (x.n + (k : Int) == P) = true := by simpa using HE.out
        have r0 := cell_regrown q0
        have r1 := cell_regrown q1
        have r2 := cell_regrown q2
        have r3 := cell_regrown q3
        have HSR := Lib.hid fun d os => Calls.regrown_of (d := d) (os := os) (HSZ.out (Sort.grow (redrawn wr d) os))
        refine wp_region_quiet_below (by kernel_rfl) (by kernel_rfl) ?_
        repeat (go_big_quiet_step ((go_at_call 76; exact HSR.out _ _)))
        refine wpQuiet_nil ?_
        intro _ hw'
        obtain ⟨⟨dq, osq⟩, hw''⟩ := hw'
        subst hw''
        have I2 := Lib.hid (show AskI w (Sort.grow (redrawn wr dq) osq) x k _ from HI.out.below (below_regrown _ dq osq))
        clear r0 r1 r2 r3 q0 q1 q2 q3 f2 f3 HI HSR
        generalize Sort.grow (redrawn wr dq) osq = W2 at *
        have HI := I2
        clear I2
        obtain ⟨q0, q1, q2, q3⟩ := HI.out.bx.c
        have f2 := HI.out.bx.fr 2 (by omega)
        have f3 := HI.out.bx.fr 3 (by omega)
        dsimp only at q0 q1 q2 q3
        go_wp2_with fail
        refine (HAD.out _).mono ?_
        rintro e W3 ⟨rfl, rfl⟩
        have RS := Lib.hid ((HI.out.rs.other (c := w.heap.size) (j := 3) (by omega) (.int .i64 0)).other (c := w.heap.size) (j := 2) (by omega) (.int .i64 (ad x.d every)))
        go_wp2_with (refine at_store39o _ _ (w.heap.size + 1) zw ⟨x.a, x.b, ad x.d every, 0⟩ RS.out rfl rfl rfl rfl ?_; intro w5 P5 B5 O5)
        obtain ⟨p0, p1, p2', p3⟩ := P5.out.c
        dsimp only at p0 p1 p2' p3
        have own5 := O5.out _ _ _ _ _ _ (by omega) (ownsRow_setCell_below (a := ⟨w.heap.size, 2, none⟩) (ownsRow_setCell_below (a := ⟨w.heap.size, 3, none⟩) HI.out.own (by show w.heap.size < w.heap.size + 2; omega) (.int .i64 0)) (by show w.heap.size < w.heap.size + 2; omega) (.int .i64 (ad x.d every)))
        rw [HLEN.out] at own5
        rw [HTK.out k HK.out]
        exact bodyPost_ret (v := .tuple #[.agg #[.int .u32 x.a, .int .i64 x.b, .int .i64 (ad x.d every), .int .i64 0], .slice Av k cv]) (by simp [results, Tryz.results112, go_sem, p0, p1, p2', p3]) rfl ⟨_, by rw [if_pos HE.out]; rfl, by rw [HLEN.out]; exact own_base own5 (by omega), ((HI.out.bel.setCell (p := ⟨w.heap.size, 3, none⟩) (Nat.le_refl _) _).setCell (p := ⟨w.heap.size, 2, none⟩) (Nat.le_refl _) _).trans (B5.out _ (by omega))⟩
      · have HN := Lib.hid hend
        clear hend
        have hee : (x.n + (k : Int) == P) = false := by simpa using HN.out
        have r0 := cell_regrown q0
        have r1 := cell_regrown q1
        have r2 := cell_regrown q2
        have r3 := cell_regrown q3
        have HSR := Lib.hid fun d os => Calls.regrown_of (d := d) (os := os) (HSZ.out (Sort.grow (redrawn wr d) os))
        refine wp_region_quiet_below (by kernel_rfl) (by kernel_rfl) ?_
        repeat (go_big_quiet_step ((go_at_call 76; exact HSR.out _ _)))
        refine wpQuiet_nil ?_
        intro _ hw'
        obtain ⟨⟨dq, osq⟩, hw''⟩ := hw'
        subst hw''
        have I2 := Lib.hid (show AskI w (Sort.grow (redrawn wr dq) osq) x k _ from HI.out.below (below_regrown _ dq osq))
        clear r0 r1 r2 r3 q0 q1 q2 q3 f2 f3 HI HSR
        generalize Sort.grow (redrawn wr dq) osq = W2 at *
        have HI := I2
        clear I2
        obtain ⟨q0, q1, q2, q3⟩ := HI.out.bx.c
        have f2 := HI.out.bx.fr 2 (by omega)
        have f3 := HI.out.bx.fr 3 (by omega)
        dsimp only at q0 q1 q2 q3
        go_wp2_with (refine at_store39o _ _ (w.heap.size + 1) zw ⟨x.a, x.b, x.d, x.n + k⟩ HI.out.rs rfl rfl rfl rfl ?_; intro w5 P5 B5 O5)
        obtain ⟨p0, p1, p2', p3⟩ := P5.out.c
        dsimp only at p0 p1 p2' p3
        have own5 := O5.out _ _ _ _ _ _ (by omega) HI.out.own
        rw [HLEN.out] at own5
        rw [HTK.out k HK.out]
        exact bodyPost_ret (v := .tuple #[.agg #[.int .u32 x.a, .int .i64 x.b, .int .i64 x.d, .int .i64 (x.n + k)], .slice Av k cv]) (by simp [results, Tryz.results112, go_sem, p0, p1, p2', p3]) rfl ⟨_, by rw [if_neg HN.out]; rfl, by rw [HLEN.out]; exact own_base own5 (by omega), HI.out.bel.trans (B5.out _ (by omega))⟩
end Go.Proofs.YtilneflfeegnfaaGreat.Sw
namespace Go.Proofs.YtilneflfeegnfaaGreat.Sw
open Go
section
variable {P : Program} {Q : Exit → Act → World → Prop}
theorem wp_region_inv {id : Nat} {a : Act} {w : World} {l : List Oper} (I : (Nat → Bool) → (Nat → Value) → World → Prop) (hm : P.follows .mixedOrders = true) (hap : ogApart l = true)
    (hacyc : (List.range l.length).all (fun i => (l[i]?).all fun o => o.after.all fun e => !Region.binds .any e || decide (e.on < i)) = true) (h0 : ∀ u, I (fun _ => false) u w.drew)
    (hstep : ∀ i o, l[i]? = some o → ∀ D u w, I D u w → D i = false → (∀ e ∈ o.after, Region.binds .any e = true → D e.on = true) →
      Region.wanted o (yielded l.toArray (ogMk 0 l u a).tmps) = true ∧ o.wp P (ogMk 0 l u a) w (fun a' w' => ∃ v, a' = (ogMk 0 l u a).put o.dst v ∧ I (fun j => if j = i then true else D j) (fun j => if j = i then v else u j) w') Q)
    (hend : ∀ D u w, I D u w → (∀ i, i < l.length → D i = true) → Q .normal (ogMk 0 l u a) w) : (Code.region id l.toArray true).wp P Q a w := by
  obtain ⟨u0, hu0⟩ := ogMk_own l 0 a
  have hput := ogPut_mk a l hap l 0 fun i o ho => by rwa [Nat.zero_add]
  suffices H : ∀ a', a' = ogMk 0 l u0 a → (Code.region id l.toArray true).wp P Q a' w from H a hu0.symm
  rintro _ rfl
  refine wp_region_any hm ?_
  have hsz : l.toArray.size = (Array.replicate l.toArray.size false).toList.countP (· == false) := by simp [List.countP_replicate]
  conv => arg 5; rw [hsz]
  refine wpAny_inv (ops := l.toArray) (fun ls a' w => ls.size = l.toArray.size ∧ ∃ u D, a' = ogMk 0 l u a ∧ I D u w ∧ ∀ j, ls.getD j false = D j) (fun _ _ _ h => h.1) ?_ ?_ _ _ _ _ rfl ⟨by simp, u0, fun _ => false, rfl, h0 u0, fun j => by
    show (Array.replicate l.toArray.size false).getD j false = false
    rw [Array.getD_eq_getD_getElem?, Array.getElem?_replicate]
    split <;> rfl⟩
  · rintro ls a' w i ⟨hl, u, D, rfl, hI, hD⟩ hi
    obtain ⟨hun, o, ho, hall⟩ := mem_ready.1 hi
    have ho' : l[i]? = some o := by simpa using ho
    have hil : i < ls.size := by
      rcases Nat.lt_or_ge i ls.size with h' | h'
      · exact h'
      · simp [h'] at hun
    have hDi : D i = false := by rw [← hD]; simpa [hil] using hun
    obtain ⟨hw, st⟩ := hstep i o ho' D u w hI hDi fun e he hb => by rw [← hD]; exact hall e he hb
    have pt := hput.at ho'
    rw [Nat.zero_add] at pt
    unfold wpOp
    simp only [ho]
    rw [if_pos hw]
    refine .inl (Oper.wp_mono ?_ st)
    rintro a' w' ⟨v, rfl, hI'⟩
    refine ⟨by simpa using hl, _, _, pt u v, hI', fun j => ?_⟩
    by_cases hji : j = i
    · subst hji
      rw [if_pos rfl]
      exact getD_set_self hil
    · rw [if_neg hji, getD_set_ne false (Ne.symm hji)]
      exact hD j
  · rintro ls a' w ⟨hl, u, D, rfl, hI, hD⟩ hr
    refine hend D u w hI fun i hi => ?_
    have hl' : ls.size = l.length := by simpa using hl
    have key : ∀ n i, i < n → i < l.length → ls.getD i false = true := by
      intro n
      induction n with
      | zero => intro i h; omega
      | succ n ih =>
        intro i hin hil
        by_cases hc : ls.getD i false = true
        · exact hc
        · exfalso
          have hc' : ls.getD i true = false := by
            have : i < ls.size := by omega
            simp [this] at hc ⊢
            exact hc
          have hmem : i ∈ Region.ready .any l.toArray ls := by
            refine mem_ready.2 ⟨hc', l[i], by simp [hil], fun e he hb => ?_⟩
            have h1 := List.all_eq_true.1 hacyc i (List.mem_range.2 hil)
            rw [List.getElem?_eq_getElem hil] at h1
            simp only [Option.all_some] at h1
            have h2 := Array.all_eq_true_iff_forall_mem.1 h1 e he
            simp only [hb, Bool.not_true, Bool.false_or, decide_eq_true_eq] at h2
            exact ih e.on (by omega) (by omega)
          rw [hr] at hmem
          cases hmem
    rw [← hD]
    exact key (i + 1) i (by omega) hi
def Turned (Zo : Obj) (φ : Value → World → Prop) : Prop := ∀ (v : Value) (w w' : World) (g : Nat), φ v w → w.heap[g]? = some Zo → (∀ k, k ≠ g → w'.heap[k]? = w.heap[k]?) → φ v w'
theorem turned_fx (Zo : Obj) (c : Value) : Turned Zo (fx c) := fun _ _ _ _ h _ _ => h
def tT : Value → World → Prop := fun _ _ => True
theorem stable_tT : Stable tT := fun _ _ _ _ _ => trivial
theorem turned_tT (Zo : Obj) : Turned Zo tT := fun _ _ _ _ _ _ _ => trivial
theorem turned_at {Zo : Obj} {Φ : List (Value → World → Prop)} (h : ∀ φ ∈ Φ, Turned Zo φ) (i : Nat) : Turned Zo (fAt Φ i) := by
  unfold fAt
  rw [List.getD_eq_getElem?_getD]
  cases hi : Φ[i]? with
  | none => intro _ _ _ _ _ _ _; trivial
  | some φ => exact h φ (List.mem_of_getElem? hi)
def StStep (P : Program) (Q : Exit → Act → World → Prop) (L : List Oper) (a : Act) (w0 : World) (Φ : List (Value → World → Prop)) (p s i : Nat) (o : Oper) : Prop :=
  i ≠ p → i ≠ s → OgStep P L.toArray Q (fun u => ogMk 0 L u a) (fun w' => RowKit.Below w0.heap.size w0 w') (fun w1 w2 => RowKit.Below w1.heap.size w1 w2) (fAt Φ) i o
def StSteps (P : Program) (Q : Exit → Act → World → Prop) (L : List Oper) (a : Act) (w0 : World) (Φ : List (Value → World → Prop)) (p s : Nat) : Nat → List Oper → Prop
  | _, [] => True
  | k, o :: r => StStep P Q L a w0 Φ p s k o ∧ StSteps P Q L a w0 Φ p s (k + 1) r
theorem StSteps.nil {L : List Oper} {a : Act} {w0 : World} {Φ : List (Value → World → Prop)} {p s k : Nat} : StSteps P Q L a w0 Φ p s k [] := trivial
theorem StSteps.cons {L : List Oper} {a : Act} {w0 : World} {Φ : List (Value → World → Prop)} {p s k : Nat} {o : Oper} {r : List Oper} (h : StStep P Q L a w0 Φ p s k o) (g : StSteps P Q L a w0 Φ p s (k + 1) r) : StSteps P Q L a w0 Φ p s k (o :: r) := ⟨h, g⟩
theorem StSteps.at {L : List Oper} {a : Act} {w0 : World} {Φ : List (Value → World → Prop)} {p s : Nat} : ∀ {r : List Oper} {k : Nat}, StSteps P Q L a w0 Φ p s k r → ∀ {i : Nat} {o : Oper}, r[i]? = some o → StStep P Q L a w0 Φ p s (k + i) o
  | [], _, _, i, o, h => by simp at h
  | _ :: _, _, hs, 0, o, h => by simp at h; subst h; exact hs.1
  | _ :: _, k, hs, i + 1, o, h => by
    have := StSteps.at hs.2 (i := i) (o := o) (by simpa using h)
    rwa [show k + 1 + i = k + (i + 1) by omega] at this
structure StI (w0 : World) (Φ : List (Value → World → Prop)) (p s : Nat) (Zo : Obj) (V : World → Nat → Prop) (D : Nat → Bool) (u : Nat → Value) (w : World) : Prop where
  bel : RowKit.Below w0.heap.size w0 w
  val : ∀ i, D i = true → i ≠ p → i ≠ s → fAt Φ i (u i) w
  new : D p = true → ∃ g, u p = .pointer (some ⟨g, 0, none⟩) ∧ w0.heap.size ≤ g ∧ (D s = false → w.heap[g]? = some Zo) ∧ (D s = true → V w g)
  ord : D s = true → D p = true
theorem wp_region_store {id : Nat} {a : Act} {w : World} {L : List Oper} (Φ : List (Value → World → Prop)) (p s : Nat) (Zo : Obj) (V : World → Nat → Prop) (hm : P.follows .mixedOrders = true) (hap : ogApart L = true)
    (hacyc : (List.range L.length).all (fun i => (L[i]?).all fun o => o.after.all fun e => !Region.binds .any e || decide (e.on < i)) = true) (hng : (List.range L.length).all (fun i => (L[i]?).all fun o => o.guard.isNone) = true) (hpl : p < L.length) (hsl : s < L.length) (hps : p ≠ s)
    (hΦ : ∀ φ ∈ Φ, Stable φ ∧ Turned Zo φ) (hp : fAt Φ p = tT) (hs : fAt Φ s = tT) (hV : ∀ w w' g, V w g → RowKit.Below w.heap.size w w' → V w' g)
    (hstep : StSteps P Q L a w Φ p s 0 L)
    (hnew : ∀ o, L[p]? = some o → o.guard = none ∧ ∀ u w1, o.wp P (ogMk 0 L u a) w1 (fun a' w' => a' = (ogMk 0 L u a).put o.dst (.pointer (some ⟨w1.heap.size, 0, none⟩)) ∧ RowKit.Below w1.heap.size w1 w' ∧ w'.heap[w1.heap.size]? = some Zo) Q)
    (hput : ∀ o, L[s]? = some o → o.guard = none ∧ (o.after.any fun e => Region.binds .any e && decide (e.on = p)) = true ∧ ∀ u w1 g, u p = .pointer (some ⟨g, 0, none⟩) → w1.heap[g]? = some Zo → (∀ e ∈ o.after, Region.binds .any e = true → fAt Φ e.on (u e.on) w1) →
      o.wp P (ogMk 0 L u a) w1 (fun a' w' => (∃ v, a' = (ogMk 0 L u a).put o.dst v) ∧ (∀ B, B ≤ g → RowKit.Below B w1 w') ∧ (∀ k, k ≠ g → w'.heap[k]? = w1.heap[k]?) ∧ V w' g) Q)
    (hend : ∀ u w' g, RowKit.Below w.heap.size w w' → (∀ i, i < L.length → fAt Φ i (u i) w') → u p = .pointer (some ⟨g, 0, none⟩) → w.heap.size ≤ g → V w' g → Q .normal (ogMk 0 L u a) w') : (Code.region id L.toArray true).wp P Q a w := by
  have hst : ∀ i, Stable (fAt Φ i) := stable_at fun φ h => (hΦ φ h).1
  have htu : ∀ i, Turned Zo (fAt Φ i) := turned_at fun φ h => (hΦ φ h).2
  have all : ∀ {D u w1}, StI w Φ p s Zo V D u w1 → ∀ i, D i = true → fAt Φ i (u i) w1 := fun {D u w1} hI i hi => by
    by_cases h1 : i = p
    · subst h1; rw [hp]; trivial
    · by_cases h2 : i = s
      · subst h2; rw [hs]; trivial
      · exact hI.val i hi h1 h2
  refine wp_region_inv (StI w Φ p s Zo V) hm hap hacyc (fun u => ⟨(RowKit.Below.refl _ _).drew, fun i hi => (by cases hi), fun h => (by cases h), fun h => (by cases h)⟩) ?_ ?_
  · intro i o ho D u w1 hI hD hall
    have hpre : ∀ e ∈ o.after, Region.binds .any e = true → fAt Φ e.on (u e.on) w1 := fun e he hb => all hI _ (hall e he hb)
    by_cases h1 : i = p
    · subst h1
      obtain ⟨hg, st⟩ := hnew o ho
      have hDs : D s = false := by
        cases h : D s
        · rfl
        · rw [hI.ord h] at hD; cases hD
      refine ⟨by simp [Region.wanted, hg], Oper.wp_mono ?_ (st u w1)⟩
      rintro a' w' ⟨rfl, hb, hz⟩
      refine ⟨_, rfl, ⟨hI.bel.trans (hb.mono hI.bel.size), fun j hj h1 h2 => ?_, fun _ => ⟨w1.heap.size, by simp, hI.bel.size, fun _ => hz, fun h => ?_⟩, fun h => ?_⟩⟩
      · rw [if_neg h1] at hj ⊢
        exact hst j _ _ _ (hI.val j hj h1 h2) hb
      · rw [if_neg (Ne.symm hps), hDs] at h; cases h
      · simp
    · by_cases h2 : i = s
      · subst h2
        obtain ⟨hg, hw, st⟩ := hput o ho
        obtain ⟨e, he, hw⟩ := Array.any_eq_true'.1 hw
        simp only [Bool.and_eq_true, decide_eq_true_eq] at hw
        have hdp := hall e he hw.1
        rw [hw.2] at hdp
        obtain ⟨g, e1, e2, e3, -⟩ := hI.new hdp
        refine ⟨by simp [Region.wanted, hg], Oper.wp_mono ?_ (st u w1 g e1 (e3 hD) hpre)⟩
        rintro a' w' ⟨⟨v, rfl⟩, hb, hk, hv⟩
        refine ⟨v, rfl, ⟨hI.bel.trans (hb _ e2), fun j hj h3 h4 => ?_, fun _ => ⟨g, by rw [if_neg hps]; exact e1, e2, fun h => ?_, fun _ => hv⟩, fun _ => by rw [if_neg hps]; exact hdp⟩⟩
        · rw [if_neg h4] at hj ⊢
          exact htu j _ _ _ g (hI.val j hj h3 h4) (e3 hD) hk
        · simp at h
      · have st := hstep.at ho
        rw [Nat.zero_add] at st
        have sw := st h1 h2 u w1 hI.bel hpre
        have hnext : ∀ v w', fAt Φ i v w' → RowKit.Below w1.heap.size w1 w' → StI w Φ p s Zo V (fun j => if j = i then true else D j) (fun j => if j = i then v else u j) w' := fun v w' hF hb =>
          ⟨hI.bel.trans (hb.mono hI.bel.size), fun j hj h3 h4 => by
            by_cases hji : j = i
            · subst hji
              simp only [if_true]
              exact hF
            · rw [if_neg hji] at hj ⊢
              exact hst j _ _ _ (hI.val j hj h3 h4) hb, fun hj => by
            rw [if_neg (Ne.symm h1)] at hj
            obtain ⟨g, e1, e2, e3, e4⟩ := hI.new hj
            refine ⟨g, by rw [if_neg (Ne.symm h1)]; exact e1, e2, fun h => ?_, fun h => ?_⟩
            · rw [if_neg (Ne.symm h2)] at h
              have := e3 h
              rw [hb.block g (Array.getElem?_eq_some_iff.1 this).1]
              exact this
            · rw [if_neg (Ne.symm h2)] at h
              exact hV _ _ _ (e4 h) hb, fun h => by
            rw [if_neg (Ne.symm h2)] at h
            rw [if_neg (Ne.symm h1)]
            exact hI.ord h⟩
        have hgn : o.guard = none := by
          have hil := (List.getElem?_eq_some_iff.1 ho).1
          have := List.all_eq_true.1 hng i (List.mem_range.2 hil)
          rw [ho] at this
          simpa using this
        have hwt : Region.wanted o (yielded L.toArray (ogMk 0 L u a).tmps) = true := by simp [Region.wanted, hgn]
        rw [if_pos hwt] at sw
        refine ⟨hwt, Oper.wp_mono ?_ sw⟩
        rintro a' w' ⟨v, rfl, hF, -, hb⟩
        exact ⟨v, rfl, hnext v w' hF hb⟩
  · intro D u w1 hI hall
    obtain ⟨g, e1, e2, -, e4⟩ := hI.new (hall _ hpl)
    exact hend u w1 g hI.bel (fun i hi => all hI i (hall i hi)) e1 e2 (e4 (hall _ hsl))
end
end Go.Proofs.YtilneflfeegnfaaGreat.Sw
namespace Go.Proofs.YtilneflfeegnfaaGreat.Sw
open Go.RowKit
structure Sv (x : Sw) : Prop where
  a0 : 0 ≤ x.a
  a1 : x.a < 4294967296
  ok : okB x.a x.b = true
  p : p2 x.b ≤ 256
  n0 : 0 ≤ x.n
  n1 : x.n < p2 x.b
def plan1 (xs : List Sw) (every room : Int) (s : List Sw × List Int) (i : Nat) : List Sw × List Int :=
  (s.1.set i (stp (xs[i]?.getD zw) every (room - s.2.length)), s.2 ++ asl (xs[i]?.getD zw) (tk (xs[i]?.getD zw) (room - s.2.length)))
def planL (xs : List Sw) (every room : Int) (l : List Nat) : List Sw × List Int := l.foldl (plan1 xs every room) (xs, [])
def planO (xs : List Sw) (every now room : Int) : List Sw × List Int := planL xs every room (ord xs now)
theorem planL_snoc (xs : List Sw) (every room : Int) (l : List Nat) (i : Nat) : planL xs every room (l ++ [i]) = plan1 xs every room (planL xs every room l) i := by simp [planL, List.foldl_append]
theorem planL_len (xs : List Sw) (every room : Int) (l : List Nat) : (planL xs every room l).1.length = xs.length := by
  unfold planL
  have h : ∀ (l : List Nat) (s : List Sw × List Int), (l.foldl (plan1 xs every room) s).1.length = s.1.length := by
    intro l
    induction l with
    | nil => intro s; rfl
    | cons i r ih => intro s; rw [List.foldl_cons, ih]; simp [plan1]
  rw [h]
theorem tk_le {x : Sw} (h : Sv x) (room : Int) : tk x room ≤ 256 := by have := h.p; have := h.n0; unfold tk; omega
theorem planL_few {xs : List Sw} (hv : ∀ x ∈ xs, Sv x) (every room : Int) (l : List Nat) (hl : ∀ i ∈ l, i < xs.length) : (planL xs every room l).2.length ≤ 256 * l.length := by
  unfold planL
  have h : ∀ (l : List Nat) (s : List Sw × List Int), (∀ i ∈ l, i < xs.length) → (l.foldl (plan1 xs every room) s).2.length ≤ s.2.length + 256 * l.length := by
    intro l
    induction l with
    | nil => intro s _; simp
    | cons i r ih =>
      intro s hl
      rw [List.foldl_cons]
      have h1 := ih (plan1 xs every room s i) fun j hj => hl j (List.mem_cons_of_mem _ hj)
      have hi := hl i (by simp)
      have h2 := tk_le (hv xs[i] (List.getElem_mem hi)) (room - s.2.length)
      have h3 : (plan1 xs every room s i).2.length = s.2.length + tk xs[i] (room - s.2.length) := by
        simp only [plan1, List.length_append, asl_len, List.getElem?_eq_getElem hi, Option.getD_some]
      rw [List.length_cons]
      omega
  have := h l (xs, []) hl
  simpa using this
theorem cs_set : ∀ (ys : List Sw) (i : Nat) (q : Sw), i < ys.length → ((((eW.cs ys).set (i * 4) (.int .u32 q.a)).set (i * 4 + 1) (.int .i64 q.b)).set (i * 4 + 2) (.int .i64 q.d)).set (i * 4 + 3) (.int .i64 q.n) = eW.cs (ys.set i q)
  | [], i, q, h => by simp at h
  | y :: r, 0, q, _ => by simp [El.cs, eW, swl]
  | y :: r, i + 1, q, h => by
    have ih := cs_set r i q (by simpa using h)
    have e : eW.cs (y :: r) = swl y ++ eW.cs r := rfl
    have e2 : eW.cs ((y :: r).set (i + 1) q) = swl y ++ eW.cs (r.set i q) := rfl
    rw [e, e2, ← ih]
    have hl : (swl y).length = 4 := rfl
    have g : ∀ (l : List Value) (j : Nat) (v : Value), (swl y ++ l).set ((i + 1) * 4 + j) v = swl y ++ l.set (i * 4 + j) v := fun l j v => by
      rw [List.set_append_right _ _ (by rw [hl]; omega), hl, show (i + 1) * 4 + j - 4 = i * 4 + j by omega]
    have g0 := g (eW.cs r) 0 (.int .u32 q.a)
    simp only [Nat.add_zero] at g0
    rw [g0, g, g, g]
theorem own_setrow {w : World} {base g L c : Nat} {ys : List Sw} (h : w.ownsRow base 101 4 (.slice (some ⟨g, 0, none⟩) L c) L (eW.cs ys)) (hl : ys.length = L) {i : Nat} (hi : i < L) (q : Sw) :
    (w.setCells g (i * 4) (swl q)).ownsRow base 101 4 (.slice (some ⟨g, 0, none⟩) L c) L (eW.cs (ys.set i q)) ∧ w.grownBy (w.setCells g (i * 4) (swl q)) (some g) := by
  obtain ⟨o0, g0⟩ := h.stored (i * 4) (.int .u32 q.a)
  obtain ⟨o1, g1⟩ := o0.stored (i * 4 + 1) (.int .i64 q.b)
  obtain ⟨o2, g2⟩ := o1.stored (i * 4 + 2) (.int .i64 q.d)
  obtain ⟨o3, g3⟩ := o2.stored (i * 4 + 3) (.int .i64 q.n)
  rw [cs_set ys i q (by omega)] at o3
  have ht : ∀ k, some g = some k → some k = some g ∨ w.heap.size ≤ k := fun k e => .inl e.symm
  exact ⟨o3, grown_trans (grown_trans (grown_trans g0 g1 ht) g2 ht) g3 ht⟩
theorem own_there {w : World} {base g L c : Nat} {ys : List Sw} (h : w.ownsRow base 101 4 (.slice (some ⟨g, 0, none⟩) L c) L (eW.cs ys)) (hl : ys.length = L) {i : Nat} (hi : i < L) : w.there g (i * 4) 4 := by
  intro j hj
  have hlt : i * 4 + j < L * 4 := by omega
  refine ⟨?_, h.frozenAt _⟩
  rw [h.cellAt _ hlt, List.getElem?_eq_getElem (by rw [cs_length, hl]; exact hlt)]
  rfl
theorem at_storeRow {ops : Array Oper} {rest : List Oper} {o : Oper} {a : Act} {w : World} {Q : Exit → Act → World → Prop} (x y : Operand) (base g L c i : Nat) (ys : List Sw) (q : Sw) (H : w.ownsRow base 101 4 (.slice (some ⟨g, 0, none⟩) L c) L (eW.cs ys)) (hl : ys.length = L) (hi : i < L) (hgd : o.guard = none) (ho : o.op = .store 101 x y) (hx : a.eval x = .pointer (some ⟨g, i * 4, none⟩)) (hy : a.eval y = swv q)
    (h : ∀ w', Hid (w'.ownsRow base 101 4 (.slice (some ⟨g, 0, none⟩) L c) L (eW.cs (ys.set i q))) → Hid (w.grownBy w' (some g)) → wpList Tryz.prog ops Q rest (a.put o.dst undef) w') : wpList Tryz.prog ops Q (o :: rest) a w :=
  wpList_store_mid hgd 101 x y ho g (i * 4) (swl q).toArray hx hy (own_there H hl hi) size39 (swl_one q) (h _ (own_setrow H hl hi q).1 (own_setrow H hl hi q).2)
def bF (B : Nat) (zs : List Int) : Value → World → Prop := fun v W => W.ownsRow B 40 1 v zs.length (eA.cs zs)
theorem stable_bF (B : Nat) (zs : List Int) : Stable (bF B zs) := fun _ _ _ h hb => own_keep h hb
def aF (B : Nat) (x : Sw) (zs : List Int) : Value → World → Prop := fun v W => ∃ v', v = .tuple #[.agg #[.int .u32 x.a, .int .i64 x.b, .int .i64 x.d, .int .i64 x.n], v'] ∧ bF B zs v' W
theorem stable_aF (B : Nat) (x : Sw) (zs : List Int) : Stable (aF B x zs) := fun _ _ _ ⟨v', hv, hR⟩ hb => ⟨v', hv, stable_bF _ _ _ _ _ hR hb⟩
theorem cells_other (b : Nat) : ∀ (us : List Value) (o : Nat) (w : World) (k : Nat), k ≠ b → (w.setCells b o us).heap[k]? = w.heap[k]?
  | [], _, _, _, _ => rfl
  | u :: r, o, w, k, h => (cells_other b r (o + 1) _ k h).trans (heap_setCell_other w ⟨b, o, none⟩ k u h)
theorem own_other {w w' : World} {b base : Nat} {e : TypeId} {size : Nat} {v : Value} {n : Nat} {xs : List Value} (h : w.ownsRow base e size v n xs) (hk : ∀ k, k ≠ b → w'.heap[k]? = w.heap[k]?) (ho : w.heap[b]? = some (Swx zw)) (he : e ≠ 101) : w'.ownsRow base e size v n xs := by
  refine ⟨h.1, h.2.imp id ?_⟩
  rintro ⟨g, cap, cur, e1, e2, e3, r⟩
  refine ⟨g, cap, cur, e1, e2, ?_, r⟩
  rw [hk g fun hg => ?_]
  · exact e3
  · subst hg
    rw [e3] at ho
    injection ho with ho
    injection ho with _ ht
    exact he ht
theorem turned_bF (B : Nat) (zs : List Int) : Turned (Swx zw) (bF B zs) := fun _ _ _ _ h ho hk => own_other h hk ho (by decide)
theorem turned_aF (B : Nat) (x : Sw) (zs : List Int) : Turned (Swx zw) (aF B x zs) := fun _ _ _ _ ⟨v', hv, h⟩ ho hk => ⟨v', hv, turned_bF _ _ _ _ _ _ h ho hk⟩
theorem wb_heap {w : World} {b : Nat} {x : Sw} (h : w.heap[b]? = some (Swx x)) : Wb w b x := by
  have e : ∀ j, w.cell? ⟨b, j, none⟩ = _ := fun j => cell_of_row _ _ _ _ _ _ h
  refine ⟨fun j v hv => ?_, fun j hj => ⟨?_, ?_⟩⟩
  · rw [e, Nat.zero_add, ← hv]
    simp [swl]
  · rw [e, Nat.zero_add]
    rcases four hj with rfl | rfl | rfl | rfl <;> rfl
  · unfold World.frozen?
    rw [h]
    simp [Swx]
theorem st_put {o : Oper} {a : Act} {w : World} {Q : Exit → Act → World → Prop} (x y : Operand) (g : Nat) (q : Sw) (ho : o.op = .store 101 x y) (hx : a.eval x = .pointer (some ⟨g, 0, none⟩)) (hy : a.eval y = swv q) (hz : w.heap[g]? = some (Swx zw)) :
    o.wp Tryz.prog a w (fun a' w' => (∃ v, a' = a.put o.dst v) ∧ (∀ B, B ≤ g → Below B w w') ∧ (∀ k, k ≠ g → w'.heap[k]? = w.heap[k]?) ∧ Wb w' g q) Q :=
  wp_store_mid 101 x y ho g 0 (swl q).toArray hx hy (wb_heap hz).2 size39 (swl_one q) ⟨⟨_, rfl⟩, fun _ hB => below_put hB _ _ _ (Below.refl _ _), fun k hk => cells_other g _ _ _ k hk, (wb_heap hz).put q⟩
theorem wp_value {o : Oper} {a : Act} {w w' : World} {v : Value} {K : Act → World → Prop} {Q : Exit → Act → World → Prop} (hr : (execOp a.eval o).run Tryz.prog w = .ok (.value v) w') (h : K (a.put o.dst v) w') : o.wp Tryz.prog a w K Q := by
  unfold Oper.wp
  rw [hr]
  exact h
def PlanPost (w : World) (s : List Sw × List Int) (e : Ending) (w' : World) : Prop :=
  ∃ A c A2 c2, e = .returned (.tuple #[.slice A s.1.length c, .slice A2 s.2.length c2]) ∧ s.1.length ≤ c ∧ Rw eW w' A s.1 ∧ Rw eA w' A2 s.2 ∧ Below w.heap.size w w' ∧ (∀ y, A = some y → w.heap.size ≤ y.block) ∧ ∀ y, A2 = some y → w.heap.size ≤ y.block
set_option maxRecDepth 100000 in
set_option maxHeartbeats 8000000 in
theorem plan_any (cf : Cf) (now room : Int) (A : Option Addr) (xs : List Sw) (cap : Nat) (w : World) (h : Rw eW w A xs) (hc : xs.length ≤ cap) (h16 : xs.length ≤ 16) (hv : ∀ x ∈ xs, Sv x) (hr0 : -1000000000 ≤ room) (hr1 : room ≤ 1000000000) :
    Calls Tryz.prog 70 #[cfv cf, .slice A xs.length cap, .int .i64 now, .int .i64 room] w (PlanPost w (planO xs cf.d now room)) := by
  have hln := h.1
  have HA := Lib.hid (show ∀ y, A = some y → 0 < xs.length → y.block < w.heap.size from fun y hy hp => by
    obtain ⟨y', hy', hc⟩ := h.2 0 xs[0] (List.getElem?_eq_getElem hp)
    rw [hy] at hy'
    obtain rfl := Option.some.inj hy'
    have := World.block_lt_of_cell? _ _ (hc 0 _ rfl)
    rwa [add_block] at this)
  have HB0 := Lib.hid (show Below w.heap.size w (w.alloc (Cfx cf)) from (Below.refl _ w).alloc (Nat.le_refl _) _)
  have R0 := Lib.hid (h.below HB0.out)
  have C0 := Lib.hid (cm_box w cf)
  have hs0 : (w.alloc (Cfx cf)).heap.size = w.heap.size + 1 := by simp
  have HCL := Lib.hid (clone_any A xs cap (w.alloc (Cfx cf)) R0.out (by omega) hc)
  have HTU := Lib.hid fun W (hR : Rw eW W A xs) => turns_any now A xs cap W hR h16
  have HV := Lib.hid hv
  have HO := Lib.hid (ord_is xs now)
  have HFEW := Lib.hid fun l hl => planL_few hv cf.d room l hl
  have HPL := Lib.hid fun l i => planL_snoc xs cf.d room l i
  have HLEN := Lib.hid fun l => planL_len xs cf.d room l
  have HPO := Lib.hid (show planO xs cf.d now room = planL xs cf.d room (ord xs now) from rfl)
  have hol : (ord xs now).length ≤ xs.length := by rw [ord_len]; exact pl_len _ _ _
  clear h hv
  obtain ⟨l, hl⟩ : ∃ l, ord xs now = l := ⟨_, rfl⟩
  rw [hl] at HO HPO HTU hol
  clear hl
  obtain ⟨L, hL⟩ : ∃ L, xs.length = L := ⟨_, rfl⟩
  have HL := Lib.hid hL
  rw [hL] at hln hc h16 HA HCL HTU HLEN hol HFEW ⊢
  clear hL
  obtain ⟨m, hm⟩ : ∃ m, l.length = m := ⟨_, rfl⟩
  have HM := Lib.hid hm
  rw [hm] at hol
  clear hm
  unfold Cfx cfv at *
  go_enter Tryz.func70, Tryz.ntmps70
  go_wp2_with fail
  generalize w.alloc (.cells #[.int .i64 cf.a, .int .i64 cf.b, .int .i64 cf.c, .int .i64 cf.d, .int .i64 cf.e, .int .i64 cf.f, .int .i64 cf.g, .int .i64 cf.h, .int .i64 cf.i] 27) = W0 at *
  refine HCL.out.mono ?_
  rintro e W1 ⟨v10, rfl, ho10, hb⟩
  have B1 := Lib.hid hb
  have O1 := Lib.hid ho10
  have R1 := Lib.hid (R0.out.below hb)
  clear hb ho10
  go_wp2_with fail
  refine (HTU.out W1 R1.out).mono ?_
  rintro e W2 ⟨At, ct, rfl, hRt, hb, hAt⟩
  have B2 := Lib.hid (B1.out.trans (hb.mono B1.out.size))
  have O2 := Lib.hid (own_keep O1.out hb)
  have RT := Lib.hid hRt
  have HAT := Lib.hid hAt
  have K10 := Lib.hid (show ∀ k, v10.ownBlock = some k → W0.heap.size ≤ k ∧ k < W1.heap.size from fun k hk => O1.out.lt k hk)
  have H12 := Lib.hid hb.size
  have h01 := B1.out.size
  have R2 := Lib.hid (R1.out.below hb)
  clear hb hRt hAt
  rw [HM.out]
  go_wp2_with fail
  go_loopw [11, 22] (fun v i wr => ∃ k : Nat, i = .int .i64 k ∧ k ≤ m ∧ Hid (wr.ownsRow W0.heap.size 101 4 v10 L (eW.cs (planL xs cf.d room (l.take k)).1)) ∧ Hid (wr.ownsRow W2.heap.size 40 1 v (planL xs cf.d room (l.take k)).2.length (eA.cs (planL xs cf.d room (l.take k)).2)) ∧ Hid (W2.grownBy wr v10.ownBlock) ∧ ∃ A3 c3, v = .slice A3 (planL xs cf.d room (l.take k)).2.length c3) (fun _ i _ => m - (intOf i).toNat)
  case atStart =>
    refine ⟨0, rfl, by omega, Lib.hid (by have := O2.out; rw [HL.out] at this; exact this), Lib.hid (World.ownsRow_nil _ _ _ _), Lib.hid (World.grownBy.refl _ _), none, 0, rfl⟩
  case round =>
    obtain ⟨k, rfl, hk, HR, HQ, HG, A3, c3, rfl⟩ := hrel
    by_cases hkm : k < m
    · obtain ⟨i, hi⟩ : ∃ i, l[k]? = some i := ⟨_, List.getElem?_eq_getElem (by rw [HM.out]; exact hkm)⟩
      have hiL : i < L := by
        have := ((HO.out.mem i).1 (List.mem_of_getElem? hi)).1
        rwa [HL.out] at this
      obtain ⟨x, hx⟩ : ∃ x, xs[i]? = some x := ⟨_, List.getElem?_eq_getElem (by rw [HL.out]; exact hiL)⟩
      have HS := Lib.hid (HV.out x (List.mem_of_getElem? hx))
      have hq0 := HFEW.out (l.take k) (fun i hi => by
        have := ((HO.out.mem i).1 (List.mem_of_mem_take hi)).1
        rwa [HL.out] at this)
      rw [List.length_take, HM.out] at hq0
      have hq1 : (planL xs cf.d room (l.take k)).2.length ≤ 4096 := by omega
      clear hq0
      have htk : l.take (k + 1) = l.take k ++ [i] := by rw [List.take_add_one, hi]; rfl
      have HN := Lib.hid (show planL xs cf.d room (l.take (k + 1)) = ((planL xs cf.d room (l.take k)).1.set i (stp x cf.d (room - (planL xs cf.d room (l.take k)).2.length)), (planL xs cf.d room (l.take k)).2 ++ asl x (tk x (room - (planL xs cf.d room (l.take k)).2.length))) by
        rw [htk, HPL.out]
        unfold plan1
        rw [hx, Option.getD_some])
      have hl1 := HLEN.out (l.take k)
      obtain ⟨g10, c10, rfl, hLc⟩ : ∃ g10 c10, v10 = .slice (some ⟨g10, 0, none⟩) L c10 ∧ L ≤ c10 := by
        rcases HR.out.2 with ⟨-, h0⟩ | ⟨g, c, cur, e1, -, -, hle, -⟩
        · omega
        · exact ⟨g, c, e1, hle⟩
      obtain ⟨y, rfl⟩ := rw_some R1.out (by rw [HL.out]; omega)
      obtain ⟨K1, K2⟩ := K10.out g10 rfl
      have hyl := HA.out y rfl (by omega)
      have RW := Lib.hid (show Rw eW wr (some y) xs from R2.out.grown HG.out (fun y' hy' => by
        obtain rfl := Option.some.inj hy'
        show some y.block ≠ some g10
        intro e
        injection e with e
        omega))
      have CF := Lib.hid (show wr.cell? ⟨w.heap.size, 3, none⟩ = some (.int .i64 cf.d) from HG.out.cell (a := ⟨w.heap.size, 3, none⟩) (by rw [B2.out.cell (p := ⟨w.heap.size, 3, none⟩) (by show w.heap.size < W0.heap.size; omega)]; exact C0.out.c3) (by
        show some w.heap.size ≠ some g10
        intro e
        injection e with e
        omega))
      obtain ⟨z, rfl⟩ := rw_some RT.out (by rw [HM.out]; omega)
      have cN : wr.cell? (z.add k) = some (.int .i64 (i : Int)) := by
        have h1 := (RT.out.grown HG.out (fun y' hy' => by
          obtain rfl := Option.some.inj hy'
          have := HAT.out z rfl
          show some z.block ≠ some g10
          intro e
          injection e with e
          omega)).at hi 0 _ rfl
        rwa [Addr.add_add, show k * eN.N + 0 = k by show k * 1 + 0 = k; omega] at h1
      have HX := Lib.hid hx
      clear hx htk hi
      generalize planL xs cf.d room (l.take k) = s at *
      obtain ⟨s1, s2⟩ := s
      dsimp only at *
      have hQe : IntKind.i64.wrap (room - (s2.length : Int)) = room - (s2.length : Int) := by rw [IntKind.wrap_i64]; omega
      have HQW := Lib.hid hQe
      have HAK := Lib.hid fun W => ask_any x cf.d (room - (s2.length : Int)) W HS.out.a0 HS.out.a1 HS.out.ok HS.out.p HS.out.n0 HS.out.n1 (by omega) (by omega)
      obtain ⟨y2, hy2⟩ : ∃ y2, stp x cf.d (room - (s2.length : Int)) = y2 := ⟨_, rfl⟩
      obtain ⟨zs, hzs⟩ : ∃ zs, asl x (tk x (room - (s2.length : Int))) = zs := ⟨_, rfl⟩
      have hzl : zs.length ≤ 256 := by rw [← hzs, asl_len]; exact tk_le HS.out _
      rw [hy2, hzs] at HN HAK
      clear hy2 hzs hQe
      have HNW := Lib.hid (show wr.heap.size ≤ wr.heap.size from Nat.le_refl _)
      have hK2 : g10 < W2.heap.size := by have := H12.out; omega
      have hg10 : g10 < wr.heap.size := by have := HG.out.size; omega
      go_upto_region 6 with fail
      refine wp_region_store [fx (.slice (some y) L cap), fx (.int .i64 (i : Int)), fx (.pointer (some (y.add (i * 4)))), fx (.agg #[.int .u32 x.a, .int .i64 x.b, .int .i64 x.d, .int .i64 x.n]), fx (.pointer (some ⟨w.heap.size, 3, none⟩)), fx (.int .i64 cf.d), fx (.int .i64 room), fx (.slice A3 s2.length c3), fx (.int .i64 (s2.length : Int)), fx (.int .i64 (room - (s2.length : Int))), aF wr.heap.size y2 zs, aF wr.heap.size y2 zs, fx (.agg #[.int .u32 y2.a, .int .i64 y2.b, .int .i64 y2.d, .int .i64 y2.n]), bF wr.heap.size zs, tT, tT, bF wr.heap.size zs] 14 15 (Swx zw) (fun W g => Wb W g y2)
        (by kernel_rfl) (by kernel_rfl) (by kernel_rfl) (by kernel_rfl) (by simp) (by simp) (by decide) ?_ rfl rfl ?_ ?_ ?_ ?_ ?_
      · simp only [List.mem_cons, List.not_mem_nil, or_false]
        rintro φ (rfl | rfl | rfl | rfl | rfl | rfl | rfl | rfl | rfl | rfl | rfl | rfl | rfl | rfl | rfl | rfl | rfl)
        all_goals first | exact ⟨stable_fx _, turned_fx _ _⟩ | exact ⟨stable_tT, turned_tT _⟩ | exact ⟨stable_aF _ _ _, turned_aF _ _ _⟩ | exact ⟨stable_bF _ _, turned_bF _ _⟩
      · exact fun _ _ _ h hb => h.below hb
      · refine StSteps.cons ?_ (StSteps.cons ?_ (StSteps.cons ?_ (StSteps.cons ?_ (StSteps.cons ?_ (StSteps.cons ?_ (StSteps.cons ?_ (StSteps.cons ?_ (StSteps.cons ?_ (StSteps.cons ?_ (StSteps.cons ?_ (StSteps.cons ?_ (StSteps.cons ?_ (StSteps.cons ?_ (StSteps.cons ?_ (StSteps.cons ?_ (StSteps.cons ?_ (StSteps.nil)))))))))))))))))
        · intro _ _
          refine OgStep.pure ?_ ?_
          · rfl
          intro u W hS hp
          refine ⟨.slice (some y) L cap, ?_, rfl⟩
          simp only [ogMk, Act.put, List.setIfInBounds_toArray, List.set_cons_zero, List.set_cons_succ, Nat.zero_add, Nat.reduceAdd, List.take_succ_cons, List.take_zero, List.drop_succ_cons, List.drop_zero]
          simp [execOp, Act.eval, go_sem]
        · intro _ _
          refine OgStep.pure ?_ ?_
          · rfl
          intro u W hS hp
          refine ⟨.int .i64 (i : Int), ?_, rfl⟩
          simp only [ogMk, Act.put, List.setIfInBounds_toArray, List.set_cons_zero, List.set_cons_succ, Nat.zero_add, Nat.reduceAdd, List.take_succ_cons, List.take_zero, List.drop_succ_cons, List.drop_zero]
          simp [execOp, Act.eval, go_sem]
        · intro _ _
          refine OgStep.pure ?_ ?_
          · rfl
          intro u W hS hp
          have h0 : u 0 = .slice (some y) L cap := hp ⟨0, .data⟩ (by simp) rfl
          have h1 : u 1 = .int .i64 (i : Int) := hp ⟨1, .data⟩ (by simp) rfl
          refine ⟨.pointer (some (y.add (i * 4))), ?_, rfl⟩
          simp only [ogMk, Act.put, List.setIfInBounds_toArray, List.set_cons_zero, List.set_cons_succ, Nat.zero_add, Nat.reduceAdd, List.take_succ_cons, List.take_zero, List.drop_succ_cons, List.drop_zero]
          simp [execOp, Act.eval, go_sem, h0, h1, hiL]
        · intro _ _
          refine OgStep.pure ?_ ?_
          · rfl
          intro u W hS hp
          have h2 : u 2 = .pointer (some (y.add (i * 4))) := hp ⟨2, .data⟩ (by simp) rfl
          obtain ⟨c0, -, -, -⟩ := rw_c0 (RW.out.below hS) HX.out
          obtain ⟨f1, f2, f3⟩ := rw_f (RW.out.below hS) HX.out
          refine ⟨.agg #[.int .u32 x.a, .int .i64 x.b, .int .i64 x.d, .int .i64 x.n], ?_, rfl⟩
          simp only [ogMk, Act.put, List.setIfInBounds_toArray, List.set_cons_zero, List.set_cons_succ, Nat.zero_add, Nat.reduceAdd, List.take_succ_cons, List.take_zero, List.drop_succ_cons, List.drop_zero]
          simp [execOp, Act.eval, go_sem, h2, c0, f1, f2, f3]
        · intro _ _
          refine OgStep.pure ?_ ?_
          · rfl
          intro u W hS hp
          refine ⟨.pointer (some ⟨w.heap.size, 3, none⟩), ?_, rfl⟩
          simp only [ogMk, Act.put, List.setIfInBounds_toArray, List.set_cons_zero, List.set_cons_succ, Nat.zero_add, Nat.reduceAdd, List.take_succ_cons, List.take_zero, List.drop_succ_cons, List.drop_zero]
          simp [execOp, Act.eval, go_sem]
        · intro _ _
          refine OgStep.pure ?_ ?_
          · rfl
          intro u W hS hp
          have h4 : u 4 = .pointer (some ⟨w.heap.size, 3, none⟩) := hp ⟨4, .data⟩ (by simp) rfl
          have R : W.cell? ⟨w.heap.size, 3, none⟩ = some (.int .i64 cf.d) := by rw [hS.cell (p := ⟨w.heap.size, 3, none⟩) (World.block_lt_of_cell? _ _ CF.out)]; exact CF.out
          refine ⟨.int .i64 cf.d, ?_, rfl⟩
          simp only [ogMk, Act.put, List.setIfInBounds_toArray, List.set_cons_zero, List.set_cons_succ, Nat.zero_add, Nat.reduceAdd, List.take_succ_cons, List.take_zero, List.drop_succ_cons, List.drop_zero]
          simp [execOp, Act.eval, go_sem, h4, R]
        · intro _ _
          refine OgStep.pure ?_ ?_
          · rfl
          intro u W hS hp
          refine ⟨.int .i64 room, ?_, rfl⟩
          simp only [ogMk, Act.put, List.setIfInBounds_toArray, List.set_cons_zero, List.set_cons_succ, Nat.zero_add, Nat.reduceAdd, List.take_succ_cons, List.take_zero, List.drop_succ_cons, List.drop_zero]
          simp [execOp, Act.eval, go_sem]
        · intro _ _
          refine OgStep.pure ?_ ?_
          · rfl
          intro u W hS hp
          refine ⟨.slice A3 s2.length c3, ?_, rfl⟩
          simp only [ogMk, Act.put, List.setIfInBounds_toArray, List.set_cons_zero, List.set_cons_succ, Nat.zero_add, Nat.reduceAdd, List.take_succ_cons, List.take_zero, List.drop_succ_cons, List.drop_zero]
          simp [execOp, Act.eval, go_sem]
        · intro _ _
          refine OgStep.pure ?_ ?_
          · rfl
          intro u W hS hp
          have h7 : u 7 = .slice A3 s2.length c3 := hp ⟨7, .data⟩ (by simp) rfl
          refine ⟨.int .i64 (s2.length : Int), ?_, rfl⟩
          simp only [ogMk, Act.put, List.setIfInBounds_toArray, List.set_cons_zero, List.set_cons_succ, Nat.zero_add, Nat.reduceAdd, List.take_succ_cons, List.take_zero, List.drop_succ_cons, List.drop_zero]
          simp [execOp, Act.eval, go_sem, h7]
        · intro _ _
          refine OgStep.pure ?_ ?_
          · rfl
          intro u W hS hp
          have h6 : u 6 = .int .i64 room := hp ⟨6, .data⟩ (by simp) rfl
          have h8 : u 8 = .int .i64 (s2.length : Int) := hp ⟨8, .data⟩ (by simp) rfl
          have R := HQW.out
          refine ⟨.int .i64 (room - (s2.length : Int)), ?_, rfl⟩
          simp only [ogMk, Act.put, List.setIfInBounds_toArray, List.set_cons_zero, List.set_cons_succ, Nat.zero_add, Nat.reduceAdd, List.take_succ_cons, List.take_zero, List.drop_succ_cons, List.drop_zero]
          simp [execOp, Act.eval, go_sem, h6, h8, R]
        · intro _ _
          refine OgStep.calls ?_ ?_
          · rfl
          intro u W hS hp
          have h3 : u 3 = .agg #[.int .u32 x.a, .int .i64 x.b, .int .i64 x.d, .int .i64 x.n] := hp ⟨3, .data⟩ (by simp) rfl
          have h5 : u 5 = .int .i64 cf.d := hp ⟨5, .data⟩ (by simp) rfl
          have h9 : u 9 = .int .i64 (room - (s2.length : Int)) := hp ⟨9, .data⟩ (by simp) rfl
          refine ⟨112, #[.agg #[.int .u32 x.a, .int .i64 x.b, .int .i64 x.d, .int .i64 x.n], .int .i64 cf.d, .int .i64 (room - (s2.length : Int))], ?_, (HAK.out W).mono fun e w' ⟨v, he, ho, hb⟩ => ⟨_, he, hb, v, rfl, own_base ho hS.size⟩⟩
          simp only [ogMk, Act.put, List.setIfInBounds_toArray, List.set_cons_zero, List.set_cons_succ, Nat.zero_add, Nat.reduceAdd, List.take_succ_cons, List.take_zero, List.drop_succ_cons, List.drop_zero]
          simp [execOp, Act.eval, go_sem, h3, h5, h9]
        · intro _ _
          refine OgStep.pure ?_ ?_
          · rfl
          intro u W hS hp
          have h10 : aF wr.heap.size y2 zs (u 10) W := hp ⟨10, .data⟩ (by simp) rfl
          refine ⟨u 10, ?_, h10⟩
          simp only [ogMk, Act.put, List.setIfInBounds_toArray, List.set_cons_zero, List.set_cons_succ, Nat.zero_add, Nat.reduceAdd, List.take_succ_cons, List.take_zero, List.drop_succ_cons, List.drop_zero]
          simp [execOp, Act.eval, go_sem]
        · intro _ _
          refine OgStep.pure ?_ ?_
          · rfl
          intro u W hS hp
          obtain ⟨v', h11, hv'⟩ : aF wr.heap.size y2 zs (u 11) W := hp ⟨11, .data⟩ (by simp) rfl
          refine ⟨.agg #[.int .u32 y2.a, .int .i64 y2.b, .int .i64 y2.d, .int .i64 y2.n], ?_, rfl⟩
          simp only [ogMk, Act.put, List.setIfInBounds_toArray, List.set_cons_zero, List.set_cons_succ, Nat.zero_add, Nat.reduceAdd, List.take_succ_cons, List.take_zero, List.drop_succ_cons, List.drop_zero]
          rw [h11]
          simp [execOp, Act.eval, go_sem]
        · intro _ _
          refine OgStep.pure ?_ ?_
          · rfl
          intro u W hS hp
          obtain ⟨v', h11, hv'⟩ : aF wr.heap.size y2 zs (u 11) W := hp ⟨11, .data⟩ (by simp) rfl
          refine ⟨v', ?_, hv'⟩
          simp only [ogMk, Act.put, List.setIfInBounds_toArray, List.set_cons_zero, List.set_cons_succ, Nat.zero_add, Nat.reduceAdd, List.take_succ_cons, List.take_zero, List.drop_succ_cons, List.drop_zero]
          rw [h11]
          simp [execOp, Act.eval, go_sem]
        · intro h h'
          exact (h rfl).elim
        · intro h h'
          exact (h' rfl).elim
        · intro _ _
          refine OgStep.pure ?_ ?_
          · rfl
          intro u W hS hp
          have h13 : bF wr.heap.size zs (u 13) W := hp ⟨13, .data⟩ (by simp) rfl
          refine ⟨u 13, ?_, h13⟩
          simp only [ogMk, Act.put, List.setIfInBounds_toArray, List.set_cons_zero, List.set_cons_succ, Nat.zero_add, Nat.reduceAdd, List.take_succ_cons, List.take_zero, List.drop_succ_cons, List.drop_zero]
          simp [execOp, Act.eval, go_sem]
      · intro o ho
        simp only [List.getElem?_cons_succ, List.getElem?_cons_zero, Option.some.injEq] at ho
        subst ho
        refine ⟨rfl, fun u W => wp_value (v := .pointer (some ⟨W.heap.size, 0, none⟩)) (w' := W.alloc (Swx zw)) ?_ ⟨rfl, (Below.refl _ W).alloc (Nat.le_refl _) _, heap_alloc_new _ _⟩⟩
        simp only [ogMk, Act.put, List.setIfInBounds_toArray, List.set_cons_zero, List.set_cons_succ, Nat.zero_add, Nat.reduceAdd, List.take_succ_cons, List.take_zero, List.drop_succ_cons, List.drop_zero]
        simp [execOp, Act.eval, go_sem, Swx, zw]
      · intro o ho
        simp only [List.getElem?_cons_succ, List.getElem?_cons_zero, Option.some.injEq] at ho
        subst ho
        refine ⟨rfl, by kernel_rfl, fun u W g h14 hz hp => ?_⟩
        have h12 : u 12 = .agg #[.int .u32 y2.a, .int .i64 y2.b, .int .i64 y2.d, .int .i64 y2.n] := hp ⟨12, .data⟩ (by simp) rfl
        with_reducible refine st_put (.tmp 14) (.tmp 38) g y2 ?_ ?_ ?_ hz
        · rfl
        · simp only [ogMk, Act.put, List.setIfInBounds_toArray, List.set_cons_zero, List.set_cons_succ, Nat.zero_add, Nat.reduceAdd, List.take_succ_cons, List.take_zero, List.drop_succ_cons, List.drop_zero]
          simp [Act.eval, h14]
        · simp only [ogMk, Act.put, List.setIfInBounds_toArray, List.set_cons_zero, List.set_cons_succ, Nat.zero_add, Nat.reduceAdd, List.take_succ_cons, List.take_zero, List.drop_succ_cons, List.drop_zero]
          simp [Act.eval, h12, swv]
      · intro u W g hS hF e14 hg1 hgV
        have hz16 : bF wr.heap.size zs (u 16) W := hF 16 (by decide)
        have e0 : u 0 = .slice (some y) L cap := hF 0 (by decide)
        have e1 : u 1 = .int .i64 (i : Int) := hF 1 (by decide)
        have e2 : u 2 = .pointer (some (y.add (i * 4))) := hF 2 (by decide)
        have e3 : u 3 = .agg #[.int .u32 x.a, .int .i64 x.b, .int .i64 x.d, .int .i64 x.n] := hF 3 (by decide)
        have e4 : u 4 = .pointer (some ⟨w.heap.size, 3, none⟩) := hF 4 (by decide)
        have e5 : u 5 = .int .i64 cf.d := hF 5 (by decide)
        have e6 : u 6 = .int .i64 room := hF 6 (by decide)
        have e7 : u 7 = .slice A3 s2.length c3 := hF 7 (by decide)
        have e8 : u 8 = .int .i64 (s2.length : Int) := hF 8 (by decide)
        have e9 : u 9 = .int .i64 (room - (s2.length : Int)) := hF 9 (by decide)
        have e12 : u 12 = .agg #[.int .u32 y2.a, .int .i64 y2.b, .int .i64 y2.d, .int .i64 y2.n] := hF 12 (by decide)
        simp only [ogMk, Act.put, List.setIfInBounds_toArray, List.set_cons_zero, List.set_cons_succ, Nat.zero_add, Nat.reduceAdd, List.take_succ_cons, List.take_zero, List.drop_succ_cons, List.drop_zero]
        rw [e14, e0, e1, e2, e3, e4, e5, e6, e7, e8, e9, e12]
        clear e14 e0 e1 e2 e3 e4 e5 e6 e7 e8 e9 e12 hF
        generalize u 16 = vz at *
        have B6 := Lib.hid hS
        have HG3 := Lib.hid hgV
        have HZ5 := Lib.hid hz16
        clear hS hg1 hgV hz16
        obtain ⟨Az, cz, rfl, -⟩ := own_rw (E := eA) HZ5.out (by omega)
        have hlen : s2.length + zs.length ≤ 1000000000000 := by omega
        have hw2 : W2.heap.size ≤ wr.heap.size := HG.out.size
        obtain ⟨p0, p1, p2', p3⟩ := HG3.out.c
        have HR5 := Lib.hid (own_keep HR.out B6.out)
        have HQ5 := Lib.hid (own_keep HQ.out B6.out)
        go_wp2_with (first
          | (refine at_storeRow _ _ W0.heap.size g10 L c10 i s1 y2 HR5.out hl1 hiL rfl rfl rfl rfl ?_; intro w6 HR6 G6; have HQ6 := Lib.hid (HQ5.out.kept G6.out (.inr fun e => by have := (HQ5.out.lt g10 e).1; omega)); have HZ6 := Lib.hid (HZ5.out.kept G6.out (.inr fun e => by have := (HZ5.out.lt g10 e).1; omega)); have RZ6 := Lib.hid (own_slice (E := eA) HZ6.out (by omega)); have hb6 := Lib.hid (show W2.heap.size ≤ w6.heap.size from Nat.le_trans hw2 (Nat.le_trans B6.out.size G6.out.size)))
          | (at_builtin; refine wpList_append_rw tA _ rfl (.tmp 44) (.tmp 45) rfl W2.heap.size _ _ _ (by simp [Act.eval, Act.put]) HQ6.out Az zs.length cz zs (by simp [Act.eval, Act.put]) rfl RZ6.out hlen hb6.out ?_))
        intro v7 w7 ho7 hg7
        have hgr : ∀ k', (Value.slice A3 s2.length c3).ownBlock = some k' → W2.heap.size ≤ k' := fun k' hk' => (HQ6.out.lt k' hk').1
        have HR7 := Lib.hid (HR6.out.kept hg7 (.inr fun e => by have h1 := hgr g10 e.symm; omega))
        have HQ7 := Lib.hid ho7
        have HG7 := Lib.hid (grown_trans (grown_trans (grown_trans HG.out (grown_below B6.out none) (fun k' e => by cases e)) G6.out (fun k' e => .inl e.symm)) hg7 (fun k' e => .inr (hgr k' e)))
        obtain ⟨A7, c7, rfl, -⟩ := own_rw (E := eA) (xs := s2 ++ zs) ho7 (by rw [List.length_append]; omega)
        clear ho7 hg7 hgr
        go_wp2_with fail
        go_roundw
        case rel => exact ⟨k + 1, by go_num, by omega, by rw [HN.out]; exact HR7, by rw [HN.out]; exact Lib.hid (by have h7 := HQ7.out; rw [← List.length_append] at h7; exact h7), HG7, A7, c7, by rw [HN.out]⟩
        case measure => simp [intOf]; omega
    · obtain rfl : k = m := by omega
      have hkl : l.take k = l := List.take_of_length_le (by rw [HM.out]; exact Nat.le_refl _)
      rw [hkl] at HR HQ ⊢
      have hl1 := HLEN.out l
      have hq0 := HFEW.out l (fun i hi => by
        have := ((HO.out.mem i).1 hi).1
        rwa [HL.out] at this)
      rw [HM.out] at hq0
      obtain ⟨A1', c1, rfl, hcc⟩ : ∃ A' c', v10 = .slice A' L c' ∧ L ≤ c' := by
        rcases HR.out.2 with ⟨e1, h0⟩ | ⟨g, c, cur, e1, -, -, hle, -⟩
        · exact ⟨none, 0, by rw [e1, h0], by omega⟩
        · exact ⟨some ⟨g, 0, none⟩, c, e1, hle⟩
      have RR := Lib.hid (own_slice (E := eW) HR.out (by rw [hl1]; omega))
      have RQ := Lib.hid (own_slice (E := eA) HQ.out (by omega))
      have BB := Lib.hid (HB0.out.trans ((B2.out.grown HG.out (by have := B2.out.size; omega) (fun k' hk' => (K10.out k' hk').1)).mono HB0.out.size))
      go_wp2_with fail
      go_ret2
      refine ⟨A1', c1, A3, c3, ?_, ?_, ?_, ?_, BB.out, fun y hy => Nat.le_trans HB0.out.size (HR.out.lt y.block (by rw [hy]; rfl)).1, fun y hy => Nat.le_trans (Nat.le_trans HB0.out.size B2.out.size) (HQ.out.lt y.block (by rw [hy]; rfl)).1⟩
      · rw [HPO.out, hl1]; rfl
      · rw [HPO.out, hl1]; exact hcc
      · rw [HPO.out]; exact RR.out
      · rw [HPO.out]; exact RQ.out
end Go.Proofs.YtilneflfeegnfaaGreat.Sw
namespace Go.Proofs.YtilneflfeegnfaaGreat.Sw
theorem at_of_lt {xs : List Sw} {k : Nat} (h : k < xs.length) : ∃ x, xs[k]? = some x := ⟨_, List.getElem?_eq_getElem h⟩
def lrB (x : Sw) : Bool := okB x.a x.b && decide (24 ≤ x.b) && decide (0 ≤ x.d) && decide (x.d ≤ 1099511627776) && decide (0 ≤ x.n) && decide (x.n < p2 x.b)
def lfB (xs : List Sw) (i : Nat) : Bool := decide (i = 0) || match xs[i - 1]?, xs[i]? with
  | some p, some x => decide (p.a < x.a) && decide (p.a + p2 p.b ≤ x.a)
  | _, _ => false
def lk (xs : List Sw) (i : Nat) : Bool := match xs[i]? with
  | some x => lrB x && lfB xs i
  | none => true
def lgB (xs : List Sw) : Bool := (List.range xs.length).all (lk xs) && decide (xs.length ≤ 16)
theorem lrB_out {x : Sw} (h : lrB x = true) : okB x.a x.b = true ∧ 24 ≤ x.b ∧ x.b ≤ 32 ∧ 0 ≤ x.d ∧ x.d ≤ 1099511627776 ∧ 0 ≤ x.n ∧ x.n < p2 x.b := by
  unfold lrB at h
  simp only [Bool.and_eq_true, decide_eq_true_eq] at h
  obtain ⟨⟨⟨⟨⟨h1, h2⟩, h3⟩, h4⟩, h5⟩, h6⟩ := h
  exact ⟨h1, h2, (ok_out h1).2.1, h3, h4, h5, h6⟩
open Go.RowKit
theorem p2_24 {b : Int} (h0 : 0 ≤ b) (h1 : b ≤ 32) : p2 b ≤ 256 ↔ 24 ≤ b := by
  constructor
  · intro h
    by_cases hb : 24 ≤ b
    · exact hb
    · have hd := p2_dvd (show b ≤ 23 by omega)
      have h23 : p2 23 = 512 := by decide
      have := Int.le_of_dvd (p2_pos b) hd
      omega
  · intro h
    have hd := p2_dvd (show 24 ≤ b from h)
    have h24 : p2 24 = 256 := by decide
    have := Int.le_of_dvd (p2_pos 24) hd
    omega
theorem over_comm (a b c d : Int) : overB a b c d = overB c d a b := by unfold overB; rw [Bool.or_comm]
theorem has_iff {base b x : Int} : hasB base b x = true ↔ okB base b = true ∧ x - x % p2 b = base := by simp [hasB]
theorem within_iff {a b c d : Int} : withinB a b c d = true ↔ okB a b = true ∧ hasB c d a = true ∧ d ≤ b := by simp [withinB, and_assoc]
theorem over_ahead {a b c d : Int} (h1 : okB a b = true) (h2 : okB c d = true) (hlt : a < c) : overB a b c d = decide (c < a + p2 b) := by
  obtain ⟨b0, b1, bm⟩ := ok_out h1
  obtain ⟨d0, d1, dm⟩ := ok_out h2
  have pb := p2_pos b
  have pd := p2_pos d
  have hw1 : withinB a b c d = false := by
    rw [Bool.eq_false_iff]
    intro h
    obtain ⟨-, h, -⟩ := within_iff.1 h
    have := (has_iff.1 h).2
    have := Int.emod_nonneg a (show p2 d ≠ 0 by omega)
    omega
  unfold overB
  rw [hw1, Bool.false_or, Bool.eq_iff_iff, within_iff, decide_eq_true_iff]
  constructor
  · rintro ⟨-, h, -⟩
    have h3 := (has_iff.1 h).2
    have := Int.emod_lt_of_pos c pb
    omega
  · intro h
    have hcm : c % p2 b = c - a := by
      have e : c = (c - a) + a := by omega
      rw [e, Int.add_emod, bm, Int.add_zero, Int.emod_emod_of_dvd _ (Int.dvd_refl _), Int.emod_eq_of_lt (by omega) (by omega)]
      omega
    refine ⟨h2, has_iff.2 ⟨h1, by omega⟩, ?_⟩
    by_cases hbd : b ≤ d
    · exact hbd
    · exfalso
      have hd := p2_dvd (show d ≤ b by omega)
      have hc : c % p2 b = 0 := Int.emod_eq_zero_of_dvd (Int.dvd_trans hd (Int.dvd_of_emod_eq_zero dm))
      omega
theorem over_same {a b d : Int} (h1 : okB a b = true) (h2 : okB a d = true) : overB a b a d = true := by
  obtain ⟨b0, b1, bm⟩ := ok_out h1
  obtain ⟨d0, d1, dm⟩ := ok_out h2
  unfold overB
  rw [Bool.or_eq_true, within_iff, within_iff]
  by_cases h : d ≤ b
  · exact .inl ⟨h1, has_iff.2 ⟨h2, by omega⟩, h⟩
  · exact .inr ⟨h2, has_iff.2 ⟨h1, by omega⟩, by omega⟩
def ap (p x : Sw) : Prop := p.a + p2 p.b ≤ x.a
theorem ap_lt {p x : Sw} (h : ap p x) : p.a < x.a := by have := p2_pos p.b; unfold ap at h; omega
theorem ap_trans {p x y : Sw} (h : ap p x) (g : ap x y) : ap p y := by have := p2_pos x.b; unfold ap at *; omega
theorem rs_lr (x : Sw) : rsB x = lrB x := by
  unfold rsB lrB
  cases hok : okB x.a x.b
  · simp
  · obtain ⟨h0, h1, -⟩ := ok_out hok
    have e1 : decide (p2 x.b ≤ 256) = decide (24 ≤ x.b) := by rw [Bool.eq_iff_iff, decide_eq_true_iff, decide_eq_true_iff]; exact p2_24 h0 h1
    have e2 : decide (x.d = cl x.d) = (decide (0 ≤ x.d) && decide (x.d ≤ 1099511627776)) := by
      rw [Bool.eq_iff_iff, Bool.and_eq_true, decide_eq_true_iff, decide_eq_true_iff, decide_eq_true_iff]
      constructor
      · intro h; have := cl_ge x.d; have := cl_le x.d; omega
      · rintro ⟨h, g⟩; exact (cl_in h g).symm
    rw [e1, e2]
    simp [Bool.and_assoc]
structure Vr (xs : List Sw) : Prop where
  few : xs.length ≤ 16
  each : ∀ x ∈ xs, lrB x = true
  rise : xs.Pairwise ap
theorem chain_pw {xs : List Sw} (h : ∀ i p x, xs[i]? = some p → xs[i + 1]? = some x → ap p x) : xs.Pairwise ap := by
  rw [List.pairwise_iff_getElem]
  intro i j hi hj hij
  have key : ∀ n, ∀ j (hj : j < xs.length), j = i + 1 + n → ap xs[i] xs[j] := by
    intro n
    induction n with
    | zero => intro j hj e; subst e; exact h i _ _ (List.getElem?_eq_getElem hi) (List.getElem?_eq_getElem hj)
    | succ n ih =>
      intro j hj e
      have h1 := ih (j - 1) (by omega) (by omega)
      have h2 := h (j - 1) _ _ (List.getElem?_eq_getElem (by omega)) (by rw [show j - 1 + 1 = j by omega]; exact List.getElem?_eq_getElem hj)
      exact ap_trans h1 h2
  exact key (j - i - 1) j hj (by omega)
theorem lg_iff (xs : List Sw) : lgB xs = true ↔ Vr xs := by
  unfold lgB
  rw [Bool.and_eq_true, List.all_eq_true, decide_eq_true_iff]
  constructor
  · rintro ⟨h, hn⟩
    have hk : ∀ i x, xs[i]? = some x → lrB x = true ∧ lfB xs i = true := fun i x hx => by
      have := h i (List.mem_range.2 (List.getElem?_eq_some_iff.1 hx).1)
      unfold lk at this
      rw [hx] at this
      simpa using this
    refine ⟨hn, fun x hx => ?_, chain_pw fun i p x hp hx => ?_⟩
    · obtain ⟨i, hi, rfl⟩ := List.mem_iff_getElem.1 hx
      exact (hk i _ (List.getElem?_eq_getElem hi)).1
    · have := (hk (i + 1) x hx).2
      unfold lfB at this
      rw [decide_eq_false (by omega), Nat.add_sub_cancel, hp, hx] at this
      simp at this
      exact this.2
  · rintro ⟨hn, he, hr⟩
    refine ⟨fun i hi => ?_, hn⟩
    have hi' := List.mem_range.1 hi
    unfold lk
    rw [List.getElem?_eq_getElem hi']
    simp only [Bool.and_eq_true]
    refine ⟨he _ (List.getElem_mem hi'), ?_⟩
    unfold lfB
    by_cases h0 : i = 0
    · rw [decide_eq_true h0]; rfl
    · have hp := List.pairwise_iff_getElem.1 hr (i - 1) i (by omega) hi' (by omega)
      rw [decide_eq_false h0, List.getElem?_eq_getElem (by omega), List.getElem?_eq_getElem hi']
      simp only [Bool.false_or, Bool.and_eq_true, decide_eq_true_eq]
      exact ⟨ap_lt hp, hp⟩
theorem rg_iff (xs : List Sw) : rgB xs = true ↔ Vr xs := by
  unfold rgB
  rw [Bool.and_eq_true, List.all_eq_true, decide_eq_true_iff]
  constructor
  · rintro ⟨hn, h⟩
    have hk : ∀ i x, xs[i]? = some x → ris xs i = true ∧ rsB x = true ∧ anyB (xs.take i) x.a x.b = false := fun i x hx => by
      have := h i (List.mem_range.2 (List.getElem?_eq_some_iff.1 hx).1)
      unfold rk at this
      rw [hx] at this
      simpa [and_assoc] using this
    refine ⟨hn, fun x hx => ?_, chain_pw fun i p x hp hx => ?_⟩
    · obtain ⟨i, hi, rfl⟩ := List.mem_iff_getElem.1 hx
      rw [← rs_lr]
      exact (hk i _ (List.getElem?_eq_getElem hi)).2.1
    · obtain ⟨h1, h2, h3⟩ := hk (i + 1) x hx
      have h4 := (hk i p hp).2.1
      rw [rs_lr] at h2 h4
      unfold ris at h1
      rw [decide_eq_false (by omega), Nat.add_sub_cancel, hp, hx] at h1
      have hlt : p.a < x.a := by simpa using h1
      unfold anyB at h3
      rw [List.any_eq_false] at h3
      have h5 := h3 p (by
        obtain ⟨hi, e⟩ := List.getElem?_eq_some_iff.1 hp
        rw [← e]
        exact List.mem_iff_getElem.2 ⟨i, by rw [List.length_take]; omega, by rw [List.getElem_take]⟩)
      rw [over_ahead (lrB_out h4).1 (lrB_out h2).1 hlt] at h5
      unfold ap
      simpa using h5
  · rintro ⟨hn, he, hr⟩
    refine ⟨hn, fun i hi => ?_⟩
    have hi' := List.mem_range.1 hi
    unfold rk
    rw [List.getElem?_eq_getElem hi']
    simp only [Bool.and_eq_true, Bool.not_eq_true', rs_lr]
    refine ⟨⟨?_, he _ (List.getElem_mem hi')⟩, ?_⟩
    · unfold ris
      by_cases h0 : i = 0
      · rw [decide_eq_true h0]; rfl
      · have hp := List.pairwise_iff_getElem.1 hr (i - 1) i (by omega) hi' (by omega)
        rw [decide_eq_false h0, List.getElem?_eq_getElem (by omega), List.getElem?_eq_getElem hi']
        simp only [Bool.false_or, decide_eq_true_eq]
        exact ap_lt hp
    · unfold anyB
      rw [List.any_eq_false]
      intro p hp
      obtain ⟨j, hj, rfl⟩ := List.mem_iff_getElem.1 hp
      rw [List.length_take] at hj
      rw [List.getElem_take]
      have hpx := List.pairwise_iff_getElem.1 hr j i (by omega) hi' (by omega)
      rw [over_ahead (lrB_out (he _ (List.getElem_mem _))).1 (lrB_out (he _ (List.getElem_mem _))).1 (ap_lt hpx)]
      unfold ap at hpx
      simpa using hpx
theorem vr_nil : Vr [] := ⟨by simp, by simp, List.Pairwise.nil⟩
theorem sv_of {x : Sw} (h : lrB x = true) (h0 : 0 ≤ x.a) (h1 : x.a < 4294967296) : Sv x := by
  obtain ⟨a1, a2, a3, a4, a5, a6, a7⟩ := lrB_out h
  exact ⟨h0, h1, a1, (p2_24 (by omega) a3).2 a2, a6, a7⟩
structure V (xs : List Sw) : Prop where
  r : Vr xs
  u : Au xs
theorem V.nil : V [] := ⟨vr_nil, fun x hx => by simp at hx⟩
theorem V.sv {xs : List Sw} (h : V xs) : ∀ x ∈ xs, Sv x := fun x hx => sv_of (h.r.each x hx) (h.u x hx).1 (h.u x hx).2
theorem lo_split {xs : List Sw} (hr : xs.Pairwise ap) (a : Int) : (∀ x ∈ xs.take (lo xs a), x.a < a) ∧ (∀ x ∈ xs.drop (lo xs a), ¬ x.a < a) := by
  refine ⟨fun x hx => ?_, fun x hx => ?_⟩
  · obtain ⟨j, hj, rfl⟩ := List.mem_iff_getElem.1 hx
    rw [List.length_take] at hj
    rw [List.getElem_take]
    exact lo_lt a xs j _ (by omega) (List.getElem?_eq_getElem (by omega))
  · obtain ⟨j, hj, rfl⟩ := List.mem_iff_getElem.1 hx
    rw [List.length_drop] at hj
    rw [List.getElem_drop]
    have hg := lo_ge a xs xs[lo xs a] (List.getElem?_eq_getElem (by omega))
    by_cases h0 : j = 0
    · subst h0; simpa using hg
    · have := ap_lt (List.pairwise_iff_getElem.1 hr (lo xs a) (lo xs a + j) (by omega) (by omega) (by omega))
      omega
theorem put_ok {xs : List Sw} (h : V xs) {a b now : Int} (ha0 : 0 ≤ a) (ha1 : a < 4294967296) (hc : putC xs a b = 0) : V (putR xs a b now) ∧ (putR xs a b now).length = xs.length + 1 ∧ putR xs a b now = ins xs ⟨a, b, cl now, 0⟩ := by
  have e : putR xs a b now = ins xs ⟨a, b, cl now, 0⟩ := by unfold putR; rw [if_pos hc]
  unfold putC at hc
  by_cases hok : okB a b = false
  · rw [if_pos hok] at hc; omega
  · rw [if_neg hok] at hc
    have hok' : okB a b = true := by simpa using hok
    by_cases h2 : 256 < p2 b
    · rw [if_pos h2] at hc; omega
    · rw [if_neg h2] at hc
      by_cases h3 : anyB xs a b = true
      · rw [if_pos h3] at hc; omega
      · rw [if_neg h3] at hc
        by_cases h4 : 16 ≤ xs.length
        · rw [if_pos h4] at hc; omega
        · obtain ⟨b0, b1, bm⟩ := ok_out hok'
          have hl := lo_le a xs
          have hlen : (ins xs ⟨a, b, cl now, 0⟩).length = xs.length + 1 := by
            unfold ins
            simp only [List.length_append, List.length_take, List.length_drop, List.length_singleton]
            omega
          obtain ⟨s1, s2⟩ := lo_split h.r.rise a
          have hno : ∀ x ∈ xs, overB x.a x.b a b = false := fun x hx => by
            have := h3
            unfold anyB at this
            rw [List.any_eq_true] at this
            rw [Bool.eq_false_iff]
            exact fun hc => this ⟨x, hx, hc⟩
          have hmem : ∀ x ∈ ins xs ⟨a, b, cl now, 0⟩, x = ⟨a, b, cl now, 0⟩ ∨ x ∈ xs := fun x hx => by
            unfold ins at hx
            rcases List.mem_append.1 hx with hx | hx
            · rcases List.mem_append.1 hx with hx | hx
              · exact .inr (List.mem_of_mem_take hx)
              · exact .inl (by simpa using hx)
            · exact .inr (List.mem_of_mem_drop hx)
          have pb := p2_pos b
          refine ⟨⟨⟨by rw [e, hlen]; omega, fun x hx => ?_, ?_⟩, fun x hx => ?_⟩, by rw [e, hlen], e⟩
          · rw [e] at hx
            rcases hmem x hx with rfl | hx
            · unfold lrB
              have c1 := cl_ge now
              have c2 := cl_le now
              simp only [hok', Bool.true_and, Bool.and_eq_true, decide_eq_true_eq]
              exact ⟨⟨⟨⟨(p2_24 b0 b1).1 (by omega), c1⟩, c2⟩, Int.le_refl _⟩, pb⟩
            · exact h.r.each x hx
          · rw [e]
            unfold ins
            have hp := h.r.rise
            rw [← List.take_append_drop (lo xs a) xs] at hp
            rw [List.pairwise_append] at hp
            obtain ⟨p1, p2', p3⟩ := hp
            have g1 : ∀ x ∈ xs.take (lo xs a), ap x ⟨a, b, cl now, 0⟩ := fun x hx => by
              have hm := List.mem_of_mem_take hx
              have := hno x hm
              rw [over_ahead (lrB_out (h.r.each x hm)).1 hok' (s1 x hx)] at this
              unfold ap
              simpa using this
            have g2 : ∀ x ∈ xs.drop (lo xs a), ap ⟨a, b, cl now, 0⟩ x := fun x hx => by
              have hm := List.mem_of_mem_drop hx
              have h5 := hno x hm
              have h6 := s2 x hx
              by_cases he : x.a = a
              · rw [he, over_same (by rw [← he]; exact (lrB_out (h.r.each x hm)).1) hok'] at h5
                cases h5
              · rw [over_comm, over_ahead hok' (lrB_out (h.r.each x hm)).1 (by omega)] at h5
                unfold ap
                simpa using h5
            rw [List.append_assoc, List.singleton_append, List.pairwise_append]
            refine ⟨p1, List.pairwise_cons.2 ⟨g2, p2'⟩, fun x hx z hz => ?_⟩
            rcases List.mem_cons.1 hz with rfl | hz
            · exact g1 x hx
            · exact p3 x hx z hz
          · rw [e] at hx
            rcases hmem x hx with rfl | hx
            · exact ⟨ha0, ha1⟩
            · exact h.u x hx
theorem take_ok {xs : List Sw} (h : V xs) {a b : Int} (hc : takeC xs a b = 0) : V (takeR xs a b) ∧ (takeR xs a b).length = xs.length - 1 ∧ 0 < xs.length := by
  have hat : isAt xs a b = true := by
    unfold takeC at hc
    by_cases he : isAt xs a b = true
    · exact he
    · rw [if_neg he] at hc; omega
  have hlt := isAt_lt hat
  have e : takeR xs a b = del xs a := by unfold takeR; rw [if_pos hat]
  have hsub : (del xs a).Sublist xs := by
    unfold del
    conv => rhs; rw [← List.take_append_drop (lo xs a) xs]
    refine List.Sublist.append (List.Sublist.refl _) ?_
    rw [show lo xs a + 1 = 1 + lo xs a by omega, ← List.drop_drop]
    rw [show List.drop (lo xs a) (List.drop 1 xs) = List.drop 1 (List.drop (lo xs a) xs) by rw [List.drop_drop, List.drop_drop, Nat.add_comm]]
    exact List.drop_sublist _ _
  rw [e]
  refine ⟨⟨⟨Nat.le_trans hsub.length_le h.r.few, fun x hx => h.r.each x (hsub.subset hx), h.r.rise.sublist hsub⟩, fun x hx => h.u x (hsub.subset hx)⟩, ?_, by omega⟩
  unfold del
  rw [List.length_append, List.length_take, List.length_drop]
  omega
theorem stp_ab (x : Sw) (every room : Int) : (stp x every room).a = x.a ∧ (stp x every room).b = x.b := by unfold stp; split <;> exact ⟨rfl, rfl⟩
theorem stp_lr {x : Sw} (h : lrB x = true) (every room : Int) : lrB (stp x every room) = true := by
  obtain ⟨a1, a2, a3, a4, a5, a6, a7⟩ := lrB_out h
  have pb := p2_pos x.b
  unfold stp
  split
  · unfold lrB
    have := ad_ge x.d every
    have := ad_le x.d every
    simp only [a1, Bool.true_and, Bool.and_eq_true, decide_eq_true_eq]
    omega
  · rename_i hne
    have hle : x.n + (tk x room : Int) ≤ p2 x.b := by unfold tk; omega
    unfold lrB
    simp only [a1, Bool.true_and, Bool.and_eq_true, decide_eq_true_eq]
    omega
def Sb (xs ys : List Sw) : Prop := xs.length = ys.length ∧ ∀ (i : Nat) (x y : Sw), xs[i]? = some x → ys[i]? = some y → x.a = y.a ∧ x.b = y.b
theorem Sb.refl (xs : List Sw) : Sb xs xs := ⟨rfl, fun i x y h g => by rw [h] at g; injection g with g; subst g; exact ⟨rfl, rfl⟩⟩
theorem Sb.pw {xs ys : List Sw} (h : Sb xs ys) (hr : xs.Pairwise ap) : ys.Pairwise ap := by
  rw [List.pairwise_iff_getElem] at *
  intro i j hi hj hij
  have h1 := hr i j (by rw [h.1]; exact hi) (by rw [h.1]; exact hj) hij
  obtain ⟨a1, a2⟩ := h.2 i _ _ (List.getElem?_eq_getElem (by rw [h.1]; exact hi)) (List.getElem?_eq_getElem hi)
  obtain ⟨b1, b2⟩ := h.2 j _ _ (List.getElem?_eq_getElem (by rw [h.1]; exact hj)) (List.getElem?_eq_getElem hj)
  unfold ap at *
  rw [← a1, ← a2, ← b1]
  exact h1
theorem plan_ok {xs : List Sw} (h : V xs) (every room : Int) (l : List Nat) (hl : ∀ i ∈ l, i < xs.length) : V (planL xs every room l).1 ∧ Sb xs (planL xs every room l).1 := by
  unfold planL
  have key : ∀ (l : List Nat) (s : List Sw × List Int), (∀ i ∈ l, i < xs.length) → Sb xs s.1 → (∀ x ∈ s.1, lrB x = true) → Sb xs (l.foldl (plan1 xs every room) s).1 ∧ ∀ x ∈ (l.foldl (plan1 xs every room) s).1, lrB x = true := by
    intro l
    induction l with
    | nil => intro s _ h1 h2; exact ⟨h1, h2⟩
    | cons i r ih =>
      intro s hl h1 h2
      rw [List.foldl_cons]
      have hi := hl i (by simp)
      refine ih _ (fun j hj => hl j (List.mem_cons_of_mem _ hj)) ⟨by simp [plan1, h1.1], fun j x y hx hy => ?_⟩ fun y hy => ?_
      · simp only [plan1] at hy
        rw [List.getElem?_set] at hy
        split at hy
        · rename_i e
          subst e
          rw [if_pos (by rw [← h1.1]; exact hi), hx, Option.getD_some] at hy
          injection hy with hy
          subst hy
          have := stp_ab x every (room - s.2.length)
          exact ⟨this.1.symm, this.2.symm⟩
        · exact h1.2 j x y hx hy
      · simp only [plan1] at hy
        rcases List.mem_or_eq_of_mem_set hy with hy | rfl
        · exact h2 y hy
        · rw [List.getElem?_eq_getElem hi, Option.getD_some]
          exact stp_lr (h.r.each _ (List.getElem_mem hi)) _ _
  obtain ⟨k1, k2⟩ := key l (xs, []) hl (Sb.refl xs) h.r.each
  refine ⟨⟨⟨by rw [← k1.1]; exact h.r.few, k2, k1.pw h.r.rise⟩, fun y hy => ?_⟩, k1⟩
  obtain ⟨i, hi, rfl⟩ := List.mem_iff_getElem.1 hy
  have hi' := hi
  rw [← k1.1] at hi'
  have := (k1.2 i _ _ (List.getElem?_eq_getElem hi') (List.getElem?_eq_getElem hi)).1
  rw [← this]
  exact h.u _ (List.getElem_mem hi')
theorem planO_ok {xs : List Sw} (h : V xs) (every now room : Int) : V (planO xs every now room).1 ∧ Sb xs (planO xs every now room).1 :=
  plan_ok h every room _ fun i hi => ((ord_is xs now).mem i |>.1 hi).1
theorem plan_few (xs : List Sw) (every room : Int) (l : List Nat) : ((planL xs every room l).2.length : Int) ≤ max 0 room := by
  unfold planL
  have key : ∀ (l : List Nat) (s : List Sw × List Int), (s.2.length : Int) ≤ max 0 room → ((l.foldl (plan1 xs every room) s).2.length : Int) ≤ max 0 room := by
    intro l
    induction l with
    | nil => intro s h; exact h
    | cons i r ih =>
      intro s h
      rw [List.foldl_cons]
      refine ih _ ?_
      simp only [plan1, List.length_append, asl_len]
      have : (tk (xs[i]?.getD zw) (room - s.2.length) : Int) ≤ max 0 (room - s.2.length) := by unfold tk; omega
      omega
  exact key l (xs, []) (by simp; omega)
theorem ord_nodup {xs : List Sw} {now : Int} {l : List Nat} (h : IsO xs now l) : l.Nodup := h.pw.imp fun {a b} hab hne => by
  subst hne
  rw [lx_irr] at hab; cases hab
theorem asl_in {x : Sw} (h : Sv x) {room : Int} {z : Int} (hz : z ∈ asl x (tk x room)) : x.a ≤ z ∧ z < x.a + p2 x.b := by
  unfold asl at hz
  rw [List.mem_map] at hz
  obtain ⟨j, hj, rfl⟩ := hz
  rw [List.mem_range] at hj
  have := h.n0
  have := h.n1
  unfold tk at hj
  omega
theorem asl_nodup (x : Sw) (k : Nat) : (asl x k).Nodup := by
  unfold asl
  rw [List.Nodup, List.pairwise_map]
  exact List.pairwise_lt_range.imp fun {a b} hab => by omega
theorem ap_apart {xs : List Sw} (h : xs.Pairwise ap) {i j : Nat} {x y : Sw} (hx : xs[i]? = some x) (hy : xs[j]? = some y) (hij : i ≠ j) {z : Int} (h1 : x.a ≤ z ∧ z < x.a + p2 x.b) (h2 : y.a ≤ z ∧ z < y.a + p2 y.b) : False := by
  obtain ⟨hi, ex⟩ := List.getElem?_eq_some_iff.1 hx
  obtain ⟨hj, ey⟩ := List.getElem?_eq_some_iff.1 hy
  rw [List.pairwise_iff_getElem] at h
  rcases Nat.lt_or_gt_of_ne hij with hl | hl
  · have := h i j hi hj hl
    rw [ex, ey] at this
    unfold ap at this
    omega
  · have := h j i hj hi hl
    rw [ex, ey] at this
    unfold ap at this
    omega
theorem planL_asks {xs : List Sw} (h : V xs) (every room : Int) (l : List Nat) (hn : l.Nodup) (hl : ∀ i ∈ l, i < xs.length) : ∀ t, t ≤ l.length →
    (planL xs every room (l.take t)).2.Nodup ∧ ∀ z ∈ (planL xs every room (l.take t)).2, ∃ i ∈ l.take t, ∃ x, xs[i]? = some x ∧ x.a ≤ z ∧ z < x.a + p2 x.b := by
  intro t
  induction t with
  | zero => intro _; exact ⟨by simp [planL], fun z hz => by simp [planL] at hz⟩
  | succ t ih =>
    intro ht
    obtain ⟨h1, h2⟩ := ih (by omega)
    have e : l.take (t + 1) = l.take t ++ [l[t]] := by
      rw [List.take_add_one, List.getElem?_eq_getElem (by omega : t < l.length)]
      rfl
    have hlt := hl l[t] (List.getElem_mem _)
    have hx := List.getElem?_eq_getElem hlt
    have hnt : l[t] ∉ l.take t := fun hm => by
      obtain ⟨j, hj, ej⟩ := List.mem_iff_getElem.1 hm
      rw [List.length_take] at hj
      rw [List.getElem_take] at ej
      have := (List.pairwise_iff_getElem.1 hn) j t (by omega) (by omega) (by omega)
      exact this ej
    rw [e, planL_snoc]
    simp only [plan1, hx, Option.getD_some]
    generalize (planL xs every room (l.take t)).2 = S at h1 h2 ⊢
    have hin : ∀ z ∈ asl xs[l[t]] (tk xs[l[t]] (room - S.length)), xs[l[t]].a ≤ z ∧ z < xs[l[t]].a + p2 xs[l[t]].b := fun z hz => asl_in (h.sv _ (List.getElem_mem _)) hz
    refine ⟨?_, fun z hz => ?_⟩
    · rw [List.Nodup, List.pairwise_append]
      refine ⟨h1, asl_nodup _ _, fun a ha b hb hab => ?_⟩
      subst hab
      obtain ⟨i, hi, x, hxi, g⟩ := h2 a ha
      exact ap_apart h.r.rise hxi hx (fun e' => hnt (e' ▸ hi)) g (hin a hb)
    · rcases List.mem_append.1 hz with hz | hz
      · obtain ⟨i, hi, x, hxi, g⟩ := h2 z hz
        exact ⟨i, List.mem_append_left _ hi, x, hxi, g⟩
      · exact ⟨l[t], by first | exact List.mem_append_right _ (List.mem_singleton.2 rfl) | (rw [e]; exact List.mem_append_right _ (List.mem_singleton.2 rfl)), _, hx, hin z hz⟩
end Go.Proofs.YtilneflfeegnfaaGreat.Sw
namespace Go.Proofs.YtilneflfeegnfaaGreat.Su
open Go.RowKit
structure Mc where
  b0 : Int
  b1 : Int
  b2 : Int
  b3 : Int
  b4 : Int
  b5 : Int
def zm : Mc := ⟨0, 0, 0, 0, 0, 0⟩
def ml (x : Mc) : List Value := [.int .u8 x.b0, .int .u8 x.b1, .int .u8 x.b2, .int .u8 x.b3, .int .u8 x.b4, .int .u8 x.b5]
def mv (x : Mc) : Value := .agg #[.int .u8 x.b0, .int .u8 x.b1, .int .u8 x.b2, .int .u8 x.b3, .int .u8 x.b4, .int .u8 x.b5]
def Mx (x : Mc) : Obj := .cells #[.int .u8 x.b0, .int .u8 x.b1, .int .u8 x.b2, .int .u8 x.b3, .int .u8 x.b4, .int .u8 x.b5] 42
def eM : El Mc := ⟨ml, 6, by decide, fun _ => rfl, by
  intro x u hu
  simp [ml] at hu
  rcases hu with rfl | rfl | rfl | rfl | rfl | rfl <;> rfl⟩
structure Sg where
  f : Int
  m : Mc
  t : Int
def zs : Sg := ⟨0, zm, 0⟩
def sl (x : Sg) : List Value := [.int .i64 x.f, .int .u8 x.m.b0, .int .u8 x.m.b1, .int .u8 x.m.b2, .int .u8 x.m.b3, .int .u8 x.m.b4, .int .u8 x.m.b5, .int .i64 x.t]
def sv (x : Sg) : Value := .agg #[.int .i64 x.f, .int .u8 x.m.b0, .int .u8 x.m.b1, .int .u8 x.m.b2, .int .u8 x.m.b3, .int .u8 x.m.b4, .int .u8 x.m.b5, .int .i64 x.t]
def Sx (x : Sg) : Obj := .cells #[.int .i64 x.f, .int .u8 x.m.b0, .int .u8 x.m.b1, .int .u8 x.m.b2, .int .u8 x.m.b3, .int .u8 x.m.b4, .int .u8 x.m.b5, .int .i64 x.t] 49
def eS : El Sg := ⟨sl, 8, by decide, fun _ => rfl, by
  intro x u hu
  simp [sl] at hu
  rcases hu with rfl | rfl | rfl | rfl | rfl | rfl | rfl | rfl <;> rfl⟩
theorem size48 : (Tryz.prog.info? 49).map (·.size) = some 8 := by kernel_rfl
theorem load48 {w : World} {y : Addr} {x : Sg} (h : ∀ j v, (sl x)[j]? = some v → w.cell? (y.add j) = some v) : (Instr.loadAt 49 (.pointer (some y))).run Tryz.prog w = .ok (sv x) w := by
  have hl' : (loadCells y 8).run Tryz.prog w = .ok (sl x).toArray w := run_loadCells_list (P := Tryz.prog) w y (sl x) h
  obtain ⟨i, hi, hs⟩ := Option.map_eq_some_iff.1 size48
  have hg : (isAgg 49).run Tryz.prog w = .ok true w := by
    unfold isAgg
    simp only [Sem.run_bind, run_underlying Tryz.underlying49, Result.andThen_ok, Sem.run_pure]
  have hz : (Go.sizeOf 49).run Tryz.prog w = .ok 8 w := by
    rw [← hs]
    simp [Go.sizeOf, typeInfo, hi]
  simp only [Instr.loadAt, Instr.sureAddr, loadVar, Sem.run_bind, Sem.run_pure, Result.andThen_ok, hg, hz, hl', if_true]
  rfl
theorem at_load48 {ops : Array Oper} {rest : List Oper} {op : Oper} {a : Act} {w : World} {Q : Exit → Act → World → Prop} (x : Operand) (hgd : op.guard = none) (ho : op.op = .load 49 x) (y : Addr) (z : Sg) (hx : a.eval x = .pointer (some y)) (hr : ∀ j v, (sl z)[j]? = some v → w.cell? (y.add j) = some v)
    (h : wpList Tryz.prog ops Q rest (a.put op.dst (.agg #[.int .i64 z.f, .int .u8 z.m.b0, .int .u8 z.m.b1, .int .u8 z.m.b2, .int .u8 z.m.b3, .int .u8 z.m.b4, .int .u8 z.m.b5, .int .i64 z.t])) w) : wpList Tryz.prog ops Q (op :: rest) a w :=
  wpList_plain hgd fun _ hK => by
    unfold Oper.wp execOp
    simp only [ho, hx, Sem.run_bind, Sem.run_pure, Result.andThen_ok, load48 hr]
    exact hK _ _ h
theorem size35 : (Tryz.prog.info? 42).map (·.size) = some 6 := by kernel_rfl
theorem load35 {w : World} {y : Addr} {x : Mc} (h : ∀ j v, (ml x)[j]? = some v → w.cell? (y.add j) = some v) : (Instr.loadAt 42 (.pointer (some y))).run Tryz.prog w = .ok (mv x) w := by
  have hl' : (loadCells y 6).run Tryz.prog w = .ok (ml x).toArray w := run_loadCells_list (P := Tryz.prog) w y (ml x) h
  obtain ⟨i, hi, hs⟩ := Option.map_eq_some_iff.1 size35
  have hg : (isAgg 42).run Tryz.prog w = .ok true w := by
    unfold isAgg
    simp only [Sem.run_bind, run_underlying Tryz.underlying42, Result.andThen_ok, Sem.run_pure]
  have hz : (Go.sizeOf 42).run Tryz.prog w = .ok 6 w := by
    rw [← hs]
    simp [Go.sizeOf, typeInfo, hi]
  simp only [Instr.loadAt, Instr.sureAddr, loadVar, Sem.run_bind, Sem.run_pure, Result.andThen_ok, hg, hz, hl', if_true]
  rfl
theorem at_load35 {ops : Array Oper} {rest : List Oper} {op : Oper} {a : Act} {w : World} {Q : Exit → Act → World → Prop} (x : Operand) (hgd : op.guard = none) (ho : op.op = .load 42 x) (y : Addr) (z : Mc) (hx : a.eval x = .pointer (some y)) (hr : ∀ j v, (ml z)[j]? = some v → w.cell? (y.add j) = some v)
    (h : wpList Tryz.prog ops Q rest (a.put op.dst (.agg #[.int .u8 z.b0, .int .u8 z.b1, .int .u8 z.b2, .int .u8 z.b3, .int .u8 z.b4, .int .u8 z.b5])) w) : wpList Tryz.prog ops Q (op :: rest) a w :=
  wpList_plain hgd fun _ hK => by
    unfold Oper.wp execOp
    simp only [ho, hx, Sem.run_bind, Sem.run_pure, Result.andThen_ok, load35 hr]
    exact hK _ _ h
def eqm (x y : Mc) : Bool := eq6 x.b0 x.b1 x.b2 x.b3 x.b4 x.b5 y.b0 y.b1 y.b2 y.b3 y.b4 y.b5
theorem run_eq35 (x y : Mc) (d : Nat) (W : World) : (Op.equalIn (d + 2) 42 (mv x) (mv y)).run Tryz.prog W = .ok (eqm x y) W := run_eq6 _ _ _ _ _ _ _ _ _ _ _ _ d W
end Go.Proofs.YtilneflfeegnfaaGreat.Su
namespace Go.Proofs.YtilneflfeegnfaaGreat.Su
open Go.RowKit
theorem within_any (t u n : Int) (w : World) : Calls Tryz.prog 95 #[.int .i64 t, .int .i64 u, .int .i64 n] w fun e w' => e = .returned (.bool (wi t u n)) ∧ w = w' := by
  have C := Lib.hid fun a b W => since_any a b W
  by_cases h : 0 ≤ si t u
  · go_enter Tryz.func95, Tryz.ntmps95
    go_wp2_with fail
    refine (C.out _ _ _).mono ?_
    rintro e w1 ⟨rfl, rfl⟩
    go_wp2_with fail
    go_ret
    exact ⟨ret_bool (by simp [wi, h]), rfl⟩
  · go_enter Tryz.func95, Tryz.ntmps95
    go_wp2_with fail
    refine (C.out _ _ _).mono ?_
    rintro e w1 ⟨rfl, rfl⟩
    go_wp2_with fail
    go_ret
    exact ⟨ret_bool (by simp [wi]; omega), rfl⟩
def noB (x : Mc) : Bool := eqm x zm
theorem none_any (x : Mc) (w : World) : Calls Tryz.prog 124 #[mv x] w fun e w' => e = .returned (.bool (noB x)) ∧ Below w.heap.size w w' := by
  obtain ⟨b0, b1, b2, b3, b4, b5⟩ := x
  have hq := fun W => run_eq6 b0 b1 b2 b3 b4 b5 0 0 0 0 0 0 9998 W
  simp only [mv]
  go_enter Tryz.func124, Tryz.ntmps124
  go_wp2
  go_ret
  exact ⟨rfl, (Below.refl _ _).alloc (Nat.le_refl _) _⟩
def sn (n : Int) : Mc := if n < 128 then ⟨2, 0, 0, 0, 0, 1 + n % 3⟩ else zm
set_option maxHeartbeats 1000000 in
theorem station_any (n : Int) (w : World) (h0 : 0 ≤ n) (h1 : n < 256) : Calls Tryz.prog 48 #[.int .u8 n] w fun e w' => e = .returned (mv (sn n)) ∧ Below w.heap.size w w' := by
  by_cases h : n < 128
  · have H := Lib.hid (show mv (sn n) = .agg #[.int .u8 2, .int .u8 0, .int .u8 0, .int .u8 0, .int .u8 0, .int .u8 (1 + n % 3)] by simp [sn, h, mv])
    rw [H.out]
    go_enter Tryz.func48, Tryz.ntmps48
    go_wp2_with fail
    exact bodyPost_ret (v := .agg #[.int .u8 2, .int .u8 0, .int .u8 0, .int .u8 0, .int .u8 0, .int .u8 (1 + n % 3)]) (by simp [results, Tryz.results48, go_sem]) rfl ⟨rfl, (Below.refl _ w).alloc (Nat.le_refl _) _⟩
  · have H := Lib.hid (show mv (sn n) = .agg #[.int .u8 0, .int .u8 0, .int .u8 0, .int .u8 0, .int .u8 0, .int .u8 0] by simp [sn, h, mv, zm])
    rw [H.out]
    go_enter Tryz.func48, Tryz.ntmps48
    go_wp2_with fail
    exact bodyPost_ret (v := .agg #[.int .u8 0, .int .u8 0, .int .u8 0, .int .u8 0, .int .u8 0, .int .u8 0]) (by simp [results, Tryz.results48, go_sem]) rfl ⟨rfl, (Below.refl _ w).alloc (Nat.le_refl _) _⟩
end Go.Proofs.YtilneflfeegnfaaGreat.Su
namespace Go.Proofs.YtilneflfeegnfaaGreat.Su
open Go.RowKit
theorem bthen {B : Nat} {a b c : World} (h : Below B a b) (k : Below b.heap.size b c) (hB : B ≤ b.heap.size) : Below B a c := h.trans (k.mono hB)
def zsv : Value := .agg #[.int .i64 0, .int .u8 0, .int .u8 0, .int .u8 0, .int .u8 0, .int .u8 0, .int .u8 0, .int .i64 0]
def zmv : Value := .agg #[.int .u8 0, .int .u8 0, .int .u8 0, .int .u8 0, .int .u8 0, .int .u8 0]
theorem info48 : (Tryz.prog.info? 49).map (fun i => (i.zero, i.size, i.bytes)) = some (some zsv, 8, 24) := by kernel_rfl
theorem info35 : (Tryz.prog.info? 42).map (fun i => (i.zero, i.size, i.bytes)) = some (some zmv, 6, 6) := by kernel_rfl
theorem tS : Ty eS 64 49 := ⟨Tryz.underlying64, by
  obtain ⟨i, hi, hz0, hz1, hz2⟩ := info_parts info48
  exact ⟨i, _, _, hi, hz0, hz1, hz2, rfl, by omega⟩⟩
theorem tM : Ty eM 159 42 := ⟨Tryz.underlying159, by
  obtain ⟨i, hi, hz0, hz1, hz2⟩ := info_parts info35
  exact ⟨i, _, _, hi, hz0, hz1, hz2, rfl, by omega⟩⟩
section
variable {α : Type} {E : El α} {S T : TypeId} (D : Ty E S T)
include D
theorem wpList_append_rw (w : World) {ops : Array Oper} {rest : List Oper} {o : Oper} {a : Act} {Q : Exit → Act → World → Prop} (hgd : o.guard = none) (s x : Operand) (ho : o.op = .call { callee := .builtin .append, args := #[s, x], argTypes := #[S, S] })
    (base : Nat) (v : Value) (n : Nat) (xs : List α) (hs : a.eval s = v) (hown : w.ownsRow base T E.N v n (E.cs xs)) (A : Option Addr) (m c : Nat) (ys : List α) (hx : a.eval x = .slice A m c) (hm : m = ys.length) (hr : Rw E w A ys)
    (hlen : n + m ≤ 1000000000000) (hbase : base ≤ w.heap.size)
    (h : ∀ v' w', w'.ownsRow base T E.N v' (n + m) (E.cs (xs ++ ys)) → w.grownBy w' v.ownBlock → wpList Tryz.prog ops Q rest (a.put o.dst v') w') : wpList Tryz.prog ops Q (o :: rest) a w :=
  wpList_plain hgd fun _ hK => by
    obtain ⟨v', w', hrun, h2, h3⟩ := run_append_rw D w base o.type v n xs hown A m c ys hm hr hlen hbase
    unfold Oper.wp execOp
    simp only [ho, resolve, invoke, builtin, Sem.run_bind, Sem.run_pure, Result.andThen_ok, List.map_toArray, List.map_cons, List.map_nil, hs, hx, hrun]
    exact hK _ _ (h v' w' h2 h3)end
theorem rw_one (W : World) (s : Sg) (t : TypeId) : Rw eS (W.alloc (.cells (sl s).toArray t)) (some ⟨W.heap.size, 0, none⟩) [s] := by
  refine ⟨by simp, fun q z hq => ?_⟩
  match q, hq with
  | 0, hq =>
    simp at hq
    subst hq
    refine ⟨_, rfl, fun j v hv => ?_⟩
    rw [Addr.add_mid]
    change (sl s)[j]? = some v at hv
    show (W.alloc _).cell? ⟨W.heap.size, 0 + (0 * 8 + j), none⟩ = _
    match j, hv with
    | 0, h => simp [sl] at h; subst h; simp [sl]
    | 1, h => simp [sl] at h; subst h; simp [sl]
    | 2, h => simp [sl] at h; subst h; simp [sl]
    | 3, h => simp [sl] at h; subst h; simp [sl]
    | 4, h => simp [sl] at h; subst h; simp [sl]
    | 5, h => simp [sl] at h; subst h; simp [sl]
    | 6, h => simp [sl] at h; subst h; simp [sl]
    | 7, h => simp [sl] at h; subst h; simp [sl]
    | j + 8, h => simp [sl] at h
  | q + 1, hq => simp at hq
theorem rm_one (W : World) (s : Mc) (t : TypeId) : Rw eM (W.alloc (.cells (ml s).toArray t)) (some ⟨W.heap.size, 0, none⟩) [s] := by
  refine ⟨by simp, fun q z hq => ?_⟩
  match q, hq with
  | 0, hq =>
    simp at hq
    subst hq
    refine ⟨_, rfl, fun j v hv => ?_⟩
    rw [Addr.add_mid]
    change (ml s)[j]? = some v at hv
    show (W.alloc _).cell? ⟨W.heap.size, 0 + (0 * 6 + j), none⟩ = _
    match j, hv with
    | 0, h => simp [ml] at h; subst h; simp [ml]
    | 1, h => simp [ml] at h; subst h; simp [ml]
    | 2, h => simp [ml] at h; subst h; simp [ml]
    | 3, h => simp [ml] at h; subst h; simp [ml]
    | 4, h => simp [ml] at h; subst h; simp [ml]
    | 5, h => simp [ml] at h; subst h; simp [ml]
    | j + 6, h => simp [ml] at h
  | q + 1, hq => simp at hq
end Go.Proofs.YtilneflfeegnfaaGreat.Su
namespace Go.Proofs.YtilneflfeegnfaaGreat.Su
open Go.RowKit
def anyO (xs : List Mc) (m : Mc) : Bool := xs.any fun x => !eqm x m
theorem anyO_yes {xs : List Mc} {m x : Mc} {k : Nat} (h : xs[k]? = some x) (he : eqm x m = false) : anyO xs m = true := by
  unfold anyO
  rw [List.any_eq_true]
  exact ⟨x, List.mem_of_getElem? h, by rw [he]; rfl⟩
theorem anyO_take (xs : List Mc) (m : Mc) (k : Nat) {x : Mc} (h : xs[k]? = some x) : anyO (xs.take (k + 1)) m = (anyO (xs.take k) m || !eqm x m) := by
  unfold anyO
  rw [List.take_add_one, h, List.any_append]
  simp
set_option maxRecDepth 100000 in
set_option maxHeartbeats 2000000 in
theorem anyOther_any (m : Mc) (A : Option Addr) (xs : List Mc) (cap : Nat) (w : World) (h : Rw eM w A xs) (hc : xs.length ≤ cap) :
    Calls Tryz.prog 93 #[.slice A xs.length cap, mv m] w fun e w' => e = .returned (.bool (anyO xs m)) ∧ Below w.heap.size w w' := by
  have hln := h.1
  have R := Lib.hid h
  have HT := Lib.hid (fun (k : Nat) (x : Mc) (h : xs[k]? = some x) => anyO_take xs m k h)
  have HY := Lib.hid (fun (k : Nat) (x : Mc) (h : xs[k]? = some x) (he : eqm x m = false) => anyO_yes h he)
  obtain ⟨L, hL⟩ : ∃ L, xs.length = L := ⟨_, rfl⟩
  have HL := Lib.hid hL
  rw [hL] at hc hln ⊢
  have HZ := Lib.hid (show anyO (xs.take L) m = anyO xs m by rw [← hL, List.take_length])
  clear hL h
  have HB0 := Lib.hid (show Below w.heap.size w (w.alloc (Mx m)) from (Below.refl _ w).alloc (Nat.le_refl _) _)
  obtain ⟨c0, c1, c2, c3, c4, c5⟩ := m
  simp only [mv, Mx] at HB0 ⊢
  go_enter Tryz.func93, Tryz.ntmps93
  go_wp2_with fail
  go_loopw [9] (fun i wr => ∃ k : Nat, i = .int .i64 k ∧ k ≤ L ∧ Hid (anyO (xs.take k) ⟨c0, c1, c2, c3, c4, c5⟩ = false ∧ Below (w.alloc (.cells #[.int .u8 c0, .int .u8 c1, .int .u8 c2, .int .u8 c3, .int .u8 c4, .int .u8 c5] 42)).heap.size (w.alloc (.cells #[.int .u8 c0, .int .u8 c1, .int .u8 c2, .int .u8 c3, .int .u8 c4, .int .u8 c5] 42)) wr)) (fun i _ => L - (intOf i).toNat)
  case atStart => exact ⟨0, rfl, by omega, Lib.hid ⟨rfl, Below.refl _ _⟩⟩
  case round =>
    obtain ⟨k, rfl, hk, HH⟩ := hrel
    by_cases hlt : k < L
    · obtain ⟨x, hx⟩ : ∃ x, xs[k]? = some x := ⟨_, List.getElem?_eq_getElem (by rw [HL.out]; exact hlt)⟩
      have RR := (R.out.below HB0.out).below HH.out.2
      obtain ⟨y, rfl⟩ := rw_some RR (by rw [HL.out]; omega)
      have hat := RR.at hx
      obtain ⟨a0, a1, a2, a3, a4, a5⟩ := x
      have HXT := Lib.hid (HT.out k _ hx)
      have HXY := Lib.hid (HY.out k _ hx)
      have hq := fun W => run_eq6 a0 a1 a2 a3 a4 a5 c0 c1 c2 c3 c4 c5 9998 W
      obtain ⟨e, he⟩ : ∃ e, eq6 a0 a1 a2 a3 a4 a5 c0 c1 c2 c3 c4 c5 = e := ⟨_, rfl⟩
      rw [he] at hq
      have HE := Lib.hid (show eqm ⟨a0, a1, a2, a3, a4, a5⟩ ⟨c0, c1, c2, c3, c4, c5⟩ = e from he)
      have hsz : w.heap.size < wr.heap.size := by have := HH.out.2.size; simp at this; omega
      have b0 : wr.cell? ⟨w.heap.size, 0, none⟩ = some (.int .u8 c0) := by rw [HH.out.2.cell (p := ⟨w.heap.size, 0, none⟩) (by simp)]; simp
      have b1 : wr.cell? ⟨w.heap.size, 1, none⟩ = some (.int .u8 c1) := by rw [HH.out.2.cell (p := ⟨w.heap.size, 1, none⟩) (by simp)]; simp
      have b2 : wr.cell? ⟨w.heap.size, 2, none⟩ = some (.int .u8 c2) := by rw [HH.out.2.cell (p := ⟨w.heap.size, 2, none⟩) (by simp)]; simp
      have b3 : wr.cell? ⟨w.heap.size, 3, none⟩ = some (.int .u8 c3) := by rw [HH.out.2.cell (p := ⟨w.heap.size, 3, none⟩) (by simp)]; simp
      have b4 : wr.cell? ⟨w.heap.size, 4, none⟩ = some (.int .u8 c4) := by rw [HH.out.2.cell (p := ⟨w.heap.size, 4, none⟩) (by simp)]; simp
      have b5 : wr.cell? ⟨w.heap.size, 5, none⟩ = some (.int .u8 c5) := by rw [HH.out.2.cell (p := ⟨w.heap.size, 5, none⟩) (by simp)]; simp
      have HA := Lib.hid (HH.out.2.alloc HH.out.2.size (.cells #[.int .u8 a0, .int .u8 a1, .int .u8 a2, .int .u8 a3, .int .u8 a4, .int .u8 a5] 42))
      clear hx he RR
      cases e
      · go_wp2_with (refine at_load35 _ rfl rfl _ _ rfl hat ?_)
        go_ret
        exact ⟨ret_bool (by rw [HXY.out HE.out]), bthen HB0.out HA.out HB0.out.size⟩
      · go_wp2_with (refine at_load35 _ rfl rfl _ _ rfl hat ?_)
        go_roundw
        case rel => exact ⟨k + 1, by go_num, by omega, Lib.hid ⟨by rw [HXT.out, HH.out.1, HE.out]; rfl, HA.out⟩⟩
        case measure => simp [intOf]; omega
    · obtain rfl : k = L := by omega
      go_wp2_with fail
      go_ret
      exact ⟨ret_bool (by rw [← HZ.out, HH.out.1]), bthen HB0.out HH.out.2 HB0.out.size⟩
end Go.Proofs.YtilneflfeegnfaaGreat.Su
namespace Go.Proofs.YtilneflfeegnfaaGreat.Su
open Go.RowKit
def sts (ss : List Sg) : List Mc := (ss.map Sg.m).filter fun m => !noB m
theorem sts_take {ss : List Sg} {k : Nat} {s : Sg} (h : ss[k]? = some s) : sts (ss.take (k + 1)) = if noB s.m then sts (ss.take k) else sts (ss.take k) ++ [s.m] := by
  unfold sts
  rw [List.take_add_one, h, List.map_append, List.filter_append]
  cases hn : noB s.m <;> simp [hn]
theorem sts_le (ss : List Sg) : (sts ss).length ≤ ss.length := by
  unfold sts
  exact Nat.le_trans (List.length_filter_le ..) (by simp)
structure Sb (W : World) (b : Nat) (s : Sg) : Prop where
  lt : b < W.heap.size
  c0 : W.cell? ⟨b, 0, none⟩ = some (.int .i64 s.f)
  c1 : W.cell? ⟨b, 1, none⟩ = some (.int .u8 s.m.b0)
  c2 : W.cell? ⟨b, 2, none⟩ = some (.int .u8 s.m.b1)
  c3 : W.cell? ⟨b, 3, none⟩ = some (.int .u8 s.m.b2)
  c4 : W.cell? ⟨b, 4, none⟩ = some (.int .u8 s.m.b3)
  c5 : W.cell? ⟨b, 5, none⟩ = some (.int .u8 s.m.b4)
  c6 : W.cell? ⟨b, 6, none⟩ = some (.int .u8 s.m.b5)
  c7 : W.cell? ⟨b, 7, none⟩ = some (.int .i64 s.t)
theorem sb_box (w : World) (s : Sg) : Sb (w.alloc (Sx s)) w.heap.size s := ⟨by simp, by simp [Sx], by simp [Sx], by simp [Sx], by simp [Sx], by simp [Sx], by simp [Sx], by simp [Sx], by simp [Sx]⟩
theorem Sb.keep {W W' : World} {b B : Nat} {s : Sg} (h : Sb W b s) (hb : Below B W W') (hB : b < B) (hs : W.heap.size ≤ W'.heap.size) : Sb W' b s :=
  ⟨Nat.lt_of_lt_of_le h.lt hs, by rw [hb.cell (p := ⟨b, 0, none⟩) hB]; exact h.c0, by rw [hb.cell (p := ⟨b, 1, none⟩) hB]; exact h.c1, by rw [hb.cell (p := ⟨b, 2, none⟩) hB]; exact h.c2, by rw [hb.cell (p := ⟨b, 3, none⟩) hB]; exact h.c3,
    by rw [hb.cell (p := ⟨b, 4, none⟩) hB]; exact h.c4, by rw [hb.cell (p := ⟨b, 5, none⟩) hB]; exact h.c5, by rw [hb.cell (p := ⟨b, 6, none⟩) hB]; exact h.c6, by rw [hb.cell (p := ⟨b, 7, none⟩) hB]; exact h.c7⟩
theorem Sb.below {W W' : World} {b : Nat} {s : Sg} (h : Sb W b s) (hb : Below W.heap.size W W') : Sb W' b s := h.keep hb h.lt hb.size
set_option maxRecDepth 100000 in
set_option maxHeartbeats 4000000 in
theorem stationsOf_any (A : Option Addr) (xs : List Sg) (cap : Nat) (w : World) (h : Rw eS w A xs) (hc : xs.length ≤ cap) (hx : xs.length ≤ 1000000) :
    Calls Tryz.prog 92 #[.slice A xs.length cap] w (OwnPost eM 42 w (sts xs)) := by
  have R := Lib.hid h
  have HT := Lib.hid (fun (k : Nat) (s : Sg) (h : xs[k]? = some s) => sts_take h)
  have HLe := Lib.hid (fun k => sts_le (xs.take k))
  obtain ⟨L, hL⟩ : ∃ L, xs.length = L := ⟨_, rfl⟩
  have HL := Lib.hid hL
  rw [hL] at hc hx ⊢
  have HZ := Lib.hid (show sts (xs.take L) = sts xs by rw [← hL, List.take_length])
  clear hL h
  go_enter Tryz.func92, Tryz.ntmps92
  go_wp2_with fail
  go_loopw [3, 8] (fun v i wr => ∃ k : Nat, i = .int .i64 k ∧ k ≤ L ∧ Hid (wr.ownsRow w.heap.size 42 6 v (sts (xs.take k)).length (eM.cs (sts (xs.take k))) ∧ Below w.heap.size w wr)) (fun _ i _ => L - (intOf i).toNat)
  case atStart => exact ⟨0, rfl, by omega, Lib.hid ⟨World.ownsRow_nil _ _ _ _, Below.refl _ _⟩⟩
  case round =>
    obtain ⟨k, rfl, hk, HH⟩ := hrel
    by_cases hlt : k < L
    · obtain ⟨s, hs⟩ : ∃ s, xs[k]? = some s := ⟨_, List.getElem?_eq_getElem (by rw [HL.out]; exact hlt)⟩
      have RR := R.out.below HH.out.2
      obtain ⟨y, rfl⟩ := rw_some RR (by rw [HL.out]; omega)
      have hat := RR.at hs
      have HXT := Lib.hid (HT.out k _ hs)
      have hle := HLe.out k
      rw [List.length_take, HL.out] at hle
      have HLE := Lib.hid (show (sts (xs.take k)).length + 1 ≤ 1000000000000 by omega)
      have HN := Lib.hid fun W => none_any s.m W
      have HBX := Lib.hid (sb_box wr s)
      have HA1 : Below wr.heap.size wr (wr.alloc (Sx s)) := (Below.refl _ wr).alloc (Nat.le_refl _) _
      have HB1 := Lib.hid (bthen HH.out.2 HA1 HH.out.2.size)
      have HO1 := Lib.hid (own_keep HH.out.1 HA1)
      obtain ⟨e, he⟩ : ∃ e, noB s.m = e := ⟨_, rfl⟩
      have HE := Lib.hid he
      rw [he] at HN HXT
      obtain ⟨f, m, t⟩ := s
      have HM := Lib.hid (show (⟨f, m, t⟩ : Sg).m = m from rfl)
      have HRM := Lib.hid fun W => rm_one W m 42
      obtain ⟨a0, a1, a2, a3, a4, a5⟩ := m
      simp only [mv, Sx, ml] at HN HBX HB1 HO1 HRM
      clear hs he RR hle HA1
      go_wp2_with (refine at_load48 _ rfl rfl _ _ rfl hat ?_)
      generalize wr.alloc (.cells #[.int .i64 f, .int .u8 a0, .int .u8 a1, .int .u8 a2, .int .u8 a3, .int .u8 a4, .int .u8 a5, .int .i64 t] 49) = W1 at *
      generalize wr.heap.size = N1 at *
      refine (HN.out _).mono ?_
      rintro e2 w2 ⟨rfl, hb⟩
      have HB2 := Lib.hid (bthen HB1.out hb HB1.out.size)
      have HO2 := Lib.hid (own_keep HO1.out hb)
      have HX2 := Lib.hid (HBX.out.below hb)
      have d1 := HX2.out.c1
      have d2 := HX2.out.c2
      have d3 := HX2.out.c3
      have d4 := HX2.out.c4
      have d5 := HX2.out.c5
      have d6 := HX2.out.c6
      dsimp only at d1 d2 d3 d4 d5 d6
      clear hb HB1 HO1 HBX hat
      cases e
      · have HA3 : Below w2.heap.size w2 (w2.alloc (.cells #[.int .u8 a0, .int .u8 a1, .int .u8 a2, .int .u8 a3, .int .u8 a4, .int .u8 a5] 42)) := (Below.refl _ w2).alloc (Nat.le_refl _) _
        have HB3 := Lib.hid (bthen HB2.out HA3 HB2.out.size)
        have HO3 := Lib.hid (own_keep HO2.out HA3)
        clear HA3
        go_wp2_with (at_builtin; refine wpList_append_rw tM _ rfl (.tmp 16) (.tmp 19) rfl w.heap.size _ _ _ (by simp [Act.eval, Act.put]) HO3.out (some ⟨w2.heap.size, 0, none⟩) 1 1 [⟨a0, a1, a2, a3, a4, a5⟩] (by simp [Act.eval, Act.put]) rfl (HRM.out w2) HLE.out HB3.out.size ?_)
        intro v4 w4 ho4 hg4
        have O4 := Lib.hid ho4
        have B4 := Lib.hid (HB3.out.grown hg4 HB3.out.size (fun j hj => (HO3.out.lt j hj).1))
        clear ho4 hg4
        go_wp2_with fail
        go_roundw
        case rel => exact ⟨k + 1, by go_num, by omega, Lib.hid ⟨by rw [HXT.out, if_neg (by simp), List.length_append]; exact O4.out, B4.out⟩⟩
        case measure => simp [intOf]; omega
      · go_wp2_with fail
        go_roundw
        case rel => exact ⟨k + 1, by go_num, by omega, Lib.hid ⟨by rw [HXT.out, if_pos (by simp)]; exact HO2.out, HB2.out⟩⟩
        case measure => simp [intOf]; omega
    · obtain rfl : k = L := by omega
      go_wp2_with fail
      go_ret
      exact ⟨_, rfl, by rw [← HZ.out]; exact HH.out.1, HH.out.2⟩
end Go.Proofs.YtilneflfeegnfaaGreat.Su
namespace Go.Proofs.YtilneflfeegnfaaGreat.Su
open Go.RowKit
theorem size48' (W : World) : (Go.sizeOf 49).run Tryz.prog W = .ok 8 W := by
  obtain ⟨i, hi, hs⟩ := Option.map_eq_some_iff.1 size48
  rw [← hs]
  simp [Go.sizeOf, typeInfo, hi]
theorem slS_l (A : Option Addr) (n c k : Nat) (hk : k ≤ n) (hc : n ≤ c) (W : World) : (Instr.slice 64 (.slice A n c) (some (.int .i64 (k : Int))) none none).run Tryz.prog W = .ok (.slice (dA 8 A c k) (n - k) (c - k)) W := by
  have h1 : (k : Int) ≤ n := by omega
  unfold Instr.slice Instr.sliceBounds Instr.sliceBound
  simp only [Sem.run_bind, run_underlying Tryz.underlying64, Result.andThen_ok, Sem.run_pure, size48', asIntOf]
  try simp only [Option.isSome_none, Bool.false_eq_true, if_false, Sem.run_bind, Sem.run_pure, Result.andThen_ok]
  rw [if_pos ⟨by omega, h1⟩]
  simp only [Sem.run_bind, Sem.run_pure, Result.andThen_ok, Int.toNat_natCast]
  rfl
theorem at_sliceL {ops : Array Oper} {rest : List Oper} {op : Oper} {a : Act} {w : World} {Q : Exit → Act → World → Prop} (x l : Operand) (hgd : op.guard = none) (ho : op.op = .slice 64 x (some l) none none) (A : Option Addr) (n c k : Nat) (hx : a.eval x = .slice A n c) (hl : a.eval l = .int .i64 (k : Int)) (hk : k ≤ n) (hc : n ≤ c)
    (h : wpList Tryz.prog ops Q rest (a.put op.dst (.slice (dA 8 A c k) (n - k) (c - k))) w) : wpList Tryz.prog ops Q (op :: rest) a w :=
  wpList_plain hgd fun _ hK => by
    have hr : (Instr.sliceAt 64 (.slice A n c) (some (.int .i64 (k : Int))) none none).run Tryz.prog w = .ok (.slice (dA 8 A c k) (n - k) (c - k)) w := by
      have := slS_l A n c k hk hc w
      simpa only [Instr.sliceAt, Sem.run_bind, run_underlying Tryz.underlying64, Result.andThen_ok] using this
    unfold Oper.wp execOp
    simp only [ho, hx, hl, Option.map_some, Option.map_none, Sem.run_bind, Sem.run_pure, Result.andThen_ok, hr]
    exact hK _ _ h
end Go.Proofs.YtilneflfeegnfaaGreat.Su
namespace Go.Proofs.YtilneflfeegnfaaGreat.Su
open Go.RowKit
def hd (c : Cf) (n : Nat) : Nat := n - 1 - (max c.c 0).toNat
def fq (c : Cf) (now : Int) (ss : List Sg) : List Sg := ss.filter fun s => wi now s.t c.a
def fr (c : Cf) (ss : List Sg) (now : Int) : List Sg := fq c now (ss.drop (hd c ss.length))
theorem fq_take {c : Cf} {now : Int} {ss : List Sg} {k : Nat} {s : Sg} (h : ss[k]? = some s) : fq c now (ss.take (k + 1)) = if wi now s.t c.a then fq c now (ss.take k) ++ [s] else fq c now (ss.take k) := by
  unfold fq
  rw [List.take_add_one, h, List.filter_append]
  cases hn : wi now s.t c.a <;> simp [hn]
theorem fq_le (c : Cf) (now : Int) (ss : List Sg) : (fq c now ss).length ≤ ss.length := List.length_filter_le ..
theorem fr_le (c : Cf) (ss : List Sg) (now : Int) : (fr c ss now).length ≤ ss.length := Nat.le_trans (fq_le ..) (by rw [List.length_drop]; omega)
set_option maxRecDepth 100000 in
set_option maxHeartbeats 4000000 in
theorem freshOf_any (x : Cf) (now : Int) (A : Option Addr) (xs : List Sg) (cap : Nat) (w : World) (h : Rw eS w A xs) (hc : xs.length ≤ cap) (hx : xs.length ≤ 1000000) (hcd : x.c ≤ 1099511627776) :
    Calls Tryz.prog 91 #[cfv x, .slice A xs.length cap, .int .i64 now] w (OwnPost eS 49 w (fr x xs now)) := by
  obtain ⟨H, hH⟩ : ∃ H, hd x xs.length = H := ⟨_, rfl⟩
  have hHL : H ≤ xs.length := by rw [← hH]; unfold hd; omega
  obtain ⟨M, hM⟩ : ∃ M : Nat, max x.c 0 = (M : Int) := ⟨(max x.c 0).toNat, by omega⟩
  have hM1 : M ≤ 1099511627776 := by omega
  have EM : max x.c 0 = (M : Int) := hM
  have EH : max ((xs.length : Int) - 1 - M) 0 = (H : Int) := by rw [← hH]; unfold hd; rw [hM]; omega
  have hfr : fr x xs now = fq x now (xs.drop H) := by unfold fr; rw [hH]
  rw [hfr]
  have R0 := h.rest hc H
  have hys : (xs.drop H).length = xs.length - H := List.length_drop
  obtain ⟨D, hD⟩ : ∃ D, dA 8 A cap H = D := ⟨_, rfl⟩
  rw [show eS.N = 8 from rfl, hD] at R0
  obtain ⟨Y, hY⟩ : ∃ Y, xs.drop H = Y := ⟨_, rfl⟩
  rw [hY] at R0 hys ⊢
  obtain ⟨L0, hL0⟩ : ∃ L0, xs.length = L0 := ⟨_, rfl⟩
  rw [hL0] at hc hx hHL EH hys ⊢
  obtain ⟨L, hL⟩ : ∃ L, L0 - H = L := ⟨_, rfl⟩
  have hLL : L ≤ L0 := by omega
  rw [hL] at hys
  have R := Lib.hid R0
  have HL := Lib.hid hys
  have HD := Lib.hid hD
  have HS := Lib.hid hL
  have HT := Lib.hid (fun (k : Nat) (s : Sg) (h : Y[k]? = some s) => fq_take (c := x) (now := now) h)
  have HLe := Lib.hid (fun k => fq_le x now (Y.take k))
  have HZ := Lib.hid (show fq x now (Y.take L) = fq x now Y by rw [← hys, List.take_length])
  have HW := Lib.hid fun u W => within_any now u x.a W
  have HB0 := Lib.hid (show Below w.heap.size w (w.alloc (Cfx x)) from (Below.refl _ w).alloc (Nat.le_refl _) _)
  have HC0 := Lib.hid (cm_box w x)
  have hz : w.heap.size ≤ (w.alloc (Cfx x)).heap.size := by simp
  have hz2 := hz
  obtain ⟨xa, xb, xc, xd, xe, xf, xg, xh, xi⟩ := x
  dsimp only at EM hcd HW
  simp only [cfv, Cfx] at HB0 HC0 hz hz2 ⊢
  clear h hH hM hfr R0 hys hD hY hL0 hL
  go_enter Tryz.func91, Tryz.ntmps91
  go_upto_region 1 with fail
  change (Code.region _ _ _).wp _ _ _ (w.alloc (.cells #[.int .i64 xa, .int .i64 xb, .int .i64 xc, .int .i64 xd, .int .i64 xe, .int .i64 xf, .int .i64 xg, .int .i64 xh, .int .i64 xi] 27))
  generalize w.alloc (.cells #[.int .i64 xa, .int .i64 xb, .int .i64 xc, .int .i64 xd, .int .i64 xe, .int .i64 xf, .int .i64 xg, .int .i64 xh, .int .i64 xi] 27) = W0 at *
  have k2 := HC0.out.c2
  dsimp only at k2
  go_wp2_with (refine at_sliceL (.tmp 19) (.tmp 20) rfl rfl A L0 cap H rfl (by simp [Act.eval, Act.put]) hHL hc ?_)
  rw [HD.out, HS.out]
  go_wp2_with fail
  go_loopw [8, 23] (fun v i wr => ∃ k : Nat, i = .int .i64 k ∧ k ≤ L ∧ Hid (wr.ownsRow W0.heap.size 49 8 v (fq ⟨xa, xb, xc, xd, xe, xf, xg, xh, xi⟩ now (Y.take k)).length (eS.cs (fq ⟨xa, xb, xc, xd, xe, xf, xg, xh, xi⟩ now (Y.take k))) ∧ Below W0.heap.size W0 wr)) (fun _ i _ => L - (intOf i).toNat)
  case atStart => exact ⟨0, rfl, by omega, Lib.hid ⟨World.ownsRow_nil _ _ _ _, Below.refl _ _⟩⟩
  case round =>
    obtain ⟨k, rfl, hk, HH⟩ := hrel
    by_cases hlt : k < L
    · obtain ⟨s, hs⟩ : ∃ s, Y[k]? = some s := ⟨_, List.getElem?_eq_getElem (by rw [HL.out]; exact hlt)⟩
      have RR := (R.out.below HB0.out).below HH.out.2
      obtain ⟨y, rfl⟩ := rw_some RR (by rw [HL.out]; omega)
      have hat := RR.at hs
      have HXT := Lib.hid (HT.out k _ hs)
      have hle := HLe.out k
      rw [List.length_take, HL.out] at hle
      have HLE := Lib.hid (show (fq ⟨xa, xb, xc, xd, xe, xf, xg, xh, xi⟩ now (Y.take k)).length + 1 ≤ 1000000000000 by omega)
      have HWs := Lib.hid (HW.out s.t)
      have HBX := Lib.hid (sb_box wr s)
      have HA1 : Below wr.heap.size wr (wr.alloc (Sx s)) := (Below.refl _ wr).alloc (Nat.le_refl _) _
      have HB1 := Lib.hid (bthen HH.out.2 HA1 HH.out.2.size)
      have HO1 := Lib.hid (own_keep HH.out.1 HA1)
      have HC1 := Lib.hid ((HC0.out.below HH.out.2).below HA1)
      obtain ⟨e, he⟩ : ∃ e, wi now s.t xa = e := ⟨_, rfl⟩
      have HE := Lib.hid he
      rw [he] at HWs HXT
      obtain ⟨f, m, t⟩ := s
      have HRM := Lib.hid fun W => rw_one W ⟨f, m, t⟩ 49
      obtain ⟨a0, a1, a2, a3, a4, a5⟩ := m
      simp only [Sx, sl] at HWs HBX HB1 HO1 HRM HC1
      clear hs he RR hle HA1
      go_upto_region 6 with (refine at_load48 _ rfl rfl _ _ rfl hat ?_)
      generalize wr.alloc (.cells #[.int .i64 f, .int .u8 a0, .int .u8 a1, .int .u8 a2, .int .u8 a3, .int .u8 a4, .int .u8 a5, .int .i64 t] 49) = W1 at *
      generalize wr.heap.size = N1 at *
      have d0 := HC1.out.c0
      have d7 := HBX.out.c7
      dsimp only at d0 d7
      go_wp2_with fail
      refine (HWs.out _).mono ?_
      rintro e2 w2 ⟨rfl, rfl⟩
      cases e
      · go_wp2_with fail
        go_roundw
        case rel => exact ⟨k + 1, by go_num, by omega, Lib.hid ⟨by rw [HXT.out, if_neg (by simp)]; exact HO1.out, HB1.out⟩⟩
        case measure => simp [intOf]; omega
      · have d1 := HBX.out.c0
        have d2 := HBX.out.c1
        have d3 := HBX.out.c2
        have d4 := HBX.out.c3
        have d5 := HBX.out.c4
        have d6 := HBX.out.c5
        have d8 := HBX.out.c6
        dsimp only at d1 d2 d3 d4 d5 d6 d8
        have HA3 : Below W1.heap.size W1 (W1.alloc (.cells #[.int .i64 f, .int .u8 a0, .int .u8 a1, .int .u8 a2, .int .u8 a3, .int .u8 a4, .int .u8 a5, .int .i64 t] 49)) := (Below.refl _ W1).alloc (Nat.le_refl _) _
        have HB3 := Lib.hid (bthen HB1.out HA3 HB1.out.size)
        have HO3 := Lib.hid (own_keep HO1.out HA3)
        clear HA3
        go_wp2_with (at_builtin; refine wpList_append_rw tS _ rfl (.tmp 33) (.tmp 35) rfl W0.heap.size _ _ _ (by simp [Act.eval, Act.put]) HO3.out (some ⟨W1.heap.size, 0, none⟩) 1 1 [⟨f, ⟨a0, a1, a2, a3, a4, a5⟩, t⟩] (by simp [Act.eval, Act.put]) rfl (HRM.out W1) HLE.out HB3.out.size ?_)
        intro v4 w4 ho4 hg4
        have O4 := Lib.hid ho4
        have B4 := Lib.hid (HB3.out.grown hg4 HB3.out.size (fun j hj => (HO3.out.lt j hj).1))
        clear ho4 hg4
        go_wp2_with fail
        go_roundw
        case rel => exact ⟨k + 1, by go_num, by omega, Lib.hid ⟨by rw [HXT.out, if_pos (by simp), List.length_append]; exact O4.out, B4.out⟩⟩
        case measure => simp [intOf]; omega
    · obtain rfl : k = L := by omega
      go_wp2_with fail
      go_ret
      exact ⟨_, rfl, own_base (by rw [← HZ.out]; exact HH.out.1) hz, HB0.out.trans (HH.out.2.mono hz)⟩
end Go.Proofs.YtilneflfeegnfaaGreat.Su
namespace Go.Proofs.YtilneflfeegnfaaGreat.Su
open Go.RowKit
structure Hm (W : World) (b : Nat) (m : Mc) : Prop where
  lt : b < W.heap.size
  c2 : W.cell? ⟨b, 2, none⟩ = some (.int .u8 m.b0)
  c3 : W.cell? ⟨b, 3, none⟩ = some (.int .u8 m.b1)
  c4 : W.cell? ⟨b, 4, none⟩ = some (.int .u8 m.b2)
  c5 : W.cell? ⟨b, 5, none⟩ = some (.int .u8 m.b3)
  c6 : W.cell? ⟨b, 6, none⟩ = some (.int .u8 m.b4)
  c7 : W.cell? ⟨b, 7, none⟩ = some (.int .u8 m.b5)
theorem Hm.keep {W W' : World} {b B : Nat} {s : Mc} (h : Hm W b s) (hb : Below B W W') (hB : b < B) (hs : W.heap.size ≤ W'.heap.size) : Hm W' b s :=
  ⟨Nat.lt_of_lt_of_le h.lt hs, by rw [hb.cell (p := ⟨b, 2, none⟩) hB]; exact h.c2, by rw [hb.cell (p := ⟨b, 3, none⟩) hB]; exact h.c3,
    by rw [hb.cell (p := ⟨b, 4, none⟩) hB]; exact h.c4, by rw [hb.cell (p := ⟨b, 5, none⟩) hB]; exact h.c5, by rw [hb.cell (p := ⟨b, 6, none⟩) hB]; exact h.c6, by rw [hb.cell (p := ⟨b, 7, none⟩) hB]; exact h.c7⟩
theorem Hm.below {W W' : World} {b : Nat} {s : Mc} (h : Hm W b s) (hb : Below W.heap.size W W') : Hm W' b s := h.keep hb h.lt hb.size
def Hx (a : Int) (o : Value) (m : Mc) : Obj := .cells #[.int .u32 a, o, .int .u8 m.b0, .int .u8 m.b1, .int .u8 m.b2, .int .u8 m.b3, .int .u8 m.b4, .int .u8 m.b5] 44
set_option maxRecDepth 100000 in
set_option maxHeartbeats 2000000 in
theorem rogue_nil (A B : Option Addr) (n c k d : Nat) (w : World) : Calls Tryz.prog 94 #[.pointer none, .slice A n c, .slice B k d] w fun e w' => e = .returned (.bool (decide (0 < n))) ∧ w' = w := by
  by_cases h : 0 < n
  · have h' : (0 : Int) < n := by omega
    go_enter Tryz.func94, Tryz.ntmps94
    go_wp2_with fail
    go_ret
    exact ⟨ret_bool (by simp [h]), rfl⟩
  · have h' : ¬ (0 : Int) < n := by omega
    go_enter Tryz.func94, Tryz.ntmps94
    go_wp2_with fail
    go_ret
    exact ⟨ret_bool (by simp [h]), rfl⟩
set_option maxRecDepth 100000 in
set_option maxHeartbeats 2000000 in
theorem rogue_some (b : Nat) (m : Mc) (A B : Option Addr) (n c d : Nat) (ys : List Mc) (w : World) (hm : Hm w b m) (h : Rw eM w B ys) (hd : ys.length ≤ d) :
    Calls Tryz.prog 94 #[.pointer (some ⟨b, 0, none⟩), .slice A n c, .slice B ys.length d] w fun e w' => e = .returned (.bool (!noB m && anyO ys m)) ∧ Below w.heap.size w w' := by
  have HN := Lib.hid fun W => none_any m W
  have HO := Lib.hid fun W (hW : Rw eM W B ys) => anyOther_any m B ys d W hW hd
  have HM := Lib.hid hm
  have R := Lib.hid h
  have d1 := hm.c2
  have d2 := hm.c3
  have d3 := hm.c4
  have d4 := hm.c5
  have d5 := hm.c6
  have d6 := hm.c7
  obtain ⟨e, he⟩ : ∃ e, noB m = e := ⟨_, rfl⟩
  rw [he] at HN ⊢
  obtain ⟨q, hq⟩ : ∃ q, anyO ys m = q := ⟨_, rfl⟩
  rw [hq] at HO ⊢
  obtain ⟨a0, a1, a2, a3, a4, a5⟩ := m
  dsimp only at d1 d2 d3 d4 d5 d6
  simp only [mv] at HN HO
  clear hm h he hq
  cases e
  · go_enter Tryz.func94, Tryz.ntmps94
    go_wp2_with fail
    refine (HN.out _).mono ?_
    rintro e w2 ⟨rfl, hb⟩
    have HB := Lib.hid hb
    have M2 := HM.out.below hb
    have d1 := M2.c2
    have d2 := M2.c3
    have d3 := M2.c4
    have d4 := M2.c5
    have d5 := M2.c6
    have d6 := M2.c7
    dsimp only at d1 d2 d3 d4 d5 d6
    have R2 := Lib.hid (R.out.below hb)
    clear hb M2
    go_wp2_with fail
    refine (HO.out _ R2.out).mono ?_
    rintro e w3 ⟨rfl, hb⟩
    have HB3 := Lib.hid (bthen HB.out hb HB.out.size)
    clear hb
    go_wp2_with fail
    go_ret
    exact ⟨ret_bool (by simp), HB3.out⟩
  · go_enter Tryz.func94, Tryz.ntmps94
    go_wp2_with fail
    refine (HN.out _).mono ?_
    rintro e w2 ⟨rfl, hb⟩
    have HB := Lib.hid hb
    clear hb
    go_wp2_with fail
    go_ret
    exact ⟨ret_bool (by simp), HB.out⟩
end Go.Proofs.YtilneflfeegnfaaGreat.Su
namespace Go.Proofs.YtilneflfeegnfaaGreat.Su
open Go.RowKit
def apS (S : List Mc) : Bool := match S with
  | [] => false
  | x :: _ => anyO S x
def oldB (c : Cf) (ss : List Sg) (now : Int) : Bool := match ss.getLast? with
  | some s => !wi now s.t c.b
  | none => false
def stO (c : Cf) (h : Option Mc) (ss : List Sg) (now : Int) : Int :=
  if apS (sts (fr c ss now)) then 5 else match h with
  | none => if 0 < (fr c ss now).length then 4 else 0
  | some m => if !noB m && anyO (sts (fr c ss now)) m then 4 else if c.c ≤ (fr c ss now).length then 2 else if oldB c ss now then 3 else 1
def hp : Option (Nat × Mc) → Value
  | none => .pointer none
  | some (b, _) => .pointer (some ⟨b, 0, none⟩)
def HP (W : World) : Option (Nat × Mc) → Prop
  | none => True
  | some (b, m) => Hm W b m
theorem HP.below {W W' : World} {h : Option (Nat × Mc)} (k : HP W h) (hb : Below W.heap.size W W') : HP W' h := by
  cases h with
  | none => trivial
  | some p => exact Hm.below k hb
theorem own_at {α : Type} {E : El α} {w : World} {base : Nat} {e : TypeId} {v : Value} {n : Nat} {xs : List α} (h : w.ownsRow base e E.N v n (E.cs xs)) (hn : xs.length ≤ 140737488355328) :
    ∃ A cap, v = .slice A xs.length cap ∧ xs.length ≤ cap ∧ cap ≤ maxLen ∧ Rw E w A xs ∧ (∀ y, A = some y → ∃ g, y = ⟨g, 0, none⟩) := by
  obtain ⟨A, cap, rfl, h1, h2, _, h3, _⟩ := own_rw h hn
  refine ⟨A, cap, rfl, h1, h2, h3, fun y hy => ?_⟩
  rcases h.2 with ⟨e1, h0⟩ | ⟨g, cap', cur, e1, _⟩
  · injection e1 with e1
    rw [hy] at e1
    cases e1
  · injection e1 with e1
    rw [hy] at e1
    injection e1 with e1
    exact ⟨g, e1⟩
set_option maxRecDepth 100000 in
set_option maxHeartbeats 8000000 in
theorem of_nil (x : Cf) (A : Option Addr) (xs : List Sg) (cap : Nat) (now : Int) (w : World) (h : Rw eS w A xs) (hc : xs.length ≤ cap) (hx : xs.length ≤ 1000000) (hcd : x.c ≤ 1099511627776) :
    Calls Tryz.prog 44 #[cfv x, .pointer none, .slice A xs.length cap, .int .i64 now] w fun e w' => e = .returned (.int .i64 (stO x none xs now)) ∧ Below w.heap.size w w' := by
  have hfl := fr_le x xs now
  have HFR := Lib.hid fun W (hW : Rw eS W A xs) => freshOf_any x now A xs cap W hW hc hx hcd
  have HST := Lib.hid fun B c W (hW : Rw eS W B (fr x xs now)) (hcc : (fr x xs now).length ≤ c) => stationsOf_any B (fr x xs now) c W hW hcc (by omega)
  have HSL := sts_le (fr x xs now)
  have HSP := Lib.hid (show stO x none xs now = _ from by unfold stO; rfl)
  have HB0 := Lib.hid (show Below w.heap.size w (w.alloc (Cfx x)) from (Below.refl _ w).alloc (Nat.le_refl _) _)
  have HC0 := Lib.hid (cm_box w x)
  have R := Lib.hid (h.below HB0.out)
  skip
  have HAN := Lib.hid fun m' B ys c W (hW : Rw eM W B ys) (hcc : ys.length ≤ c) => anyOther_any m' B ys c W hW hcc
  skip
  have RN := Lib.hid fun A1 B n c k d W => rogue_nil A1 B n c k d W
  skip
  obtain ⟨F, hF⟩ : ∃ F, fr x xs now = F := ⟨_, rfl⟩
  rw [hF] at HFR HST HSL HSP hfl
  obtain ⟨S, hS⟩ : ∃ S, sts F = S := ⟨_, rfl⟩
  rw [hS] at HST HSP HSL
  obtain ⟨L, hL⟩ : ∃ L, xs.length = L := ⟨_, rfl⟩
  have HL := Lib.hid hL
  rw [hL] at hc hx hfl HFR ⊢
  obtain ⟨xa, xb, xc, xd, xe, xf, xg, xh, xi⟩ := x
  skip
  dsimp only at hcd HSP
  simp only [cfv, Cfx] at HB0 HC0 R HFR  ⊢
  clear h hL hF hS 
  go_enter Tryz.func44, Tryz.ntmps44
  go_upto_region 1 with fail
  change (Code.region _ _ _).wp _ _ _ (w.alloc (.cells #[.int .i64 xa, .int .i64 xb, .int .i64 xc, .int .i64 xd, .int .i64 xe, .int .i64 xf, .int .i64 xg, .int .i64 xh, .int .i64 xi] 27))
  generalize w.alloc (.cells #[.int .i64 xa, .int .i64 xb, .int .i64 xc, .int .i64 xd, .int .i64 xe, .int .i64 xf, .int .i64 xg, .int .i64 xh, .int .i64 xi] 27) = W0 at *
  have k0 := HC0.out.c0
  have k1 := HC0.out.c1
  have k2 := HC0.out.c2
  have k3 := HC0.out.c3
  have k4 := HC0.out.c4
  have k5 := HC0.out.c5
  have k6 := HC0.out.c6
  have k7 := HC0.out.c7
  have k8 := HC0.out.c8
  dsimp only at k0 k1 k2 k3 k4 k5 k6 k7 k8
  go_wp2_with fail
  refine (HFR.out _ R.out).mono ?_
  rintro e w2 ⟨v2, rfl, ho, hb⟩
  obtain ⟨A1, c1, rfl, hc1, _, h1, -⟩ := own_at (E := eS) ho (by omega)
  have B2 := Lib.hid (bthen HB0.out hb HB0.out.size)
  have C2 := Lib.hid (HC0.out.below hb)
  have X2 := Lib.hid (R.out.below hb)
  skip
  have F2 := Lib.hid h1
  clear ho hb h1 k0 k1 k2 k3 k4 k5 k6 k7 k8
  go_wp2_with fail
  refine (HST.out _ _ _ F2.out hc1).mono ?_
  rintro e w3 ⟨v3, rfl, ho, hb⟩
  obtain ⟨A2, c2, rfl, hc2, _, h1, hg⟩ := own_at (E := eM) ho (by omega)
  have B3' := Lib.hid (bthen B2.out hb B2.out.size)
  have C3' := Lib.hid (C2.out.below hb)
  have X3' := Lib.hid (X2.out.below hb)
  skip
  have R3' := Lib.hid h1
  obtain ⟨n1, hn1⟩ : ∃ n1, F.length = n1 := ⟨_, rfl⟩
  rw [hn1] at hc1 hfl HSL HSP ⊢
  clear ho hb hn1 HFR HST
  rcases S with _ | ⟨z, S'⟩
  · have HAP := Lib.hid (show apS [] = false from rfl)
    have B3 := B3'
    have C3 := C3'
    have X3 := X3'
    skip
    have R3 := R3'
    simp only [List.length_nil] at *
    clear h1 hg
    go_wp2_with fail
    refine (RN.out _ _ _ _ _ _ _).mono ?_
    rintro e w4 ⟨rfl, rfl⟩
    by_cases h0 : 0 < n1
    · have h0' : decide (0 < n1) = true := decide_eq_true h0
      have HR := Lib.hid (HSP.out.trans (by rw [HAP.out, if_neg (by simp), if_pos h0]))
      rw [h0']
      go_wp2_with fail
      go_ret
      exact ⟨ret_int HR.out.symm, B3.out⟩
    · have h0' : decide (0 < n1) = false := decide_eq_false h0
      have HR := Lib.hid (HSP.out.trans (by rw [HAP.out, if_neg (by simp), if_neg h0]))
      rw [h0']
      go_wp2_with fail
      go_ret
      exact ⟨ret_int HR.out.symm, B3.out⟩
  · obtain ⟨y, rfl⟩ := rw_some h1 (by simp)
    obtain ⟨g, rfl⟩ := hg _ rfl
    have hat := h1.at (q := 0) (x := z) rfl
    rw [show ((⟨g, 0, none⟩ : Addr).add (0 * eM.N)) = ⟨g, 0, none⟩ from rfl] at hat
    have g0 : w3.cell? ⟨g, 0, none⟩ = some (.int .u8 z.b0) := hat 0 _ rfl
    have g1 : w3.cell? ⟨g, 1, none⟩ = some (.int .u8 z.b1) := by have := hat 1 _ rfl; rwa [Addr.add_mid] at this
    have g2 : w3.cell? ⟨g, 2, none⟩ = some (.int .u8 z.b2) := by have := hat 2 _ rfl; rwa [Addr.add_mid] at this
    have g3 : w3.cell? ⟨g, 3, none⟩ = some (.int .u8 z.b3) := by have := hat 3 _ rfl; rwa [Addr.add_mid] at this
    have g4 : w3.cell? ⟨g, 4, none⟩ = some (.int .u8 z.b4) := by have := hat 4 _ rfl; rwa [Addr.add_mid] at this
    have g5 : w3.cell? ⟨g, 5, none⟩ = some (.int .u8 z.b5) := by have := hat 5 _ rfl; rwa [Addr.add_mid] at this
    have hAP : apS (z :: S') = anyO (z :: S') z := rfl
    have hl1 : 0 < (z :: S').length := by simp
    have HC := Lib.hid fun W (hW : Rw eM W (some ⟨g, 0, none⟩) (z :: S')) => HAN.out z (some ⟨g, 0, none⟩) (z :: S') c2 W hW hc2
    obtain ⟨S, hSS⟩ : ∃ S, z :: S' = S := ⟨_, rfl⟩
    rw [hSS] at HC hAP hl1 HSP R3' hc2 HSL ⊢
    obtain ⟨q, hqq⟩ : ∃ q, anyO S z = q := ⟨_, rfl⟩
    rw [hqq] at HC hAP
    have HAP := Lib.hid hAP
    obtain ⟨a0, a1, a2, a3, a4, a5⟩ := z
    dsimp only at g0 g1 g2 g3 g4 g5
    simp only [mv] at HC
    obtain ⟨K, hK⟩ : ∃ K, S.length = K := ⟨_, rfl⟩
    have HK := Lib.hid hK
    rw [hK] at hl1 HC hc2 HSL ⊢
    have hl1' : (0 : Int) < K := by omega
    clear hat h1 hg hAP hSS hqq hK
    go_wp2_with fail
    refine (HC.out _ R3'.out).mono ?_
    rintro e w4 ⟨rfl, hb⟩
    have B3 := Lib.hid (bthen B3'.out hb B3'.out.size)
    have C3 := Lib.hid (C3'.out.below hb)
    have X3 := Lib.hid (X3'.out.below hb)
    skip
    have R3 := Lib.hid (R3'.out.below hb)
    clear hb g0 g1 g2 g3 g4 g5
    cases q
    · go_wp2_with fail
      skip
      refine (RN.out _ _ _ _ _ _ _).mono ?_
      rintro e w4 ⟨rfl, rfl⟩
      by_cases h0 : 0 < n1
      · have h0' : decide (0 < n1) = true := decide_eq_true h0
        have HR := Lib.hid (HSP.out.trans (by rw [HAP.out, if_neg (by simp), if_pos h0]))
        rw [h0']
        go_wp2_with fail
        go_ret
        exact ⟨ret_int HR.out.symm, B3.out⟩
      · have h0' : decide (0 < n1) = false := decide_eq_false h0
        have HR := Lib.hid (HSP.out.trans (by rw [HAP.out, if_neg (by simp), if_neg h0]))
        rw [h0']
        go_wp2_with fail
        go_ret
        exact ⟨ret_int HR.out.symm, B3.out⟩
    · have HR := Lib.hid (HSP.out.trans (by rw [HAP.out, if_pos rfl]))
      go_wp2_with fail
      go_ret
      exact ⟨ret_int HR.out.symm, B3.out⟩
set_option maxRecDepth 100000 in
set_option maxHeartbeats 8000000 in
theorem of_some (x : Cf) (b : Nat) (m : Mc) (A : Option Addr) (xs : List Sg) (cap : Nat) (now : Int) (w : World) (hm : Hm w b m) (h : Rw eS w A xs) (hc : xs.length ≤ cap) (hx : xs.length ≤ 1000000) (hcd : x.c ≤ 1099511627776) :
    Calls Tryz.prog 44 #[cfv x, .pointer (some ⟨b, 0, none⟩), .slice A xs.length cap, .int .i64 now] w fun e w' => e = .returned (.int .i64 (stO x (some m) xs now)) ∧ Below w.heap.size w w' := by
  have hfl := fr_le x xs now
  have HFR := Lib.hid fun W (hW : Rw eS W A xs) => freshOf_any x now A xs cap W hW hc hx hcd
  have HST := Lib.hid fun B c W (hW : Rw eS W B (fr x xs now)) (hcc : (fr x xs now).length ≤ c) => stationsOf_any B (fr x xs now) c W hW hcc (by omega)
  have HSL := sts_le (fr x xs now)
  have HSP := Lib.hid (show stO x (some m) xs now = _ from by unfold stO; rfl)
  have HB0 := Lib.hid (show Below w.heap.size w (w.alloc (Cfx x)) from (Below.refl _ w).alloc (Nat.le_refl _) _)
  have HC0 := Lib.hid (cm_box w x)
  have R := Lib.hid (h.below HB0.out)
  have HM0 := Lib.hid (hm.below HB0.out)
  have HAN := Lib.hid fun m' B ys c W (hW : Rw eM W B ys) (hcc : ys.length ≤ c) => anyOther_any m' B ys c W hW hcc
  have RN := Lib.hid fun A1 n c d B W (hW : Hm W b m) => (show Calls Tryz.prog 94 #[.pointer (some ⟨b, 0, none⟩), .slice A1 n c, .slice B 0 d] W fun e w' => e = .returned (.bool (!noB m && anyO [] m)) ∧ Below W.heap.size W w' from rogue_some b m A1 B n c d [] W hW (Rw.nil _ _) (Nat.zero_le _))
  have RS := Lib.hid fun A1 n c d B ys W => rogue_some b m A1 B n c d ys W
  have HW := Lib.hid fun u W => within_any now u x.b W
  obtain ⟨F, hF⟩ : ∃ F, fr x xs now = F := ⟨_, rfl⟩
  rw [hF] at HFR HST HSL HSP hfl
  obtain ⟨S, hS⟩ : ∃ S, sts F = S := ⟨_, rfl⟩
  rw [hS] at HST HSP HSL
  obtain ⟨L, hL⟩ : ∃ L, xs.length = L := ⟨_, rfl⟩
  have HL := Lib.hid hL
  rw [hL] at hc hx hfl HFR ⊢
  obtain ⟨xa, xb, xc, xd, xe, xf, xg, xh, xi⟩ := x
  dsimp only at HW
  dsimp only at hcd HSP
  simp only [cfv, Cfx] at HB0 HC0 R HFR HM0 ⊢
  clear h hL hF hS hm
  go_enter Tryz.func44, Tryz.ntmps44
  go_upto_region 1 with fail
  change (Code.region _ _ _).wp _ _ _ (w.alloc (.cells #[.int .i64 xa, .int .i64 xb, .int .i64 xc, .int .i64 xd, .int .i64 xe, .int .i64 xf, .int .i64 xg, .int .i64 xh, .int .i64 xi] 27))
  generalize w.alloc (.cells #[.int .i64 xa, .int .i64 xb, .int .i64 xc, .int .i64 xd, .int .i64 xe, .int .i64 xf, .int .i64 xg, .int .i64 xh, .int .i64 xi] 27) = W0 at *
  have k0 := HC0.out.c0
  have k1 := HC0.out.c1
  have k2 := HC0.out.c2
  have k3 := HC0.out.c3
  have k4 := HC0.out.c4
  have k5 := HC0.out.c5
  have k6 := HC0.out.c6
  have k7 := HC0.out.c7
  have k8 := HC0.out.c8
  dsimp only at k0 k1 k2 k3 k4 k5 k6 k7 k8
  go_wp2_with fail
  refine (HFR.out _ R.out).mono ?_
  rintro e w2 ⟨v2, rfl, ho, hb⟩
  obtain ⟨A1, c1, rfl, hc1, _, h1, -⟩ := own_at (E := eS) ho (by omega)
  have B2 := Lib.hid (bthen HB0.out hb HB0.out.size)
  have C2 := Lib.hid (HC0.out.below hb)
  have X2 := Lib.hid (R.out.below hb)
  have M2 := Lib.hid (HM0.out.below hb)
  have F2 := Lib.hid h1
  clear ho hb h1 k0 k1 k2 k3 k4 k5 k6 k7 k8
  go_wp2_with fail
  refine (HST.out _ _ _ F2.out hc1).mono ?_
  rintro e w3 ⟨v3, rfl, ho, hb⟩
  obtain ⟨A2, c2, rfl, hc2, _, h1, hg⟩ := own_at (E := eM) ho (by omega)
  have B3' := Lib.hid (bthen B2.out hb B2.out.size)
  have C3' := Lib.hid (C2.out.below hb)
  have X3' := Lib.hid (X2.out.below hb)
  have M3' := Lib.hid (M2.out.below hb)
  have R3' := Lib.hid h1
  obtain ⟨n1, hn1⟩ : ∃ n1, F.length = n1 := ⟨_, rfl⟩
  rw [hn1] at hc1 hfl HSL HSP ⊢
  clear ho hb hn1 HFR HST
  rcases S with _ | ⟨z, S'⟩
  · have HAP := Lib.hid (show apS [] = false from rfl)
    have B3 := B3'
    have C3 := C3'
    have X3 := X3'
    have HM := M3'
    have R3 := R3'
    simp only [List.length_nil] at *
    clear h1 hg
    go_wp2_with fail
    refine (RN.out _ _ _ _ _ _ HM.out).mono ?_
    rintro e w4 ⟨rfl, hb⟩
    have B4 := Lib.hid (bthen B3.out hb B3.out.size)
    have C4 := Lib.hid (C3.out.below hb)
    have X4 := Lib.hid (X3.out.below hb)
    have k2 := C4.out.c2
    have k1 := C4.out.c1
    dsimp only at k1 k2
    clear hb
    cases hq : (!noB m && anyO [] m)
    · have HQ := Lib.hid hq
      clear hq
      by_cases hn : xc ≤ n1
      · have hn' : (n1 : Int) ≥ xc := hn
        have HR := Lib.hid (HSP.out.trans (by rw [HAP.out, if_neg (by simp), HQ.out, if_neg (by simp), if_pos hn]))
        go_wp2_with fail
        go_ret
        exact ⟨ret_int HR.out.symm, B4.out⟩
      · have hn' : ¬ (n1 : Int) ≥ xc := hn
        have HR := Lib.hid (HSP.out.trans (by rw [HAP.out, if_neg (by simp), HQ.out, if_neg (by simp), if_neg hn]))
        rcases L with _ | J
        · have HOl := Lib.hid (show oldB ⟨xa, xb, xc, xd, xe, xf, xg, xh, xi⟩ xs now = false by
            have := List.eq_nil_of_length_eq_zero HL.out
            rw [this]; rfl)
          go_upto_region 11 with fail
          go_quiet (fail)
          go_wp2_with fail
          go_ret
          exact ⟨ret_int (by rw [HR.out, HOl.out]; rfl), bdrewN B4.out _⟩
        · obtain ⟨s, hs⟩ : ∃ s, xs[J]? = some s := ⟨_, List.getElem?_eq_getElem (by rw [HL.out]; omega)⟩
          obtain ⟨y, rfl⟩ := rw_some X4.out (by rw [HL.out]; omega)
          have hat := X4.out.at hs
          have j7 : w4.cell? ⟨(y.add (J * 8)).block, (y.add (J * 8)).off + 7, none⟩ = some (.int .i64 s.t) := hat 7 _ rfl
          have hj : IntKind.i64.wrap (J : Int) = (J : Int) := i64_nat (by omega)
          have HWW := Lib.hid (HW.out s.t)
          have HOl := Lib.hid (show oldB ⟨xa, xb, xc, xd, xe, xf, xg, xh, xi⟩ xs now = !wi now s.t xb by
            unfold oldB
            rw [List.getLast?_eq_getElem?, HL.out, show J + 1 - 1 = J by omega, hs])
          clear hs hat
          cases hw : wi now s.t xb
          · have HR2 := Lib.hid (HR.out.trans (by rw [HOl.out, hw, if_pos (by simp)]))
            rw [hw] at HWW
            clear hw
            go_upto_region 11 with fail
            go_quiet ((go_at_call 95; exact Calls.quiet_of_same ((HWW.out _).mono fun e w' h => ⟨h.1, h.2.symm⟩)))
            go_wp2_with fail
            go_ret
            exact ⟨ret_int HR2.out.symm, bdrewN B4.out _⟩
          · have HR2 := Lib.hid (HR.out.trans (by rw [HOl.out, hw, if_neg (by simp)]))
            rw [hw] at HWW
            clear hw
            go_upto_region 11 with fail
            go_quiet ((go_at_call 95; exact Calls.quiet_of_same ((HWW.out _).mono fun e w' h => ⟨h.1, h.2.symm⟩)))
            go_wp2_with fail
            go_ret
            exact ⟨ret_int HR2.out.symm, bdrewN B4.out _⟩
    · have HQ := Lib.hid hq
      have HR := Lib.hid (HSP.out.trans (by rw [HAP.out, if_neg (by simp), HQ.out, if_pos rfl]))
      go_wp2_with fail
      go_ret
      exact ⟨ret_int HR.out.symm, B4.out⟩
  · obtain ⟨y, rfl⟩ := rw_some h1 (by simp)
    obtain ⟨g, rfl⟩ := hg _ rfl
    have hat := h1.at (q := 0) (x := z) rfl
    rw [show ((⟨g, 0, none⟩ : Addr).add (0 * eM.N)) = ⟨g, 0, none⟩ from rfl] at hat
    have g0 : w3.cell? ⟨g, 0, none⟩ = some (.int .u8 z.b0) := hat 0 _ rfl
    have g1 : w3.cell? ⟨g, 1, none⟩ = some (.int .u8 z.b1) := by have := hat 1 _ rfl; rwa [Addr.add_mid] at this
    have g2 : w3.cell? ⟨g, 2, none⟩ = some (.int .u8 z.b2) := by have := hat 2 _ rfl; rwa [Addr.add_mid] at this
    have g3 : w3.cell? ⟨g, 3, none⟩ = some (.int .u8 z.b3) := by have := hat 3 _ rfl; rwa [Addr.add_mid] at this
    have g4 : w3.cell? ⟨g, 4, none⟩ = some (.int .u8 z.b4) := by have := hat 4 _ rfl; rwa [Addr.add_mid] at this
    have g5 : w3.cell? ⟨g, 5, none⟩ = some (.int .u8 z.b5) := by have := hat 5 _ rfl; rwa [Addr.add_mid] at this
    have hAP : apS (z :: S') = anyO (z :: S') z := rfl
    have hl1 : 0 < (z :: S').length := by simp
    have HC := Lib.hid fun W (hW : Rw eM W (some ⟨g, 0, none⟩) (z :: S')) => HAN.out z (some ⟨g, 0, none⟩) (z :: S') c2 W hW hc2
    obtain ⟨S, hSS⟩ : ∃ S, z :: S' = S := ⟨_, rfl⟩
    rw [hSS] at HC hAP hl1 HSP R3' hc2 HSL ⊢
    obtain ⟨q, hqq⟩ : ∃ q, anyO S z = q := ⟨_, rfl⟩
    rw [hqq] at HC hAP
    have HAP := Lib.hid hAP
    obtain ⟨a0, a1, a2, a3, a4, a5⟩ := z
    dsimp only at g0 g1 g2 g3 g4 g5
    simp only [mv] at HC
    obtain ⟨K, hK⟩ : ∃ K, S.length = K := ⟨_, rfl⟩
    have HK := Lib.hid hK
    rw [hK] at hl1 HC hc2 HSL ⊢
    have hl1' : (0 : Int) < K := by omega
    clear hat h1 hg hAP hSS hqq hK
    go_wp2_with fail
    refine (HC.out _ R3'.out).mono ?_
    rintro e w4 ⟨rfl, hb⟩
    have B3 := Lib.hid (bthen B3'.out hb B3'.out.size)
    have C3 := Lib.hid (C3'.out.below hb)
    have X3 := Lib.hid (X3'.out.below hb)
    have HM := Lib.hid (M3'.out.below hb)
    have R3 := Lib.hid (R3'.out.below hb)
    clear hb g0 g1 g2 g3 g4 g5
    cases q
    · go_wp2_with fail
      rw [← HK.out]
      refine (RS.out _ _ _ _ _ S _ HM.out R3.out (show S.length ≤ c2 by rw [HK.out]; exact hc2)).mono ?_
      rintro e w4 ⟨rfl, hb⟩
      have B4 := Lib.hid (bthen B3.out hb B3.out.size)
      have C4 := Lib.hid (C3.out.below hb)
      have X4 := Lib.hid (X3.out.below hb)
      have k2 := C4.out.c2
      have k1 := C4.out.c1
      dsimp only at k1 k2
      clear hb
      cases hq : (!noB m && anyO S m)
      · have HQ := Lib.hid hq
        clear hq
        by_cases hn : xc ≤ n1
        · have hn' : (n1 : Int) ≥ xc := hn
          have HR := Lib.hid (HSP.out.trans (by rw [HAP.out, if_neg (by simp), HQ.out, if_neg (by simp), if_pos hn]))
          go_wp2_with fail
          go_ret
          exact ⟨ret_int HR.out.symm, B4.out⟩
        · have hn' : ¬ (n1 : Int) ≥ xc := hn
          have HR := Lib.hid (HSP.out.trans (by rw [HAP.out, if_neg (by simp), HQ.out, if_neg (by simp), if_neg hn]))
          rcases L with _ | J
          · exfalso; omega
          · obtain ⟨s, hs⟩ : ∃ s, xs[J]? = some s := ⟨_, List.getElem?_eq_getElem (by rw [HL.out]; omega)⟩
            obtain ⟨y, rfl⟩ := rw_some X4.out (by rw [HL.out]; omega)
            have hat := X4.out.at hs
            have j7 : w4.cell? ⟨(y.add (J * 8)).block, (y.add (J * 8)).off + 7, none⟩ = some (.int .i64 s.t) := hat 7 _ rfl
            have hj : IntKind.i64.wrap (J : Int) = (J : Int) := i64_nat (by omega)
            have HWW := Lib.hid (HW.out s.t)
            have HOl := Lib.hid (show oldB ⟨xa, xb, xc, xd, xe, xf, xg, xh, xi⟩ xs now = !wi now s.t xb by
              unfold oldB
              rw [List.getLast?_eq_getElem?, HL.out, show J + 1 - 1 = J by omega, hs])
            clear hs hat
            cases hw : wi now s.t xb
            · have HR2 := Lib.hid (HR.out.trans (by rw [HOl.out, hw, if_pos (by simp)]))
              rw [hw] at HWW
              clear hw
              go_upto_region 11 with fail
              go_quiet ((go_at_call 95; exact Calls.quiet_of_same ((HWW.out _).mono fun e w' h => ⟨h.1, h.2.symm⟩)))
              go_wp2_with fail
              go_ret
              exact ⟨ret_int HR2.out.symm, bdrewN B4.out _⟩
            · have HR2 := Lib.hid (HR.out.trans (by rw [HOl.out, hw, if_neg (by simp)]))
              rw [hw] at HWW
              clear hw
              go_upto_region 11 with fail
              go_quiet ((go_at_call 95; exact Calls.quiet_of_same ((HWW.out _).mono fun e w' h => ⟨h.1, h.2.symm⟩)))
              go_wp2_with fail
              go_ret
              exact ⟨ret_int HR2.out.symm, bdrewN B4.out _⟩
      · have HQ := Lib.hid hq
        have HR := Lib.hid (HSP.out.trans (by rw [HAP.out, if_neg (by simp), HQ.out, if_pos rfl]))
        go_wp2_with fail
        go_ret
        exact ⟨ret_int HR.out.symm, B4.out⟩
    · have HR := Lib.hid (HSP.out.trans (by rw [HAP.out, if_pos rfl]))
      go_wp2_with fail
      go_ret
      exact ⟨ret_int HR.out.symm, B3.out⟩
theorem of_any (x : Cf) (h : Option (Nat × Mc)) (A : Option Addr) (xs : List Sg) (cap : Nat) (now : Int) (w : World) (hm : HP w h) (hr : Rw eS w A xs) (hc : xs.length ≤ cap) (hx : xs.length ≤ 1000000) (hcd : x.c ≤ 1099511627776) :
    Calls Tryz.prog 44 #[cfv x, hp h, .slice A xs.length cap, .int .i64 now] w fun e w' => e = .returned (.int .i64 (stO x (h.map (·.2)) xs now)) ∧ Below w.heap.size w w' := by
  cases h with
  | none => exact of_nil x A xs cap now w hr hc hx hcd
  | some p => exact of_some x p.1 p.2 A xs cap now w hm hr hc hx hcd
end Go.Proofs.YtilneflfeegnfaaGreat.Su
namespace Go.Proofs.YtilneflfeegnfaaGreat.Su
open Go.RowKit
theorem wi_new {now t n : Int} (h0 : 0 ≤ t) (h1 : t ≤ now) (h3 : now - t < n) (h2 : now ≤ 1099511627776) : wi now t n = true := by
  unfold wi si
  rw [cl_in (by omega) h2, cl_in h0 (by omega)]
  simp
  omega
end Go.Proofs.YtilneflfeegnfaaGreat.Su
namespace Go.Proofs.YtilneflfeegnfaaGreat.Sn
open Go.RowKit
structure Sg where
  f : Int
  m0 : Int
  m1 : Int
  m2 : Int
  m3 : Int
  m4 : Int
  m5 : Int
  t : Int
def zs : Sg := ⟨0, 0, 0, 0, 0, 0, 0, 0⟩
def sl (x : Sg) : List Value := [.int .i64 x.f, .int .u8 x.m0, .int .u8 x.m1, .int .u8 x.m2, .int .u8 x.m3, .int .u8 x.m4, .int .u8 x.m5, .int .i64 x.t]
def sv (x : Sg) : Value := .agg #[.int .i64 x.f, .int .u8 x.m0, .int .u8 x.m1, .int .u8 x.m2, .int .u8 x.m3, .int .u8 x.m4, .int .u8 x.m5, .int .i64 x.t]
def Sx (x : Sg) : Obj := .cells #[.int .i64 x.f, .int .u8 x.m0, .int .u8 x.m1, .int .u8 x.m2, .int .u8 x.m3, .int .u8 x.m4, .int .u8 x.m5, .int .i64 x.t] 49
def eS : El Sg := ⟨sl, 8, by decide, fun _ => rfl, by
  intro x u hu
  simp [sl] at hu
  rcases hu with rfl | rfl | rfl | rfl | rfl | rfl | rfl | rfl <;> rfl⟩
structure Kn where
  a : Int
  P : Option Addr
  c : Nat
  ss : List Sg
def kl (x : Kn) : List Value := [.int .u32 x.a, .slice x.P x.ss.length x.c]
def eK : El Kn := ⟨kl, 2, by decide, fun _ => rfl, by
  intro x u hu
  simp [kl] at hu
  rcases hu with rfl | rfl <;> rfl⟩
structure Kp where
  a : Int
  ss : List Sg
def Kn.p (x : Kn) : Kp := ⟨x.a, x.ss⟩
structure Kn.In (w : World) (x : Kn) : Prop where
  a0 : 0 ≤ x.a
  a1 : x.a < 4294967296
  lies : Rw eS w x.P x.ss
  le : x.ss.length ≤ x.c
  max : x.c ≤ maxLen
theorem Kn.In.below {w w' : World} {x : Kn} (h : x.In w) (hb : Below w.heap.size w w') : x.In w' := ⟨h.a0, h.a1, h.lies.below hb, h.le, h.max⟩
def Ke (w : World) (A : Option Addr) (xs : List Kn) : Prop := Rw eK w A xs ∧ ∀ x ∈ xs, x.In w
def Ks (w : World) (A : Option Addr) (ps : List Kp) : Prop := ∃ xs, xs.map Kn.p = ps ∧ Ke w A xs
theorem Ke.below {w w' : World} {A : Option Addr} {xs : List Kn} (h : Ke w A xs) (hb : Below w.heap.size w w') : Ke w' A xs := ⟨h.1.below hb, fun x hx => (h.2 x hx).below hb⟩
theorem Ks.below {w w' : World} {A : Option Addr} {ps : List Kp} (h : Ks w A ps) (hb : Below w.heap.size w w') : Ks w' A ps := by
  obtain ⟨xs, e, h⟩ := h
  exact ⟨xs, e, h.below hb⟩
theorem Ks.nil (w : World) (A : Option Addr) : Ks w A [] := ⟨[], rfl, Rw.nil _ _, fun x hx => by cases hx⟩
theorem Ke.drewN {w : World} {A : Option Addr} {xs : List Kn} (h : Ke w A xs) (n : Nat) : Ke (w.drewN n) A xs := h.below (bdrewN (Below.refl _ _) n)
theorem size35 : (Tryz.prog.info? 49).map (·.size) = some 8 := by kernel_rfl
theorem load35 {w : World} {y : Addr} {x : Sg} (h : ∀ j v, (sl x)[j]? = some v → w.cell? (y.add j) = some v) : (Instr.loadAt 49 (.pointer (some y))).run Tryz.prog w = .ok (sv x) w := by
  have hl' : (loadCells y 8).run Tryz.prog w = .ok (sl x).toArray w := run_loadCells_list (P := Tryz.prog) w y (sl x) h
  obtain ⟨i, hi, hs⟩ := Option.map_eq_some_iff.1 size35
  have hg : (isAgg 49).run Tryz.prog w = .ok true w := by
    unfold isAgg
    simp only [Sem.run_bind, run_underlying Tryz.underlying49, Result.andThen_ok, Sem.run_pure]
  have hz : (Go.sizeOf 49).run Tryz.prog w = .ok 8 w := by
    rw [← hs]
    simp [Go.sizeOf, typeInfo, hi]
  simp only [Instr.loadAt, Instr.sureAddr, loadVar, Sem.run_bind, Sem.run_pure, Result.andThen_ok, hg, hz, hl', if_true]
  rfl
theorem size53 : (Tryz.prog.info? 66).map (·.size) = some 2 := by kernel_rfl
def kv (x : Kn) : Value := .agg #[.int .u32 x.a, .slice x.P x.ss.length x.c]
theorem load53 {w : World} {y : Addr} {x : Kn} (h : ∀ j v, (kl x)[j]? = some v → w.cell? (y.add j) = some v) : (Instr.loadAt 66 (.pointer (some y))).run Tryz.prog w = .ok (kv x) w := by
  have hl' : (loadCells y 2).run Tryz.prog w = .ok (kl x).toArray w := run_loadCells_list (P := Tryz.prog) w y (kl x) h
  obtain ⟨i, hi, hs⟩ := Option.map_eq_some_iff.1 size53
  have hg : (isAgg 66).run Tryz.prog w = .ok true w := by
    unfold isAgg
    simp only [Sem.run_bind, run_underlying Tryz.underlying66, Result.andThen_ok, Sem.run_pure]
  have hz : (Go.sizeOf 66).run Tryz.prog w = .ok 2 w := by
    rw [← hs]
    simp [Go.sizeOf, typeInfo, hi]
  simp only [Instr.loadAt, Instr.sureAddr, loadVar, Sem.run_bind, Sem.run_pure, Result.andThen_ok, hg, hz, hl', if_true]
  rfl
theorem at_load35 {ops : Array Oper} {rest : List Oper} {op : Oper} {a : Act} {w : World} {Q : Exit → Act → World → Prop} (x : Operand) (hgd : op.guard = none) (ho : op.op = .load 49 x) (y : Addr) (z : Sg) (hx : a.eval x = .pointer (some y)) (hr : ∀ j v, (sl z)[j]? = some v → w.cell? (y.add j) = some v)
    (h : wpList Tryz.prog ops Q rest (a.put op.dst (.agg #[.int .i64 z.f, .int .u8 z.m0, .int .u8 z.m1, .int .u8 z.m2, .int .u8 z.m3, .int .u8 z.m4, .int .u8 z.m5, .int .i64 z.t])) w) : wpList Tryz.prog ops Q (op :: rest) a w :=
  wpList_plain hgd fun _ hK => by
    unfold Oper.wp execOp
    simp only [ho, hx, Sem.run_bind, Sem.run_pure, Result.andThen_ok, load35 hr]
    exact hK _ _ h
theorem at_load53 {ops : Array Oper} {rest : List Oper} {op : Oper} {a : Act} {w : World} {Q : Exit → Act → World → Prop} (x : Operand) (hgd : op.guard = none) (ho : op.op = .load 66 x) (y : Addr) (z : Kn) (hx : a.eval x = .pointer (some y)) (hr : ∀ j v, (kl z)[j]? = some v → w.cell? (y.add j) = some v)
    (h : wpList Tryz.prog ops Q rest (a.put op.dst (.agg #[.int .u32 z.a, .slice z.P z.ss.length z.c])) w) : wpList Tryz.prog ops Q (op :: rest) a w :=
  wpList_plain hgd fun _ hK => by
    unfold Oper.wp execOp
    simp only [ho, hx, Sem.run_bind, Sem.run_pure, Result.andThen_ok, load53 hr]
    exact hK _ _ h
def eqs (x y : Sg) : Bool := x.f == y.f && ((x.m0 == y.m0 && (x.m1 == y.m1 && (x.m2 == y.m2 && (x.m3 == y.m3 && (x.m4 == y.m4 && x.m5 == y.m5))))) && x.t == y.t)
theorem eqs_iff (x y : Sg) : eqs x y = true ↔ x = y := by
  obtain ⟨a, m0, m1, m2, m3, m4, m5, t⟩ := x
  obtain ⟨b, n0, n1, n2, n3, n4, n5, u⟩ := y
  simp only [eqs, Bool.and_eq_true, beq_iff_eq, Sg.mk.injEq]
  constructor
  · rintro ⟨h1, ⟨h2, h3, h4, h5, h6, h7⟩, h8⟩; exact ⟨h1, h2, h3, h4, h5, h6, h7, h8⟩
  · rintro ⟨h1, h2, h3, h4, h5, h6, h7, h8⟩; exact ⟨h1, ⟨h2, h3, h4, h5, h6, h7⟩, h8⟩
theorem run_eq35 (x y : Sg) (W : World) : (Op.equalIn 10000 49 (sv x) (sv y)).run Tryz.prog W = .ok (eqs x y) W := by
  have h6 := run_eq6 x.m0 x.m1 x.m2 x.m3 x.m4 x.m5 y.m0 y.m1 y.m2 y.m3 y.m4 y.m5 9997 W
  unfold sv
  rw [show (10000 : Nat) = 9999 + 1 from rfl, run_equalIn_struct W 9999 49 _ _ (by kernel_rfl) (by kernel_rfl)]
  simp [go_sem, part, h6]
  unfold eqs
  by_cases h1 : x.f = y.f
  · rw [if_pos h1]
    by_cases h3 : x.m0 = y.m0 ∧ x.m1 = y.m1 ∧ x.m2 = y.m2 ∧ x.m3 = y.m3 ∧ x.m4 = y.m4 ∧ x.m5 = y.m5
    · obtain ⟨g0, g1, g2, g3, g4, g5⟩ := h3
      by_cases h4 : x.t = y.t <;> simp [eq6, h1, g0, g1, g2, g3, g4, g5, h4]
    · have h3' : eq6 x.m0 x.m1 x.m2 x.m3 x.m4 x.m5 y.m0 y.m1 y.m2 y.m3 y.m4 y.m5 = false := decide_eq_false h3
      rw [h3']
      simp only [Bool.false_eq_true, if_true, if_false, Result.andThen_ok]
      refine congrArg (fun z => Result.ok z W) ?_
      symm
      rw [Bool.eq_false_iff]
      intro hc
      simp at hc
      exact h3 ⟨hc.2.1.1, hc.2.1.2.1, hc.2.1.2.2.1, hc.2.1.2.2.2.1, hc.2.1.2.2.2.2.1, hc.2.1.2.2.2.2.2⟩
  · rw [if_neg h1]
    simp [h1]
theorem run_eql35 (x y : Sg) (W : World) : (binOp .eql 49 (sv x) (sv y)).run Tryz.prog W = .ok (.bool (eqs x y)) W := by
  have := run_eql_struct (P := Tryz.prog) W 49 (sl x).toArray (sl y).toArray
  rw [show Value.agg (sl x).toArray = sv x from rfl, show Value.agg (sl y).toArray = sv y from rfl, run_eq35] at this
  exact this
theorem guard35 (op : BinOp) (p q : Operand) (x y : Sg) (W : World) : (eqGuard op 49 p q (sv x) (sv y)).run Tryz.prog W = .ok () W := run_eqGuard_agg W op 49 p q _ _ (by kernel_rfl)
section
variable {ops : Array Oper} {rest : List Oper} {o : Oper} {a : Act} {C : World → Prop} {Q : Act → Prop}
theorem quiet_load35 (x : Operand) (y : Addr) (p : Sg) (hr : ∀ W, C W → ∀ j v, (sl p)[j]? = some v → W.cell? (y.add j) = some v) (hw : Region.wanted o (yielded ops a.tmps) = true) (ho : o.op = .load 49 x) (hx : a.eval x = .pointer (some y)) (h : wpQuiet Tryz.prog ops C Q rest (a.put o.dst (sv p))) : wpQuiet Tryz.prog ops C Q (o :: rest) a :=
  BigFrame.wpQuiet_want hw fun K hK => ⟨sv p, fun W hC => by
    unfold Oper.quietAt execOp
    simp only [ho, hx, Sem.run_bind, Sem.run_pure, Result.andThen_ok, load35 (hr W hC)]
    exact ⟨rfl, rfl⟩, hK _ h⟩
end
end Go.Proofs.YtilneflfeegnfaaGreat.Sn
namespace Go.Proofs.YtilneflfeegnfaaGreat.Sn
open Go.RowKit
theorem Ks.len {w : World} {A : Option Addr} {ps : List Kp} (h : Ks w A ps) : ps.length ≤ 140737488355328 := by
  obtain ⟨xs, rfl, h⟩ := h
  rw [List.length_map]
  exact h.1.1
theorem Ks.kn {w : World} {A : Option Addr} {ps : List Kp} (h : Ks w A ps) {q : Nat} {p : Kp} (hq : ps[q]? = some p) :
    ∃ (y : Addr) (P : Option Addr) (c : Nat), A = some y ∧ (⟨p.a, P, c, p.ss⟩ : Kn).In w ∧ ∀ j v, (kl ⟨p.a, P, c, p.ss⟩)[j]? = some v → w.cell? ((y.add (q * 2)).add j) = some v := by
  obtain ⟨xs, rfl, h⟩ := h
  rw [List.getElem?_map, Option.map_eq_some_iff] at hq
  obtain ⟨x, hx, rfl⟩ := hq
  obtain ⟨y, rfl⟩ := rw_some h.1 (by have := (List.getElem?_eq_some_iff.1 hx).1; omega)
  exact ⟨y, x.P, x.c, rfl, h.2 x (List.mem_of_getElem? hx), h.1.at hx⟩
theorem Ks.some {w : World} {A : Option Addr} {ps : List Kp} (h : Ks w A ps) (hn : 0 < ps.length) : ∃ y, A = .some y := by
  obtain ⟨y, _, _, e, _⟩ := h.kn (List.getElem?_eq_getElem hn)
  exact ⟨y, e⟩
theorem Ks.drewN {w : World} {A : Option Addr} {ps : List Kp} (h : Ks w A ps) (n : Nat) : Ks (w.drewN n) A ps := h.below (bdrewN (Below.refl _ _) n)
def isrc (f : Int) : Bool := decide (0 ≤ f ∧ f < 4)
set_option maxRecDepth 100000 in
set_option maxHeartbeats 2000000 in
theorem src_any (f : Int) (w : World) : Calls Tryz.prog 82 #[.int .i64 f] w fun e w' => e = .returned (.bool (isrc f)) ∧ w' = w := by
  by_cases h0 : 0 ≤ f
  · by_cases h1 : f < 4
    · have HI := Lib.hid (show isrc f = true from decide_eq_true ⟨h0, h1⟩)
      go_enter Tryz.func82, Tryz.ntmps82
      go_wp2_with fail
      go_ret
      exact ⟨ret_bool HI.out.symm, rfl⟩
    · have HI := Lib.hid (show isrc f = false from decide_eq_false fun h => h1 h.2)
      go_enter Tryz.func82, Tryz.ntmps82
      go_wp2_with fail
      go_ret
      exact ⟨ret_bool HI.out.symm, rfl⟩
  · have HI := Lib.hid (show isrc f = false from decide_eq_false fun h => h0 h.1)
    go_enter Tryz.func82, Tryz.ntmps82
    go_wp2_with fail
    go_ret
    exact ⟨ret_bool HI.out.symm, rfl⟩
def lo : List Kp → Int → Nat
  | [], _ => 0
  | x :: r, a => if x.a < a then lo r a + 1 else 0
theorem lo_le (a : Int) : ∀ xs, lo xs a ≤ xs.length
  | [] => Nat.le_refl _
  | x :: r => by
    unfold lo
    have := lo_le a r
    split <;> simp
    omega
theorem lo_lt (a : Int) : ∀ (xs : List Kp) (k : Nat) (x : Kp), k < lo xs a → xs[k]? = some x → x.a < a
  | [], k, x, h, _ => by simp [lo] at h
  | y :: r, k, x, h, hx => by
    unfold lo at h
    split at h
    · rename_i hy
      cases k with
      | zero => simp at hx; subst hx; exact hy
      | succ k => exact lo_lt a r k x (by omega) (by simpa using hx)
    · omega
theorem lo_ge (a : Int) : ∀ (xs : List Kp) (x : Kp), xs[lo xs a]? = some x → ¬ x.a < a
  | [], x, hx => by simp at hx
  | y :: r, x, hx => by
    unfold lo at hx
    split at hx
    · exact lo_ge a r x (by simpa using hx)
    · rename_i hy
      simp at hx
      subst hx
      exact hy
def isAt (xs : List Kp) (a : Int) : Bool := match xs[lo xs a]? with
  | some x => decide (x.a = a)
  | none => false
theorem isAt_some {xs : List Kp} {a : Int} (h : isAt xs a = true) : ∃ x, xs[lo xs a]? = some x ∧ x.a = a ∧ lo xs a < xs.length := by
  unfold isAt at h
  split at h
  · rename_i x hx
    exact ⟨x, hx, by simpa using h, (List.getElem?_eq_some_iff.1 hx).1⟩
  · cases h
def sg (xs : List Kp) (a : Int) : List Sg := if isAt xs a = true then (match xs[lo xs a]? with
  | some x => x.ss
  | none => []) else []
theorem sg_no {xs : List Kp} {a : Int} (h : isAt xs a = false) : sg xs a = [] := by simp [sg, h]
theorem sg_at {xs : List Kp} {a : Int} (h : isAt xs a = true) {x : Kp} (hx : xs[lo xs a]? = some x) : sg xs a = x.ss := by simp [sg, h, hx]
def tk (ss : List Sg) : Int := (ss[ss.length - 1]?.getD zs).t
def any (ss : List Sg) : Bool := decide (0 < ss.length)
set_option maxRecDepth 100000 in
set_option maxHeartbeats 2000000 in
theorem place_any (a : Int) (A : Option Addr) (xs : List Kp) (cap : Nat) (w : World) (h : Ks w A xs) (ha0 : 0 ≤ a) (ha1 : a < 4294967296) :
    Calls Tryz.prog 47 #[.slice A xs.length cap, .int .u32 a] w fun e w' => e = .returned (.tuple #[.int .i64 (lo xs a), .bool (isAt xs a)]) ∧ ∃ n, w' = w.drewN n := by
  have hle := lo_le a xs
  have hln := h.len
  have R := Lib.hid h
  clear h
  have HI := Lib.hid (show isAt xs a = _ by unfold isAt; rfl)
  obtain ⟨L, hL⟩ : ∃ L, xs.length = L := ⟨_, rfl⟩
  have HL := Lib.hid hL
  rw [hL] at hle hln ⊢
  clear hL
  obtain ⟨P, hP⟩ : ∃ P, lo xs a = P := ⟨_, rfl⟩
  have HP := Lib.hid hP
  rw [hP] at hle ⊢
  clear hP
  go_enter Tryz.func47, Tryz.ntmps47
  go_wp2_with fail
  go_loop [6] (fun i => ∃ k : Nat, i = .int .i64 k ∧ k ≤ P) (fun i => P - (intOf i).toNat)
  case atStart => exact ⟨0, rfl, by omega⟩
  case round =>
    obtain ⟨k, rfl, hk⟩ := hrel
    by_cases hkL : k < L
    · obtain ⟨x, hx⟩ : ∃ x, xs[k]? = some x := ⟨_, List.getElem?_eq_getElem (by rw [HL.out]; exact hkL)⟩
      obtain ⟨y, P1, c1, rfl, hin, hc⟩ := R.out.kn hx
      have c0 : w.cell? (y.add (k * 2)) = some (.int .u32 x.a) := by
        have := hc 0 _ rfl
        rwa [Addr.add_add] at this
      have X0 : 0 ≤ x.a := hin.a0
      have X1 : x.a < 4294967296 := hin.a1
      by_cases hlt : k < P
      · have hxa : x.a < a := lo_lt a xs k x (by rw [HP.out]; exact hlt) hx
        clear hx hin hc
        go_wp2_with fail
        go_round
        case rel => exact ⟨k + 1, by go_num, by omega⟩
        case measure => simp [intOf]; omega
      · obtain rfl : k = P := by omega
        have hxa : ¬ x.a < a := lo_ge a xs x (by rw [HP.out]; exact hx)
        have HA := Lib.hid (show isAt xs a = decide (x.a = a) by rw [HI.out, HP.out, hx])
        clear hx hin hc
        by_cases he : x.a = a
        · have he2 : (x.a == a) = true := by simpa using he
          have HE := Lib.hid he
          clear he
          go_wp2_with fail
          go_quiet (fail)
          go_wp2_with fail
          go_ret2
          refine ⟨?_, _, rfl⟩
          rw [HA.out, decide_eq_true HE.out]; rfl
        · have he2 : (x.a == a) = false := by simpa using he
          have HE := Lib.hid he
          clear he
          go_wp2_with fail
          go_quiet (fail)
          go_wp2_with fail
          go_ret2
          refine ⟨?_, _, rfl⟩
          rw [HA.out, decide_eq_false HE.out]; rfl
    · obtain rfl : k = L := by omega
      obtain rfl : k = P := by omega
      have HA := Lib.hid (show isAt xs a = false by rw [HI.out, HP.out, List.getElem?_eq_none (by rw [HL.out]; exact Nat.le_refl _)])
      go_wp2_with fail
      go_quiet (fail)
      go_wp2_with fail
      go_ret2
      refine ⟨?_, _, rfl⟩
      rw [HA.out]; rfl
set_option maxRecDepth 100000 in
set_option maxHeartbeats 2000000 in
theorem last_any (a : Int) (A : Option Addr) (xs : List Kp) (cap : Nat) (w : World) (h : Ks w A xs) (hcap : xs.length ≤ cap) (ha0 : 0 ≤ a) (ha1 : a < 4294967296) :
    Calls Tryz.prog 24 #[.slice A xs.length cap, .int .u32 a] w fun e w' => e = .returned (.tuple #[.int .i64 (tk (sg xs a)), .bool (any (sg xs a))]) ∧ ∃ n, w' = w.drewN n := by
  have hln := h.len
  have HC := Lib.hid (place_any a A xs cap w h ha0 ha1)
  have hle := lo_le a xs
  cases hI : isAt xs a with
  | false =>
    have HS := Lib.hid (show tk (sg xs a) = 0 ∧ any (sg xs a) = false by rw [sg_no hI]; exact ⟨rfl, rfl⟩)
    rw [hI] at HC
    clear h hI
    generalize xs.length = L at *
    generalize lo xs a = P at *
    go_enter Tryz.func24, Tryz.ntmps24
    go_wp2_with fail
    refine HC.out.mono ?_
    rintro e w1 ⟨rfl, n, rfl⟩
    go_wp2_with fail
    go_ret2
    exact ⟨by rw [HS.out.1, HS.out.2]; rfl, _, rfl⟩
  | true =>
    obtain ⟨x, hx, hxa, hlt⟩ := isAt_some hI
    obtain ⟨y, P1, c1, rfl, hin, hc⟩ := h.kn hx
    have HS := Lib.hid (sg_at hI hx)
    rw [hI] at HC
    have k1 : w.cell? ⟨(y.add (lo xs a * 2)).block, (y.add (lo xs a * 2)).off + 1, none⟩ = some (.slice P1 x.ss.length c1) := hc 1 _ rfl
    have hl8 := hin.lies.1
    rcases hn : x.ss.length with _ | m
    · have hT := Lib.hid (show tk (sg xs a) = 0 ∧ any (sg xs a) = false by rw [HS.out, List.eq_nil_of_length_eq_zero hn]; exact ⟨rfl, rfl⟩)
      rw [hn] at k1
      clear h hI hx hin hc hn hxa hl8
      generalize xs.length = L at *
      generalize lo xs a = P at *
      go_enter Tryz.func24, Tryz.ntmps24
      go_wp2_with fail
      refine HC.out.mono ?_
      rintro e w1 ⟨rfl, n, rfl⟩
      go_wp2_with fail
      go_ret2
      exact ⟨by rw [hT.out.1, hT.out.2]; rfl, _, rfl⟩
    · obtain ⟨z, hz⟩ : ∃ z, x.ss[m]? = some z := ⟨_, List.getElem?_eq_getElem (by omega)⟩
      have hT := Lib.hid (show tk (sg xs a) = z.t ∧ any (sg xs a) = true by rw [HS.out]; refine ⟨?_, by simp [any, hn]⟩; unfold tk; rw [hn, Nat.add_sub_cancel, hz]; rfl)
      obtain ⟨y1, rfl⟩ := rw_some hin.lies (by show 0 < x.ss.length; omega)
      have k2 : w.cell? ⟨(y1.add (m * 8)).block, (y1.add (m * 8)).off + 7, none⟩ = some (.int .i64 z.t) := hin.lies.at hz 7 _ rfl
      rw [hn] at k1 hl8
      have hm2 : IntKind.i64.wrap (m : Int) = (m : Int) := i64_nat (by omega)
      clear h hI hx hin hc hn hxa hz
      generalize xs.length = L at *
      generalize lo xs a = P at *
      go_enter Tryz.func24, Tryz.ntmps24
      go_wp2_with fail
      refine HC.out.mono ?_
      rintro e w1 ⟨rfl, n, rfl⟩
      go_wp2_with fail
      go_quiet (fail)
      go_wp2_with fail
      go_ret2
      exact ⟨by rw [hT.out.1, hT.out.2]; rfl, _, World.drewN_drewN _ _ _⟩
end Go.Proofs.YtilneflfeegnfaaGreat.Sn
namespace Go.Proofs.YtilneflfeegnfaaGreat.Sn
open Go.RowKit
def zsv : Value := .agg #[.int .i64 0, .int .u8 0, .int .u8 0, .int .u8 0, .int .u8 0, .int .u8 0, .int .u8 0, .int .i64 0]
def zkv : Value := .agg #[.int .u32 0, .slice none 0 0]
theorem info35 : (Tryz.prog.info? 49).map (fun i => (i.zero, i.size, i.bytes)) = some (some zsv, 8, 24) := by kernel_rfl
theorem info53 : (Tryz.prog.info? 66).map (fun i => (i.zero, i.size, i.bytes)) = some (some zkv, 2, 32) := by kernel_rfl
theorem tS : Ty eS 64 49 := ⟨Tryz.underlying64, by
  obtain ⟨i, hi, hz0, hz1, hz2⟩ := info_parts info35
  exact ⟨i, _, _, hi, hz0, hz1, hz2, rfl, by omega⟩⟩
theorem tK : Ty eK 31 66 := ⟨Tryz.underlying31, by
  obtain ⟨i, hi, hz0, hz1, hz2⟩ := info_parts info53
  exact ⟨i, _, _, hi, hz0, hz1, hz2, rfl, by omega⟩⟩
section
variable {α : Type} {E : El α} {S T : TypeId} (D : Ty E S T)
include D
theorem wpList_append_rw (w : World) {ops : Array Oper} {rest : List Oper} {o : Oper} {a : Act} {Q : Exit → Act → World → Prop} (hgd : o.guard = none) (s x : Operand) (ho : o.op = .call { callee := .builtin .append, args := #[s, x], argTypes := #[S, S] })
    (base : Nat) (v : Value) (n : Nat) (xs : List α) (hs : a.eval s = v) (hown : w.ownsRow base T E.N v n (E.cs xs)) (A : Option Addr) (m c : Nat) (ys : List α) (hx : a.eval x = .slice A m c) (hm : m = ys.length) (hr : Rw E w A ys)
    (hlen : n + m ≤ 1000000000000) (hbase : base ≤ w.heap.size)
    (h : ∀ v' w', w'.ownsRow base T E.N v' (n + m) (E.cs (xs ++ ys)) → w.grownBy w' v.ownBlock → wpList Tryz.prog ops Q rest (a.put o.dst v') w') : wpList Tryz.prog ops Q (o :: rest) a w :=
  wpList_plain hgd fun _ hK => by
    obtain ⟨v', w', hrun, h2, h3⟩ := run_append_rw D w base o.type v n xs hown A m c ys hm hr hlen hbase
    unfold Oper.wp execOp
    simp only [ho, resolve, invoke, builtin, Sem.run_bind, Sem.run_pure, Result.andThen_ok, List.map_toArray, List.map_cons, List.map_nil, hs, hx, hrun]
    exact hK _ _ (h v' w' h2 h3)
end
set_option maxRecDepth 100000 in
set_option maxHeartbeats 2000000 in
theorem cloneS_any (A : Option Addr) (xs : List Sg) (c : Nat) (w : World) (h : Rw eS w A xs) (hn : xs.length ≤ 1000000) (hc : xs.length ≤ c) : Calls Tryz.prog 53 #[.slice A xs.length c] w (OwnPost eS 49 w xs) := by
  have HN := fun W => Lib.run_eql_slice_nil (P := Tryz.prog) W 64 49 A xs.length c 0 0 Tryz.underlying64
  rcases A with _ | y
  · obtain rfl := rw_none h
    clear h hn
    simp only [List.length_nil, Option.isNone_none] at HN ⊢
    go_enter Tryz.func53, Tryz.ntmps53
    go_wp2_with fail
    go_ret
    exact ⟨_, rfl, World.ownsRow_nil _ _ _ _, Below.refl _ _⟩
  · have R := Lib.hid (h.below ((Below.refl _ w).alloc (Nat.le_refl _) (.cells #[] 49)))
    have HO := Lib.hid (World.ownsRow_made (e := 49) (size := 8) (base := w.heap.size) w #[] 0 (Nat.le_refl _) (by unfold maxLen; omega) rfl)
    have HB := Lib.hid (show Below w.heap.size w (w.alloc (.cells #[] 49)) from (Below.refl _ w).alloc (Nat.le_refl _) _)
    obtain ⟨L, hL⟩ : ∃ L, xs.length = L := ⟨_, rfl⟩
    have HL := Lib.hid hL
    rw [hL] at hn hc HN ⊢
    clear hL h
    go_enter Tryz.func53, Tryz.ntmps53
    go_wp2_with (at_builtin; refine wpList_append_rw tS _ rfl (.tmp 5) (.tmp 6) rfl w.heap.size _ 0 [] (by simp [Act.eval, Act.put]) HO.out (some y) L c xs (by simp [Act.eval, Act.put]) HL.out.symm R.out (by omega) (by simp) ?_)
    intro v2 w2 ho2 hg2
    have O2 := Lib.hid ho2
    have B2 := Lib.hid (HB.out.grown hg2 (by simp) (fun j hj => (HO.out.lt j hj).1))
    clear ho2 hg2
    go_wp2_with fail
    go_ret
    exact ⟨_, rfl, by rw [HL.out]; simpa using O2.out, B2.out⟩
set_option maxRecDepth 100000 in
set_option maxHeartbeats 2000000 in
theorem growS_any (n : Nat) (w : World) (hn : n ≤ 1000000) : Calls Tryz.prog 135 #[.slice none 0 0, .int .i64 (n : Int)] w (OwnPost eS 49 w []) := by
  by_cases h0 : n = 0
  · subst h0
    go_enter Tryz.func135, Tryz.ntmps135
    go_wp2_with fail
    go_ret
    exact ⟨_, rfl, World.ownsRow_nil _ _ _ _, Below.refl _ _⟩
  · have h1 : 0 < n := by omega
    have h1' : (0 : Int) < n := by omega
    clear h0
    go_enter Tryz.func135, Tryz.ntmps135
    go_wp2_with (at_builtin; refine wpList_zeros tS Tryz.underlying3 _ rfl (.tmp 20) (.tmp 21) rfl n (by simp [Act.eval, Act.put]) (by simp [Act.eval, Act.put]) h1 hn ?_)
    intro C cap hge hle hsz
    have HZ := Lib.hid hsz
    have HM := Lib.hid hle
    unfold maxLen at hle
    clear hsz
    go_wp2_with fail
    go_ret
    exact ⟨_, rfl, World.ownsRow_made (w.drew) C cap (Nat.le_refl _) HM.out HZ.out, (Below.refl _ w).drew.alloc (Nat.le_refl _) _⟩
set_option maxRecDepth 100000 in
set_option maxHeartbeats 4000000 in
theorem concatS_any (ps : List (Pt Sg)) (b c : Nat) (w : World) (h : Pm eS w b ps) (hn : (cat ps ps.length).length ≤ 1000000) (hps : ps.length ≤ 10) :
    Calls Tryz.prog 121 #[.slice (some ⟨b, 0, none⟩) ps.length c] w (OwnPost eS 49 w (cat ps ps.length)) := by
  have HP := Lib.hid h
  have hb := h.1
  have HC := Lib.hid (cat_le ps)
  have HS := Lib.hid (fun (k : Nat) (p : Pt Sg) (h : ps[k]? = some p) => cat_snoc h)
  obtain ⟨L, hL⟩ : ∃ L, ps.length = L := ⟨_, rfl⟩
  have HL := Lib.hid hL
  rw [hL] at hn hps HC ⊢
  clear hL h
  go_enter Tryz.func121, Tryz.ntmps121
  go_wp2_with fail
  go_loop [3, 11] (fun s i => ∃ k : Nat, i = .int .i64 k ∧ k ≤ L ∧ s = .int .i64 ((cat ps k).length : Nat)) (fun _ i => L - (intOf i).toNat)
  case atStart => exact ⟨0, rfl, by omega, by rw [cat_zero]; rfl⟩
  case round =>
    obtain ⟨k, rfl, hk, rfl⟩ := hrel
    have hkc := HC.out k
    by_cases hlt : k < L
    · obtain ⟨p, hp⟩ : ∃ p, ps[k]? = some p := ⟨_, List.getElem?_eq_getElem (by rw [HL.out]; exact hlt)⟩
      have k0 := (HP.out.2 k p hp).1
      have hkc1 := HC.out (k + 1)
      have HK := Lib.hid (HS.out _ _ hp)
      rw [HK.out, List.length_append] at hkc1
      obtain ⟨A, xs, pc⟩ := p
      dsimp only at k0 hkc1 HK
      have HX := Lib.hid (show (cat ps (k + 1)).length = (cat ps k).length + xs.length by rw [HK.out, List.length_append])
      generalize (cat ps k).length = N at *
      clear hp
      go_wp2_with fail
      go_round
      case rel => exact ⟨k + 1, by go_num, by omega, by rw [HX.out]; go_num⟩
      case measure => simp [intOf]; omega
    · obtain rfl : k = L := by omega
      have HG := Lib.hid (growS_any (cat ps k).length w hn)
      obtain ⟨N, hN⟩ : ∃ N, (cat ps k).length = N := ⟨_, rfl⟩
      have HN := Lib.hid hN
      rw [hN] at HG hn HC ⊢
      clear hN hkc
      go_wp2_with fail
      refine HG.out.mono ?_
      rintro e w1 ⟨v1, rfl, ho, hb1⟩
      have O1 := Lib.hid ho
      have B1 := Lib.hid hb1
      clear ho hb1
      go_wp2_with fail
      go_loopw [6, 27] (fun v i wr => ∃ q : Nat, i = .int .i64 q ∧ q ≤ k ∧ Hid (wr.ownsRow w.heap.size 49 8 v (cat ps q).length (eS.cs (cat ps q)) ∧ Below w.heap.size w wr)) (fun _ i _ => k - (intOf i).toNat)
      case atStart => exact ⟨0, rfl, by omega, Lib.hid ⟨by rw [cat_zero]; exact O1.out, B1.out⟩⟩
      case round =>
        obtain ⟨q, rfl, hq, HR⟩ := hrel
        by_cases hlt : q < k
        · obtain ⟨p, hp⟩ : ∃ p, ps[q]? = some p := ⟨_, List.getElem?_eq_getElem (by rw [HL.out]; exact hlt)⟩
          obtain ⟨k0, kH⟩ := HP.out.2 q p hp
          have k1 : wr.cell? ⟨b, q, none⟩ = some (.slice p.A p.xs.length p.c) := by rw [HR.out.2.cell (p := ⟨b, q, none⟩) hb]; exact k0
          have kH1 := kH.below HR.out.2
          have hkc1 := HC.out (q + 1)
          have HK := Lib.hid (HS.out _ _ hp)
          rw [HK.out, List.length_append] at hkc1
          have hlen : (cat ps q).length + p.xs.length ≤ 1000000000000 := by omega
          obtain ⟨A, xs, pc⟩ := p
          dsimp only at k1 kH1 hkc1 HK hlen
          have hbase : w.heap.size ≤ wr.heap.size := HR.out.2.size
          have ho := HR.out.1
          have HH := Lib.hid kH1
          clear hp k0 kH kH1
          go_wp2_with (at_builtin; refine wpList_append_rw tS _ rfl (.tmp 31) (.tmp 32) rfl w.heap.size _ _ _ (by simp [Act.eval, Act.put]) ho A xs.length pc xs (by simp [Act.eval, Act.put]) rfl HH.out hlen hbase ?_)
          intro v2 w2 ho2 hg2
          have O2 := Lib.hid ho2
          have B2 := Lib.hid (HR.out.2.grown hg2 hbase (fun j hj => (ho.lt j hj).1))
          clear ho2 hg2 ho
          go_wp2_with fail
          go_roundw
          case rel => exact ⟨q + 1, by go_num, by omega, Lib.hid ⟨by rw [HK.out, List.length_append]; exact O2.out, B2.out⟩⟩
          case measure => simp [intOf]; omega
        · obtain rfl : q = k := by omega
          go_wp2_with fail
          go_ret
          exact ⟨_, rfl, HR.out.1, HR.out.2⟩
set_option maxRecDepth 100000 in
set_option maxHeartbeats 2000000 in
theorem cloneK_any (A : Option Addr) (xs : List Kn) (c : Nat) (w : World) (h : Rw eK w A xs) (hn : xs.length ≤ 1000000) (hc : xs.length ≤ c) : Calls Tryz.prog 52 #[.slice A xs.length c] w (OwnPost eK 66 w xs) := by
  have HN := fun W => Lib.run_eql_slice_nil (P := Tryz.prog) W 31 66 A xs.length c 0 0 Tryz.underlying31
  rcases A with _ | y
  · obtain rfl := rw_none h
    clear h hn
    simp only [List.length_nil, Option.isNone_none] at HN ⊢
    go_enter Tryz.func52, Tryz.ntmps52
    go_wp2_with fail
    go_ret
    exact ⟨_, rfl, World.ownsRow_nil _ _ _ _, Below.refl _ _⟩
  · have R := Lib.hid (h.below ((Below.refl _ w).alloc (Nat.le_refl _) (.cells #[] 66)))
    have HO := Lib.hid (World.ownsRow_made (e := 66) (size := 2) (base := w.heap.size) w #[] 0 (Nat.le_refl _) (by unfold maxLen; omega) rfl)
    have HB := Lib.hid (show Below w.heap.size w (w.alloc (.cells #[] 66)) from (Below.refl _ w).alloc (Nat.le_refl _) _)
    obtain ⟨L, hL⟩ : ∃ L, xs.length = L := ⟨_, rfl⟩
    have HL := Lib.hid hL
    rw [hL] at hn hc HN ⊢
    clear hL h
    go_enter Tryz.func52, Tryz.ntmps52
    go_wp2_with (at_builtin; refine wpList_append_rw tK _ rfl (.tmp 5) (.tmp 6) rfl w.heap.size _ 0 [] (by simp [Act.eval, Act.put]) HO.out (some y) L c xs (by simp [Act.eval, Act.put]) HL.out.symm R.out (by omega) (by simp) ?_)
    intro v2 w2 ho2 hg2
    have O2 := Lib.hid ho2
    have B2 := Lib.hid (HB.out.grown hg2 (by simp) (fun j hj => (HO.out.lt j hj).1))
    clear ho2 hg2
    go_wp2_with fail
    go_ret
    exact ⟨_, rfl, by rw [HL.out]; simpa using O2.out, B2.out⟩
set_option maxRecDepth 100000 in
set_option maxHeartbeats 2000000 in
theorem growK_any (n : Nat) (w : World) (hn : n ≤ 1000000) : Calls Tryz.prog 122 #[.slice none 0 0, .int .i64 (n : Int)] w (OwnPost eK 66 w []) := by
  by_cases h0 : n = 0
  · subst h0
    go_enter Tryz.func122, Tryz.ntmps122
    go_wp2_with fail
    go_ret
    exact ⟨_, rfl, World.ownsRow_nil _ _ _ _, Below.refl _ _⟩
  · have h1 : 0 < n := by omega
    have h1' : (0 : Int) < n := by omega
    clear h0
    go_enter Tryz.func122, Tryz.ntmps122
    go_wp2_with (at_builtin; refine wpList_zeros tK Tryz.underlying3 _ rfl (.tmp 20) (.tmp 21) rfl n (by simp [Act.eval, Act.put]) (by simp [Act.eval, Act.put]) h1 hn ?_)
    intro C cap hge hle hsz
    have HZ := Lib.hid hsz
    have HM := Lib.hid hle
    unfold maxLen at hle
    clear hsz
    go_wp2_with fail
    go_ret
    exact ⟨_, rfl, World.ownsRow_made (w.drew) C cap (Nat.le_refl _) HM.out HZ.out, (Below.refl _ w).drew.alloc (Nat.le_refl _) _⟩
set_option maxRecDepth 100000 in
set_option maxHeartbeats 4000000 in
theorem concatK_any (ps : List (Pt Kn)) (b c : Nat) (w : World) (h : Pm eK w b ps) (hn : (cat ps ps.length).length ≤ 1000000) (hps : ps.length ≤ 10) :
    Calls Tryz.prog 84 #[.slice (some ⟨b, 0, none⟩) ps.length c] w (OwnPost eK 66 w (cat ps ps.length)) := by
  have HP := Lib.hid h
  have hb := h.1
  have HC := Lib.hid (cat_le ps)
  have HS := Lib.hid (fun (k : Nat) (p : Pt Kn) (h : ps[k]? = some p) => cat_snoc h)
  obtain ⟨L, hL⟩ : ∃ L, ps.length = L := ⟨_, rfl⟩
  have HL := Lib.hid hL
  rw [hL] at hn hps HC ⊢
  clear hL h
  go_enter Tryz.func84, Tryz.ntmps84
  go_wp2_with fail
  go_loop [3, 11] (fun s i => ∃ k : Nat, i = .int .i64 k ∧ k ≤ L ∧ s = .int .i64 ((cat ps k).length : Nat)) (fun _ i => L - (intOf i).toNat)
  case atStart => exact ⟨0, rfl, by omega, by rw [cat_zero]; rfl⟩
  case round =>
    obtain ⟨k, rfl, hk, rfl⟩ := hrel
    have hkc := HC.out k
    by_cases hlt : k < L
    · obtain ⟨p, hp⟩ : ∃ p, ps[k]? = some p := ⟨_, List.getElem?_eq_getElem (by rw [HL.out]; exact hlt)⟩
      have k0 := (HP.out.2 k p hp).1
      have hkc1 := HC.out (k + 1)
      have HK := Lib.hid (HS.out _ _ hp)
      rw [HK.out, List.length_append] at hkc1
      obtain ⟨A, xs, pc⟩ := p
      dsimp only at k0 hkc1 HK
      have HX := Lib.hid (show (cat ps (k + 1)).length = (cat ps k).length + xs.length by rw [HK.out, List.length_append])
      generalize (cat ps k).length = N at *
      clear hp
      go_wp2_with fail
      go_round
      case rel => exact ⟨k + 1, by go_num, by omega, by rw [HX.out]; go_num⟩
      case measure => simp [intOf]; omega
    · obtain rfl : k = L := by omega
      have HG := Lib.hid (growK_any (cat ps k).length w hn)
      obtain ⟨N, hN⟩ : ∃ N, (cat ps k).length = N := ⟨_, rfl⟩
      have HN := Lib.hid hN
      rw [hN] at HG hn HC ⊢
      clear hN hkc
      go_wp2_with fail
      refine HG.out.mono ?_
      rintro e w1 ⟨v1, rfl, ho, hb1⟩
      have O1 := Lib.hid ho
      have B1 := Lib.hid hb1
      clear ho hb1
      go_wp2_with fail
      go_loopw [6, 27] (fun v i wr => ∃ q : Nat, i = .int .i64 q ∧ q ≤ k ∧ Hid (wr.ownsRow w.heap.size 66 2 v (cat ps q).length (eK.cs (cat ps q)) ∧ Below w.heap.size w wr)) (fun _ i _ => k - (intOf i).toNat)
      case atStart => exact ⟨0, rfl, by omega, Lib.hid ⟨by rw [cat_zero]; exact O1.out, B1.out⟩⟩
      case round =>
        obtain ⟨q, rfl, hq, HR⟩ := hrel
        by_cases hlt : q < k
        · obtain ⟨p, hp⟩ : ∃ p, ps[q]? = some p := ⟨_, List.getElem?_eq_getElem (by rw [HL.out]; exact hlt)⟩
          obtain ⟨k0, kH⟩ := HP.out.2 q p hp
          have k1 : wr.cell? ⟨b, q, none⟩ = some (.slice p.A p.xs.length p.c) := by rw [HR.out.2.cell (p := ⟨b, q, none⟩) hb]; exact k0
          have kH1 := kH.below HR.out.2
          have hkc1 := HC.out (q + 1)
          have HK := Lib.hid (HS.out _ _ hp)
          rw [HK.out, List.length_append] at hkc1
          have hlen : (cat ps q).length + p.xs.length ≤ 1000000000000 := by omega
          obtain ⟨A, xs, pc⟩ := p
          dsimp only at k1 kH1 hkc1 HK hlen
          have hbase : w.heap.size ≤ wr.heap.size := HR.out.2.size
          have ho := HR.out.1
          have HH := Lib.hid kH1
          clear hp k0 kH kH1
          go_wp2_with (at_builtin; refine wpList_append_rw tK _ rfl (.tmp 31) (.tmp 32) rfl w.heap.size _ _ _ (by simp [Act.eval, Act.put]) ho A xs.length pc xs (by simp [Act.eval, Act.put]) rfl HH.out hlen hbase ?_)
          intro v2 w2 ho2 hg2
          have O2 := Lib.hid ho2
          have B2 := Lib.hid (HR.out.2.grown hg2 hbase (fun j hj => (ho.lt j hj).1))
          clear ho2 hg2 ho
          go_wp2_with fail
          go_roundw
          case rel => exact ⟨q + 1, by go_num, by omega, Lib.hid ⟨by rw [HK.out, List.length_append]; exact O2.out, B2.out⟩⟩
          case measure => simp [intOf]; omega
        · obtain rfl : q = k := by omega
          go_wp2_with fail
          go_ret
          exact ⟨_, rfl, HR.out.1, HR.out.2⟩
end Go.Proofs.YtilneflfeegnfaaGreat.Sn
namespace Go.Proofs.YtilneflfeegnfaaGreat.Sn
open Go.RowKit
def sF (ss : List Sg) : Value → World → Prop := fun v W => ∃ A c, v = .slice A ss.length c ∧ ss.length ≤ c ∧ c ≤ maxLen ∧ Rw eS W A ss
def kF (ps : List Kp) : Value → World → Prop := fun v W => ∃ A c, v = .slice A ps.length c ∧ ps.length ≤ c ∧ c ≤ maxLen ∧ Ks W A ps
theorem stable_sF (ss : List Sg) : Stable (sF ss) := fun _ _ _ ⟨A, c, h1, h2, h3, h4⟩ hb => ⟨A, c, h1, h2, h3, h4.below hb⟩
theorem stable_kF (ps : List Kp) : Stable (kF ps) := fun _ _ _ ⟨A, c, h1, h2, h3, h4⟩ hb => ⟨A, c, h1, h2, h3, h4.below hb⟩
def SPost (w : World) (ss : List Sg) (e : Ending) (w' : World) : Prop := ∃ v, e = .returned v ∧ Below w.heap.size w w' ∧ sF ss v w'
def KPost (w : World) (ps : List Kp) (e : Ending) (w' : World) : Prop := ∃ v, e = .returned v ∧ Below w.heap.size w w' ∧ kF ps v w'
theorem OwnPost.s {w w' : World} {ss : List Sg} {e : Ending} (h : OwnPost eS 49 w ss e w') (hn : ss.length ≤ 1000000000) : SPost w ss e w' := by
  obtain ⟨v, he, ho, hb⟩ := h
  obtain ⟨A, cap, rfl, hc, hm, _, hr, _⟩ := own_rw (E := eS) ho (by omega)
  exact ⟨_, he, hb, A, cap, rfl, hc, hm, hr⟩
theorem sF_nil (W : World) : sF [] (.slice none 0 0) W := ⟨none, 0, rfl, by simp, by unfold maxLen; omega, Rw.nil _ _⟩
theorem kF_nil (W : World) : kF [] (.slice none 0 0) W := ⟨none, 0, rfl, by simp, by unfold maxLen; omega, Ks.nil _ _⟩
theorem size35' (W : World) : (Go.sizeOf 49).run Tryz.prog W = .ok 8 W := by
  obtain ⟨i, hi, hs⟩ := Option.map_eq_some_iff.1 size35
  rw [← hs]
  simp [Go.sizeOf, typeInfo, hi]
theorem size53' (W : World) : (Go.sizeOf 66).run Tryz.prog W = .ok 2 W := by
  obtain ⟨i, hi, hs⟩ := Option.map_eq_some_iff.1 size53
  rw [← hs]
  simp [Go.sizeOf, typeInfo, hi]
theorem slS_l (A : Option Addr) (n c k : Nat) (hk : k ≤ n) (hc : n ≤ c) (W : World) : (Instr.slice 64 (.slice A n c) (some (.int .i64 (k : Int))) none none).run Tryz.prog W = .ok (.slice (dA 8 A c k) (n - k) (c - k)) W := by
  have h1 : (k : Int) ≤ n := by omega
  unfold Instr.slice Instr.sliceBounds Instr.sliceBound
  simp only [Sem.run_bind, run_underlying Tryz.underlying64, Result.andThen_ok, Sem.run_pure, size35', asIntOf]
  try simp only [Option.isSome_none, Bool.false_eq_true, if_false, Sem.run_bind, Sem.run_pure, Result.andThen_ok]
  rw [if_pos ⟨by omega, h1⟩]
  simp only [Sem.run_bind, Sem.run_pure, Result.andThen_ok, Int.toNat_natCast]
  rfl
theorem slK_l (A : Option Addr) (n c k : Nat) (hk : k ≤ n) (hc : n ≤ c) (W : World) : (Instr.slice 31 (.slice A n c) (some (.int .i64 (k : Int))) none none).run Tryz.prog W = .ok (.slice (dA 2 A c k) (n - k) (c - k)) W := by
  have h1 : (k : Int) ≤ n := by omega
  unfold Instr.slice Instr.sliceBounds Instr.sliceBound
  simp only [Sem.run_bind, run_underlying Tryz.underlying31, Result.andThen_ok, Sem.run_pure, size53', asIntOf]
  try simp only [Option.isSome_none, Bool.false_eq_true, if_false, Sem.run_bind, Sem.run_pure, Result.andThen_ok]
  rw [if_pos ⟨by omega, h1⟩]
  simp only [Sem.run_bind, Sem.run_pure, Result.andThen_ok, Int.toNat_natCast]
  rfl
theorem slK_h (A : Option Addr) (n c i : Nat) (hi : i ≤ c) (W : World) : (Instr.slice 31 (.slice A n c) none (some (.int .i64 (i : Int))) none).run Tryz.prog W = .ok (.slice A i c) W := by
  have h1 : (i : Int) ≤ c := by omega
  have h2 : A.map (·.add (0 * 2)) = A := by cases A <;> simp [Addr.add]
  unfold Instr.slice Instr.sliceBounds Instr.sliceBound
  simp only [Sem.run_bind, run_underlying Tryz.underlying31, Result.andThen_ok, Sem.run_pure, size53', asIntOf]
  try simp only [Option.isSome_none, Bool.false_eq_true, if_false, Sem.run_bind, Sem.run_pure, Result.andThen_ok]
  rw [if_pos ⟨by omega, h1⟩]
  simp only [Sem.run_bind, Sem.run_pure, Result.andThen_ok, h2, ite_self, Nat.sub_zero, Int.toNat_natCast]
set_option maxRecDepth 100000 in
set_option maxHeartbeats 2000000 in
theorem of_any (a : Int) (A : Option Addr) (xs : List Kp) (cap : Nat) (w : World) (h : Ks w A xs) (hcap : xs.length ≤ cap) (hb : ∀ x ∈ xs, x.ss.length ≤ 1000000) (ha0 : 0 ≤ a) (ha1 : a < 4294967296) :
    Calls Tryz.prog 43 #[.slice A xs.length cap, .int .u32 a] w (SPost w (sg xs a)) := by
  have hln := h.len
  have HC := Lib.hid (place_any a A xs cap w h ha0 ha1)
  have hle := lo_le a xs
  cases hI : isAt xs a with
  | false =>
    have HS := Lib.hid (show sg xs a = [] from sg_no hI)
    rw [hI] at HC
    clear h hI
    generalize xs.length = L at *
    generalize lo xs a = P at *
    go_enter Tryz.func43, Tryz.ntmps43
    go_wp2_with fail
    refine HC.out.mono ?_
    rintro e w1 ⟨rfl, n, rfl⟩
    go_wp2_with fail
    go_ret
    exact ⟨_, rfl, bdrewN (Below.refl _ _) _, by rw [HS.out]; exact sF_nil _⟩
  | true =>
    obtain ⟨x, hx, hxa, hlt⟩ := isAt_some hI
    obtain ⟨y, P1, c1, rfl, hin, hc⟩ := h.kn hx
    have HS := Lib.hid (sg_at hI hx)
    rw [hI] at HC
    have k1 : w.cell? ⟨(y.add (lo xs a * 2)).block, (y.add (lo xs a * 2)).off + 1, none⟩ = some (.slice P1 x.ss.length c1) := hc 1 _ rfl
    have hl8 := hb x (List.mem_of_getElem? hx)
    have HCL := Lib.hid fun n => cloneS_any P1 x.ss c1 (w.drewN n) (hin.lies.drewN n) hl8 hin.le
    have HL8 := Lib.hid hl8
    clear h hI hx hin hc hxa hb hl8
    generalize xs.length = L at *
    generalize lo xs a = P at *
    go_enter Tryz.func43, Tryz.ntmps43
    go_wp2_with fail
    refine HC.out.mono ?_
    rintro e w1 ⟨rfl, n, rfl⟩
    go_wp2_with fail
    refine (HCL.out n).mono ?_
    intro e w2 hp
    obtain ⟨v, rfl, hb, hs⟩ := OwnPost.s hp (by have := HL8.out; omega)
    have BB := Lib.hid hb
    have SS := Lib.hid hs
    clear hp hb hs
    go_wp2_with fail
    go_ret
    exact ⟨_, rfl, (bdrewN (Below.refl _ w) n).trans BB.out, by rw [HS.out]; exact SS.out⟩
theorem rw_one (W : World) (s : Sg) : Rw eS (W.alloc (Sx s)) (some ⟨W.heap.size, 0, none⟩) [s] := by
  refine ⟨by simp, fun q z hq => ?_⟩
  match q, hq with
  | 0, hq =>
    simp at hq
    subst hq
    refine ⟨_, rfl, fun j v hv => ?_⟩
    rw [Addr.add_mid]
    change (sl s)[j]? = some v at hv
    show (W.alloc (Sx s)).cell? ⟨W.heap.size, 0 + (0 * 8 + j), none⟩ = _
    match j, hv with
    | 0, h => simp [sl] at h; subst h; simp [Sx]
    | 1, h => simp [sl] at h; subst h; simp [Sx]
    | 2, h => simp [sl] at h; subst h; simp [Sx]
    | 3, h => simp [sl] at h; subst h; simp [Sx]
    | 4, h => simp [sl] at h; subst h; simp [Sx]
    | 5, h => simp [sl] at h; subst h; simp [Sx]
    | 6, h => simp [sl] at h; subst h; simp [Sx]
    | 7, h => simp [sl] at h; subst h; simp [Sx]
    | j + 8, h => simp [sl] at h
  | q + 1, hq => simp at hq
theorem sF_one (W : World) (s : Sg) : sF [s] (.slice (some ⟨W.heap.size, 0, none⟩) 1 1) (W.alloc (Sx s)) := ⟨_, 1, rfl, by simp, by unfold maxLen; omega, rw_one W s⟩
theorem s_c8 {W : World} {b : Nat} {s : Sg} (h : Rw eS W (some ⟨b, 0, none⟩) [s]) : W.cell? ⟨b, 0, none⟩ = some (.int .i64 s.f) ∧ W.cell? ⟨b, 1, none⟩ = some (.int .u8 s.m0) ∧ W.cell? ⟨b, 2, none⟩ = some (.int .u8 s.m1) ∧ W.cell? ⟨b, 3, none⟩ = some (.int .u8 s.m2) ∧ W.cell? ⟨b, 4, none⟩ = some (.int .u8 s.m3) ∧ W.cell? ⟨b, 5, none⟩ = some (.int .u8 s.m4) ∧ W.cell? ⟨b, 6, none⟩ = some (.int .u8 s.m5) ∧ W.cell? ⟨b, 7, none⟩ = some (.int .i64 s.t) := by
  have H : ∀ j v, (sl s)[j]? = some v → W.cell? ⟨b, j, none⟩ = some v := fun j v hv => by
    have := h.at (q := 0) (x := s) rfl j v hv
    rw [show ((⟨b, 0, none⟩ : Addr).add (0 * eS.N)).add j = ⟨b, j, none⟩ by rw [Nat.zero_mul, show (⟨b, 0, none⟩ : Addr).add 0 = ⟨b, 0, none⟩ from rfl, Addr.add_mid, Nat.zero_add]] at this
    exact this
  exact ⟨H 0 _ rfl, H 1 _ rfl, H 2 _ rfl, H 3 _ rfl, H 4 _ rfl, H 5 _ rfl, H 6 _ rfl, H 7 _ rfl⟩
def qF {α : Type} (E : El α) (n : Nat) (rs : List α) : Value → World → Prop := fun v W => ∃ b qs, v = .slice (some ⟨b, 0, none⟩) n n ∧ qs.length = n ∧ Pm E W b qs ∧ cat qs n = rs
theorem Pm.below {α : Type} {E : El α} {w w' : World} {b : Nat} {ps : List (Pt α)} (h : Pm E w b ps) (hb : Below w.heap.size w w') : Pm E w' b ps :=
  ⟨Nat.lt_of_lt_of_le h.1 hb.size, fun k p hp => ⟨by rw [hb.cell (p := ⟨b, k, none⟩) h.1]; exact (h.2 k p hp).1, (h.2 k p hp).2.below hb⟩⟩
theorem stable_qF {α : Type} (E : El α) (n : Nat) (rs : List α) : Stable (qF E n rs) := fun _ _ _ ⟨b, qs, h1, h2, h3, h4⟩ hb => ⟨b, qs, h1, h2, Pm.below h3 hb, h4⟩
theorem pm_two {α : Type} {E : El α} (W : World) (p q : Pt α) (t : TypeId) (hp : Rw E W p.A p.xs) (hq : Rw E W q.A q.xs) : Pm E (W.alloc (.cells #[.slice p.A p.xs.length p.c, .slice q.A q.xs.length q.c] t)) W.heap.size [p, q] := by
  refine ⟨by simp, fun k r hr => ?_⟩
  match k, hr with
  | 0, hr => simp at hr; subst hr; exact ⟨by simp, hp.below ((Below.refl _ _).alloc (Nat.le_refl _) _)⟩
  | 1, hr => simp at hr; subst hr; exact ⟨by simp, hq.below ((Below.refl _ _).alloc (Nat.le_refl _) _)⟩
  | k + 2, hr => simp at hr
theorem pm_three {α : Type} {E : El α} (W : World) (p q s : Pt α) (t : TypeId) (hp : Rw E W p.A p.xs) (hq : Rw E W q.A q.xs) (hs : Rw E W s.A s.xs) : Pm E (W.alloc (.cells #[.slice p.A p.xs.length p.c, .slice q.A q.xs.length q.c, .slice s.A s.xs.length s.c] t)) W.heap.size [p, q, s] := by
  refine ⟨by simp, fun k r hr => ?_⟩
  match k, hr with
  | 0, hr => simp at hr; subst hr; exact ⟨by simp, hp.below ((Below.refl _ _).alloc (Nat.le_refl _) _)⟩
  | 1, hr => simp at hr; subst hr; exact ⟨by simp, hq.below ((Below.refl _ _).alloc (Nat.le_refl _) _)⟩
  | 2, hr => simp at hr; subst hr; exact ⟨by simp, hs.below ((Below.refl _ _).alloc (Nat.le_refl _) _)⟩
  | k + 3, hr => simp at hr
theorem qS_two {W : World} {A1 A2 : Option Addr} {c1 c2 : Nat} {s1 s2 : List Sg} (t : TypeId) (h1 : Rw eS W A1 s1) (h2 : Rw eS W A2 s2) : qF eS 2 (s1 ++ s2) (.slice (some ⟨W.heap.size, 0, none⟩) 2 2) (W.alloc (.cells #[.slice A1 s1.length c1, .slice A2 s2.length c2] t)) :=
  ⟨_, [⟨A1, s1, c1⟩, ⟨A2, s2, c2⟩], rfl, rfl, pm_two W ⟨A1, s1, c1⟩ ⟨A2, s2, c2⟩ t h1 h2, by simp [cat]⟩
def kp (ss : List Sg) (s : Sg) : List Sg := ss.drop (ss.length - 7) ++ [s]
theorem calls_sF {f : FuncId} {args : Array Value} {W : World} {ss : List Sg} {Φ : List (Value → World → Prop)} {i : Nat} (h : Calls Tryz.prog f args W (SPost W ss)) (hi : fAt Φ i = sF ss) : Calls Tryz.prog f args W fun e w' => ∃ v, e = .returned v ∧ Below W.heap.size W w' ∧ fAt Φ i v w' := by
  rw [hi]; exact h
theorem calls_kF {f : FuncId} {args : Array Value} {W : World} {ps : List Kp} {Φ : List (Value → World → Prop)} {i : Nat} (h : Calls Tryz.prog f args W (KPost W ps)) (hi : fAt Φ i = kF ps) : Calls Tryz.prog f args W fun e w' => ∃ v, e = .returned v ∧ Below W.heap.size W w' ∧ fAt Φ i v w' := by
  rw [hi]; exact h
set_option maxRecDepth 100000 in
set_option maxHeartbeats 4000000 in
theorem keep_any (s : Sg) (A : Option Addr) (xs : List Sg) (cap : Nat) (w : World) (h : Rw eS w A xs) (hc : xs.length ≤ cap) (hx : xs.length ≤ 1000000) :
    Calls Tryz.prog 83 #[.slice A xs.length cap, sv s] w (SPost w (kp xs s)) := by
  obtain ⟨K, hK⟩ : ∃ K, xs.length - 7 = K := ⟨_, rfl⟩
  obtain ⟨R, hR⟩ : ∃ R, kp xs s = R := ⟨_, rfl⟩
  have hR' : xs.drop K ++ [s] = R := by rw [← hR, ← hK]; rfl
  have hRl : R.length ≤ 1000000 := by rw [← hR', List.length_append, List.length_drop, List.length_singleton]; omega
  have HSL := Lib.hid fun W => slS_l A xs.length cap K (by omega) hc W
  have HBX0 := Lib.hid (rw_one w s)
  have HB0 := Lib.hid (show Below w.heap.size w (w.alloc (Sx s)) from (Below.refl _ w).alloc (Nat.le_refl _) _)
  have HCC := Lib.hid (show ∀ W b qs, List.length qs = 2 → Pm eS W b qs → cat qs 2 = R → Calls Tryz.prog 121 #[.slice (some ⟨b, 0, none⟩) 2 2] W (SPost W R) from fun W b qs hl hp hct => by
    have := concatS_any qs b 2 W hp (by rw [hl, hct]; omega) (by omega)
    rw [hl, hct] at this
    exact this.mono fun e w' hq => OwnPost.s hq (by omega))
  have HQ := Lib.hid (show ∀ W, Below (w.alloc (Sx s)).heap.size (w.alloc (Sx s)) W → ∀ A4 c4, Rw eS W A4 [s] → qF eS 2 R (.slice (some ⟨W.heap.size, 0, none⟩) 2 2) (W.alloc (.cells #[.slice (dA 8 A cap K) (xs.length - K) (cap - K), .slice A4 1 c4] 64)) from fun W hW A4 c4 h4 => by
    have hd := (h.below ((hx_below _ hW))).rest hc K
    have := qS_two (c1 := cap - K) (c2 := c4) 64 hd h4
    rw [List.length_drop, List.length_singleton, hR'] at this
    exact this)
  rw [hR]
  clear hR hR' hRl
  generalize xs.length = L at *
  have hM : max (0 : Int) ((L : Int) + 1 - 8) = (K : Int) := by omega
  have hKL : K ≤ L := by omega
  obtain ⟨sf, x0, x1, x2, x3, x4, x5, st⟩ := s
  simp only [sv, Sx] at HBX0 HB0 HQ ⊢
  clear hK h
  go_enter Tryz.func83, Tryz.ntmps83
  go_wp2_with fail
  refine wp_region_below [fx (.slice A L cap), fx (.int .i64 (K : Int)), fx (.slice (dA 8 A cap K) (L - K) (cap - K)), fx (.agg #[.int .i64 sf, .int .u8 x0, .int .u8 x1, .int .u8 x2, .int .u8 x3, .int .u8 x4, .int .u8 x5, .int .i64 st]), sF [⟨sf, x0, x1, x2, x3, x4, x5, st⟩], qF eS 2 R, sF R, sF R]
    (by kernel_rfl) (by kernel_rfl) (by kernel_rfl) ?_ ?_ ?_
  · simp only [List.mem_cons, List.not_mem_nil, or_false]
    rintro φ (rfl | rfl | rfl | rfl | rfl | rfl | rfl | rfl)
    all_goals first | exact stable_fx _ | exact stable_fr _ _ | exact stable_sF _ | exact stable_qF _ _ _
  · refine OgSteps.cons ?_ (OgSteps.cons ?_ (OgSteps.cons ?_ (OgSteps.cons ?_ (OgSteps.cons ?_ (OgSteps.cons ?_ (OgSteps.cons ?_ (OgSteps.cons ?_ (OgSteps.nil))))))))
    · refine OgStep.pure ?_ ?_
      · rfl
      intro u W hS hp
      refine ⟨.slice A L cap, ?_, rfl⟩
      simp only [ogMk, Act.put, List.setIfInBounds_toArray, List.set_cons_zero, List.set_cons_succ, Nat.zero_add, Nat.reduceAdd]
      simp [execOp, Act.eval, go_sem]
    · refine OgStep.pure ?_ ?_
      · rfl
      intro u W hS hp
      refine ⟨.int .i64 (K : Int), ?_, rfl⟩
      simp only [ogMk, Act.put, List.setIfInBounds_toArray, List.set_cons_zero, List.set_cons_succ, Nat.zero_add, Nat.reduceAdd]
      simp [execOp, Act.eval, go_sem]
    · refine OgStep.pure ?_ ?_
      · rfl
      intro u W hS hp
      have h0 : u 0 = .slice A L cap := hp ⟨0, .data⟩ (by simp) rfl
      have h1 : u 1 = .int .i64 (K : Int) := hp ⟨1, .data⟩ (by simp) rfl
      have R := HSL.out W
      refine ⟨.slice (dA 8 A cap K) (L - K) (cap - K), ?_, rfl⟩
      simp only [ogMk, Act.put, List.setIfInBounds_toArray, List.set_cons_zero, List.set_cons_succ, Nat.zero_add, Nat.reduceAdd]
      simp [execOp, Act.eval, go_sem, h0, h1, R]
    · refine OgStep.pure ?_ ?_
      · rfl
      intro u W hS hp
      obtain ⟨R0, R1, R2, R3, R4, R5, R6, R7⟩ := s_c8 (HBX0.out.below hS)
      refine ⟨.agg #[.int .i64 sf, .int .u8 x0, .int .u8 x1, .int .u8 x2, .int .u8 x3, .int .u8 x4, .int .u8 x5, .int .i64 st], ?_, rfl⟩
      simp only [ogMk, Act.put, List.setIfInBounds_toArray, List.set_cons_zero, List.set_cons_succ, Nat.zero_add, Nat.reduceAdd]
      simp [execOp, Act.eval, go_sem, R0, R1, R2, R3, R4, R5, R6, R7]
    · refine OgStep.made ?_ ?_
      · rfl
      intro u W hS hp
      have h3 : u 3 = .agg #[.int .i64 sf, .int .u8 x0, .int .u8 x1, .int .u8 x2, .int .u8 x3, .int .u8 x4, .int .u8 x5, .int .i64 st] := hp ⟨3, .data⟩ (by simp) rfl
      refine ⟨.slice (some ⟨W.heap.size, 0, none⟩) 1 1, _, ?_, (Below.refl _ W).alloc (Nat.le_refl _) _, sF_one W ⟨sf, x0, x1, x2, x3, x4, x5, st⟩⟩
      simp only [ogMk, Act.put, List.setIfInBounds_toArray, List.set_cons_zero, List.set_cons_succ, Nat.zero_add, Nat.reduceAdd]
      simp [execOp, Act.eval, go_sem, h3, Sx]
    · refine OgStep.made ?_ ?_
      · rfl
      intro u W hS hp
      obtain ⟨A4, c4, h4, _, _, hR4⟩ : sF [⟨sf, x0, x1, x2, x3, x4, x5, st⟩] (u 4) W := hp ⟨4, .data⟩ (by simp) rfl
      have h2 : u 2 = .slice (dA 8 A cap K) (L - K) (cap - K) := hp ⟨2, .data⟩ (by simp) rfl
      refine ⟨.slice (some ⟨W.heap.size, 0, none⟩) 2 2, _, ?_, (Below.refl _ W).alloc (Nat.le_refl _) _, HQ.out W hS A4 c4 hR4⟩
      simp only [ogMk, Act.put, List.setIfInBounds_toArray, List.set_cons_zero, List.set_cons_succ, Nat.zero_add, Nat.reduceAdd]
      rw [h2, h4]
      simp [execOp, Act.eval, go_sem]
    · refine OgStep.calls ?_ ?_
      · rfl
      intro u W hS hp
      have h5 : qF eS 2 R (u 5) W := hp ⟨5, .data⟩ (by simp) rfl
      obtain ⟨b, qs, e5, hl5, hPm, hct⟩ := h5
      refine ⟨121, #[.slice (some ⟨b, 0, none⟩) 2 2], ?_, calls_sF (HCC.out W b qs hl5 hPm hct) rfl⟩
      simp only [ogMk, Act.put, List.setIfInBounds_toArray, List.set_cons_zero, List.set_cons_succ, Nat.zero_add, Nat.reduceAdd]
      rw [e5]
      simp [execOp, Act.eval, go_sem]
    · refine OgStep.pure ?_ ?_
      · rfl
      intro u W hS hp
      have h6 : sF R (u 6) W := hp ⟨6, .data⟩ (by simp) rfl
      refine ⟨u 6, ?_, h6⟩
      simp only [ogMk, Act.put, List.setIfInBounds_toArray, List.set_cons_zero, List.set_cons_succ, Nat.zero_add, Nat.reduceAdd]
      simp [execOp, Act.eval, go_sem]
  · intro u W hS hF'
    have hF7 : sF R (u 7) W := hF' 7 (by decide)
    have hF := hF'
    have e0 : u 0 = .slice A L cap := hF 0 (by decide)
    have e1 : u 1 = .int .i64 (K : Int) := hF 1 (by decide)
    have e2 : u 2 = .slice (dA 8 A cap K) (L - K) (cap - K) := hF 2 (by decide)
    have e3 : u 3 = .agg #[.int .i64 sf, .int .u8 x0, .int .u8 x1, .int .u8 x2, .int .u8 x3, .int .u8 x4, .int .u8 x5, .int .i64 st] := hF 3 (by decide)
    simp only [ogMk, Act.put, List.setIfInBounds_toArray, List.set_cons_zero, List.set_cons_succ, Nat.zero_add, Nat.reduceAdd]
    rw [e0, e1, e2, e3]
    clear hF' e0 e1 e2 e3 hF
    go_wp2_with fail
    go_ret
    exact ⟨_, rfl, HB0.out.trans (hS.mono (by simp)), hF7⟩
end Go.Proofs.YtilneflfeegnfaaGreat.Sn
namespace Go.Proofs.YtilneflfeegnfaaGreat.Sn
open Go.RowKit
theorem rwS_stored {w : World} {P : Option Addr} {ss : List Sg} {p : Addr} {A' : Option Addr} {n c : Nat} (h : Rw eS w P ss) (hp : w.cell? p = some (.slice A' n c)) (u : Value) : Rw eS (w.setCell p u) P ss := by
  refine ⟨h.1, fun q x hq => ?_⟩
  obtain ⟨y, hy, hc⟩ := h.2 q x hq
  refine ⟨y, hy, fun j v hv => ?_⟩
  have h1 := hc j v hv
  rw [World.cell?_setCell_other]
  · exact h1
  · intro e
    rw [← e, hp] at h1
    injection h1 with h1
    subst h1
    have := List.mem_of_getElem? hv
    simp [eS, sl] at this
theorem kn_stored {w : World} {x : Kn} {p : Addr} {A' : Option Addr} {n c : Nat} (h : x.In w) (hp : w.cell? p = some (.slice A' n c)) (u : Value) : x.In (w.setCell p u) := ⟨h.a0, h.a1, rwS_stored h.lies hp u, h.le, h.max⟩
theorem cs_set {ys : List Kn} {k : Nat} {y z : Kn} (hy : ys[k]? = some y) (ha : z.a = y.a) : eK.cs (ys.set k z) = (eK.cs ys).set (k * 2 + 1) (.slice z.P z.ss.length z.c) := by
  induction ys generalizing k with
  | nil => simp at hy
  | cons x r ih =>
    cases k with
    | zero =>
      simp at hy
      subst hy
      simp [El.cs, eK, kl, ha]
    | succ k =>
      have := ih (by simpa using hy)
      show eK.cl x ++ eK.cs (r.set k z) = (eK.cl x ++ eK.cs r).set ((k + 1) * 2 + 1) _
      rw [this, show (k + 1) * 2 + 1 = (eK.cl x).length + (k * 2 + 1) by show _ = 2 + _; omega, List.set_append_right _ _ (by omega)]
      simp
theorem cs_slice {ys : List Kn} {k : Nat} {y : Kn} (hy : ys[k]? = some y) : (eK.cs ys)[k * 2 + 1]? = some (.slice y.P y.ss.length y.c) := cs_at (E := eK) ys k y 1 hy (by decide)
theorem map_set {ys : List Kn} {k : Nat} {y z : Kn} (hy : ys[k]? = some y) (hz : z.p = y.p) : (ys.set k z).map Kn.p = ys.map Kn.p := by
  rw [List.map_set, hz]
  apply List.ext_getElem?
  intro j
  rw [List.getElem?_set]
  split
  · rename_i e
    subst e
    have := (List.getElem?_eq_some_iff.1 hy).1
    simp [this, hy]
    exact (List.getElem?_eq_some_iff.1 hy).2 ▸ rfl
  · rfl
set_option maxRecDepth 100000 in
set_option maxHeartbeats 2000000 in
theorem copied_any (A : Option Addr) (ps : List Kp) (cap : Nat) (w : World) (h : Ks w A ps) (hcap : ps.length ≤ cap) (hn : ps.length ≤ 1000000) (hb : ∀ x ∈ ps, x.ss.length ≤ 1000000) :
    Calls Tryz.prog 85 #[.slice A ps.length cap] w (KPost w ps) := by
  obtain ⟨xs, hxp, hK⟩ := h
  have hxl : xs.length = ps.length := by rw [← hxp, List.length_map]
  have HC := Lib.hid (cloneK_any A xs cap w hK.1 (by omega) (by omega))
  rw [hxl] at HC
  have HXP := Lib.hid hxp
  have HIN := Lib.hid hK.2
  have HPB := Lib.hid hb
  obtain ⟨L, hL⟩ : ∃ L, ps.length = L := ⟨_, rfl⟩
  have HL := Lib.hid hL
  have HXL := Lib.hid (hxl.trans hL)
  rw [hL] at hcap hn HC ⊢
  clear hL hxl hxp hK hb
  go_enter Tryz.func85, Tryz.ntmps85
  go_wp2_with fail
  refine HC.out.mono ?_
  rintro e w1 ⟨v1, rfl, ho, hbb⟩
  obtain ⟨A1, c1, rfl, hlc, hmc, -, -, -⟩ := own_rw (E := eK) ho (by rw [HXL.out]; omega)
  rw [HXL.out] at hlc ho ⊢
  have HR := Lib.hid (show ∃ ys, ys.map Kn.p = ps ∧ w1.ownsRow w.heap.size 66 2 (.slice A1 L c1) L (eK.cs ys) ∧ (∀ y ∈ ys, y.In w1) ∧ Below w.heap.size w w1 from ⟨xs, HXP.out, ho, fun y hy => (HIN.out y hy).below hbb, hbb⟩)
  have HMC := Lib.hid hmc
  clear ho hbb hmc
  go_wp2_with fail
  go_loopw [9] (fun i wr => ∃ k : Nat, i = .int .i64 k ∧ k ≤ L ∧ Hid (∃ ys, ys.map Kn.p = ps ∧ wr.ownsRow w.heap.size 66 2 (.slice A1 L c1) L (eK.cs ys) ∧ (∀ y ∈ ys, y.In wr) ∧ Below w.heap.size w wr)) (fun i _ => L - (intOf i).toNat)
  case atStart => exact ⟨0, rfl, by omega, HR⟩
  case round =>
    obtain ⟨k, rfl, hk, HH⟩ := hrel
    clear HR
    by_cases hlt : k < L
    · obtain ⟨ys, h1, h2, h3, h4⟩ := HH.out
      obtain ⟨g, cap', hv, hg1, hg2⟩ := h2.form (by omega)
      obtain ⟨rfl, rfl⟩ : A1 = some ⟨g, 0, none⟩ ∧ c1 = cap' := by simpa using hv
      have hyl : ys.length = L := by rw [← HL.out, ← h1, List.length_map]
      obtain ⟨y, hy⟩ : ∃ y, ys[k]? = some y := ⟨_, List.getElem?_eq_getElem (by omega)⟩
      have c0 : wr.cell? ⟨g, k * 2 + 1, none⟩ = some (.slice y.P y.ss.length y.c) := by
        have := h2.cells (g := g) rfl _ _ (cs_slice hy)
        rwa [Addr.add_mid, Nat.zero_add] at this
      have f0 : ∀ j, wr.frozen? ⟨g, j, none⟩ = false := fun j => h2.frozenAt j
      have hym := h3 y (List.mem_of_getElem? hy)
      have hyb : y.ss.length ≤ 1000000 := HPB.out y.p (by rw [← h1]; exact List.mem_map_of_mem (List.mem_of_getElem? hy))
      have HCL := Lib.hid (cloneS_any y.P y.ss y.c wr hym.lies hyb hym.le)
      have HYB := Lib.hid hyb
      have HHH := Lib.hid (show ys.map Kn.p = ps ∧ wr.ownsRow w.heap.size 66 2 (.slice (some ⟨g, 0, none⟩) L c1) L (eK.cs ys) ∧ (∀ y ∈ ys, y.In wr) ∧ Below w.heap.size w wr ∧ ys[k]? = some y from ⟨h1, h2, h3, h4, hy⟩)
      clear HH h1 h2 h3 h4 hv hyl hy hym hyb
      go_wp2_with fail
      refine HCL.out.mono ?_
      intro e w2 hp
      obtain ⟨v2, rfl, hb2, A2, c2, rfl, hlc2, hmc2, hr2⟩ := OwnPost.s hp (by have := HYB.out; omega)
      obtain ⟨h1, h2, h3, h4, hy⟩ := HHH.out
      have d0 : w2.cell? ⟨g, k * 2 + 1, none⟩ = some (.slice y.P y.ss.length y.c) := by rw [hb2.cell (p := ⟨g, k * 2 + 1, none⟩) hg2]; exact c0
      have d1 : w2.frozen? ⟨g, k * 2 + 1, none⟩ = false := by rw [hb2.frozen (p := ⟨g, k * 2 + 1, none⟩) hg2]; exact f0 _
      have hz : (⟨y.a, A2, c2, y.ss⟩ : Kn).In w2 := ⟨(h3 y (List.mem_of_getElem? hy)).a0, (h3 y (List.mem_of_getElem? hy)).a1, hr2, hlc2, hmc2⟩
      have HN := Lib.hid (show ∃ zs, zs.map Kn.p = ps ∧ (w2.setCell ⟨g, k * 2 + 1, none⟩ (.slice A2 y.ss.length c2)).ownsRow w.heap.size 66 2 (.slice (some ⟨g, 0, none⟩) L c1) L (eK.cs zs) ∧ (∀ z ∈ zs, z.In (w2.setCell ⟨g, k * 2 + 1, none⟩ (.slice A2 y.ss.length c2))) ∧ Below w.heap.size w (w2.setCell ⟨g, k * 2 + 1, none⟩ (.slice A2 y.ss.length c2)) from by
        refine ⟨ys.set k ⟨y.a, A2, c2, y.ss⟩, ?_, ?_, ?_, ?_⟩
        · rw [map_set (z := ⟨y.a, A2, c2, y.ss⟩) hy rfl, h1]
        · rw [cs_set (z := ⟨y.a, A2, c2, y.ss⟩) hy rfl]
          exact ((own_keep h2 hb2).stored _ _).1
        · intro z hz'
          rcases List.mem_or_eq_of_mem_set hz' with hz' | rfl
          · exact kn_stored ((h3 z hz').below hb2) d0 _
          · exact kn_stored hz d0 _
        · exact (h4.trans (hb2.mono h4.size)).setCell hg1 _)
      clear hp hb2 hr2 h1 h2 h3 h4 hy hz HHH
      go_wp2_with fail
      go_roundw
      case rel => exact ⟨k + 1, by go_num, by omega, HN⟩
      case measure => simp [intOf]; omega
    · obtain rfl : k = L := by omega
      go_wp2_with fail
      go_ret
      obtain ⟨ys, h1, h2, h3, h4⟩ := HH.out
      have hyl : ys.length = k := by rw [← HL.out, ← h1, List.length_map]
      obtain ⟨A3, c3, he, hc3, hm3, -, hr3, -⟩ := own_rw (E := eK) h2 (by omega)
      obtain ⟨rfl, -, rfl⟩ : A1 = A3 ∧ k = ys.length ∧ c1 = c3 := by simpa using he
      exact ⟨_, rfl, h4, A1, c1, by rw [HL.out]; rfl, by rw [HL.out]; omega, HMC.out, ys, h1, hr3, h3⟩
end Go.Proofs.YtilneflfeegnfaaGreat.Sn
