/-
  TrieOrder, walked. Conditions: the row that came in has not more than its room.
-/
import Derived.Test.YtbfkpapankgndaaDp
namespace Go.Proofs.Ytbfkpapankgndaa
open Go.RowKit

theorem take_mem {xs : List Ac} {q : Nat} {a : Ac} (h : xs[q]? = some a) (z : Ac) : z ∈ xs.take (q + 1) ↔ z = a ∨ z ∈ xs.take q := by
  rw [List.take_add_one, h]
  simp [or_comm]
theorem drop_mem {xs : List Ac} {q : Nat} {a : Ac} (h : xs[q]? = some a) (z : Ac) : z ∈ xs.drop q ↔ z = a ∨ z ∈ xs.drop (q + 1) := by
  obtain ⟨hl, rfl⟩ := List.getElem?_eq_some_iff.1 h
  rw [List.drop_eq_getElem_cons hl, List.mem_cons]

set_option maxRecDepth 100000 in
set_option maxHeartbeats 4000000 in
theorem trieOrder_walk (A : Option Addr) (xs0 : List Ac) (cap : Nat) (w : World) (h : Ra w A xs0) (hcap : xs0.length ≤ cap) :
    Calls Try.prog 5 #[.slice A xs0.length cap] w fun e w' => e = .returned (.bool true) ∧ Below w.heap.size w w' := by
  obtain ⟨L, hL⟩ : ∃ L : Nat, min (xs0.length : Int) 60 = L := ⟨min xs0.length 60, by omega⟩
  have hL60 : L ≤ 60 := by omega
  have hLz : L ≤ xs0.length := by omega
  have hLc : (L : Int) ≤ cap := by omega
  have hz := h.1
  obtain ⟨xs, hxs⟩ : ∃ xs, xs0.take L = xs := ⟨_, rfl⟩
  have hxl : xs.length = L := by rw [← hxs, List.length_take]; omega
  have R := Lib.hid (fun (W : World) (hb : Below w.heap.size w W) (q : Nat) (a : Ac) (ha : xs[q]? = some a) => (by
    have hq : q < L := by have := (List.getElem?_eq_some_iff.1 ha).1; omega
    rw [← hxs, List.getElem?_take, if_pos hq] at ha
    exact (h.below hb).2 q a ha : a.ok ∧ ∃ x, A = some x ∧ ∀ j v, (ac a)[j]? = some v → W.cell? (x.add (q * 6 + j)) = some v))
  clear h hxs
  go_enter Try.func5, Try.ntmps5
  go_wp2_with fail
  refine (awake_any _).mono ?_
  rintro e w0 ⟨rfl, b0⟩
  have B0 := Lib.hid b0
  clear b0
  go_wp2_with fail
  have I0 := Lib.hid (dp_new w0)
  generalize hw2 : (w0.alloc (.cells #[.pointer none, .int .i64 0] 27)).alloc (.cells #[.pointer none, .int .i64 0] 27) = w2 at *
  clear hw2
  generalize hp : w0.heap.size = p at *
  go_loopg [22] L (fun m i wr => ∃ q : Nat, q + m = L ∧ i = .int .i64 (q : Int) ∧ Hid (∃ S T, Dp p w0 wr p S (p + 1) T ∧ Mem S (xs.take q) ∧ Mem T (xs.drop (L - q)) ∧ (ent 32 0 S).length ≤ q ∧ (ent 32 0 T).length ≤ q))
  case atStart => exact ⟨0, by omega, rfl, _, _, I0.out, mem_nil, by rw [List.drop_of_length_le (by omega)]; exact mem_nil, by simp [ent_e], by simp [ent_e]⟩
  case round =>
    clear I0
    obtain ⟨q, hq, rfl, HH⟩ := hrel
    match gk with
    | 0 =>
      obtain rfl : q = L := by omega
      obtain ⟨S, T, hI, hS, hT, hls, hlt⟩ := HH.out
      clear HH
      have hST : ent 32 0 S = ent 32 0 T := hS.eq hT fun z => by rw [List.take_of_length_le (by omega), Nat.sub_self, List.drop_zero]
      have I := Lib.hid hI
      have E := Lib.hid hST
      have HA := Lib.hid (all_any p S wr hI.tx (by omega))
      obtain ⟨ys, hys⟩ : ∃ ys, ent 32 0 S = ys := ⟨_, rfl⟩
      have HY := Lib.hid hys
      rw [hys] at HA hls
      clear hI hS hT hlt hST hys
      go_wp2_with fail
      refine HA.out.mono ?_
      rintro e w3 ⟨v3, rfl, ho3, hb⟩
      have I3 := Lib.hid (I.out.below hb)
      have HB := Lib.hid (all_any (p + 1) T w3 I3.out.ty (by rw [← E.out, HY.out]; omega))
      rw [← E.out, HY.out] at HB
      have O3 := Lib.hid ho3
      clear hb ho3 HA
      go_wp2_with fail
      refine HB.out.mono ?_
      rintro e w4 ⟨v4, rfl, ho4, hb⟩
      have I4 := Lib.hid (I3.out.below hb)
      have O3' := Lib.hid (ownsRow_of_block O3.out fun g hg => hb.block g (own_ge O3.out hg).2)
      have O4 := Lib.hid ho4
      clear hb ho4 HB O3
      obtain ⟨A3, c3, e3⟩ : ∃ A3 c3, v3 = .slice A3 ys.length c3 := by
        rcases O3'.out.2 with ⟨e, h0⟩ | ⟨g, cap', cur, e, _⟩
        · exact ⟨none, 0, by rw [e, h0]⟩
        · exact ⟨_, _, e⟩
      obtain ⟨A4, c4, e4⟩ : ∃ A4 c4, v4 = .slice A4 ys.length c4 := by
        rcases O4.out.2 with ⟨e, h0⟩ | ⟨g, cap', cur, e, _⟩
        · exact ⟨none, 0, by rw [e, h0]⟩
        · exact ⟨_, _, e⟩
      subst e3 e4
      have HLN := Lib.hid (len_any I4.out.tx)
      rw [HY.out] at HLN
      obtain ⟨N, hN⟩ : ∃ N, ys.length = N := ⟨_, rfl⟩
      have HN := Lib.hid hN
      rw [hN] at HLN O3' O4 hls ⊢
      clear hN
      go_wp2_with fail
      refine HLN.out.mono ?_
      rintro e w5 ⟨rfl, rfl⟩
      go_wp2_with fail
      have BB := Lib.hid (B0.out.trans (((hp ▸ I4.out.bel) : Below w0.heap.size w0 w5).mono B0.out.size))
      go_loopg [62] N (fun m i wr' => ∃ k : Nat, k + m = N ∧ i = .int .i64 (k : Int) ∧ Hid (∃ nq, wr' = w5.drewN nq))
      case atStart => exact ⟨0, by omega, rfl, 0, rfl⟩
      case round =>
        obtain ⟨k, hk, rfl, HH⟩ := hrel
        obtain ⟨n0, rfl⟩ := HH.out
        clear HH
        match gk with
        | 0 =>
          go_wp2_with fail
          go_ret
          exact ⟨rfl, bdrewN BB.out n0⟩
        | m + 1 =>
          have hkN : k < N := by omega
          obtain ⟨y, hy⟩ : ∃ y, ys[k]? = some y := ⟨_, List.getElem?_eq_getElem (by rw [HN.out]; omega)⟩
          have o3 := O3'.out
          have o4 := O4.out
          rw [← HN.out] at o3 o4
          obtain ⟨g3, cp3, ev3, _, y0, y1⟩ := own_cell o3 hy
          obtain ⟨g4, cp4, ev4, _, y2, y3⟩ := own_cell o4 hy
          have ne1 := run_neq32 y.1 y.2 y.1 y.2
          rw [decide_eq_true rfl, Bool.not_true] at ne1
          injection ev3 with d1 d2 d3
          injection ev4 with f1 f2 f3
          subst d1 f1
          clear o3 o4 hy d2 d3 f2 f3
          go_upto_region 17 with fail
          go_quiet (fail)
          go_wp2_with fail
          go_roundg m
          case measure => omega
          case rel => exact ⟨k + 1, by omega, by simp, n0 + nq, rfl⟩
    | g + 1 =>
      obtain ⟨S, T, hI, hS, hT, hls, hlt⟩ := HH.out
      clear HH
      have hqL : q < L := by omega
      have hbw : Below w.heap.size w wr := B0.out.trans (((hp ▸ hI.bel) : Below w0.heap.size w0 wr).mono B0.out.size)
      obtain ⟨a, ha⟩ : ∃ a, xs[q]? = some a := ⟨_, List.getElem?_eq_getElem (by omega)⟩
      obtain ⟨b, hb⟩ : ∃ b, xs[g]? = some b := ⟨_, List.getElem?_eq_getElem (by omega)⟩
      obtain ⟨hok, x, rfl, hc⟩ := R.out wr hbw q a ha
      have hc34 : ∀ j v, (ac a)[j]? = some v → wr.cell? ((x.add (q * 6)).add j) = some v := fun j v hv => by rw [Go.Deep.add_add]; exact hc j v hv
      have hj : (L : Int) - 1 - (q : Int) = (g : Int) := by omega
      have I := Lib.hid hI
      have MS := Lib.hid hS
      have MT := Lib.hid hT
      have HA := Lib.hid ha
      have HB := Lib.hid hb
      have BA := Lib.hid fun W => block9_any a W hok
      clear hI hS hT hc ha hb hbw
      go_wp2_with (refine at_load34 _ rfl rfl _ _ rfl hc34 ?_)
      refine (BA.out _).mono ?_
      rintro e w3 ⟨rfl, hb⟩
      have I3 := Lib.hid (I.out.below hb)
      have hbk := bk_in hok
      have HP := Lib.hid (put_any (bk a).1 (bk a).2 p S w3 I3.out.tx hbk.1 hbk.2 (by omega))
      clear hb hc34
      go_wp2_with fail
      refine HP.out.mono ?_
      rintro e w4 ⟨rfl, hr⟩
      obtain ⟨S', h4, hp4⟩ := I3.out.putx hr
      have I4 := Lib.hid h4
      have MS4 := Lib.hid (MS.out.put hp4 (take_mem HA.out))
      have hls4 := put_len hp4
      obtain ⟨hokb, x', ex, hc⟩ := R.out w4 (B0.out.trans (((hp ▸ h4.bel) : Below w0.heap.size w0 w4).mono B0.out.size)) g b HB.out
      obtain rfl : x = x' := Option.some.inj ex
      have hc34 : ∀ j v, (ac b)[j]? = some v → w4.cell? ((x.add (g * 6)).add j) = some v := fun j v hv => by rw [Go.Deep.add_add]; exact hc j v hv
      have BB := Lib.hid fun W => block9_any b W hokb
      clear hr h4 hp4 hc HP ex
      go_wp2_with (refine at_load34 _ rfl rfl _ _ rfl hc34 ?_)
      refine (BB.out _).mono ?_
      rintro e w5 ⟨rfl, hb⟩
      have I5 := Lib.hid (I4.out.below hb)
      have hbk2 := bk_in hokb
      have HP := Lib.hid (put_any (bk b).1 (bk b).2 (p + 1) T w5 I5.out.ty hbk2.1 hbk2.2 (by omega))
      clear hb hc34
      go_wp2_with fail
      refine HP.out.mono ?_
      rintro e w6 ⟨rfl, hr⟩
      obtain ⟨T', h6, hp6⟩ := I5.out.puty hr
      have I6 := Lib.hid h6
      have MT6 := Lib.hid (MT.out.put hp6 (bs := xs.drop (L - (q + 1))) (fun z => by
        have := drop_mem HB.out z
        rw [show L - (q + 1) = g by omega, show L - q = g + 1 by omega]
        exact this))
      have hlt6 := put_len hp6
      clear hr h6 hp6 HP
      go_wp2_with fail
      go_roundg g
      case measure => omega
      case rel => exact ⟨q + 1, by omega, by simp, S', T', I6.out, MS4.out, MT6.out, by omega, by omega⟩
end Go.Proofs.Ytbfkpapankgndaa
