/-
  The walk of MacAny: called at any text, number, place and byte it returns true and changes nothing that was in memory.
-/
import Derived.Test.YtncjleleeananaaAwake
import Derived.RegionTactic
import Derived.Deep.CutRange
namespace Go.Proofs.Ytncjleleeananaa
open Go.RowKit

/-- What '[]byte(s)' makes: a row of the call's own that holds the bytes. -/
theorem run_bytes17 (l : List Int) (hl : Byt l) (h17 : l.length = 17) (w : World) : ∃ (cap : Nat) (W : World), (convert 9 30 (.string (strOf l))).run Try.prog w = .ok (.slice (some ⟨w.heap.size, 0, none⟩) 17 cap) W ∧ 17 ≤ cap ∧ w.heap.size < W.heap.size ∧ Below w.heap.size w W ∧
    ∀ j, j < 17 → W.cell? ⟨w.heap.size, j, none⟩ = (cellsOf l)[j]? ∧ W.frozen? ⟨w.heap.size, j, none⟩ = false := by
  have hs : (strOf l).size = 17 := by rw [str_size, h17]
  have hr := run_bytes_of_string (P := Try.prog) w 9 30 5 (strOf l) Try.underlying9 Try.underlying30 Try.underlying5
  have hcap := grownCap_ge w (strOf l).size 0 5
  generalize grownCap w (strOf l).size 0 5 = cap at hr hcap
  rw [hs] at hr hcap
  refine ⟨cap, _, hr, hcap, by simp, (Below.refl _ _).drew.alloc (by simp) _, fun j hj => ?_⟩
  have hd : (strOf l).data.size = 17 := hs
  have e1 := World.cell?_alloc_mark w.drew (bytesRow (strOf l) cap) 5 ((bytesRow (strOf l) cap).size, (bytesRow (strOf l) cap).size + 1) j
  have e2 := World.frozen?_alloc_mark w.drew (bytesRow (strOf l) cap) 5 (bytesRow (strOf l) cap).size ((bytesRow (strOf l) cap).size + 1) j
  constructor
  · refine e1.trans ?_
    rw [bytesRow_at (strOf l) cap j (by rw [hd]; exact hj)]
    have hj' : j < l.length := by omega
    have hb := hl l[j] (List.getElem_mem hj')
    simp [cellsOf, strOf, hj']
    omega
  · refine e2.trans ?_
    have hz : j < (bytesRow (strOf l) cap).size := by
      unfold bytesRow
      simp only [Array.size_append, Array.size_map, hd]
      omega
    simp only [Bool.and_eq_false_iff, decide_eq_false_iff_not]
    left
    omega

theorem cells_set (l : List Int) (h17 : l.length = 17) (W : World) (G r : Nat) (c : Int) (hr : r < 17) (h : ∀ j, j < 17 → W.cell? ⟨G, j, none⟩ = (cellsOf l)[j]?) :
    ∀ j, j < 17 → (W.setCell ⟨G, r, none⟩ (.int .u8 c)).cell? ⟨G, j, none⟩ = (cellsOf (l.set r c))[j]? := by
  intro j hj
  by_cases e : j = r
  · subst e
    rw [World.cell?_setCell_same' W ⟨G, j, none⟩ (.int .u8 c) (by rw [h j hj]; simp [cellsOf, h17, hj])]
    simp [cellsOf, h17, hj]
  · rw [World.cell?_setCell_other W ⟨G, r, none⟩ ⟨G, j, none⟩ (.int .u8 c) (by intro q; injection q with _ q; exact e q.symm), h j hj]
    simp only [cellsOf, List.getElem?_map]
    rw [List.getElem?_set_ne (by omega)]
/-- What 'string(t)' and 'string(t[:16])' make: some texts. -/
theorem run_two (l : List Int) (hl : Byt l) (h17 : l.length = 17) (W : World) (G cap : Nat) (h : ∀ j, j < 17 → W.cell? ⟨G, j, none⟩ = (cellsOf l)[j]?) :
    ∃ x1 x2 : ByteArray, (convert 30 9 (.slice (some ⟨G, 0, none⟩) 17 cap)).run Try.prog W = .ok (.string x1) W ∧ (convert 30 9 (.slice (some ⟨G, 0, none⟩) 16 cap)).run Try.prog W = .ok (.string x2) W := by
  refine ⟨strOf l, strOf (l.take 16), run_str l hl 17 G cap h17 W h, run_str (l.take 16) (fun n hn => hl n (List.mem_of_mem_take hn)) 16 G cap (by rw [List.length_take]; omega) W (fun j hj => ?_)⟩
  rw [h j (by omega)]
  simp only [cellsOf, List.getElem?_map]
  rw [List.getElem?_take_of_lt hj]
theorem byt_set {l : List Int} (hl : Byt l) (r : Nat) (c : Int) (h0 : 0 ≤ c) (h1 : c < 256) : Byt (l.set r c) := by
  intro n hn
  rcases List.mem_or_eq_of_mem_set hn with h | h
  · exact hl n h
  · rw [h]; exact ⟨h0, h1⟩

/-- Whether a text may be a number's, by its length and its first separator. -/
def firstB (x : ByteArray) : Bool := decide (x.size = 17 ∧ (at_ x 2 = 58 ∨ at_ x 2 = 45))
/-- Whether the byte at a place is right. -/
def placeB (x : ByteArray) (i : Nat) : Bool := decide (i % 3 = 2 ∧ at_ x i = at_ x 2 ∨ i % 3 < 2 ∧ digB (at_ x i) = true)
/-- Whether all is right ahead of place j. -/
def wantTo (x : ByteArray) (j : Nat) : Bool := firstB x && (List.range j).all (placeB x)
theorem want_succ (x : ByteArray) (j : Nat) : wantTo x (j + 1) = (wantTo x j && placeB x j) := by
  unfold wantTo
  rw [List.range_succ, List.all_append]
  simp [Bool.and_assoc]
theorem want_zero (x : ByteArray) : wantTo x 0 = firstB x := by simp [wantTo]
theorem want_ok (x : ByteArray) : wantTo x 17 = okB x := by
  unfold wantTo okB firstB sepB
  rw [Bool.eq_iff_iff]
  simp only [Bool.and_eq_true, decide_eq_true_eq, List.all_eq_true, List.mem_range, placeB]
  constructor
  · rintro ⟨⟨h1, h2⟩, h3⟩
    refine ⟨⟨h1, h2, fun i hi hm => ?_⟩, fun i hi hm => ?_⟩
    · rcases h3 i hi with h | h
      · exact h.2
      · omega
    · rcases h3 i hi with h | h
      · omega
      · exact h.2
  · rintro ⟨⟨h1, h2, h3⟩, h4⟩
    refine ⟨⟨h1, h2⟩, fun i hi => ?_⟩
    rcases (show i % 3 = 2 ∨ i % 3 < 2 by omega) with h | h
    · exact .inl ⟨h, h3 i hi h⟩
    · exact .inr ⟨h, h4 i hi h⟩
theorem want_no (x : ByteArray) (j : Nat) (hj : j ≤ 17) (h : wantTo x j = false) : okB x = false := by
  rw [← want_ok]
  cases e : wantTo x 17
  · rfl
  · rw [← h]
    unfold wantTo at e ⊢
    rw [Bool.and_eq_true] at e
    rw [e.1, Bool.true_and]
    rw [List.all_eq_true] at e
    symm
    rw [List.all_eq_true]
    intro i hi
    exact e.2 i (by rw [List.mem_range] at hi ⊢; omega)

/-- What Parse returns, field by field. -/
def pv (x : ByteArray) (i : Nat) : Int := if okB x then mb x i else 0
theorem parse_gen (x : ByteArray) (w : World) :
    Calls Try.prog 10 #[.string x] w fun e w' => e = .returned (.tuple #[.agg #[.int .u8 (pv x 0), .int .u8 (pv x 1), .int .u8 (pv x 2), .int .u8 (pv x 3), .int .u8 (pv x 4), .int .u8 (pv x 5)], .bool (okB x)]) ∧ Below w.heap.size w w' := by
  cases h : okB x
  · simp only [pv, h]
    exact parse_no x w h
  · simp only [pv, h]
    exact parse_yes x w h

theorem dig_iff (v : Int) : digB v = true ↔ (48 ≤ v ∧ v ≤ 57) ∨ (97 ≤ v ∧ v ≤ 102) ∨ (65 ≤ v ∧ v ≤ 70) := by
  unfold digB digO
  by_cases a1 : 48 ≤ v ∧ v ≤ 57
  · rw [if_pos a1]; simp; omega
  · rw [if_neg a1]
    by_cases a2 : 65 ≤ v ∧ v ≤ 70
    · rw [if_pos a2]; simp; omega
    · rw [if_neg a2]
      by_cases a3 : 97 ≤ v ∧ v ≤ 102
      · rw [if_pos a3]; simp; omega
      · rw [if_neg a3]; simp; omega

set_option maxRecDepth 100000 in
set_option maxHeartbeats 40000000 in
theorem macAny_walk (s : ByteArray) (b0 b1 b2 b3 b4 b5 n c : Int) (w : World) (_hs : s.size ≤ maxLen) (h : Six b0 b1 b2 b3 b4 b5) (hn0 : 0 ≤ n) (hn1 : n < 256) (hc0 : 0 ≤ c) (hc1 : c < 256) :
    Calls Try.prog 4 #[.string s, .agg #[.int .u8 b0, .int .u8 b1, .int .u8 b2, .int .u8 b3, .int .u8 b4, .int .u8 b5], .int .u8 n, .int .u8 c] w fun e w' => e = .returned (.bool true) ∧ Below w.heap.size w w' := by
  have HT := Lib.hid fun W => text_six b0 b1 b2 b3 b4 b5 W h
  have HY := Lib.hid (byt_txg 58 (fun _ => false) [b0, b1, b2, b3, b4, b5] (by omega) h.getD 6)
  have HC := Lib.hid (run_bytes17 (txg 58 (fun _ => false) [b0, b1, b2, b3, b4, b5] 6) HY.out rfl)
  clear h
  go_enter Try.func4, Try.ntmps4
  go_wp2_with fail
  refine (awake_any _).mono ?_
  rintro e w1 ⟨rfl, hb⟩
  have HB := Lib.hid (show Below w.heap.size w w1 from ((Below.refl _ w).alloc (Nat.le_refl _) _).trans (hb.mono (by simp)))
  obtain ⟨hc, hf⟩ := bcell hb
  clear hb
  go_wp2_with fail
  refine (HT.out _).mono ?_
  rintro e w2 ⟨rfl, hb⟩
  have HB2 := Lib.hid (bthen HB.out hb)
  clear hb hc hf
  obtain ⟨cap, W3, hcv, hcap, hz3, hb3, hcell⟩ := HC.out w2
  have HB3 := Lib.hid (bthen HB2.out hb3)
  have HCL := Lib.hid hcell
  obtain ⟨r, hr, hr17⟩ : ∃ r : Nat, n % 17 = (r : Int) ∧ r < 17 := ⟨(n % 17).toNat, by omega, by omega⟩
  obtain ⟨u, hu⟩ : ∃ u, W3.cell? ⟨w2.heap.size, r, none⟩ = some u := by
    rw [(hcell r hr17).1]
    exact ⟨_, List.getElem?_eq_getElem (show r < (cellsOf (txg 58 (fun _ => false) [b0, b1, b2, b3, b4, b5] 6)).length from hr17)⟩
  have hfz := (hcell r hr17).2
  clear hb3 hcell
  go_wp2_with fail
  have hz2 : w2.heap.size < (W3.setCell ⟨w2.heap.size, r, none⟩ (.int .u8 c)).heap.size := by simpa [World.setCell] using hz3
  obtain ⟨x1, x2, hx1, hx2⟩ := run_two ((txg 58 (fun _ => false) [b0, b1, b2, b3, b4, b5] 6).set r c) (byt_set HY.out r c hc0 hc1) (by rw [List.length_set]; rfl) (W3.setCell ⟨w2.heap.size, r, none⟩ (.int .u8 c)).drew w2.heap.size cap
    (cells_set (txg 58 (fun _ => false) [b0, b1, b2, b3, b4, b5] 6) rfl W3 w2.heap.size r c hr17 (fun j hj => (HCL.out j hj).1))
  have HB4 := Lib.hid (show Below w.heap.size w (W3.setCell ⟨w2.heap.size, r, none⟩ (.int .u8 c)) from HB3.out.setCell HB2.out.size _)
  clear hu hfz hcv HCL HC HT HY HB HB2 HB3 hz3 hr
  generalize W3.setCell ⟨w2.heap.size, r, none⟩ (.int .u8 c) = W4 at *
  generalize strOf (txg 58 (fun _ => false) [b0, b1, b2, b3, b4, b5] 6) = T at *
  have hcap16 : 16 ≤ cap := by omega
  have hcap16' : (16 : Int) ≤ (cap : Int) := by omega
  go_region
  have HB5 := Lib.hid (show Below w.heap.size w (W4.alloc (.cells #[.string s, .string x1, .string x2] 9)).drew from (HB4.out.alloc HB4.out.size _).drew)
  have HX : Hid (∀ k, k < 3 → ∃ x, (W4.alloc (.cells #[.string s, .string x1, .string x2] 9)).drew.cell? ⟨W4.heap.size, k, none⟩ = some (.string x)) := by
    intro k hk
    rcases (show k = 0 ∨ k = 1 ∨ k = 2 by omega) with rfl | rfl | rfl
    · exact ⟨s, by go_simp⟩
    · exact ⟨x1, by go_simp⟩
    · exact ⟨x2, by go_simp⟩
  have HZ := Lib.hid (show W4.heap.size < (W4.alloc (.cells #[.string s, .string x1, .string x2] 9)).drew.heap.size by simp)
  clear hx1 hx2 hcap16 hcap16' hz2 HB4
  go_wp2_with fail
  generalize (W4.alloc (.cells #[.string s, .string x1, .string x2] 9)).drew = W5 at *
  go_loopw [38] (fun i wr => ∃ k : Nat, k ≤ 3 ∧ i = .int .i64 k ∧ Below W5.heap.size W5 wr) (fun i _ => 3 - (intOf i).toNat)
  case atStart => exact ⟨0, by omega, rfl, Below.refl _ _⟩
  case round =>
    have he := fun W => run_eq6 0 0 0 0 0 0 0 0 0 0 0 0 W
    rw [show eq6 0 0 0 0 0 0 0 0 0 0 0 0 = true from rfl] at he
    obtain ⟨k, hk, rfl, hB⟩ := hrel
    have HR := Lib.hid hB
    by_cases hlt : k < 3
    · obtain ⟨x, hx0⟩ := HX.out k hlt
      have hx : wr.cell? ⟨W4.heap.size, k, none⟩ = some (.string x) := (hB.cell (p := ⟨W4.heap.size, k, none⟩) HZ.out).trans hx0
      have HP := Lib.hid fun W => parse_gen x W
      have HN := Lib.hid (show okB x = false → pv x 0 = 0 ∧ pv x 1 = 0 ∧ pv x 2 = 0 ∧ pv x 3 = 0 ∧ pv x 4 = 0 ∧ pv x 5 = 0 from fun h => by simp [pv, h])
      have HO := Lib.hid (want_ok x)
      have HNo := Lib.hid (want_no x)
      generalize okB x = o at *
      generalize pv x 0 = n0 at *
      generalize pv x 1 = n1 at *
      generalize pv x 2 = n2 at *
      generalize pv x 3 = n3 at *
      generalize pv x 4 = n4 at *
      generalize pv x 5 = n5 at *
      clear hx0 hB
      by_cases h17 : x.size = 17
      · have hs1 : x.size ≤ 17 := by omega
        have hs2 : 17 ≤ x.size := by omega
        have hp2 : 2 < x.size := by omega
        have hg2 := at_get x 2 hp2
        by_cases hfirst : at_ x 2 = 58 ∨ at_ x 2 = 45
        · have HW0 := Lib.hid (show wantTo x 0 = true by rw [want_zero]; simp [firstB, h17, hfirst])
          have t17 : ((x.size : Int) == 17) = true := by simp; omega
          obtain ⟨t1, ht1⟩ : ∃ t, ((x[2].toNat : Int) == 58) = t := ⟨_, rfl⟩
          have t2 : t1 = false → ((x[2].toNat : Int) == 45) = true := by
            intro e; subst e
            rw [hg2] at ht1 ⊢
            simp at ht1 ⊢
            omega
          have HG2 := Lib.hid hg2
          clear hfirst hg2 h17
          go_upto_region 11 with (go_at_call 10; refine (HP.out _).mono ?_; rintro e w6 ⟨rfl, hb⟩; have HB6 := Lib.hid (bthen HR.out hb); clear hb)
          have ng0 : (w6.alloc (.cells #[.int .u8 n0, .int .u8 n1, .int .u8 n2, .int .u8 n3, .int .u8 n4, .int .u8 n5] 23)).cell? ⟨w6.heap.size, 0, none⟩ = some (.int .u8 n0) := by go_simp
          have ng1 : (w6.alloc (.cells #[.int .u8 n0, .int .u8 n1, .int .u8 n2, .int .u8 n3, .int .u8 n4, .int .u8 n5] 23)).cell? ⟨w6.heap.size, 1, none⟩ = some (.int .u8 n1) := by go_simp
          have ng2 : (w6.alloc (.cells #[.int .u8 n0, .int .u8 n1, .int .u8 n2, .int .u8 n3, .int .u8 n4, .int .u8 n5] 23)).cell? ⟨w6.heap.size, 2, none⟩ = some (.int .u8 n2) := by go_simp
          have ng3 : (w6.alloc (.cells #[.int .u8 n0, .int .u8 n1, .int .u8 n2, .int .u8 n3, .int .u8 n4, .int .u8 n5] 23)).cell? ⟨w6.heap.size, 3, none⟩ = some (.int .u8 n3) := by go_simp
          have ng4 : (w6.alloc (.cells #[.int .u8 n0, .int .u8 n1, .int .u8 n2, .int .u8 n3, .int .u8 n4, .int .u8 n5] 23)).cell? ⟨w6.heap.size, 4, none⟩ = some (.int .u8 n4) := by go_simp
          have ng5 : (w6.alloc (.cells #[.int .u8 n0, .int .u8 n1, .int .u8 n2, .int .u8 n3, .int .u8 n4, .int .u8 n5] 23)).cell? ⟨w6.heap.size, 5, none⟩ = some (.int .u8 n5) := by go_simp
          have HB7 := Lib.hid (bnew HB6.out (.cells #[.int .u8 n0, .int .u8 n1, .int .u8 n2, .int .u8 n3, .int .u8 n4, .int .u8 n5] 23))
          generalize w6.alloc (.cells #[.int .u8 n0, .int .u8 n1, .int .u8 n2, .int .u8 n3, .int .u8 n4, .int .u8 n5] 23) = W6 at *
          clear hx HP
          go_cut [14] from 39 to 132 (fun v wc => v = .bool true ∧ W6 = wc)
          case first =>
            cases t1
            · have t3 := t2 rfl
              go_wp2_with fail
              go_meet
              case rel => exact ⟨rfl, rfl⟩
            · clear t2
              go_wp2_with fail
              go_meet
              case rel => exact ⟨rfl, rfl⟩
          clear t2 ht1
          obtain ⟨rfl, rfl⟩ := hcut
          go_wp2_with fail
          go_loopw [14, 15] (fun v i wq => ∃ j m : Nat, j ≤ 17 ∧ i = .int .i64 j ∧ v = .bool (wantTo x j) ∧ wq = W6.drewN m) (fun _ i _ => 17 - (intOf i).toNat)
          case atStart => exact ⟨0, 0, by omega, rfl, by rw [HW0.out], rfl⟩
          case round =>
            obtain ⟨j, m, hj, rfl, rfl, rfl⟩ := hrel
            have HS := Lib.hid (want_succ x j)
            have HF := Lib.hid (HNo.out j hj)
            obtain ⟨v, hv⟩ : ∃ v, wantTo x j = v := ⟨_, rfl⟩
            rw [hv] at HS HF ⊢
            by_cases hlt2 : j < 17
            · cases v
              · obtain rfl := HF.out rfl
                obtain ⟨rfl, rfl, rfl, rfl, rfl, rfl⟩ := HN.out rfl
                clear hv HO
                go_wp2_with fail
                go_roundw
                case measure => simp [intOf]; omega
                case rel => exact ⟨k + 1, by omega, by go_num, bdrewN HB7.out m⟩
              · have hjx : j < x.size := by omega
                have hji : (j : Int) < (x.size : Int) := by omega
                have h2i : (2 : Int) < (x.size : Int) := by omega
                have hgj := at_get x j hjx
                have HPl := Lib.hid (show wantTo x (j + 1) = placeB x j by rw [HS.out, Bool.true_and])
                clear hv HS HF HO HN HNo
                go_upto_region 15 with (fail)
                go_cut [16] from 60 to 119 (fun s16 wc => s16 = .bool (digB (at_ x j)) ∧ wc = W6.drewN m)
                case first =>
                  go_wp2_with fail
                  all_goals go_meet
                  all_goals
                    refine ⟨congrArg Value.bool ?_, rfl⟩
                    rw [Bool.eq_iff_iff, dig_iff]
                    simp only [Bool.or_eq_true, decide_eq_true_eq, true_iff, Bool.false_eq_true, false_iff]
                    omega
                case rest =>
                  obtain ⟨rfl, rfl⟩ := hcut
                  rcases (show (j % 3 = 2 ∧ at_ x j = at_ x 2) ∨ (j % 3 = 2 ∧ ¬ at_ x j = at_ x 2) ∨ j % 3 = 0 ∨ j % 3 = 1 by omega) with ⟨hm, hq⟩ | ⟨hm, hq⟩ | hm | hm
                  · have et : ((x[j].toNat : Int) == (x[2].toNat : Int)) = true := by rw [hgj, HG2.out, hq]; simp
                    have HV := Lib.hid (show placeB x j = true by simp [placeB, hm, hq])
                    have em : (j : Int).tmod 3 = 2 := by rw [Int.tmod_eq_emod_of_nonneg (by omega)]; omega
                    have em2 : (j : Int) % 3 = 2 := by omega
                    have ew : IntKind.i64.wrap 2 = 2 := rfl
                    clear hq hm
                    generalize digB (at_ x j) = D at *
                    clear hgj HG2
                    go_wp2_with fail
                    go_quiet (fail)
                    go_wp2_with fail
                    go_roundw
                    case measure => simp [intOf]; omega
                    case rel => first | exact ⟨j + 1, _, by omega, by go_num, by rw [HPl.out, HV.out], rfl⟩ | ((repeat apply Exists.intro); exact ⟨⟨j + 1, _, by omega, by go_num, by rw [HPl.out, HV.out], rfl⟩, rfl⟩)
                  · have et : ((x[j].toNat : Int) == (x[2].toNat : Int)) = false := by rw [hgj, HG2.out]; simpa using hq
                    have HV := Lib.hid (show placeB x j = false by simp [placeB, hm, hq])
                    have em : (j : Int).tmod 3 = 2 := by rw [Int.tmod_eq_emod_of_nonneg (by omega)]; omega
                    have em2 : (j : Int) % 3 = 2 := by omega
                    have ew : IntKind.i64.wrap 2 = 2 := rfl
                    clear hq hm
                    generalize digB (at_ x j) = D at *
                    clear hgj HG2
                    go_wp2_with fail
                    go_quiet (fail)
                    go_wp2_with fail
                    go_roundw
                    case measure => simp [intOf]; omega
                    case rel => first | exact ⟨j + 1, _, by omega, by go_num, by rw [HPl.out, HV.out], rfl⟩ | ((repeat apply Exists.intro); exact ⟨⟨j + 1, _, by omega, by go_num, by rw [HPl.out, HV.out], rfl⟩, rfl⟩)
                  · have HV := Lib.hid (show placeB x j = digB (at_ x j) by simp [placeB, hm])
                    have em : (j : Int).tmod 3 = 0 := by rw [Int.tmod_eq_emod_of_nonneg (by omega)]; omega
                    have em2 : (j : Int) % 3 = 0 := by omega
                    have ew : IntKind.i64.wrap 0 = 0 := rfl
                    clear hm
                    generalize digB (at_ x j) = D at *
                    clear hgj HG2
                    go_wp2_with fail
                    go_quiet (fail)
                    go_wp2_with fail
                    go_roundw
                    case measure => simp [intOf]; omega
                    case rel => first | exact ⟨j + 1, _, by omega, by go_num, by rw [HPl.out, HV.out], rfl⟩ | ((repeat apply Exists.intro); exact ⟨⟨j + 1, _, by omega, by go_num, by rw [HPl.out, HV.out], rfl⟩, rfl⟩)
                  · have HV := Lib.hid (show placeB x j = digB (at_ x j) by simp [placeB, hm])
                    have em : (j : Int).tmod 3 = 1 := by rw [Int.tmod_eq_emod_of_nonneg (by omega)]; omega
                    have em2 : (j : Int) % 3 = 1 := by omega
                    have ew : IntKind.i64.wrap 1 = 1 := rfl
                    clear hm
                    generalize digB (at_ x j) = D at *
                    clear hgj HG2
                    go_wp2_with fail
                    go_quiet (fail)
                    go_wp2_with fail
                    go_roundw
                    case measure => simp [intOf]; omega
                    case rel => first | exact ⟨j + 1, _, by omega, by go_num, by rw [HPl.out, HV.out], rfl⟩ | ((repeat apply Exists.intro); exact ⟨⟨j + 1, _, by omega, by go_num, by rw [HPl.out, HV.out], rfl⟩, rfl⟩)
            · have hj17 : j = 17 := by omega
              subst hj17
              rw [HO.out] at hv
              subst hv
              cases o
              · obtain ⟨rfl, rfl, rfl, rfl, rfl, rfl⟩ := HN.out rfl
                clear HO
                go_wp2_with fail
                go_roundw
                case measure => simp [intOf]; omega
                case rel => exact ⟨k + 1, by omega, by go_num, bdrewN HB7.out m⟩
              · clear HO
                go_wp2_with fail
                go_roundw
                case measure => simp [intOf]; omega
                case rel => exact ⟨k + 1, by omega, by go_num, bdrewN HB7.out m⟩
        · have t1 : ((x[2].toNat : Int) == 58) = false := by rw [hg2]; simp; omega
          have t2 : ((x[2].toNat : Int) == 45) = false := by rw [hg2]; simp; omega
          have t17 : ((x.size : Int) == 17) = true := by simp; omega
          have HF := Lib.hid (HNo.out 0 (by omega) (by rw [want_zero]; simp [firstB, hfirst]))
          obtain rfl := HF.out
          obtain ⟨rfl, rfl, rfl, rfl, rfl, rfl⟩ := HN.out rfl
          clear h17 HO hfirst hg2
          go_wp2_with fail
          refine (HP.out _).mono ?_
          rintro e w6 ⟨rfl, hb⟩
          have HB6 := Lib.hid (bthen HR.out hb)
          clear hb
          go_wp2_with fail
          refine wp_loop_rounds 1 ?_
          rw [rounds_succ]
          go_wp2_with fail
          go_roundw
          case measure => simp [intOf]; omega
          case rel => exact ⟨k + 1, by omega, by go_num, bnew HB6.out _⟩
      · have t1 : ((x.size : Int) == 17) = false := by simp; omega
        have HF := Lib.hid (HNo.out 0 (by omega) (by rw [want_zero]; simp [firstB, h17]))
        obtain rfl := HF.out
        obtain ⟨rfl, rfl, rfl, rfl, rfl, rfl⟩ := HN.out rfl
        clear h17 HO
        go_wp2_with fail
        refine (HP.out _).mono ?_
        rintro e w6 ⟨rfl, hb⟩
        have HB6 := Lib.hid (bthen HR.out hb)
        clear hb
        go_wp2_with fail
        refine wp_loop_rounds 1 ?_
        rw [rounds_succ]
        go_wp2_with fail
        go_roundw
        case measure => simp [intOf]; omega
        case rel => exact ⟨k + 1, by omega, by go_num, bnew HB6.out _⟩
    · go_wp2_with fail
      go_ret
      exact ⟨rfl, bthen HB5.out HR.out⟩
end Go.Proofs.Ytncjleleeananaa
