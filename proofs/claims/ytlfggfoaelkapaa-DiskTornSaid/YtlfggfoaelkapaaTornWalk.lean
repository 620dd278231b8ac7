/-
  The walk of DiskTorn: called at any four numbers it returns true and changes nothing that was in memory. Conditions: the numbers are of their kinds.
-/
import Derived.Test.YtlfggfoaelkapaaAny
set_option linter.unusedSimpArgs false
namespace Go.Proofs.Ytlfggfoaelkapaa
open Go.RowKit

/-- The first m bytes of one, the rest of another. -/
def mix (m : Nat) (a b : Nat → Nat) : Nat → Nat := fun j => if j < m then a j else b j

theorem mix_lt {m : Nat} {a b : Nat → Nat} (ha : ∀ j, a j < 256) (hb : ∀ j, b j < 256) (j : Nat) : mix m a b j < 256 := by
  unfold mix
  split
  · exact ha j
  · exact hb j
theorem sec_lt (c j : Nat) : sec c j < 256 := by unfold sec; omega
/-- Some bytes of a sector, as a string's. -/
def bs (s : Nat → Nat) (o n : Nat) : ByteArray := ⟨((List.range n).map fun j => UInt8.ofNat (s (o + j))).toArray⟩
theorem bs_congr {s t : Nat → Nat} {o n : Nat} (h : ∀ j, j < n → s (o + j) = t (o + j)) : bs s o n = bs t o n := by
  unfold bs
  rw [List.map_congr_left fun j hj => by rw [h j (List.mem_range.1 hj)]]
theorem run_str64 {w : World} {b : Nat} {s : Nat → Nat} (h : w.rangeAt b 0 (sc s)) (hs : ∀ j, s j < 256) (o n cap : Nat) (hn : o + n ≤ 64) : (convert 48 9 (.slice (some ⟨b, o, none⟩) n cap)).run Try.prog w = .ok (.string (bs s o n)) w := by
  have := run_convert_bytes_back (P := Try.prog) w 48 9 5 ⟨b, o, none⟩ cap ((List.range n).map fun j => UInt8.ofNat (s (o + j))) Try.underlying48 Try.underlying5 Try.underlying9 (by
    intro j hj
    have hj' : j < n := by simpa using hj
    rw [Addr.add_mid, range_cell h (by omega)]
    have := hs (o + j)
    simp only [List.getElem_map, List.getElem_range]
    rw [show (UInt8.ofNat (s (o + j))).toNat = s (o + j) by simp; omega])
  rw [List.length_map, List.length_range] at this
  exact this
theorem there_other {w : World} {b o n x o' : Nat} {vs : List Value} (h : w.there b o n) (hx : b ≠ x) : (w.setCells x o' vs).there b o n := fun j hj => by
  have e := heap_setCells_other x vs o' w b hx
  rw [World.cell?_of_block e, World.frozen?_of_block e]
  exact h j hj
theorem range_other {w : World} {b o x o' : Nat} {us vs : List Value} (h : w.rangeAt b o us) (hx : b ≠ x) : (w.setCells x o' vs).rangeAt b o us := fun j v hv => by
  rw [World.cell?_of_block (heap_setCells_other x vs o' w b hx)]
  exact h j v hv

set_option maxRecDepth 100000 in
theorem diskTorn_walk (c again : Nat) (bytes : Int) (mask : Nat) (w : World) (hc : c < 256) (ha : again < 256) (hm : mask < 18446744073709551616) :
    Calls Try.prog 5 #[.int .u8 (c : Int), .int .u8 (again : Int), .int .i64 bytes, .int .u64 (mask : Int)] w fun e w' => e = .returned (.bool true) ∧ Below w.heap.size w w' := by
  obtain ⟨m, hmm⟩ : ∃ m : Nat, max 0 (min bytes 64) = (m : Int) := ⟨(max 0 (min bytes 64)).toNat, by omega⟩
  have hm64 : m ≤ 64 := by omega
  have CO := Lib.hid fun w => of_aux 1 1 (by decide) w
  have CS := Lib.hid fun (c : Nat) (h : c < 256) W => sector_any c h W
  go_enter Try.func5, Try.ntmps5
  go_wp2_with fail
  refine (awake_any _).mono ?_
  rintro e w0 ⟨rfl, b0⟩
  have B0 := Lib.hid b0
  clear b0
  go_wp2_with fail
  refine (CO.out _).mono ?_
  rintro e w1 ⟨p, k, rfl, h1, b1, hp, hk⟩
  have H1 := Lib.hid h1
  have B1 := Lib.hid (B0.out.trans (b1.mono B0.out.size))
  have F1 := Lib.hid (ft_new (Nat.le_trans B0.out.size hp) (Nat.le_trans B0.out.size hk))
  clear h1 b1 hp hk CO B0
  go_wp2_with fail
  refine (CS.out c hc _).mono ?_
  rintro e w2 ⟨rfl, b2⟩
  have H2 := Lib.hid (H1.out.below b2)
  have S2 := Lib.hid (Step.of_below b2 (ft p k (.slice none 0 0)))
  clear b2 H1
  go_wp2_with fail
  have C2 := Lib.hid (write_ok p k _ _ 0 (sec c) 0 w2 H2.out rfl (by decide) (by decide) rfl (by decide))
  refine (C2.out).mono ?_
  rintro e w3 ⟨rfl, pv3, h3, s3⟩
  have H3 : Hid (Ds w3 p k pv3 ⟨1, fun _ => zer, [(0, sec c)], 1, none, none, false⟩) := h3
  have S3 := Lib.hid (S2.out.trans s3)
  clear h3 s3 C2 H2 S2
  go_wp2_with fail
  have C3 := Lib.hid (flush_ok p k _ _ w3 H3.out rfl (show 1 + 1 < 1000000 by decide) rfl)
  refine (C3.out).mono ?_
  rintro e w4 ⟨rfl, h4, s4⟩
  have H4 : Hid (Ds w4 p k (.slice none 0 0) ⟨1, kpa (fun _ => 64) [(0, sec c)] (fun _ => zer) 1, [], 2, none, none, false⟩) := h4
  have S4 := Lib.hid (S3.out.trans s4)
  clear h4 s4 C3 H3 S3
  have K4 : Hid (∀ j, j < 64 → kpa (fun _ => 64) [(0, sec c)] (fun _ => zer) 1 0 j = sec c j) := fun j hj => by simp [kpa, ov, hj]
  generalize kpa (fun _ => 64) [(0, sec c)] (fun _ => zer) 1 = K1 at *
  go_wp2_with fail
  refine (CS.out again ha _).mono ?_
  rintro e w5 ⟨rfl, b5⟩
  have H5 := Lib.hid (H4.out.below b5)
  have S5 := Lib.hid (S4.out.trans (Step.of_below b5 (ft p k (.slice none 0 0))))
  clear b5 H4 S4
  go_wp2_with fail
  have C5 := Lib.hid (write_ok p k _ _ 0 (sec again) 0 w5 H5.out rfl (show 0 < 1 by decide) (show 2 + 1 < 1000000 by decide) rfl (by decide))
  refine (C5.out).mono ?_
  rintro e w6 ⟨rfl, pv6, h6, s6⟩
  have H6 : Hid (Ds w6 p k pv6 ⟨1, K1, [(0, sec again)], 3, none, none, false⟩) := h6
  have S6 := Lib.hid (S5.out.trans s6)
  clear h6 s6 C5 H5 S5
  go_wp2_with fail
  have C6 := Lib.hid (restart_any p k _ _ mask 0 bytes w6 H6.out hm)
  refine (C6.out).mono ?_
  rintro e w7 ⟨rfl, h7, s7⟩
  have H7 : Hid (Ds w7 p k (.slice none 0 0) ⟨1, kpa (amt mask 0 bytes) [(0, sec again)] K1 1, [], 3, none, none, false⟩) := h7
  have S7 := Lib.hid (S6.out.trans s7)
  have K7 : Hid (∀ j, j < 64 → kpa (amt mask 0 bytes) [(0, sec again)] K1 1 0 j = mix m (sec again) (sec c) j) := fun j hj => by
    have e : amt mask 0 bytes 0 = m := by simp [amt]; omega
    simp [kpa, ov, e, mix, K4.out j hj]
  generalize kpa (amt mask 0 bytes) [(0, sec again)] K1 1 = K2 at *
  have B7 := Lib.hid (B1.out.trans (S7.out.below B1.out.size F1.out))
  clear h7 s7 C6 H6 S6 S7 K4 B1 F1
  go_wp2_with fail
  have C7 := Lib.hid (read_ok p k _ _ 0 w7 H7.out rfl (show 0 < 1 by decide))
  rw [show lat ([] : List (Nat × (Nat → Nat))) 0 (K2 0) = K2 0 from rfl, sv_congr K7.out] at C7
  refine (C7.out).mono ?_
  rintro e w8 ⟨rfl, b8⟩
  have B8 := Lib.hid (B7.out.trans (b8.mono B7.out.size))
  clear H7 B7 C7 b8 K7
  generalize hs : mix m (sec again) (sec c) = s at *
  have HS := Lib.hid hs
  clear hs
  have T8 := thereZ w8
  go_upto_region 8 with (first | (with_reducible show wpList _ _ _ _ _ _; refine at_alloc38 rfl rfl ?_) | (with_reducible show wpList _ _ _ _ _ (w8.alloc Z64); refine at_store38 (.tmp 10) (.tmp 42) rfl rfl w8.heap.size 0 s (by simp [Act.eval, Act.put]) (by simp [Act.eval, Act.put]) T8 ?_))
  have B9 := Lib.hid (B8.out.trans ((stored_below w8 s).mono B8.out.size))
  have R9 := Lib.hid (stored_range w8 s)
  rw [show (w8.alloc Z64).setCells w8.heap.size 0 (sc s) = stored w8 s from rfl]
  generalize stored w8 s = w9 at *
  generalize w8.heap.size = X at *
  clear T8 B8
  go_wp2_with fail
  refine (CS.out again ha _).mono ?_
  rintro e wa ⟨rfl, ba⟩
  have BA := Lib.hid (B9.out.trans (ba.mono B9.out.size))
  have RA := Lib.hid (range_below R9.out ba)
  clear ba B9 R9
  go_wp2_with fail
  refine (CS.out c hc _).mono ?_
  rintro e wb ⟨rfl, bb⟩
  have BB := Lib.hid (BA.out.trans (bb.mono BA.out.size))
  have RB := Lib.hid (range_below RA.out bb)
  clear bb BA RA
  have TA : ((wb.alloc Z64).alloc Z64).there wb.heap.size 0 64 := rowIs_there ((rowZ wb).alloc Z64) (by omega)
  have TB : (((wb.alloc Z64).alloc Z64).setCells wb.heap.size 0 (sc (sec again))).there (wb.heap.size + 1) 0 64 :=
    there_other (rowIs_there (by have := rowZ (wb.alloc Z64); rwa [World.size_alloc] at this) (by omega)) (by omega)
  go_upto_region 10 with (first
    | (with_reducible show wpList _ _ _ _ _ _; refine at_alloc38 rfl rfl ?_)
    | (with_reducible show wpList _ _ _ _ _ (World.alloc _ _); refine at_store38 (.tmp 13) (.tmp 48) rfl rfl wb.heap.size 0 (sec again) (by simp [Act.eval, Act.put]) (by simp [Act.eval, Act.put]) TA ?_)
    | (with_reducible show wpList _ _ _ _ _ (World.setCells _ _ _ _); refine at_store38 (.tmp 14) (.tmp 50) rfl rfl (wb.heap.size + 1) 0 (sec c) (by simp [Act.eval, Act.put]) (by simp [Act.eval, Act.put]) TB ?_))
  simp only [Act.put, List.setIfInBounds_toArray, List.set_cons_zero, List.set_cons_succ, World.size_alloc]
  have BC := Lib.hid (below_setCells (wb.heap.size + 1) (sc (sec c)) 0 (below_setCells wb.heap.size (sc (sec again)) 0 (((Below.refl wb.heap.size wb).alloc (Nat.le_refl _) Z64).alloc (by simp) Z64) (Nat.le_refl _)) (Nat.le_succ _))
  have BD := Lib.hid (BB.out.trans (BC.out.mono BB.out.size))
  have RX := Lib.hid (range_below RB.out BC.out)
  have RY := Lib.hid (range_other (x := wb.heap.size + 1) (o' := 0) (vs := sc (sec c)) (World.rangeAt_setCells_same ((wb.alloc Z64).alloc Z64) wb.heap.size 0 (sc (sec again)) (by rw [sc_length]; exact TA)) (by omega))
  have RZ := Lib.hid (World.rangeAt_setCells_same (((wb.alloc Z64).alloc Z64).setCells wb.heap.size 0 (sc (sec again))) (wb.heap.size + 1) 0 (sc (sec c)) (by rw [sc_length]; exact TB))
  clear BC BB RB TA TB
  generalize (((wb.alloc Z64).alloc Z64).setCells wb.heap.size 0 (sc (sec again))).setCells (wb.heap.size + 1) 0 (sc (sec c)) = wd at *
  generalize wb.heap.size = N at *
  have hs := fun j => HS.out ▸ mix_lt (m := m) (sec_lt again) (sec_lt c) j
  have E1 : ∀ q cap, (convert 48 9 (.slice (some ⟨X, 0, none⟩) m cap)).run Try.prog (wd.drewN q) = .ok (.string (bs (sec again) 0 m)) (wd.drewN q) := fun q cap => by
    rw [run_str64 (w := wd.drewN q) (s := s) (fun j v hv => RX.out j v hv) hs 0 m cap (by omega), bs_congr fun j hj => ?_]
    rw [← HS.out, mix, if_pos (by omega)]
  have E2 : ∀ q cap, (convert 48 9 (.slice (some ⟨N, 0, none⟩) m cap)).run Try.prog (wd.drewN q) = .ok (.string (bs (sec again) 0 m)) (wd.drewN q) := fun q cap =>
    run_str64 (w := wd.drewN q) (fun j v hv => RY.out j v hv) (sec_lt again) 0 m cap (by omega)
  by_cases he : m = 64
  · subst he
    have E3 : ∀ q cap, (convert 48 9 (.slice (some ⟨X, 0, none⟩) 0 cap)).run Try.prog (wd.drewN q) = .ok (.string (bs zer 0 0)) (wd.drewN q) := fun q cap => by
      rw [run_str64 (w := wd.drewN q) (s := s) (fun j v hv => RX.out j v hv) hs 0 0 cap (by omega)]
      rfl
    have E4 : ∀ q cap, (convert 48 9 (.slice (some ⟨N + 1, 0, none⟩) 0 cap)).run Try.prog (wd.drewN q) = .ok (.string (bs zer 0 0)) (wd.drewN q) := fun q cap => by
      rw [run_str64 (w := wd.drewN q) (fun j v hv => RZ.out j v hv) (sec_lt c) 0 0 cap (by omega)]
      rfl
    clear hs
    go_quiet (fail)
    have B9 := Lib.hid (show Below w.heap.size w (wd.drewN nq) from ⟨BD.out.os, BD.out.tape, BD.out.output, BD.out.size, BD.out.block⟩)
    generalize wd.drewN nq = W at *
    go_wp2_with fail
    go_ret
    exact ⟨rfl, B9.out⟩
  · have E3 : ∀ q cap, (convert 48 9 (.slice (some ⟨X, m, none⟩) (64 - m) cap)).run Try.prog (wd.drewN q) = .ok (.string (bs (sec c) m (64 - m))) (wd.drewN q) := fun q cap => by
      rw [run_str64 (w := wd.drewN q) (s := s) (fun j v hv => RX.out j v hv) hs m (64 - m) cap (by omega), bs_congr fun j hj => ?_]
      rw [← HS.out, mix, if_neg (by omega)]
    have E4 : ∀ q cap, (convert 48 9 (.slice (some ⟨N + 1, m, none⟩) (64 - m) cap)).run Try.prog (wd.drewN q) = .ok (.string (bs (sec c) m (64 - m))) (wd.drewN q) := fun q cap =>
      run_str64 (w := wd.drewN q) (fun j v hv => RZ.out j v hv) (sec_lt c) m (64 - m) cap (by omega)
    have he' : ¬ 64 = m := fun h => he h.symm
    have hml : (m : Int) ≤ 64 := by omega
    clear hs
    go_quiet (fail)
    have B9 := Lib.hid (show Below w.heap.size w (wd.drewN nq) from ⟨BD.out.os, BD.out.tape, BD.out.output, BD.out.size, BD.out.block⟩)
    generalize wd.drewN nq = W at *
    go_wp2_with fail
    go_ret
    exact ⟨rfl, B9.out⟩
end Go.Proofs.Ytlfggfoaelkapaa
