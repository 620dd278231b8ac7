/-
  DiskScript's second half of a round: what a disk gives of a sector is what the account gives. Conditions: as the theorem says.
-/
import Derived.Test.YtlfggfoaelkapaaSwTest
set_option linter.unusedSimpArgs false
set_option linter.unusedVariables false
namespace Go.Proofs.Ytlfggfoaelkapaa
open Go.RowKit

/-- Two sectors of the account's own, beside it and the disk. -/
structure Yv (w0 w : World) (p k : Nat) (pv : Value) (k2 sb fb cb db : Nat) (v : Value) (X Y : Nat) (s t : Nat → Nat) : Prop where
  lt : Y < w.heap.size
  nf : ¬ ft p k pv Y
  ng : ¬ gt k2 sb fb cb db v Y
  ge : w0.heap.size ≤ Y
  ne : X ≠ Y
  rx : w.rangeAt X 0 (sc s)
  ry : w.rangeAt Y 0 (sc t)
  th : w.there Y 0 64
theorem Yv.below {w0 w w' : World} {p k : Nat} {pv : Value} {k2 sb fb cb db : Nat} {v : Value} {X Y : Nat} {s t : Nat → Nat} (h : Yv w0 w p k pv k2 sb fb cb db v X Y s t) (hb : Below w.heap.size w w') : Yv w0 w' p k pv k2 sb fb cb db v X Y s t :=
  ⟨Nat.lt_of_lt_of_le h.lt hb.size, h.nf, h.ng, h.ge, h.ne, range_below h.rx hb, range_below h.ry hb, there_of_block h.th (hb.block Y h.lt)⟩
theorem range_other' {w : World} {b o x o' : Nat} {us vs : List Value} (h : w.rangeAt b o us) (hx : b ≠ x) : (w.setCells x o' vs).rangeAt b o us := fun j v hv => by
  rw [World.cell?_of_block (heap_setCells_other x vs o' w b hx)]
  exact h j v hv
theorem Yv.put {w0 w : World} {p k : Nat} {pv : Value} {k2 sb fb cb db : Nat} {v : Value} {X Y : Nat} {s t : Nat → Nat} (h : Yv w0 w p k pv k2 sb fb cb db v X Y s t) (t' : Nat → Nat) : Yv w0 (w.setCells Y 0 (sc t')) p k pv k2 sb fb cb db v X Y s t' :=
  ⟨by rw [size_setCells]; exact h.lt, h.nf, h.ng, h.ge, h.ne, range_other' h.rx h.ne, World.rangeAt_setCells_same w Y 0 (sc t') (by rw [sc_length]; exact h.th), World.there_setCells h.th _ _ _⟩

set_option maxRecDepth 100000 in
set_option maxHeartbeats 4000000 in
theorem rest_wp (w wa : World) (p k : Nat) (pv : Value) (k2 sb fb cb db : Nat) (A8 : Option Addr) (cp8 : Nat) (M : Dk) (nn q Ab : Nat) (atv r : Int) (inn : Bool)
    (I : Hid (Inv w wa p k pv k2 sb fb cb db (.slice A8 M.pend.length cp8) M M)) (hn : M.n = nn) (hn40 : nn < 40) (hat1 : -50 < atv) (hat2 : atv < 50) (HIN : Hid (decide (0 ≤ atv ∧ atv < (nn : Int)) = inn))
    (c0 c1 c2 c3 c4 c14 c20 c21 c22 c23 c24 c25 c26 c27 c28 c29 c30 c31 c32 c33 c34 c35 c36 c37 c38 c39 c40 c41 c42 c43 c44 c45 c46 c47 c48 c49 c50 c51 c52 c53 c54 c55 c56 c57 c58 c59 c60 c61 c62 c63 c64 c65 c66 c67 c68 c69 c70 c71 c72 c73 c74 c75 c76 c77 c78 c79 c80 c81 c82 c83 c84 c85 c86 c87 c88 c89 c90 c91 c92 c93 c94 c95 c96 c97 c98 c99 c100 c101 c102 c103 c104 c105 c106 c107 c108 c109 c110 c111 c112 c113 c114 c115 c116 c117 c118 c119 c120 c121 c122 c123 c124 c125 c126 c127 c128 c129 c130 c131 c132 c133 c134 c135 c136 c137 c138 c139 c140 c141 c142 c143 c144 c145 c146 c147 c148 c149 c150 c151 c152 c153 c154 c155 c156 c157 c158 c159 c160 c161 c162 c163 c164 c165 c166 c167 c168 c169 c170 c171 c172 c173 c174 c175 c176 c177 c178 c179 c180 c181 c182 c183 c184 c185 c186 c187 c188 c189 c190 c191 c192 c193 c194 c195 c196 c197 c198 c199 c200 c201 c202 c203 c204 c205 c206 c207 c208 c209 c210 c211 c212 c213 c214 c215 c216 c217 c218 c219 c220 c221 c222 c223 c224 c225 c226 c227 c228 c229 c230 c231 c232 c233 c234 c235 c236 c237 c238 c239 c240 c241 c242 c243 c244 c245 c246 c247 c248 : Value) (Q : Exit → Act → World → Prop)
    (HQ : Hid (∀ (w' : World) (d25 d26 d27 d28 d30 d184 d185 d186 d187 d188 d189 d190 d191 d192 d193 d194 d195 d196 d197 d198 d199 d200 d201 d202 d203 d204 d205 d206 d207 d208 d209 d210 d211 d212 d213 d214 d215 d216 d217 d218 d219 d220 d221 d222 d223 d224 d225 d226 d227 d228 d229 d230 d231 d232 d233 d234 d235 d236 d237 d238 d239 d240 d241 d242 d243 d244 d245 d246 d247 : Value), Inv w w' p k pv k2 sb fb cb db (.slice A8 M.pend.length cp8) M M → Q .normal ⟨#[c0, c1, c2, c3, c4, .int .i64 (nn : Int), .pointer (some ⟨p, 0, none⟩), .slice (some ⟨k2, 0, none⟩) nn nn, .slice A8 M.pend.length cp8, .pointer (some ⟨sb, 0, none⟩), .pointer (some ⟨fb, 0, none⟩), .pointer (some ⟨cb, 0, none⟩), .pointer (some ⟨db, 0, none⟩), .func (.func 12) #[] #[.pointer (some ⟨cb, 0, none⟩), .pointer (some ⟨fb, 0, none⟩), .pointer (some ⟨sb, 0, none⟩), .pointer (some ⟨db, 0, none⟩)], c14, .pointer (some ⟨Ab, 0, none⟩), .int .i64 atv, .bool inn, .int .i64 r, .int .i64 r, c20, c21, c22, c23, c24, d25, d26, d27, d28, c29, d30, c31, c32, c33, c34, c35, c36, c37, c38, c39, c40, c41, c42, c43, c44, c45, c46, c47, c48, c49, c50, c51, c52, c53, c54, c55, c56, c57, c58, c59, c60, c61, c62, c63, c64, c65, c66, c67, c68, c69, c70, c71, c72, c73, c74, c75, c76, c77, c78, c79, c80, c81, c82, c83, c84, c85, c86, c87, c88, c89, c90, c91, c92, c93, c94, c95, c96, c97, c98, c99, c100, c101, c102, c103, c104, c105, c106, c107, c108, c109, c110, c111, c112, c113, c114, c115, c116, c117, c118, c119, c120, c121, c122, c123, c124, c125, c126, c127, c128, c129, c130, c131, c132, c133, c134, c135, c136, c137, c138, c139, c140, c141, c142, c143, c144, c145, c146, c147, c148, c149, c150, c151, c152, c153, c154, c155, c156, c157, c158, c159, c160, c161, c162, c163, c164, c165, c166, c167, c168, c169, c170, c171, c172, c173, c174, c175, c176, c177, c178, c179, c180, c181, c182, c183, d184, d185, d186, d187, d188, d189, d190, d191, d192, d193, d194, d195, d196, d197, d198, d199, d200, d201, d202, d203, d204, d205, d206, d207, d208, d209, d210, d211, d212, d213, d214, d215, d216, d217, d218, d219, d220, d221, d222, d223, d224, d225, d226, d227, d228, d229, d230, d231, d232, d233, d234, d235, d236, d237, d238, d239, d240, d241, d242, d243, d244, d245, d246, d247, c248], []⟩ w')) :
    Code.wp Try.prog rsc Q ⟨#[c0, c1, c2, c3, c4, .int .i64 (nn : Int), .pointer (some ⟨p, 0, none⟩), .slice (some ⟨k2, 0, none⟩) nn nn, .slice A8 M.pend.length cp8, .pointer (some ⟨sb, 0, none⟩), .pointer (some ⟨fb, 0, none⟩), .pointer (some ⟨cb, 0, none⟩), .pointer (some ⟨db, 0, none⟩), .func (.func 12) #[] #[.pointer (some ⟨cb, 0, none⟩), .pointer (some ⟨fb, 0, none⟩), .pointer (some ⟨sb, 0, none⟩), .pointer (some ⟨db, 0, none⟩)], c14, .pointer (some ⟨Ab, 0, none⟩), .int .i64 atv, .bool inn, .int .i64 r, .int .i64 r, c20, c21, c22, c23, c24, c25, c26, c27, c28, c29, c30, c31, c32, c33, c34, c35, c36, c37, c38, c39, c40, c41, c42, c43, c44, c45, c46, c47, c48, c49, c50, c51, c52, c53, c54, c55, c56, c57, c58, c59, c60, c61, c62, c63, c64, c65, c66, c67, c68, c69, c70, c71, c72, c73, c74, c75, c76, c77, c78, c79, c80, c81, c82, c83, c84, c85, c86, c87, c88, c89, c90, c91, c92, c93, c94, c95, c96, c97, c98, c99, c100, c101, c102, c103, c104, c105, c106, c107, c108, c109, c110, c111, c112, c113, c114, c115, c116, c117, c118, c119, c120, c121, c122, c123, c124, c125, c126, c127, c128, c129, c130, c131, c132, c133, c134, c135, c136, c137, c138, c139, c140, c141, c142, c143, c144, c145, c146, c147, c148, c149, c150, c151, c152, c153, c154, c155, c156, c157, c158, c159, c160, c161, c162, c163, c164, c165, c166, c167, c168, c169, c170, c171, c172, c173, c174, c175, c176, c177, c178, c179, c180, c181, c182, c183, c184, c185, c186, c187, c188, c189, c190, c191, c192, c193, c194, c195, c196, c197, c198, c199, c200, c201, c202, c203, c204, c205, c206, c207, c208, c209, c210, c211, c212, c213, c214, c215, c216, c217, c218, c219, c220, c221, c222, c223, c224, c225, c226, c227, c228, c229, c230, c231, c232, c233, c234, c235, c236, c237, c238, c239, c240, c241, c242, c243, c244, c245, c246, c247, c248], []⟩ wa := by
  have hlen0 := I.out.ds.len
  have hfew0 := I.out.ds.few
  have hlen : M.pend.length < 1000000 := by omega
  clear hlen0 hfew0
  conv => arg 2; whnf
  dsimp only
  go_wp2_with fail
  have C1 := Lib.hid (read_any p k pv M atv wa I.out.ds)
  refine C1.out.mono ?_
  rintro e w1 ⟨rfl, b1⟩
  have I1 := Lib.hid (I.out.below b1)
  clear C1 b1 I
  obtain ⟨s, hs⟩ : ∃ s, M.rd atv = s := ⟨_, rfl⟩
  obtain ⟨gg, hg⟩ : ∃ gg, rfs M atv = gg := ⟨_, rfl⟩
  rw [hs, hg]
  have HS := Lib.hid hs
  have HG := Lib.hid hg
  clear hs hg
  have T1 := thereZ w1
  go_upto_region 56 with (first | (with_reducible show wpList _ _ _ _ _ w1; refine at_alloc38 rfl rfl ?_) | (with_reducible show wpList _ _ _ _ _ (World.alloc _ _); refine at_store38 (.tmp 25) (.tmp 188) rfl rfl w1.heap.size 0 s (by simp [Act.eval, Act.put]) (by simp [Act.eval, Act.put]) T1 ?_))
  try simp only [Act.put, List.setIfInBounds_toArray, List.set_cons_zero, List.set_cons_succ]
  rw [show (w1.alloc Z64).setCells w1.heap.size 0 (sc s) = stored w1 s from rfl]
  have I2 := Lib.hid (I1.out.below (stored_below w1 s))
  have R2 := Lib.hid (stored_range w1 s)
  have hX := stored_size w1 s
  generalize stored w1 s = w2 at *
  generalize w1.heap.size = X at *
  clear T1 I1
  have Y3 : Hid (Yv w (w2.alloc Z64) p k pv k2 sb fb cb db (.slice A8 M.pend.length cp8) X w2.heap.size s zer) := by
    have hr := rowZ w2
    have hb := (Below.refl w2.heap.size w2).alloc (Nat.le_refl _) Z64
    refine ⟨by simp, fun hf => ?_, fun hf => ?_, I2.out.bl.size, by omega, range_below R2.out hb, rowIs_range hr rfl (fun j _ => rfl), rowIs_there hr (by omega)⟩
    · have := I2.out.ds.lt _ hf; omega
    · have := I2.out.lw.lt _ hf; omega
  have I3 := Lib.hid (I2.out.below ((Below.refl w2.heap.size w2).alloc (Nat.le_refl _) Z64))
  go_upto_region 58 with (first | (with_reducible show wpList _ _ _ _ _ w2; refine at_alloc38 rfl rfl ?_))
  try simp only [Act.put, List.setIfInBounds_toArray, List.set_cons_zero, List.set_cons_succ]
  generalize w2.alloc Z64 = w3 at *
  generalize w2.heap.size = Y at *
  clear I2 R2 hX
  obtain ⟨e4, f4⟩ := I3.out.lw.cd
  cases hd : M.down
  · rw [hd] at e4
    cases inn
    · have hr : rfs M atv = 3 := by
        have := of_decide_eq_false HIN.out
        rw [rfs, hd, hn]
        simp [this]
      obtain rfl : gg = 3 := by rw [← HG.out, hr]
      obtain rfl : zer = s := by rw [← HS.out, Dk.rd, hr, if_neg (by decide)]
      have RX := Lib.hid Y3.out.rx
      have RY := Lib.hid Y3.out.ry
      clear hr
      go_upto_region 69 with fail
      refine test_wp w _ p k pv k2 sb fb cb db A8 cp8 M nn X Y zer r 3 I3 hn RX RY _ _ _ _ _ _ _ _ _ _ _ _ _ _ _ _ _ _ _ _ _ _ _ _ _ _ _ _ _ _ _ _ _ _ _ _ _ _ _ _ _ _ _ _ _ _ _ _ _ _ _ _ _ _ _ _ _ _ _ _ _ _ _ _ _ _ _ _ _ _ _ _ _ _ _ _ _ _ _ _ _ _ _ _ _ _ _ _ _ _ _ _ _ _ _ _ _ _ _ _ _ _ _ _ _ _ _ _ _ _ _ _ _ _ _ _ _ _ _ _ _ _ _ _ _ _ _ _ _ _ _ _ _ _ _ _ _ _ _ _ _ _ _ _ _ _ _ _ _ _ _ _ _ _ _ _ _ _ _ _ _ _ _ _ _ _ _ _ _ _ _ _ _ _ _ _ _ _ _ _ _ _ _ _ _ _ _ _ _ _ _ _ _ _ _ _ _ _ _ _ _ _ _ _ _ _ _ _ _ _ _ _ _ _ _ _ _ _ _ _ _ _ _ _ _ _ _ _ _ _ _ _ _ _ _ _ _ _ _ (Lib.hid ?_)
      intro w9 d210 d211 d212 d213 d214 d215 d216 d217 d218 d219 d220 d221 d222 d223 d224 d225 d226 d227 d228 d229 d230 d231 d232 d233 d234 d235 d236 d237 d238 d239 d240 d241 d242 d243 d244 d245 d246 I9
      have J9 := Lib.hid I9
      clear I9
      go_wp2_with fail
      exact HQ.out _ _ _ _ _ _ _ _ _ _ _ _ _ _ _ _ _ _ _ _ _ _ _ _ _ _ _ _ _ _ _ _ _ _ _ _ _ _ _ _ _ _ _ _ _ _ _ _ _ _ _ _ _ _ _ _ _ _ _ _ _ _ _ _ _ _ _ _ _ _ J9.out
    · obtain ⟨ha0, ha1⟩ := of_decide_eq_true HIN.out
      obtain ⟨n, rfl⟩ : ∃ n : Nat, atv = n := ⟨atv.toNat, by omega⟩
      have hnM : n < M.n := by rw [hn]; omega
      have hr : rfs M (n : Int) = 0 := rfs_ok hd hnM
      obtain rfl : gg = 0 := by rw [← HG.out, hr]
      have HL := Lib.hid (show lat M.pend n (M.kept n) = s by rw [← HS.out, Dk.rd, hr, if_pos rfl]; rfl)
      have hnn : n < nn := by omega
      clear hr
      have KA := I3.out.lw.keptAt hnM
      have TY := Y3.out.th
      have Y4 := Lib.hid (Y3.out.put (M.kept n))
      have I4 := Lib.hid (I3.out.other Y3.out.nf Y3.out.ng Y3.out.ge 0 (sc (M.kept n)))
      go_upto_region 63 with (first
        | (with_reducible show wpList _ _ _ _ _ w3; first
          | (refine at_load38 (.tmp 195) rfl rfl k2 (n * 64) (M.kept n) (by simp [Act.eval, Act.put]) KA ?_)
          | (refine at_store38 (.tmp 27) (.tmp 196) rfl rfl Y 0 (M.kept n) (by simp [Act.eval, Act.put]) (by simp [Act.eval, Act.put]) TY ?_)))
      try simp only [Act.put, List.setIfInBounds_toArray, List.set_cons_zero, List.set_cons_succ]
      clear KA TY I3 Y3 e4 f4
      generalize w3.setCells Y 0 (sc (M.kept n)) = w4 at *
      go_upto_region 64 with fail
      go_loopg [199] M.pend.length (fun m i wr => ∃ j : Nat, j + m = M.pend.length ∧ i = .int .i64 (j : Int) ∧ Hid (Inv w wr p k pv k2 sb fb cb db (.slice A8 M.pend.length cp8) M M ∧ Yv w wr p k pv k2 sb fb cb db (.slice A8 M.pend.length cp8) X Y s (lat (M.pend.take j) n (M.kept n))))
      case atStart => exact ⟨0, by omega, rfl, I4.out, Y4.out⟩
      case round =>
        clear I4 Y4
        obtain ⟨j, hj, rfl, HH⟩ := hrel
        have IJ := Lib.hid HH.out.1
        have YJ := Lib.hid HH.out.2
        clear HH
        match gk with
        | 0 =>
          obtain rfl : j = M.pend.length := by omega
          have RX := Lib.hid YJ.out.rx
          have RY : Hid (wr.rangeAt Y 0 (sc s)) := by have := YJ.out.ry; rw [List.take_length, HL.out] at this; exact this
          clear YJ
          go_upto_region 69 with fail
          refine test_wp w _ p k pv k2 sb fb cb db A8 cp8 M nn X Y s r 0 IJ hn RX RY _ _ _ _ _ _ _ _ _ _ _ _ _ _ _ _ _ _ _ _ _ _ _ _ _ _ _ _ _ _ _ _ _ _ _ _ _ _ _ _ _ _ _ _ _ _ _ _ _ _ _ _ _ _ _ _ _ _ _ _ _ _ _ _ _ _ _ _ _ _ _ _ _ _ _ _ _ _ _ _ _ _ _ _ _ _ _ _ _ _ _ _ _ _ _ _ _ _ _ _ _ _ _ _ _ _ _ _ _ _ _ _ _ _ _ _ _ _ _ _ _ _ _ _ _ _ _ _ _ _ _ _ _ _ _ _ _ _ _ _ _ _ _ _ _ _ _ _ _ _ _ _ _ _ _ _ _ _ _ _ _ _ _ _ _ _ _ _ _ _ _ _ _ _ _ _ _ _ _ _ _ _ _ _ _ _ _ _ _ _ _ _ _ _ _ _ _ _ _ _ _ _ _ _ _ _ _ _ _ _ _ _ _ _ _ _ _ _ _ _ _ _ _ _ _ _ _ _ _ _ _ _ _ _ _ _ _ _ _ (Lib.hid ?_)
          intro w9 d210 d211 d212 d213 d214 d215 d216 d217 d218 d219 d220 d221 d222 d223 d224 d225 d226 d227 d228 d229 d230 d231 d232 d233 d234 d235 d236 d237 d238 d239 d240 d241 d242 d243 d244 d245 d246 I9
          have J9 := Lib.hid I9
          clear I9
          go_wp2_with fail
          exact HQ.out _ _ _ _ _ _ _ _ _ _ _ _ _ _ _ _ _ _ _ _ _ _ _ _ _ _ _ _ _ _ _ _ _ _ _ _ _ _ _ _ _ _ _ _ _ _ _ _ _ _ _ _ _ _ _ _ _ _ _ _ _ _ _ _ _ _ _ _ _ _ J9.out
        | g + 1 =>
          obtain ⟨x, hx⟩ : ∃ x, M.pend[j]? = some x := ⟨_, List.getElem?_eq_getElem (by omega)⟩
          obtain ⟨b, cp, hv, hcp, hrg⟩ := IJ.out.lw.form hx
          injection hv with hA _ hcc
          subst hA hcc
          have HX := Lib.hid (take_succ_get hx)
          have hjl : j < M.pend.length := by omega
          have T := thereOV wr (0, zer)
          clear hx
          go_upto_region 66 with (first
            | (with_reducible show wpList _ _ _ _ _ wr; first | (refine at_load40 _ rfl rfl _ _ _ rfl hrg ?_) | (refine at_alloc40 rfl rfl ?_))
            | (with_reducible show wpList _ _ _ _ _ (World.alloc _ _); refine at_store40 (.tmp 30) (.tmp 202) rfl rfl wr.heap.size 0 x (by simp [Act.eval, Act.put]) (by simp [Act.eval, Act.put]) T ?_))
          try simp only [Act.put, List.setIfInBounds_toArray, List.set_cons_zero, List.set_cons_succ]
          rw [show (wr.alloc (OV (0, zer))).setCells wr.heap.size 0 (wc x) = held wr x from rfl]
          have IH := Lib.hid (IJ.out.below (held_below wr x))
          have YH := Lib.hid (YJ.out.below (held_below wr x))
          have RH := held_range wr x
          generalize held wr x = wh at *
          generalize wr.heap.size = Hb at *
          have h0 := wc_head RH
          have h1 := wc_tail RH
          clear RH T hrg IJ YJ
          by_cases he : x.1 = n
          · have HE := Lib.hid (show lat (M.pend.take (j + 1)) n (M.kept n) = x.2 by rw [HX.out, lat_snoc, if_pos he])
            rw [he] at h0
            clear he
            have TY := YH.out.th
            have I5 := Lib.hid (IH.out.other YH.out.nf YH.out.ng YH.out.ge 0 (sc x.2))
            have Y5 := Lib.hid (YH.out.put x.2)
            clear IH YH
            go_upto_region 68 with (first
              | (with_reducible show wpList _ _ _ _ _ wh; first
                | (refine at_load38 (.tmp 207) rfl rfl Hb 1 x.2 (by simp [Act.eval, Act.put]) h1 ?_)
                | (refine at_store38 (.tmp 27) (.tmp 208) rfl rfl Y 0 x.2 (by simp [Act.eval, Act.put]) (by simp [Act.eval, Act.put]) TY ?_)))
            clear TY h0 h1
            generalize wh.setCells Y 0 (sc x.2) = w5 at *
            go_wp2_with fail
            go_roundg g
            case measure => omega
            case rel => exact ⟨j + 1, by omega, by go_num, I5.out, by rw [HE.out]; exact Y5.out⟩
          · have HE := Lib.hid (show lat (M.pend.take (j + 1)) n (M.kept n) = lat (M.pend.take j) n (M.kept n) by rw [HX.out, lat_snoc, if_neg he])
            have he' : ¬ (x.1 : Int) = (n : Int) := by omega
            clear he h1
            go_wp2_with fail
            go_roundg g
            case measure => omega
            case rel => exact ⟨j + 1, by omega, by go_num, IH.out, by rw [HE.out]; exact YH.out⟩
  · rw [hd] at e4
    have hr : rfs M atv = 9 := by rw [rfs, hd]; rfl
    obtain rfl : gg = 9 := by rw [← HG.out, hr]
    obtain rfl : zer = s := by rw [← HS.out, Dk.rd, hr, if_neg (by decide)]
    have RX := Lib.hid Y3.out.rx
    have RY := Lib.hid Y3.out.ry
    clear hr
    go_upto_region 69 with fail
    refine test_wp w _ p k pv k2 sb fb cb db A8 cp8 M nn X Y zer r 9 I3 hn RX RY _ _ _ _ _ _ _ _ _ _ _ _ _ _ _ _ _ _ _ _ _ _ _ _ _ _ _ _ _ _ _ _ _ _ _ _ _ _ _ _ _ _ _ _ _ _ _ _ _ _ _ _ _ _ _ _ _ _ _ _ _ _ _ _ _ _ _ _ _ _ _ _ _ _ _ _ _ _ _ _ _ _ _ _ _ _ _ _ _ _ _ _ _ _ _ _ _ _ _ _ _ _ _ _ _ _ _ _ _ _ _ _ _ _ _ _ _ _ _ _ _ _ _ _ _ _ _ _ _ _ _ _ _ _ _ _ _ _ _ _ _ _ _ _ _ _ _ _ _ _ _ _ _ _ _ _ _ _ _ _ _ _ _ _ _ _ _ _ _ _ _ _ _ _ _ _ _ _ _ _ _ _ _ _ _ _ _ _ _ _ _ _ _ _ _ _ _ _ _ _ _ _ _ _ _ _ _ _ _ _ _ _ _ _ _ _ _ _ _ _ _ _ _ _ _ _ _ _ _ _ _ _ _ _ _ _ _ _ _ (Lib.hid ?_)
    intro w9 d210 d211 d212 d213 d214 d215 d216 d217 d218 d219 d220 d221 d222 d223 d224 d225 d226 d227 d228 d229 d230 d231 d232 d233 d234 d235 d236 d237 d238 d239 d240 d241 d242 d243 d244 d245 d246 I9
    have J9 := Lib.hid I9
    clear I9
    go_wp2_with fail
    exact HQ.out _ _ _ _ _ _ _ _ _ _ _ _ _ _ _ _ _ _ _ _ _ _ _ _ _ _ _ _ _ _ _ _ _ _ _ _ _ _ _ _ _ _ _ _ _ _ _ _ _ _ _ _ _ _ _ _ _ _ _ _ _ _ _ _ _ _ _ _ _ _ J9.out
end Go.Proofs.Ytlfggfoaelkapaa
