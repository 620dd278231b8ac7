/-
  DiskScript's deed Flush: the disk and the account go on alike. Conditions: as the theorem says.
-/
import Derived.Test.YtlfggfoaelkapaaSwWrite
set_option linter.unusedSimpArgs false
set_option linter.unusedVariables false
namespace Go.Proofs.Ytlfggfoaelkapaa
open Go.RowKit

theorem Lw.put64 {w : World} {k2 sb fb cb db : Nat} {v : Value} {N : Dk} (h : Lw w k2 sb fb cb db v N) (a : Nat) (s : Nat → Nat) : Lw (w.setCells k2 (a * 64) (sc s)) k2 sb fb cb db v { N with kept := ov N.kept a 64 s } := by
  have := h.put a 64 s (Nat.le_refl _)
  rwa [List.take_of_length_le (by rw [sc_length]; exact Nat.le_refl _)] at this

set_option maxRecDepth 100000 in
set_option maxHeartbeats 4000000 in
theorem sw_flush (w wa : World) (p k : Nat) (pv : Value) (k2 sb fb cb db : Nat) (v : Value) (M : Dk) (nn q Ab : Nat) (a : Ac) (atv : Int) (inn : Bool) (o : Option Obj)
    (I : Hid (Inv w wa p k pv k2 sb fb cb db v M M)) (G : Hid (Gd nn q M)) (hq : q < 200) (O : Hid (Out w wa p k pv k2 sb fb cb db v Ab o)) (R : Hid (∀ W : World, W.heap[Ab]? = o → W.rangeAt Ab 0 (ac a)))
    (hok : a.ok) (hat1 : -50 < atv) (hat2 : atv < 50) (HIN : Hid (decide (0 ≤ atv ∧ atv < (nn : Int)) = inn)) (hop : (a.op : Int) % 12 = 3)
    (c0 c1 c2 c3 c4 c14 c20 c21 c22 c23 c24 c25 c26 c27 c28 c29 c30 c31 c32 c33 c34 c35 c36 c37 c38 c39 c40 c41 c42 c43 c44 c45 c46 c47 c48 c49 c50 c51 c52 c53 c54 c55 c56 c57 c58 c59 c60 c61 c62 c63 c64 c65 c66 c67 c68 c69 c70 c71 c72 c73 c74 c75 c76 c77 c78 c79 c80 c81 c82 c83 c84 c85 c86 c87 c88 c89 c90 c91 c92 c93 c94 c95 c96 c97 c98 c99 c100 c101 c102 c103 c104 c105 c106 c107 c108 c109 c110 c111 c112 c113 c114 c115 c116 c117 c118 c119 c120 c121 c122 c123 c124 c125 c126 c127 c128 c129 c130 c131 c132 c133 c134 c135 c136 c137 c138 c139 c140 c141 c142 c143 c144 c145 c146 c147 c148 c149 c150 c151 c152 c153 c154 c155 c156 c157 c158 c159 c160 c161 c162 c163 c164 c165 c166 c167 c168 c169 c170 c171 c172 c173 c174 c175 c176 c177 c178 c179 c180 c181 c182 c183 c184 c185 c186 c187 c188 c189 c190 c191 c192 c193 c194 c195 c196 c197 c198 c199 c200 c201 c202 c203 c204 c205 c206 c207 c208 c209 c210 c211 c212 c213 c214 c215 c216 c217 c218 c219 c220 c221 c222 c223 c224 c225 c226 c227 c228 c229 c230 c231 c232 c233 c234 c235 c236 c237 c238 c239 c240 c241 c242 c243 c244 c245 c246 c247 c248 : Value) (Q : Exit → Act → World → Prop)
    (HQ : Hid (∀ (v' : Value) (r : Int) (pv' : Value) (M' : Dk) (w' : World) (d20 d21 d22 d24 d62 d63 d64 d65 d66 d67 d68 d69 d70 d71 d72 d73 d74 d75 d76 d77 d78 d79 d80 d81 d82 d83 d84 d85 d86 d87 d88 d89 d90 d91 d92 d93 d94 d95 d96 d97 d98 d99 d100 d101 d102 d103 d104 d105 d106 d107 d108 d109 d110 d111 d112 d113 d114 d115 d116 d117 d118 d119 d120 d121 d122 d123 d124 d125 d126 d127 d128 d129 d130 d131 d132 d133 d134 d135 d136 d137 d138 d139 d140 d141 d142 d143 d144 d145 d146 d147 d148 d149 d150 d151 d152 d153 d154 d155 d156 d157 d158 d159 d160 d161 d162 d163 d164 d165 d166 d167 d168 d169 d170 d171 d172 d173 d174 d175 d176 d177 d178 d179 d180 d181 d182 d183 : Value), Inv w w' p k pv' k2 sb fb cb db v' M' M' → Gd nn (q + 1) M' → Q .normal ⟨#[c0, c1, c2, c3, c4, .int .i64 (nn : Int), .pointer (some ⟨p, 0, none⟩), .slice (some ⟨k2, 0, none⟩) nn nn, v', .pointer (some ⟨sb, 0, none⟩), .pointer (some ⟨fb, 0, none⟩), .pointer (some ⟨cb, 0, none⟩), .pointer (some ⟨db, 0, none⟩), .func (.func 12) #[] #[.pointer (some ⟨cb, 0, none⟩), .pointer (some ⟨fb, 0, none⟩), .pointer (some ⟨sb, 0, none⟩), .pointer (some ⟨db, 0, none⟩)], c14, .pointer (some ⟨Ab, 0, none⟩), .int .i64 atv, .bool inn, .int .i64 r, .int .i64 r, d20, d21, d22, c23, d24, c25, c26, c27, c28, c29, c30, c31, c32, c33, c34, c35, c36, c37, c38, c39, c40, c41, c42, c43, c44, c45, c46, c47, c48, c49, c50, c51, c52, c53, c54, c55, c56, c57, c58, c59, c60, c61, d62, d63, d64, d65, d66, d67, d68, d69, d70, d71, d72, d73, d74, d75, d76, d77, d78, d79, d80, d81, d82, d83, d84, d85, d86, d87, d88, d89, d90, d91, d92, d93, d94, d95, d96, d97, d98, d99, d100, d101, d102, d103, d104, d105, d106, d107, d108, d109, d110, d111, d112, d113, d114, d115, d116, d117, d118, d119, d120, d121, d122, d123, d124, d125, d126, d127, d128, d129, d130, d131, d132, d133, d134, d135, d136, d137, d138, d139, d140, d141, d142, d143, d144, d145, d146, d147, d148, d149, d150, d151, d152, d153, d154, d155, d156, d157, d158, d159, d160, d161, d162, d163, d164, d165, d166, d167, d168, d169, d170, d171, d172, d173, d174, d175, d176, d177, d178, d179, d180, d181, d182, d183, c184, c185, c186, c187, c188, c189, c190, c191, c192, c193, c194, c195, c196, c197, c198, c199, c200, c201, c202, c203, c204, c205, c206, c207, c208, c209, c210, c211, c212, c213, c214, c215, c216, c217, c218, c219, c220, c221, c222, c223, c224, c225, c226, c227, c228, c229, c230, c231, c232, c233, c234, c235, c236, c237, c238, c239, c240, c241, c242, c243, c244, c245, c246, c247, c248], []⟩ w')) :
    Code.wp Try.prog swc Q ⟨#[c0, c1, c2, c3, c4, .int .i64 (nn : Int), .pointer (some ⟨p, 0, none⟩), .slice (some ⟨k2, 0, none⟩) nn nn, v, .pointer (some ⟨sb, 0, none⟩), .pointer (some ⟨fb, 0, none⟩), .pointer (some ⟨cb, 0, none⟩), .pointer (some ⟨db, 0, none⟩), .func (.func 12) #[] #[.pointer (some ⟨cb, 0, none⟩), .pointer (some ⟨fb, 0, none⟩), .pointer (some ⟨sb, 0, none⟩), .pointer (some ⟨db, 0, none⟩)], c14, .pointer (some ⟨Ab, 0, none⟩), .int .i64 atv, .bool inn, .int .i64 0, .int .i64 0, c20, c21, c22, c23, c24, c25, c26, c27, c28, c29, c30, c31, c32, c33, c34, c35, c36, c37, c38, c39, c40, c41, c42, c43, c44, c45, c46, c47, c48, c49, c50, c51, c52, c53, c54, c55, c56, c57, c58, c59, c60, c61, c62, c63, c64, c65, c66, c67, c68, c69, c70, c71, c72, c73, c74, c75, c76, c77, c78, c79, c80, c81, c82, c83, c84, c85, c86, c87, c88, c89, c90, c91, c92, c93, c94, c95, c96, c97, c98, c99, c100, c101, c102, c103, c104, c105, c106, c107, c108, c109, c110, c111, c112, c113, c114, c115, c116, c117, c118, c119, c120, c121, c122, c123, c124, c125, c126, c127, c128, c129, c130, c131, c132, c133, c134, c135, c136, c137, c138, c139, c140, c141, c142, c143, c144, c145, c146, c147, c148, c149, c150, c151, c152, c153, c154, c155, c156, c157, c158, c159, c160, c161, c162, c163, c164, c165, c166, c167, c168, c169, c170, c171, c172, c173, c174, c175, c176, c177, c178, c179, c180, c181, c182, c183, c184, c185, c186, c187, c188, c189, c190, c191, c192, c193, c194, c195, c196, c197, c198, c199, c200, c201, c202, c203, c204, c205, c206, c207, c208, c209, c210, c211, c212, c213, c214, c215, c216, c217, c218, c219, c220, c221, c222, c223, c224, c225, c226, c227, c228, c229, c230, c231, c232, c233, c234, c235, c236, c237, c238, c239, c240, c241, c242, c243, c244, c245, c246, c247, c248], []⟩ wa := by
  obtain ⟨hk1, _, hk3, _, _, _⟩ := hok
  have e0 : wa.cell? ⟨Ab, 0, none⟩ = some (.int .u8 (a.op : Int)) := by have := R.out wa O.out.eq 0 _ rfl; simpa using this
  have hcl : M.calls + 1 < 1000000 := by have := G.out.2.1; omega
  have hlen0 := I.out.ds.len
  conv => arg 2; whnf
  go_wp2_with fail
  have C1 := Lib.hid (flush_any p k pv M wa I.out.ds hcl)
  refine C1.out.mono ?_
  rintro e w2 ⟨rfl, pv2, h2, s2⟩
  have I2 := Lib.hid (I.out.disk h2 s2)
  clear h2 s2 C1 I e0 O R
  obtain ⟨c4, f4⟩ := I2.out.lw.cd
  cases hd : M.down
  · rw [hd] at c4
    have hw : M.fer = M.err := by rw [Dk.fer, hd]; rfl
    rw [hw]
    go_wp2_with fail
    refine (call_any k2 sb fb cb db v M w2 I2.out.lw hcl G.out.2.2.1 G.out.2.2.2).mono ?_
    rintro e w3 ⟨rfl, l3, s3⟩
    have I3 := Lib.hid (I2.out.law l3 s3)
    clear l3 s3 c4 f4 hw I2
    by_cases he : M.err = 0
    · have hM : M.fl = { M.cnt with kept := kpa (fun _ => 64) M.pend M.kept M.pend.length, pend := [] } := by rw [Dk.fl, hd, if_pos he]; rfl
      rw [hM] at I3
      rw [he]
      have hn : M.cnt.n = nn := G.out.1
      obtain ⟨A8, cp8, hv⟩ := I3.out.lw.shape
      have hlp : M.cnt.pend = M.pend := rfl
      rw [hlp] at hv
      have hlen : M.pend.length < 1000000 := by omega
      have HV := Lib.hid hv
      subst hv
      clear he hM hlp
      go_upto_region 50 with fail
      go_loopg [173] M.pend.length (fun m i wr => ∃ j : Nat, j + m = M.pend.length ∧ i = .int .i64 (j : Int) ∧ Hid (Inv w wr p k pv2 k2 sb fb cb db (.slice A8 M.pend.length cp8) { M.cnt with kept := kpa (fun _ => 64) M.pend M.kept M.pend.length, pend := [] } { M.cnt with kept := kpa (fun _ => 64) M.pend M.kept j }))
      case atStart => exact ⟨0, by omega, rfl, I3.out⟩
      case round =>
        clear I3
        obtain ⟨j, hj, rfl, IJ⟩ := hrel
        match gk with
        | 0 =>
          obtain rfl : j = M.pend.length := by omega
          have I4 := Lib.hid (IJ.out.law IJ.out.lw.cleared ((Step.refl wr _).foots (F'' := gt k2 sb fb cb db (.slice none 0 0)) (fun b hb => by
            rcases hb with e | e | e | e | e | e
            · exact .inl (.inl e)
            · exact .inl (.inr (.inl e))
            · exact .inl (.inr (.inr (.inl e)))
            · exact .inl (.inr (.inr (.inr (.inl e))))
            · exact .inl (.inr (.inr (.inr (.inr (.inl e)))))
            · simp [Value.ownBlock] at e)))
          clear IJ
          go_wp2_with fail
          exact HQ.out _ _ _ _ _ _ _ _ _ _ _ _ _ _ _ _ _ _ _ _ _ _ _ _ _ _ _ _ _ _ _ _ _ _ _ _ _ _ _ _ _ _ _ _ _ _ _ _ _ _ _ _ _ _ _ _ _ _ _ _ _ _ _ _ _ _ _ _ _ _ _ _ _ _ _ _ _ _ _ _ _ _ _ _ _ _ _ _ _ _ _ _ _ _ _ _ _ _ _ _ _ _ _ _ _ _ _ _ _ _ _ _ _ _ _ _ _ _ _ _ _ _ _ _ _ _ _ _ _ _ _ I4.out G.out.cnt
        | g + 1 =>
          obtain ⟨x, hx⟩ : ∃ x, M.pend[j]? = some x := ⟨_, List.getElem?_eq_getElem (by omega)⟩
          obtain ⟨b, cp, hv, hcp, hrg⟩ := IJ.out.lw.form hx
          injection hv with hA _ hcc
          subst hA hcc
          have HX := Lib.hid hx
          have hjl : j < M.pend.length := by omega
          have hxn : x.1 < nn := by rw [← hn]; exact IJ.out.lw.ats x (List.mem_of_getElem? hx)
          have T := thereOV wr (0, zer)
          clear hx
          go_upto_region 52 with (first
            | (with_reducible show wpList _ _ _ _ _ wr; first | (refine at_load40 _ rfl rfl _ _ _ rfl hrg ?_) | (refine at_alloc40 rfl rfl ?_))
            | (with_reducible show wpList _ _ _ _ _ (World.alloc _ _); refine at_store40 (.tmp 24) (.tmp 176) rfl rfl wr.heap.size 0 x (by simp [Act.eval, Act.put]) (by simp [Act.eval, Act.put]) T ?_))
          simp only [Act.put, List.setIfInBounds_toArray, List.set_cons_zero, List.set_cons_succ]
          rw [show (wr.alloc (OV (0, zer))).setCells wr.heap.size 0 (wc x) = held wr x from rfl]
          have IH := Lib.hid (IJ.out.below (held_below wr x))
          have RH := held_range wr x
          generalize held wr x = wh at *
          generalize wr.heap.size = Hb at *
          have h0 := wc_head RH
          have h1 := wc_tail RH
          have TK := IH.out.lw.thereAt (i := x.1) (show x.1 < M.cnt.n by rw [hn]; exact hxn)
          clear RH T hrg IJ
          go_upto_region 53 with (first
            | (with_reducible show wpList _ _ _ _ _ _; refine at_load38 (.tmp 180) rfl rfl Hb 1 x.2 (by simp [Act.eval, Act.put]) h1 ?_)
            | (with_reducible show wpList _ _ _ _ _ _; refine at_store38 (.tmp 182) (.tmp 181) rfl rfl k2 (x.1 * 64) x.2 (by simp [Act.eval, Act.put]) (by simp [Act.eval, Act.put]) TK ?_))
          have I5 := Lib.hid (IH.out.law (IH.out.lw.put64 x.1 x.2) (Step.setCells k2 (sc x.2) (x.1 * 64) (Step.refl wh _) (.inl rfl)))
          clear h0 h1 TK IH
          generalize wh.setCells k2 (x.1 * 64) (sc x.2) = w5 at *
          go_wp2_with fail
          go_roundg g
          case measure => omega
          case rel => exact ⟨j + 1, by omega, by go_num, by rw [kpa_succ HX.out]; exact I5.out⟩
    · have hM : M.fl = M.cnt := by rw [Dk.fl, hd, if_neg he]; rfl
      rw [hM] at I3
      clear hM
      go_wp2_with fail
      exact HQ.out _ _ _ _ _ _ _ _ _ _ _ _ _ _ _ _ _ _ _ _ _ _ _ _ _ _ _ _ _ _ _ _ _ _ _ _ _ _ _ _ _ _ _ _ _ _ _ _ _ _ _ _ _ _ _ _ _ _ _ _ _ _ _ _ _ _ _ _ _ _ _ _ _ _ _ _ _ _ _ _ _ _ _ _ _ _ _ _ _ _ _ _ _ _ _ _ _ _ _ _ _ _ _ _ _ _ _ _ _ _ _ _ _ _ _ _ _ _ _ _ _ _ _ _ _ _ _ _ _ _ _ I3.out G.out.cnt
  · rw [hd] at c4
    have hw : M.fer = 9 := by rw [Dk.fer, hd]; rfl
    have hM : M.fl = M := by rw [Dk.fl, hd]; rfl
    rw [hw]
    rw [hM] at I2
    clear hw hM
    go_wp2_with fail
    exact HQ.out _ _ _ _ _ _ _ _ _ _ _ _ _ _ _ _ _ _ _ _ _ _ _ _ _ _ _ _ _ _ _ _ _ _ _ _ _ _ _ _ _ _ _ _ _ _ _ _ _ _ _ _ _ _ _ _ _ _ _ _ _ _ _ _ _ _ _ _ _ _ _ _ _ _ _ _ _ _ _ _ _ _ _ _ _ _ _ _ _ _ _ _ _ _ _ _ _ _ _ _ _ _ _ _ _ _ _ _ _ _ _ _ _ _ _ _ _ _ _ _ _ _ _ _ _ _ _ _ _ _ _ I2.out G.out.up
end Go.Proofs.Ytlfggfoaelkapaa
