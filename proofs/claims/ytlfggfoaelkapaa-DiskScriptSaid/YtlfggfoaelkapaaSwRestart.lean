/-
  DiskScript's deed Restart: the disk and the account go on alike. Conditions: as the theorem says.
-/
import Derived.Test.YtlfggfoaelkapaaSwInner
import Derived.Deep.CutBlock
set_option linter.unusedSimpArgs false
set_option linter.unusedVariables false
namespace Go.Proofs.Ytlfggfoaelkapaa
open Go.RowKit

theorem foot_nil {k2 sb fb cb db : Nat} {v : Value} (w : World) : Step w w (gt k2 sb fb cb db v) (gt k2 sb fb cb db (.slice none 0 0)) :=
  (Step.refl w _).foots fun b hb => by
    rcases hb with e | e | e | e | e | e
    · exact .inl (.inl e)
    · exact .inl (.inr (.inl e))
    · exact .inl (.inr (.inr (.inl e)))
    · exact .inl (.inr (.inr (.inr (.inl e))))
    · exact .inl (.inr (.inr (.inr (.inr (.inl e)))))
    · simp [Value.ownBlock] at e

set_option maxRecDepth 100000 in
set_option maxHeartbeats 4000000 in
theorem sw_restart (w wa : World) (p k : Nat) (pv : Value) (k2 sb fb cb db : Nat) (v : Value) (M : Dk) (nn q Ab : Nat) (a : Ac) (atv : Int) (inn : Bool) (o : Option Obj)
    (I : Hid (Inv w wa p k pv k2 sb fb cb db v M M)) (G : Hid (Gd nn q M)) (hq : q < 200) (O : Hid (Out w wa p k pv k2 sb fb cb db v Ab o)) (R : Hid (∀ W : World, W.heap[Ab]? = o → W.rangeAt Ab 0 (ac a)))
    (hok : a.ok) (hat1 : -50 < atv) (hat2 : atv < 50) (HIN : Hid (decide (0 ≤ atv ∧ atv < (nn : Int)) = inn)) (hn40 : nn < 40) (hop : (a.op : Int) % 12 = 2)
    (c0 c1 c2 c3 c4 c14 c20 c21 c22 c23 c24 c25 c26 c27 c28 c29 c30 c31 c32 c33 c34 c35 c36 c37 c38 c39 c40 c41 c42 c43 c44 c45 c46 c47 c48 c49 c50 c51 c52 c53 c54 c55 c56 c57 c58 c59 c60 c61 c62 c63 c64 c65 c66 c67 c68 c69 c70 c71 c72 c73 c74 c75 c76 c77 c78 c79 c80 c81 c82 c83 c84 c85 c86 c87 c88 c89 c90 c91 c92 c93 c94 c95 c96 c97 c98 c99 c100 c101 c102 c103 c104 c105 c106 c107 c108 c109 c110 c111 c112 c113 c114 c115 c116 c117 c118 c119 c120 c121 c122 c123 c124 c125 c126 c127 c128 c129 c130 c131 c132 c133 c134 c135 c136 c137 c138 c139 c140 c141 c142 c143 c144 c145 c146 c147 c148 c149 c150 c151 c152 c153 c154 c155 c156 c157 c158 c159 c160 c161 c162 c163 c164 c165 c166 c167 c168 c169 c170 c171 c172 c173 c174 c175 c176 c177 c178 c179 c180 c181 c182 c183 c184 c185 c186 c187 c188 c189 c190 c191 c192 c193 c194 c195 c196 c197 c198 c199 c200 c201 c202 c203 c204 c205 c206 c207 c208 c209 c210 c211 c212 c213 c214 c215 c216 c217 c218 c219 c220 c221 c222 c223 c224 c225 c226 c227 c228 c229 c230 c231 c232 c233 c234 c235 c236 c237 c238 c239 c240 c241 c242 c243 c244 c245 c246 c247 c248 : Value) (Q : Exit → Act → World → Prop)
    (HQ : Hid (∀ (v' : Value) (r : Int) (pv' : Value) (M' : Dk) (w' : World) (d20 d21 d22 d24 d62 d63 d64 d65 d66 d67 d68 d69 d70 d71 d72 d73 d74 d75 d76 d77 d78 d79 d80 d81 d82 d83 d84 d85 d86 d87 d88 d89 d90 d91 d92 d93 d94 d95 d96 d97 d98 d99 d100 d101 d102 d103 d104 d105 d106 d107 d108 d109 d110 d111 d112 d113 d114 d115 d116 d117 d118 d119 d120 d121 d122 d123 d124 d125 d126 d127 d128 d129 d130 d131 d132 d133 d134 d135 d136 d137 d138 d139 d140 d141 d142 d143 d144 d145 d146 d147 d148 d149 d150 d151 d152 d153 d154 d155 d156 d157 d158 d159 d160 d161 d162 d163 d164 d165 d166 d167 d168 d169 d170 d171 d172 d173 d174 d175 d176 d177 d178 d179 d180 d181 d182 d183 : Value), Inv w w' p k pv' k2 sb fb cb db v' M' M' → Gd nn (q + 1) M' → Q .normal ⟨#[c0, c1, c2, c3, c4, .int .i64 (nn : Int), .pointer (some ⟨p, 0, none⟩), .slice (some ⟨k2, 0, none⟩) nn nn, v', .pointer (some ⟨sb, 0, none⟩), .pointer (some ⟨fb, 0, none⟩), .pointer (some ⟨cb, 0, none⟩), .pointer (some ⟨db, 0, none⟩), .func (.func 12) #[] #[.pointer (some ⟨cb, 0, none⟩), .pointer (some ⟨fb, 0, none⟩), .pointer (some ⟨sb, 0, none⟩), .pointer (some ⟨db, 0, none⟩)], c14, .pointer (some ⟨Ab, 0, none⟩), .int .i64 atv, .bool inn, .int .i64 r, .int .i64 r, d20, d21, d22, c23, d24, c25, c26, c27, c28, c29, c30, c31, c32, c33, c34, c35, c36, c37, c38, c39, c40, c41, c42, c43, c44, c45, c46, c47, c48, c49, c50, c51, c52, c53, c54, c55, c56, c57, c58, c59, c60, c61, d62, d63, d64, d65, d66, d67, d68, d69, d70, d71, d72, d73, d74, d75, d76, d77, d78, d79, d80, d81, d82, d83, d84, d85, d86, d87, d88, d89, d90, d91, d92, d93, d94, d95, d96, d97, d98, d99, d100, d101, d102, d103, d104, d105, d106, d107, d108, d109, d110, d111, d112, d113, d114, d115, d116, d117, d118, d119, d120, d121, d122, d123, d124, d125, d126, d127, d128, d129, d130, d131, d132, d133, d134, d135, d136, d137, d138, d139, d140, d141, d142, d143, d144, d145, d146, d147, d148, d149, d150, d151, d152, d153, d154, d155, d156, d157, d158, d159, d160, d161, d162, d163, d164, d165, d166, d167, d168, d169, d170, d171, d172, d173, d174, d175, d176, d177, d178, d179, d180, d181, d182, d183, c184, c185, c186, c187, c188, c189, c190, c191, c192, c193, c194, c195, c196, c197, c198, c199, c200, c201, c202, c203, c204, c205, c206, c207, c208, c209, c210, c211, c212, c213, c214, c215, c216, c217, c218, c219, c220, c221, c222, c223, c224, c225, c226, c227, c228, c229, c230, c231, c232, c233, c234, c235, c236, c237, c238, c239, c240, c241, c242, c243, c244, c245, c246, c247, c248], []⟩ w')) :
    Code.wp Try.prog swc Q ⟨#[c0, c1, c2, c3, c4, .int .i64 (nn : Int), .pointer (some ⟨p, 0, none⟩), .slice (some ⟨k2, 0, none⟩) nn nn, v, .pointer (some ⟨sb, 0, none⟩), .pointer (some ⟨fb, 0, none⟩), .pointer (some ⟨cb, 0, none⟩), .pointer (some ⟨db, 0, none⟩), .func (.func 12) #[] #[.pointer (some ⟨cb, 0, none⟩), .pointer (some ⟨fb, 0, none⟩), .pointer (some ⟨sb, 0, none⟩), .pointer (some ⟨db, 0, none⟩)], c14, .pointer (some ⟨Ab, 0, none⟩), .int .i64 atv, .bool inn, .int .i64 0, .int .i64 0, c20, c21, c22, c23, c24, c25, c26, c27, c28, c29, c30, c31, c32, c33, c34, c35, c36, c37, c38, c39, c40, c41, c42, c43, c44, c45, c46, c47, c48, c49, c50, c51, c52, c53, c54, c55, c56, c57, c58, c59, c60, c61, c62, c63, c64, c65, c66, c67, c68, c69, c70, c71, c72, c73, c74, c75, c76, c77, c78, c79, c80, c81, c82, c83, c84, c85, c86, c87, c88, c89, c90, c91, c92, c93, c94, c95, c96, c97, c98, c99, c100, c101, c102, c103, c104, c105, c106, c107, c108, c109, c110, c111, c112, c113, c114, c115, c116, c117, c118, c119, c120, c121, c122, c123, c124, c125, c126, c127, c128, c129, c130, c131, c132, c133, c134, c135, c136, c137, c138, c139, c140, c141, c142, c143, c144, c145, c146, c147, c148, c149, c150, c151, c152, c153, c154, c155, c156, c157, c158, c159, c160, c161, c162, c163, c164, c165, c166, c167, c168, c169, c170, c171, c172, c173, c174, c175, c176, c177, c178, c179, c180, c181, c182, c183, c184, c185, c186, c187, c188, c189, c190, c191, c192, c193, c194, c195, c196, c197, c198, c199, c200, c201, c202, c203, c204, c205, c206, c207, c208, c209, c210, c211, c212, c213, c214, c215, c216, c217, c218, c219, c220, c221, c222, c223, c224, c225, c226, c227, c228, c229, c230, c231, c232, c233, c234, c235, c236, c237, c238, c239, c240, c241, c242, c243, c244, c245, c246, c247, c248], []⟩ wa := by
  have HOK := Lib.hid hok
  obtain ⟨hk1, _, hk3, hk4, ⟨hk5, hk5'⟩, ⟨hk6, hk6'⟩⟩ := hok
  have e0 : wa.cell? ⟨Ab, 0, none⟩ = some (.int .u8 (a.op : Int)) := by have := R.out wa O.out.eq 0 _ rfl; simpa using this
  have e3 : wa.cell? ⟨Ab, 3, none⟩ = some (.int .u64 (a.mask : Int)) := by have := R.out wa O.out.eq 3 _ rfl; simpa using this
  have e4 : wa.cell? ⟨Ab, 4, none⟩ = some (.int .i8 a.torn) := by have := R.out wa O.out.eq 4 _ rfl; simpa using this
  have e5 : wa.cell? ⟨Ab, 5, none⟩ = some (.int .i8 a.bts) := by have := R.out wa O.out.eq 5 _ rfl; simpa using this
  have hlen0 := I.out.ds.len
  have hfew0 := I.out.ds.few
  have hn : M.n = nn := G.out.1
  conv => arg 2; whnf
  go_wp2_with fail
  have C1 := Lib.hid (restart_any p k pv M a.mask a.torn a.bts wa I.out.ds hk4)
  refine C1.out.mono ?_
  rintro e w2 ⟨rfl, h2, s2⟩
  have I2 := Lib.hid (show Inv w w2 p k (.slice none 0 0) k2 sb fb cb db v (M.rs a.mask a.torn a.bts) M from I.out.disk h2 s2)
  have O2 := Lib.hid (O.out.disk s2)
  clear h2 s2 C1 I O e0 e3 e4 e5
  generalize hMM : M.rs a.mask a.torn a.bts = MM at *
  have HMM := Lib.hid hMM
  clear hMM
  have hlen : M.pend.length < 1000000 := by omega
  obtain ⟨A8, cp8, hv⟩ := I2.out.lw.shape
  subst hv
  go_upto_region 33 with fail
  go_loopg [114] M.pend.length (fun m i wr => ∃ j : Nat, j + m = M.pend.length ∧ i = .int .i64 (j : Int) ∧ Hid (Inv w wr p k (.slice none 0 0) k2 sb fb cb db (.slice A8 M.pend.length cp8) MM { M with kept := kpa (amt a.mask a.torn a.bts) M.pend M.kept j } ∧ Out w wr p k (.slice none 0 0) k2 sb fb cb db (.slice A8 M.pend.length cp8) Ab o))
  case atStart => exact ⟨0, by omega, rfl, I2.out, O2.out⟩
  case round =>
    clear I2 O2
    obtain ⟨j, hj, rfl, HH⟩ := hrel
    match gk with
    | 0 =>
      obtain rfl : j = M.pend.length := by omega
      have I3 := Lib.hid HH.out.1
      clear HH
      obtain ⟨hc1, hf1⟩ := I3.out.lw.cs
      obtain ⟨hc2, hf2⟩ := I3.out.lw.cf
      obtain ⟨hc3, hf3⟩ := I3.out.lw.cd
      obtain ⟨g1, g2, g3, g4, g5, g6⟩ := I3.out.lw.ss
      have g1' := Ne.symm g1
      have g3' := Ne.symm g3
      have g5' := Ne.symm g5
      have I4 := Lib.hid (I3.out.law I3.out.lw.cleared (foot_nil wr))
      have I5 := Lib.hid (I4.out.law (I4.out.lw.setS none (-1) rfl) (step_set (Step.refl wr _) sb 0 (.inr (.inl rfl)) _))
      have I6 := Lib.hid (I5.out.law (I5.out.lw.setF none (-1) rfl) (step_set (Step.refl _ _) fb 0 (.inr (.inr (.inl rfl))) _))
      have I7 := Lib.hid (I6.out.law (I6.out.lw.setD false) (step_set (Step.refl _ _) db 0 (.inr (.inr (.inr (.inr (.inl rfl))))) _))
      have I8 : Hid (Inv w (((wr.setCell ⟨sb, 0, none⟩ (.int .i64 (-1))).setCell ⟨fb, 0, none⟩ (.int .i64 (-1))).setCell ⟨db, 0, none⟩ (.bool false)) p k (.slice none 0 0) k2 sb fb cb db (.slice none 0 0) MM MM) := by
        have := I7.out
        rw [← HMM.out]
        rw [← HMM.out] at this
        exact this
      have G8 : Hid (Gd nn (q + 1) MM) := by rw [← HMM.out]; exact ⟨hn, Nat.le_succ_of_le G.out.2.1, by simp [Dk.rs], by simp [Dk.rs]⟩
      clear I3 I4 I5 I6 I7
      go_wp2_with fail
      exact HQ.out _ _ _ _ _ _ _ _ _ _ _ _ _ _ _ _ _ _ _ _ _ _ _ _ _ _ _ _ _ _ _ _ _ _ _ _ _ _ _ _ _ _ _ _ _ _ _ _ _ _ _ _ _ _ _ _ _ _ _ _ _ _ _ _ _ _ _ _ _ _ _ _ _ _ _ _ _ _ _ _ _ _ _ _ _ _ _ _ _ _ _ _ _ _ _ _ _ _ _ _ _ _ _ _ _ _ _ _ _ _ _ _ _ _ _ _ _ _ _ _ _ _ _ _ _ _ _ _ _ _ _ I8.out G8.out
    | g + 1 =>
      have IJ := Lib.hid HH.out.1
      have OJ := Lib.hid HH.out.2
      clear HH
      obtain ⟨x, hx⟩ : ∃ x, M.pend[j]? = some x := ⟨_, List.getElem?_eq_getElem (by omega)⟩
      obtain ⟨b, cp, hv, hcp, hrg⟩ := IJ.out.lw.form hx
      injection hv with hA _ hcc
      subst hA hcc
      have HX := Lib.hid hx
      have hjl : j < M.pend.length := by omega
      have hxn : x.1 < nn := by rw [← hn]; exact IJ.out.lw.ats x (List.mem_of_getElem? hx)
      have T := thereOV wr (0, zer)
      clear hx
      go_upto_block 5 with (first
        | (with_reducible show wpList _ _ _ _ _ wr; first | (refine at_load40 _ rfl rfl _ _ _ rfl hrg ?_) | (refine at_alloc40 rfl rfl ?_))
        | (with_reducible show wpList _ _ _ _ _ (World.alloc _ _); refine at_store40 (.tmp 21) (.tmp 118) rfl rfl wr.heap.size 0 x (by simp [Act.eval, Act.put]) (by simp [Act.eval, Act.put]) T ?_))
      rw [show (wr.alloc (OV (0, zer))).setCells wr.heap.size 0 (wc x) = held wr x from rfl]
      have IH := Lib.hid (IJ.out.below (held_below wr x))
      have OA' := Lib.hid (OJ.out.below (held_below wr x))
      have OH := Lib.hid (Out.fresh (w' := held wr x) IJ.out (Nat.le_refl _) (by rw [held, size_setCells]; simp))
      have RH := Lib.hid (fun (W : World) (e : W.heap[wr.heap.size]? = (held wr x).heap[wr.heap.size]?) => range_of_block (held_range wr x) e)
      generalize (held wr x).heap[wr.heap.size]? = oh at *
      generalize held wr x = wh at *
      generalize wr.heap.size = Hb at *
      clear T hrg IJ OJ
      refine inner_wp w wh p k (.slice none 0 0) k2 sb fb cb db (.slice (some ⟨b, 0, none⟩) M.pend.length cp8) MM M nn j Ab a o Hb x oh (kpa (amt a.mask a.torn a.bts) M.pend M.kept j) IH OA' R OH RH hxn hn hn40 (by omega) HOK.out _ _ _ _ _ _ _ _ _ _ _ _ _ _ _ _ _ _ _ _ _ _ _ _ _ _ _ _ _ _ _ _ _ _ _ _ _ _ _ _ _ _ _ _ _ _ _ _ _ _ _ _ _ _ _ _ _ _ _ _ _ _ _ _ _ _ _ _ _ _ _ _ _ _ _ _ _ _ _ _ _ _ _ _ _ _ _ _ _ _ _ _ _ _ _ _ _ _ _ _ _ _ _ _ _ _ _ _ _ _ _ _ _ _ _ _ _ _ _ _ _ _ _ _ _ _ _ _ _ _ _ _ _ _ _ _ _ _ _ _ _ _ _ _ _ _ _ _ _ _ _ _ _ _ _ _ _ _ _ _ _ _ _ _ _ _ _ _ _ _ _ _ _ _ _ _ _ _ _ _ _ _ _ _ _ _ _ _ _ _ _ _ _ _ _ _ _ _ _ _ _ _ _ _ _ _ _ _ _ _ _ _ _ _ _ _ _ _ _ _ _ _ _ _ _ _ _ _ _ _ _ _ _ _ _ _ _ _ _ _ _ _ _ _ _ (Lib.hid ?_)
      intro w5 d22 d119 d120 d121 d122 d123 d124 d125 d126 d127 d128 d129 d130 d131 d132 d133 d134 d135 d136 d137 d138 d139 d140 d141 d142 d143 d144 d145 d146 d147 d148 d149 d150 d151 d152 d153 d154 d155 d156 d157 d158 d159 d160 I5 O5
      have J5 := Lib.hid I5
      have P5 := Lib.hid O5
      clear I5 O5 IH OA' OH RH
      go_wp2_with fail
      go_roundg g
      case measure => omega
      case rel => exact ⟨j + 1, by omega, by go_num, by rw [kpa_succ HX.out]; exact J5.out, P5.out⟩
end Go.Proofs.Ytlfggfoaelkapaa
