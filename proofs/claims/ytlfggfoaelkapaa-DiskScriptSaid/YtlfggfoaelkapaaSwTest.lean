/-
  DiskScript's test of what a disk tells: it is what the account tells. Conditions: as the theorem says.
-/
import Derived.Test.YtlfggfoaelkapaaSwByte
set_option linter.unusedSimpArgs false
set_option linter.unusedVariables false
namespace Go.Proofs.Ytlfggfoaelkapaa
open Go.RowKit
noncomputable def fcc : Code := (Try.f3.body.bind (seekR 69)).getD .skip

set_option maxRecDepth 100000 in
set_option maxHeartbeats 4000000 in
theorem test_wp (w wa : World) (p k : Nat) (pv : Value) (k2 sb fb cb db : Nat) (A8 : Option Addr) (cp8 : Nat) (M : Dk) (nn X Y : Nat) (s : Nat → Nat) (r gg : Int)
    (I : Hid (Inv w wa p k pv k2 sb fb cb db (.slice A8 M.pend.length cp8) M M)) (hn : M.n = nn) (RX : Hid (wa.rangeAt X 0 (sc s))) (RY : Hid (wa.rangeAt Y 0 (sc s)))
    (c0 c1 c2 c3 c4 c7 c9 c10 c13 c14 c15 c16 c17 c20 c21 c22 c23 c24 c29 c30 c31 c32 c33 c34 c35 c36 c37 c38 c39 c40 c41 c42 c43 c44 c45 c46 c47 c48 c49 c50 c51 c52 c53 c54 c55 c56 c57 c58 c59 c60 c61 c62 c63 c64 c65 c66 c67 c68 c69 c70 c71 c72 c73 c74 c75 c76 c77 c78 c79 c80 c81 c82 c83 c84 c85 c86 c87 c88 c89 c90 c91 c92 c93 c94 c95 c96 c97 c98 c99 c100 c101 c102 c103 c104 c105 c106 c107 c108 c109 c110 c111 c112 c113 c114 c115 c116 c117 c118 c119 c120 c121 c122 c123 c124 c125 c126 c127 c128 c129 c130 c131 c132 c133 c134 c135 c136 c137 c138 c139 c140 c141 c142 c143 c144 c145 c146 c147 c148 c149 c150 c151 c152 c153 c154 c155 c156 c157 c158 c159 c160 c161 c162 c163 c164 c165 c166 c167 c168 c169 c170 c171 c172 c173 c174 c175 c176 c177 c178 c179 c180 c181 c182 c183 c184 c185 c186 c187 c188 c189 c190 c191 c192 c193 c194 c195 c196 c197 c198 c199 c200 c201 c202 c203 c204 c205 c206 c207 c208 c209 c210 c211 c212 c213 c214 c215 c216 c217 c218 c219 c220 c221 c222 c223 c224 c225 c226 c227 c228 c229 c230 c231 c232 c233 c234 c235 c236 c237 c238 c239 c240 c241 c242 c243 c244 c245 c246 c247 c248 : Value) (Q : Exit → Act → World → Prop)
    (HQ : Hid (∀ (w' : World) (d210 d211 d212 d213 d214 d215 d216 d217 d218 d219 d220 d221 d222 d223 d224 d225 d226 d227 d228 d229 d230 d231 d232 d233 d234 d235 d236 d237 d238 d239 d240 d241 d242 d243 d244 d245 d246 : Value), Inv w w' p k pv k2 sb fb cb db (.slice A8 M.pend.length cp8) M M → Q .normal ⟨#[c0, c1, c2, c3, c4, .int .i64 (nn : Int), .pointer (some ⟨p, 0, none⟩), c7, .slice A8 M.pend.length cp8, c9, c10, .pointer (some ⟨cb, 0, none⟩), .pointer (some ⟨db, 0, none⟩), c13, c14, c15, c16, c17, .int .i64 r, .int .i64 r, c20, c21, c22, c23, c24, .pointer (some ⟨X, 0, none⟩), .int .i64 gg, .pointer (some ⟨Y, 0, none⟩), .int .i64 gg, c29, c30, c31, c32, c33, c34, c35, c36, c37, c38, c39, c40, c41, c42, c43, c44, c45, c46, c47, c48, c49, c50, c51, c52, c53, c54, c55, c56, c57, c58, c59, c60, c61, c62, c63, c64, c65, c66, c67, c68, c69, c70, c71, c72, c73, c74, c75, c76, c77, c78, c79, c80, c81, c82, c83, c84, c85, c86, c87, c88, c89, c90, c91, c92, c93, c94, c95, c96, c97, c98, c99, c100, c101, c102, c103, c104, c105, c106, c107, c108, c109, c110, c111, c112, c113, c114, c115, c116, c117, c118, c119, c120, c121, c122, c123, c124, c125, c126, c127, c128, c129, c130, c131, c132, c133, c134, c135, c136, c137, c138, c139, c140, c141, c142, c143, c144, c145, c146, c147, c148, c149, c150, c151, c152, c153, c154, c155, c156, c157, c158, c159, c160, c161, c162, c163, c164, c165, c166, c167, c168, c169, c170, c171, c172, c173, c174, c175, c176, c177, c178, c179, c180, c181, c182, c183, c184, c185, c186, c187, c188, c189, c190, c191, c192, c193, c194, c195, c196, c197, c198, c199, c200, c201, c202, c203, c204, c205, c206, c207, c208, c209, d210, d211, d212, d213, d214, d215, d216, d217, d218, d219, d220, d221, d222, d223, d224, d225, d226, d227, d228, d229, d230, d231, d232, d233, d234, d235, d236, d237, d238, d239, d240, d241, d242, d243, d244, d245, d246, .bool false, c248], []⟩ w')) :
    Code.wp Try.prog fcc Q ⟨#[c0, c1, c2, c3, c4, .int .i64 (nn : Int), .pointer (some ⟨p, 0, none⟩), c7, .slice A8 M.pend.length cp8, c9, c10, .pointer (some ⟨cb, 0, none⟩), .pointer (some ⟨db, 0, none⟩), c13, c14, c15, c16, c17, .int .i64 r, .int .i64 r, c20, c21, c22, c23, c24, .pointer (some ⟨X, 0, none⟩), .int .i64 gg, .pointer (some ⟨Y, 0, none⟩), .int .i64 gg, c29, c30, c31, c32, c33, c34, c35, c36, c37, c38, c39, c40, c41, c42, c43, c44, c45, c46, c47, c48, c49, c50, c51, c52, c53, c54, c55, c56, c57, c58, c59, c60, c61, c62, c63, c64, c65, c66, c67, c68, c69, c70, c71, c72, c73, c74, c75, c76, c77, c78, c79, c80, c81, c82, c83, c84, c85, c86, c87, c88, c89, c90, c91, c92, c93, c94, c95, c96, c97, c98, c99, c100, c101, c102, c103, c104, c105, c106, c107, c108, c109, c110, c111, c112, c113, c114, c115, c116, c117, c118, c119, c120, c121, c122, c123, c124, c125, c126, c127, c128, c129, c130, c131, c132, c133, c134, c135, c136, c137, c138, c139, c140, c141, c142, c143, c144, c145, c146, c147, c148, c149, c150, c151, c152, c153, c154, c155, c156, c157, c158, c159, c160, c161, c162, c163, c164, c165, c166, c167, c168, c169, c170, c171, c172, c173, c174, c175, c176, c177, c178, c179, c180, c181, c182, c183, c184, c185, c186, c187, c188, c189, c190, c191, c192, c193, c194, c195, c196, c197, c198, c199, c200, c201, c202, c203, c204, c205, c206, c207, c208, c209, c210, c211, c212, c213, c214, c215, c216, c217, c218, c219, c220, c221, c222, c223, c224, c225, c226, c227, c228, c229, c230, c231, c232, c233, c234, c235, c236, c237, c238, c239, c240, c241, c242, c243, c244, c245, c246, c247, c248], []⟩ wa := by
  have e1 := cell_regrown I.out.lw.cd.1
  have e2 := cell_regrown I.out.lw.cc.1
  have CW := Lib.hid fun d os => wait_re I.out.ds d os
  have CD := Lib.hid fun d os => down_re I.out.ds d os
  have CC := Lib.hid fun d os => calls_re I.out.ds d os
  have CS := Lib.hid fun d os => hn ▸ size_re I.out.ds d os
  conv => arg 2; whnf
  dsimp only
  refine wp_region_quiet_below (by kernel_rfl) (by kernel_rfl) ?_
  repeat (first
    | (refine quiet_load38 (.tmp 25) (by kernel_rfl) rfl X 0 s rfl (fun W hW => by obtain ⟨⟨dq, oq⟩, rfl⟩ := hW; exact range_below RX.out (below_regrown wa dq oq)) ?_; simp only [Act.put, List.setIfInBounds_toArray, List.set_cons_zero, List.set_cons_succ])
    | (refine quiet_load38 (.tmp 27) (by kernel_rfl) rfl Y 0 s rfl (fun W hW => by obtain ⟨⟨dq, oq⟩, rfl⟩ := hW; exact range_below RY.out (below_regrown wa dq oq)) ?_; simp only [Act.put, List.setIfInBounds_toArray, List.set_cons_zero, List.set_cons_succ])
    | (refine quiet_neq38 (.tmp 214) (.tmp 215) (by kernel_rfl) rfl s s rfl rfl ?_; rw [eq64_refl]; simp only [Act.put, List.setIfInBounds_toArray, List.set_cons_zero, List.set_cons_succ, Bool.not_true])
    | (go_big_quiet_step (first | (go_at_call 20; exact CW.out _ _) | (go_at_call 21; exact CD.out _ _) | (go_at_call 22; exact CC.out _ _) | (go_at_call 23; exact CS.out _ _))))
  refine wpQuiet_nil ?_
  intro _ hw'
  obtain ⟨⟨dq, osq⟩, hw''⟩ := hw'
  subst hw''
  have I9 := Lib.hid (I.out.below (below_regrown wa dq osq))
  clear e1 e2 CW CD CC CS
  generalize Sort.grow (redrawn wa dq) osq = W at *
  exact HQ.out _ _ _ _ _ _ _ _ _ _ _ _ _ _ _ _ _ _ _ _ _ _ _ _ _ _ _ _ _ _ _ _ _ _ _ _ _ _ I9.out
end Go.Proofs.Ytlfggfoaelkapaa
