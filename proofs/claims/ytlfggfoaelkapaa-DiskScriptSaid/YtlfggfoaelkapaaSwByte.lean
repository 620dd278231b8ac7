/-
  DiskScript's statement that keeps one byte of a write: whichever order it takes, that byte is set. Conditions: as the theorem says.
-/
import Derived.Test.YtlfggfoaelkapaaSwFlush
set_option linter.unusedSimpArgs false
set_option linter.unusedVariables false
namespace Go.Proofs.Ytlfggfoaelkapaa
open Go.RowKit
/-- The region of that number. -/
def seekR (n : Nat) : Code → Option Code
  | .region m a b => if m == n then some (.region m a b) else none
  | .seq a b => match seekR n a with
    | some c => some c
    | none => seekR n b
  | .loop c => seekR n c
  | .block _ c => seekR n c
  | .scope c => seekR n c
  | .cond _ a b => match seekR n a with
    | some c => some c
    | none => seekR n b
  | _ => none
/-- What stands behind that region. -/
def behind (n : Nat) (c : Code) : Code := match seek (heads n) c with
  | some (.seq _ b) => b
  | _ => .skip
noncomputable def rcc : Code := (Try.f3.body.bind (seekR 39)).getD .skip

set_option maxRecDepth 100000 in
set_option maxHeartbeats 4000000 in
theorem reg39_wp (wr : World) (k2 nn Hb n : Nat) (x : Nat × (Nat → Nat)) (y : Value) (hx : x.1 < nn) (hn40 : nn < 40) (hn64 : n < 64)
    (g0 : wr.cell? ⟨Hb, 0, none⟩ = some (.int .i64 (x.1 : Int))) (g1 : wr.cell? ⟨Hb, 1 + n, none⟩ = some (.int .u8 (x.2 n : Int)))
    (k1 : wr.cell? ⟨k2, x.1 * 64 + n, none⟩ = some y) (k3 : wr.frozen? ⟨k2, x.1 * 64 + n, none⟩ = false)
    (c0 c1 c2 c3 c4 c5 c6 c8 c9 c10 c11 c12 c13 c14 c15 c16 c17 c18 c19 c20 c23 c24 c25 c26 c27 c28 c29 c30 c31 c32 c33 c34 c35 c36 c37 c38 c39 c40 c41 c42 c43 c44 c45 c46 c47 c48 c49 c50 c51 c52 c53 c54 c55 c56 c57 c58 c59 c60 c61 c62 c63 c64 c65 c66 c67 c68 c69 c70 c71 c72 c73 c74 c75 c76 c77 c78 c79 c80 c81 c82 c83 c84 c85 c86 c87 c88 c89 c90 c91 c92 c93 c94 c95 c96 c97 c98 c99 c100 c101 c102 c103 c104 c105 c106 c107 c108 c109 c110 c111 c112 c113 c114 c115 c116 c117 c118 c119 c120 c121 c122 c123 c124 c125 c126 c127 c128 c129 c130 c131 c132 c133 c134 c135 c136 c137 c138 c139 c140 c141 c142 c143 c144 c145 c146 c147 c148 c149 c150 c151 c152 c153 c154 c155 c156 c157 c158 c159 c160 c161 c162 c163 c164 c165 c166 c167 c168 c169 c170 c171 c172 c173 c174 c175 c176 c177 c178 c179 c180 c181 c182 c183 c184 c185 c186 c187 c188 c189 c190 c191 c192 c193 c194 c195 c196 c197 c198 c199 c200 c201 c202 c203 c204 c205 c206 c207 c208 c209 c210 c211 c212 c213 c214 c215 c216 c217 c218 c219 c220 c221 c222 c223 c224 c225 c226 c227 c228 c229 c230 c231 c232 c233 c234 c235 c236 c237 c238 c239 c240 c241 c242 c243 c244 c245 c246 c247 c248 : Value) (Q : Exit → Act → World → Prop)
    (HQ : Hid (∀ (d150 d151 d152 d153 d154 d155 d156 d157 d158 d159 : Value), Q .normal ⟨#[c0, c1, c2, c3, c4, c5, c6, .slice (some ⟨k2, 0, none⟩) nn nn, c8, c9, c10, c11, c12, c13, c14, c15, c16, c17, c18, c19, c20, .pointer (some ⟨Hb, 0, none⟩), .int .i64 (n : Int), c23, c24, c25, c26, c27, c28, c29, c30, c31, c32, c33, c34, c35, c36, c37, c38, c39, c40, c41, c42, c43, c44, c45, c46, c47, c48, c49, c50, c51, c52, c53, c54, c55, c56, c57, c58, c59, c60, c61, c62, c63, c64, c65, c66, c67, c68, c69, c70, c71, c72, c73, c74, c75, c76, c77, c78, c79, c80, c81, c82, c83, c84, c85, c86, c87, c88, c89, c90, c91, c92, c93, c94, c95, c96, c97, c98, c99, c100, c101, c102, c103, c104, c105, c106, c107, c108, c109, c110, c111, c112, c113, c114, c115, c116, c117, c118, c119, c120, c121, c122, c123, c124, c125, c126, c127, c128, c129, c130, c131, c132, c133, c134, c135, c136, c137, c138, c139, c140, c141, c142, c143, c144, c145, c146, c147, c148, c149, d150, d151, d152, d153, d154, d155, d156, d157, d158, d159, c160, c161, c162, c163, c164, c165, c166, c167, c168, c169, c170, c171, c172, c173, c174, c175, c176, c177, c178, c179, c180, c181, c182, c183, c184, c185, c186, c187, c188, c189, c190, c191, c192, c193, c194, c195, c196, c197, c198, c199, c200, c201, c202, c203, c204, c205, c206, c207, c208, c209, c210, c211, c212, c213, c214, c215, c216, c217, c218, c219, c220, c221, c222, c223, c224, c225, c226, c227, c228, c229, c230, c231, c232, c233, c234, c235, c236, c237, c238, c239, c240, c241, c242, c243, c244, c245, c246, c247, c248], []⟩ (wr.drew.setCell ⟨k2, x.1 * 64 + n, none⟩ (.int .u8 (x.2 n : Int))))) :
    Code.wp Try.prog rcc Q ⟨#[c0, c1, c2, c3, c4, c5, c6, .slice (some ⟨k2, 0, none⟩) nn nn, c8, c9, c10, c11, c12, c13, c14, c15, c16, c17, c18, c19, c20, .pointer (some ⟨Hb, 0, none⟩), .int .i64 (n : Int), c23, c24, c25, c26, c27, c28, c29, c30, c31, c32, c33, c34, c35, c36, c37, c38, c39, c40, c41, c42, c43, c44, c45, c46, c47, c48, c49, c50, c51, c52, c53, c54, c55, c56, c57, c58, c59, c60, c61, c62, c63, c64, c65, c66, c67, c68, c69, c70, c71, c72, c73, c74, c75, c76, c77, c78, c79, c80, c81, c82, c83, c84, c85, c86, c87, c88, c89, c90, c91, c92, c93, c94, c95, c96, c97, c98, c99, c100, c101, c102, c103, c104, c105, c106, c107, c108, c109, c110, c111, c112, c113, c114, c115, c116, c117, c118, c119, c120, c121, c122, c123, c124, c125, c126, c127, c128, c129, c130, c131, c132, c133, c134, c135, c136, c137, c138, c139, c140, c141, c142, c143, c144, c145, c146, c147, c148, c149, c150, c151, c152, c153, c154, c155, c156, c157, c158, c159, c160, c161, c162, c163, c164, c165, c166, c167, c168, c169, c170, c171, c172, c173, c174, c175, c176, c177, c178, c179, c180, c181, c182, c183, c184, c185, c186, c187, c188, c189, c190, c191, c192, c193, c194, c195, c196, c197, c198, c199, c200, c201, c202, c203, c204, c205, c206, c207, c208, c209, c210, c211, c212, c213, c214, c215, c216, c217, c218, c219, c220, c221, c222, c223, c224, c225, c226, c227, c228, c229, c230, c231, c232, c233, c234, c235, c236, c237, c238, c239, c240, c241, c242, c243, c244, c245, c246, c247, c248], []⟩ wr := by
  have hn64' : (n : Int) < 64 := by omega
  have hx' : (x.1 : Int) < nn := by omega
  conv => arg 2; whnf
  dsimp only
  go_region
  all_goals exact HQ.out _ _ _ _ _ _ _ _ _ _
end Go.Proofs.Ytlfggfoaelkapaa
