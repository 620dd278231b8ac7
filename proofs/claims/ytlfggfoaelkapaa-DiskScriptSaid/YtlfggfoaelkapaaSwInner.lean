/-
  DiskScript's loop over the bytes of a write, when its account of a disk goes on behind a stop: so many of its first bytes are kept as the document says. Conditions: as the theorem says.
-/
import Derived.Test.YtlfggfoaelkapaaSwByte
set_option linter.unusedSimpArgs false
set_option linter.unusedVariables false
namespace Go.Proofs.Ytlfggfoaelkapaa
open Go.RowKit
noncomputable def icc : Code := (Try.f3.body.map (behind 35)).getD .skip

set_option maxRecDepth 100000 in
set_option maxHeartbeats 4000000 in
theorem inner_wp (w wa : World) (p k : Nat) (pv : Value) (k2 sb fb cb db : Nat) (v : Value) (M N : Dk) (nn j Ab : Nat) (a : Ac) (o : Option Obj) (Hb : Nat) (x : Nat × (Nat → Nat)) (oh : Option Obj) (K : Nat → Nat → Nat)
    (I : Hid (Inv w wa p k pv k2 sb fb cb db v M { N with kept := K })) (O : Hid (Out w wa p k pv k2 sb fb cb db v Ab o)) (R : Hid (∀ W : World, W.heap[Ab]? = o → W.rangeAt Ab 0 (ac a)))
    (OH : Hid (Out w wa p k pv k2 sb fb cb db v Hb oh)) (RH : Hid (∀ W : World, W.heap[Hb]? = oh → W.rangeAt Hb 0 (wc x))) (hx : x.1 < nn) (hn : N.n = nn) (hn40 : nn < 40) (hj : j < 1000000) (hok : a.ok)
    (c0 c1 c2 c3 c4 c5 c6 c8 c9 c10 c11 c12 c13 c14 c16 c17 c18 c19 c22 c23 c24 c25 c26 c27 c28 c29 c30 c31 c32 c33 c34 c35 c36 c37 c38 c39 c40 c41 c42 c43 c44 c45 c46 c47 c48 c49 c50 c51 c52 c53 c54 c55 c56 c57 c58 c59 c60 c61 c62 c63 c64 c65 c66 c67 c68 c69 c70 c71 c72 c73 c74 c75 c76 c77 c78 c79 c80 c81 c82 c83 c84 c85 c86 c87 c88 c89 c90 c91 c92 c93 c94 c95 c96 c97 c98 c99 c100 c101 c102 c103 c104 c105 c106 c107 c108 c109 c110 c111 c112 c113 c114 c115 c116 c117 c118 c120 c121 c122 c123 c124 c125 c126 c127 c128 c129 c130 c131 c132 c133 c134 c135 c136 c137 c138 c139 c140 c141 c142 c143 c144 c145 c146 c147 c148 c149 c150 c151 c152 c153 c154 c155 c156 c157 c158 c159 c160 c161 c162 c163 c164 c165 c166 c167 c168 c169 c170 c171 c172 c173 c174 c175 c176 c177 c178 c179 c180 c181 c182 c183 c184 c185 c186 c187 c188 c189 c190 c191 c192 c193 c194 c195 c196 c197 c198 c199 c200 c201 c202 c203 c204 c205 c206 c207 c208 c209 c210 c211 c212 c213 c214 c215 c216 c217 c218 c219 c220 c221 c222 c223 c224 c225 c226 c227 c228 c229 c230 c231 c232 c233 c234 c235 c236 c237 c238 c239 c240 c241 c242 c243 c244 c245 c246 c247 c248 : Value) (Q : Exit → Act → World → Prop)
    (HQ : Hid (∀ (w' : World) (d22 d119 d120 d121 d122 d123 d124 d125 d126 d127 d128 d129 d130 d131 d132 d133 d134 d135 d136 d137 d138 d139 d140 d141 d142 d143 d144 d145 d146 d147 d148 d149 d150 d151 d152 d153 d154 d155 d156 d157 d158 d159 d160 : Value), Inv w w' p k pv k2 sb fb cb db v M { N with kept := ov K x.1 (amt a.mask a.torn a.bts j) x.2 } → Out w w' p k pv k2 sb fb cb db v Ab o → Q .normal ⟨#[c0, c1, c2, c3, c4, c5, c6, .slice (some ⟨k2, 0, none⟩) nn nn, c8, c9, c10, c11, c12, c13, c14, .pointer (some ⟨Ab, 0, none⟩), c16, c17, c18, c19, .int .i64 (j : Int), .pointer (some ⟨Hb, 0, none⟩), d22, c23, c24, c25, c26, c27, c28, c29, c30, c31, c32, c33, c34, c35, c36, c37, c38, c39, c40, c41, c42, c43, c44, c45, c46, c47, c48, c49, c50, c51, c52, c53, c54, c55, c56, c57, c58, c59, c60, c61, c62, c63, c64, c65, c66, c67, c68, c69, c70, c71, c72, c73, c74, c75, c76, c77, c78, c79, c80, c81, c82, c83, c84, c85, c86, c87, c88, c89, c90, c91, c92, c93, c94, c95, c96, c97, c98, c99, c100, c101, c102, c103, c104, c105, c106, c107, c108, c109, c110, c111, c112, c113, c114, c115, c116, c117, c118, d119, d120, d121, d122, d123, d124, d125, d126, d127, d128, d129, d130, d131, d132, d133, d134, d135, d136, d137, d138, d139, d140, d141, d142, d143, d144, d145, d146, d147, d148, d149, d150, d151, d152, d153, d154, d155, d156, d157, d158, d159, d160, c161, c162, c163, c164, c165, c166, c167, c168, c169, c170, c171, c172, c173, c174, c175, c176, c177, c178, c179, c180, c181, c182, c183, c184, c185, c186, c187, c188, c189, c190, c191, c192, c193, c194, c195, c196, c197, c198, c199, c200, c201, c202, c203, c204, c205, c206, c207, c208, c209, c210, c211, c212, c213, c214, c215, c216, c217, c218, c219, c220, c221, c222, c223, c224, c225, c226, c227, c228, c229, c230, c231, c232, c233, c234, c235, c236, c237, c238, c239, c240, c241, c242, c243, c244, c245, c246, c247, c248], []⟩ w')) :
    Code.wp Try.prog icc Q ⟨#[c0, c1, c2, c3, c4, c5, c6, .slice (some ⟨k2, 0, none⟩) nn nn, c8, c9, c10, c11, c12, c13, c14, .pointer (some ⟨Ab, 0, none⟩), c16, c17, c18, c19, .int .i64 (j : Int), .pointer (some ⟨Hb, 0, none⟩), c22, c23, c24, c25, c26, c27, c28, c29, c30, c31, c32, c33, c34, c35, c36, c37, c38, c39, c40, c41, c42, c43, c44, c45, c46, c47, c48, c49, c50, c51, c52, c53, c54, c55, c56, c57, c58, c59, c60, c61, c62, c63, c64, c65, c66, c67, c68, c69, c70, c71, c72, c73, c74, c75, c76, c77, c78, c79, c80, c81, c82, c83, c84, c85, c86, c87, c88, c89, c90, c91, c92, c93, c94, c95, c96, c97, c98, c99, c100, c101, c102, c103, c104, c105, c106, c107, c108, c109, c110, c111, c112, c113, c114, c115, c116, c117, c118, .int .i64 0, c120, c121, c122, c123, c124, c125, c126, c127, c128, c129, c130, c131, c132, c133, c134, c135, c136, c137, c138, c139, c140, c141, c142, c143, c144, c145, c146, c147, c148, c149, c150, c151, c152, c153, c154, c155, c156, c157, c158, c159, c160, c161, c162, c163, c164, c165, c166, c167, c168, c169, c170, c171, c172, c173, c174, c175, c176, c177, c178, c179, c180, c181, c182, c183, c184, c185, c186, c187, c188, c189, c190, c191, c192, c193, c194, c195, c196, c197, c198, c199, c200, c201, c202, c203, c204, c205, c206, c207, c208, c209, c210, c211, c212, c213, c214, c215, c216, c217, c218, c219, c220, c221, c222, c223, c224, c225, c226, c227, c228, c229, c230, c231, c232, c233, c234, c235, c236, c237, c238, c239, c240, c241, c242, c243, c244, c245, c246, c247, c248], []⟩ wa := by
  obtain ⟨hk1, _, hk3, hk4, ⟨hk5, hk5'⟩, ⟨hk6, hk6'⟩⟩ := hok
  conv => arg 2; whnf
  go_upto_region 36 with fail
  go_loopg [119] 64 (fun m i wr => ∃ n : Nat, n + m = 64 ∧ i = .int .i64 (n : Int) ∧ Hid (Inv w wr p k pv k2 sb fb cb db v M { N with kept := ov K x.1 (min n (amt a.mask a.torn a.bts j)) x.2 } ∧ Out w wr p k pv k2 sb fb cb db v Ab o ∧ Out w wr p k pv k2 sb fb cb db v Hb oh))
  case atStart => exact ⟨0, by omega, rfl, by rw [Nat.zero_min, ov_zero]; exact I.out, O.out, OH.out⟩
  case round =>
    clear I O OH
    obtain ⟨n, hnm, rfl, HH⟩ := hrel
    match gk with
    | 0 =>
      obtain rfl : n = 64 := by omega
      have I1 := Lib.hid (show Inv w wr p k pv k2 sb fb cb db v M { N with kept := ov K x.1 (amt a.mask a.torn a.bts j) x.2 } by
        have := HH.out.1
        rwa [Nat.min_eq_right (amt_le _ _ _ _)] at this)
      have O1 := Lib.hid HH.out.2.1
      clear HH
      go_wp2_with fail
      exact HQ.out _ _ _ _ _ _ _ _ _ _ _ _ _ _ _ _ _ _ _ _ _ _ _ _ _ _ _ _ _ _ _ _ _ _ _ _ _ _ _ _ _ _ _ _ I1.out O1.out
    | g + 1 =>
      have hn64 : n < 64 := by omega
      have I1 := Lib.hid HH.out.1
      have O1 := Lib.hid HH.out.2.1
      have H1 := Lib.hid HH.out.2.2
      clear HH
      have e3 : wr.cell? ⟨Ab, 3, none⟩ = some (.int .u64 (a.mask : Int)) := by have := R.out wr O1.out.eq 3 _ rfl; simpa using this
      have e4 : wr.cell? ⟨Ab, 4, none⟩ = some (.int .i8 a.torn) := by have := R.out wr O1.out.eq 4 _ rfl; simpa using this
      have e5 : wr.cell? ⟨Ab, 5, none⟩ = some (.int .i8 a.bts) := by have := R.out wr O1.out.eq 5 _ rfl; simpa using this
      have g0 : wr.cell? ⟨Hb, 0, none⟩ = some (.int .i64 (x.1 : Int)) := wc_head (RH.out wr H1.out.eq)
      have g1 : wr.cell? ⟨Hb, 1 + n, none⟩ = some (.int .u8 (x.2 n : Int)) := wc_tail (RH.out wr H1.out.eq) n _ (sc_get hn64)
      have k1 : wr.cell? ⟨k2, x.1 * 64 + n, none⟩ = some (.int .u8 ((ov K x.1 (min n (amt a.mask a.torn a.bts j)) x.2 x.1 n : Nat) : Int)) := by
        have := I1.out.lw.row.cell (i := x.1 * 64 + n) (show x.1 * 64 + n < N.n * 64 by rw [hn]; omega)
        rw [this, show (x.1 * 64 + n) / 64 = x.1 by omega, show (x.1 * 64 + n) % 64 = n by omega]
      have k3 := I1.out.lw.row.frozen (x.1 * 64 + n)
      have hbit : ((a.mask : Int) / 2 ^ (j % 64)).tmod 2 = ((a.mask / 2 ^ (j % 64) % 2 : Nat) : Int) := by
        rw [Int.tmod_eq_emod_of_nonneg (Int.ediv_nonneg (by omega) (Int.le_of_lt (Int.pow_pos (by decide))))]
        simp
      have HS := Lib.hid fun (hlt : n < amt a.mask a.torn a.bts j) => show Inv w (wr.drew.setCell ⟨k2, x.1 * 64 + n, none⟩ (.int .u8 (x.2 n : Int))) p k pv k2 sb fb cb db v M { N with kept := ov K x.1 (min (n + 1) (amt a.mask a.torn a.bts j)) x.2 } by
        rw [Nat.min_eq_left (show n + 1 ≤ amt a.mask a.torn a.bts j from hlt)]
        have I2 := I1.out.below ((Below.refl wr.heap.size wr).drew)
        have := I2.lw.putOne K x.1 n x.2 hn64 (by show ov K x.1 (min n (amt a.mask a.torn a.bts j)) x.2 = _; rw [Nat.min_eq_left (Nat.le_of_lt hlt)])
        exact I2.law this (step_set (Step.refl wr.drew _) k2 (x.1 * 64 + n) (.inl rfl) _)
      have HO := Lib.hid fun (b : Nat) (oo : Option Obj) (ho : Out w wr p k pv k2 sb fb cb db v b oo) => (ho.below ((Below.refl wr.heap.size wr).drew)).law (step_set (Step.refl wr.drew (gt k2 sb fb cb db v)) k2 (x.1 * 64 + n) (.inl rfl) (.int .u8 (x.2 n : Int)))
      have HN := Lib.hid fun (hge : ¬ n < amt a.mask a.torn a.bts j) => show Inv w wr p k pv k2 sb fb cb db v M { N with kept := ov K x.1 (min (n + 1) (amt a.mask a.torn a.bts j)) x.2 } by
        have := I1.out
        rwa [show min n (amt a.mask a.torn a.bts j) = min (n + 1) (amt a.mask a.torn a.bts j) by omega] at this
      by_cases hjt : (j : Int) = a.torn
      · rw [← hjt] at e4
        clear hbit
        by_cases hb : (n : Int) < a.bts
        · have HL := Lib.hid (show n < amt a.mask a.torn a.bts j by unfold amt; rw [if_pos hjt]; omega)
          clear hjt
          go_upto_region 39 with fail
          refine reg39_wp wr k2 nn Hb n x _ hx hn40 hn64 g0 g1 k1 k3 _ _ _ _ _ _ _ _ _ _ _ _ _ _ _ _ _ _ _ _ _ _ _ _ _ _ _ _ _ _ _ _ _ _ _ _ _ _ _ _ _ _ _ _ _ _ _ _ _ _ _ _ _ _ _ _ _ _ _ _ _ _ _ _ _ _ _ _ _ _ _ _ _ _ _ _ _ _ _ _ _ _ _ _ _ _ _ _ _ _ _ _ _ _ _ _ _ _ _ _ _ _ _ _ _ _ _ _ _ _ _ _ _ _ _ _ _ _ _ _ _ _ _ _ _ _ _ _ _ _ _ _ _ _ _ _ _ _ _ _ _ _ _ _ _ _ _ _ _ _ _ _ _ _ _ _ _ _ _ _ _ _ _ _ _ _ _ _ _ _ _ _ _ _ _ _ _ _ _ _ _ _ _ _ _ _ _ _ _ _ _ _ _ _ _ _ _ _ _ _ _ _ _ _ _ _ _ _ _ _ _ _ _ _ _ _ _ _ _ _ _ _ _ _ _ _ _ _ _ _ _ _ _ _ _ _ _ _ _ _ _ _ _ _ _ _ _ (Lib.hid ?_)
          intro d150 d151 d152 d153 d154 d155 d156 d157 d158 d159
          go_wp2_with fail
          go_roundg g
          case measure => omega
          case rel => exact ⟨n + 1, by omega, by go_num, HS.out HL.out, HO.out Ab o O1.out, HO.out Hb oh H1.out⟩
        · have HL := Lib.hid (show ¬ n < amt a.mask a.torn a.bts j by unfold amt; rw [if_pos hjt]; omega)
          have hb' : decide ((n : Int) < a.bts) = false := decide_eq_false hb
          clear hjt
          go_wp2_with fail
          go_roundg g
          case measure => omega
          case rel => exact ⟨n + 1, by omega, by go_num, HN.out HL.out, O1.out, H1.out⟩
      · by_cases hb : a.mask / 2 ^ (j % 64) % 2 = 1
        · have HL := Lib.hid (show n < amt a.mask a.torn a.bts j by unfold amt; rw [if_neg hjt, if_pos hb]; omega)
          rw [hb] at hbit
          clear hb
          go_upto_region 39 with fail
          refine reg39_wp wr k2 nn Hb n x _ hx hn40 hn64 g0 g1 k1 k3 _ _ _ _ _ _ _ _ _ _ _ _ _ _ _ _ _ _ _ _ _ _ _ _ _ _ _ _ _ _ _ _ _ _ _ _ _ _ _ _ _ _ _ _ _ _ _ _ _ _ _ _ _ _ _ _ _ _ _ _ _ _ _ _ _ _ _ _ _ _ _ _ _ _ _ _ _ _ _ _ _ _ _ _ _ _ _ _ _ _ _ _ _ _ _ _ _ _ _ _ _ _ _ _ _ _ _ _ _ _ _ _ _ _ _ _ _ _ _ _ _ _ _ _ _ _ _ _ _ _ _ _ _ _ _ _ _ _ _ _ _ _ _ _ _ _ _ _ _ _ _ _ _ _ _ _ _ _ _ _ _ _ _ _ _ _ _ _ _ _ _ _ _ _ _ _ _ _ _ _ _ _ _ _ _ _ _ _ _ _ _ _ _ _ _ _ _ _ _ _ _ _ _ _ _ _ _ _ _ _ _ _ _ _ _ _ _ _ _ _ _ _ _ _ _ _ _ _ _ _ _ _ _ _ _ _ _ _ _ _ _ _ _ _ _ _ _ (Lib.hid ?_)
          intro d150 d151 d152 d153 d154 d155 d156 d157 d158 d159
          go_wp2_with fail
          go_roundg g
          case measure => omega
          case rel => exact ⟨n + 1, by omega, by go_num, HS.out HL.out, HO.out Ab o O1.out, HO.out Hb oh H1.out⟩
        · have HL := Lib.hid (show ¬ n < amt a.mask a.torn a.bts j by unfold amt; rw [if_neg hjt, if_neg hb]; omega)
          rw [show a.mask / 2 ^ (j % 64) % 2 = 0 by omega] at hbit
          clear hb
          go_wp2_with fail
          go_roundg g
          case measure => omega
          case rel => exact ⟨n + 1, by omega, by go_num, HN.out HL.out, O1.out, H1.out⟩
end Go.Proofs.Ytlfggfoaelkapaa
