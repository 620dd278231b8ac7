/-
  DiskScript's deed Write: the disk and the account go on alike. Conditions: as the theorem says.
-/
import Derived.Test.YtlfggfoaelkapaaCode
set_option linter.unusedSimpArgs false
set_option linter.unusedVariables false
namespace Go.Proofs.Ytlfggfoaelkapaa
open Go.RowKit

theorem tick_lt1000 {o : Option Nat} (h : o.getD 0 < 1000) : (tick o).getD 0 < 1000 := tick_lt h
theorem Gd.cnt {nn q : Nat} {M : Dk} (h : Gd nn q M) : Gd nn (q + 1) M.cnt := ⟨h.1, Nat.succ_le_succ h.2.1, tick_lt1000 h.2.2.1, tick_lt1000 h.2.2.2⟩
theorem Gd.up {nn q : Nat} {M : Dk} (h : Gd nn q M) : Gd nn (q + 1) M := ⟨h.1, Nat.le_succ_of_le h.2.1, h.2.2.1, h.2.2.2⟩

set_option maxRecDepth 100000 in
set_option maxHeartbeats 2000000 in
theorem sw_write (w wa : World) (p k : Nat) (pv : Value) (k2 sb fb cb db : Nat) (v : Value) (M : Dk) (nn q Ab : Nat) (a : Ac) (atv : Int) (inn : Bool) (o : Option Obj)
    (I : Hid (Inv w wa p k pv k2 sb fb cb db v M M)) (G : Hid (Gd nn q M)) (hq : q < 200) (O : Hid (Out w wa p k pv k2 sb fb cb db v Ab o)) (R : Hid (∀ W : World, W.heap[Ab]? = o → W.rangeAt Ab 0 (ac a)))
    (hok : a.ok) (hat1 : -50 < atv) (hat2 : atv < 50) (HIN : Hid (decide (0 ≤ atv ∧ atv < (nn : Int)) = inn)) (m : Nat) (hop : (a.op : Int) % 12 = m) (hm : 4 ≤ m)
    (c0 c1 c2 c3 c4 c14 c20 c21 c22 c23 c24 c25 c26 c27 c28 c29 c30 c31 c32 c33 c34 c35 c36 c37 c38 c39 c40 c41 c42 c43 c44 c45 c46 c47 c48 c49 c50 c51 c52 c53 c54 c55 c56 c57 c58 c59 c60 c61 c62 c63 c64 c65 c66 c67 c68 c69 c70 c71 c72 c73 c74 c75 c76 c77 c78 c79 c80 c81 c82 c83 c84 c85 c86 c87 c88 c89 c90 c91 c92 c93 c94 c95 c96 c97 c98 c99 c100 c101 c102 c103 c104 c105 c106 c107 c108 c109 c110 c111 c112 c113 c114 c115 c116 c117 c118 c119 c120 c121 c122 c123 c124 c125 c126 c127 c128 c129 c130 c131 c132 c133 c134 c135 c136 c137 c138 c139 c140 c141 c142 c143 c144 c145 c146 c147 c148 c149 c150 c151 c152 c153 c154 c155 c156 c157 c158 c159 c160 c161 c162 c163 c164 c165 c166 c167 c168 c169 c170 c171 c172 c173 c174 c175 c176 c177 c178 c179 c180 c181 c182 c183 c184 c185 c186 c187 c188 c189 c190 c191 c192 c193 c194 c195 c196 c197 c198 c199 c200 c201 c202 c203 c204 c205 c206 c207 c208 c209 c210 c211 c212 c213 c214 c215 c216 c217 c218 c219 c220 c221 c222 c223 c224 c225 c226 c227 c228 c229 c230 c231 c232 c233 c234 c235 c236 c237 c238 c239 c240 c241 c242 c243 c244 c245 c246 c247 c248 : Value) (Q : Exit → Act → World → Prop)
    (HQ : Hid (∀ (v' : Value) (r : Int) (pv' : Value) (M' : Dk) (w' : World) (d20 d21 d22 d24 d62 d63 d64 d65 d66 d67 d68 d69 d70 d71 d72 d73 d74 d75 d76 d77 d78 d79 d80 d81 d82 d83 d84 d85 d86 d87 d88 d89 d90 d91 d92 d93 d94 d95 d96 d97 d98 d99 d100 d101 d102 d103 d104 d105 d106 d107 d108 d109 d110 d111 d112 d113 d114 d115 d116 d117 d118 d119 d120 d121 d122 d123 d124 d125 d126 d127 d128 d129 d130 d131 d132 d133 d134 d135 d136 d137 d138 d139 d140 d141 d142 d143 d144 d145 d146 d147 d148 d149 d150 d151 d152 d153 d154 d155 d156 d157 d158 d159 d160 d161 d162 d163 d164 d165 d166 d167 d168 d169 d170 d171 d172 d173 d174 d175 d176 d177 d178 d179 d180 d181 d182 d183 : Value), Inv w w' p k pv' k2 sb fb cb db v' M' M' → Gd nn (q + 1) M' → Q .normal ⟨#[c0, c1, c2, c3, c4, .int .i64 (nn : Int), .pointer (some ⟨p, 0, none⟩), .slice (some ⟨k2, 0, none⟩) nn nn, v', .pointer (some ⟨sb, 0, none⟩), .pointer (some ⟨fb, 0, none⟩), .pointer (some ⟨cb, 0, none⟩), .pointer (some ⟨db, 0, none⟩), .func (.func 12) #[] #[.pointer (some ⟨cb, 0, none⟩), .pointer (some ⟨fb, 0, none⟩), .pointer (some ⟨sb, 0, none⟩), .pointer (some ⟨db, 0, none⟩)], c14, .pointer (some ⟨Ab, 0, none⟩), .int .i64 atv, .bool inn, .int .i64 r, .int .i64 r, d20, d21, d22, c23, d24, c25, c26, c27, c28, c29, c30, c31, c32, c33, c34, c35, c36, c37, c38, c39, c40, c41, c42, c43, c44, c45, c46, c47, c48, c49, c50, c51, c52, c53, c54, c55, c56, c57, c58, c59, c60, c61, d62, d63, d64, d65, d66, d67, d68, d69, d70, d71, d72, d73, d74, d75, d76, d77, d78, d79, d80, d81, d82, d83, d84, d85, d86, d87, d88, d89, d90, d91, d92, d93, d94, d95, d96, d97, d98, d99, d100, d101, d102, d103, d104, d105, d106, d107, d108, d109, d110, d111, d112, d113, d114, d115, d116, d117, d118, d119, d120, d121, d122, d123, d124, d125, d126, d127, d128, d129, d130, d131, d132, d133, d134, d135, d136, d137, d138, d139, d140, d141, d142, d143, d144, d145, d146, d147, d148, d149, d150, d151, d152, d153, d154, d155, d156, d157, d158, d159, d160, d161, d162, d163, d164, d165, d166, d167, d168, d169, d170, d171, d172, d173, d174, d175, d176, d177, d178, d179, d180, d181, d182, d183, c184, c185, c186, c187, c188, c189, c190, c191, c192, c193, c194, c195, c196, c197, c198, c199, c200, c201, c202, c203, c204, c205, c206, c207, c208, c209, c210, c211, c212, c213, c214, c215, c216, c217, c218, c219, c220, c221, c222, c223, c224, c225, c226, c227, c228, c229, c230, c231, c232, c233, c234, c235, c236, c237, c238, c239, c240, c241, c242, c243, c244, c245, c246, c247, c248], []⟩ w')) :
    Code.wp Try.prog swc Q ⟨#[c0, c1, c2, c3, c4, .int .i64 (nn : Int), .pointer (some ⟨p, 0, none⟩), .slice (some ⟨k2, 0, none⟩) nn nn, v, .pointer (some ⟨sb, 0, none⟩), .pointer (some ⟨fb, 0, none⟩), .pointer (some ⟨cb, 0, none⟩), .pointer (some ⟨db, 0, none⟩), .func (.func 12) #[] #[.pointer (some ⟨cb, 0, none⟩), .pointer (some ⟨fb, 0, none⟩), .pointer (some ⟨sb, 0, none⟩), .pointer (some ⟨db, 0, none⟩)], c14, .pointer (some ⟨Ab, 0, none⟩), .int .i64 atv, .bool inn, .int .i64 0, .int .i64 0, c20, c21, c22, c23, c24, c25, c26, c27, c28, c29, c30, c31, c32, c33, c34, c35, c36, c37, c38, c39, c40, c41, c42, c43, c44, c45, c46, c47, c48, c49, c50, c51, c52, c53, c54, c55, c56, c57, c58, c59, c60, c61, c62, c63, c64, c65, c66, c67, c68, c69, c70, c71, c72, c73, c74, c75, c76, c77, c78, c79, c80, c81, c82, c83, c84, c85, c86, c87, c88, c89, c90, c91, c92, c93, c94, c95, c96, c97, c98, c99, c100, c101, c102, c103, c104, c105, c106, c107, c108, c109, c110, c111, c112, c113, c114, c115, c116, c117, c118, c119, c120, c121, c122, c123, c124, c125, c126, c127, c128, c129, c130, c131, c132, c133, c134, c135, c136, c137, c138, c139, c140, c141, c142, c143, c144, c145, c146, c147, c148, c149, c150, c151, c152, c153, c154, c155, c156, c157, c158, c159, c160, c161, c162, c163, c164, c165, c166, c167, c168, c169, c170, c171, c172, c173, c174, c175, c176, c177, c178, c179, c180, c181, c182, c183, c184, c185, c186, c187, c188, c189, c190, c191, c192, c193, c194, c195, c196, c197, c198, c199, c200, c201, c202, c203, c204, c205, c206, c207, c208, c209, c210, c211, c212, c213, c214, c215, c216, c217, c218, c219, c220, c221, c222, c223, c224, c225, c226, c227, c228, c229, c230, c231, c232, c233, c234, c235, c236, c237, c238, c239, c240, c241, c242, c243, c244, c245, c246, c247, c248], []⟩ wa := by
  obtain ⟨hk1, _, hk3, _, _, _⟩ := hok
  have hm0 : ¬ (m : Int) = 0 := by omega
  have hm1 : ¬ (m : Int) = 1 := by omega
  have hm2 : ¬ (m : Int) = 2 := by omega
  have hm3 : ¬ (m : Int) = 3 := by omega
  have e0 : wa.cell? ⟨Ab, 0, none⟩ = some (.int .u8 (a.op : Int)) := by have := R.out wa O.out.eq 0 _ rfl; simpa using this
  have e2 : wa.cell? ⟨Ab, 2, none⟩ = some (.int .u8 (a.by' : Int)) := by have := R.out wa O.out.eq 2 _ rfl; simpa using this
  have hcl : M.calls + 1 < 1000000 := by have := G.out.2.1; omega
  conv => arg 2; whnf
  go_wp2_with fail
  refine (sector_any a.by' hk3 wa).mono ?_
  rintro e w1 ⟨rfl, b1⟩
  have I1 := Lib.hid (I.out.below b1)
  have O1 := Lib.hid (O.out.below b1)
  clear b1 I O e0 e2
  go_wp2_with fail
  have C1 := Lib.hid (write_any p k pv M atv (sec a.by') w1 I1.out.ds hcl)
  refine C1.out.mono ?_
  rintro e w2 ⟨rfl, pv2, h2, s2⟩
  have I2 := Lib.hid (I1.out.disk h2 s2)
  have O2 := Lib.hid (O1.out.disk s2)
  clear h2 s2 C1 I1 O1
  obtain ⟨c4, f4⟩ := I2.out.lw.cd
  cases hd : M.down
  · rw [hd] at c4
    cases inn
    · have hr : rfs M atv = 3 := by
        have := of_decide_eq_false HIN.out
        rw [rfs, hd, G.out.1]
        simp [this]
      have hw : M.wer atv = 3 := by rw [Dk.wer, hr, if_neg (by decide)]
      have hM : M.wr atv (sec a.by') = M := by rw [Dk.wr, hr, if_neg (by decide)]
      rw [hw]
      rw [hM] at I2
      clear hw hM hr
      go_wp2_with fail
      exact HQ.out _ _ _ _ _ _ _ _ _ _ _ _ _ _ _ _ _ _ _ _ _ _ _ _ _ _ _ _ _ _ _ _ _ _ _ _ _ _ _ _ _ _ _ _ _ _ _ _ _ _ _ _ _ _ _ _ _ _ _ _ _ _ _ _ _ _ _ _ _ _ _ _ _ _ _ _ _ _ _ _ _ _ _ _ _ _ _ _ _ _ _ _ _ _ _ _ _ _ _ _ _ _ _ _ _ _ _ _ _ _ _ _ _ _ _ _ _ _ _ _ _ _ _ _ _ _ _ _ _ _ _ I2.out G.out.up
    · obtain ⟨ha0, ha1⟩ := of_decide_eq_true HIN.out
      obtain ⟨n, rfl⟩ : ∃ n : Nat, atv = n := ⟨atv.toNat, by omega⟩
      have hnM : n < M.n := by rw [G.out.1]; omega
      have hr : rfs M (n : Int) = 0 := rfs_ok hd hnM
      have hw : M.wer (n : Int) = M.err := by rw [Dk.wer, hr, if_pos rfl]
      rw [hw]
      go_wp2_with fail
      refine (call_any k2 sb fb cb db v M w2 I2.out.lw hcl G.out.2.2.1 G.out.2.2.2).mono ?_
      rintro e w3 ⟨rfl, l3, s3⟩
      have I3 := Lib.hid (I2.out.law l3 s3)
      have O3 := Lib.hid (O2.out.law s3)
      clear l3 s3 c4 f4 hw I2 O2
      by_cases he : M.err = 10
      · have hM : M.wr (n : Int) (sec a.by') = M.cnt := by rw [Dk.wr, hr, if_pos rfl, if_pos he]
        rw [hM] at I3
        rw [he]
        clear he hM hr
        go_wp2_with fail
        exact HQ.out _ _ _ _ _ _ _ _ _ _ _ _ _ _ _ _ _ _ _ _ _ _ _ _ _ _ _ _ _ _ _ _ _ _ _ _ _ _ _ _ _ _ _ _ _ _ _ _ _ _ _ _ _ _ _ _ _ _ _ _ _ _ _ _ _ _ _ _ _ _ _ _ _ _ _ _ _ _ _ _ _ _ _ _ _ _ _ _ _ _ _ _ _ _ _ _ _ _ _ _ _ _ _ _ _ _ _ _ _ _ _ _ _ _ _ _ _ _ _ _ _ _ _ _ _ _ _ _ _ _ _ I3.out G.out.cnt
      · have hM : M.wr (n : Int) (sec a.by') = { M.cnt with pend := M.pend ++ [(n, sec a.by')] } := by rw [Dk.wr, hr, if_pos rfl, if_neg he]; rfl
        rw [hM] at I3
        clear hM hr
        have e2 : w3.cell? ⟨Ab, 2, none⟩ = some (.int .u8 (a.by' : Int)) := by have := R.out w3 O3.out.eq 2 _ rfl; simpa using this
        go_wp2_with fail
        refine (sector_any a.by' hk3 w3).mono ?_
        rintro e w4 ⟨rfl, b4⟩
        have I4 := Lib.hid (I3.out.below b4)
        clear b4 I3 O3 e2
        have hlen : M.cnt.pend.length < 1000000 := by have := I4.out.ds.len; have := I4.out.ds.few; simp [Dk.cnt] at *; omega
        have B5 := Lib.hid ((Below.refl w4.heap.size w4).alloc (Nat.le_refl _) (OV (n, sec a.by')))
        have I5 := Lib.hid (I4.out.below B5.out)
        have R5 := rangeOV w4 (n, sec a.by')
        have W5 := I5.out.lw.own
        go_wp2_with (first
          | (with_reducible show wpList _ _ _ _ _ w4; first
            | (refine at_build40 (.tmp 79) (.tmp 82) rfl rfl n (sec a.by') (by simp [Act.eval, Act.put]) (by simp [Act.eval, Act.put]) ?_)
            | (refine at_buildSlice27 (.tmp 83) rfl rfl (n, sec a.by') (by simp [Act.eval, Act.put]) ?_))
          | (with_reducible show wpList _ _ _ _ _ (World.alloc _ _); refine at_append40 (.tmp 78) (.tmp 84) rfl rfl v M.cnt.pend (n, sec a.by') w4.heap.size 1 (by simp [Act.eval, Act.put]) (by simp [Act.eval, Act.put]) W5 R5 hlen ?_))
        intro g cap w6 hown hgrow hat hlt
        have hown' : w6.ownsRow 0 40 65 (.slice (some ⟨g, 0, none⟩) (M.cnt.pend.length + 1) cap) (M.cnt.pend ++ [(n, sec a.by')]).length ((M.cnt.pend ++ [(n, sec a.by')]).flatMap wc) := by
          rw [List.length_append, List.flatMap_append]
          simpa using hown
        obtain ⟨L6, S6⟩ := I5.out.lw.push hown' hgrow (by simpa using hat) hnM
        have I6 := Lib.hid (I5.out.law L6 S6)
        clear hown hown' hgrow hat hlt L6 S6 W5 R5
        go_wp2_with fail
        exact HQ.out _ _ _ _ _ _ _ _ _ _ _ _ _ _ _ _ _ _ _ _ _ _ _ _ _ _ _ _ _ _ _ _ _ _ _ _ _ _ _ _ _ _ _ _ _ _ _ _ _ _ _ _ _ _ _ _ _ _ _ _ _ _ _ _ _ _ _ _ _ _ _ _ _ _ _ _ _ _ _ _ _ _ _ _ _ _ _ _ _ _ _ _ _ _ _ _ _ _ _ _ _ _ _ _ _ _ _ _ _ _ _ _ _ _ _ _ _ _ _ _ _ _ _ _ _ _ _ _ _ _ _ I6.out G.out.cnt
  · rw [hd] at c4
    have hr : rfs M atv = 9 := by rw [rfs, hd]; rfl
    have hw : M.wer atv = 9 := by rw [Dk.wer, hr, if_neg (by decide)]
    have hM : M.wr atv (sec a.by') = M := by rw [Dk.wr, hr, if_neg (by decide)]
    rw [hw]
    rw [hM] at I2
    clear hw hM hr
    go_wp2_with fail
    exact HQ.out _ _ _ _ _ _ _ _ _ _ _ _ _ _ _ _ _ _ _ _ _ _ _ _ _ _ _ _ _ _ _ _ _ _ _ _ _ _ _ _ _ _ _ _ _ _ _ _ _ _ _ _ _ _ _ _ _ _ _ _ _ _ _ _ _ _ _ _ _ _ _ _ _ _ _ _ _ _ _ _ _ _ _ _ _ _ _ _ _ _ _ _ _ _ _ _ _ _ _ _ _ _ _ _ _ _ _ _ _ _ _ _ _ _ _ _ _ _ _ _ _ _ _ _ _ _ _ _ _ _ _ I2.out G.out.up
end Go.Proofs.Ytlfggfoaelkapaa
