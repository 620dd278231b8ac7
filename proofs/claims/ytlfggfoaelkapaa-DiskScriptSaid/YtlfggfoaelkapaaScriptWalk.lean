/-
  The walk of DiskScript: called at any number and any row of deeds it returns true and changes nothing that was in memory. Conditions: the numbers are of their kinds, and a row has at most 2^47 deeds, and not more than its room.
-/
import Derived.Test.YtlfggfoaelkapaaSwAll
import Derived.Test.YtlfggfoaelkapaaSwRest
set_option linter.unusedSimpArgs false
set_option linter.unusedVariables false
namespace Go.Proofs.Ytlfggfoaelkapaa
open Go.RowKit

set_option maxRecDepth 100000 in
set_option maxHeartbeats 4000000 in
theorem diskScript_walk (size : Nat) (A : Option Addr) (xs : List Ac) (cap : Nat) (w : World) (h0 : size < 256) (h : Ra w A xs) (hcap : xs.length ≤ cap) :
    Calls Try.prog 3 #[.int .u8 (size : Int), .slice A xs.length cap] w fun e w' => e = .returned (.bool true) ∧ Below w.heap.size w w' := by
  obtain ⟨nn, hnn⟩ : ∃ nn : Nat, (size : Int) % 40 = nn := ⟨size % 40, by omega⟩
  have hn40 : nn < 40 := by omega
  obtain ⟨L, hL⟩ : ∃ L : Nat, min (xs.length : Int) 200 = L := ⟨min xs.length 200, by omega⟩
  have hL200 : L ≤ 200 := by omega
  have hLz : L ≤ xs.length := by omega
  have hLc : (L : Int) ≤ cap := by omega
  have hz := h.1
  have R := Lib.hid h
  clear h
  have CO := Lib.hid fun w => of_aux nn nn (by omega) w
  have MK := fun W => run_make26 nn (by omega) W
  go_enter Try.func3, Try.ntmps3
  go_wp2_with fail
  refine (awake_any _).mono ?_
  rintro e w0 ⟨rfl, b0⟩
  have B0 := Lib.hid b0
  clear b0
  go_wp2_with fail
  refine (CO.out _).mono ?_
  rintro e w1 ⟨p, k, rfl, h1, b1, hp, hk⟩
  have H1 := Lib.hid h1
  have B1 := Lib.hid (B0.out.trans (b1.mono B0.out.size))
  have F1 := Lib.hid (ft_new (Nat.le_trans B0.out.size hp) (Nat.le_trans B0.out.size hk))
  clear h1 b1 hp hk CO B0
  go_upto_region 10 with fail
  have I1 := Lib.hid (inv_start H1.out B1.out F1.out)
  clear H1 B1 F1 MK
  generalize ((((w1.alloc (ZR nn)).alloc (.cells #[.int .i64 (-1)] 3)).alloc (.cells #[.int .i64 (-1)] 3)).alloc (.cells #[.int .i64 0] 3)).alloc (.cells #[.bool false] 4) = w2 at *
  generalize w1.heap.size + 1 + 1 + 1 + 1 = db at *
  generalize w1.heap.size + 1 + 1 + 1 = cb at *
  generalize w1.heap.size + 1 + 1 = fb at *
  generalize w1.heap.size + 1 = sb at *
  generalize w1.heap.size = k2 at *
  go_loopg [8, 47] L (fun m v i wr => ∃ q : Nat, q + m = L ∧ i = .int .i64 (q : Int) ∧ Hid (∃ pv M, Inv w wr p k pv k2 sb fb cb db v M M ∧ Gd nn q M))
  case atStart => exact ⟨0, by omega, rfl, _, _, I1.out, rfl, Nat.le_refl _, by simp, by simp⟩
  case round =>
    clear I1
    obtain ⟨q, hq, rfl, HH⟩ := hrel
    match gk with
    | 0 =>
      obtain rfl : q = L := by omega
      obtain ⟨pv, M, hI, _⟩ := HH.out
      have BB := Lib.hid hI.bl
      clear HH hI
      go_wp2_with fail
      go_ret
      exact ⟨rfl, BB.out⟩
    | g + 1 =>
      obtain ⟨pv, M, hI, hG⟩ := HH.out
      clear HH
      have hlt : q < L := by omega
      have RR := R.out.below hI.bl
      obtain ⟨a, ha⟩ : ∃ a, xs[q]? = some a := ⟨_, List.getElem?_eq_getElem (by omega)⟩
      obtain ⟨hok, x, rfl, hc⟩ := RR.2 q a ha
      clear RR ha
      have hc34 : ∀ j v, (ac a)[j]? = some v → wr.cell? ((x.add (q * 6)).add j) = some v := fun j v hv => by rw [Go.Deep.add_add]; exact hc j v hv
      clear hc
      have I := Lib.hid hI
      have G := Lib.hid hG
      clear hI hG
      have TA := thereOA wr ZA
      go_upto_region 12 with (first
        | (with_reducible show wpList _ _ _ _ _ wr; first | (refine at_load34 _ rfl rfl (x.add (q * 6)) a rfl hc34 ?_) | (refine at_alloc34 rfl rfl ?_))
        | (with_reducible show wpList _ _ _ _ _ (World.alloc _ _); refine at_store34 (.tmp 15) (.tmp 50) rfl rfl wr.heap.size 0 a (by simp [Act.eval, Act.put]) (by simp [Act.eval, Act.put]) TA ?_))
      simp only [Act.put, List.setIfInBounds_toArray, List.set_cons_zero, List.set_cons_succ]
      rw [show (wr.alloc (OA ZA)).setCells wr.heap.size 0 (ac a) = heldA wr a from rfl]
      have I2 := Lib.hid (I.out.below (heldA_below wr a))
      have O2 := Lib.hid (Out.fresh (w' := heldA wr a) I.out (Nat.le_refl _) (heldA_size wr a))
      have R2 := Lib.hid (heldA_range wr a)
      have R3 := Lib.hid (fun (W : World) (e : W.heap[wr.heap.size]? = (heldA wr a).heap[wr.heap.size]?) => range_of_block (heldA_range wr a) e)
      generalize (heldA wr a).heap[wr.heap.size]? = ob at *
      generalize heldA wr a = wa at *
      generalize wr.heap.size = Ab at *
      clear I TA hc34
      obtain ⟨atv, hat⟩ : ∃ atv, a.at'.tmod 50 = atv := ⟨_, rfl⟩
      have hat1 : -50 < atv := by rw [← hat]; exact Int.lt_tmod_of_pos _ (by decide)
      have hat2 : atv < 50 := by rw [← hat]; exact Int.tmod_lt_of_pos _ (by decide)
      obtain ⟨inn, hin⟩ : ∃ inn : Bool, decide (0 ≤ atv ∧ atv < (nn : Int)) = inn := ⟨_, rfl⟩
      have HIN := Lib.hid hin
      clear hin
      have HOK := Lib.hid hok
      obtain ⟨hk1, ⟨hk2, hk2'⟩, _⟩ := hok
      have e1 : wa.cell? ⟨Ab, 1, none⟩ = some (.int .i16 a.at') := by have := R2.out 1 _ rfl; simpa using this
      by_cases c1' : 0 ≤ atv
      · by_cases c2' : atv < nn
        · have HI := Lib.hid (show decide (0 ≤ atv ∧ atv < (nn : Int)) = true by simp [c1', c2'])
          go_upto_region 14 with fail
          go_step
          go_step
          go_step
          go_step
          go_step
          go_step
          go_step
          go_step
          go_step
          go_step
          go_step
          refine sw_all w wa p k pv k2 sb fb cb db _ M nn q Ab a atv true ob I2 G (by omega) O2 R3 HOK.out hat1 hat2 HI hn40 _ _ _ _ _ _ _ _ _ _ _ _ _ _ _ _ _ _ _ _ _ _ _ _ _ _ _ _ _ _ _ _ _ _ _ _ _ _ _ _ _ _ _ _ _ _ _ _ _ _ _ _ _ _ _ _ _ _ _ _ _ _ _ _ _ _ _ _ _ _ _ _ _ _ _ _ _ _ _ _ _ _ _ _ _ _ _ _ _ _ _ _ _ _ _ _ _ _ _ _ _ _ _ _ _ _ _ _ _ _ _ _ _ _ _ _ _ _ _ _ _ _ _ _ _ _ _ _ _ _ _ _ _ _ _ _ _ _ _ _ _ _ _ _ _ _ _ _ _ _ _ _ _ _ _ _ _ _ _ _ _ _ _ _ _ _ _ _ _ _ _ _ _ _ _ _ _ _ _ _ _ _ _ _ _ _ _ _ _ _ _ _ _ _ _ _ _ _ _ _ _ _ _ _ _ _ _ _ _ _ _ _ _ _ _ _ _ _ _ _ _ _ _ _ _ _ _ _ _ _ _ _ _ _ _ _ (Lib.hid ?_)
          intro v' r pv' M' w' d20 d21 d22 d24 d62 d63 d64 d65 d66 d67 d68 d69 d70 d71 d72 d73 d74 d75 d76 d77 d78 d79 d80 d81 d82 d83 d84 d85 d86 d87 d88 d89 d90 d91 d92 d93 d94 d95 d96 d97 d98 d99 d100 d101 d102 d103 d104 d105 d106 d107 d108 d109 d110 d111 d112 d113 d114 d115 d116 d117 d118 d119 d120 d121 d122 d123 d124 d125 d126 d127 d128 d129 d130 d131 d132 d133 d134 d135 d136 d137 d138 d139 d140 d141 d142 d143 d144 d145 d146 d147 d148 d149 d150 d151 d152 d153 d154 d155 d156 d157 d158 d159 d160 d161 d162 d163 d164 d165 d166 d167 d168 d169 d170 d171 d172 d173 d174 d175 d176 d177 d178 d179 d180 d181 d182 d183 I5 G5
          obtain ⟨A8, cp8, rfl⟩ := I5.lw.shape
          have J5 := Lib.hid I5
          have HG5 := Lib.hid G5
          clear I5 G5 I2 O2 R3 R2
          go_step
          go_step
          refine rest_wp w w' p k pv' k2 sb fb cb db A8 cp8 M' nn (q + 1) Ab atv r true J5 HG5.out.1 hn40 hat1 hat2 HI _ _ _ _ _ _ _ _ _ _ _ _ _ _ _ _ _ _ _ _ _ _ _ _ _ _ _ _ _ _ _ _ _ _ _ _ _ _ _ _ _ _ _ _ _ _ _ _ _ _ _ _ _ _ _ _ _ _ _ _ _ _ _ _ _ _ _ _ _ _ _ _ _ _ _ _ _ _ _ _ _ _ _ _ _ _ _ _ _ _ _ _ _ _ _ _ _ _ _ _ _ _ _ _ _ _ _ _ _ _ _ _ _ _ _ _ _ _ _ _ _ _ _ _ _ _ _ _ _ _ _ _ _ _ _ _ _ _ _ _ _ _ _ _ _ _ _ _ _ _ _ _ _ _ _ _ _ _ _ _ _ _ _ _ _ _ _ _ _ _ _ _ _ _ _ _ _ _ _ _ _ _ _ _ _ _ _ _ _ _ _ _ _ _ _ _ _ _ _ _ _ _ _ _ _ _ _ _ _ _ _ _ _ _ _ _ _ _ _ _ _ _ _ _ _ _ _ _ _ _ _ _ _ _ _ _ (Lib.hid ?_)
          intro w9 e25 e26 e27 e28 e30 e184 e185 e186 e187 e188 e189 e190 e191 e192 e193 e194 e195 e196 e197 e198 e199 e200 e201 e202 e203 e204 e205 e206 e207 e208 e209 e210 e211 e212 e213 e214 e215 e216 e217 e218 e219 e220 e221 e222 e223 e224 e225 e226 e227 e228 e229 e230 e231 e232 e233 e234 e235 e236 e237 e238 e239 e240 e241 e242 e243 e244 e245 e246 e247 I9
          have J9 := Lib.hid I9
          clear I9 J5
          go_wp2_with fail
          go_roundg g
          case measure => omega
          case rel => exact ⟨q + 1, by omega, by go_num, _, _, J9.out, HG5.out⟩
        · have c3' : decide (atv < (nn : Int)) = false := decide_eq_false c2'
          have HI := Lib.hid (show decide (0 ≤ atv ∧ atv < (nn : Int)) = false by simp [c2'])
          go_upto_region 14 with fail
          go_step
          go_step
          go_step
          go_step
          go_step
          go_step
          go_step
          go_step
          go_step
          go_step
          go_step
          refine sw_all w wa p k pv k2 sb fb cb db _ M nn q Ab a atv false ob I2 G (by omega) O2 R3 HOK.out hat1 hat2 HI hn40 _ _ _ _ _ _ _ _ _ _ _ _ _ _ _ _ _ _ _ _ _ _ _ _ _ _ _ _ _ _ _ _ _ _ _ _ _ _ _ _ _ _ _ _ _ _ _ _ _ _ _ _ _ _ _ _ _ _ _ _ _ _ _ _ _ _ _ _ _ _ _ _ _ _ _ _ _ _ _ _ _ _ _ _ _ _ _ _ _ _ _ _ _ _ _ _ _ _ _ _ _ _ _ _ _ _ _ _ _ _ _ _ _ _ _ _ _ _ _ _ _ _ _ _ _ _ _ _ _ _ _ _ _ _ _ _ _ _ _ _ _ _ _ _ _ _ _ _ _ _ _ _ _ _ _ _ _ _ _ _ _ _ _ _ _ _ _ _ _ _ _ _ _ _ _ _ _ _ _ _ _ _ _ _ _ _ _ _ _ _ _ _ _ _ _ _ _ _ _ _ _ _ _ _ _ _ _ _ _ _ _ _ _ _ _ _ _ _ _ _ _ _ _ _ _ _ _ _ _ _ _ _ _ _ _ _ (Lib.hid ?_)
          intro v' r pv' M' w' d20 d21 d22 d24 d62 d63 d64 d65 d66 d67 d68 d69 d70 d71 d72 d73 d74 d75 d76 d77 d78 d79 d80 d81 d82 d83 d84 d85 d86 d87 d88 d89 d90 d91 d92 d93 d94 d95 d96 d97 d98 d99 d100 d101 d102 d103 d104 d105 d106 d107 d108 d109 d110 d111 d112 d113 d114 d115 d116 d117 d118 d119 d120 d121 d122 d123 d124 d125 d126 d127 d128 d129 d130 d131 d132 d133 d134 d135 d136 d137 d138 d139 d140 d141 d142 d143 d144 d145 d146 d147 d148 d149 d150 d151 d152 d153 d154 d155 d156 d157 d158 d159 d160 d161 d162 d163 d164 d165 d166 d167 d168 d169 d170 d171 d172 d173 d174 d175 d176 d177 d178 d179 d180 d181 d182 d183 I5 G5
          obtain ⟨A8, cp8, rfl⟩ := I5.lw.shape
          have J5 := Lib.hid I5
          have HG5 := Lib.hid G5
          clear I5 G5 I2 O2 R3 R2
          go_step
          go_step
          refine rest_wp w w' p k pv' k2 sb fb cb db A8 cp8 M' nn (q + 1) Ab atv r false J5 HG5.out.1 hn40 hat1 hat2 HI _ _ _ _ _ _ _ _ _ _ _ _ _ _ _ _ _ _ _ _ _ _ _ _ _ _ _ _ _ _ _ _ _ _ _ _ _ _ _ _ _ _ _ _ _ _ _ _ _ _ _ _ _ _ _ _ _ _ _ _ _ _ _ _ _ _ _ _ _ _ _ _ _ _ _ _ _ _ _ _ _ _ _ _ _ _ _ _ _ _ _ _ _ _ _ _ _ _ _ _ _ _ _ _ _ _ _ _ _ _ _ _ _ _ _ _ _ _ _ _ _ _ _ _ _ _ _ _ _ _ _ _ _ _ _ _ _ _ _ _ _ _ _ _ _ _ _ _ _ _ _ _ _ _ _ _ _ _ _ _ _ _ _ _ _ _ _ _ _ _ _ _ _ _ _ _ _ _ _ _ _ _ _ _ _ _ _ _ _ _ _ _ _ _ _ _ _ _ _ _ _ _ _ _ _ _ _ _ _ _ _ _ _ _ _ _ _ _ _ _ _ _ _ _ _ _ _ _ _ _ _ _ _ _ _ _ (Lib.hid ?_)
          intro w9 e25 e26 e27 e28 e30 e184 e185 e186 e187 e188 e189 e190 e191 e192 e193 e194 e195 e196 e197 e198 e199 e200 e201 e202 e203 e204 e205 e206 e207 e208 e209 e210 e211 e212 e213 e214 e215 e216 e217 e218 e219 e220 e221 e222 e223 e224 e225 e226 e227 e228 e229 e230 e231 e232 e233 e234 e235 e236 e237 e238 e239 e240 e241 e242 e243 e244 e245 e246 e247 I9
          have J9 := Lib.hid I9
          clear I9 J5
          go_wp2_with fail
          go_roundg g
          case measure => omega
          case rel => exact ⟨q + 1, by omega, by go_num, _, _, J9.out, HG5.out⟩
      · have c3' : decide (0 ≤ atv) = false := decide_eq_false c1'
        have HI := Lib.hid (show decide (0 ≤ atv ∧ atv < (nn : Int)) = false by simp [c1'])
        go_upto_region 14 with fail
        go_step
        go_step
        go_step
        go_step
        go_step
        go_step
        go_step
        go_step
        go_step
        go_step
        go_step
        refine sw_all w wa p k pv k2 sb fb cb db _ M nn q Ab a atv false ob I2 G (by omega) O2 R3 HOK.out hat1 hat2 HI hn40 _ _ _ _ _ _ _ _ _ _ _ _ _ _ _ _ _ _ _ _ _ _ _ _ _ _ _ _ _ _ _ _ _ _ _ _ _ _ _ _ _ _ _ _ _ _ _ _ _ _ _ _ _ _ _ _ _ _ _ _ _ _ _ _ _ _ _ _ _ _ _ _ _ _ _ _ _ _ _ _ _ _ _ _ _ _ _ _ _ _ _ _ _ _ _ _ _ _ _ _ _ _ _ _ _ _ _ _ _ _ _ _ _ _ _ _ _ _ _ _ _ _ _ _ _ _ _ _ _ _ _ _ _ _ _ _ _ _ _ _ _ _ _ _ _ _ _ _ _ _ _ _ _ _ _ _ _ _ _ _ _ _ _ _ _ _ _ _ _ _ _ _ _ _ _ _ _ _ _ _ _ _ _ _ _ _ _ _ _ _ _ _ _ _ _ _ _ _ _ _ _ _ _ _ _ _ _ _ _ _ _ _ _ _ _ _ _ _ _ _ _ _ _ _ _ _ _ _ _ _ _ _ _ _ _ _ (Lib.hid ?_)
        intro v' r pv' M' w' d20 d21 d22 d24 d62 d63 d64 d65 d66 d67 d68 d69 d70 d71 d72 d73 d74 d75 d76 d77 d78 d79 d80 d81 d82 d83 d84 d85 d86 d87 d88 d89 d90 d91 d92 d93 d94 d95 d96 d97 d98 d99 d100 d101 d102 d103 d104 d105 d106 d107 d108 d109 d110 d111 d112 d113 d114 d115 d116 d117 d118 d119 d120 d121 d122 d123 d124 d125 d126 d127 d128 d129 d130 d131 d132 d133 d134 d135 d136 d137 d138 d139 d140 d141 d142 d143 d144 d145 d146 d147 d148 d149 d150 d151 d152 d153 d154 d155 d156 d157 d158 d159 d160 d161 d162 d163 d164 d165 d166 d167 d168 d169 d170 d171 d172 d173 d174 d175 d176 d177 d178 d179 d180 d181 d182 d183 I5 G5
        obtain ⟨A8, cp8, rfl⟩ := I5.lw.shape
        have J5 := Lib.hid I5
        have HG5 := Lib.hid G5
        clear I5 G5 I2 O2 R3 R2
        go_step
        go_step
        refine rest_wp w w' p k pv' k2 sb fb cb db A8 cp8 M' nn (q + 1) Ab atv r false J5 HG5.out.1 hn40 hat1 hat2 HI _ _ _ _ _ _ _ _ _ _ _ _ _ _ _ _ _ _ _ _ _ _ _ _ _ _ _ _ _ _ _ _ _ _ _ _ _ _ _ _ _ _ _ _ _ _ _ _ _ _ _ _ _ _ _ _ _ _ _ _ _ _ _ _ _ _ _ _ _ _ _ _ _ _ _ _ _ _ _ _ _ _ _ _ _ _ _ _ _ _ _ _ _ _ _ _ _ _ _ _ _ _ _ _ _ _ _ _ _ _ _ _ _ _ _ _ _ _ _ _ _ _ _ _ _ _ _ _ _ _ _ _ _ _ _ _ _ _ _ _ _ _ _ _ _ _ _ _ _ _ _ _ _ _ _ _ _ _ _ _ _ _ _ _ _ _ _ _ _ _ _ _ _ _ _ _ _ _ _ _ _ _ _ _ _ _ _ _ _ _ _ _ _ _ _ _ _ _ _ _ _ _ _ _ _ _ _ _ _ _ _ _ _ _ _ _ _ _ _ _ _ _ _ _ _ _ _ _ _ _ _ _ _ _ _ _ (Lib.hid ?_)
        intro w9 e25 e26 e27 e28 e30 e184 e185 e186 e187 e188 e189 e190 e191 e192 e193 e194 e195 e196 e197 e198 e199 e200 e201 e202 e203 e204 e205 e206 e207 e208 e209 e210 e211 e212 e213 e214 e215 e216 e217 e218 e219 e220 e221 e222 e223 e224 e225 e226 e227 e228 e229 e230 e231 e232 e233 e234 e235 e236 e237 e238 e239 e240 e241 e242 e243 e244 e245 e246 e247 I9
        have J9 := Lib.hid I9
        clear I9 J5
        go_wp2_with fail
        go_roundg g
        case measure => omega
        case rel => exact ⟨q + 1, by omega, by go_num, _, _, J9.out, HG5.out⟩
end Go.Proofs.Ytlfggfoaelkapaa
