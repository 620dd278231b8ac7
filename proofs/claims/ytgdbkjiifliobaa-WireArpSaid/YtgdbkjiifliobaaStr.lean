/-
  Rows of bytes as texts, and the contracts of the statements' own ip and two. Conditions: bytes are bytes, numbers have their bits.
-/
import Derived.Test.YtgdbkjiifliobaaAwake
import Derived.Test.YtgdbkjiifliobaaOg
import Derived.Laws.Concat
set_option linter.unusedSimpArgs false
namespace Go.Proofs.Ytgdbkjiifliobaa
open Go.RowKit

/-- Bytes as a text. -/
def stg (zs : List Nat) : ByteArray := ⟨(zs.map UInt8.ofNat).toArray⟩
theorem stg_inj {a b : List Nat} (ha : Bs a) (hb : Bs b) (h : stg a = stg b) : a = b := by
  have h1 : a.map UInt8.ofNat = b.map UInt8.ofNat := by
    have := congrArg ByteArray.data h
    simpa [stg] using this
  have hl : a.length = b.length := by have := congrArg List.length h1; simpa using this
  refine List.ext_getElem hl fun i hi hj => ?_
  have h2 := congrArg (fun l => l[i]?) h1
  simp only [List.getElem?_map, List.getElem?_eq_getElem hi, List.getElem?_eq_getElem hj, Option.map_some, Option.some.injEq] at h2
  have h3 := congrArg UInt8.toNat h2
  have ha' := ha i
  have hb' := hb i
  rw [List.getD_eq_getElem?_getD, List.getElem?_eq_getElem hi] at ha'
  rw [List.getD_eq_getElem?_getD, List.getElem?_eq_getElem hj] at hb'
  simp only [Option.getD_some] at ha' hb'
  simp only [UInt8.toNat_ofNat'] at h3
  omega
theorem stg_eq {a b : List Nat} (ha : Bs a) (hb : Bs b) : ((stg a).toList == (stg b).toList) = decide (a = b) := by
  rw [Bool.eq_iff_iff, beq_iff_eq, decide_eq_true_iff]
  constructor
  · intro h
    rw [ByteArray.toList_eq, ByteArray.toList_eq] at h
    refine stg_inj ha hb ?_
    have : (stg a).data = (stg b).data := Array.toList_inj.1 h
    unfold stg at *
    simp only at this
    rw [this]
  · intro h
    rw [h]
theorem run_stg {w : World} {A : Option Addr} {zs : List Nat} (h : Rd w A zs) (c : Nat) : (convert 28 9 (.slice A zs.length c)).run Try.prog w = .ok (.string (stg zs)) w := by
  cases A with
  | none =>
    have hz : zs = [] := by
      rcases Nat.eq_zero_or_pos zs.length with h0 | h0
      · exact List.eq_nil_of_length_eq_zero h0
      · obtain ⟨x, hx, _⟩ := h.2.2 0 h0
        cases hx
    subst hz
    rw [run_convert_bytes_string w 28 9 5 none _ c Try.underlying28 Try.underlying5 Try.underlying9]
    simp [Conv.bytesToString]
    rfl
  | some x =>
    have := run_convert_bytes_back (P := Try.prog) w 28 9 5 x c (zs.map UInt8.ofNat) Try.underlying28 Try.underlying5 Try.underlying9 (fun j hj => by
      have hj' : j < zs.length := by simpa using hj
      obtain ⟨y, hy, hc⟩ := h.2.2 j hj'
      injection hy with hy
      subst hy
      rw [hc]
      have hb := h.2.1 j
      rw [List.getD_eq_getElem?_getD, List.getElem?_eq_getElem hj'] at hb ⊢
      simp only [Option.getD_some] at hb ⊢
      simp only [List.getElem_map, UInt8.toNat_ofNat']
      congr 3
      omega)
    rw [List.length_map] at this
    exact this

theorem stg_append (a b : List Nat) : stg a ++ stg b = stg (a ++ b) := by
  apply ByteArray.ext
  simp [stg]
/-- An address's four bytes. -/
def ip4 (v : Nat) : List Nat := [v / 65536 / 256, v / 65536 % 256, v % 65536 / 256, v % 65536 % 256]
/-- A number's two bytes. -/
def tw (n : Int) : List Nat := [lo n / 256, lo n % 256]
theorem rd_build4 (w : World) {a b c d : Nat} (ha : a < 256) (hb : b < 256) (hc : c < 256) (hd : d < 256) : Rd (w.alloc (.cells #[.int .u8 (a : Int), .int .u8 (b : Int), .int .u8 (c : Int), .int .u8 (d : Int)] 5)) (some ⟨w.heap.size, 0, none⟩) [a, b, c, d] := by
  refine Rd.block (heap_alloc_new w _) rfl ?_ (by simp)
  intro i
  match i with
  | 0 => exact ha
  | 1 => exact hb
  | 2 => exact hc
  | 3 => exact hd
  | i + 4 => simp

theorem ip_any (v : Nat) (w : World) (hv : v < 4294967296) : Calls Try.prog 19 #[.int .u32 (v : Int)] w fun e w' => e = .returned (.string (stg (ip4 v))) ∧ Below w.heap.size w w' := by
  unfold ip4
  obtain ⟨a, ha⟩ : ∃ a, a = v / 65536 / 256 := ⟨_, rfl⟩
  obtain ⟨b, hb⟩ : ∃ b, b = v / 65536 % 256 := ⟨_, rfl⟩
  obtain ⟨c, hc⟩ : ∃ c, c = v % 65536 / 256 := ⟨_, rfl⟩
  obtain ⟨d, hd⟩ : ∃ d, d = v % 65536 % 256 := ⟨_, rfl⟩
  rw [← ha, ← hb, ← hc, ← hd]
  have e1 : (v : Int) / 16777216 = (a : Int) := by omega
  have e2 : (v : Int) / 65536 % 256 = (b : Int) := by omega
  have e3 : (v : Int) / 256 % 256 = (c : Int) := by omega
  have e4 : (v : Int) % 256 = (d : Int) := by omega
  have R : (convert 28 9 (.slice (some ⟨w.heap.size, 0, none⟩) 4 4)).run Try.prog _ = .ok (.string (stg [a, b, c, d])) _ := run_stg (rd_build4 w (a := a) (b := b) (c := c) (d := d) (by omega) (by omega) (by omega) (by omega)) 4
  have a1 : a < 256 := by omega
  clear ha hb hc hd
  go_enter Try.func19, Try.ntmps19
  go_wp2
  go_ret
  exact ⟨rfl, (Below.refl _ _).alloc (Nat.le_refl _) _⟩
theorem two_any (n : Int) (w : World) : Calls Try.prog 20 #[.int .i64 n] w fun e w' => e = .returned (.string (stg (tw n))) ∧ Below w.heap.size w w' := by
  unfold tw
  have hl := lo_eq n
  have hb := lo_lt n
  obtain ⟨a, ha⟩ : ∃ a, a = lo n / 256 := ⟨_, rfl⟩
  obtain ⟨b, hb⟩ : ∃ b, b = lo n % 256 := ⟨_, rfl⟩
  rw [← ha, ← hb]
  have e1 : n / 256 % 256 = (a : Int) := by omega
  have e2 : n % 256 = (b : Int) := by omega
  have R : (convert 28 9 (.slice (some ⟨w.heap.size, 0, none⟩) 2 2)).run Try.prog _ = .ok (.string (stg [a, b])) _ := run_stg (Rd.two w (a := a) (b := b) (by omega) (by omega)) 2
  clear ha hb hl
  go_enter Try.func20, Try.ntmps20
  go_wp2
  go_ret
  exact ⟨rfl, (Below.refl _ _).alloc (Nat.le_refl _) _⟩

/-- Six bytes of zero, and eight that begin a packet by ARP, in blocks of their own. -/
theorem rd_build6 (w : World) : Rd (w.alloc (.cells #[.int .u8 0, .int .u8 0, .int .u8 0, .int .u8 0, .int .u8 0, .int .u8 0] 5)) (some ⟨w.heap.size, 0, none⟩) [0, 0, 0, 0, 0, 0] := by
  refine Rd.block (heap_alloc_new w _) rfl ?_ (by simp)
  intro i
  match i with
  | 0 | 1 | 2 | 3 | 4 | 5 => simp
  | i + 6 => simp
theorem rd_build8 (w : World) (q : Nat) (hq : q < 256) : Rd (w.alloc (.cells #[.int .u8 0, .int .u8 1, .int .u8 8, .int .u8 0, .int .u8 6, .int .u8 4, .int .u8 0, .int .u8 (q : Int)] 5)) (some ⟨w.heap.size, 0, none⟩) [0, 1, 8, 0, 6, 4, 0, q] := by
  refine Rd.block (heap_alloc_new w _) rfl ?_ (by simp)
  intro i
  match i with
  | 0 | 1 | 2 | 3 | 4 | 5 | 6 => simp
  | 7 => exact hq
  | i + 8 => simp


theorem stg_size (a : List Nat) : (stg a).size = a.length := by simp [stg, ByteArray.size]
theorem stg_add (a b : List Nat) (W : World) (h : a.length + b.length ≤ 1000) : (Op.stringOp .add (stg a) (stg b)).run Try.prog W = .ok (.string (stg (a ++ b))) W := by
  rw [run_string_add_sum (P := Try.prog) W (stg a) (stg b) (by rw [stg_size, stg_size]; omega), stg_append]

/-- A row of bytes in a block of its own. -/
def fr (zs : List Nat) (n : Nat) : Value → World → Prop := fun v w => ∃ g, v = .slice (some ⟨g, 0, none⟩) n n ∧ Rd w (some ⟨g, 0, none⟩) zs
theorem stable_fr (zs : List Nat) (n : Nat) : Stable (fr zs n) := fun _ _ _ ⟨g, h1, h2⟩ hb => ⟨g, h1, h2.below hb⟩
theorem calls_fx {f : FuncId} {args : Array Value} {W : World} {v : Value} {Φ : List (Value → World → Prop)} {i : Nat} (h : Calls Try.prog f args W fun e w' => e = .returned v ∧ Below W.heap.size W w') (hi : fAt Φ i = fx v) :
    Calls Try.prog f args W fun e w' => ∃ v, e = .returned v ∧ Below W.heap.size W w' ∧ fAt Φ i v w' := h.mono fun _ _ ⟨he, hb⟩ => ⟨v, he, hb, by rw [hi]; exact rfl⟩

set_option maxRecDepth 100000 in
set_option maxHeartbeats 2000000 in
theorem arpText_any (p : Pk) (w : World) (hp : p.Ok) : Calls Try.prog 11 #[pv p] w fun e w' => e = .returned (.string (stg (arb p))) ∧ Below w.heap.size w w' := by
  obtain ⟨A, hA⟩ : ∃ A, A = p.a := ⟨_, rfl⟩
  obtain ⟨q, hq⟩ : ∃ q : Nat, q = if A = true then 2 else 1 := ⟨_, rfl⟩
  have hq2 : q < 256 := by rw [hq]; split <;> omega
  have CF := Lib.hid fun W => ip_any p.f W hp.f
  have CT := Lib.hid fun W => ip_any p.t W hp.t
  have P0 := Lib.hid (pb_box w p)
  have D0 := Lib.hid ((Below.refl w.heap.size w).alloc (Nat.le_refl _) (Px p))
  have HP := Lib.hid hp
  have HE := Lib.hid (show [0, 1, 8, 0, 6, 4, 0, q] ++ [p.m0, p.m1, p.m2, p.m3, p.m4, p.m5] ++ ip4 p.f ++ [0, 0, 0, 0, 0, 0] ++ ip4 p.t = arb p by unfold arb; rw [hq, hA]; rfl)
  clear hp
  have HQ := Lib.hid hq
  clear hq
  have c0 : (w.alloc (Px p)).cell? ⟨w.heap.size, 0, none⟩ = some (.bool A) := hA ▸ P0.out.1.c0
  clear hA
  go_enter Try.func11, Try.ntmps11
  unfold pv
  go_upto_region 2 with fail
  change Code.wp _ _ _ _ (w.alloc (Px p))
  generalize w.alloc (Px p) = w1 at *
  go_upto_if 6 with fail
  go_cut [3] from 3 to 25 (fun v wc => v = .int .u8 q ∧ wc = w1)
  case first =>
    have hq := HQ.out
    cases A
    · go_wp2_with fail
      go_meet
      exact ⟨by rw [hq]; rfl, rfl⟩
    · go_wp2_with fail
      go_meet
      exact ⟨by rw [hq]; rfl, rfl⟩
  case rest =>
    obtain ⟨rfl, rfl⟩ := hcut
    clear c0 HQ
    obtain ⟨T8, E8⟩ : ∃ T, stg [0, 1, 8, 0, 6, 4, 0, q] = T := ⟨_, rfl⟩
    obtain ⟨TM, EM⟩ : ∃ T, stg [p.m0, p.m1, p.m2, p.m3, p.m4, p.m5] = T := ⟨_, rfl⟩
    obtain ⟨TF, EF⟩ : ∃ T, stg (ip4 p.f) = T := ⟨_, rfl⟩
    obtain ⟨T6, E6⟩ : ∃ T, stg [0, 0, 0, 0, 0, 0] = T := ⟨_, rfl⟩
    obtain ⟨TT, ET⟩ : ∃ T, stg (ip4 p.t) = T := ⟨_, rfl⟩
    obtain ⟨S1, F1⟩ : ∃ T, stg ([0, 1, 8, 0, 6, 4, 0, q] ++ [p.m0, p.m1, p.m2, p.m3, p.m4, p.m5]) = T := ⟨_, rfl⟩
    obtain ⟨S2, F2⟩ : ∃ T, stg ([0, 1, 8, 0, 6, 4, 0, q] ++ [p.m0, p.m1, p.m2, p.m3, p.m4, p.m5] ++ ip4 p.f) = T := ⟨_, rfl⟩
    obtain ⟨S3, F3⟩ : ∃ T, stg ([0, 1, 8, 0, 6, 4, 0, q] ++ [p.m0, p.m1, p.m2, p.m3, p.m4, p.m5] ++ ip4 p.f ++ [0, 0, 0, 0, 0, 0]) = T := ⟨_, rfl⟩
    obtain ⟨S4, F4⟩ : ∃ T, stg (arb p) = T := ⟨_, rfl⟩
    have A1 : ∀ W, (Op.stringOp .add T8 TM).run Try.prog W = .ok (.string S1) W := fun W => by rw [← E8, ← EM, ← F1]; exact stg_add _ _ W (by simp)
    have A2 : ∀ W, (Op.stringOp .add S1 TF).run Try.prog W = .ok (.string S2) W := fun W => by rw [← EF, ← F1, ← F2]; exact stg_add _ _ W (by simp [ip4])
    have A3 : ∀ W, (Op.stringOp .add S2 T6).run Try.prog W = .ok (.string S3) W := fun W => by rw [← E6, ← F2, ← F3]; exact stg_add _ _ W (by simp [ip4])
    have A4 : ∀ W, (Op.stringOp .add S3 TT).run Try.prog W = .ok (.string S4) W := fun W => by rw [← ET, ← F3, ← F4, ← HE.out]; exact stg_add _ _ W (by simp [ip4])
    have G8 := Lib.hid fun W g (h : Rd W (some ⟨g, 0, none⟩) [0, 1, 8, 0, 6, 4, 0, q]) => E8 ▸ run_stg h 8
    have G6 := Lib.hid fun W g (h : Rd W (some ⟨g, 0, none⟩) [0, 0, 0, 0, 0, 0]) => E6 ▸ run_stg h 6
    have GM := Lib.hid fun W (h : Pm W w.heap.size p) => EM ▸ run_stg (h.mac HP.out) 6
    rw [EF] at CF
    rw [ET] at CT
    have HF4 := Lib.hid F4
    clear E8 EM EF E6 ET F1 F2 F3 F4 HE
    go_upto_region 4 with fail
    refine wp_region_below [fx (.int .u8 q), fr [0, 1, 8, 0, 6, 4, 0, q] 8, fx (.string T8), fx (.pointer (some ⟨w.heap.size, 3, none⟩)), fx (.slice (some ⟨w.heap.size, 3, none⟩) 6 6), fx (.string TM), fx (.string S1), fx (.pointer (some ⟨w.heap.size, 1, none⟩)), fx (.int .u32 p.f), fx (.string TF), fx (.string S2), fx (.string S2)]
      (by kernel_rfl) (by kernel_rfl) (by kernel_rfl) ?_ ?_ ?_
    · simp only [List.mem_cons, List.not_mem_nil, or_false]
      rintro φ (rfl | rfl | rfl | rfl | rfl | rfl | rfl | rfl | rfl | rfl | rfl | rfl)
      all_goals first | exact stable_fx _ | exact stable_fr _ _
    · refine OgSteps.cons ?_ (OgSteps.cons ?_ (OgSteps.cons ?_ (OgSteps.cons ?_ (OgSteps.cons ?_ (OgSteps.cons ?_ (OgSteps.cons ?_ (OgSteps.cons ?_ (OgSteps.cons ?_ (OgSteps.cons ?_ (OgSteps.cons ?_ (OgSteps.cons ?_ (OgSteps.nil))))))))))))
      · refine OgStep.pure ?_ ?_
        · rfl
        intro u W hS hp
        refine ⟨.int .u8 q, ?_, rfl⟩
        simp only [ogMk, Act.put, List.setIfInBounds_toArray, List.set_cons_zero, List.set_cons_succ, Nat.zero_add, Nat.reduceAdd]
        simp [execOp, Act.eval, go_sem]
      · refine OgStep.made ?_ ?_
        · rfl
        intro u W hS hp
        have h0 : u 0 = .int .u8 q := hp ⟨0, .data⟩ (by simp) rfl
        refine ⟨.slice (some ⟨W.heap.size, 0, none⟩) 8 8, _, ?_, (Below.refl _ W).alloc (Nat.le_refl _) _, show fr [0, 1, 8, 0, 6, 4, 0, q] 8 _ _ from ⟨W.heap.size, rfl, rd_build8 W q hq2⟩⟩
        simp only [ogMk, Act.put, List.setIfInBounds_toArray, List.set_cons_zero, List.set_cons_succ, Nat.zero_add, Nat.reduceAdd]
        simp [execOp, Act.eval, go_sem, h0]
      · refine OgStep.pure ?_ ?_
        · rfl
        intro u W hS hp
        obtain ⟨g, h1, h2⟩ : fr [0, 1, 8, 0, 6, 4, 0, q] 8 (u 1) W := hp ⟨1, .data⟩ (by simp) rfl
        have R : (convert 28 9 (.slice (some ⟨g, 0, none⟩) 8 8)).run Try.prog W = _ := G8.out W g h2
        refine ⟨.string T8, ?_, rfl⟩
        simp only [ogMk, Act.put, List.setIfInBounds_toArray, List.set_cons_zero, List.set_cons_succ, Nat.zero_add, Nat.reduceAdd]
        simp [execOp, Act.eval, go_sem, h1, R]
      · refine OgStep.pure ?_ ?_
        · rfl
        intro u W hS hp
        refine ⟨.pointer (some ⟨w.heap.size, 3, none⟩), ?_, rfl⟩
        simp only [ogMk, Act.put, List.setIfInBounds_toArray, List.set_cons_zero, List.set_cons_succ, Nat.zero_add, Nat.reduceAdd]
        simp [execOp, Act.eval, go_sem]
      · refine OgStep.pure ?_ ?_
        · rfl
        intro u W hS hp
        have h3 : u 3 = .pointer (some ⟨w.heap.size, 3, none⟩) := hp ⟨3, .data⟩ (by simp) rfl
        refine ⟨.slice (some ⟨w.heap.size, 3, none⟩) 6 6, ?_, rfl⟩
        simp only [ogMk, Act.put, List.setIfInBounds_toArray, List.set_cons_zero, List.set_cons_succ, Nat.zero_add, Nat.reduceAdd]
        simp [execOp, Act.eval, go_sem, h3]
      · refine OgStep.pure ?_ ?_
        · rfl
        intro u W hS hp
        have h4 : u 4 = .slice (some ⟨w.heap.size, 3, none⟩) 6 6 := hp ⟨4, .data⟩ (by simp) rfl
        have R : (convert 28 9 (.slice (some ⟨w.heap.size, 3, none⟩) 6 6)).run Try.prog W = _ := GM.out W (P0.out.keep hS P0.out.lt).1
        refine ⟨.string TM, ?_, rfl⟩
        simp only [ogMk, Act.put, List.setIfInBounds_toArray, List.set_cons_zero, List.set_cons_succ, Nat.zero_add, Nat.reduceAdd]
        simp [execOp, Act.eval, go_sem, h4, R]
      · refine OgStep.pure ?_ ?_
        · rfl
        intro u W hS hp
        have h2 : u 2 = .string T8 := hp ⟨2, .data⟩ (by simp) rfl
        have h5 : u 5 = .string TM := hp ⟨5, .data⟩ (by simp) rfl
        have R := A1 W
        refine ⟨.string S1, ?_, rfl⟩
        simp only [ogMk, Act.put, List.setIfInBounds_toArray, List.set_cons_zero, List.set_cons_succ, Nat.zero_add, Nat.reduceAdd]
        simp [execOp, Act.eval, go_sem, h2, h5, R]
      · refine OgStep.pure ?_ ?_
        · rfl
        intro u W hS hp
        refine ⟨.pointer (some ⟨w.heap.size, 1, none⟩), ?_, rfl⟩
        simp only [ogMk, Act.put, List.setIfInBounds_toArray, List.set_cons_zero, List.set_cons_succ, Nat.zero_add, Nat.reduceAdd]
        simp [execOp, Act.eval, go_sem]
      · refine OgStep.pure ?_ ?_
        · rfl
        intro u W hS hp
        have h7 : u 7 = .pointer (some ⟨w.heap.size, 1, none⟩) := hp ⟨7, .data⟩ (by simp) rfl
        have R := (P0.out.keep hS P0.out.lt).1.c1
        refine ⟨.int .u32 p.f, ?_, rfl⟩
        simp only [ogMk, Act.put, List.setIfInBounds_toArray, List.set_cons_zero, List.set_cons_succ, Nat.zero_add, Nat.reduceAdd]
        simp [execOp, Act.eval, go_sem, h7, R]
      · refine OgStep.calls ?_ ?_
        · rfl
        intro u W hS hp
        have h8 : u 8 = .int .u32 p.f := hp ⟨8, .data⟩ (by simp) rfl
        refine ⟨19, #[.int .u32 p.f], ?_, calls_fx (CF.out W) rfl⟩
        simp only [ogMk, Act.put, List.setIfInBounds_toArray, List.set_cons_zero, List.set_cons_succ, Nat.zero_add, Nat.reduceAdd]
        simp [execOp, Act.eval, go_sem, h8]
      · refine OgStep.pure ?_ ?_
        · rfl
        intro u W hS hp
        have h6 : u 6 = .string S1 := hp ⟨6, .data⟩ (by simp) rfl
        have h9 : u 9 = .string TF := hp ⟨9, .data⟩ (by simp) rfl
        have R := A2 W
        refine ⟨.string S2, ?_, rfl⟩
        simp only [ogMk, Act.put, List.setIfInBounds_toArray, List.set_cons_zero, List.set_cons_succ, Nat.zero_add, Nat.reduceAdd]
        simp [execOp, Act.eval, go_sem, h6, h9, R]
      · refine OgStep.pure ?_ ?_
        · rfl
        intro u W hS hp
        have h10 : u 10 = .string S2 := hp ⟨10, .data⟩ (by simp) rfl
        refine ⟨.string S2, ?_, rfl⟩
        simp only [ogMk, Act.put, List.setIfInBounds_toArray, List.set_cons_zero, List.set_cons_succ, Nat.zero_add, Nat.reduceAdd]
        simp [execOp, Act.eval, go_sem, h10]
    · intro u W hS hF
      have e0 : u 0 = .int .u8 q := hF 0 (by decide)
      have e2 : u 2 = .string T8 := hF 2 (by decide)
      have e3 : u 3 = .pointer (some ⟨w.heap.size, 3, none⟩) := hF 3 (by decide)
      have e4 : u 4 = .slice (some ⟨w.heap.size, 3, none⟩) 6 6 := hF 4 (by decide)
      have e5 : u 5 = .string TM := hF 5 (by decide)
      have e6 : u 6 = .string S1 := hF 6 (by decide)
      have e7 : u 7 = .pointer (some ⟨w.heap.size, 1, none⟩) := hF 7 (by decide)
      have e8 : u 8 = .int .u32 p.f := hF 8 (by decide)
      have e9 : u 9 = .string TF := hF 9 (by decide)
      have e10 : u 10 = .string S2 := hF 10 (by decide)
      have e11 : u 11 = .string S2 := hF 11 (by decide)
      simp only [ogMk, Act.put, List.setIfInBounds_toArray, List.set_cons_zero, List.set_cons_succ, Nat.zero_add, Nat.reduceAdd]
      rw [e0, e2, e3, e4, e5, e6, e7, e8, e9, e10, e11]
      clear e0 e2 e3 e4 e5 e6 e7 e8 e9 e10 e11 hF
      generalize u 1 = x1
      have P1 := Lib.hid (P0.out.keep hS P0.out.lt)
      have D1 := Lib.hid (D0.out.trans (hS.mono D0.out.size))
      clear hS P0 D0 u A1 A2
      go_upto_region 5 with fail
      refine wp_region_below [fx (.string S2), fr [0, 0, 0, 0, 0, 0] 6, fx (.string T6), fx (.string S3), fx (.pointer (some ⟨w.heap.size, 2, none⟩)), fx (.int .u32 p.t), fx (.string TT), fx (.string S4), fx (.string S4)]
        (by kernel_rfl) (by kernel_rfl) (by kernel_rfl) ?_ ?_ ?_
      · simp only [List.mem_cons, List.not_mem_nil, or_false]
        rintro φ (rfl | rfl | rfl | rfl | rfl | rfl | rfl | rfl | rfl)
        all_goals first | exact stable_fx _ | exact stable_fr _ _
      · refine OgSteps.cons ?_ (OgSteps.cons ?_ (OgSteps.cons ?_ (OgSteps.cons ?_ (OgSteps.cons ?_ (OgSteps.cons ?_ (OgSteps.cons ?_ (OgSteps.cons ?_ (OgSteps.cons ?_ (OgSteps.nil)))))))))
        · refine OgStep.pure ?_ ?_
          · rfl
          intro u W hS hp
          refine ⟨.string S2, ?_, rfl⟩
          simp only [ogMk, Act.put, List.setIfInBounds_toArray, List.set_cons_zero, List.set_cons_succ, Nat.zero_add, Nat.reduceAdd]
          simp [execOp, Act.eval, go_sem]
        · refine OgStep.made ?_ ?_
          · rfl
          intro u W hS hp
          refine ⟨.slice (some ⟨W.heap.size, 0, none⟩) 6 6, _, ?_, (Below.refl _ W).alloc (Nat.le_refl _) _, show fr [0, 0, 0, 0, 0, 0] 6 _ _ from ⟨W.heap.size, rfl, rd_build6 W⟩⟩
          simp only [ogMk, Act.put, List.setIfInBounds_toArray, List.set_cons_zero, List.set_cons_succ, Nat.zero_add, Nat.reduceAdd]
          simp [execOp, Act.eval, go_sem]
        · refine OgStep.pure ?_ ?_
          · rfl
          intro u W hS hp
          obtain ⟨g, h1, h2⟩ : fr [0, 0, 0, 0, 0, 0] 6 (u 1) W := hp ⟨1, .data⟩ (by simp) rfl
          have R : (convert 28 9 (.slice (some ⟨g, 0, none⟩) 6 6)).run Try.prog W = _ := G6.out W g h2
          refine ⟨.string T6, ?_, rfl⟩
          simp only [ogMk, Act.put, List.setIfInBounds_toArray, List.set_cons_zero, List.set_cons_succ, Nat.zero_add, Nat.reduceAdd]
          simp [execOp, Act.eval, go_sem, h1, R]
        · refine OgStep.pure ?_ ?_
          · rfl
          intro u W hS hp
          have h0 : u 0 = .string S2 := hp ⟨0, .data⟩ (by simp) rfl
          have h2 : u 2 = .string T6 := hp ⟨2, .data⟩ (by simp) rfl
          have R := A3 W
          refine ⟨.string S3, ?_, rfl⟩
          simp only [ogMk, Act.put, List.setIfInBounds_toArray, List.set_cons_zero, List.set_cons_succ, Nat.zero_add, Nat.reduceAdd]
          simp [execOp, Act.eval, go_sem, h0, h2, R]
        · refine OgStep.pure ?_ ?_
          · rfl
          intro u W hS hp
          refine ⟨.pointer (some ⟨w.heap.size, 2, none⟩), ?_, rfl⟩
          simp only [ogMk, Act.put, List.setIfInBounds_toArray, List.set_cons_zero, List.set_cons_succ, Nat.zero_add, Nat.reduceAdd]
          simp [execOp, Act.eval, go_sem]
        · refine OgStep.pure ?_ ?_
          · rfl
          intro u W hS hp
          have h4 : u 4 = .pointer (some ⟨w.heap.size, 2, none⟩) := hp ⟨4, .data⟩ (by simp) rfl
          have R := (P1.out.keep hS P1.out.lt).1.c2
          refine ⟨.int .u32 p.t, ?_, rfl⟩
          simp only [ogMk, Act.put, List.setIfInBounds_toArray, List.set_cons_zero, List.set_cons_succ, Nat.zero_add, Nat.reduceAdd]
          simp [execOp, Act.eval, go_sem, h4, R]
        · refine OgStep.calls ?_ ?_
          · rfl
          intro u W hS hp
          have h5 : u 5 = .int .u32 p.t := hp ⟨5, .data⟩ (by simp) rfl
          refine ⟨19, #[.int .u32 p.t], ?_, calls_fx (CT.out W) rfl⟩
          simp only [ogMk, Act.put, List.setIfInBounds_toArray, List.set_cons_zero, List.set_cons_succ, Nat.zero_add, Nat.reduceAdd]
          simp [execOp, Act.eval, go_sem, h5]
        · refine OgStep.pure ?_ ?_
          · rfl
          intro u W hS hp
          have h3 : u 3 = .string S3 := hp ⟨3, .data⟩ (by simp) rfl
          have h6 : u 6 = .string TT := hp ⟨6, .data⟩ (by simp) rfl
          have R := A4 W
          refine ⟨.string S4, ?_, rfl⟩
          simp only [ogMk, Act.put, List.setIfInBounds_toArray, List.set_cons_zero, List.set_cons_succ, Nat.zero_add, Nat.reduceAdd]
          simp [execOp, Act.eval, go_sem, h3, h6, R]
        · refine OgStep.pure ?_ ?_
          · rfl
          intro u W hS hp
          have h7 : u 7 = .string S4 := hp ⟨7, .data⟩ (by simp) rfl
          refine ⟨.string S4, ?_, rfl⟩
          simp only [ogMk, Act.put, List.setIfInBounds_toArray, List.set_cons_zero, List.set_cons_succ, Nat.zero_add, Nat.reduceAdd]
          simp [execOp, Act.eval, go_sem, h7]
      · intro u W hS hF
        have e0 : u 0 = .string S2 := hF 0 (by decide)
        have e2 : u 2 = .string T6 := hF 2 (by decide)
        have e3 : u 3 = .string S3 := hF 3 (by decide)
        have e4 : u 4 = .pointer (some ⟨w.heap.size, 2, none⟩) := hF 4 (by decide)
        have e5 : u 5 = .int .u32 p.t := hF 5 (by decide)
        have e6 : u 6 = .string TT := hF 6 (by decide)
        have e7 : u 7 = .string S4 := hF 7 (by decide)
        have e8 : u 8 = .string S4 := hF 8 (by decide)
        simp only [ogMk, Act.put, List.setIfInBounds_toArray, List.set_cons_zero, List.set_cons_succ, Nat.zero_add, Nat.reduceAdd]
        rw [e0, e2, e3, e4, e5, e6, e7, e8]
        clear e0 e2 e3 e4 e5 e6 e7 e8 hF
        go_wp2_with fail
        go_ret
        exact ⟨by rw [HF4.out]; rfl, D1.out.trans (hS.mono D1.out.size)⟩

/-- What '[]byte(s)' makes. -/
theorem run_bytes (zs : List Nat) (hb : Bs zs) (hn : zs.length ≤ 1000) (w : World) : ∃ (cap : Nat) (W : World), (convert 9 28 (.string (stg zs))).run Try.prog w = .ok (.slice (some ⟨w.heap.size, 0, none⟩) zs.length cap) W ∧ zs.length ≤ cap ∧ Below w.heap.size w W ∧ Rd W (some ⟨w.heap.size, 0, none⟩) zs ∧ ∀ k, k < zs.length → W.frozen? ⟨w.heap.size, k, none⟩ = false := by
  have hr := run_bytes_of_string (P := Try.prog) w 9 28 5 (stg zs) Try.underlying9 Try.underlying28 Try.underlying5
  have hcap := grownCap_ge w (stg zs).size 0 5
  generalize grownCap w (stg zs).size 0 5 = cap at hr hcap
  have hd : (stg zs).data.size = zs.length := stg_size zs
  rw [stg_size] at hr hcap
  refine ⟨cap, _, hr, hcap, (Below.refl _ _).drew.alloc (by simp) _, ⟨by omega, hb, fun k hk => ⟨_, rfl, ?_⟩⟩, fun k hk => ?_⟩
  · rw [Addr.add_mid, Nat.zero_add]
    refine (World.cell?_alloc_mark w.drew (bytesRow (stg zs) cap) 5 ((bytesRow (stg zs) cap).size, (bytesRow (stg zs) cap).size + 1) k).trans ?_
    rw [bytesRow_at (stg zs) cap k (by rw [hd]; exact hk)]
    have hbk := hb k
    rw [List.getD_eq_getElem?_getD, List.getElem?_eq_getElem hk] at hbk ⊢
    simp only [Option.getD_some] at hbk ⊢
    simp [stg, hk]
    omega
  · refine (World.frozen?_alloc_mark w.drew (bytesRow (stg zs) cap) 5 (bytesRow (stg zs) cap).size ((bytesRow (stg zs) cap).size + 1) k).trans ?_
    have hz : k < (bytesRow (stg zs) cap).size := by
      unfold bytesRow
      simp only [Array.size_append, Array.size_map, hd]
      omega
    simp only [Bool.and_eq_false_iff, decide_eq_false_iff_not]
    left
    omega
theorem at_bytes {ops : Array Oper} {rest : List Oper} {o : Oper} {a : Act} {w : World} {Q : Exit → Act → World → Prop} (x : Operand) (zs : List Nat) (T : ByteArray) (hT : Hid (stg zs = T)) (hgd : o.guard = none) (ho : o.op = .convert 9 28 x) (hx : a.eval x = .string T) (hb : Bs zs) (hn : zs.length ≤ 1000)
    (h : ∀ cap w', Hid (Below w.heap.size w w') → Hid (Rd w' (some ⟨w.heap.size, 0, none⟩) zs) → Hid (zs.length ≤ cap ∧ ∀ k, k < zs.length → w'.frozen? ⟨w.heap.size, k, none⟩ = false) → wpList Try.prog ops Q rest (a.put o.dst (.slice (some ⟨w.heap.size, 0, none⟩) zs.length cap)) w') : wpList Try.prog ops Q (o :: rest) a w :=
  wpList_plain hgd fun _ hK => by
    obtain ⟨cap, W, hr, hc, hB, hR, hf⟩ := run_bytes zs hb hn w
    rw [hT.out] at hr
    unfold Oper.wp execOp
    simp only [ho, hx, Sem.run_bind, Sem.run_pure, Result.andThen_ok, hr]
    exact hK _ _ (h cap W hB hR ⟨hc, hf⟩)
end Go.Proofs.Ytgdbkjiifliobaa
