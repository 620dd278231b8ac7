/-
  WalStops's walk: for every row of deeds and numbers it returns true, and nothing that was in memory is touched. Conditions: the numbers have their bits; a row has at most 2^47 members, and not more than its room.
-/
import Derived.Test.YtjkfgdeiciligaaDeeds
import Derived.Test.YtjkfgdeiciligaaFailsWalk
import Derived.Deep.CutRange
set_option linter.unusedSimpArgs false
namespace Go.Proofs.Ytjkfgdeiciligaa
open Go.RowKit

/-- What there is ahead of a deed: the disk, the log, and the account. -/
structure Ws (N : Nat) (w0 w : World) (p k : Nat) (pv : Value) (M : Dk) (q : Nat) (rv : Value) (L : Lk) (v : Value) (i : Nat) : Prop where
  at' : At N w0 w p k pv M q rv L
  sys : Sys M L
  sr : Sr w (fs (ft p k pv) q rv) v L.recs
  n : M.n = 60
  fail : M.fail = none
  calls : M.calls ≤ 1000 + 2000 * i
  turn : L.turn ≤ 1 + i

/-- The log that a deed makes. -/
def nx (L : Lk) (zs : List Nat) (b : Bool) : Lk := if b = true then L.next zs else L.more zs
/-- What there is behind a deed. -/
structure Oc (N : Nat) (w0 wc : World) (p k q : Nat) (M : Dk) (L : Lk) (L' : Lk) (v : Value) (er : Int) (pv' rv' : Value) (M' : Dk) (L'' : Lk) : Prop where
  at' : At N w0 wc p k pv' M' q rv' L''
  sr : Sr wc (fs (ft p k pv') q rv') v L.recs
  out : (er = 0 ∧ L'' = L' ∧ Sys M' L' ∧ Kp M M') ∨ (er = 9 ∧ L'' = { L with broken := true } ∧ Stp M L L' 9 M')
theorem oc_of {N : Nat} {w0 w wc : World} {p k q : Nat} {pv rv pv' rv' v : Value} {M M' : Dk} {L L' L'' : Lk} {r0 er : Int} (hsr : Sr w (fs (ft p k pv) q rv) v L.recs) (ha : At N w0 wc p k pv' M' q rv' L'') (hs : Step w wc (fs (ft p k pv) q rv) (fs (ft p k pv') q rv')) (hd : Done M L L' r0 er M' L'') (h0 : r0 = 0) (hf : M.fail = none) : Oc N w0 wc p k q M L L' v er pv' rv' M' L'' := by
  refine ⟨ha, hsr.step hs, ?_⟩
  cases hd with
  | no h _ _ _ => exact (h h0).elim
  | ok _ e el s kp => exact .inl ⟨e, el, s, kp⟩
  | err _ e el s =>
    have := s.fail hf
    have h9 : er = 9 := by rcases s.err with ⟨h, _⟩ | ⟨h, _⟩ <;> omega
    subst h9
    exact .inr ⟨rfl, el, s⟩

/-- A row of texts grown by one: it is another one's, and of its own. -/
theorem Sr.grown {w w' : World} {F : Nat → Prop} {ss : List (List Nat)} {z : List Nat} {N g cap n : Nat} (hb : Below N w w') (hF : ∀ b, F b → b < N) (hg : N ≤ g) (ho : w'.ownsRow 0 9 1 (.slice (some ⟨g, 0, none⟩) (n + 1) cap) (n + 1) (tcl ss ++ [.string (stg z)])) (hn : n = ss.length) (hs : ∀ y ∈ ss, Bs y) (hz : Bs z) : Below N w w' ∧ Sr w' F (.slice (some ⟨g, 0, none⟩) (n + 1) cap) (ss ++ [z]) := by
  refine ⟨hb, ⟨?_, fun y hy => ?_, fun b hb' hf => ?_⟩⟩
  · rw [tcl_append, List.length_append, List.length_singleton, ← hn]
    exact ho
  · rcases List.mem_append.1 hy with h | h
    · exact hs y h
    · obtain rfl : y = z := by simpa using h
      exact hz
  · obtain rfl : g = b := by simpa [Value.ownBlock] using hb'
    have := hF _ hf
    omega

theorem Sr.mono {w : World} {F F' : Nat → Prop} {v : Value} {ss : List (List Nat)} (h : Sr w F v ss) (hF : ∀ b, F' b → b < w.heap.size → F b) : Sr w F' v ss :=
  ⟨h.own, h.byt, fun g hg hf => h.away g hg (hF g hf (h.lt hg))⟩
/-- A log that was opened is none of theirs. -/
theorem Sr.opened {w w' : World} {F F' : Nat → Prop} {v : Value} {ss : List (List Nat)} {q : Nat} {rv : Value} (h : Sr w F v ss) (hs : Step w w' F F') (hq : w.heap.size ≤ q) (hr : ∀ g, rv.ownBlock = some g → w.heap.size ≤ g) : Sr w' (fs F' q rv) v ss := by
  have h1 := h.step hs
  refine ⟨h1.own, h1.byt, fun g hg hf => ?_⟩
  have hlt := h.lt hg
  rcases hf with hf | hf | hf
  · exact h1.away g hg hf
  · omega
  · have := hr g hf; omega
/-- What there is when a log was opened anew: it is one of two. -/
structure Wk (N : Nat) (w0 w : World) (p k : Nat) (pv : Value) (M : Dk) (q : Nat) (rv : Value) (La : Lk) (v1 : Value) (s1 : List (List Nat)) (v2 : Value) (s2 : List (List Nat)) : Prop where
  at' : At N w0 w p k pv M q rv La
  sys : Sys M La
  r1 : Sr w (fs (ft p k pv) q rv) v1 s1
  r2 : Sr w (fs (ft p k pv) q rv) v2 s2
  n : M.n = 60
  fail : M.fail = none
  calls : M.calls ≤ 90000
/-- What there is, of the log that was opened alone. -/
structure Wj (N : Nat) (w0 w : World) (p k : Nat) (pv : Value) (M : Dk) (q : Nat) (rv : Value) (La : Lk) : Prop where
  at' : At N w0 w p k pv M q rv La
  sys : Sys M La
  n : M.n = 60
  stop : M.stop = none
  fail : M.fail = none
  calls : M.calls ≤ 99000
  turn : La.turn ≤ 40

set_option maxHeartbeats 8000000 in
set_option maxRecDepth 100000 in
theorem walStops_walk (A : Option Addr) (xs : List Dd) (c : Nat) (st mask : Nat) (torn : Int) (by' : Nat) (w : World) (h : Ra w A xs) (hc : xs.length ≤ c) (hst : st < 256) (hmask : mask < 18446744073709551616) (ht : -128 ≤ torn ∧ torn < 128) (hby : by' < 256) :
    Calls Try.prog 4 #[.slice A xs.length c, .int .u8 st, .int .u64 mask, .int .i8 torn, .int .u8 by'] w fun e w' => e = .returned (.bool true) ∧ Below w.heap.size w w' := by
  have AW := Lib.hid (awake_any w)
  obtain ⟨n, hn⟩ : ∃ n, n = min xs.length 20 := ⟨_, rfl⟩
  have EX : min (xs.length : Int) 20 = (n : Int) := by omega
  have hnc : n ≤ c := by omega
  have hn20 : n ≤ 20 := by omega
  have HNX := Lib.hid (show n ≤ xs.length by omega)
  have H := Lib.hid h
  have hxl := h.1
  have HT := Lib.hid ht
  clear h hn ht
  go_enter Try.func4, Try.ntmps4
  go_wp2_with fail
  refine AW.out.mono ?_
  rintro e w1 ⟨rfl, b1⟩
  have B1 := Lib.hid b1
  clear b1 AW
  go_wp2_with fail
  refine (of_at (N := w.heap.size) (w0 := w) 60 60 (by decide) w1 B1.out (Nat.le_refl _)).mono ?_
  rintro e w2 ⟨p, k, rfl, a2⟩
  have C2 := Lib.hid (open_new 60 a2 (by decide) (by decide))
  clear a2
  go_wp2_with fail
  refine C2.out.mono ?_
  rintro e w3 ⟨q, pv3, rv3, M3, rfl, a3, s3, k3⟩
  have A3 := Lib.hid a3
  have S3 := Lib.hid s3
  have K3 := Lib.hid k3
  clear a3 s3 k3 C2
  go_wp2_with fail
  refine (arm_any p k _ _ (st : Int) _ A3.out.d (by omega)).mono ?_
  rintro e w4 ⟨rfl, d4, s4⟩
  have A4 := A3.out.disk (Nat.le_refl _) d4 s4
  have W5 : Hid (Ws w.heap.size w (w4.alloc (.cells #[.string ⟨#[]⟩] 9)) p k pv3 { M3 with stop := al st } q rv3 ⟨60 / 2, 60 / 2, 1, 2, [[]], false⟩ (.slice (some ⟨w4.heap.size, 0, none⟩) 1 1) 0) := by
    refine ⟨A4.below (Nat.le_refl _) ((Below.refl _ w4).alloc (Nat.le_refl _) _), ⟨S3.out.down, S3.out.pend, S3.out.half, S3.out.gd, S3.out.ok, S3.out.byt⟩, Sr.one w4 _ [] (fun i => by simp) (fun b hb => A4.lt hb), K3.out.n, K3.out.fail rfl, ?_, by decide⟩
    have h1 := K3.out.calls
    have e : (⟨60, fun _ => zer, [], 0, none, none, false⟩ : Dk).calls = 0 := rfl
    show M3.calls ≤ _
    omega
  clear d4 s4 A4 A3 S3 K3
  go_wp2_with fail
  generalize hw5 : w4.alloc _ = w5 at *
  clear hw5
  go_loopg [14, 15, 53] n (fun m v14 v15 v53 wr => ∃ (i : Nat) (pv : Value) (M : Dk) (rv : Value) (L : Lk) (Av : Option Addr) (cv : Nat), i + m = n ∧ v53 = .int .i64 (i : Int) ∧ v14 = .slice Av L.recs.length cv ∧ v15 = .int .i64 (L.turn : Int) ∧ Hid (Ws w.heap.size w wr p k pv M q rv L (.slice Av L.recs.length cv) i))
  case atStart => exact ⟨0, _, _, _, _, _, _, by omega, rfl, rfl, rfl, W5.out⟩
  case round =>
    clear W5
    obtain ⟨i, pv, M, rv, L, Av, cv, hi, rfl, rfl, rfl, HH⟩ := hrel
    have hLl := (HH.out.sys.small (by have := HH.out.n; omega)).2.2.2
    have hLt := HH.out.turn
    match gk with
    | 0 =>
      obtain rfl : i = n := by omega
      obtain ⟨A', c', e0, hstr⟩ := HH.out.sr.shape
      injection e0 with e1 _ e2
      subst e1
      have CS := Lib.hid (shows_any Av L.recs cv (L.turn : Int) HH.out.at'.l (by omega) hstr (by omega))
      rw [show decide (L.recs = L.recs ∧ (L.turn : Int) = (L.turn : Int)) = true by simp] at CS
      clear hstr e2
      go_wp2_with fail
      refine CS.out.mono ?_
      rintro e w6 ⟨rfl, b6⟩
      have CB := Lib.hid (broken_any (HH.out.at'.l.below b6))
      rw [HH.out.sys.ok] at CB
      have B6 := Lib.hid (HH.out.at'.below (Nat.le_refl _) b6).b
      clear b6 CS
      go_wp2_with fail
      refine CB.out.mono ?_
      rintro e w7 ⟨rfl, rfl⟩
      go_wp2_with fail
      go_ret
      exact ⟨rfl, B6.out⟩
    | m + 1 =>
      have hin : i < n := by omega
      obtain ⟨a, ha⟩ : ∃ a, xs[i]? = some a := ⟨_, List.getElem?_eq_getElem (by have := HNX.out; omega)⟩
      have HRA := H.out.below (HH.out.at'.b.mono (Nat.le_refl _))
      obtain ⟨hok, y, hAy, hcy⟩ := HRA.2 i a ha
      subst hAy
      have hop := hok.op
      have hcap := hok.cap
      have hmuch := hok.much
      have hfew := hok.few
      obtain ⟨x, hx⟩ : ∃ x, x = min a.len 300 := ⟨_, rfl⟩
      have EM : min (a.len : Int) 300 = (x : Int) := by omega
      have hxc : x ≤ a.cap := by omega
      have hx3 : x ≤ 300 := by omega
      have HZL : Hid ((a.zs.take x).length = x) := by show _ = _; rw [List.length_take]; omega
      have HRD := Lib.hid (hok.rd.take x)
      have HRW := Lib.hid (((H.out.2 i a ha).1.rd).take x)
      have hld : ∀ j v, (dc a)[j]? = some v → wr.cell? ((y.add (i * 3)).add j) = some v := fun j v hv => by rw [Addr.add_add]; exact hcy j v hv
      have TA := thereOA wr ZA
      have RA := heldA_range wr a
      have cA0 : (heldA wr a).cell? ⟨wr.heap.size, 0, none⟩ = some (.int .u8 (a.op : Int)) := RA 0 _ rfl
      have cA1 : (heldA wr a).cell? ⟨wr.heap.size, 1, none⟩ = some (.slice a.adr a.len a.cap) := RA 1 _ rfl
      have BA := Lib.hid (heldA_below wr a)
      clear hcy HRA hok ha hx RA hfew
      unfold heldA at *
      go_upto_if 69 with (first
        | (with_reducible show wpList _ _ _ _ _ wr; first | (refine at_load35 (.tmp 55) rfl rfl (y.add (i * 3)) a (by simp [Act.eval, Act.put]) hld ?_) | (refine at_alloc35 rfl rfl ?_))
        | (with_reducible show wpList _ _ _ _ _ (wr.alloc (OA ZA)); refine at_store35 (.tmp 17) (.tmp 56) rfl rfl wr.heap.size 0 a (by simp [Act.eval, Act.put]) (by simp [Act.eval, Act.put]) TA ?_))
      have WA : Hid (Ws w.heap.size w ((wr.alloc (OA ZA)).setCells wr.heap.size 0 (dc a)) p k pv M q rv L (.slice Av L.recs.length cv) i) := ⟨HH.out.at'.below (Nat.le_refl _) BA.out, HH.out.sys, HH.out.sr.below BA.out, HH.out.n, HH.out.fail, HH.out.calls, HH.out.turn⟩
      have HRD2 := Lib.hid (HRD.out.below BA.out)
      generalize (wr.alloc (OA ZA)).setCells wr.heap.size 0 (dc a) = wa at *
      generalize wr.heap.size = Na at *
      clear HRD HH BA TA hld cA0 cA1
      obtain ⟨bb, hbb⟩ : ∃ bb, ((a.op : Int) % 4 == 0) = bb := ⟨_, rfl⟩
      rw [hbb]
      clear hbb
      obtain ⟨zs, hzs⟩ : ∃ zs, zs = a.zs.take x := ⟨_, rfl⟩
      rw [← hzs] at HZL HRD2 HRW
      clear hzs
      have m60 : M.n ≤ 512 := by have := WA.out.n; omega
      have hsm := WA.out.sys.small m60
      have hcl : M.calls + 1000 < 1000000 := by have := WA.out.calls; omega
      have hsx : sct x ≤ 6 := by unfold sct; omega
      have h30 : L.size = 30 := by have := WA.out.sys.half; have := WA.out.n; omega
      have AWY : Hid (∀ {w' : World} {pv rv : Value} {M : Dk} {L : Lk}, At w.heap.size w w' p k pv M q rv L → ∀ y, zs ≠ [] → a.adr = some y → ¬ fs (ft p k pv) q rv y.block) := fun h y hy hA hf => by
        have h1 := rd_lt HRW.out y hy hA
        have h2 := h.new _ hf
        omega
      have CA := Lib.hid (append_at a.adr zs a.cap WA.out.at' (Nat.le_refl _) hsm HRD2.out (AWY.out WA.out.at') (by have := HZL.out; omega) (by have := HZL.out; omega) hcl)
      have DA := Lib.hid (apd_done WA.out.sys m60 HRW.out.2.1)
      have RA : Hid (rf6 L zs.length ((L.size : Int) - (L.fin : Int)) = 0 ∨ rf6 L zs.length ((L.size : Int) - (L.fin : Int)) = 4) := by
        show _ ∨ _
        unfold rf6
        rw [if_neg (by rw [WA.out.sys.ok]; simp), if_neg (by have := HZL.out; omega)]
        split
        · exact .inr rfl
        · exact .inl rfl
      rw [HZL.out] at CA
      go_cut [20] from 54 to 216 (fun v20 wc => ∃ er0 : Int, v20 = .int .i64 er0 ∧ Hid ((er0 = 4 ∧ ∃ pv' rv', Ws w.heap.size w wc p k pv' M q rv' L (.slice Av L.recs.length cv) i) ∨ (bb = false ∧ (er0 = 0 ∨ er0 = 9) ∧ ∃ pv' rv' M' L'', Oc w.heap.size w wc p k q M L (L.more zs) (.slice Av L.recs.length cv) er0 pv' rv' M' L'')))
      case first => as_aux_lemma =>
        cases bb
        · go_wp2_with fail
          refine CA.out.mono ?_
          rintro e wb ⟨rfl, pv', rv', a', s'⟩
          have SR := Lib.hid (WA.out.sr.step s')
          rcases RA.out with h0 | h0
          · have OC := Lib.hid (oc_of WA.out.sr a' s' DA.out h0 WA.out.fail)
            have her : (apd L M zs).1 = 0 ∨ (apd L M zs).1 = 9 := OC.out.out.elim (fun h => .inl h.1) (fun h => .inr h.1)
            have HER := Lib.hid her
            clear a' s' her
            generalize apd L M zs = r at *
            go_wp2_with fail
            go_meet
            case rel => exact ⟨r.1, rfl, .inr ⟨by first | rfl | trivial, HER.out, pv', rv', r.2.2, r.2.1, OC.out⟩⟩
          · have hno : (apd L M zs) = (4, L, M) := by rw [apd, if_neg (by rw [h0]; omega), h0]
            rw [hno] at a' ⊢
            have W' : Hid (Ws w.heap.size w wb p k pv' M q rv' L (.slice Av L.recs.length cv) i) := ⟨a', WA.out.sys, SR.out, WA.out.n, WA.out.fail, WA.out.calls, WA.out.turn⟩
            clear a' s' hno
            go_wp2_with fail
            go_meet
            case rel => exact ⟨4, rfl, .inl ⟨rfl, pv', rv', W'.out⟩⟩
        · go_wp2_with fail
          go_meet
          case rel => exact ⟨4, rfl, .inl ⟨rfl, pv, rv, WA.out⟩⟩
      have HNE := Lib.hid WA.out.sys.gd.ne
      have HOK := Lib.hid WA.out.sys.ok
      have HMN := Lib.hid (And.intro WA.out.n (And.intro WA.out.fail WA.out.calls))
      clear CA DA RA WA HRD2
      obtain ⟨er0, rfl, HCUT⟩ := hcut
      go_upto_if 74 with fail
      go_cut [19, 20] from 54 to 216 (fun v19 v20 wd => ∃ b er pv' rv' M' L'', (er = 0 ∨ er = 9) ∧ v19 = .bool b ∧ v20 = .int .i64 er ∧ Hid (Oc w.heap.size w wd p k q M L (nx L zs b) (.slice Av L.recs.length cv) er pv' rv' M' L''))
      case first => as_aux_lemma =>
        rcases HCUT.out with ⟨rfl, pv', rv', hw⟩ | ⟨rfl, her, pv', rv', M', L'', ho⟩
        · have HW := Lib.hid hw
          clear hw
          have CB := Lib.hid (begin_at a.adr zs a.cap HW.out.at' (Nat.le_refl _) hsm (by omega) (HRW.out.below (HW.out.at'.b.mono (Nat.le_refl _))) (AWY.out HW.out.at') (by have := HZL.out; omega) (by have := HZL.out; omega) hcl)
          have DB := Lib.hid (bgn_done HW.out.sys m60 (by omega) HRW.out.2.1)
          rw [HZL.out] at CB
          have RB : Hid (rf6 L zs.length ((L.size : Int) - 1) = 0) := rf6_fits HW.out.sys.ok (by have := HZL.out; omega) (by rw [HZL.out]; omega)
          go_wp2_with fail
          refine CB.out.mono ?_
          rintro e wb ⟨rfl, pv2, rv2, a2, s2⟩
          have OC := Lib.hid (oc_of HW.out.sr a2 s2 DB.out RB.out HW.out.fail)
          have HER : Hid ((bgn L M zs).1 = 0 ∨ (bgn L M zs).1 = 9) := OC.out.out.elim (fun h => .inl h.1) (fun h => .inr h.1)
          clear a2 s2
          generalize bgn L M zs = r at *
          go_wp2_with fail
          go_meet
          case rel => exact ⟨true, r.1, pv2, rv2, r.2.2, r.2.1, HER.out, rfl, rfl, OC.out⟩
        · have HO := Lib.hid ho
          clear ho
          rcases her with rfl | rfl
          · go_wp2_with fail
            go_meet
            case rel => exact ⟨false, 0, pv', rv', M', L'', .inl rfl, rfl, rfl, HO.out⟩
          · go_wp2_with fail
            go_meet
            case rel => exact ⟨false, 9, pv', rv', M', L'', .inr rfl, rfl, rfl, HO.out⟩
      clear HCUT
      obtain ⟨b, er, pv1, rv1, M1, L1, her, rfl, rfl, HO⟩ := hcut
      generalize wc = wd at *
      have hL0 : 0 < L.recs.length := List.length_pos_iff.2 HNE.out
      have hL1 : L.recs.length < 1000000 := by omega
      have HCV := Lib.hid fun W (h : Below w.heap.size w W) => (HZL.out ▸ run_stg (HRW.out.below (h.mono (Nat.le_refl _))) a.cap : (convert 33 9 (.slice a.adr x a.cap)).run Try.prog W = .ok (.string (stg zs)) W)
      have BD := Lib.hid HO.out.at'.b
      have SRD := Lib.hid HO.out.sr
      have FLT := Lib.hid (show ∀ b, fs (ft p k pv1) q rv1 b → b < wd.heap.size from fun b hb => HO.out.at'.lt hb)
      have CV0 : (convert 33 9 (.slice a.adr x a.cap)).run Try.prog wd.drew = .ok (.string (stg zs)) wd.drew := HCV.out wd.drew BD.out.drew
      have OW0 := Lib.hid (show wd.drew.ownsRow 0 9 1 (.slice Av L.recs.length cv) L.recs.length (tcl L.recs) from SRD.out.own)
      have OWa := Lib.hid (ownsRow_of_block (w' := wd.drew.alloc (.cells #[.string (stg zs)] 9)) OW0.out (fun g hg => Below.heap_alloc _ _ _ (OW0.out.lt g hg).2))
      have B0 := Lib.hid (Below.refl wd.heap.size wd).drew
      have Ba := Lib.hid (B0.out.alloc B0.out.size (.cells #[.string (stg zs)] 9))
      have hEr : (er = 0 ∨ er = 9) := her
      have HER := Lib.hid hEr
      clear hEr her
      have hg83 : ¬ (er ≠ 0 ∧ er ≠ 9) := by have := HER.out; omega
      go_upto_region 20 with fail
      go_cut [83] from 54 to 216 (fun v83 we => v83 = .bool false ∧ we = wd)
      case first => as_aux_lemma =>
        rcases HER.out with rfl | rfl
        · go_wp2_with fail
          go_meet
          case rel => exact ⟨rfl, rfl⟩
        · go_wp2_with fail
          go_meet
          case rel => exact ⟨rfl, rfl⟩
      obtain ⟨rfl, hwc⟩ := hcut
      rw [hwc]
      clear hwc
      go_upto_region 22 with fail
      clear HCV hg83
      go_cut [21, 22] from 54 to 216 (fun v21 v22 we => ∃ A1 c1, v21 = .slice A1 (L.recs.length + 1) c1 ∧ v22 = .int .i64 (L.turn : Int) ∧ Hid (Below wd.heap.size wd we ∧ Sr we (fs (ft p k pv1) q rv1) (.slice A1 (L.recs.length + 1) c1) (L.recs ++ [zs])))
      case first => as_aux_lemma =>
        go_region_law (first
          | (refine step_append_copy wd.drew rfl (.const (.slice none 0 0)) (.tmp 84) rfl (.slice Av L.recs.length cv) L.recs (by simp [Act.eval, Act.put]) (by simp [Act.eval, Act.put]) OW0.out hL0 hL1 ?_
             intro gA capA wA hownA hgrowA hgA hltA
             have BA := Lib.hid (B0.out.grown hgrowA B0.out.size (fun k hk => by cases hk))
             have CVA : (convert 33 9 (.slice a.adr x a.cap)).run Try.prog wA = .ok (.string (stg zs)) wA := (HZL.out ▸ run_stg (HRW.out.below ((BD.out.trans (BA.out.mono BD.out.size)).mono (Nat.le_refl _))) a.cap : (convert 33 9 (.slice a.adr x a.cap)).run Try.prog wA = .ok (.string (stg zs)) wA)
             have OA := Lib.hid (ownsRow_of_block (w' := wA.alloc (.cells #[.string (stg zs)] 9)) hownA (fun g hg => Below.heap_alloc _ _ _ (hownA.lt g hg).2))
             have CA : Hid ((wA.alloc (.cells #[.string (stg zs)] 9)).cell? ⟨wA.heap.size, 0, none⟩ = some (.string (stg zs))) := by
               show _ = _
               rw [cell_of_row _ _ _ _ _ _ (heap_alloc_new wA _)]
               rfl
             have BAa := Lib.hid (BA.out.alloc BA.out.size (.cells #[.string (stg zs)] 9))
             have HgA : Hid (gA = wd.heap.size) := hgA
             clear hownA hgrowA hgA)
          | (refine step_append_copy (wd.drew.alloc (.cells #[.string (stg zs)] 9)) rfl (.const (.slice none 0 0)) (.tmp 84) rfl (.slice Av L.recs.length cv) L.recs (by simp [Act.eval, Act.put]) (by simp [Act.eval, Act.put]) OWa.out hL0 hL1 ?_
             intro gB capB wB hownB hgrowB hgB hltB
             have BB := Lib.hid (Ba.out.grown hgrowB Ba.out.size (fun k hk => by cases hk))
             have OB := Lib.hid hownB
             have CB : Hid (wB.cell? ⟨wd.drew.heap.size, 0, none⟩ = some (.string (stg zs))) := by
               show _ = _
               rw [World.cell?_of_block (hgrowB.block _ (by simp) (by simp)), cell_of_row _ _ _ _ _ _ (heap_alloc_new wd.drew _)]
               rfl
             have HgB : Hid (wd.heap.size ≤ gB) := by
               show _ ≤ _
               have e : wd.drew.heap.size = wd.heap.size := rfl
               simp at hgB
               omega
             clear hownB hgrowB hgB)
          | (refine step_append1 Try.underlying32 info9 rfl (by omega) (wA.alloc (.cells #[.string (stg zs)] 9)) rfl (.tmp 85) (.tmp 88) rfl 0 (.slice (some ⟨gA, 0, none⟩) L.recs.length capA) L.recs.length (tcl L.recs) (by simp [Act.eval, Act.put]) OA.out wA.heap.size 1 (.string (stg zs)) (by simp [Act.eval, Act.put]) CA.out rfl hL1 (Nat.zero_le _) ?_
             intro g3 cap3 w3 hown hgrow hat hlt
             have FIN := Lib.hid (Sr.grown (BAa.out.grown hgrow BAa.out.size (fun k hk => by
               obtain rfl : gA = k := by simpa [Value.ownBlock] using hk
               exact Nat.le_of_eq HgA.out.symm)) FLT.out (by
               rcases hat with e | e
               · obtain rfl : gA = g3 := by simpa [Value.ownBlock] using e
                 exact Nat.le_of_eq HgA.out.symm
               · have := BAa.out.size; omega) hown rfl SRD.out.byt HRW.out.2.1)
             clear hown hgrow hat)
          | (refine step_append1 Try.underlying32 info9 rfl (by omega) wB rfl (.tmp 85) (.tmp 88) rfl 0 (.slice (some ⟨gB, 0, none⟩) L.recs.length capB) L.recs.length (tcl L.recs) (by simp [Act.eval, Act.put]) OB.out wd.drew.heap.size 1 (.string (stg zs)) (by simp [Act.eval, Act.put]) CB.out rfl hL1 (Nat.zero_le _) ?_
             intro g3 cap3 w3 hown hgrow hat hlt
             have FIN := Lib.hid (Sr.grown (BB.out.grown hgrow BB.out.size (fun k hk => by
               obtain rfl : gB = k := by simpa [Value.ownBlock] using hk
               exact HgB.out)) FLT.out (by
               rcases hat with e | e
               · obtain rfl : gB = g3 := by simpa [Value.ownBlock] using e
                 exact HgB.out
               · have := BB.out.size; omega) hown rfl SRD.out.byt HRW.out.2.1)
             clear hown hgrow hat))
        all_goals (
          go_wp2_with fail
          go_meet
          case rel => exact ⟨_, _, rfl, rfl, FIN.out⟩)
      obtain ⟨A1, c1, rfl, rfl, HM⟩ := hcut
      generalize wc = we at *
      clear CV0 OW0 OWa B0 Ba
      have CVe : (convert 33 9 (.slice a.adr x a.cap)).run Try.prog we = .ok (.string (stg zs)) we := (HZL.out ▸ run_stg (HRW.out.below ((BD.out.trans (HM.out.1.mono BD.out.size)).mono (Nat.le_refl _))) a.cap : (convert 33 9 (.slice a.adr x a.cap)).run Try.prog we = .ok (.string (stg zs)) we)
      go_upto_if 91 with fail
      go_cut [21, 22] from 54 to 216 (fun v21 v22 wf => ∃ A2 c2, v21 = .slice A2 (nx L zs b).recs.length c2 ∧ v22 = .int .i64 ((nx L zs b).turn : Int) ∧ Hid (Below wd.heap.size wd wf ∧ Sr wf (fs (ft p k pv1) q rv1) (.slice A2 (nx L zs b).recs.length c2) (nx L zs b).recs))
      case first => as_aux_lemma =>
        cases b
        · go_wp2_with fail
          go_meet
          case rel => exact ⟨A1, c1, by simp [nx, Lk.more], rfl, HM.out.1, by have := HM.out.2; simpa [nx, Lk.more] using this⟩
        · have S1 := Lib.hid (Sr.one we (fs (ft p k pv1) q rv1) zs HRW.out.2.1 (fun b hb => Nat.lt_of_lt_of_le (FLT.out b hb) HM.out.1.size))
          have B1' := Lib.hid (HM.out.1.alloc HM.out.1.size (.cells #[.string (stg zs)] 9))
          go_wp2_with fail
          go_meet
          case rel => exact ⟨some ⟨we.heap.size, 0, none⟩, 1, rfl, by simp [nx, Lk.next], B1'.out, S1.out⟩
      clear CVe HM
      obtain ⟨A2, c2, rfl, rfl, HX⟩ := hcut
      generalize wc = wf at *
      rcases HER.out with rfl | rfl
      · as_aux_lemma =>
        have HP : Hid (Ws w.heap.size w wf p k pv1 M1 q rv1 (nx L zs b) (.slice A2 (nx L zs b).recs.length c2) (i + 1)) := by
          obtain ⟨_, el, hs, hk⟩ := HO.out.out.resolve_right (fun h => by have := h.1; omega)
          have ha := HO.out.at'
          rw [el] at ha
          refine ⟨ha.below (Nat.le_refl _) HX.out.1, hs, HX.out.2, hk.n.trans HMN.out.1, hk.fail HMN.out.2.1, by have := hk.calls; have := HMN.out.2.2; omega, ?_⟩
          have : (nx L zs b).turn ≤ L.turn + 1 := by cases b <;> simp [nx, Lk.more, Lk.next]
          omega
        clear HX HO
        go_wp2_with fail
        go_roundg m
        case measure => omega
        case rel => exact ⟨i + 1, pv1, M1, rv1, nx L zs b, A2, c2, by omega, by go_num, rfl, rfl, HP.out⟩
      · as_aux_lemma =>
        obtain ⟨_, el1, hstp⟩ := HO.out.out.resolve_left (fun h => by have := h.1; omega)
        subst el1
        have AF := Lib.hid (HO.out.at'.below (Nat.le_refl _) HX.out.1)
        have R1F := Lib.hid (HO.out.sr.below HX.out.1)
        have R2F := Lib.hid HX.out.2
        have SP := Lib.hid hstp
        have hcM1 : M1.calls ≤ 50000 := by have := hstp.calls; have := HMN.out.2.2; omega
        have hnM1 : M1.n = 60 := hstp.n.trans HMN.out.1
        have HLB : Hid ((nx L zs b).broken = false ∧ (nx L zs b).size = 30 ∧ (nx L zs b).turn ≤ 30 ∧ L.turn ≤ 30) := by
          refine ⟨?_, ?_, ?_, by omega⟩
          · cases b <;> exact HOK.out
          · cases b <;> exact h30
          · cases b
            · show L.turn ≤ 30; omega
            · show L.turn + 1 ≤ 30; omega
        clear HX HO SRD BD FLT hstp
        -- nothing is written any more
        have CA := Lib.hid (append_broken none [] 0 AF.out rfl (Nat.le_refl _) hsm (Rd.nil _ _) (fun x hx => (hx rfl).elim) (by simp) (by simp) (by omega))
        go_wp2_with fail
        refine CA.out.mono ?_
        rintro e wg ⟨rfl, pv2, rv2, a2, s2⟩
        have A2 := Lib.hid a2
        have R1G := Lib.hid (R1F.out.step s2)
        have R2G := Lib.hid (R2F.out.step s2)
        clear a2 s2 CA AF R1F R2F
        go_wp2_with fail
        refine (broken_any A2.out.l).mono ?_
        rintro e wh ⟨rfl, rfl⟩
        obtain ⟨ht1, ht2⟩ := HT.out
        go_wp2_with fail
        -- the disk goes on
        refine (restart_any p k _ M1 mask torn by' _ A2.out.d hmask).mono ?_
        rintro e wh ⟨rfl, d3, s3⟩
        have D3 := Lib.hid ((A2.out.ad (Nat.le_refl _)).disk d3 s3)
        have R1H := Lib.hid ((R1G.out.mono (F' := ft p k pv2) (fun b hb _ => .inl hb)).step s3)
        have R2H := Lib.hid ((R2G.out.mono (F' := ft p k pv2) (fun b hb _ => .inl hb)).step s3)
        clear d3 s3 A2 R1G R2G
        go_wp2_with fail
        refine (arm_any p k _ _ _ _ D3.out.d (by omega)).mono ?_
        rintro e wi ⟨rfl, d4, s4⟩
        have D4 := Lib.hid (D3.out.disk d4 s4)
        have R1I := Lib.hid (R1H.out.step s4)
        have R2I := Lib.hid (R2H.out.step s4)
        clear d4 s4 D3 R1H R2H
        obtain ⟨La, hLa, hwLa⟩ : ∃ La, (La = L ∨ La = nx L zs b) ∧ WG (kpa (amt mask torn by') M1.pend M1.kept M1.pend.length) La := (SP.out.all _).elim (fun h => ⟨L, .inl rfl, h⟩) (fun h => ⟨_, .inr rfl, h⟩)
        have HLA : Hid (La.broken = false ∧ La.size = 30 ∧ La.turn ≤ 30) := by
          rcases hLa with rfl | rfl
          · exact ⟨HOK.out, h30, HLB.out.2.2.2⟩
          · exact ⟨HLB.out.1, HLB.out.2.1, HLB.out.2.2.1⟩
        have C4 := Lib.hid (open_at D4.out rfl rfl (L := La) (by show M1.n / 2 = _; rw [hnM1, HLA.out.2.1]) (by show M1.n ≤ 512; omega) hwLa HLA.out.1 (SP.out.byt _) (by have := HLA.out.2.2; omega) (by show M1.calls + 1000 < _; omega))
        have HLC := Lib.hid hLa
        clear hwLa hLa
        go_upto_region 31 with fail
        go_cut [23, 24] from 54 to 216 (fun v23 v24 wc => ∃ (o : Option Addr) (f : Int), v23 = .pointer o ∧ v24 = .int .i64 f ∧ Hid ((∃ q2 pv M rv, o = some ⟨q2, 0, none⟩ ∧ f = 0 ∧ Wk w.heap.size w wc p k pv M q2 rv La (.slice Av L.recs.length cv) L.recs (.slice A2 (nx L zs b).recs.length c2) (nx L zs b).recs) ∨ (∃ pv M, o = none ∧ f = 9 ∧ Ad w.heap.size w wc p k pv M ∧ Sr wc (ft p k pv) (.slice Av L.recs.length cv) L.recs ∧ Sr wc (ft p k pv) (.slice A2 (nx L zs b).recs.length c2) (nx L zs b).recs ∧ M.n = 60 ∧ M.calls ≤ 60000 ∧ (∀ am, WG (kpa am M.pend M.kept M.pend.length) La) ∧ (∀ am i j, kpa am M.pend M.kept M.pend.length i j < 256))))
        case first => as_aux_lemma =>
          go_wp2_with fail
          refine C4.out.mono ?_
          rintro e wj (⟨q2, pv2', rv2', M2, rfl, a5, s5, k5, st5, hq5, hr5⟩ | ⟨pv2', er2, M2, her2, rfl, a5, s5, st5⟩)
          · have WK : Hid (Wk w.heap.size w wj p k pv2' M2 q2 rv2' La (.slice Av L.recs.length cv) L.recs (.slice A2 (nx L zs b).recs.length c2) (nx L zs b).recs) := ⟨a5, s5, R1I.out.opened st5 hq5 hr5, R2I.out.opened st5 hq5 hr5, k5.n.trans hnM1, k5.fail rfl, by have h1 := k5.calls; have h2 : M1.calls ≤ 50000 := hcM1; have h3 : M2.calls ≤ M1.calls + 1000 := h1; omega⟩
            clear a5 s5 k5 st5 hq5 hr5
            go_wp2_with fail
            go_meet
            case rel => exact ⟨_, _, rfl, rfl, .inl ⟨q2, pv2', M2, rv2', rfl, rfl, WK.out⟩⟩
          · have h9 : er2 = 9 := by
              have := s5.fail rfl
              rcases s5.err with ⟨h, _⟩ | ⟨h, _⟩ <;> omega
            subst h9
            have X1 := Lib.hid a5
            have X2 := Lib.hid (R1I.out.step st5)
            have X3 := Lib.hid (R2I.out.step st5)
            have X4 : Hid (M2.n = 60 ∧ M2.calls ≤ 60000) := ⟨s5.n.trans hnM1, by have h1 : M2.calls ≤ M1.calls + 1000 := s5.calls; omega⟩
            have X5 := Lib.hid (fun am => (s5.all am).elim id id)
            have X6 := Lib.hid s5.byt
            clear a5 s5 st5
            go_wp2_with fail
            go_meet
            case rel => exact ⟨_, _, rfl, rfl, .inr ⟨pv2', M2, rfl, rfl, X1.out, X2.out, X3.out, X4.out.1, X4.out.2, X5.out, X6.out⟩⟩
        obtain ⟨o, f, rfl, rfl, HK⟩ := hcut
        generalize wc = wj at *
        clear C4 D4 R1I R2I SP
        go_upto_if 127 with fail
        go_cut [23, 24] from 54 to 216 (fun v23 v24 wc => ∃ (q2 : Nat), v23 = .pointer (some ⟨q2, 0, none⟩) ∧ v24 = .int .i64 0 ∧ Hid (∃ pv M rv, Wk w.heap.size w wc p k pv M q2 rv La (.slice Av L.recs.length cv) L.recs (.slice A2 (nx L zs b).recs.length c2) (nx L zs b).recs))
        case first => as_aux_lemma =>
          rcases HK.out with ⟨q2, pv3', M3, rv3', rfl, rfl, wk⟩ | ⟨pv3', M3, rfl, rfl, a3, r13, r23, n3, c3, w3, y3⟩
          · have WK := Lib.hid wk
            clear wk
            go_wp2_with fail
            go_meet
            case rel => exact ⟨q2, rfl, rfl, pv3', M3, rv3', WK.out⟩
          · have A3 := Lib.hid a3
            have Y1 := Lib.hid r13
            have Y2 := Lib.hid r23
            have W3 := Lib.hid w3
            have Y3 := Lib.hid y3
            clear a3 r13 r23 w3 y3
            go_wp2_with fail
            rw [show ((mask : Int) / 128) = ((mask / 128 : Nat) : Int) by omega]
            refine (restart_any p k _ M3 (mask / 128) _ _ _ A3.out.d (by omega)).mono ?_
            rintro e wk ⟨rfl, d6, s6⟩
            have A6 := Lib.hid (A3.out.disk d6 s6)
            have Z1 := Lib.hid (Y1.out.step s6)
            have Z2 := Lib.hid (Y2.out.step s6)
            have C6 := Lib.hid (open_at A6.out rfl rfl (L := La) (by show M3.n / 2 = _; rw [n3, HLA.out.2.1]) (by show M3.n ≤ 512; omega) (W3.out _) HLA.out.1 (Y3.out _) (by have := HLA.out.2.2; omega) (by show M3.calls + 1000 < _; omega))
            clear d6 s6 A3 Y1 Y2
            go_wp2_with fail
            refine C6.out.mono ?_
            rintro e wl (⟨q2, pv4', rv4', M4, rfl, a7, s7, k7, st7, hq7, hr7⟩ | ⟨pv4', er4, M4, her4, rfl, a7, s7, st7⟩)
            · have WK : Hid (Wk w.heap.size w wl p k pv4' M4 q2 rv4' La (.slice Av L.recs.length cv) L.recs (.slice A2 (nx L zs b).recs.length c2) (nx L zs b).recs) := ⟨a7, s7, Z1.out.opened st7 hq7 hr7, Z2.out.opened st7 hq7 hr7, k7.n.trans n3, k7.fail rfl, by have h1 : M4.calls ≤ M3.calls + 1000 := k7.calls; omega⟩
              clear a7 s7 k7 st7 hq7 hr7
              go_wp2_with fail
              go_meet
              case rel => exact ⟨q2, rfl, rfl, pv4', M4, rv4', WK.out⟩
            · have := s7.stop rfl
              have := s7.fail rfl
              rcases s7.err with ⟨h, _⟩ | ⟨h, _⟩ <;> omega
        clear HK
        as_aux_lemma =>
          obtain ⟨q2, rfl, rfl, HK⟩ := hcut
          generalize wc = wm at *
          obtain ⟨pv5, M5, rv5, wk5⟩ := HK.out
          have WK := Lib.hid wk5
          clear wk5 HK
          have hLaR := (WK.out.sys.small (by have := WK.out.n; omega)).2.2.2
          have hNxR : (nx L zs b).recs.length ≤ 300 := by
            cases b
            · simp [nx, Lk.more]; omega
            · simp [nx, Lk.next]
          -- no stop any more
          go_wp2_with fail
          refine (arm_any p k _ _ (-1) _ WK.out.at'.d (by omega)).mono ?_
          rintro e wn ⟨rfl, d8, s8⟩
          have A8 := Lib.hid (WK.out.at'.disk (Nat.le_refl _) d8 s8)
          have V1 := Lib.hid (WK.out.r1.step (s8.wide q2 rv5))
          have V2 := Lib.hid (WK.out.r2.step (s8.wide q2 rv5))
          have S8 : Hid (Sys { M5 with stop := al (-1) } La) := ⟨WK.out.sys.down, WK.out.sys.pend, WK.out.sys.half, WK.out.sys.gd, WK.out.sys.ok, WK.out.sys.byt⟩
          have Q8 : Hid (({ M5 with stop := al (-1) } : Dk).n = 60 ∧ ({ M5 with stop := al (-1) } : Dk).stop = none ∧ ({ M5 with stop := al (-1) } : Dk).fail = none ∧ ({ M5 with stop := al (-1) } : Dk).calls ≤ 90000) := ⟨WK.out.n, rfl, WK.out.fail, WK.out.calls⟩
          clear d8 s8 WK
          generalize ({ M5 with stop := al (-1) } : Dk) = M8 at *
          go_upto_region 38 with fail
          go_cut [170] from 54 to 216 (fun v wc => v = .bool false ∧ Hid (Below wn.heap.size wn wc))
          case first => as_aux_lemma =>
            obtain ⟨Ax, cx, ex, hx1⟩ := V1.out.shape
            injection ex with ex1 _ ex2
            subst ex1
            obtain ⟨Ay, cy, ey, hy1⟩ := V2.out.shape
            injection ey with ey1 _ ey2
            subst ey1
            have CS1 := Lib.hid (shows_any Av L.recs cv (L.turn : Int) A8.out.l (by omega) hx1 (by omega))
            have CS2 := Lib.hid fun W (hb : Below wn.heap.size wn W) => shows_any A2 (nx L zs b).recs c2 ((nx L zs b).turn : Int) (A8.out.l.below hb) (by omega) (hy1.below hb) (by omega)
            have HE : Hid (decide (La.recs = L.recs ∧ (La.turn : Int) = (L.turn : Int)) = true ∨ decide (La.recs = (nx L zs b).recs ∧ (La.turn : Int) = ((nx L zs b).turn : Int)) = true) := by
              rcases HLC.out with rfl | rfl
              · exact .inl (by simp)
              · exact .inr (by simp)
            clear hx1 hy1 ex2 ey2
            generalize decide (La.recs = L.recs ∧ (La.turn : Int) = (L.turn : Int)) = bq at *
            go_wp2_with fail
            refine CS1.out.mono ?_
            rintro e wo ⟨rfl, b9⟩
            have B9 := Lib.hid b9
            clear b9
            cases bq
            · have C2' := Lib.hid (CS2.out _ B9.out)
              rw [HE.out.resolve_left (by simp)] at C2'
              go_wp2_with fail
              refine C2'.out.mono ?_
              rintro e wp' ⟨rfl, b10⟩
              have B10 := Lib.hid (B9.out.trans (b10.mono B9.out.size))
              clear b10
              go_wp2_with fail
              go_meet
              case rel => exact ⟨rfl, B10.out⟩
            · go_wp2_with fail
              go_meet
              case rel => exact ⟨rfl, B9.out⟩
          obtain ⟨rfl, HBx⟩ := hcut
          generalize wc = wo at *
          have A9 := Lib.hid (A8.out.below (Nat.le_refl _) HBx.out)
          have HLN := Lib.hid (List.length_pos_iff.2 S8.out.gd.ne)
          clear A8 V1 V2 HBx HLC
          go_wp2_with fail
          refine (records_any A9.out.l (by omega)).mono ?_
          rintro e wq ⟨g, vs, rfl, _, hb9, _⟩
          have A10 := Lib.hid (A9.out.below (Nat.le_refl _) hb9)
          clear hb9 A9
          have XL := fun W => Lib.run_convert_bytes_const (P := Try.prog) W 33 5 #[.int .u8 110, .int .u8 101, .int .u8 119] 3 3 Try.underlying33 Try.underlying5
          have BN : Hid (Bs [110, 101, 119]) := by intro i; match i with | 0 | 1 | 2 => decide | i + 3 => simp
          have m8 : M8.n ≤ 512 := by have := Q8.out.1; omega
          have hs8 := S8.out.small m8
          have h38 : La.size = 30 := HLA.out.2.1
          go_upto_region 41 with fail
          go_cut [190] from 54 to 216 (fun v wc => v = .bool false ∧ Hid (∃ pv M rv L3, Wj w.heap.size w wc p k pv M q2 rv L3))
          case first => as_aux_lemma =>
            have RN := Lib.hid (Rd.lits wq [110, 101, 119] BN.out (by decide) #[.int .u8 110, .int .u8 101, .int .u8 119] rfl (3, 4))
            have A11 := Lib.hid (A10.out.below (Nat.le_refl _) ((Below.refl _ wq).alloc (Nat.le_refl _) (.cells #[.int .u8 110, .int .u8 101, .int .u8 119] 5 (3, 4))))
            have CN := Lib.hid (append_at _ [110, 101, 119] 3 A11.out (Nat.le_refl _) hs8 RN.out (lit_away A10.out) (by decide) (by decide) (by have := Q8.out.2.2.2; omega))
            have DN := apd_done S8.out m8 BN.out
            have hrf : rf6 La [110, 101, 119].length ((La.size : Int) - (La.fin : Int)) = 0 ∨ rf6 La [110, 101, 119].length ((La.size : Int) - (La.fin : Int)) = 4 := by
              unfold rf6
              rw [if_neg (by rw [S8.out.ok]; simp), if_neg (by decide)]
              split
              · exact .inr rfl
              · exact .inl rfl
            rcases hrf with h0 | h0
            · obtain ⟨e0, l0, s0, k0⟩ := DN.calm Q8.out.2.1 Q8.out.2.2.1 h0
              rw [e0, l0] at CN
              have WJ : Hid (Sys (apd La M8 [110, 101, 119]).2.2 (La.more [110, 101, 119]) ∧ Kp M8 (apd La M8 [110, 101, 119]).2.2) := ⟨s0, k0⟩
              clear DN h0 e0 l0 s0 k0
              generalize (apd La M8 [110, 101, 119]).2.2 = M9 at *
              go_wp2_with fail
              refine CN.out.mono ?_
              rintro e wr' ⟨rfl, pv9, rv9, a9, _⟩
              have J : Hid (Wj w.heap.size w wr' p k pv9 M9 q2 rv9 (La.more [110, 101, 119])) := ⟨a9, WJ.out.1, WJ.out.2.n.trans Q8.out.1, WJ.out.2.stop Q8.out.2.1, WJ.out.2.fail Q8.out.2.2.1, by have h1 := WJ.out.2.calls; have h2 := Q8.out.2.2.2; omega, by show La.turn ≤ 40; have := HLA.out.2.2; omega⟩
              clear a9
              go_wp2_with fail
              go_meet
              case rel => exact ⟨rfl, _, _, _, _, J.out⟩
            · have hno : apd La M8 [110, 101, 119] = (4, La, M8) := by rw [apd, if_neg (by rw [h0]; omega), h0]
              rw [hno] at CN
              clear DN h0 hno
              go_wp2_with fail
              refine CN.out.mono ?_
              rintro e wr' ⟨rfl, pv9, rv9, a9, _⟩
              have A12 := Lib.hid a9
              clear a9 CN A11 RN
              have RN := Lib.hid (Rd.lits wr' [110, 101, 119] BN.out (by decide) #[.int .u8 110, .int .u8 101, .int .u8 119] rfl (3, 4))
              have A13 := Lib.hid (A12.out.below (Nat.le_refl _) ((Below.refl _ wr').alloc (Nat.le_refl _) (.cells #[.int .u8 110, .int .u8 101, .int .u8 119] 5 (3, 4))))
              have CM := Lib.hid (begin_at _ [110, 101, 119] 3 A13.out (Nat.le_refl _) hs8 (by have := HLA.out.2.2; omega) RN.out (lit_away A12.out) (by decide) (by decide) (by have := Q8.out.2.2.2; omega))
              have DM := bgn_done S8.out m8 (by have := HLA.out.2.2; omega) BN.out
              obtain ⟨e0, l0, s0, k0⟩ := DM.calm Q8.out.2.1 Q8.out.2.2.1 (rf6_fits S8.out.ok (by decide) (by rw [h38]; decide))
              rw [e0, l0] at CM
              have WJ : Hid (Sys (bgn La M8 [110, 101, 119]).2.2 (La.next [110, 101, 119]) ∧ Kp M8 (bgn La M8 [110, 101, 119]).2.2) := ⟨s0, k0⟩
              clear DM e0 l0 s0 k0
              generalize (bgn La M8 [110, 101, 119]).2.2 = M9 at *
              go_wp2_with fail
              refine CM.out.mono ?_
              rintro e ws ⟨rfl, pv10, rv10, a10, _⟩
              have J : Hid (Wj w.heap.size w ws p k pv10 M9 q2 rv10 (La.next [110, 101, 119])) := ⟨a10, WJ.out.1, WJ.out.2.n.trans Q8.out.1, WJ.out.2.stop Q8.out.2.1, WJ.out.2.fail Q8.out.2.2.1, by have h1 := WJ.out.2.calls; have h2 := Q8.out.2.2.2; omega, by show La.turn + 1 ≤ 40; have := HLA.out.2.2; omega⟩
              clear a10 CM A13 RN A12
              go_wp2_with fail
              refine (records_any J.out.at'.l (by show [[110, 101, 119]].length ≤ 1000; decide)).mono ?_
              rintro e wt ⟨g2, vs2, rfl, _, hb11, _⟩
              have J2 : Hid (Wj w.heap.size w wt p k pv10 M9 q2 rv10 (La.next [110, 101, 119])) := ⟨J.out.at'.below (Nat.le_refl _) hb11, J.out.sys, J.out.n, J.out.stop, J.out.fail, J.out.calls, J.out.turn⟩
              rw [show (La.next [110, 101, 119]).recs.length = 1 from rfl]
              clear hb11 J
              go_wp2_with fail
              go_meet
              case rel => exact ⟨rfl, _, _, _, _, J2.out⟩
          as_aux_lemma =>
            obtain ⟨rfl, HJ⟩ := hcut
            generalize wc = wt at *
            obtain ⟨pv6, M6, rv6, L3, j6⟩ := HJ.out
            have J := Lib.hid j6
            clear j6 HJ A10 XL hs8 m8
            have h3R := (J.out.sys.small (by have := J.out.n; omega)).2.2.2
            have C7 := Lib.hid (open_at (J.out.at'.ad (Nat.le_refl _)) J.out.sys.down J.out.sys.pend (L := L3) J.out.sys.half (by have := J.out.n; omega) J.out.sys.gd.toWG J.out.sys.ok J.out.sys.byt (by have := J.out.turn; omega) (by have := J.out.calls; omega))
            go_wp2_with fail
            refine C7.out.mono ?_
            rintro e wu (⟨q3, pv7, rv7, M7, rfl, a7, s7, _, st7, _, _⟩ | ⟨pv7, er7, M7, her7, rfl, a7, s7, st7⟩)
            · have AX := Lib.hid a7
              have AK := Lib.hid (J.out.at'.disk (Nat.le_refl _) a7.d st7)
              clear a7 s7 st7 C7 J
              go_wp2_with fail
              refine (records_any AK.out.l (by omega)).mono ?_
              rintro e wv ⟨g3, vs3, rfl, hrw3, hb12, _⟩
              have HRW3 := Lib.hid hrw3
              have AX2 := Lib.hid (AX.out.below (Nat.le_refl _) hb12)
              have AK2 := Lib.hid (AK.out.below (Nat.le_refl _) hb12)
              clear hrw3 hb12 AX AK
              have CNm := Lib.hid (names_any HRW3.out (fun z hz => by
                obtain ⟨j, hj⟩ := List.getElem?_of_mem hz
                obtain ⟨v, _, A', c', _, hr', _⟩ := HRW3.out.sl j z hj
                exact hr'.2.1) (by omega))
              go_wp2_with fail
              refine CNm.out.mono ?_
              rintro e ww ⟨vn, rfl, hsn, hb13⟩
              obtain ⟨An, cn, rfl, hstn⟩ := hsn.shape
              have AX3 := Lib.hid (AX2.out.below (Nat.le_refl _) hb13)
              have AK3 := Lib.hid (AK2.out.below (Nat.le_refl _) hb13)
              have HSN := Lib.hid hstn
              clear hsn hb13 AX2 AK2 hstn CNm HRW3
              go_wp2_with fail
              refine (turn_any AK3.out.l).mono ?_
              rintro e wx ⟨rfl, rfl⟩
              have CSf := Lib.hid (shows_any An L3.recs cn (L3.turn : Int) AX3.out.l (by omega) HSN.out (by omega))
              rw [show decide (L3.recs = L3.recs ∧ (L3.turn : Int) = (L3.turn : Int)) = true by simp] at CSf
              go_wp2_with fail
              refine CSf.out.mono ?_
              rintro e wy ⟨rfl, hb14⟩
              have BF := Lib.hid (AX3.out.below (Nat.le_refl _) hb14).b
              have hwas : (0 : Int) < (La.recs.length : Int) := by have := HLN.out; omega
              clear hb14 AX3 AK3 CSf HSN
              go_wp2_with fail
              go_ret
              exact ⟨ret_bool (decide_eq_true HLN.out), BF.out⟩
            · have := s7.stop J.out.stop
              have := s7.fail J.out.fail
              rcases s7.err with ⟨h, _⟩ | ⟨h, _⟩ <;> omega
end Go.Proofs.Ytjkfgdeiciligaa
