/-
  The contracts of Records and of the statements' Shows: what each returns; nothing that was there turns. Conditions: a log is there, its rows are short.
-/
import Derived.Test.YtjkfgdeiciligaaOpenLog
set_option linter.unusedSimpArgs false
namespace Go.Proofs.Ytjkfgdeiciligaa
open Go.RowKit

/-- A row of slices of bytes, in a block of its own. -/
structure Rw (w : World) (g : Nat) (rs : List (List Nat)) (vs : List Value) : Prop where
  len : vs.length = rs.length
  row : w.rowIs g 33 rs.length (fun j => (vs[j]?).getD (.slice none 0 0))
  sl : ∀ (i : Nat) (zs : List Nat), rs[i]? = some zs → ∃ v, vs[i]? = some v ∧ Sl w (fun b => b = g) v zs
theorem Rw.below {w w' : World} {g : Nat} {rs : List (List Nat)} {vs : List Value} (h : Rw w g rs vs) (hb : Below w.heap.size w w') : Rw w' g rs vs := by
  refine ⟨h.len, h.row.of_block (hb.block _ h.row.lt), fun i zs hi => ?_⟩
  obtain ⟨v, e, hs⟩ := h.sl i zs hi
  exact ⟨v, e, hs.step (Step.of_below hb _) (fun _ h => h) (fun _ h => .inl h)⟩

theorem run_make46 (m : Nat) (h : m ≤ 100000) (w : World) : (Instr.makeSlice 46 (.int .i64 (m : Int)) (.int .i64 (m : Int))).run Try.prog w = .ok (.slice (some ⟨w.heap.size, 0, none⟩) m m) (w.alloc (.cells (madeCells #[.slice none 0 0] m) 33)) := by
  obtain ⟨i, hi, h0, h1, h2⟩ := info_parts info33
  have := run_make (P := Try.prog) w 46 33 i _ Try.underlying46 hi h0 .i64 .i64 (m : Int) (m : Int) (by omega) (Int.le_refl _) (by rw [h2]; omega) (by omega)
  rw [h1] at this
  simp only [Int.toNat_natCast] at this
  rw [this]
  simp
  rfl

/-- What Records returns. -/
def RPost (w : World) (rs : List (List Nat)) (e : Ending) (w' : World) : Prop :=
  ∃ g vs, e = .returned (.slice (some ⟨g, 0, none⟩) rs.length rs.length) ∧ Rw w' g rs vs ∧ Below w.heap.size w w' ∧ w.heap.size ≤ g

set_option maxHeartbeats 2000000 in
set_option maxRecDepth 100000 in
theorem records_any {w : World} {p q : Nat} {rv : Value} {L : Lk} {F : Nat → Prop} (h : Ls w p q rv L F) (hl : L.recs.length ≤ 1000) : Calls Try.prog 20 #[.pointer (some ⟨q, 0, none⟩)] w (RPost w L.recs) := by
  obtain ⟨Ar, cr, hrv⟩ := h.recs.shape
  have HM := Lib.hid fun W => run_make46 L.recs.length (by omega) W
  have CC := Lib.hid fun A zs c W (h : Rd W A zs) => clone_any A zs c W h
  have c5 : w.cell? ⟨q, 5, none⟩ = some (.slice Ar L.recs.length cr) := by rw [← hrv]; exact h.cell 5
  have HV := Lib.hid hrv
  have H := Lib.hid h.recs
  clear h hrv
  have hmk := HM.out
  have c5' : ∀ o, (w.alloc o).cell? ⟨q, 5, none⟩ = some (.slice Ar L.recs.length cr) := fun o => ((Below.refl _ w).alloc (Nat.le_refl _) o).cell (World.block_lt_of_cell? _ _ c5) |>.trans c5
  go_enter Try.func20, Try.ntmps20
  go_wp2_with fail
  clear hmk HM c5 c5'
  obtain ⟨n, hn⟩ : ∃ n, n = L.recs.length := ⟨_, rfl⟩
  have HN := Lib.hid hn
  rw [← hn] at hl ⊢
  clear hn
  generalize hw0 : w.alloc _ = w0 at *
  have BB := Lib.hid (show Below w.heap.size w w0 by rw [← hw0]; exact (Below.refl w.heap.size w).alloc (Nat.le_refl _) _)
  have RZ : Hid (w0.rowIs w.heap.size 33 n (fun _ => .slice none 0 0)) := by
    rw [← hw0, HN.out]
    refine ⟨_, heap_alloc_new _ _, size_madeCells _ _, fun i hi => ?_⟩
    simp [madeCells, hi, Nat.mod_one]
  clear hw0
  go_loopg [17] n (fun m i wr => ∃ qn : Nat, qn + m = n ∧ i = .int .i64 (qn : Int) ∧ Hid (Below w.heap.size w wr ∧ ∃ vs : List Value, vs.length = qn ∧ wr.rowIs w.heap.size 33 n (fun j => (vs[j]?).getD (.slice none 0 0)) ∧ ∀ (i : Nat) (zs : List Nat), L.recs[i]? = some zs → i < qn → ∃ v, vs[i]? = some v ∧ Sl wr (fun b => b = w.heap.size) v zs))
  case atStart => exact ⟨0, by omega, rfl, BB.out, [], rfl, RZ.out.congr fun j _ => by simp, fun i zs _ hi => by omega⟩
  case round =>
    clear BB RZ
    obtain ⟨qn, hqn, rfl, HH⟩ := hrel
    match gk with
    | 0 =>
      obtain rfl : qn = n := by omega
      go_wp2_with fail
      go_ret
      obtain ⟨hb, vs, hvl, hrow, hsl⟩ := HH.out
      refine ⟨w.heap.size, vs, by rw [← HN.out]; rfl, ⟨by rw [hvl, HN.out], by rw [← HN.out]; exact hrow, fun i zs hi => hsl i zs hi ?_⟩, hb, Nat.le_refl _⟩
      have := (List.getElem?_eq_some_iff.1 hi).1
      rw [HN.out]
      exact this
    | m + 1 =>
      obtain ⟨zs, hzs⟩ : ∃ zs, L.recs[qn]? = some zs := ⟨_, List.getElem?_eq_getElem (by have := HN.out; omega)⟩
      obtain ⟨us, ho, hu⟩ := H.out
      obtain ⟨u, hue, A, c, rfl, hrd, hA⟩ := hu qn zs hzs
      obtain ⟨gr, capr, hrv2, _, hgl⟩ := ho.form (by have := HN.out; omega)
      have hv3 := HV.out.symm.trans hrv2
      injection hv3 with hA1 _ hc1
      subst hA1
      subst hc1
      have hcell : w.cell? ⟨gr, qn, none⟩ = some (.slice A zs.length c) := by
        have := ho.cells (g := gr) (by rw [hrv2]; rfl) qn _ hue
        rwa [show (⟨gr, 0, none⟩ : Addr).add qn = ⟨gr, qn, none⟩ by rw [Addr.add_mid, Nat.zero_add]] at this
      have hqlt : qn < n := by omega
      have hcr : wr.cell? ⟨gr, qn, none⟩ = some (.slice A zs.length c) := (HH.out.1.cell (World.block_lt_of_cell? _ _ hcell)).trans hcell
      have HRD := Lib.hid (hrd.below (HH.out.1.mono (Nat.le_refl _)))
      have HZ := Lib.hid hzs
      clear hu hue hrd hA hrv2 ho hzs hcell
      go_wp2_with fail
      refine (CC.out _ _ _ _ HRD.out).mono ?_
      rintro e w1 ⟨A1, c1, rfl, r1, hc1, b1, hA1⟩
      obtain ⟨hb, vs, hvl, hrow, hsl⟩ := HH.out
      have hrow1 := hrow.of_block (b1.block _ hrow.lt)
      have cN := hrow1.cell (i := qn) hqlt
      have fN := hrow1.frozen qn
      have B1 := Lib.hid (hb.trans (b1.mono hb.size))
      have R2 := Lib.hid (hrow1.set qn (.slice A1 zs.length c1))
      have S1 := Step.of_below b1 (fun b => b = w.heap.size)
      have S2 := Lib.hid (S1.setCell (a := ⟨w.heap.size, qn, none⟩) rfl (.slice A1 zs.length c1))
      have U1 : Hid (Sl w1 (fun b => b = w.heap.size) (.slice A1 zs.length c1) zs) := ⟨A1, c1, rfl, r1, fun x hx => ⟨(hA1 x hx).2, fun e => by have h1 := (hA1 x hx).1; have h2 := hrow.lt; have e : x.block = w.heap.size := e; omega⟩⟩
      have HSL := Lib.hid hsl
      have HVL := Lib.hid hvl
      clear hb hrow hsl hvl hrow1 S1 r1 hc1 b1 hA1 HH
      go_wp2_with fail
      go_roundg m
      case measure => omega
      case rel =>
        refine ⟨qn + 1, by omega, by go_num, B1.out.setCell (p := ⟨w.heap.size, qn, none⟩) (Nat.le_refl _) _, vs ++ [.slice A1 zs.length c1], by rw [List.length_append, HVL.out]; rfl, R2.out.congr fun j hj => ?_, fun i ys hi hlt => ?_⟩
        · by_cases e : j = qn
          · subst e; rw [if_pos rfl, List.getElem?_append_right (by rw [HVL.out]; exact Nat.le_refl _), HVL.out, Nat.sub_self]; rfl
          · rw [if_neg e]
            rcases Nat.lt_or_ge j qn with h | h
            · rw [List.getElem?_append_left (by rw [HVL.out]; exact h)]
            · rw [List.getElem?_eq_none (by rw [HVL.out]; exact h), List.getElem?_eq_none (by rw [List.length_append, HVL.out]; simp; omega)]
        · rcases Nat.lt_or_ge i qn with h | h
          · obtain ⟨v, e, hs⟩ := HSL.out i ys hi h
            exact ⟨v, by rw [List.getElem?_append_left (by rw [HVL.out]; exact h)]; exact e, hs.step S2.out (fun _ h => h) (fun _ h => .inl h)⟩
          · obtain rfl : i = qn := by omega
            rw [HZ.out] at hi
            obtain rfl : zs = ys := by simpa using hi
            exact ⟨_, by rw [List.getElem?_append_right (by rw [HVL.out]; exact Nat.le_refl _), HVL.out, Nat.sub_self]; rfl, U1.out.step ((Step.refl w1 (fun b => b = w.heap.size)).setCell (a := ⟨w.heap.size, i, none⟩) rfl _) (fun _ h => h) (fun _ h => .inl h)⟩

/-- Bytes as a text. -/
def stg (zs : List Nat) : ByteArray := ⟨(zs.map UInt8.ofNat).toArray⟩
theorem stg_inj {a b : List Nat} (ha : Bs a) (hb : Bs b) (h : stg a = stg b) : a = b := by
  have h1 : a.map UInt8.ofNat = b.map UInt8.ofNat := by
    have := congrArg ByteArray.data h
    simpa [stg] using this
  have hl : a.length = b.length := by have := congrArg List.length h1; simpa using this
  refine List.ext_getElem hl fun i hi hj => ?_
  have h2 := congrArg (fun l => l[i]?) h1
  simp only [List.getElem?_map, List.getElem?_eq_getElem hi, List.getElem?_eq_getElem hj, Option.map_some, Option.some.injEq] at h2
  have h3 := congrArg UInt8.toNat h2
  have ha' := ha i
  have hb' := hb i
  rw [List.getD_eq_getElem?_getD, List.getElem?_eq_getElem hi] at ha'
  rw [List.getD_eq_getElem?_getD, List.getElem?_eq_getElem hj] at hb'
  simp only [Option.getD_some] at ha' hb'
  simp only [UInt8.toNat_ofNat'] at h3
  omega
theorem stg_eq {a b : List Nat} (ha : Bs a) (hb : Bs b) : ((stg a).toList == (stg b).toList) = decide (a = b) := by
  rw [Bool.eq_iff_iff, beq_iff_eq, decide_eq_true_iff]
  constructor
  · intro h
    rw [ByteArray.toList_eq, ByteArray.toList_eq] at h
    refine stg_inj ha hb ?_
    have : (stg a).data = (stg b).data := Array.toList_inj.1 h
    unfold stg at *
    simp only at this
    rw [this]
  · intro h
    rw [h]
theorem run_stg {w : World} {A : Option Addr} {zs : List Nat} (h : Rd w A zs) (c : Nat) : (convert 33 9 (.slice A zs.length c)).run Try.prog w = .ok (.string (stg zs)) w := by
  cases A with
  | none =>
    have hz : zs = [] := by
      rcases Nat.eq_zero_or_pos zs.length with h0 | h0
      · exact List.eq_nil_of_length_eq_zero h0
      · obtain ⟨x, hx, _⟩ := h.2.2 0 h0
        cases hx
    subst hz
    rw [run_convert_bytes_string w 33 9 5 none _ c Try.underlying33 Try.underlying5 Try.underlying9]
    simp [Conv.bytesToString]
    rfl
  | some x =>
    have := run_convert_bytes_back (P := Try.prog) w 33 9 5 x c (zs.map UInt8.ofNat) Try.underlying33 Try.underlying5 Try.underlying9 (fun j hj => by
      have hj' : j < zs.length := by simpa using hj
      obtain ⟨y, hy, hc⟩ := h.2.2 j hj'
      injection hy with hy
      subst hy
      rw [hc]
      have hb := h.2.1 j
      rw [List.getD_eq_getElem?_getD, List.getElem?_eq_getElem hj'] at hb ⊢
      simp only [Option.getD_some] at hb ⊢
      simp only [List.getElem_map, UInt8.toNat_ofNat']
      congr 3
      omega)
    rw [List.length_map] at this
    exact this

/-- A row of texts. -/
def Strs (w : World) (A : Option Addr) (ss : List (List Nat)) : Prop := ∀ (k : Nat) (zs : List Nat), ss[k]? = some zs → Bs zs ∧ ∃ x, A = some x ∧ w.cell? (x.add k) = some (.string (stg zs))
theorem Strs.below {w w' : World} {A : Option Addr} {ss : List (List Nat)} (h : Strs w A ss) (hb : Below w.heap.size w w') : Strs w' A ss := fun k zs hk => by
  obtain ⟨b, x, hx, hc⟩ := h k zs hk
  exact ⟨b, x, hx, (hb.cell (World.block_lt_of_cell? _ _ hc)).trans hc⟩

theorem turn_re {w : World} {p q : Nat} {rv : Value} {L : Lk} {F : Nat → Prop} (h : Ls w p q rv L F) : Calls Try.prog 22 #[.pointer (some ⟨q, 0, none⟩)] w fun e w' => e = .returned (.int .i64 (L.turn : Int)) ∧ w = w' := turn_any h

set_option maxHeartbeats 2000000 in
set_option maxRecDepth 100000 in
theorem shows_any {w : World} {p q : Nat} {rv : Value} {L : Lk} {F : Nat → Prop} (A : Option Addr) (ss : List (List Nat)) (c : Nat) (t : Int) (h : Ls w p q rv L F) (hl : L.recs.length ≤ 1000) (hs : Strs w A ss) (_hsl : ss.length ≤ 1000) :
    Calls Try.prog 11 #[.pointer (some ⟨q, 0, none⟩), .slice A ss.length c, .int .i64 t] w fun e w' => e = .returned (.bool (decide (L.recs = ss ∧ (L.turn : Int) = t))) ∧ Below w.heap.size w w' := by
  have CR := Lib.hid (records_any h hl)
  have H := Lib.hid h
  have HS := Lib.hid hs
  clear h hs
  go_enter Try.func11, Try.ntmps11
  go_wp2_with fail
  refine CR.out.mono ?_
  rintro e w1 ⟨g, vs, rfl, hrw, hb, _⟩
  have CT := Lib.hid (turn_any (H.out.below hb))
  have HR := Lib.hid hrw
  have HB := Lib.hid hb
  have HS1 := Lib.hid (HS.out.below hb)
  clear hrw hb CR H HS
  by_cases hlen : L.recs.length = ss.length
  · have HLEN := Lib.hid hlen
    by_cases htn : (L.turn : Int) = t
    · subst htn
      rw [hlen]
      go_wp2_with fail
      refine CT.out.mono ?_
      rintro e w2 ⟨rfl, rfl⟩
      go_wp2_with fail
      go_loopg [24] ss.length (fun m i wr => ∃ qn : Nat, qn + m = ss.length ∧ i = .int .i64 (qn : Int) ∧ Hid (L.recs.take qn = ss.take qn ∧ Below w1.heap.size w1 wr))
      case atStart => exact ⟨0, by omega, rfl, by simp, Below.refl _ _⟩
      case round =>
        obtain ⟨qn, hqn, rfl, HH⟩ := hrel
        match gk with
        | 0 =>
          obtain rfl : qn = ss.length := by omega
          have hall : L.recs = ss := by
            have := HH.out.1
            rwa [List.take_length, List.take_of_length_le (by rw [HLEN.out]; exact Nat.le_refl _)] at this
          have BX := Lib.hid (HB.out.trans (HH.out.2.mono HB.out.size))
          have HA := Lib.hid hall
          clear hall
          go_wp2_with fail
          go_ret
          exact ⟨ret_bool (by simp [HA.out]), BX.out⟩
        | m + 1 =>
          have hql : qn < ss.length := by omega
          obtain ⟨zs, hzs⟩ : ∃ zs, L.recs[qn]? = some zs := ⟨_, List.getElem?_eq_getElem (by have := HLEN.out; omega)⟩
          obtain ⟨ys, hys⟩ : ∃ ys, ss[qn]? = some ys := ⟨_, List.getElem?_eq_getElem hql⟩
          have hrw := HR.out.below HH.out.2
          obtain ⟨v, hv, A1, c1, rfl, hrd, _⟩ := hrw.sl qn zs hzs
          have cc := hrw.row.cell (i := qn) (by have := HLEN.out; omega)
          rw [hv] at cc
          simp only [Option.getD_some] at cc
          obtain ⟨hby, x, rfl, cs⟩ := (HS1.out.below HH.out.2) qn ys hys
          have HCV := run_stg hrd.drew c1
          have hbz := hrd.2.1
          have HX : Hid (L.recs.take (qn + 1) = ss.take (qn + 1) ↔ zs = ys) := by
            show _ ↔ _
            rw [take_succ_get hzs, take_succ_get hys, HH.out.1]
            simp
          have HD : Hid (zs ≠ ys → L.recs ≠ ss) := fun hne e => by
            rw [e, hys] at hzs
            injection hzs with hzs
            exact hne hzs.symm
          have HBY := Lib.hid (And.intro hbz hby)
          clear hrw hv hrd hzs hys hbz hby
          go_upto_region 7 with fail
          go_still (by kernel_rfl)
          change Exit.then _ _ _ _ wr.drew
          have B2 := Lib.hid (HH.out.2.drew)
          have E1 := Lib.hid HH.out.1
          clear HH HCV cc cs
          generalize wr.drew = w2 at *
          have EQ := stg_eq HBY.out.1 HBY.out.2
          generalize ((stg zs).toList == (stg ys).toList) = bq at *
          cases bq
          · have HZY := Lib.hid (HD.out (by simpa using EQ))
            have BX := Lib.hid (HB.out.trans (B2.out.mono HB.out.size))
            clear EQ
            go_wp2_with fail
            go_ret
            exact ⟨ret_bool (by simp [HZY.out]), BX.out⟩
          · have HZY := Lib.hid (show zs = ys by simpa using EQ)
            clear EQ
            go_wp2_with fail
            go_roundg m
            case measure => omega
            case rel => exact ⟨qn + 1, by omega, by go_num, HX.out.2 HZY.out, B2.out⟩
    · have HF : Hid (decide (L.recs = ss ∧ (L.turn : Int) = t) = false) := by show _ = _; simp [htn]
      rw [hlen]
      go_wp2_with fail
      refine CT.out.mono ?_
      rintro e w2 ⟨rfl, rfl⟩
      go_wp2_with fail
      go_ret
      exact ⟨ret_bool HF.out.symm, HB.out⟩
  · have HF : Hid (decide (L.recs = ss ∧ (L.turn : Int) = t) = false) := by show _ = _; simp; exact fun e => (hlen (by rw [e])).elim
    have hlen' : ¬ (L.recs.length : Int) = (ss.length : Int) := by omega
    clear hlen
    go_wp2_with fail
    go_ret
    exact ⟨ret_bool HF.out.symm, HB.out⟩
end Go.Proofs.Ytjkfgdeiciligaa
