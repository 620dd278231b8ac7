/-
  The contracts of Begin and Append: what each returns, and what becomes of the disk and of the log. Conditions: a disk and a log are there, fewer than a million calls are counted, the numbers are small.
-/
import Derived.Test.YtjkfgdeiciligaaBegin
set_option linter.unusedSimpArgs false
namespace Go.Proofs.Ytjkfgdeiciligaa
open Go.RowKit

/-- What Begin and Append leave. -/
def LPost (w : World) (p k : Nat) (pv : Value) (q : Nat) (rv : Value) (r : Int × Lk × Dk) (e : Ending) (w' : World) : Prop :=
  e = .returned (.int .i64 r.1) ∧ ∃ pv' rv', Ds w' p k pv' r.2.2 ∧ Ls w' p q rv' r.2.1 (ft p k pv') ∧ Step w w' (fs (ft p k pv) q rv) (fs (ft p k pv') q rv') ∧ ∀ g, rv'.ownBlock = some g → rv.ownBlock = some g ∨ w.heap.size ≤ g

/-- What Begin does. -/
def bgn (L : Lk) (M : Dk) (zs : List Nat) : Int × Lk × Dk :=
  if rf6 L zs.length ((L.size : Int) - 1) = 0 then
    if (M.go (rop (L.size - L.first) L.size (L.turn + 1) zs)).1 = 0 then
      (0, { L with first := L.size - L.first, turn := L.turn + 1, fin := 1 + sct zs.length, recs := [zs] }, (M.go (rop (L.size - L.first) L.size (L.turn + 1) zs)).2)
    else ((M.go (rop (L.size - L.first) L.size (L.turn + 1) zs)).1, { L with broken := true }, (M.go (rop (L.size - L.first) L.size (L.turn + 1) zs)).2)
  else (rf6 L zs.length ((L.size : Int) - 1), L, M)

/-- What Append does. -/
def apd (L : Lk) (M : Dk) (zs : List Nat) : Int × Lk × Dk :=
  if rf6 L zs.length ((L.size : Int) - (L.fin : Int)) = 0 then
    if (M.go (fop (L.first + L.fin) 2 L.recs.length zs)).1 = 0 then
      (0, { L with fin := L.fin + sct zs.length, recs := L.recs ++ [zs] }, (M.go (fop (L.first + L.fin) 2 L.recs.length zs)).2)
    else ((M.go (fop (L.first + L.fin) 2 L.recs.length zs)).1, { L with broken := true }, (M.go (fop (L.first + L.fin) 2 L.recs.length zs)).2)
  else (rf6 L zs.length ((L.size : Int) - (L.fin : Int)), L, M)

theorem rf6_zero {L : Lk} {n : Nat} {room : Int} (h : rf6 L n room = 0) : L.broken = false ∧ n ≤ 16384 ∧ ((sct n : Nat) : Int) ≤ room := by
  unfold rf6 at h
  split at h
  · cases h
  · split at h
    · cases h
    · split at h
      · cases h
      · refine ⟨by simpa using ‹¬ L.broken = true›, by omega, by omega⟩

namespace Ls
variable {w w' : World} {p q : Nat} {rv : Value} {L : Lk} {F F' : Nat → Prop}
theorem lt (h : Ls w p q rv L F) (hF : ∀ b, F b → b < w.heap.size) : ∀ b, fs F q rv b → b < w.heap.size := by
  rintro b (hb | rfl | hb)
  · exact hF b hb
  · exact h.qlt
  · exact h.recs.lt hb
/-- The log's own block is written. -/
theorem re (h : Ls w p q rv L F) (i : Nat) (v : Value) (L' : Lk) (hr : L'.recs = L.recs) (hb : (#[.pointer (some ⟨p, 0, none⟩), .int .i64 (L.size : Int), .int .i64 (L.first : Int), .int .i64 (L.turn : Int), .int .i64 (L.fin : Int), rv, .bool L.broken] : Array Value).modify i (fun _ => v) = #[.pointer (some ⟨p, 0, none⟩), .int .i64 (L'.size : Int), .int .i64 (L'.first : Int), .int .i64 (L'.turn : Int), .int .i64 (L'.fin : Int), rv, .bool L'.broken]) : Ls (w.setCell ⟨q, i, none⟩ v) p q rv L' F := by
  have hs : Step w (w.setCell ⟨q, i, none⟩ v) (fun b => b = q) (fun b => b = q) := (Step.refl w (fun b => b = q)).setCell (a := ⟨q, i, none⟩) rfl v
  refine ⟨?_, ?_, h.nq, h.nr⟩
  · have hb' := h.blk
    simp only [World.setCell, Array.getElem?_modify, if_true, hb', Option.map_some]
    rw [← hb]
    congr 2
  · rw [hr]
    exact h.recs.step hs (fun b hb => .inr (.inl hb)) (fun b hb => .inl hb) (fun g hg e => (h.nr g hg).2 e)
end Ls
theorem set2 {w : World} {p q : Nat} {rv : Value} {L : Lk} {F : Nat → Prop} (h : Ls w p q rv L F) (n : Nat) : Ls (w.setCell ⟨q, 2, none⟩ (.int .i64 (n : Int))) p q rv { L with first := n } F := h.re 2 _ _ rfl rfl
theorem set3 {w : World} {p q : Nat} {rv : Value} {L : Lk} {F : Nat → Prop} (h : Ls w p q rv L F) (n : Nat) : Ls (w.setCell ⟨q, 3, none⟩ (.int .i64 (n : Int))) p q rv { L with turn := n } F := h.re 3 _ _ rfl rfl
theorem set4 {w : World} {p q : Nat} {rv : Value} {L : Lk} {F : Nat → Prop} (h : Ls w p q rv L F) (n : Nat) : Ls (w.setCell ⟨q, 4, none⟩ (.int .i64 (n : Int))) p q rv { L with fin := n } F := h.re 4 _ _ rfl rfl
theorem set6 {w : World} {p q : Nat} {rv : Value} {L : Lk} {F : Nat → Prop} (h : Ls w p q rv L F) (b : Bool) : Ls (w.setCell ⟨q, 6, none⟩ (.bool b)) p q rv { L with broken := b } F := h.re 6 _ _ rfl rfl

/-- The log has one record, in a row of its own. -/
theorem Ls.fresh {w : World} {p q : Nat} {rv u : Value} {L : Lk} {F : Nat → Prop} {zs : List Nat} (h : Ls w p q rv L F) (hF : ∀ b, F b → b < w.heap.size) (hu : Sl w (fun b => F b ∨ b = q) u zs) :
    Ls ((w.alloc (.cells #[u] 33)).setCell ⟨q, 5, none⟩ (.slice (some ⟨w.heap.size, 0, none⟩) 1 1)) p q (.slice (some ⟨w.heap.size, 0, none⟩) 1 1) { L with recs := [zs] } F := by
  have hq := h.qlt
  have hb : (w.alloc (.cells #[u] 33)).heap[q]? = w.heap[q]? := Below.heap_alloc _ _ _ hq
  have hn : ((w.alloc (.cells #[u] 33)).setCell ⟨q, 5, none⟩ (.slice (some ⟨w.heap.size, 0, none⟩) 1 1)).heap[w.heap.size]? = some (.cells #[u] 33 (0, 0)) := by
    rw [Below.heap_setCell _ _ _ _ (by show w.heap.size ≠ q; omega)]
    exact heap_alloc_new w _
  have hs : Step w ((w.alloc (.cells #[u] 33)).setCell ⟨q, 5, none⟩ (.slice (some ⟨w.heap.size, 0, none⟩) 1 1)) (fun b => F b ∨ b = q) (fun b => F b ∨ b = q) := ((Step.refl w _).alloc _).setCell (a := ⟨q, 5, none⟩) (.inr rfl) _
  refine ⟨?_, ⟨[u], ⟨rfl, .inr ⟨w.heap.size, 1, #[u], rfl, Nat.zero_le _, hn, Nat.le_refl _, by unfold maxLen; omega, rfl, rfl⟩⟩, ?_⟩, h.nq, ?_⟩
  · have hb' := hb.trans h.blk
    simp only [World.setCell, Array.getElem?_modify, if_true, hb', Option.map_some]
    rfl
  · intro i ys hi
    match i with
    | 0 =>
      obtain rfl : zs = ys := by simpa using hi
      refine ⟨u, rfl, hu.step hs (fun _ h => h) ?_⟩
      rintro b (hb | hb | hb)
      · exact .inl (.inl hb)
      · exact .inl (.inr hb)
      · exact .inr (by simp [Value.ownBlock] at hb; omega)
    | i + 1 => simp at hi
  · intro g hg
    obtain rfl : w.heap.size = g := by simpa [Value.ownBlock] using hg
    exact ⟨fun hf => by have := hF _ hf; omega, by omega⟩

theorem rd_lt {w : World} {A : Option Addr} {zs : List Nat} (h : Rd w A zs) : ∀ x, zs ≠ [] → A = some x → x.block < w.heap.size := fun x hz hx => by
  obtain ⟨y, hy, hc⟩ := h.2.2 0 (List.length_pos_iff.2 hz)
  rw [hx] at hy
  injection hy with hy
  subst hy
  have := World.block_lt_of_cell? _ _ hc
  rwa [show (x.add 0).block = x.block by unfold Addr.add; rw [if_pos rfl]] at this

theorem Step.wide {w w' : World} {F F' : Nat → Prop} (h : Step w w' F F') (q : Nat) (rv : Value) : Step w w' (fs F q rv) (fs F' q rv) :=
  ⟨h.os, h.tape, h.output, h.size, fun b hb hn => h.block b hb (fun e => hn (.inl e)), by
    rintro b (hb | hb | hb)
    · exact (h.foot b hb).elim (fun e => .inl (.inl e)) .inr
    · exact .inl (.inr (.inl hb))
    · exact .inl (.inr (.inr hb))⟩

set_option maxHeartbeats 2000000 in
set_option maxRecDepth 100000 in
theorem begin_any (p k : Nat) (pv : Value) (M : Dk) (q : Nat) (rv : Value) (L : Lk) (A : Option Addr) (zs : List Nat) (c : Nat) (w : World) (h : Ds w p k pv M) (hq : Ls w p q rv L (ft p k pv)) (hr : Rd w A zs) (hA : ∀ x, zs ≠ [] → A = some x → ¬ fs (ft p k pv) q rv x.block) (hzc : zs.length ≤ c)
    (hs : L.size ≤ 256) (hf : L.first ≤ L.size) (ht : L.turn < 4000000000) (hl : zs.length < 1000000000) (hc : M.calls + 1000 < 1000000) :
    Calls Try.prog 13 #[.pointer (some ⟨q, 0, none⟩), .slice A zs.length c] w (LPost w p k pv q rv (bgn L M zs)) := by
  have CR := Lib.hid fun room W (h : Ls W p q rv L (ft p k pv)) => refusal6_any p q rv L _ A zs.length c room W h hl
  have CW := Lib.hid fun (pv : Value) (M : Dk) w h hq hr hA hl hc => writeRegion_any p k pv M q rv L (L.size - L.first) A zs c w h hq hr hA hzc hs (by omega) ht hl hc
  have CC := Lib.hid fun W (h : Rd W A zs) => clone_any A zs c W h
  have CS := Lib.hid fun W => sectors_any zs.length W hl
  have c1 : w.cell? ⟨q, 1, none⟩ = some (.int .i64 (L.size : Int)) := hq.cell 1
  have c2 : w.cell? ⟨q, 2, none⟩ = some (.int .i64 (L.first : Int)) := hq.cell 2
  have H := Lib.hid h
  have HQ := Lib.hid hq
  have HR := Lib.hid hr
  have HA := Lib.hid hA
  clear h hq hr hA
  by_cases hz : rf6 L zs.length ((L.size : Int) - 1) = 0
  · obtain ⟨hbr, hzl, hsc⟩ := rf6_zero hz
    have HB : Hid (bgn L M zs = if (M.go (rop (L.size - L.first) L.size (L.turn + 1) zs)).1 = 0 then
      (0, { L with first := L.size - L.first, turn := L.turn + 1, fin := 1 + sct zs.length, recs := [zs] }, (M.go (rop (L.size - L.first) L.size (L.turn + 1) zs)).2)
      else ((M.go (rop (L.size - L.first) L.size (L.turn + 1) zs)).1, { L with broken := true }, (M.go (rop (L.size - L.first) L.size (L.turn + 1) zs)).2)) := by
      show _ = _
      rw [bgn, if_pos hz]
    have HSC := Lib.hid (And.intro hbr hsc)
    clear hbr hsc
    have EF : IntKind.i64.wrap ((L.size : Int) - (L.first : Int)) = ((L.size - L.first : Nat) : Int) := by
      rw [show (L.size : Int) - (L.first : Int) = ((L.size - L.first : Nat) : Int) by omega]
      exact Lib.wrap_i64_small _ (by omega)
    have H1 := Lib.hid H.out.drew
    have HQ1 := Lib.hid (show Ls w.drew p q rv L (ft p k pv) from HQ.out.below (Below.refl _ w).drew)
    have HR1 := Lib.hid HR.out.drew
    have S1 := Lib.hid (Step.refl w (fs (ft p k pv) q rv)).drew
    go_enter Try.func13, Try.ntmps13
    go_wp2_with fail
    refine (CR.out _ _ HQ.out).mono ?_
    rintro e w1 ⟨rfl, rfl⟩
    rw [hz]
    go_upto_region 4 with fail
    go_still (by kernel_rfl)
    change Exit.then _ _ _ _ w.drew
    clear c1 c2 H HQ HR EF CR hz
    have HA1 := Lib.hid (show ∀ x, zs ≠ [] → A = some x → ¬ ft p k pv x.block from fun x hz hx hf => HA.out x hz hx (.inl hf))
    have HN1 := Lib.hid (rd_lt HR1.out)
    generalize w.drew = w1 at *
    go_wp2_with fail
    refine (CW.out _ _ _ H1.out HQ1.out HR1.out HA1.out hzl hc).mono ?_
    rintro e w2 ⟨rfl, pv2, h2, s2⟩
    generalize M.go (rop (L.size - L.first) L.size (L.turn + 1) zs) = MM at *
    obtain ⟨er, M2⟩ := MM
    have HQ2 := Lib.hid (HQ1.out.step s2)
    have HR2 := Lib.hid (HR1.out.step s2 HA1.out)
    have S2 := Lib.hid (S1.out.trans (s2.wide q rv))
    have H2 := Lib.hid h2
    have HN2 : Hid (∀ x, zs ≠ [] → A = some x → x.block ≠ q) := fun x hz hx e => HA.out x hz hx (.inr (.inl e))
    clear h2 s2 H1 HQ1 HR1 S1 HA1 HN1 CW
    by_cases he : er = 0
    · subst he
      rw [if_pos rfl] at HB
      have c2 := HQ2.out.frozen 2
      have c2' := HQ2.out.cell 2
      have D3 := Lib.hid (H2.out.setOther (a := ⟨q, 2, none⟩) HQ2.out.nq (.int .i64 ((L.size - L.first : Nat) : Int)))
      have Q3 := Lib.hid (set2 HQ2.out (L.size - L.first))
      have S3 := Lib.hid (S2.out.setCell (a := ⟨q, 2, none⟩) (.inr (.inl rfl)) (.int .i64 ((L.size - L.first : Nat) : Int)))
      have R3 := Lib.hid (HR2.out.step ((Step.refl w2 (fun b => b = q)).setCell (a := ⟨q, 2, none⟩) rfl (.int .i64 ((L.size - L.first : Nat) : Int))) HN2.out)
      clear H2 HQ2 S2 HR2
      go_upto_region 10 with fail
      clear c2 c2'
      generalize hw3 : w2.setCell ⟨q, 2, none⟩ _ = w3 at *
      clear hw3
      have c3 := Q3.out.frozen 3
      have c3' : w3.cell? ⟨q, 3, none⟩ = some (.int .i64 (L.turn : Int)) := Q3.out.cell 3
      have D4 := Lib.hid (D3.out.setOther (a := ⟨q, 3, none⟩) Q3.out.nq (.int .i64 ((L.turn + 1 : Nat) : Int)))
      have Q4 := Lib.hid (set3 Q3.out (L.turn + 1))
      have S4 := Lib.hid (S3.out.setCell (a := ⟨q, 3, none⟩) (.inr (.inl rfl)) (.int .i64 ((L.turn + 1 : Nat) : Int)))
      have R4 := Lib.hid (R3.out.step ((Step.refl w3 (fun b => b = q)).setCell (a := ⟨q, 3, none⟩) rfl (.int .i64 ((L.turn + 1 : Nat) : Int))) HN2.out)
      rw [show ((L.turn + 1 : Nat) : Int) = (L.turn : Int) + 1 by omega] at D4 Q4 S4 R4
      clear D3 Q3 S3 R3
      go_upto_region 11 with fail
      clear c3 c3'
      generalize hw4 : w3.setCell ⟨q, 3, none⟩ _ = w4 at *
      clear hw4
      have hsc3 : Hid (((sct zs.length : Nat) : Int) ≤ 255) := by have := HSC.out.2; show _ ≤ _; omega
      have c4 := Q4.out.frozen 4
      have c4' : w4.cell? ⟨q, 4, none⟩ = some (.int .i64 (L.fin : Int)) := Q4.out.cell 4
      have D5 := Lib.hid (D4.out.setOther (a := ⟨q, 4, none⟩) Q4.out.nq (.int .i64 ((1 + sct zs.length : Nat) : Int)))
      have Q5 := Lib.hid (set4 Q4.out (1 + sct zs.length))
      have S5 := Lib.hid (S4.out.setCell (a := ⟨q, 4, none⟩) (.inr (.inl rfl)) (.int .i64 ((1 + sct zs.length : Nat) : Int)))
      have R5 := Lib.hid (R4.out.step ((Step.refl w4 (fun b => b = q)).setCell (a := ⟨q, 4, none⟩) rfl (.int .i64 ((1 + sct zs.length : Nat) : Int))) HN2.out)
      rw [show ((1 + sct zs.length : Nat) : Int) = 1 + ((sct zs.length : Nat) : Int) by omega] at D5 Q5 S5 R5
      clear D4 Q4 S4 R4
      go_wp2_with fail
      refine (CS.out _).mono ?_
      rintro e w5 ⟨rfl, rfl⟩
      have hsc4 := hsc3.out
      go_upto_region 12 with fail
      clear c4 c4'
      generalize hw5 : w4.setCell ⟨q, 4, none⟩ _ = w5 at *
      clear hw5
      go_wp2_with fail
      refine (CC.out _ R5.out).mono ?_
      rintro e w6 ⟨A6, c6, rfl, r6, hc6, b6, hA6⟩
      have D6 := Lib.hid (D5.out.below b6)
      have Q6 := Lib.hid (Q5.out.below b6)
      have S6 := Lib.hid (S5.out.trans (Step.of_below b6 _))
      have hF6 : ∀ b, ft p k pv2 b → b < w6.heap.size := fun b hb => D6.out.lt b hb
      have U6 : Hid (Sl w6 (fun b => ft p k pv2 b ∨ b = q) (.slice A6 zs.length c6) zs) := ⟨A6, c6, rfl, r6, fun x hx => ⟨(hA6 x hx).2, fun hb => by
        have h1 := (hA6 x hx).1
        rcases hb with hb | hb
        · have := D5.out.lt _ hb; omega
        · have := Q5.out.qlt; omega⟩⟩
      have Q7 := Lib.hid (Q6.out.fresh hF6 U6.out)
      have D7 := Lib.hid ((D6.out.alloc (.cells #[.slice A6 zs.length c6] 33)).setOther (a := ⟨q, 5, none⟩) Q6.out.nq (.slice (some ⟨w6.heap.size, 0, none⟩) 1 1))
      have S7 := Lib.hid (((S6.out.alloc (.cells #[.slice A6 zs.length c6] 33)).setCell (a := ⟨q, 5, none⟩) (.inr (.inl rfl)) (.slice (some ⟨w6.heap.size, 0, none⟩) 1 1)).foots (F'' := fs (ft p k pv2) q (.slice (some ⟨w6.heap.size, 0, none⟩) 1 1)) (by
        rintro b (hb | hb | hb)
        · exact S6.out.foot b (.inl hb)
        · exact S6.out.foot b (.inr (.inl hb))
        · obtain rfl : w6.heap.size = b := by simpa [Value.ownBlock] using hb
          exact .inr S6.out.size))
      have N7 : Hid (∀ g, (Value.slice (some ⟨w6.heap.size, 0, none⟩) 1 1).ownBlock = some g → rv.ownBlock = some g ∨ w.heap.size ≤ g) := fun g hg => by
        obtain rfl : w6.heap.size = g := by simpa [Value.ownBlock] using hg
        exact .inr S6.out.size
      have f5 : (w6.alloc (.cells #[.slice A6 zs.length c6] 33)).frozen? ⟨q, 5, none⟩ = false := (Q6.out.below ((Below.refl _ w6).alloc (Nat.le_refl _) _)).frozen 5
      have f5' : (w6.alloc (.cells #[.slice A6 zs.length c6] 33)).cell? ⟨q, 5, none⟩ = some rv := (Q6.out.below ((Below.refl _ w6).alloc (Nat.le_refl _) _)).cell 5
      clear r6 hc6 b6 hA6 D5 Q5 S5 R5 D6 Q6 S6 hF6 U6
      go_wp2_with fail
      go_ret
      unfold LPost
      rw [HB.out]
      exact ⟨rfl, pv2, _, D7.out, Q7.out, S7.out, N7.out⟩
    · rw [if_neg he] at HB
      have c6 := HQ2.out.frozen 6
      have c6' : w2.cell? ⟨q, 6, none⟩ = some (.bool L.broken) := HQ2.out.cell 6
      have D3 := Lib.hid (H2.out.setOther (a := ⟨q, 6, none⟩) HQ2.out.nq (.bool true))
      have Q3 := Lib.hid (set6 HQ2.out true)
      have S3 := Lib.hid (S2.out.setCell (a := ⟨q, 6, none⟩) (.inr (.inl rfl)) (.bool true))
      clear H2 HQ2 S2
      go_wp2_with fail
      go_ret
      unfold LPost
      rw [HB.out]
      exact ⟨rfl, pv2, rv, D3.out, Q3.out, S3.out, fun _ hg => .inl hg⟩
  · have HB : Hid (bgn L M zs = (rf6 L zs.length ((L.size : Int) - 1), L, M)) := by
      show _ = _
      rw [bgn, if_neg hz]
    go_enter Try.func13, Try.ntmps13
    go_wp2_with fail
    refine (CR.out _ _ HQ.out).mono ?_
    rintro e w1 ⟨rfl, rfl⟩
    generalize rf6 L zs.length ((L.size : Int) - 1) = er at *
    go_wp2_with fail
    go_ret
    unfold LPost
    rw [HB.out]
    exact ⟨rfl, pv, rv, H.out, HQ.out, Step.refl _ _, fun _ hg => .inl hg⟩
end Go.Proofs.Ytjkfgdeiciligaa
