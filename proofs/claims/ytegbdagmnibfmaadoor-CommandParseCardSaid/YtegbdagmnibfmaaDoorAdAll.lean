/-
  Contracts of package addr (number, strings.Cut at one byte, Parse, byteText, Text), carried from the seat of layer 1, and the plain facts on texts: an address is read back from its text and from no other. Conditions: the library's table of powers of ten lies as its text lays it (Tab).
-/
import Derived.Test.YtegbdagmnibfmaaDoorLib
import Derived.Lib.IndexLaws
import Derived.Lib.SmallJoins
import Derived.Laws.BitsAllLaws
import Derived.RegionTactic
namespace Go.Proofs.YtegbdagmnibfmaaDoor.Ad
open Go.RowKit

theorem bcell {W w1 : World} (hb : Below W.heap.size W w1) : (∀ b o, b < W.heap.size → w1.cell? ⟨b, o, none⟩ = W.cell? ⟨b, o, none⟩) ∧ (∀ b o, b < W.heap.size → w1.frozen? ⟨b, o, none⟩ = W.frozen? ⟨b, o, none⟩) :=
  ⟨fun b o h => hb.cell (p := ⟨b, o, none⟩) h, fun b o h => hb.frozen (p := ⟨b, o, none⟩) h⟩
/-- The rest of a number's digits. -/
def numGo (most : Int) : Int → List UInt8 → Option Int
  | n, [] => some n
  | n, c :: r => if c.toNat < 48 ∨ 57 < c.toNat then none else if most < n * 10 + ((c.toNat : Int) - 48) then none else numGo most (n * 10 + ((c.toNat : Int) - 48)) r

/-- A number of a text, in the one way in which it is written. -/
def numO (most : Int) : List UInt8 → Option Int
  | [] => none
  | c :: r => if c = 48 ∧ r ≠ [] then none else numGo most 0 (c :: r)

/-- What 'number' returns. -/
def numV : Option Int → Value
  | some n => .tuple #[.int .i64 n, .bool true]
  | none => .tuple #[.int .i64 0, .bool false]

theorem drop_at (s : ByteArray) (k : Nat) (h : k < s.size) : s.data.toList.drop k = s[k] :: s.data.toList.drop (k + 1) := by
  rw [List.drop_eq_getElem_cons (by simpa using h)]; rfl

set_option maxHeartbeats 1000000 in
theorem number_loop (s : ByteArray) (most : Int) (w : World) (hs : s.size ≤ maxLen) (hm0 : 0 ≤ most) (hm1 : most ≤ 1000) (hpos : 0 < s.size) (he : s.toList.isEmpty = false) (t1 t2 : Bool) (h1 : ((s[0].toNat : Int) == 48) = t1) (h2 : (!s.toList == [48]) = t2) (ht : (t1 && t2) = false) :
    Calls Tryd.prog 42 #[.string s, .int .i64 most] w fun e w' => e = .returned (numV (numGo most 0 s.data.toList)) ∧ w' = w := by
  unfold maxLen at hs
  have he' : ¬ s.toList = [] := fun e => by rw [e] at he; cases he
  cases t1
  all_goals cases t2
  all_goals simp only [Bool.and_false, Bool.and_true] at ht
  all_goals first | (cases ht; done) | skip
  all_goals
    go_enter Tryd.func42, Tryd.ntmps42
    go_wp2
    go_loop [6, 21] (fun x i => ∃ (k : Nat) (n : Int), k ≤ s.size ∧ 0 ≤ n ∧ n ≤ most ∧ i = .int .i64 k ∧ x = .int .i64 n ∧ Hid (numGo most 0 s.data.toList = numGo most n (s.data.toList.drop k))) (fun _ i => s.size - (intOf i).toNat)
    case atStart => exact ⟨0, 0, Nat.zero_le _, Int.le_refl _, hm0, rfl, rfl, rfl⟩
    case round =>
      obtain ⟨k, n, hk, hn0, hn1, rfl, rfl, HG⟩ := hrel
      by_cases hlt : k < s.size
      · have hd := drop_at s k hlt
        have hcb : s[k].toNat < 256 := s[k].toNat_lt
        by_cases hlo : s[k].toNat < 48
        · have HR := Lib.hid (show numGo most 0 s.data.toList = none by rw [HG.out, hd]; simp [numGo, hlo])
          clear hd
          go_wp2
          go_ret2
          exact ⟨by rw [HR.out]; rfl, rfl⟩
        · by_cases hhi : 57 < s[k].toNat
          · have HR := Lib.hid (show numGo most 0 s.data.toList = none by rw [HG.out, hd]; simp [numGo, hhi])
            clear hd
            go_wp2
            go_ret2
            exact ⟨by rw [HR.out]; rfl, rfl⟩
          · by_cases hbig : most < n * 10 + ((s[k].toNat : Int) - 48)
            · have HR := Lib.hid (show numGo most 0 s.data.toList = none by rw [HG.out, hd]; simp [numGo, hlo, hhi, hbig])
              clear hd
              go_wp2
              go_ret2
              exact ⟨by rw [HR.out]; rfl, rfl⟩
            · have HR := Lib.hid (show numGo most 0 s.data.toList = numGo most (n * 10 + ((s[k].toNat : Int) - 48)) (s.data.toList.drop (k + 1)) by rw [HG.out, hd]; simp [numGo, hlo, hhi, hbig])
              clear hd
              go_wp2
              go_round
              case rel => exact ⟨k + 1, n * 10 + ((s[k].toNat : Int) - 48), by omega, by omega, by omega, by go_num, by go_num, HR.out⟩
              case measure => simp [intOf]; omega
      · have hke : k = s.size := by omega
        have HR := Lib.hid (show numGo most 0 s.data.toList = some n by rw [HG.out, List.drop_eq_nil_of_le (by simp; omega)]; rfl)
        clear hke
        go_wp2
        go_ret2
        exact ⟨by rw [HR.out]; rfl, rfl⟩

theorem number_any (s : ByteArray) (most : Int) (w : World) (hs : s.size ≤ maxLen) (hm0 : 0 ≤ most) (hm1 : most ≤ 1000) :
    Calls Tryd.prog 42 #[.string s, .int .i64 most] w fun e w' => e = .returned (numV (numO most s.data.toList)) ∧ w' = w := by
  by_cases hz : s.size = 0
  · have hl : s.data.toList = [] := List.length_eq_zero_iff.1 (by rw [← Lib.size_eq]; exact hz)
    rw [hl]
    have e1 : s.toList = [] := by rw [Lib.toList_data, hl]
    have e2 : s.toList.isEmpty = true := by rw [e1]; rfl
    clear hl hz hs
    go_enter Tryd.func42, Tryd.ntmps42
    go_wp2
    go_ret2
    exact ⟨rfl, rfl⟩
  · have hpos : 0 < s.size := by omega
    have hd := drop_at s 0 hpos
    rw [List.drop_zero] at hd
    have he : s.toList.isEmpty = false := by rw [Lib.toList_data, hd]; rfl
    have hcb : s[0].toNat < 256 := s[0].toNat_lt
    by_cases hc : s[0] = 48 ∧ s.data.toList.drop 1 ≠ []
    · have e0 : numO most s.data.toList = none := by rw [hd]; simp only [numO, Nat.zero_add, if_pos hc]
      rw [e0]
      have h1 : ((s[0].toNat : Int) == 48) = true := by rw [hc.1]; rfl
      have h2 : (!s.toList == [48]) = true := by
        rw [Lib.toList_data, hd]
        simp only [Bool.not_eq_true', beq_eq_false_iff_ne, ne_eq, List.cons.injEq, not_and]
        exact fun _ => hc.2
      have he' : ¬ s.toList = [] := fun e => by rw [e] at he; cases he
      clear e0 hc hd hz hs
      go_enter Tryd.func42, Tryd.ntmps42
      go_wp2
      go_ret2
      exact ⟨rfl, rfl⟩
    · have e0 : numO most s.data.toList = numGo most 0 s.data.toList := by rw [hd]; simp only [numO, Nat.zero_add, if_neg hc]
      rw [e0]
      refine number_loop s most w hs hm0 hm1 hpos he _ _ rfl rfl ?_
      rw [Bool.eq_false_iff]
      intro hh
      simp only [Bool.and_eq_true, beq_iff_eq, Bool.not_eq_true', beq_eq_false_iff_ne] at hh
      refine hc ⟨UInt8.toNat_inj.1 (by have := hh.1; simp; omega), fun e => hh.2 ?_⟩
      rw [Lib.toList_data, hd, e, show s[0] = 48 from UInt8.toNat_inj.1 (by have := hh.1; simp; omega)]

theorem cutl_miss (s : ByteArray) (c : UInt8) (w : World) (h : Lib.indexByte s.data.toList c = -1) :
    Calls Tryd.prog 55 #[.string s, .string ⟨#[c]⟩] w fun e w' => e = .returned (.tuple #[.string s, .string ⟨#[]⟩, .bool false]) ∧ Below w.heap.size w w' := by
  have HI := Lib.hid fun W => Tryd.stringslite_Index_one s c W
  rw [h] at HI
  clear h
  go_enter Tryd.func55, Tryd.ntmps55
  go_wp2_with fail
  refine (HI.out _).mono ?_
  rintro e w1 ⟨rfl, rfl⟩
  go_wp2_with fail
  go_ret3
  exact ⟨rfl, Below.refl _ _⟩
theorem cutl_hit (s : ByteArray) (c : UInt8) (i : Nat) (w : World) (h : Lib.indexByte s.data.toList c = i) (hi : i < s.size) (hs : s.size ≤ maxLen) :
    Calls Tryd.prog 55 #[.string s, .string ⟨#[c]⟩] w fun e w' => e = .returned (.tuple #[.string (s.extract 0 i), .string (s.extract (i + 1) s.size), .bool true]) ∧ Below w.heap.size w w' := by
  have HI := Lib.hid fun W => Tryd.stringslite_Index_one s c W
  rw [h] at HI
  clear h
  unfold maxLen at hs
  go_enter Tryd.func55, Tryd.ntmps55
  go_wp2_with fail
  refine (HI.out _).mono ?_
  rintro e w1 ⟨rfl, rfl⟩
  go_wp2_with fail
  go_region
  go_wp2
  go_ret3
  exact ⟨rfl, (Below.refl _ _).drew⟩

theorem cut_miss (s : ByteArray) (c : UInt8) (w : World) (h : Lib.indexByte s.data.toList c = -1) :
    Calls Tryd.prog 41 #[.string s, .string ⟨#[c]⟩] w fun e w' => e = .returned (.tuple #[.string s, .string ⟨#[]⟩, .bool false]) ∧ Below w.heap.size w w' := by
  have HI := Lib.hid fun W => cutl_miss s c W h
  clear h
  go_enter Tryd.func41, Tryd.ntmps41
  go_wp2_with fail
  refine (HI.out _).mono ?_
  rintro e w1 ⟨rfl, hb⟩
  have HB := Lib.hid hb
  clear hb
  go_wp2_with fail
  go_ret3
  exact ⟨rfl, HB.out⟩
theorem cut_hit (s : ByteArray) (c : UInt8) (i : Nat) (w : World) (h : Lib.indexByte s.data.toList c = i) (hi : i < s.size) (hs : s.size ≤ maxLen) :
    Calls Tryd.prog 41 #[.string s, .string ⟨#[c]⟩] w fun e w' => e = .returned (.tuple #[.string (s.extract 0 i), .string (s.extract (i + 1) s.size), .bool true]) ∧ Below w.heap.size w w' := by
  have HI := Lib.hid fun W => cutl_hit s c i W h hi hs
  clear h
  go_enter Tryd.func41, Tryd.ntmps41
  go_wp2_with fail
  refine (HI.out _).mono ?_
  rintro e w1 ⟨rfl, hb⟩
  have HB := Lib.hid hb
  clear hb
  go_wp2_with fail
  go_ret3
  exact ⟨rfl, HB.out⟩

theorem numGo_bd (most : Int) : ∀ (l : List UInt8) (n m : Int), 0 ≤ n → n ≤ most → numGo most n l = some m → 0 ≤ m ∧ m ≤ most
  | [], n, m, h0, h1, h => by simp [numGo] at h; omega
  | c :: r, n, m, h0, h1, h => by
    unfold numGo at h
    split at h
    · cases h
    · split at h
      · cases h
      · exact numGo_bd most r _ m (by omega) (by omega) h
theorem numO_bd {most : Int} {l : List UInt8} {m : Int} (h0 : 0 ≤ most) (h : numO most l = some m) : 0 ≤ m ∧ m ≤ most := by
  cases l with
  | nil => cases h
  | cons c r =>
    simp only [numO] at h
    split at h
    · cases h
    · exact numGo_bd most _ 0 m (Int.le_refl _) h0 h

/-- What stands ahead of the first byte c, what behind it, and whether there is one. -/
def cutL (c : UInt8) (l : List UInt8) : List UInt8 × List UInt8 × Bool :=
  if Lib.indexByte l c = -1 then (l, [], false) else (l.take (Lib.indexByte l c).toNat, l.drop ((Lib.indexByte l c).toNat + 1), true)

/-- The rest of an address's numbers: r are left. -/
def parseGo : Nat → Int → List UInt8 → Option Int
  | 0, a, _ => some a
  | r + 1, a, l =>
    if (cutL 46 l).2.2 = decide (r ≠ 0) then
      match numO 255 (cutL 46 l).1 with
      | some n => parseGo r (a * 256 + n) (cutL 46 l).2.1
      | none => none
    else none

/-- The address of a text. -/
def parseO (l : List UInt8) : Option Int := parseGo 4 0 l

/-- What Parse returns. -/
def parseV : Option Int → Value
  | some n => .tuple #[.int .u32 n, .bool true]
  | none => .tuple #[.int .u32 0, .bool false]

theorem cut_cases (r : ByteArray) (c : UInt8) : (Lib.indexByte r.data.toList c = -1 ∧ cutL c r.data.toList = (r.data.toList, [], false)) ∨
    ∃ i : Nat, Lib.indexByte r.data.toList c = i ∧ i < r.size ∧ cutL c r.data.toList = ((r.extract 0 i).data.toList, (r.extract (i + 1) r.size).data.toList, true) := by
  by_cases h : Lib.indexByte r.data.toList c = -1
  · exact .inl ⟨h, by simp [cutL, h]⟩
  · have := Lib.indexByte_ge r.data.toList c
    obtain ⟨i, hi⟩ := Int.eq_ofNat_of_zero_le (show 0 ≤ Lib.indexByte r.data.toList c by omega)
    have hlt : i < r.size := by
      have := (Lib.indexByte_some hi).1
      rw [Lib.size_eq]
      exact (List.getElem?_eq_some_iff.1 this).1
    refine .inr ⟨i, hi, hlt, ?_⟩
    rw [cutL, if_neg h, hi, Int.toNat_natCast, Lib.extract_data, Lib.extract_data]
    simp only [List.drop_zero, Nat.sub_zero, Prod.mk.injEq, and_true, true_and]
    rw [List.take_of_length_le]
    rw [List.length_drop, Lib.size_eq]
    omega

theorem pow256 (k : Nat) (hk : k < 4) : (256 : Int) ^ k ≤ 16777216 := by
  have : k = 0 ∨ k = 1 ∨ k = 2 ∨ k = 3 := by omega
  rcases this with rfl | rfl | rfl | rfl <;> decide

theorem or_byte (a n : Int) (h0 : 0 ≤ a) (h1 : a < 16777216) (h2 : 0 ≤ n) (h3 : n ≤ 255) : bits .or .u32 (a * 256) n = a * 256 + n := by
  rw [u32_or _ _ (by omega) (by omega) (by omega) (by omega), nat_join 8 _ _ (by omega) (by omega)]
  omega

set_option maxHeartbeats 1000000 in
theorem parse_any (s : ByteArray) (w : World) (hs : s.size ≤ maxLen) :
    Calls Tryd.prog 29 #[.string s] w fun e w' => e = .returned (parseV (parseO s.data.toList)) ∧ Below w.heap.size w w' := by
  go_enter Tryd.func29, Tryd.ntmps29
  go_wp2
  go_loopw [4, 5, 13] (fun x y i W => ∃ (k : Nat) (a : Int) (r : ByteArray), k ≤ 4 ∧ 0 ≤ a ∧ a < 256 ^ k ∧ r.size ≤ maxLen ∧ i = .int .i64 k ∧ x = .int .u32 a ∧ y = .string r ∧ Hid (parseO s.data.toList = parseGo (4 - k) a r.data.toList) ∧ Below w.heap.size w W) (fun _ _ i _ => 4 - (intOf i).toNat)
  case atStart => exact ⟨0, 0, s, by omega, by omega, by decide, hs, rfl, rfl, rfl, rfl, Below.refl _ _⟩
  case round =>
    obtain ⟨k, a, r, hk, ha0, ha1, hr, rfl, rfl, rfl, HG, hbw⟩ := hrel
    have HW := Lib.hid hbw
    clear hbw
    by_cases hlt : k < 4
    · have ha3 : a < 16777216 := Int.lt_of_lt_of_le ha1 (pow256 k hlt)
      have HA := Lib.hid ha1
      clear ha1
      obtain ⟨q, hq⟩ : ∃ q, 4 - k = q + 1 := ⟨3 - k, by omega⟩
      rw [hq] at HG
      have hqk : q = 3 - k := by omega
      rcases cut_cases r 46 with ⟨hx, hL⟩ | ⟨i, hx, hi, hL⟩
      · have HC := Lib.hid fun W => cut_miss r 46 W hx
        clear hx
        by_cases h3 : k < 3
        · have HR := Lib.hid (show parseO s.data.toList = none by rw [HG.out]; simp only [parseGo, hL]; rw [if_neg]; simp; omega)
          have h3' : decide ((k : Int) < 3) = true := by simp; omega
          clear hL hq hqk
          go_wp2_with fail
          refine (HC.out _).mono ?_
          rintro e w1 ⟨rfl, hb⟩
          have HB := Lib.hid hb
          clear hb
          go_wp2_with fail
          go_ret2
          exact ⟨by rw [HR.out]; rfl, HW.out.trans (HB.out.mono HW.out.size)⟩
        · have h3' : decide ((k : Int) < 3) = false := by simp; omega
          have HN := Lib.hid fun W => number_any r 255 W hr (by decide) (by decide)
          cases hO : numO 255 r.data.toList with
          | none =>
            rw [hO] at HN
            have HR := Lib.hid (show parseO s.data.toList = none by rw [HG.out]; simp only [parseGo, hL, hO]; simp)
            clear hL hq hqk hO
            go_wp2_with fail
            refine (HC.out _).mono ?_
            rintro e w1 ⟨rfl, hb⟩
            have HB := Lib.hid hb
            clear hb
            go_wp2_with fail
            refine (HN.out _).mono ?_
            rintro e w2 ⟨rfl, rfl⟩
            simp only [numV]
            go_wp2_with fail
            go_ret2
            exact ⟨by rw [HR.out]; rfl, HW.out.trans (HB.out.mono HW.out.size)⟩
          | some n =>
            rw [hO] at HN
            obtain ⟨hn0, hn1⟩ := numO_bd (by decide) hO
            have HR := Lib.hid (show parseO s.data.toList = parseGo q (a * 256 + n) [] by rw [HG.out]; simp only [parseGo, hL, hO]; rw [if_pos]; simp; omega)
            have HQ := Lib.hid hqk
            have HV := Lib.hid (or_byte a n ha0 ha3 hn0 hn1)
            clear hL hq hqk hO
            go_wp2_with fail
            refine (HC.out _).mono ?_
            rintro e w1 ⟨rfl, hb⟩
            have HB := Lib.hid hb
            clear hb
            go_wp2_with fail
            refine (HN.out _).mono ?_
            rintro e w2 ⟨rfl, rfl⟩
            simp only [numV]
            go_wp2_with fail
            rw [HV.out]
            exact ⟨⟨k + 1, a * 256 + n, ⟨#[]⟩, by omega, by omega, by have := HA.out; rw [Int.pow_succ]; omega, Nat.zero_le _, by go_num, rfl, rfl, by rw [show 4 - (k + 1) = q from by have := HQ.out; omega]; exact HR.out, HW.out.trans (HB.out.mono HW.out.size)⟩, by simp [intOf]; omega⟩
      · have HC := Lib.hid fun W => cut_hit r 46 i W hx hi hr
        have hp : (r.extract 0 i).size ≤ maxLen := by rw [ByteArray.size_extract]; omega
        have HP2 := Lib.hid (show (r.extract (i + 1) r.size).size ≤ maxLen by rw [ByteArray.size_extract]; omega)
        clear hx
        by_cases h3 : k < 3
        · have h3' : decide ((k : Int) < 3) = true := by simp; omega
          have HN := Lib.hid fun W => number_any (r.extract 0 i) 255 W hp (by decide) (by decide)
          clear hp
          cases hO : numO 255 (r.extract 0 i).data.toList with
          | none =>
            rw [hO] at HN
            have HR := Lib.hid (show parseO s.data.toList = none by rw [HG.out]; simp only [parseGo, hL, hO]; simp)
            clear hL hq hqk hO
            go_wp2_with fail
            refine (HC.out _).mono ?_
            rintro e w1 ⟨rfl, hb⟩
            have HB := Lib.hid hb
            clear hb
            go_wp2_with fail
            refine (HN.out _).mono ?_
            rintro e w2 ⟨rfl, rfl⟩
            simp only [numV]
            go_wp2_with fail
            go_ret2
            exact ⟨by rw [HR.out]; rfl, HW.out.trans (HB.out.mono HW.out.size)⟩
          | some n =>
            rw [hO] at HN
            obtain ⟨hn0, hn1⟩ := numO_bd (by decide) hO
            have HR := Lib.hid (show parseO s.data.toList = parseGo q (a * 256 + n) (r.extract (i + 1) r.size).data.toList by rw [HG.out]; simp only [parseGo, hL, hO]; rw [if_pos]; simp; omega)
            have HQ := Lib.hid hqk
            have HV := Lib.hid (or_byte a n ha0 ha3 hn0 hn1)
            clear hL hq hqk hO
            go_wp2_with fail
            refine (HC.out _).mono ?_
            rintro e w1 ⟨rfl, hb⟩
            have HB := Lib.hid hb
            clear hb
            go_wp2_with fail
            refine (HN.out _).mono ?_
            rintro e w2 ⟨rfl, rfl⟩
            simp only [numV]
            go_wp2_with fail
            rw [HV.out]
            exact ⟨⟨k + 1, a * 256 + n, r.extract (i + 1) r.size, by omega, by omega, by have := HA.out; rw [Int.pow_succ]; omega, HP2.out, by go_num, rfl, rfl, by rw [show 4 - (k + 1) = q from by have := HQ.out; omega]; exact HR.out, HW.out.trans (HB.out.mono HW.out.size)⟩, by simp [intOf]; omega⟩
        · have h3' : decide ((k : Int) < 3) = false := by simp; omega
          have HR := Lib.hid (show parseO s.data.toList = none by rw [HG.out]; simp only [parseGo, hL]; rw [if_neg]; simp; omega)
          clear hL hq hqk
          go_wp2_with fail
          refine (HC.out _).mono ?_
          rintro e w1 ⟨rfl, hb⟩
          have HB := Lib.hid hb
          clear hb
          go_wp2_with fail
          go_ret2
          exact ⟨by rw [HR.out]; rfl, HW.out.trans (HB.out.mono HW.out.size)⟩
    · have hk4 : k = 4 := by omega
      have HR := Lib.hid (show parseO s.data.toList = some a by rw [HG.out, hk4]; rfl)
      clear hk4
      go_wp2_with fail
      go_ret2
      exact ⟨by rw [HR.out]; rfl, HW.out⟩
/-- A number's digits. -/
def dig (n : Int) : List UInt8 := Lib.decDigits n.toNat

theorem dig_len {n : Int} (h1 : n < 1000) : (dig n).length ≤ 3 := by
  unfold dig
  rw [Lib.decDigits_length]
  by_cases h : n.toNat < 10
  · rw [Lib.nDigits_small h]; omega
  · rw [Lib.nDigits_big h]
    by_cases h2 : n.toNat / 10 < 10
    · rw [Lib.nDigits_small h2]; omega
    · rw [Lib.nDigits_big h2, Lib.nDigits_small (by omega)]; omega

theorem itoa_pos {n : Int} (h : 0 ≤ n) : Lib.itoa n = dig n := by
  unfold Lib.itoa dig; rw [if_neg (by omega)]

theorem below_grow (w : World) (k : Nat) (os : Array Obj) : Below w.heap.size w (Sort.grow (w.drewN k) os) :=
  ⟨rfl, rfl, rfl, by simp [Sort.grow, World.drewN], fun i hi => by simp [Sort.grow, World.drewN, Array.getElem?_append, hi]⟩

theorem itoa_any (n : Int) (w : World) (h0 : 0 ≤ n) (h1 : n ≤ 9223372036854775807) (ht : Tab w) :
    Calls Tryd.prog 39 #[.int .i64 n] w fun e w' => e = .returned (.string ⟨(dig n).toArray⟩) ∧ Below w.heap.size w w' :=
  (Tryd.strconv_Itoa n (by omega) h1 w ht).mono fun _ _ ⟨he, k, os, hw⟩ => ⟨by rw [he, itoa_pos h0], by rw [hw]; exact below_grow w k os⟩

theorem and255 (a : Int) (h0 : 0 ≤ a) (h1 : a < 4294967296) : bits .and .u32 a 255 = a % 256 := by
  rw [u32_and a 255 h0 h1 (by decide) (by decide)]
  rw [show (255 : Int).toNat = 2 ^ 8 - 1 from rfl, Nat.and_two_pow_sub_one_eq_mod]
  omega

theorem byteText_any (a : Int) (w : World) (h0 : 0 ≤ a) (h1 : a < 4294967296) (ht : Tab w) :
    Calls Tryd.prog 38 #[.int .u32 a] w fun e w' => e = .returned (.string ⟨(dig (a % 256)).toArray⟩) ∧ Below w.heap.size w w' := by
  have HV := Lib.hid (and255 a h0 h1)
  have hv0 : 0 ≤ bits .and .u32 a 255 := by rw [HV.out]; omega
  have hv1 : bits .and .u32 a 255 < 256 := by rw [HV.out]; omega
  have HI := Lib.hid fun W (h : Tab W) => itoa_any (a % 256) W (by omega) (by omega) h
  have HT := Lib.hid ht
  clear ht
  go_enter Tryd.func38, Tryd.ntmps38
  go_wp2_with fail
  rw [HV.out]
  refine (HI.out _ HT.out).mono ?_
  rintro e w1 ⟨rfl, hb⟩
  have HB := Lib.hid hb
  clear hb
  go_wp2_with fail
  go_ret
  exact ⟨rfl, HB.out⟩

theorem ret_str {a b : ByteArray} (h : a = b) : Ending.returned (.string a) = .returned (.string b) := by rw [h]
theorem cat (l m : List UInt8) : (⟨l.toArray⟩ : ByteArray) ++ ⟨m.toArray⟩ = ⟨(l ++ m).toArray⟩ := by
  apply ByteArray.ext; simp

/-- An address's text. -/
def textL (a : Int) : List UInt8 := dig (a / 16777216) ++ 46 :: (dig (a / 65536 % 256) ++ 46 :: (dig (a / 256 % 256) ++ 46 :: dig (a % 256)))

set_option maxHeartbeats 1000000 in
theorem text_any (a : Int) (w : World) (h0 : 0 ≤ a) (h1 : a < 4294967296) (ht : Tab w) :
    Calls Tryd.prog 16 #[.int .u32 a] w fun e w' => e = .returned (.string ⟨(textL a).toArray⟩) ∧ Below w.heap.size w w' := by
  have H1 := Lib.hid fun W (h : Tab W) => byteText_any (a / 16777216) W (by omega) (by omega) h
  have H2 := Lib.hid fun W (h : Tab W) => byteText_any (a / 65536) W (by omega) (by omega) h
  have H3 := Lib.hid fun W (h : Tab W) => byteText_any (a / 256) W (by omega) (by omega) h
  have H4 := Lib.hid fun W (h : Tab W) => byteText_any a W h0 h1 h
  have e1 : a / 16777216 % 256 = a / 16777216 := by omega
  rw [e1] at H1
  clear e1
  have d1 := dig_len (n := a / 16777216) (by omega)
  have d2 := dig_len (n := a / 65536 % 256) (by omega)
  have d3 := dig_len (n := a / 256 % 256) (by omega)
  have d4 := dig_len (n := a % 256) (by omega)
  have HL := Lib.hid (show textL a = dig (a / 16777216) ++ 46 :: (dig (a / 65536 % 256) ++ 46 :: (dig (a / 256 % 256) ++ 46 :: dig (a % 256))) from rfl)
  generalize dig (a / 16777216) = l1 at *
  generalize dig (a / 65536 % 256) = l2 at *
  generalize dig (a / 256 % 256) = l3 at *
  generalize dig (a % 256) = l4 at *
  have HT := Lib.hid ht
  clear ht
  go_enter Tryd.func16, Tryd.ntmps16
  go_wp2_with fail
  refine (H1.out _ HT.out).mono ?_
  rintro e w1 ⟨rfl, hb1⟩
  have HB1 := Lib.hid hb1
  have HT1 := Lib.hid (HT.out.below hb1)
  clear hb1
  go_wp2_with fail
  refine (H2.out _ HT1.out).mono ?_
  rintro e w2 ⟨rfl, hb2⟩
  have HB2 := Lib.hid (HB1.out.trans (hb2.mono HB1.out.size))
  have HT2 := Lib.hid (HT1.out.below hb2)
  clear hb2
  go_wp2_with fail
  refine (H3.out _ HT2.out).mono ?_
  rintro e w3 ⟨rfl, hb3⟩
  have HB3 := Lib.hid (HB2.out.trans (hb3.mono HB2.out.size))
  have HT3 := Lib.hid (HT2.out.below hb3)
  clear hb3
  go_wp2_with fail
  refine (H4.out _ HT3.out).mono ?_
  rintro e w4 ⟨rfl, hb4⟩
  have HB4 := Lib.hid (HB3.out.trans (hb4.mono HB3.out.size))
  clear hb4
  go_wp2_with fail
  go_ret
  refine ⟨?_, HB4.out⟩
  rw [HL.out]
  exact ret_str (by rw [show (⟨#[46]⟩ : ByteArray) = ⟨[46].toArray⟩ from rfl]; simp only [cat]; simp)

theorem parseGo_bd : ∀ (r : Nat) (a : Int) (l : List UInt8) (m : Int), 0 ≤ a → parseGo r a l = some m → 0 ≤ m ∧ m < (a + 1) * 256 ^ r
  | 0, a, l, m, h0, h => by simp [parseGo] at h; simp; omega
  | r + 1, a, l, m, h0, h => by
    simp only [parseGo] at h
    split at h
    · split at h
      · rename_i n hn
        obtain ⟨n0, n1⟩ := numO_bd (by decide) hn
        obtain ⟨m0, m1⟩ := parseGo_bd r (a * 256 + n) _ m (by omega) h
        refine ⟨m0, Int.lt_of_lt_of_le m1 ?_⟩
        rw [Int.pow_succ, Int.mul_comm (256 ^ r) 256, ← Int.mul_assoc]
        exact Int.mul_le_mul_of_nonneg_right (by omega) (Int.le_of_lt (Int.pow_pos (by decide)))
      · cases h
    · cases h
theorem parseO_bd {l : List UInt8} {m : Int} (h : parseO l = some m) : 0 ≤ m ∧ m < 4294967296 := by
  have := parseGo_bd 4 0 l m (Int.le_refl _) h
  simpa using this

theorem dd_small {u : Nat} (h : u < 10) : Lib.decDigits u = [UInt8.ofNat (48 + u)] := by rw [Lib.decDigits, dif_pos h]
theorem dd_big {u : Nat} (h : ¬ u < 10) : Lib.decDigits u = Lib.decDigits (u / 10) ++ [UInt8.ofNat (48 + u % 10)] := by rw [Lib.decDigits, dif_neg h]

theorem dd_mem (u : Nat) : ∀ c ∈ Lib.decDigits u, 48 ≤ c.toNat ∧ c.toNat ≤ 57 := by
  induction u using Nat.strongRecOn with
  | _ u ih =>
    by_cases h : u < 10
    · rw [dd_small h]
      intro c hc
      simp only [List.mem_singleton] at hc
      subst hc
      simp
      omega
    · rw [dd_big h]
      intro c hc
      rcases List.mem_append.1 hc with hc | hc
      · exact ih (u / 10) (by omega) c hc
      · simp only [List.mem_singleton] at hc
        subst hc
        simp
        omega

theorem numGo_append (most : Int) : ∀ (l r : List UInt8) (n : Int), numGo most n (l ++ r) = (numGo most n l).bind fun k => numGo most k r
  | [], r, n => rfl
  | c :: l, r, n => by
    simp only [List.cons_append, numGo]
    split
    · rfl
    · split
      · rfl
      · exact numGo_append most l r _

theorem numGo_one (most n : Int) (d : Nat) (hd : d < 10) (h : n * 10 + d ≤ most) : numGo most n [UInt8.ofNat (48 + d)] = some (n * 10 + d) := by
  have e : (UInt8.ofNat (48 + d)).toNat = 48 + d := by simp; omega
  simp only [numGo, e]
  rw [if_neg (by omega), if_neg (by omega)]
  congr 1
  omega

theorem numGo_dd (most : Int) (u : Nat) (h : (u : Int) ≤ most) : numGo most 0 (Lib.decDigits u) = some (u : Int) := by
  induction u using Nat.strongRecOn with
  | _ u ih =>
    by_cases hu : u < 10
    · rw [dd_small hu, numGo_one most 0 u hu (by omega)]
      congr 1
      omega
    · rw [dd_big hu, numGo_append, ih (u / 10) (by omega) (by omega)]
      show numGo most _ _ = _
      rw [numGo_one most _ (u % 10) (by omega) (by omega)]
      congr 1
      omega

theorem dd_head (u : Nat) (h : 1 ≤ u) : ∃ c r, Lib.decDigits u = c :: r ∧ c ≠ 48 := by
  induction u using Nat.strongRecOn with
  | _ u ih =>
    by_cases hu : u < 10
    · refine ⟨_, [], dd_small hu, fun e => ?_⟩
      have := congrArg UInt8.toNat e
      simp at this
      omega
    · obtain ⟨c, r, h1, h2⟩ := ih (u / 10) (by omega) (by omega)
      exact ⟨c, r ++ [UInt8.ofNat (48 + u % 10)], by rw [dd_big hu, h1]; rfl, h2⟩

theorem numO_dig (most n : Int) (h0 : 0 ≤ n) (h1 : n ≤ most) : numO most (dig n) = some n := by
  obtain ⟨u, rfl⟩ := Int.eq_ofNat_of_zero_le h0
  have hg := numGo_dd most u h1
  unfold dig
  rw [Int.toNat_natCast]
  by_cases hu : u = 0
  · subst hu
    rw [dd_small (by decide)] at hg ⊢
    exact hg
  · obtain ⟨c, r, h2, h3⟩ := dd_head u (by omega)
    rw [h2] at hg ⊢
    simp only [numO]
    rw [if_neg fun h => h3 h.1]
    exact hg

theorem numGo_back (most : Int) : ∀ (l : List UInt8) (n : Nat) (m : Int), 1 ≤ n → numGo most n l = some m → 0 ≤ m ∧ Lib.decDigits m.toNat = Lib.decDigits n ++ l
  | [], n, m, h0, h => by
    simp only [numGo, Option.some.injEq] at h
    subst h
    exact ⟨by omega, by simp⟩
  | c :: r, n, m, h0, h => by
    simp only [numGo] at h
    split at h
    · cases h
    · split at h
      · cases h
      · have e : (n : Int) * 10 + ((c.toNat : Int) - 48) = ((n * 10 + (c.toNat - 48) : Nat) : Int) := by omega
        rw [e] at h
        obtain ⟨hm, hd⟩ := numGo_back most r _ m (by omega) h
        refine ⟨hm, ?_⟩
        rw [hd, dd_big (by omega), show (n * 10 + (c.toNat - 48)) / 10 = n by omega, show 48 + (n * 10 + (c.toNat - 48)) % 10 = c.toNat by omega]
        simp

theorem numO_back {most n : Int} {l : List UInt8} (h : numO most l = some n) : l = dig n := by
  cases l with
  | nil => cases h
  | cons c r =>
    simp only [numO] at h
    split at h
    · cases h
    · rename_i hc
      by_cases h48 : c = 48
      · subst h48
        have hr : r = [] := by
          cases r with
          | nil => rfl
          | cons x y => exact absurd ⟨rfl, by simp⟩ hc
        subst hr
        simp only [numGo] at h
        rw [if_neg (by decide)] at h
        split at h
        · cases h
        · have : n = 0 := by
            have := Option.some.inj h
            simp at this
            omega
          subst this
          show _ = Lib.decDigits 0
          rw [dd_small (by decide)]
          rfl
      · simp only [numGo] at h
        split at h
        · cases h
        · split at h
          · cases h
          · have hne : c.toNat ≠ 48 := fun e => h48 (UInt8.toNat_inj.1 (by simpa using e))
            have e : (0 : Int) * 10 + ((c.toNat : Int) - 48) = ((c.toNat - 48 : Nat) : Int) := by omega
            rw [e] at h
            obtain ⟨_, hd⟩ := numGo_back most r _ n (by omega) h
            show _ = Lib.decDigits n.toNat
            rw [hd, dd_small (by omega), show 48 + (c.toNat - 48) = c.toNat by omega]
            simp

theorem index_none {c : UInt8} : ∀ {l : List UInt8}, c ∉ l → Lib.indexByte l c = -1
  | [], _ => rfl
  | b :: l, h => by
    have h1 : ¬ b = c := fun e => h (by simp [e])
    have h2 := index_none (c := c) (l := l) (fun m => h (by simp [m]))
    simp [Lib.indexByte, h1, h2]

theorem index_at {c : UInt8} : ∀ {l r : List UInt8}, c ∉ l → Lib.indexByte (l ++ c :: r) c = l.length
  | [], r, _ => by simp [Lib.indexByte]
  | b :: l, r, h => by
    have h1 : ¬ b = c := fun e => h (by simp [e])
    have h2 := index_at (c := c) (l := l) (r := r) (fun m => h (by simp [m]))
    simp only [List.cons_append, Lib.indexByte, h2]
    rw [if_neg (by simpa using h1), if_neg (by simp)]
    simp

theorem cut_none {c : UInt8} {l : List UInt8} (h : c ∉ l) : cutL c l = (l, [], false) := by rw [cutL, if_pos (index_none h)]
theorem cut_at {c : UInt8} {l r : List UInt8} (h : c ∉ l) : cutL c (l ++ c :: r) = (l, r, true) := by
  rw [cutL, index_at h, if_neg (by omega)]
  simp

theorem cut_back (c : UInt8) (l : List UInt8) : (cutL c l).2.2 = true ∧ l = (cutL c l).1 ++ c :: (cutL c l).2.1 ∨ (cutL c l).2.2 = false ∧ l = (cutL c l).1 ∧ (cutL c l).2.1 = [] := by
  by_cases h : Lib.indexByte l c = -1
  · exact .inr (by simp [cutL, h])
  · have := Lib.indexByte_ge l c
    obtain ⟨i, hi⟩ := Int.eq_ofNat_of_zero_le (show 0 ≤ Lib.indexByte l c by omega)
    have hs := (Lib.indexByte_some hi).1
    refine .inl ?_
    rw [cutL, if_neg h, hi, Int.toNat_natCast]
    refine ⟨rfl, ?_⟩
    obtain ⟨hlt, he⟩ := List.getElem?_eq_some_iff.1 hs
    show l = l.take i ++ c :: l.drop (i + 1)
    rw [← he, ← List.drop_eq_getElem_cons hlt, List.take_append_drop]

theorem dig_not (n : Int) (c : UInt8) (h : c.toNat < 48) : c ∉ dig n := fun m => by have := (dd_mem _ c m).1; omega

theorem parse_text (a : Int) (h0 : 0 ≤ a) (h1 : a < 4294967296) : parseO (textL a) = some a := by
  unfold parseO textL
  have n46 : ∀ n, (46 : UInt8) ∉ dig n := fun n => dig_not n 46 (by decide)
  simp only [parseGo, cut_at (n46 _), cut_none (n46 _)]
  rw [numO_dig 255 (a / 16777216) (by omega) (by omega), numO_dig 255 (a / 65536 % 256) (by omega) (by omega), numO_dig 255 (a / 256 % 256) (by omega) (by omega), numO_dig 255 (a % 256) (by omega) (by omega)]
  simp
  omega

theorem parse_back {l : List UInt8} {z : Int} (h : parseO l = some z) : l = textL z := by
  unfold parseO at h
  simp only [parseGo] at h
  split at h
  · rename_i c1
    split at h
    · rename_i n1 e1
      split at h
      · rename_i c2
        split at h
        · rename_i n2 e2
          split at h
          · rename_i c3
            split at h
            · rename_i n3 e3
              split at h
              · rename_i c4
                split at h
                · rename_i n4 e4
                  have hz := Option.some.inj h
                  obtain ⟨a0, a1⟩ := numO_bd (by decide) e1
                  obtain ⟨b0, b1⟩ := numO_bd (by decide) e2
                  obtain ⟨d0, d1⟩ := numO_bd (by decide) e3
                  obtain ⟨f0, f1⟩ := numO_bd (by decide) e4
                  have p1 := numO_back e1
                  have p2 := numO_back e2
                  have p3 := numO_back e3
                  have p4 := numO_back e4
                  have q1 := cut_back 46 l
                  have q2 := cut_back 46 (cutL 46 l).2.1
                  have q3 := cut_back 46 (cutL 46 (cutL 46 l).2.1).2.1
                  have q4 := cut_back 46 (cutL 46 (cutL 46 (cutL 46 l).2.1).2.1).2.1
                  rw [c1] at q1
                  rw [c2] at q2
                  rw [c3] at q3
                  rw [c4] at q4
                  simp at q1 q2 q3 q4
                  rw [p1] at q1
                  rw [p2] at q2
                  rw [p3] at q3
                  rw [p4] at q4
                  rw [q1, q2, q3, q4.1]
                  subst hz
                  unfold textL
                  congr 1
                  · congr 1; omega
                  · congr 1
                    congr 1
                    · congr 1; omega
                    · congr 1
                      congr 1
                      · congr 1; omega
                      · congr 2; omega
                · cases h
              · cases h
            · cases h
          · cases h
        · cases h
      · cases h
    · cases h
  · cases h

theorem text_not (a : Int) (c : UInt8) (h : c.toNat < 48) (h2 : c ≠ 46) : c ∉ textL a := by
  unfold textL
  have := fun n => dig_not n c h
  simp [this, h2]

end Go.Proofs.YtegbdagmnibfmaaDoor.Ad
