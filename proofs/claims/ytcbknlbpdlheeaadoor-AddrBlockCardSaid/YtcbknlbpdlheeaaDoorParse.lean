/-
  Contracts of number, strings.Cut at one byte and Parse (package addr): what each returns, for every text that a process can hold, and that nothing that was in memory has changed.
-/
import Derived.Test.YtcbknlbpdlheeaaDoorBits
import Derived.Test.YtcbknlbpdlheeaaDoorShelf
import Derived.Lib.IndexLaws
import Derived.RegionTactic
namespace Go.Proofs.YtcbknlbpdlheeaaDoor
open Go.RowKit

/-- The rest of a number's digits. -/
def numGo (most : Int) : Int → List UInt8 → Option Int
  | n, [] => some n
  | n, c :: r => if c.toNat < 48 ∨ 57 < c.toNat then none else if most < n * 10 + ((c.toNat : Int) - 48) then none else numGo most (n * 10 + ((c.toNat : Int) - 48)) r

/-- A number of a text, in the one way in which it is written. -/
def numO (most : Int) : List UInt8 → Option Int
  | [] => none
  | c :: r => if c = 48 ∧ r ≠ [] then none else numGo most 0 (c :: r)

/-- What 'number' returns. -/
def numV : Option Int → Value
  | some n => .tuple #[.int .i64 n, .bool true]
  | none => .tuple #[.int .i64 0, .bool false]

theorem drop_at (s : ByteArray) (k : Nat) (h : k < s.size) : s.data.toList.drop k = s[k] :: s.data.toList.drop (k + 1) := by
  rw [List.drop_eq_getElem_cons (by simpa using h)]; rfl

set_option maxHeartbeats 1000000 in
theorem number_loop (s : ByteArray) (most : Int) (w : World) (hs : s.size ≤ maxLen) (hm0 : 0 ≤ most) (hm1 : most ≤ 1000) (hpos : 0 < s.size) (he : s.toList.isEmpty = false) (t1 t2 : Bool) (h1 : ((s[0].toNat : Int) == 48) = t1) (h2 : (!s.toList == [48]) = t2) (ht : (t1 && t2) = false) :
    Calls Tryd.prog 29 #[.string s, .int .i64 most] w fun e w' => e = .returned (numV (numGo most 0 s.data.toList)) ∧ w' = w := by
  unfold maxLen at hs
  have he' : ¬ s.toList = [] := fun e => by rw [e] at he; cases he
  cases t1
  all_goals cases t2
  all_goals simp only [Bool.and_false, Bool.and_true] at ht
  all_goals first | (cases ht; done) | skip
  all_goals
    go_enter Tryd.func29, Tryd.ntmps29
    go_wp2
    go_loop [6, 21] (fun x i => ∃ (k : Nat) (n : Int), k ≤ s.size ∧ 0 ≤ n ∧ n ≤ most ∧ i = .int .i64 k ∧ x = .int .i64 n ∧ Hid (numGo most 0 s.data.toList = numGo most n (s.data.toList.drop k))) (fun _ i => s.size - (intOf i).toNat)
    case atStart => exact ⟨0, 0, Nat.zero_le _, Int.le_refl _, hm0, rfl, rfl, rfl⟩
    case round =>
      obtain ⟨k, n, hk, hn0, hn1, rfl, rfl, HG⟩ := hrel
      by_cases hlt : k < s.size
      · have hd := drop_at s k hlt
        have hcb : s[k].toNat < 256 := s[k].toNat_lt
        by_cases hlo : s[k].toNat < 48
        · have HR := Lib.hid (show numGo most 0 s.data.toList = none by rw [HG.out, hd]; simp [numGo, hlo])
          clear hd
          go_wp2
          go_ret2
          exact ⟨by rw [HR.out]; rfl, rfl⟩
        · by_cases hhi : 57 < s[k].toNat
          · have HR := Lib.hid (show numGo most 0 s.data.toList = none by rw [HG.out, hd]; simp [numGo, hhi])
            clear hd
            go_wp2
            go_ret2
            exact ⟨by rw [HR.out]; rfl, rfl⟩
          · by_cases hbig : most < n * 10 + ((s[k].toNat : Int) - 48)
            · have HR := Lib.hid (show numGo most 0 s.data.toList = none by rw [HG.out, hd]; simp [numGo, hlo, hhi, hbig])
              clear hd
              go_wp2
              go_ret2
              exact ⟨by rw [HR.out]; rfl, rfl⟩
            · have HR := Lib.hid (show numGo most 0 s.data.toList = numGo most (n * 10 + ((s[k].toNat : Int) - 48)) (s.data.toList.drop (k + 1)) by rw [HG.out, hd]; simp [numGo, hlo, hhi, hbig])
              clear hd
              go_wp2
              go_round
              case rel => exact ⟨k + 1, n * 10 + ((s[k].toNat : Int) - 48), by omega, by omega, by omega, by go_num, by go_num, HR.out⟩
              case measure => simp [intOf]; omega
      · have hke : k = s.size := by omega
        have HR := Lib.hid (show numGo most 0 s.data.toList = some n by rw [HG.out, List.drop_eq_nil_of_le (by simp; omega)]; rfl)
        clear hke
        go_wp2
        go_ret2
        exact ⟨by rw [HR.out]; rfl, rfl⟩

theorem number_any (s : ByteArray) (most : Int) (w : World) (hs : s.size ≤ maxLen) (hm0 : 0 ≤ most) (hm1 : most ≤ 1000) :
    Calls Tryd.prog 29 #[.string s, .int .i64 most] w fun e w' => e = .returned (numV (numO most s.data.toList)) ∧ w' = w := by
  by_cases hz : s.size = 0
  · have hl : s.data.toList = [] := List.length_eq_zero_iff.1 (by rw [← Lib.size_eq]; exact hz)
    rw [hl]
    have e1 : s.toList = [] := by rw [Lib.toList_data, hl]
    have e2 : s.toList.isEmpty = true := by rw [e1]; rfl
    clear hl hz hs
    go_enter Tryd.func29, Tryd.ntmps29
    go_wp2
    go_ret2
    exact ⟨rfl, rfl⟩
  · have hpos : 0 < s.size := by omega
    have hd := drop_at s 0 hpos
    rw [List.drop_zero] at hd
    have he : s.toList.isEmpty = false := by rw [Lib.toList_data, hd]; rfl
    have hcb : s[0].toNat < 256 := s[0].toNat_lt
    by_cases hc : s[0] = 48 ∧ s.data.toList.drop 1 ≠ []
    · have e0 : numO most s.data.toList = none := by rw [hd]; simp only [numO, Nat.zero_add, if_pos hc]
      rw [e0]
      have h1 : ((s[0].toNat : Int) == 48) = true := by rw [hc.1]; rfl
      have h2 : (!s.toList == [48]) = true := by
        rw [Lib.toList_data, hd]
        simp only [Bool.not_eq_true', beq_eq_false_iff_ne, ne_eq, List.cons.injEq, not_and]
        exact fun _ => hc.2
      have he' : ¬ s.toList = [] := fun e => by rw [e] at he; cases he
      clear e0 hc hd hz hs
      go_enter Tryd.func29, Tryd.ntmps29
      go_wp2
      go_ret2
      exact ⟨rfl, rfl⟩
    · have e0 : numO most s.data.toList = numGo most 0 s.data.toList := by rw [hd]; simp only [numO, Nat.zero_add, if_neg hc]
      rw [e0]
      refine number_loop s most w hs hm0 hm1 hpos he _ _ rfl rfl ?_
      rw [Bool.eq_false_iff]
      intro hh
      simp only [Bool.and_eq_true, beq_iff_eq, Bool.not_eq_true', beq_eq_false_iff_ne] at hh
      refine hc ⟨UInt8.toNat_inj.1 (by have := hh.1; simp; omega), fun e => hh.2 ?_⟩
      rw [Lib.toList_data, hd, e, show s[0] = 48 from UInt8.toNat_inj.1 (by have := hh.1; simp; omega)]

theorem cutl_miss (s : ByteArray) (c : UInt8) (w : World) (h : Lib.indexByte s.data.toList c = -1) :
    Calls Tryd.prog 34 #[.string s, .string ⟨#[c]⟩] w fun e w' => e = .returned (.tuple #[.string s, .string ⟨#[]⟩, .bool false]) ∧ Below w.heap.size w w' := by
  have HI := Lib.hid fun W => Tryd.stringslite_Index_one s c W
  rw [h] at HI
  clear h
  go_enter Tryd.func34, Tryd.ntmps34
  go_wp2_with fail
  refine (HI.out _).mono ?_
  rintro e w1 ⟨rfl, rfl⟩
  go_wp2_with fail
  go_ret3
  exact ⟨rfl, Below.refl _ _⟩
theorem cutl_hit (s : ByteArray) (c : UInt8) (i : Nat) (w : World) (h : Lib.indexByte s.data.toList c = i) (hi : i < s.size) (hs : s.size ≤ maxLen) :
    Calls Tryd.prog 34 #[.string s, .string ⟨#[c]⟩] w fun e w' => e = .returned (.tuple #[.string (s.extract 0 i), .string (s.extract (i + 1) s.size), .bool true]) ∧ Below w.heap.size w w' := by
  have HI := Lib.hid fun W => Tryd.stringslite_Index_one s c W
  rw [h] at HI
  clear h
  unfold maxLen at hs
  go_enter Tryd.func34, Tryd.ntmps34
  go_wp2_with fail
  refine (HI.out _).mono ?_
  rintro e w1 ⟨rfl, rfl⟩
  go_wp2_with fail
  go_region
  go_wp2
  go_ret3
  exact ⟨rfl, (Below.refl _ _).drew⟩

theorem cut_miss (s : ByteArray) (c : UInt8) (w : World) (h : Lib.indexByte s.data.toList c = -1) :
    Calls Tryd.prog 28 #[.string s, .string ⟨#[c]⟩] w fun e w' => e = .returned (.tuple #[.string s, .string ⟨#[]⟩, .bool false]) ∧ Below w.heap.size w w' := by
  have HI := Lib.hid fun W => cutl_miss s c W h
  clear h
  go_enter Tryd.func28, Tryd.ntmps28
  go_wp2_with fail
  refine (HI.out _).mono ?_
  rintro e w1 ⟨rfl, hb⟩
  have HB := Lib.hid hb
  clear hb
  go_wp2_with fail
  go_ret3
  exact ⟨rfl, HB.out⟩
theorem cut_hit (s : ByteArray) (c : UInt8) (i : Nat) (w : World) (h : Lib.indexByte s.data.toList c = i) (hi : i < s.size) (hs : s.size ≤ maxLen) :
    Calls Tryd.prog 28 #[.string s, .string ⟨#[c]⟩] w fun e w' => e = .returned (.tuple #[.string (s.extract 0 i), .string (s.extract (i + 1) s.size), .bool true]) ∧ Below w.heap.size w w' := by
  have HI := Lib.hid fun W => cutl_hit s c i W h hi hs
  clear h
  go_enter Tryd.func28, Tryd.ntmps28
  go_wp2_with fail
  refine (HI.out _).mono ?_
  rintro e w1 ⟨rfl, hb⟩
  have HB := Lib.hid hb
  clear hb
  go_wp2_with fail
  go_ret3
  exact ⟨rfl, HB.out⟩

theorem numGo_bd (most : Int) : ∀ (l : List UInt8) (n m : Int), 0 ≤ n → n ≤ most → numGo most n l = some m → 0 ≤ m ∧ m ≤ most
  | [], n, m, h0, h1, h => by simp [numGo] at h; omega
  | c :: r, n, m, h0, h1, h => by
    unfold numGo at h
    split at h
    · cases h
    · split at h
      · cases h
      · exact numGo_bd most r _ m (by omega) (by omega) h
theorem numO_bd {most : Int} {l : List UInt8} {m : Int} (h0 : 0 ≤ most) (h : numO most l = some m) : 0 ≤ m ∧ m ≤ most := by
  cases l with
  | nil => cases h
  | cons c r =>
    simp only [numO] at h
    split at h
    · cases h
    · exact numGo_bd most _ 0 m (Int.le_refl _) h0 h

/-- What stands ahead of the first byte c, what behind it, and whether there is one. -/
def cutL (c : UInt8) (l : List UInt8) : List UInt8 × List UInt8 × Bool :=
  if Lib.indexByte l c = -1 then (l, [], false) else (l.take (Lib.indexByte l c).toNat, l.drop ((Lib.indexByte l c).toNat + 1), true)

/-- The rest of an address's numbers: r are left. -/
def parseGo : Nat → Int → List UInt8 → Option Int
  | 0, a, _ => some a
  | r + 1, a, l =>
    if (cutL 46 l).2.2 = decide (r ≠ 0) then
      match numO 255 (cutL 46 l).1 with
      | some n => parseGo r (a * 256 + n) (cutL 46 l).2.1
      | none => none
    else none

/-- The address of a text. -/
def parseO (l : List UInt8) : Option Int := parseGo 4 0 l

/-- What Parse returns. -/
def parseV : Option Int → Value
  | some n => .tuple #[.int .u32 n, .bool true]
  | none => .tuple #[.int .u32 0, .bool false]

theorem cut_cases (r : ByteArray) (c : UInt8) : (Lib.indexByte r.data.toList c = -1 ∧ cutL c r.data.toList = (r.data.toList, [], false)) ∨
    ∃ i : Nat, Lib.indexByte r.data.toList c = i ∧ i < r.size ∧ cutL c r.data.toList = ((r.extract 0 i).data.toList, (r.extract (i + 1) r.size).data.toList, true) := by
  by_cases h : Lib.indexByte r.data.toList c = -1
  · exact .inl ⟨h, by simp [cutL, h]⟩
  · have := Lib.indexByte_ge r.data.toList c
    obtain ⟨i, hi⟩ := Int.eq_ofNat_of_zero_le (show 0 ≤ Lib.indexByte r.data.toList c by omega)
    have hlt : i < r.size := by
      have := (Lib.indexByte_some hi).1
      rw [Lib.size_eq]
      exact (List.getElem?_eq_some_iff.1 this).1
    refine .inr ⟨i, hi, hlt, ?_⟩
    rw [cutL, if_neg h, hi, Int.toNat_natCast, Lib.extract_data, Lib.extract_data]
    simp only [List.drop_zero, Nat.sub_zero, Prod.mk.injEq, and_true, true_and]
    rw [List.take_of_length_le]
    rw [List.length_drop, Lib.size_eq]
    omega

theorem pow256 (k : Nat) (hk : k < 4) : (256 : Int) ^ k ≤ 16777216 := by
  have : k = 0 ∨ k = 1 ∨ k = 2 ∨ k = 3 := by omega
  rcases this with rfl | rfl | rfl | rfl <;> decide

theorem or_byte (a n : Int) (h0 : 0 ≤ a) (h1 : a < 16777216) (h2 : 0 ≤ n) (h3 : n ≤ 255) : bits .or .u32 (a * 256) n = a * 256 + n := by
  rw [u32_or _ _ (by omega) (by omega) (by omega) (by omega), nat_join 8 _ _ (by omega) (by omega)]
  omega

set_option maxHeartbeats 1000000 in
theorem parse_any (s : ByteArray) (w : World) (hs : s.size ≤ maxLen) :
    Calls Tryd.prog 11 #[.string s] w fun e w' => e = .returned (parseV (parseO s.data.toList)) ∧ Below w.heap.size w w' := by
  go_enter Tryd.func11, Tryd.ntmps11
  go_wp2
  go_loopw [4, 5, 13] (fun x y i W => ∃ (k : Nat) (a : Int) (r : ByteArray), k ≤ 4 ∧ 0 ≤ a ∧ a < 256 ^ k ∧ r.size ≤ maxLen ∧ i = .int .i64 k ∧ x = .int .u32 a ∧ y = .string r ∧ Hid (parseO s.data.toList = parseGo (4 - k) a r.data.toList) ∧ Below w.heap.size w W) (fun _ _ i _ => 4 - (intOf i).toNat)
  case atStart => exact ⟨0, 0, s, by omega, by omega, by decide, hs, rfl, rfl, rfl, rfl, Below.refl _ _⟩
  case round =>
    obtain ⟨k, a, r, hk, ha0, ha1, hr, rfl, rfl, rfl, HG, hbw⟩ := hrel
    have HW := Lib.hid hbw
    clear hbw
    by_cases hlt : k < 4
    · have ha3 : a < 16777216 := Int.lt_of_lt_of_le ha1 (pow256 k hlt)
      have HA := Lib.hid ha1
      clear ha1
      obtain ⟨q, hq⟩ : ∃ q, 4 - k = q + 1 := ⟨3 - k, by omega⟩
      rw [hq] at HG
      have hqk : q = 3 - k := by omega
      rcases cut_cases r 46 with ⟨hx, hL⟩ | ⟨i, hx, hi, hL⟩
      · have HC := Lib.hid fun W => cut_miss r 46 W hx
        clear hx
        by_cases h3 : k < 3
        · have HR := Lib.hid (show parseO s.data.toList = none by rw [HG.out]; simp only [parseGo, hL]; rw [if_neg]; simp; omega)
          have h3' : decide ((k : Int) < 3) = true := by simp; omega
          clear hL hq hqk
          go_wp2_with fail
          refine (HC.out _).mono ?_
          rintro e w1 ⟨rfl, hb⟩
          have HB := Lib.hid hb
          clear hb
          go_wp2_with fail
          go_ret2
          exact ⟨by rw [HR.out]; rfl, HW.out.trans (HB.out.mono HW.out.size)⟩
        · have h3' : decide ((k : Int) < 3) = false := by simp; omega
          have HN := Lib.hid fun W => number_any r 255 W hr (by decide) (by decide)
          cases hO : numO 255 r.data.toList with
          | none =>
            rw [hO] at HN
            have HR := Lib.hid (show parseO s.data.toList = none by rw [HG.out]; simp only [parseGo, hL, hO]; simp)
            clear hL hq hqk hO
            go_wp2_with fail
            refine (HC.out _).mono ?_
            rintro e w1 ⟨rfl, hb⟩
            have HB := Lib.hid hb
            clear hb
            go_wp2_with fail
            refine (HN.out _).mono ?_
            rintro e w2 ⟨rfl, rfl⟩
            simp only [numV]
            go_wp2_with fail
            go_ret2
            exact ⟨by rw [HR.out]; rfl, HW.out.trans (HB.out.mono HW.out.size)⟩
          | some n =>
            rw [hO] at HN
            obtain ⟨hn0, hn1⟩ := numO_bd (by decide) hO
            have HR := Lib.hid (show parseO s.data.toList = parseGo q (a * 256 + n) [] by rw [HG.out]; simp only [parseGo, hL, hO]; rw [if_pos]; simp; omega)
            have HQ := Lib.hid hqk
            have HV := Lib.hid (or_byte a n ha0 ha3 hn0 hn1)
            clear hL hq hqk hO
            go_wp2_with fail
            refine (HC.out _).mono ?_
            rintro e w1 ⟨rfl, hb⟩
            have HB := Lib.hid hb
            clear hb
            go_wp2_with fail
            refine (HN.out _).mono ?_
            rintro e w2 ⟨rfl, rfl⟩
            simp only [numV]
            go_wp2_with fail
            rw [HV.out]
            exact ⟨⟨k + 1, a * 256 + n, ⟨#[]⟩, by omega, by omega, by have := HA.out; rw [Int.pow_succ]; omega, Nat.zero_le _, by go_num, rfl, rfl, by rw [show 4 - (k + 1) = q from by have := HQ.out; omega]; exact HR.out, HW.out.trans (HB.out.mono HW.out.size)⟩, by simp [intOf]; omega⟩
      · have HC := Lib.hid fun W => cut_hit r 46 i W hx hi hr
        have hp : (r.extract 0 i).size ≤ maxLen := by rw [ByteArray.size_extract]; omega
        have HP2 := Lib.hid (show (r.extract (i + 1) r.size).size ≤ maxLen by rw [ByteArray.size_extract]; omega)
        clear hx
        by_cases h3 : k < 3
        · have h3' : decide ((k : Int) < 3) = true := by simp; omega
          have HN := Lib.hid fun W => number_any (r.extract 0 i) 255 W hp (by decide) (by decide)
          clear hp
          cases hO : numO 255 (r.extract 0 i).data.toList with
          | none =>
            rw [hO] at HN
            have HR := Lib.hid (show parseO s.data.toList = none by rw [HG.out]; simp only [parseGo, hL, hO]; simp)
            clear hL hq hqk hO
            go_wp2_with fail
            refine (HC.out _).mono ?_
            rintro e w1 ⟨rfl, hb⟩
            have HB := Lib.hid hb
            clear hb
            go_wp2_with fail
            refine (HN.out _).mono ?_
            rintro e w2 ⟨rfl, rfl⟩
            simp only [numV]
            go_wp2_with fail
            go_ret2
            exact ⟨by rw [HR.out]; rfl, HW.out.trans (HB.out.mono HW.out.size)⟩
          | some n =>
            rw [hO] at HN
            obtain ⟨hn0, hn1⟩ := numO_bd (by decide) hO
            have HR := Lib.hid (show parseO s.data.toList = parseGo q (a * 256 + n) (r.extract (i + 1) r.size).data.toList by rw [HG.out]; simp only [parseGo, hL, hO]; rw [if_pos]; simp; omega)
            have HQ := Lib.hid hqk
            have HV := Lib.hid (or_byte a n ha0 ha3 hn0 hn1)
            clear hL hq hqk hO
            go_wp2_with fail
            refine (HC.out _).mono ?_
            rintro e w1 ⟨rfl, hb⟩
            have HB := Lib.hid hb
            clear hb
            go_wp2_with fail
            refine (HN.out _).mono ?_
            rintro e w2 ⟨rfl, rfl⟩
            simp only [numV]
            go_wp2_with fail
            rw [HV.out]
            exact ⟨⟨k + 1, a * 256 + n, r.extract (i + 1) r.size, by omega, by omega, by have := HA.out; rw [Int.pow_succ]; omega, HP2.out, by go_num, rfl, rfl, by rw [show 4 - (k + 1) = q from by have := HQ.out; omega]; exact HR.out, HW.out.trans (HB.out.mono HW.out.size)⟩, by simp [intOf]; omega⟩
        · have h3' : decide ((k : Int) < 3) = false := by simp; omega
          have HR := Lib.hid (show parseO s.data.toList = none by rw [HG.out]; simp only [parseGo, hL]; rw [if_neg]; simp; omega)
          clear hL hq hqk
          go_wp2_with fail
          refine (HC.out _).mono ?_
          rintro e w1 ⟨rfl, hb⟩
          have HB := Lib.hid hb
          clear hb
          go_wp2_with fail
          go_ret2
          exact ⟨by rw [HR.out]; rfl, HW.out.trans (HB.out.mono HW.out.size)⟩
    · have hk4 : k = 4 := by omega
      have HR := Lib.hid (show parseO s.data.toList = some a by rw [HG.out, hk4]; rfl)
      clear hk4
      go_wp2_with fail
      go_ret2
      exact ⟨by rw [HR.out]; rfl, HW.out⟩
end Go.Proofs.YtcbknlbpdlheeaaDoor
