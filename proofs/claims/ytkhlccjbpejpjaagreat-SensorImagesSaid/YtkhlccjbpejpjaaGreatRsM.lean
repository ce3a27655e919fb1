import Derived.Test.YtkhlccjbpejpjaaGreatRsFc
import Derived.Test.YtkhlccjbpejpjaaGreatA4
set_option linter.unusedVariables false
set_option linter.unusedSimpArgs false

namespace Go.Vm.Mo
open Go
set_option linter.unusedVariables false
set_option linter.unusedSimpArgs false

theorem first_map (bad : Nat → Bool) : ∀ (n i : Nat), first bad n (i + 1) = (first (fun k => bad (k + 1)) n i).map (· + 1)
  | 0, _ => rfl
  | n + 1, i => by
    simp only [first]
    split
    · rfl
    · exact first_map bad n (i + 1)

/-- The first that is not 0. -/
def firstNZ : List Int → Int
  | [] => 0
  | a :: l => if a = 0 then firstNZ l else a

theorem firstNZ_eq : ∀ l : List Int, (match first (fun i => !decide (l.getD i 0 = 0)) l.length 0 with
    | some k => l.getD k 0
    | none => 0) = firstNZ l
  | [] => rfl
  | a :: l => by
    simp only [List.length, first, firstNZ]
    by_cases ha : a = 0
    · subst ha
      have e := firstNZ_eq l
      have hf : first (fun i => !decide (((0 : Int) :: l).getD i 0 = 0)) l.length (0 + 1) = (first (fun i => !decide (l.getD i 0 = 0)) l.length 0).map (· + 1) := by
        rw [first_map]; rfl
      simp only [hf, List.getD_cons_zero, decide_true, Bool.not_true, Bool.false_eq_true, if_false, if_true]
      rw [← e]
      cases first (fun i => !decide (l.getD i 0 = 0)) l.length 0 with
      | none => rfl
      | some k => rfl
    · simp [ha]

theorem l48 (l : List Int) (h : l.length ≤ 1000000000) : l48_0 ((l, (l.length : Int), (0 : Int), ()), ()) = match first (fun i => !decide (l.getD i 0 = 0)) l.length 0 with
    | some k => some (.inr ((l.getD k 0, ()), ()))
    | none => some (.inl ((), ())) := by
  refine itr_search (fun i => ((l, (l.length : Int), (i : Int), ()), ())) (fun i => !decide (l.getD i 0 = 0)) (fun k => ((l.getD k 0, ()), ())) (n := l.length) ?_ ?_ (lt_rounds (by omega))
  · intro i hi
    simp only [s48_0, t48_0, Tr.val_test, leF_eq, eqF_eq]
    rw [if_pos (by simp; omega), if_pos (by simp; omega)]
    simp only [Int.toNat_natCast, wrap64_nat (show i ≤ 9223372036854775806 by omega)]
    rfl
  · simp [s48_0, t48_0, leF_eq]

theorem f48_eq (l : List Int) (h : l.length ≤ 1000000000) : f48 (l, ()) = some (firstNZ l, ()) := by
  simp only [f48, t48, Tr.val_test, r48_0, l48 l h, ← firstNZ_eq l]
  cases first (fun i => !decide (l.getD i 0 = 0)) l.length 0 with
  | none => rfl
  | some k => rfl

theorem f62_eq (d : Tys.data as62) : f62 d = some (if d.1 = true then d.2.1 else (0 : Int), ()) := by
  simp only [f62, t62, Tr.val_test]
  split <;> rfl

def wi (lo hi x : Int) : Bool := decide (lo ≤ x) && decide (x ≤ hi)

theorem wi_iff {lo hi x : Int} : wi lo hi x = true ↔ lo ≤ x ∧ x ≤ hi := by simp [wi]

theorem f20_eq (d : Tys.data as20) : f20 d = some (wi d.2.1 d.2.2.1 d.1, ()) := by
  simp only [f20, t20, Tr.val_test, Tr.val_fin, leF_eq, decide_eq_true_eq, wi]
  split <;> simp [*]

theorem l66 (lo hi : Int) (l : List Int) (h : l.length ≤ 1000000000) : l66_0 ((lo, hi, l, (l.length : Int), (0 : Int), ()), ()) = match first (fun i => !wi lo hi (l.getD i 0)) l.length 0 with
    | some _ => some (.inr ((false, ()), ()))
    | none => some (.inl ((), ())) := by
  refine itr_search (fun i => ((lo, hi, l, (l.length : Int), (i : Int), ()), ())) (fun i => !wi lo hi (l.getD i 0)) (fun _ => ((false, ()), ())) (n := l.length) ?_ ?_ (lt_rounds (by omega))
  · intro i hi'
    simp only [s66_0, t66_0, Tr.val_test, Tr.val_fin, leF_eq, Int.toNat_natCast, wrap64_nat (show i ≤ 9223372036854775806 by omega)]
    rw [if_pos (by simp; omega), if_pos (by simp; omega)]
    by_cases a0 : lo ≤ l.getD i 0
    · by_cases a1 : l.getD i 0 ≤ hi
      · simp only [wi, a0, a1, decide_true, Bool.and_self, Bool.not_true, if_true, if_false, Bool.false_eq_true]
      · simp only [wi, a0, a1, decide_true, decide_false, Bool.and_false, Bool.not_false, Bool.not_true, if_true, if_false, Bool.false_eq_true]
    · simp only [wi, a0, decide_false, Bool.false_and, Bool.not_false, if_true, if_false, Bool.false_eq_true]
  · simp [s66_0, t66_0, leF_eq]

theorem f66_eq (lo hi : Int) (l : List Int) (h : l.length ≤ 1000000000) : f66 (lo, hi, l, ()) = some ((first (fun i => !wi lo hi (l.getD i 0)) l.length 0).isNone, ()) := by
  have hl := l66 lo hi l h
  cases hf : first (fun i => !wi lo hi (l.getD i 0)) l.length 0 with
  | none =>
    rw [hf] at hl
    simp only [f66, t66, Tr.val_test, Tr.val_fin, hl, isRet, Option.isSome_some, Option.isNone_none, if_true, Bool.false_eq_true, if_false]
  | some k =>
    rw [hf] at hl
    simp only [f66, t66, Tr.val_test, Tr.val_fin, hl, isRet, r66_0, outR, Option.isSome_some, Option.isNone_some, if_true]

theorem f23_eq (l : List Int) (h : l.length ≤ 1000) : f23 (l, ()) = some (l, ()) := by
  simp only [f23, t23, Tr.val_test, Tr.val_fin, Tr.val_stop, List.nil_append]
  by_cases h0 : l.length = 0
  · have : l = [] := List.eq_nil_of_length_eq_zero h0
    subst this; rfl
  · rw [if_neg (by rw [beq_eq_true']; exact h0), if_neg (by rw [ble_eq_true']; omega), if_pos (by simp only [Bool.and_eq_true, ble_eq_true']; omega), if_pos (by rw [beq_eq_true']; omega)]

theorem wn64 {x : Int} (h1 : -9223372036854775807 ≤ x) (h2 : x ≤ 9223372036854775807) : IntKind.wrap .i64 (0 - x) = -x := by
  rw [← wrap64_eq, wrap64_id (by omega) (by omega)]
  omega

/-! Channels. -/

abbrev ch (c : List (List Int)) (i : Nat) : List Int := c.getD i []

theorem f48_two (a b : Int) : f48 ([a, b], ()) = some (if a = 0 then b else a, ()) := by
  rw [f48_eq _ (by simp)]
  simp only [firstNZ]
  by_cases h : a = 0
  · by_cases h2 : b = 0
    · simp [h, h2]
    · simp [h, h2]
  · simp [h]

/-! Copies; how many samples. -/

theorem copy_len (c : List (List Int)) (i : Nat) : (c.take i).length ≤ i := by simp; omega

theorem take_ch (c : List (List Int)) {i : Nat} (h : i < c.length) : c.take (i + 1) = c.take i ++ [ch c i] := by
  rw [List.take_succ_eq_append_getElem h]
  simp [ch, List.getD, h]

theorem l29 (c : List (List Int)) (h : c.length ≤ 1000) (hc : ∀ i, (ch c i).length ≤ 1000) : l29_0 ((c, [], (0 : Int), ()), ()) = some (.inl ((c, ()), ())) := by
  have := itr_brk (step := s29_0) (fun i => ((c, c.take i, (i : Int), ()), ())) (n := c.length) (m := rounds) (b := ((c, ()), ())) ?_ ?_ (lt_rounds (by omega))
  · exact this
  · intro i hi
    have e1 := f23_eq (ch c i) (hc i)
    simp only [ch] at e1
    simp only [s29_0, t29_0, Tr.val_test, Tr.val_fin, Tr.val_stop, leF_eq, Int.toNat_natCast, wrap64_nat (show i ≤ 9223372036854775806 by omega)]
    rw [if_pos (by simp; omega), if_pos (by simp; omega)]
    simp only [g23, e1, Option.isSome_some, Option.getD_some, if_true]
    have hl := copy_len c i
    rw [if_pos (by simp only [Bool.and_eq_true, ble_eq_true']; omega), take_ch c hi]
  · simp [s29_0, t29_0, leF_eq]

theorem f29_eq (c : List (List Int)) (h : c.length ≤ 1000) (hc : ∀ i, (ch c i).length ≤ 1000) : f29 (c, ()) = some (c, ()) := by
  simp only [f29, t29, Tr.val_test, Tr.val_fin, Tr.val_stop, l29 c h hc, isBrk, b29_0, outB, if_true]

def fitF (c : List (List Int)) : Option Nat := first (fun i => !decide (((ch c i).length : Int) ≤ 62)) c.length 0

def fits (c : List (List Int)) : Bool := (fitF c).isNone && decide ((c.length : Int) ≤ 9)

theorem wrapJ {n : Int} (h1 : -9223372036854775808 ≤ n) (h2 : n ≤ 9223372036854775807) : IntKind.wrap .i64 n = n := by rw [← wrap64_eq, wrap64_id h1 h2]

theorem f21_abs (x : Int) (h : x.natAbs ≤ 9223372036854775807) : f21 (x, ()) = some ((x.natAbs : Int), ()) := by
  simp only [f21, t21, Tr.val_fin]
  rw [wrapJ (by omega) (by omega)]
  have e : (if x < 0 - x then 0 - x else x) = (x.natAbs : Int) := by split <;> omega
  rw [e]

theorem l122 (l : List Int) (h : l.length ≤ 1000000000) : l122_0 ((l, (l.length : Int), ()), ()) = some (.inl ((l, (trimN l l.length : Int), ()), ())) := by
  have hle := trimN_le l l.length
  refine itr_brk (fun i => ((l, ((l.length - i : Nat) : Int), ()), ())) (n := l.length - trimN l l.length) ?_ ?_ (lt_rounds (by omega))
  · intro i hi
    have h0 := trimN_zero l l.length (l.length - i - 1) (by omega) (by omega)
    have e : wrap64 (((l.length - i : Nat) : Int) - 1) = ((l.length - i - 1 : Nat) : Int) := by rw [wrap64_id (by omega) (by omega)]; omega
    simp only [s122_0, t122_0, Tr.val_test, Tr.val_fin, leF_eq, eqF_eq, e, Int.toNat_natCast, h0]
    rw [if_pos (by simp <;> omega), if_pos (by simp <;> omega), if_pos (by simp)]
    rfl
  · have e0 : l.length - (l.length - trimN l l.length) = trimN l l.length := by omega
    dsimp only
    rw [e0]
    cases hk : trimN l l.length with
    | zero => simp [s122_0, t122_0, leF_eq]
    | succ m =>
      have h0 := trimN_last l l.length m hk
      have e : wrap64 (((m + 1 : Nat) : Int) - 1) = ((m : Nat) : Int) := by rw [wrap64_id (by omega) (by omega)]; omega
      simp only [s122_0, t122_0, Tr.val_test, Tr.val_fin, leF_eq, eqF_eq, e, Int.toNat_natCast]
      rw [if_pos (by simp <;> omega), if_pos (by simp <;> omega), if_neg (by simpa using h0)]

theorem f122_eq (l : List Int) (h : l.length ≤ 1000000000) (hd : Dg l) : f122 (l, ()) = some (dig (dval l).toNat, ()) := by
  have hle := trimN_le l l.length
  simp only [f122, t122, b122_0, l122 l h, Tr.val_test, Tr.val_fin, isBrk, if_true, outB, Int.toNat_natCast]
  rw [if_pos (by simp <;> omega), trim_dig hd]

/-- A number out of its sign and its size. -/
def mkN (s n : Int) : Int × List Int × PUnit := if n = 0 then (0, [], ()) else (s, dig n.toNat, ())

theorem f100_eq (s : Int) (l : List Int) (h : l.length ≤ 1000000000) (hd : Dg l) : f100 (s, l, ()) = some (mkN s (dval l), ()) := by
  have h0 := dv_nonneg hd
  simp only [f100, t100, g122, f122_eq l h hd, Option.isSome_some, Option.getD_some, Tr.val_test, Tr.val_fin, eqF_eq, if_true, mkN]
  by_cases e : dval l = 0
  · rw [if_pos (by rw [e]; simp [dig_zero]), if_pos e, e]
    simp [dig_zero]
  · rw [if_neg e, if_neg]
    intro h2
    simp only [decide_eq_true_eq] at h2
    have h3 : (dig (dval l).toNat).length = 0 := by omega
    have := dig_nil.1 (List.eq_nil_of_length_eq_zero h3)
    omega

theorem mkN_enc {s z : Int} (h : z ≠ 0 → s = z.sign) : mkN s z.natAbs = enc z := by
  unfold mkN enc
  by_cases e : z = 0
  · subst e; simp [dig_zero]
  · rw [if_neg (by omega), h e]; simp

theorem f131_eq (l : List Int) (i : Nat) : f131 (l, (i : Int), ()) = some (l.getD i 0, ()) := by
  simp only [f131, t131, Tr.val_test, Tr.val_fin, leF_eq]
  by_cases h : i < l.length
  · rw [if_pos (by simp <;> omega), if_pos (by simp <;> omega)]; simp
  · rw [if_neg (by simp <;> omega)]
    simp [List.getD, List.getElem?_eq_none (Nat.le_of_not_lt h)]

theorem it98 (s b : Int) : ∀ (k : Nat) (x : Int) (acc : List Int) (m : Nat), (x.natAbs : Int) < pw k → x.natAbs ≤ 9223372036854775807 → acc.length + k ≤ 1000000 → k < m →
    itr s98_0 m ((x, s, acc, ()), ((b, ()), ())) = some (.inl ((s, acc ++ dig x.natAbs, ()), ((b, ()), ())))
  | 0, x, acc, m, h1, _, _, hm => by
    have : x = 0 := by simp only [pw] at h1; omega
    subst this
    obtain ⟨m, rfl⟩ : ∃ j, m = j + 1 := ⟨m - 1, by omega⟩
    simp [itr, s98_0, t98_0, eqF_eq, dig_zero]
  | k + 1, x, acc, m, h1, h2, h3, hm => by
    obtain ⟨m, rfl⟩ : ∃ j, m = j + 1 := ⟨m - 1, by omega⟩
    by_cases hx : x = 0
    · subst hx
      simp [itr, s98_0, t98_0, eqF_eq, dig_zero]
    · have e1 : (Int.tmod x 1000000000).natAbs = x.natAbs % 1000000000 := by rw [Int.natAbs_tmod]; rfl
      have e2 : (Int.tdiv x 1000000000).natAbs = x.natAbs / 1000000000 := by rw [Int.natAbs_tdiv]; rfl
      have e3 : IntKind.wrap .i64 (Int.tdiv x 1000000000) = Int.tdiv x 1000000000 := wrapJ (by omega) (by omega)
      have st : s98_0 ((x, s, acc, ()), ((b, ()), ())) = some (.again ((Int.tdiv x 1000000000, s, acc ++ [((x.natAbs % 1000000000 : Nat) : Int)], ()), ((b, ()), ()))) := by
        simp only [s98_0, t98_0, g21, f21_abs (Int.tmod x 1000000000) (by omega), Option.isSome_some, Option.getD_some, Tr.val_test, Tr.val_fin, eqF_eq, e3, e1, if_true]
        rw [if_pos (by simpa using hx), if_pos (by simp <;> omega)]
      simp only [pw] at h1
      rw [itr, st]
      dsimp only
      rw [it98 s b k (Int.tdiv x 1000000000) _ m (by omega) (by omega) (by simp <;> omega) (by omega), dig_pos (show x.natAbs ≠ 0 by omega), e2]
      simp

theorem f98_eq (x : Int) (h : x.natAbs ≤ 9223372036854775807) : f98 (x, ()) = some (enc x, ()) := by
  have hl : ∀ s : Int, l98_0 ((x, s, [], ()), (((0 : Int), ()), ())) = some (.inl ((s, dig x.natAbs, ()), (((0 : Int), ()), ()))) := fun s => by
    have := it98 s 0 3 x [] rounds (by simp only [pw]; omega) h (by simp) (lt_rounds (by omega))
    simpa [l98_0] using this
  have hg : (dig x.natAbs).length ≤ 3 := dig_len (by simp only [pw]; omega)
  have e := dig_dv x.natAbs
  simp only [f98, t98, b98_0, hl, g100, f100_eq _ (dig x.natAbs) (by omega) (dig_Dg _), e, Option.isSome_some, Option.getD_some, Tr.val_test, Tr.val_fin, isBrk, outB, if_true, leF_eq]
  by_cases hx : 0 ≤ x
  · rw [if_neg (by simp <;> omega)]
    have : mkN 1 (x.natAbs : Int) = enc x := mkN_enc fun h => by rw [Int.sign_eq_one_of_pos (by omega)]
    rw [this]
  · rw [if_pos (by simp <;> omega)]
    have : mkN (-1) (x.natAbs : Int) = enc x := mkN_enc fun h => by rw [Int.sign_eq_neg_one_of_neg (by omega)]
    rw [this]

/-- Carries and digits of a sum. -/
def cA (a b : List Int) : Nat → Int
  | 0 => 0
  | i + 1 => (a.getD i 0 + b.getD i 0 + cA a b i) / 1000000000

def oA (a b : List Int) : Nat → List Int
  | 0 => []
  | i + 1 => oA a b i ++ [(a.getD i 0 + b.getD i 0 + cA a b i) % 1000000000]

theorem cA_le {a b : List Int} (ha : Dg a) (hb : Dg b) : ∀ i, 0 ≤ cA a b i ∧ cA a b i ≤ 1
  | 0 => by simp [cA]
  | i + 1 => by
    have := cA_le ha hb i; have := ha.getD i; have := hb.getD i
    simp only [cA]; omega

theorem oA_len (a b : List Int) : ∀ i, (oA a b i).length = i
  | 0 => rfl
  | i + 1 => by simp [oA, oA_len a b i]

theorem oA_Dg (a b : List Int) : ∀ i, Dg (oA a b i)
  | 0 => Dg.nil
  | i + 1 => (oA_Dg a b i).push (by omega) (by omega)

theorem oA_dv (a b : List Int) : ∀ i, dval (oA a b i) + pw i * cA a b i = dval (a.take i) + dval (b.take i)
  | 0 => by simp [oA, cA, dval, pw]
  | i + 1 => by
    have ih := oA_dv a b i
    rw [oA, dv_push, oA_len, dv_take, dv_take, cA, pw]
    generalize hs : a.getD i 0 + b.getD i 0 + cA a b i = s at *
    have e : s % 1000000000 = s - 1000000000 * (s / 1000000000) := by omega
    have e2 : pw i * (s % 1000000000) + 1000000000 * pw i * (s / 1000000000) = pw i * s := by
      rw [e, Int.mul_sub, Int.mul_comm 1000000000 (pw i), Int.mul_assoc]; omega
    have e3 : pw i * s = pw i * a.getD i 0 + pw i * b.getD i 0 + pw i * cA a b i := by rw [← hs, Int.mul_add, Int.mul_add]
    omega

/-- How many digits a sum has. -/
def nA (a b : List Int) : Nat := if cA a b (max a.length b.length) = 0 then max a.length b.length else max a.length b.length + 1

theorem cA_end {a b : List Int} (ha : Dg a) (hb : Dg b) : cA a b (nA a b) = 0 := by
  unfold nA
  split
  · assumption
  · have := cA_le ha hb (max a.length b.length)
    have e1 : a.getD (max a.length b.length) 0 = 0 := by simp [List.getD, List.getElem?_eq_none (Nat.le_max_left a.length b.length)]
    have e2 : b.getD (max a.length b.length) 0 = 0 := by simp [List.getD, List.getElem?_eq_none (Nat.le_max_right a.length b.length)]
    simp only [cA, e1, e2]; omega

theorem s118_again {a b : List Int} (ha : Dg a) (hb : Dg b) {i : Nat} (hl : i ≤ 1000000) (h : i < a.length ∨ i < b.length ∨ 0 < cA a b i) :
    s118_0 ((a, b, oA a b i, cA a b i, (i : Int), ()), ()) = some (.again ((a, b, oA a b (i + 1), cA a b (i + 1), ((i + 1 : Nat) : Int), ()), ())) := by
  have h1 := cA_le ha hb i; have h2 := ha.getD i; have h3 := hb.getD i
  have e1 : wrap64 (wrap64 (a.getD i 0 + b.getD i 0) + cA a b i) = a.getD i 0 + b.getD i 0 + cA a b i := by
    rw [wrap64_id (n := a.getD i 0 + b.getD i 0) (by omega) (by omega), wrap64_id (by omega) (by omega)]
  have e2 : IntKind.wrap .i64 (Int.tdiv (a.getD i 0 + b.getD i 0 + cA a b i) 1000000000) = cA a b (i + 1) := by
    rw [Int.tdiv_eq_ediv_of_nonneg (by omega), wrapJ (by omega) (by omega), cA]
  have e3 : Int.tmod (a.getD i 0 + b.getD i 0 + cA a b i) 1000000000 = (a.getD i 0 + b.getD i 0 + cA a b i) % 1000000000 := Int.tmod_eq_emod_of_nonneg (by omega)
  have e4 : wrap64 ((i : Int) + 1) = ((i + 1 : Nat) : Int) := wrap64_nat (by omega)
  have e5 : (Nat.ble ((2 * ((oA a b i).length + 1) + 192) * 8) 281474976710656 && Nat.ble ((oA a b i).length + 1) 281474976710656) = true := by
    rw [oA_len]; simp; omega
  simp only [s118_0, t118_0, g131, f131_eq a i, f131_eq b i, Option.isSome_some, Option.getD_some, Tr.val_test, Tr.val_fin, leF_eq, if_true, e1, e2, e3, e4, e5]
  by_cases c1 : i < a.length
  · rw [if_pos (by simp <;> omega)]; rfl
  · rw [if_neg (by simp <;> omega)]
    by_cases c2 : i < b.length
    · rw [if_pos (by simp <;> omega)]; rfl
    · rw [if_neg (by simp <;> omega), if_pos (by simp <;> omega)]; rfl

theorem f118_eq (a b : List Int) (ha : Dg a) (hb : Dg b) (h1 : a.length ≤ 100000) (h2 : b.length ≤ 100000) : f118 (a, b, ()) = some (oA a b (nA a b), ()) := by
  have hn : nA a b ≤ max a.length b.length + 1 := by unfold nA; split <;> omega
  have hl : l118_0 ((a, b, [], (0 : Int), (0 : Int), ()), ()) = some (.inl ((oA a b (nA a b), ()), ())) := by
    refine itr_brk (fun i => ((a, b, oA a b i, cA a b i, (i : Int), ()), ())) (n := nA a b) ?_ ?_ (lt_rounds (by omega))
    · intro i hi
      refine s118_again ha hb (by omega) ?_
      have := cA_le ha hb i
      unfold nA at hi
      split at hi
      · omega
      · rename_i hc
        by_cases e : i = max a.length b.length
        · rw [← e] at hc; omega
        · omega
    · have hc := cA_end ha hb
      have hm : max a.length b.length ≤ nA a b := by unfold nA; split <;> omega
      simp only [s118_0, t118_0, Tr.val_test, Tr.val_fin, leF_eq, hc]
      rw [if_neg (by simp <;> omega), if_neg (by simp <;> omega), if_neg (by simp)]
  simp only [f118, t118, b118_0, hl, Tr.val_test, Tr.val_fin, isBrk, if_true, outB]

theorem oA_sum {a b : List Int} (ha : Dg a) (hb : Dg b) : dval (oA a b (nA a b)) = dval a + dval b := by
  have h := oA_dv a b (nA a b)
  have hm : max a.length b.length ≤ nA a b := by unfold nA; split <;> omega
  rw [cA_end ha hb, dv_take_all a (by omega), dv_take_all b (by omega)] at h
  omega

/-- Borrows and digits of a difference. -/
def cS (a b : List Int) : Nat → Int
  | 0 => 0
  | i + 1 => if a.getD i 0 - b.getD i 0 - cS a b i < 0 then 1 else 0

def oS (a b : List Int) : Nat → List Int
  | 0 => []
  | i + 1 => oS a b i ++ [if a.getD i 0 - b.getD i 0 - cS a b i < 0 then a.getD i 0 - b.getD i 0 - cS a b i + 1000000000 else a.getD i 0 - b.getD i 0 - cS a b i]

theorem cS_le (a b : List Int) : ∀ i, 0 ≤ cS a b i ∧ cS a b i ≤ 1
  | 0 => by simp [cS]
  | i + 1 => by simp only [cS]; split <;> omega

theorem oS_len (a b : List Int) : ∀ i, (oS a b i).length = i
  | 0 => rfl
  | i + 1 => by simp [oS, oS_len a b i]

theorem oS_Dg {a b : List Int} (ha : Dg a) (hb : Dg b) : ∀ i, Dg (oS a b i)
  | 0 => Dg.nil
  | i + 1 => by
    have := cS_le a b i; have := ha.getD i; have := hb.getD i
    exact (oS_Dg ha hb i).push (by split <;> omega) (by split <;> omega)

theorem oS_dv (a b : List Int) : ∀ i, dval (oS a b i) - pw i * cS a b i = dval (a.take i) - dval (b.take i)
  | 0 => by simp [oS, cS, dval, pw]
  | i + 1 => by
    have ih := oS_dv a b i
    rw [oS, dv_push, oS_len, dv_take, dv_take, cS, pw]
    generalize hs : a.getD i 0 - b.getD i 0 - cS a b i = s at *
    have e3 : pw i * s = pw i * a.getD i 0 - pw i * b.getD i 0 - pw i * cS a b i := by rw [← hs, Int.mul_sub, Int.mul_sub]
    by_cases h : s < 0
    · rw [if_pos h, if_pos h, Int.mul_add]; omega
    · rw [if_neg h, if_neg h]; omega

theorem f120_eq (a b : List Int) (ha : Dg a) (hb : Dg b) (h1 : a.length ≤ 1000000) (h2 : b.length ≤ a.length) (h3 : dval b ≤ dval a) : f120 (a, b, ()) = some (dig (dval a - dval b).toNat, ()) := by
  have hl : l120_0 ((a, b, [], (0 : Int), (0 : Int), ()), ()) = some (.inl ((oS a b a.length, ()), ())) := by
    refine itr_brk (fun i => ((a, b, oS a b i, cS a b i, (i : Int), ()), ())) (n := a.length) ?_ ?_ (lt_rounds (by omega))
    · intro i hi
      have h1 := cS_le a b i; have h2 := ha.getD i; have h3 := hb.getD i
      have e0 : wrap64 (a.getD i 0 - b.getD i 0) = a.getD i 0 - b.getD i 0 := wrap64_id (by omega) (by omega)
      have e1 : wrap64 (wrap64 (a.getD i 0 - b.getD i 0) - cS a b i) = a.getD i 0 - b.getD i 0 - cS a b i := by
        rw [e0, wrap64_id (by omega) (by omega)]
      have e2 : wrap64 (a.getD i 0 - b.getD i 0 - cS a b i + 1000000000) = a.getD i 0 - b.getD i 0 - cS a b i + 1000000000 := wrap64_id (by omega) (by omega)
      have e4 : wrap64 ((i : Int) + 1) = ((i + 1 : Nat) : Int) := wrap64_nat (by omega)
      have e5 : (Nat.ble ((2 * ((oS a b i).length + 1) + 192) * 8) 281474976710656 && Nat.ble ((oS a b i).length + 1) 281474976710656) = true := by
        rw [oS_len]; simp; omega
      simp only [s120_0, t120_0, g131, f131_eq b i, Option.isSome_some, Option.getD_some, Tr.val_test, Tr.val_fin, leF_eq, if_true, e1, e2, e4, e5, Int.toNat_natCast, oS, cS]
      rw [if_pos (by simp <;> omega), if_pos (by simp <;> omega)]
      by_cases h : a.getD i 0 - b.getD i 0 - cS a b i < 0
      · rw [if_pos (by simp only [Bool.not_eq_true', decide_eq_false_iff_not]; omega), if_pos h, if_pos h]
      · rw [if_neg (by simp only [Bool.not_eq_true', decide_eq_false_iff_not]; omega), if_neg h, if_neg h]
    · simp [s120_0, t120_0, leF_eq]
  have hd := oS_Dg ha hb a.length
  have hv := oS_dv a b a.length
  rw [dv_take_all a (Nat.le_refl _), dv_take_all b h2] at hv
  have hlt := dv_lt hd
  rw [oS_len] at hlt
  have hc := cS_le a b a.length
  have hc0 : cS a b a.length = 0 := by
    by_cases e : cS a b a.length = 1
    · rw [e] at hv; omega
    · omega
  rw [hc0, Int.mul_zero, Int.sub_zero] at hv
  simp only [f120, t120, b120_0, hl, g122, f122_eq _ (show (oS a b a.length).length ≤ 1000000000 by rw [oS_len]; omega) hd, hv, Option.isSome_some, Option.getD_some, Tr.val_test, Tr.val_fin, isBrk, if_true, outB]

theorem can_ge {l : List Int} (hd : Dg l) (hc : Can l) {m : Nat} (hm : l.length = m + 1) : pw m ≤ dval l := by
  have h3 := dv_take l m
  rw [dv_take_all _ (by omega)] at h3
  have h2 := hc m hm
  have h4 := dv_nonneg (hd.take m)
  have h5 := hd.getD m
  have h7 : pw m * 1 ≤ pw m * l.getD m 0 := Int.mul_le_mul_of_nonneg_left (by omega) (Int.le_of_lt (pw_pos m))
  omega

theorem dv_top {a b : List Int} (ha : Dg a) (hb : Dg b) {j : Nat} (hlt : a.getD j 0 < b.getD j 0) : ∀ n, (∀ i, j < i → i < j + 1 + n → a.getD i 0 = b.getD i 0) → dval (a.take (j + 1 + n)) < dval (b.take (j + 1 + n))
  | 0, _ => by
    rw [Nat.add_zero, dv_take, dv_take]
    have h1 := dv_lt (ha.take j)
    have h2 := dv_nonneg (hb.take j)
    have h3 : pw (a.take j).length ≤ pw j := pw_le (by simp; omega)
    have h7 : pw j * (a.getD j 0 + 1) ≤ pw j * b.getD j 0 := Int.mul_le_mul_of_nonneg_left (by omega) (Int.le_of_lt (pw_pos j))
    rw [Int.mul_add] at h7
    omega
  | n + 1, h => by
    have ih := dv_top ha hb hlt n fun i h1 h2 => h i h1 (by omega)
    have e := h (j + 1 + n) (by omega) (by omega)
    rw [← Nat.add_assoc, dv_take, dv_take, e]
    omega

theorem f119_eq (a b : List Int) (ha : Dg a) (hb : Dg b) (ca : Can a) (cb : Can b) (h1 : a.length ≤ 1000000) : f119 (a, b, ()) = some ((dval a - dval b).sign, ()) := by
  simp only [f119, t119, Tr.val_test, Tr.val_fin, leF_eq, eqF_eq]
  by_cases hle : a.length = b.length
  · rw [if_neg (by simp; omega)]
    have e0 : wrap64 ((a.length : Int) - 1) = (a.length : Int) - 1 := wrap64_id (by omega) (by omega)
    have hl : l119_0 ((a, b, (a.length : Int) - 1, ()), ()) = match first (fun k => !decide (a.getD (a.length - 1 - k) 0 = b.getD (a.length - 1 - k) 0)) a.length 0 with
        | some k => some (.inr (((if a.getD (a.length - 1 - k) 0 < b.getD (a.length - 1 - k) 0 then (-1 : Int) else 1), ()), ()))
        | none => some (.inl ((), ())) := by
      have := itr_search (step := s119_0) (m := rounds) (n := a.length) (fun k => ((a, b, (a.length : Int) - 1 - (k : Int), ()), ())) (fun k => !decide (a.getD (a.length - 1 - k) 0 = b.getD (a.length - 1 - k) 0))
        (fun k => (((if a.getD (a.length - 1 - k) 0 < b.getD (a.length - 1 - k) 0 then (-1 : Int) else 1), ()), ())) (b := ((), ())) ?_ ?_ (lt_rounds (by omega))
      · rw [l119_0, show (a.length : Int) - 1 = (a.length : Int) - 1 - ((0 : Nat) : Int) by omega]; exact this
      · intro k hk
        have e1 : (a.length : Int) - 1 - (k : Int) = ((a.length - 1 - k : Nat) : Int) := by omega
        have e2 : wrap64 (((a.length - 1 - k : Nat) : Int) - 1) = (a.length : Int) - 1 - ((k + 1 : Nat) : Int) := by rw [wrap64_id (by omega) (by omega)]; omega
        simp only [e1, s119_0, t119_0, Tr.val_test, Tr.val_fin, leF_eq, Int.toNat_natCast, e2]
        rw [if_pos (by simp), if_pos (by simp; omega), if_pos (by simp; omega)]
        generalize a.getD (a.length - 1 - k) 0 = x
        generalize b.getD (a.length - 1 - k) 0 = y
        rcases Int.lt_trichotomy x y with h | h | h
        · rw [if_pos (by simp; omega), if_pos (by simp; omega), if_pos h]
        · rw [if_neg (by simp; omega), if_neg (by simp; omega), if_neg (by simp; omega)]
        · rw [if_neg (by simp; omega), if_pos (by simp; omega), if_pos (by simp; omega), if_neg (by omega)]
      · simp only [s119_0, t119_0, Tr.val_test, Tr.val_fin, leF_eq]
        rw [if_neg (by simp; omega)]
    rw [e0, r119_0, hl]
    have hta := dv_take_all a (Nat.le_refl _)
    have htb := dv_take_all b (Nat.le_of_eq hle.symm)
    cases hf : first (fun k => !decide (a.getD (a.length - 1 - k) 0 = b.getD (a.length - 1 - k) 0)) a.length 0 with
    | none =>
      have hn := first_none hf
      have : ∀ n, n ≤ a.length → dval (a.take n) = dval (b.take n) := by
        intro n
        induction n with
        | zero => intro _; simp
        | succ n ih =>
          intro h
          have := hn (a.length - 1 - n) (by omega) (by omega)
          rw [show a.length - 1 - (a.length - 1 - n) = n by omega] at this
          rw [dv_take, dv_take, ih (by omega), show a.getD n 0 = b.getD n 0 by simpa using this]
      have e := this a.length (Nat.le_refl _)
      rw [hta, htb] at e
      simp [e, isRet]
    | some k =>
      obtain ⟨q1, q2, q3, q4⟩ := first_some hf
      have hne : a.getD (a.length - 1 - k) 0 ≠ b.getD (a.length - 1 - k) 0 := by simpa using q3
      have heq : ∀ i, a.length - 1 - k < i → i < a.length - 1 - k + 1 + k → a.getD i 0 = b.getD i 0 := fun i h1 h2 => by
        have := q4 (a.length - 1 - i) (by omega) (by omega)
        rw [show a.length - 1 - (a.length - 1 - i) = i by omega] at this
        simpa using this
      have hN : a.length - 1 - k + 1 + k = a.length := by omega
      simp only [isRet, Option.isSome_some, if_true, outR]
      by_cases h : a.getD (a.length - 1 - k) 0 < b.getD (a.length - 1 - k) 0
      · have := dv_top ha hb h k heq
        rw [hN, hta, htb] at this
        rw [if_pos h, Int.sign_eq_neg_one_of_neg (by omega)]
      · have := dv_top hb ha (j := a.length - 1 - k) (by omega) k fun i h1 h2 => (heq i h1 h2).symm
        rw [hN, hta, htb] at this
        rw [if_neg h, Int.sign_eq_one_of_pos (by omega)]
  · rw [if_pos (by simp; omega)]
    by_cases h : a.length < b.length
    · rw [if_pos (by simp; omega)]
      have hx := dv_lt ha
      obtain ⟨m, hm⟩ : ∃ m, b.length = m + 1 := ⟨b.length - 1, by omega⟩
      have hy := can_ge hb cb hm
      have : pw a.length ≤ pw m := pw_le (by omega)
      rw [Int.sign_eq_neg_one_of_neg (by omega)]
    · rw [if_neg (by simp; omega)]
      have hx := dv_lt hb
      obtain ⟨m, hm⟩ : ∃ m, a.length = m + 1 := ⟨a.length - 1, by omega⟩
      have hy := can_ge ha ca hm
      have : pw b.length ≤ pw m := pw_le (by omega)
      rw [Int.sign_eq_one_of_pos (by omega)]

theorem l74_2_eq (n c i : Nat) (s0 s1 z : Int) (a b buf : List Int) (hi : i < a.length) (ha : Dg a) (hb : Dg b) (hbuf : Dg buf) (hlen : buf.length = n) (hn : i + b.length ≤ n) (hs : n ≤ 1000000) :
    l74_2 (((n, c), ((i : Int), (0 : Int), (0 : Int), ())), ((s0, a, ()), (s1, b, ()), (z, ()), buf, ())) =
      some (.inl (((n, c), ((i : Int), (mI (a.getD i 0) b i buf b.length).2, ())), ((s0, a, ()), (s1, b, ()), (z, ()), (mI (a.getD i 0) b i buf b.length).1, ()))) := by
  refine itr_brk (fun j => (((n, c), ((i : Int), (mI (a.getD i 0) b i buf j).2, (j : Int), ())), ((s0, a, ()), (s1, b, ()), (z, ()), (mI (a.getD i 0) b i buf j).1, ()))) (n := b.length) ?_ ?_ (lt_rounds (by omega))
  · intro j hj
    obtain ⟨h1, h2, h3⟩ := mI_Dg (i := i) (ha.getD i) hb hbuf j
    have h4 := h1.getD (i + j)
    have h5 := dg_mul (ha.getD i) (hb.getD j)
    have hml := mI_len (a.getD i 0) b i buf j
    have e0 : wrap64 ((i : Int) + (j : Int)) = ((i + j : Nat) : Int) := by rw [wrap64_id (by omega) (by omega)]; omega
    have e1 : wrap64 (a.getD i 0 * b.getD j 0) = a.getD i 0 * b.getD j 0 := wrap64_id (by omega) (by omega)
    have e2 : wrap64 (wrap64 ((mI (a.getD i 0) b i buf j).1.getD (i + j) 0 + a.getD i 0 * b.getD j 0) + (mI (a.getD i 0) b i buf j).2) = (mI (a.getD i 0) b i buf j).1.getD (i + j) 0 + a.getD i 0 * b.getD j 0 + (mI (a.getD i 0) b i buf j).2 := by
      rw [wrap64_id (n := (mI (a.getD i 0) b i buf j).1.getD (i + j) 0 + a.getD i 0 * b.getD j 0) (by omega) (by omega), wrap64_id (by omega) (by omega)]
    have e3 : Int.tmod ((mI (a.getD i 0) b i buf j).1.getD (i + j) 0 + a.getD i 0 * b.getD j 0 + (mI (a.getD i 0) b i buf j).2) 1000000000 = ((mI (a.getD i 0) b i buf j).1.getD (i + j) 0 + a.getD i 0 * b.getD j 0 + (mI (a.getD i 0) b i buf j).2) % 1000000000 := Int.tmod_eq_emod_of_nonneg (by omega)
    have e4 : IntKind.wrap .i64 (Int.tdiv ((mI (a.getD i 0) b i buf j).1.getD (i + j) 0 + a.getD i 0 * b.getD j 0 + (mI (a.getD i 0) b i buf j).2) 1000000000) = ((mI (a.getD i 0) b i buf j).1.getD (i + j) 0 + a.getD i 0 * b.getD j 0 + (mI (a.getD i 0) b i buf j).2) / 1000000000 := by
      rw [Int.tdiv_eq_ediv_of_nonneg (by omega), wrapJ (by omega) (by omega)]
    have e5 : wrap64 ((j : Int) + 1) = ((j + 1 : Nat) : Int) := wrap64_nat (by omega)
    simp only [s74_2, t74_2, Tr.val_test, Tr.val_fin, leF_eq, e0, Int.toNat_natCast, Nat.zero_add, e1, e2, e3, e4, e5]
    rw [if_pos (by simp; omega), if_pos (by simp; omega), if_pos (by rw [hml, ble_eq_true']; omega), if_pos (by simp; omega), if_pos (by simp; omega)]
    rfl
  · simp [s74_2, t74_2, leF_eq]

theorem l74_0_eq (s0 s1 z : Int) (a b : List Int) (n : Nat) (ha : Dg a) (hb : Dg b) (hn : n = a.length + b.length + 1) (hs : n ≤ 1000000) :
    l74_0 (((n, n), ((0 : Int), ())), ((s0, a, ()), (s1, b, ()), (z, ()), List.replicate n 0, ())) = some (.inl (((n, n), ()), ((s0, a, ()), (s1, b, ()), (z, ()), mO a b a.length, ()))) := by
  subst hn
  refine itr_brk (fun i => (((a.length + b.length + 1, a.length + b.length + 1), ((i : Int), ())), ((s0, a, ()), (s1, b, ()), (z, ()), mO a b i, ()))) (n := a.length) ?_ ?_ (lt_rounds (by omega))
  · intro i hi
    have hl := l74_2_eq (a.length + b.length + 1) (a.length + b.length + 1) i s0 s1 z a b (mO a b i) hi ha hb (mO_Dg ha hb i) (mO_len a b i) (by omega) hs
    obtain ⟨h1, h2, h3⟩ := mI_Dg (i := i) (ha.getD i) hb (mO_Dg ha hb i) b.length
    have e0 : wrap64 ((i : Int) + (b.length : Int)) = ((i + b.length : Nat) : Int) := by rw [wrap64_id (by omega) (by omega)]; omega
    have e1 : wrap64 ((mI (a.getD i 0) b i (mO a b i) b.length).1.getD (i + b.length) 0 + (mI (a.getD i 0) b i (mO a b i) b.length).2) = (mI (a.getD i 0) b i (mO a b i) b.length).1.getD (i + b.length) 0 + (mI (a.getD i 0) b i (mO a b i) b.length).2 := by
      rw [mO_get]; exact wrap64_id (by omega) (by omega)
    have e5 : wrap64 ((i : Int) + 1) = ((i + 1 : Nat) : Int) := wrap64_nat (by omega)
    have hml : (mI (a.getD i 0) b i (mO a b i) b.length).1.length = a.length + b.length + 1 := by rw [mI_len, mO_len]
    simp only [s74_0, t74_0, b74_2, hl, isBrk, outB, Tr.val_test, Tr.val_fin, leF_eq, e0, Int.toNat_natCast, Nat.zero_add, e1, e5, if_true]
    rw [if_pos (by simp; omega), if_pos (by simp; omega), if_pos (by rw [hml, ble_eq_true']; omega)]
    rfl
  · simp [s74_0, t74_0, leF_eq]

theorem f74_raw (s0 s1 : Int) (a b : List Int) (ha : Dg a) (hb : Dg b) (h : a.length + b.length + 1 ≤ 1000000) : f74 ((s0, a, ()), (s1, b, ()), ()) = some (mkN (wrap64 (s0 * s1)) (dval a * dval b), ()) := by
  have e0 : wrap64 (wrap64 ((a.length : Int) + (b.length : Int)) + 1) = ((a.length + b.length + 1 : Nat) : Int) := by
    rw [wrap64_id (n := (a.length : Int) + (b.length : Int)) (by omega) (by omega), wrap64_id (by omega) (by omega)]; omega
  have hl := l74_0_eq s0 s1 0 a b _ ha hb rfl h
  have hd := mO_Dg ha hb a.length
  have hv := mO_dv a b a.length (Nat.le_refl _)
  rw [dv_take_all a (Nat.le_refl _)] at hv
  have hlen := mO_len a b a.length
  have hf : f100 (wrap64 (s0 * s1), mO a b a.length, ()) = some (mkN (wrap64 (s0 * s1)) (dval a * dval b), ()) := by rw [f100_eq _ _ (by omega) hd, hv]
  simp only [f74, t74, e0, Int.toNat_natCast, b74_0, hl, isBrk, outB, Tr.val_test, Tr.val_fin, if_true, hlen, g100, hf, Option.isSome_some, Option.getD_some]
  rw [if_pos (by simp; omega), if_pos (by simp)]

theorem f74_eq (x y : Int) (h : (dig x.natAbs).length + (dig y.natAbs).length + 1 ≤ 1000000) : f74 (enc x, enc y, ()) = some (enc (x * y), ()) := by
  have hf := f74_raw x.sign y.sign (dig x.natAbs) (dig y.natAbs) (dig_Dg _) (dig_Dg _) h
  rw [dig_dv, dig_dv] at hf
  have hw : wrap64 (x.sign * y.sign) = (x * y).sign := by
    rw [← Int.sign_mul]
    have : (x * y).sign = -1 ∨ (x * y).sign = 0 ∨ (x * y).sign = 1 := by
      rcases Int.lt_trichotomy (x * y) 0 with h | h | h
      · left; exact Int.sign_eq_neg_one_of_neg h
      · right; left; rw [h]; rfl
      · right; right; exact Int.sign_eq_one_of_pos h
    exact wrap64_id (by omega) (by omega)
  rw [hw] at hf
  have he : mkN (x * y).sign ((x.natAbs : Int) * (y.natAbs : Int)) = enc (x * y) := by
    rw [← Int.natCast_mul, ← Int.natAbs_mul]
    exact mkN_enc fun _ => rfl
  rw [he] at hf
  exact hf

theorem sgn_cases (x : Int) : (x < 0 ∧ x.sign = -1) ∨ (x = 0 ∧ x.sign = 0) ∨ (0 < x ∧ x.sign = 1) := by
  rcases Int.lt_trichotomy x 0 with h | h | h
  · exact .inl ⟨h, Int.sign_eq_neg_one_of_neg h⟩
  · exact .inr (.inl ⟨h, by rw [h]; rfl⟩)
  · exact .inr (.inr ⟨h, Int.sign_eq_one_of_pos h⟩)

theorem f97_raw (s0 s1 : Int) (a b : List Int) (ha : Dg a) (hb : Dg b) (ca : Can a) (cb : Can b) (h1 : a.length ≤ 100000) (h2 : b.length ≤ 100000) : f97 ((s0, a, ()), (s1, b, ()), ()) =
    if s0 = 0 then some ((s1, b, ()), ()) else if s1 = 0 then some ((s0, a, ()), ()) else if s0 = s1 then some (mkN s0 (dval a + dval b), ()) else
    if dval a = dval b then some ((0, [], ()), ()) else if dval b < dval a then some (mkN s0 (dval a - dval b), ()) else some (mkN s1 (dval b - dval a), ()) := by
  have hle : ∀ {l : List Int} {n : Int}, Dg l → Can l → dval l ≤ n → ∀ {l2 : List Int}, Dg l2 → n = dval l2 → l.length ≤ l2.length := fun {l n} hd hc hn {l2} hd2 e => by
    rcases Nat.lt_or_ge l2.length l.length with h | h
    · exfalso
      obtain ⟨m, hm⟩ : ∃ m, l.length = m + 1 := ⟨l.length - 1, by omega⟩
      have := can_ge hd hc hm
      have := dv_lt hd2
      have : pw l2.length ≤ pw m := pw_le (by omega)
      omega
    · exact h
  have hn : nA a b ≤ max a.length b.length + 1 := by unfold nA; split <;> omega
  simp only [f97, t97, Tr.val_test, Tr.val_fin, eqF_eq, leF_eq, decide_eq_true_eq]
  by_cases c1 : s0 = 0
  · rw [if_pos c1, if_pos c1]
  rw [if_neg c1, if_neg c1]
  by_cases c2 : s1 = 0
  · rw [if_pos c2, if_pos c2]
  rw [if_neg c2, if_neg c2]
  by_cases c3 : s0 = s1
  · rw [if_pos c3, if_pos c3]
    simp only [g118, f118_eq a b ha hb h1 h2, Option.isSome_some, Option.getD_some, if_true, g100, f100_eq s0 (oA a b (nA a b)) (by rw [oA_len]; omega) (oA_Dg a b _), oA_sum ha hb]
  rw [if_neg c3, if_neg c3]
  simp only [g119, f119_eq a b ha hb ca cb (by omega), Option.isSome_some, Option.getD_some, if_true]
  rcases sgn_cases (dval a - dval b) with ⟨hs, e⟩ | ⟨hs, e⟩ | ⟨hs, e⟩
  · have hl := hle ha ca (show dval a ≤ dval b by omega) hb rfl
    have hv : ((dval b - dval a).toNat : Int) = dval b - dval a := by omega
    have hlen : (dig (dval b - dval a).toNat).length ≤ b.length := dig_len (by have := dv_lt hb; have := dv_nonneg ha; omega)
    rw [if_neg (by rw [e]; omega), if_neg (by rw [e]; simp)]
    simp only [g120, f120_eq b a hb ha (by omega) hl (by omega), Option.isSome_some, Option.getD_some, if_true, g100, f100_eq s1 (dig (dval b - dval a).toNat) (by omega) (dig_Dg _), dig_dv, hv]
    rw [if_neg (by omega), if_neg (by omega)]
  · rw [if_pos (by rw [e]), if_pos (by omega)]
  · have hl := hle hb cb (show dval b ≤ dval a by omega) ha rfl
    have hv : ((dval a - dval b).toNat : Int) = dval a - dval b := by omega
    have hlen : (dig (dval a - dval b).toNat).length ≤ a.length := dig_len (by have := dv_lt ha; have := dv_nonneg hb; omega)
    rw [if_neg (by rw [e]; omega), if_pos (by rw [e]; simp)]
    simp only [g120, f120_eq a b ha hb (by omega) hl (by omega), Option.isSome_some, Option.getD_some, if_true, g100, f100_eq s0 (dig (dval a - dval b).toNat) (by omega) (dig_Dg _), dig_dv, hv]
    rw [if_neg (by omega), if_pos (by omega)]

theorem mkN_eq {s n z : Int} (h : n = z.natAbs) (hs : z ≠ 0 → s = z.sign) : mkN s n = enc z := by rw [h]; exact mkN_enc hs

theorem f97_eq (x y : Int) (h1 : (dig x.natAbs).length ≤ 100000) (h2 : (dig y.natAbs).length ≤ 100000) : f97 (enc x, enc y, ()) = some (enc (x + y), ()) := by
  have hf := f97_raw x.sign y.sign (dig x.natAbs) (dig y.natAbs) (dig_Dg _) (dig_Dg _) (dig_Can _) (dig_Can _) h1 h2
  rw [dig_dv, dig_dv] at hf
  refine hf.trans ?_
  have t0 : (0 : Int).sign = 0 := rfl
  rcases sgn_cases x with ⟨hx, ex⟩ | ⟨hx, ex⟩ | ⟨hx, ex⟩
  · rcases sgn_cases y with ⟨hy, ey⟩ | ⟨hy, ey⟩ | ⟨hy, ey⟩
    · rw [ex, ey, if_neg (by omega), if_neg (by omega), if_pos rfl, mkN_eq (z := x + y) (by omega) fun _ => by rw [Int.sign_eq_neg_one_of_neg (by omega)]]
    · rw [ex, ey, if_neg (by omega), if_pos rfl]; subst hy; rw [Int.add_zero, enc, ex]
    · rw [ex, ey, if_neg (by omega), if_neg (by omega), if_neg (by omega)]
      split
      · have : x + y = 0 := by omega
        rw [this]; simp [enc, dig_zero]
      · split
        · rw [mkN_eq (z := x + y) (by omega) fun _ => by rw [Int.sign_eq_neg_one_of_neg (by omega)]]
        · rw [mkN_eq (z := x + y) (by omega) fun _ => by rw [Int.sign_eq_one_of_pos (by omega)]]
  · rw [ex, if_pos rfl]; subst hx; rw [Int.zero_add, enc]
  · rcases sgn_cases y with ⟨hy, ey⟩ | ⟨hy, ey⟩ | ⟨hy, ey⟩
    · rw [ex, ey, if_neg (by omega), if_neg (by omega), if_neg (by omega)]
      split
      · have : x + y = 0 := by omega
        rw [this]; simp [enc, dig_zero]
      · split
        · rw [mkN_eq (z := x + y) (by omega) fun _ => by rw [Int.sign_eq_one_of_pos (by omega)]]
        · rw [mkN_eq (z := x + y) (by omega) fun _ => by rw [Int.sign_eq_neg_one_of_neg (by omega)]]
    · rw [ex, ey, if_neg (by omega), if_pos rfl]; subst hy; rw [Int.add_zero, enc, ex]
    · rw [ex, ey, if_neg (by omega), if_neg (by omega), if_pos rfl, mkN_eq (z := x + y) (by omega) fun _ => by rw [Int.sign_eq_one_of_pos (by omega)]]

theorem enc_neg (x : Int) : (IntKind.wrap .i64 (0 - x.sign), dig x.natAbs, ()) = enc (-x) := by
  have : IntKind.wrap .i64 (0 - x.sign) = (-x).sign := by
    rw [Int.sign_neg]
    rcases sgn_cases x with ⟨_, e⟩ | ⟨_, e⟩ | ⟨_, e⟩ <;> rw [e] <;> rfl
  rw [this, enc, Int.natAbs_neg]

theorem f117_eq (x : Int) : f117 (enc x, ()) = some (enc (-x), ()) := by
  rw [← enc_neg]; rfl

theorem f96_eq (x y : Int) (h1 : (dig x.natAbs).length ≤ 100000) (h2 : (dig y.natAbs).length ≤ 100000) : f96 (enc x, enc y, ()) = some (enc (x - y), ()) := by
  have e0 : f117 ((y.sign, dig y.natAbs, ()), ()) = some (enc (-y), ()) := f117_eq y
  have e1 : f97 ((x.sign, dig x.natAbs, ()), ((enc (-y)).1, (enc (-y)).2.1, ()), ()) = some (enc (x - y), ()) := f97_eq x (-y) h1 (by rw [Int.natAbs_neg]; exact h2)
  show f96 ((x.sign, dig x.natAbs, ()), (y.sign, dig y.natAbs, ()), ()) = _
  simp only [f96, t96, g117, e0, g97, e1, Option.isSome_some, Option.getD_some, Tr.val_test, Tr.val_fin, if_true]

theorem f73_eq (x y : Int) (h1 : (dig x.natAbs).length ≤ 100000) (h2 : (dig y.natAbs).length ≤ 100000) : f73 (enc x, enc y, ()) = some ((x - y).sign, ()) := by
  have e0 : f96 ((x.sign, dig x.natAbs, ()), (y.sign, dig y.natAbs, ()), ()) = some (enc (x - y), ()) := f96_eq x y h1 h2
  show f73 ((x.sign, dig x.natAbs, ()), (y.sign, dig y.natAbs, ()), ()) = _
  simp only [f73, t73, g96, e0, Option.isSome_some, Option.getD_some, Tr.val_test, Tr.val_fin, if_true]
  rfl

theorem f132_eq (x : Int) : f132 (enc x, ()) = some (enc x.natAbs, ()) := by
  have e0 : f117 ((x.sign, dig x.natAbs, ()), ()) = some (enc (-x), ()) := f117_eq x
  show f132 ((x.sign, dig x.natAbs, ()), ()) = _
  simp only [f132, t132, g117, e0, Option.isSome_some, Option.getD_some, Tr.val_test, Tr.val_fin, leF_eq, if_true]
  rcases sgn_cases x with ⟨h, e⟩ | ⟨h, e⟩ | ⟨h, e⟩
  · rw [if_pos (by rw [e]; simp), show ((x.natAbs : Nat) : Int) = -x by omega]
  · subst h; rfl
  · rw [if_neg (by rw [e]; simp), show ((x.natAbs : Nat) : Int) = x by omega]; rfl

theorem dig_mono {m n : Nat} (h : m ≤ n) : (dig m).length ≤ (dig n).length := dig_len (by have := dig_len_pw n; omega)

theorem enc_pos {x : Int} (h : 0 < x) : f100 (1, dig x.natAbs, ()) = f100 (x.sign, dig x.natAbs, ()) := by rw [Int.sign_eq_one_of_pos h]

theorem f100_enc (x : Int) (h : (dig x.natAbs).length ≤ 1000000000) : f100 (x.sign, dig x.natAbs, ()) = some (enc x, ()) := by
  rw [f100_eq _ _ h (dig_Dg _), dig_dv, mkN_enc fun _ => rfl]

theorem dig_small {x : Int} (h0 : 0 ≤ x) (h : x < 1000000000) : (dig x.natAbs).length ≤ 1 := dig_len (by simp only [pw]; omega)

theorem f74_one {x y : Int} (hx : (dig x.natAbs).length ≤ 10000) (h0 : 0 ≤ y) (h : y < 1000000000) : f74 (((enc x).1, (enc x).2.1, ()), ((enc y).1, (enc y).2.1, ()), ()) = some (enc (x * y), ()) :=
  f74_eq x y (by have := dig_small h0 h; omega)

theorem it124 (n c : Nat) (i s0 s1 z : Int) (a buf : List Int) (V Y : Int) (hV : 0 ≤ V) (hY : 0 < Y) (hl : (dig Y.natAbs).length ≤ 10000) (hq : V / Y ≤ 999999999) :
    ∀ (k : Nat) (lo hi : Int) (m : Nat), (hi - lo).toNat ≤ k → 0 ≤ lo → lo ≤ V / Y → V / Y ≤ hi → hi ≤ 999999999 → k < m →
      itr s124_2 m (((n, c), (dig V.toNat, i, lo, hi, ())), ((s0, a, ()), (s1, dig Y.natAbs, ()), (z, ()), buf, ())) =
        some (.inl (((n, c), (dig V.toNat, i, V / Y, ())), ((s0, a, ()), (s1, dig Y.natAbs, ()), (z, ()), buf, ())))
  | k, lo, hi, m, hk, h1, h2, h3, h4, hm => by
    obtain ⟨m, rfl⟩ : ∃ j, m = j + 1 := ⟨m - 1, by omega⟩
    by_cases h : lo < hi
    · obtain ⟨k, rfl⟩ : ∃ j, k = j + 1 := ⟨k - 1, by omega⟩
      have e0 : IntKind.wrap .i64 (Int.tdiv (wrap64 (wrap64 (lo + hi) + 1)) 2) = (lo + hi + 1) / 2 := by
        rw [wrap64_id (n := lo + hi) (by omega) (by omega), wrap64_id (by omega) (by omega), Int.tdiv_eq_ediv_of_nonneg (by omega), wrapJ (by omega) (by omega)]
      have e5 : wrap64 ((lo + hi + 1) / 2 - 1) = (lo + hi + 1) / 2 - 1 := wrap64_id (by omega) (by omega)
      generalize hmid : (lo + hi + 1) / 2 = mid at *
      have b1 : 0 ≤ mid := by omega
      have b2 : mid < 1000000000 := by omega
      have e1 : f100 (1, dig Y.natAbs, ()) = some (enc Y, ()) := by rw [enc_pos hY, f100_enc Y (by omega)]
      have e2 := f98_eq mid (by omega)
      have e3 := f74_one (x := Y) hl b1 b2
      have hnn : 0 ≤ Y * mid := Int.mul_nonneg (by omega) b1
      have hvn : ((V.toNat : Nat) : Int) = V := by omega
      have hlm : (dig (Y * mid).natAbs).length ≤ (dig Y.natAbs).length + 1 := dig_len (by
        have q1 := dig_len_pw Y.natAbs
        have q3 : Y * mid < Y * 1000000000 := Int.mul_lt_mul_of_pos_left b2 hY
        simp only [pw]
        omega)
      have e4 : f119 ((enc (Y * mid)).2.1, dig V.toNat, ()) = some ((Y * mid - V).sign, ()) := by
        have := f119_eq (dig (Y * mid).natAbs) (dig V.toNat) (dig_Dg _) (dig_Dg _) (dig_Can _) (dig_Can _) (by omega)
        rw [dig_dv, dig_dv, hvn, show (((Y * mid).natAbs : Nat) : Int) = Y * mid by omega] at this
        exact this
      have hiff : mid ≤ V / Y ↔ Y * mid ≤ V := by rw [Int.le_ediv_iff_mul_le hY, Int.mul_comm]
      have hstep : s124_2 (((n, c), (dig V.toNat, i, lo, hi, ())), ((s0, a, ()), (s1, dig Y.natAbs, ()), (z, ()), buf, ())) =
          some (.again (((n, c), (dig V.toNat, i, (if mid ≤ V / Y then mid else lo), (if mid ≤ V / Y then hi else mid - 1), ())), ((s0, a, ()), (s1, dig Y.natAbs, ()), (z, ()), buf, ()))) := by
        simp only [s124_2, t124_2, e0, e5, g100, e1, g98, e2, g74, e3, g119, e4, Option.isSome_some, Option.getD_some, Tr.val_test, Tr.val_fin, leF_eq, if_true]
        rw [if_pos (by simp; omega)]
        rcases sgn_cases (Y * mid - V) with ⟨w, es⟩ | ⟨w, es⟩ | ⟨w, es⟩
        · have := hiff.2 (by omega)
          rw [if_pos (by rw [es]; simp), if_pos this, if_pos this]
        · have := hiff.2 (by omega)
          rw [if_pos (by rw [es]; simp), if_pos this, if_pos this]
        · have : ¬ mid ≤ V / Y := fun t => by have := hiff.1 t; omega
          rw [if_neg (by rw [es]; simp), if_neg this, if_neg this]
      rw [itr, hstep]
      dsimp only
      by_cases hc : mid ≤ V / Y
      · rw [if_pos hc, if_pos hc]
        exact it124 n c i s0 s1 z a buf V Y hV hY hl hq k mid hi m (by omega) b1 hc h3 h4 (by omega)
      · rw [if_neg hc, if_neg hc]
        exact it124 n c i s0 s1 z a buf V Y hV hY hl hq k lo (mid - 1) m (by omega) h1 h2 (by omega) (by omega) (by omega)
    · have : lo = V / Y := by omega
      rw [itr]
      simp only [s124_2, t124_2, Tr.val_test, Tr.val_fin, leF_eq]
      rw [if_neg (by simp; omega), this]

theorem set_zeros (q : Int) (d : List Int) : ∀ j, (List.replicate (j + 1) 0 ++ d).set j q = List.replicate j 0 ++ q :: d
  | 0 => by simp
  | j + 1 => by
    rw [List.replicate_succ, List.cons_append, List.set_cons_succ, set_zeros q d j, List.replicate_succ, List.cons_append]

/-- The value of the upper digits. -/
def upA (a : List Int) : Nat → Int
  | 0 => 0
  | k + 1 => a.getD (a.length - 1 - k) 0 + 1000000000 * upA a k

theorem upA_drop (a : List Int) : ∀ k, k ≤ a.length → upA a k = dval (a.drop (a.length - k))
  | 0, _ => by simp [upA, dval]
  | k + 1, h => by
    have e : a.length - (k + 1) + 1 = a.length - k := by omega
    rw [upA, upA_drop a k (by omega), List.drop_eq_getElem_cons (show a.length - (k + 1) < a.length by omega), dval, e]
    congr 1
    have : a.length - 1 - k = a.length - (k + 1) := by omega
    rw [this]
    simp [List.getD, show a.length - (k + 1) < a.length by omega]

/-- The digits of the quotient. -/
def dQ (a : List Int) (Y : Int) : Nat → List Int
  | 0 => []
  | k + 1 => ((a.getD (a.length - 1 - k) 0 + 1000000000 * (upA a k % Y)) / Y) :: dQ a Y k

theorem dQ_len (a : List Int) (Y : Int) : ∀ k, (dQ a Y k).length = k
  | 0 => rfl
  | k + 1 => by simp [dQ, dQ_len a Y k]

theorem dQ_bound {a : List Int} (ha : Dg a) {Y : Int} (hY : 0 < Y) (k : Nat) : 0 ≤ (a.getD (a.length - 1 - k) 0 + 1000000000 * (upA a k % Y)) / Y ∧ (a.getD (a.length - 1 - k) 0 + 1000000000 * (upA a k % Y)) / Y < 1000000000 := by
  have h1 := ha.getD (a.length - 1 - k)
  have h2 := Int.emod_nonneg (upA a k) (show Y ≠ 0 by omega)
  have h3 := Int.emod_lt_of_pos (upA a k) hY
  refine ⟨Int.ediv_nonneg (by omega) (by omega), Int.ediv_lt_of_lt_mul hY (by omega)⟩

theorem dQ_Dg {a : List Int} (ha : Dg a) {Y : Int} (hY : 0 < Y) : ∀ k, Dg (dQ a Y k)
  | 0 => Dg.nil
  | k + 1 => fun d hd => by
    rcases List.mem_cons.1 hd with rfl | hd
    · exact dQ_bound ha hY k
    · exact dQ_Dg ha hY k d hd

theorem upA_split (a : List Int) {Y : Int} (k : Nat) : upA a (k + 1) = a.getD (a.length - 1 - k) 0 + 1000000000 * (upA a k % Y) + Y * (1000000000 * (upA a k / Y)) := by
  have := Int.emod_add_mul_ediv (upA a k) Y
  rw [upA]
  have e : Y * (1000000000 * (upA a k / Y)) = 1000000000 * (Y * (upA a k / Y)) := by rw [Int.mul_left_comm]
  omega

theorem dQ_dv (a : List Int) {Y : Int} (hY : 0 < Y) : ∀ k, dval (dQ a Y k) = upA a k / Y
  | 0 => by simp [dQ, dval, upA]
  | k + 1 => by
    rw [dQ, dval, dQ_dv a hY k, upA_split a (Y := Y) k, Int.add_mul_ediv_left _ _ (by omega)]

theorem upA_mod (a : List Int) {Y : Int} (k : Nat) : upA a (k + 1) % Y = (a.getD (a.length - 1 - k) 0 + 1000000000 * (upA a k % Y)) % Y := by
  rw [upA_split a (Y := Y) k, Int.add_mul_emod_self_left]

theorem dig_up (V Y : Int) (hV : 0 ≤ V) (hY : 0 < Y) : f120 (dig V.toNat, (enc (Y * (V / Y))).2.1, ()) = f120 (dig V.toNat, dig (Y * (V / Y)).toNat, ()) := by
  have h : 0 ≤ Y * (V / Y) := Int.mul_nonneg (by omega) (Int.ediv_nonneg hV (by omega))
  rw [show (Y * (V / Y)).toNat = (Y * (V / Y)).natAbs by omega]; rfl

theorem f120_rem (V Y : Int) (hV : 0 ≤ V) (hY : 0 < Y) (h : (dig V.toNat).length ≤ 1000000) : f120 (dig V.toNat, (enc (Y * (V / Y))).2.1, ()) = some (dig (V % Y).toNat, ()) := by
  have h0 : 0 ≤ Y * (V / Y) := Int.mul_nonneg (by omega) (Int.ediv_nonneg hV (by omega))
  have h1 := Int.emod_add_mul_ediv V Y
  have h2 := Int.emod_nonneg V (show Y ≠ 0 by omega)
  have e1 : ((V.toNat : Nat) : Int) = V := by omega
  have e2 : (((Y * (V / Y)).toNat : Nat) : Int) = Y * (V / Y) := by omega
  rw [dig_up V Y hV hY, f120_eq _ _ (dig_Dg _) (dig_Dg _) h (dig_mono (by omega)) (by rw [dig_dv, dig_dv]; omega), dig_dv, dig_dv, e1, e2, show V - Y * (V / Y) = V % Y by omega]

theorem l124 (s0 s1 z : Int) (a : List Int) (Y : Int) (ha : Dg a) (hY : 0 < Y) (hl : (dig Y.natAbs).length ≤ 10000) (h : a.length ≤ 10000) :
    l124_0 (((a.length, a.length), ([], (a.length : Int) - 1, ())), ((s0, a, ()), (s1, dig Y.natAbs, ()), (z, ()), List.replicate a.length 0, ())) =
      some (.inl (((a.length, a.length), (dig (upA a a.length % Y).toNat, ())), ((s0, a, ()), (s1, dig Y.natAbs, ()), (z, ()), dQ a Y a.length, ()))) := by
  have key := itr_brk (step := s124_0) (m := rounds) (n := a.length) (b := (((a.length, a.length), (dig (upA a a.length % Y).toNat, ())), ((s0, a, ()), (s1, dig Y.natAbs, ()), (z, ()), dQ a Y a.length, ())))
    (fun k => (((a.length, a.length), (dig (upA a k % Y).toNat, (a.length : Int) - 1 - (k : Int), ())), ((s0, a, ()), (s1, dig Y.natAbs, ()), (z, ()), List.replicate (a.length - k) 0 ++ dQ a Y k, ()))) ?_ ?_ (lt_rounds (by omega))
  · have h0 : dig (upA a 0 % Y).toNat = [] := by simp [upA, dig_zero]
    have h1 : List.replicate (a.length - 0) (0 : Int) ++ dQ a Y 0 = List.replicate a.length 0 := by simp [dQ]
    have h2 : (a.length : Int) - 1 - ((0 : Nat) : Int) = (a.length : Int) - 1 := by omega
    simp only [h0, h1, h2] at key
    exact key
  · intro k hk
    have hidx : (a.length : Int) - 1 - (k : Int) = ((a.length - 1 - k : Nat) : Int) := by omega
    have hnext : wrap64 (((a.length - 1 - k : Nat) : Int) - 1) = (a.length : Int) - 1 - ((k + 1 : Nat) : Int) := by rw [wrap64_id (by omega) (by omega)]; omega
    have hrep : List.replicate (a.length - k) (0 : Int) = List.replicate ((a.length - 1 - k) + 1) 0 := by congr 1; omega
    have hset : (List.replicate (a.length - k) 0 ++ dQ a Y k).set (a.length - 1 - k) ((a.getD (a.length - 1 - k) 0 + 1000000000 * (upA a k % Y)) / Y) = List.replicate (a.length - (k + 1)) 0 ++ dQ a Y (k + 1) := by
      rw [hrep, set_zeros, dQ, show a.length - (k + 1) = a.length - 1 - k by omega]
    have hblen : (List.replicate (a.length - k) (0 : Int) ++ dQ a Y k).length = a.length := by rw [List.length_append, List.length_replicate, dQ_len]; omega
    have hb := dQ_bound ha hY k
    have hd := ha.getD (a.length - 1 - k)
    have hr0 := Int.emod_nonneg (upA a k) (show Y ≠ 0 by omega)
    have hr1 := Int.emod_lt_of_pos (upA a k) hY
    have hmod := upA_mod a (Y := Y) k
    generalize hR : upA a k % Y = R at *
    generalize hV : a.getD (a.length - 1 - k) 0 + 1000000000 * R = V at *
    have hV0 : 0 ≤ V := by omega
    have hRl : (dig R.toNat).length ≤ 10000 := Nat.le_trans (dig_mono (by omega)) hl
    have hVl : (dig V.toNat).length ≤ 10001 := by
      refine Nat.le_trans (m := (dig Y.natAbs).length + 1) (dig_len ?_) (by omega)
      have q1 := dig_len_pw Y.natAbs
      simp only [pw]; omega
    have hdg : Dg ([a.getD (a.length - 1 - k) 0] ++ dig R.toNat) := Dg.append (fun x hx => by rw [List.mem_singleton] at hx; subst hx; exact hd) (dig_Dg _)
    have hf : f122 ([a.getD (a.length - 1 - k) 0] ++ dig R.toNat, ()) = some (dig V.toNat, ()) := by
      rw [f122_eq _ (by simp; omega) hdg]
      congr 3
      have : dval ([a.getD (a.length - 1 - k) 0] ++ dig R.toNat) = V := by
        show a.getD (a.length - 1 - k) 0 + 1000000000 * dval (dig R.toNat) = V
        rw [dig_dv]; omega
      rw [this]
    have hin : l124_2 (((a.length, a.length), (dig V.toNat, ((a.length - 1 - k : Nat) : Int), (0 : Int), (999999999 : Int), ())), ((s0, a, ()), (s1, dig Y.natAbs, ()), (z, ()), List.replicate (a.length - k) 0 ++ dQ a Y k, ())) =
        some (.inl (((a.length, a.length), (dig V.toNat, ((a.length - 1 - k : Nat) : Int), V / Y, ())), ((s0, a, ()), (s1, dig Y.natAbs, ()), (z, ()), List.replicate (a.length - k) 0 ++ dQ a Y k, ()))) :=
      it124 _ _ _ s0 s1 z a _ V Y hV0 hY hl (by omega) 999999999 0 999999999 rounds (by omega) (by omega) hb.1 (by omega) (by omega) (lt_rounds (by omega))
    have e1 : f100 (1, dig Y.natAbs, ()) = some (enc Y, ()) := by rw [enc_pos hY, f100_enc Y (by omega)]
    have e2 := f98_eq (V / Y) (by omega)
    have e3 := f74_one (x := Y) hl hb.1 hb.2
    have e4 := f120_rem V Y hV0 hY (by omega)
    rw [hidx]
    dsimp only
    simp only [s124_0, t124_0, Tr.val_test, Tr.val_fin, leF_eq, Int.toNat_natCast]
    rw [if_pos (by simp), if_pos (by simp; omega)]
    by_cases hR0 : R = 0
    · have hnil : dig R.toNat = [] := by rw [hR0]; exact dig_zero
      rw [hnil, List.append_nil] at hf
      rw [hnil]
      simp only [g122, hf, b124_2, hin, isBrk, outB, g100, e1, g98, e2, g74, e3, g120, e4, Option.isSome_some, Option.getD_some, if_true, Int.toNat_natCast, Nat.zero_add, hset, hnext, hmod, hblen]
      rw [if_pos (by simp), if_pos (by simp; omega), if_pos (by rw [ble_eq_true']; omega)]
    · have hne : (dig R.toNat).length ≠ 0 := fun t => by
        have := dig_nil.1 (List.eq_nil_of_length_eq_zero t); omega
      simp only [g122, hf, b124_2, hin, isBrk, outB, g100, e1, g98, e2, g74, e3, g120, e4, Option.isSome_some, Option.getD_some, if_true, Int.toNat_natCast, Nat.zero_add, hset, hnext, hmod, hblen]
      rw [if_neg (by rw [beq_eq_true']; omega), if_neg (by rw [ble_eq_true']; omega), if_pos (by simp; omega), if_pos (by rw [beq_eq_true']; simp; omega), if_pos (by simp; omega), if_pos (by rw [ble_eq_true']; omega)]
  · have e : (a.length : Int) - 1 - (a.length : Int) = -1 := by omega
    simp only [e, Nat.sub_self, List.replicate_zero, List.nil_append]
    simp [s124_0, t124_0, leF_eq]

theorem ediv_neg_floor {x Y : Int} (hY : 0 < Y) : x / Y = if (-x) % Y = 0 then -((-x) / Y) else -((-x) / Y) - 1 := by
  have h1 := Int.emod_add_mul_ediv (-x) Y
  have h2 := Int.emod_nonneg (-x) (show Y ≠ 0 by omega)
  have h3 := Int.emod_lt_of_pos (-x) hY
  split
  · rename_i h
    refine ((Int.ediv_emod_unique (r := 0) hY).2 ⟨?_, by omega, hY⟩).1
    rw [Int.mul_neg]; omega
  · refine ((Int.ediv_emod_unique (r := Y - (-x) % Y) hY).2 ⟨?_, by omega, by omega⟩).1
    rw [Int.mul_sub, Int.mul_neg]; omega

theorem f124_eq (x Y : Int) (hY : 0 < Y) (hl : (dig Y.natAbs).length ≤ 10000) (h : (dig x.natAbs).length ≤ 10000) : f124 (enc x, enc Y, ()) = some (enc (x / Y), ()) := by
  show f124 ((x.sign, dig x.natAbs, ()), (Y.sign, dig Y.natAbs, ()), ()) = _
  have hL := l124 x.sign Y.sign 0 (dig x.natAbs) Y (dig_Dg _) hY hl h
  have hup : upA (dig x.natAbs) (dig x.natAbs).length = (x.natAbs : Int) := by
    rw [upA_drop _ _ (Nat.le_refl _), Nat.sub_self, List.drop_zero, dig_dv]
  rw [hup] at hL
  have hdq := dQ_dv (dig x.natAbs) hY (dig x.natAbs).length
  rw [hup] at hdq
  have hw : wrap64 (((dig x.natAbs).length : Int) - 1) = ((dig x.natAbs).length : Int) - 1 := wrap64_id (by omega) (by omega)
  have hql := dQ_len (dig x.natAbs) Y (dig x.natAbs).length
  have hf : f100 (x.sign, dQ (dig x.natAbs) Y (dig x.natAbs).length, ()) = some (mkN x.sign ((x.natAbs : Int) / Y), ()) := by
    rw [f100_eq _ _ (by omega) (dQ_Dg (dig_Dg _) hY _), hdq]
  have h0 := Int.ediv_nonneg (show (0 : Int) ≤ (x.natAbs : Int) by omega) (show 0 ≤ Y by omega)
  have hle : (x.natAbs : Int) / Y ≤ x.natAbs := Int.ediv_le_self _ (by omega)
  simp only [f124, t124, Tr.val_test, Tr.val_fin, eqF_eq, leF_eq, hw, Int.toNat_natCast, b124_0, hL, isBrk, outB, if_true, g100, hf, hql, Option.isSome_some, Option.getD_some]
  rcases sgn_cases x with ⟨hx, e⟩ | ⟨hx, e⟩ | ⟨hx, e⟩
  · have ex : (x.natAbs : Int) = -x := by omega
    rw [if_neg (by rw [e]; simp), if_pos (by simp; omega), if_pos (by simp), if_pos (by rw [e]; simp)]
    have hm : mkN x.sign ((x.natAbs : Int) / Y) = enc (-((-x) / Y)) := mkN_eq (by rw [ex] at h0 ⊢; omega) fun hz => by
      rw [ex] at h0; rw [e, Int.sign_eq_neg_one_of_neg (by omega)]
    have hfl := ediv_neg_floor (x := x) hY
    have hr0 := Int.emod_nonneg (-x) (show Y ≠ 0 by omega)
    rw [hm, ex]
    by_cases hr : (-x) % Y = 0
    · rw [if_pos hr] at hfl
      rw [if_neg (by rw [hr]; simp [dig_zero]), hfl]
    · rw [if_neg hr] at hfl
      have hne : (dig ((-x) % Y).toNat).length ≠ 0 := fun t => by
        have := dig_nil.1 (List.eq_nil_of_length_eq_zero t); omega
      have e1 := f98_eq 1 (by decide)
      have hlq : (dig (-((-x) / Y)).natAbs).length ≤ 10000 := Nat.le_trans (dig_mono (by rw [ex] at h0 hle; omega)) h
      have e2 : f96 (((enc (-((-x) / Y))).1, (enc (-((-x) / Y))).2.1, ()), ((enc 1).1, (enc 1).2.1, ()), ()) = some (enc (-((-x) / Y) - 1), ()) := f96_eq _ 1 (by omega) (by have := dig_small (x := 1) (by omega) (by omega); omega)
      rw [if_pos (by simp only [Bool.not_eq_true', decide_eq_false_iff_not]; omega)]
      simp only [g98, e1, g96, e2, Option.isSome_some, Option.getD_some, if_true]
      rw [hfl]
  · subst hx
    rw [if_pos (by simp), Int.zero_ediv]; simp [enc, dig_zero]
  · have ex : (x.natAbs : Int) = x := by omega
    rw [if_neg (by rw [e]; simp), if_pos (by simp; omega), if_pos (by simp), if_neg (by rw [e]; simp)]
    rw [mkN_eq (z := x / Y) (by rw [ex] at h0 ⊢; omega) fun hz => by
      rw [ex] at h0; rw [e, Int.sign_eq_one_of_pos (by omega)]]

theorem pw_two : ∀ n, pw n ≤ (((2 ^ (30 * n) : Nat)) : Int)
  | 0 => by simp [pw]
  | n + 1 => by
    have := pw_two n
    have e : (2 : Nat) ^ (30 * (n + 1)) = 1073741824 * 2 ^ (30 * n) := by rw [Nat.mul_add, Nat.pow_add, Nat.mul_comm]
    rw [e, pw]
    omega

theorem mod_half {b r : Nat} (h0 : 0 < r) (h : r < b) : 2 * (b % r) < b := by
  have h1 := Nat.mod_lt b h0
  have h2 := Nat.div_add_mod b r
  have h3 : 1 ≤ b / r := (Nat.one_le_div_iff h0).2 (Nat.le_of_lt h)
  have h4 : r * 1 ≤ r * (b / r) := Nat.mul_le_mul_left r h3
  omega

theorem s123_step (a b : Nat) (z : Int) (hb : b ≠ 0) (h1 : (dig a).length ≤ 10000) (h2 : (dig b).length ≤ 10000) :
    s123_0 ((), (((a : Int).sign, dig a, ()), ((b : Int).sign, dig b, ()), (z, ()), ())) = some (.again ((), (((b : Int).sign, dig b, ()), (((a % b : Nat) : Int).sign, dig (a % b), ()), (z, ()), ()))) := by
  have e0 : f70 (((b : Int).sign, dig b, ()), ()) = some ((b : Int).sign, ()) := rfl
  have e1 : f124 (((a : Int).sign, dig a, ()), ((b : Int).sign, dig b, ()), ()) = some (enc ((a : Int) / (b : Int)), ()) := f124_eq a b (by omega) h2 h1
  have hd : (dig ((a : Int) / (b : Int)).natAbs).length ≤ 10000 := Nat.le_trans (dig_mono (by
    have : ((a : Int) / (b : Int)).natAbs = a / b := by rw [← Int.natCast_ediv]; rfl
    rw [this]; exact Nat.div_le_self _ _)) h1
  have e2 : f74 (((enc ((a : Int) / (b : Int))).1, (enc ((a : Int) / (b : Int))).2.1, ()), ((b : Int).sign, dig b, ()), ()) = some (enc ((a : Int) / (b : Int) * (b : Int)), ()) := f74_eq _ b (by simp only [Int.natAbs_natCast]; omega)
  have hm := Int.emod_add_mul_ediv (a : Int) b
  have hle : 0 ≤ (a : Int) / (b : Int) * (b : Int) := Int.mul_nonneg (Int.ediv_nonneg (by omega) (by omega)) (by omega)
  have hmn := Int.emod_nonneg (a : Int) (show (b : Int) ≠ 0 by omega)
  have hcm : (a : Int) / (b : Int) * (b : Int) = (b : Int) * ((a : Int) / (b : Int)) := Int.mul_comm _ _
  have e3 : f96 (((a : Int).sign, dig a, ()), ((enc ((a : Int) / (b : Int) * (b : Int))).1, (enc ((a : Int) / (b : Int) * (b : Int))).2.1, ()), ()) = some (enc ((a % b : Nat) : Int), ()) := by
    have h := f96_eq a ((a : Int) / (b : Int) * (b : Int)) (by simp only [Int.natAbs_natCast]; omega) (Nat.le_trans (dig_mono (n := a) (by omega)) (by omega))
    rw [show (a : Int) - (a : Int) / (b : Int) * (b : Int) = ((a % b : Nat) : Int) by rw [Int.natCast_emod]; omega] at h
    exact h
  have hs : (b : Int).sign = 1 := Int.sign_eq_one_of_pos (by omega)
  simp only [s123_0, t123_0, g70, e0, g124, e1, g74, e2, g96, e3, Option.isSome_some, Option.getD_some, Tr.val_test, Tr.val_fin, eqF_eq, if_true]
  rw [if_pos (by rw [hs]; simp)]
  rfl

theorem s123_end (a : Nat) (z : Int) : s123_0 ((), (((a : Int).sign, dig a, ()), (((0 : Nat) : Int).sign, dig 0, ()), (z, ()), ())) = some (.brk ((), (((a : Int).sign, dig a, ()), (((0 : Nat) : Int).sign, dig 0, ()), (z, ()), ()))) := by
  have e0 : f70 ((((0 : Nat) : Int).sign, dig 0, ()), ()) = some (((0 : Nat) : Int).sign, ()) := rfl
  simp only [s123_0, t123_0, g70, e0, Option.isSome_some, Option.getD_some, Tr.val_test, Tr.val_fin, eqF_eq, if_true]
  rw [if_neg (by simp)]

theorem it123 (z : Int) : ∀ (k a b m : Nat), b < 2 ^ k → (dig a).length ≤ 10000 → (dig b).length ≤ 10000 → 2 * k < m →
    itr s123_0 m ((), (((a : Int).sign, dig a, ()), ((b : Int).sign, dig b, ()), (z, ()), ())) =
      some (.inl ((), (((Nat.gcd a b : Nat) : Int).sign, dig (Nat.gcd a b), ()), (((0 : Nat) : Int).sign, dig 0, ()), (z, ()), ()))
  | k, a, b, m, h, h1, h2, hm => by
    obtain ⟨m, rfl⟩ : ∃ j, m = j + 1 := ⟨m - 1, by omega⟩
    by_cases hb : b = 0
    · subst hb
      rw [itr, s123_end, Nat.gcd_zero_right]
    · rw [itr, s123_step a b z hb h1 h2]
      dsimp only
      have hr := Nat.mod_lt a (Nat.pos_of_ne_zero hb)
      have hrl : (dig (a % b)).length ≤ 10000 := Nat.le_trans (dig_mono (Nat.le_of_lt hr)) h2
      have hg : Nat.gcd a b = Nat.gcd b (a % b) := by rw [Nat.gcd_comm, Nat.gcd_rec, Nat.gcd_comm]
      obtain ⟨m, rfl⟩ : ∃ j, m = j + 1 := ⟨m - 1, by
        cases k with
        | zero => simp at h; omega
        | succ k => omega⟩
      by_cases hr0 : a % b = 0
      · rw [hg, hr0, itr, s123_end, Nat.gcd_zero_right]
      · rw [itr, s123_step b (a % b) z hr0 h2 hrl]
        dsimp only
        have hh := mod_half (Nat.pos_of_ne_zero hr0) hr
        have hg2 : Nat.gcd b (a % b) = Nat.gcd (a % b) (b % (a % b)) := by rw [Nat.gcd_comm, Nat.gcd_rec, Nat.gcd_comm]
        cases k with
        | zero => simp at h; omega
        | succ k =>
          rw [hg, hg2]
          have h3 := Nat.mod_lt b (Nat.pos_of_ne_zero hr0)
          exact it123 z k (a % b) (b % (a % b)) m (by rw [Nat.pow_succ] at h; omega) hrl (Nat.le_trans (dig_mono (by omega)) hrl) (by omega)

theorem f123_eq (x y : Int) (h1 : (dig x.natAbs).length ≤ 10000) (h2 : (dig y.natAbs).length ≤ 10000) : f123 (enc x, enc y, ()) = some (enc (Nat.gcd x.natAbs y.natAbs : Nat), ()) := by
  have e0 : f132 ((x.sign, dig x.natAbs, ()), ()) = some (enc x.natAbs, ()) := f132_eq x
  have e1 : f132 ((y.sign, dig y.natAbs, ()), ()) = some (enc y.natAbs, ()) := f132_eq y
  have hlt : y.natAbs < 2 ^ (30 * (dig y.natAbs).length) := by
    have q1 := dig_len_pw y.natAbs
    have q2 := pw_two (dig y.natAbs).length
    omega
  have hl : l123_0 ((), (((enc x.natAbs).1, (enc x.natAbs).2.1, ()), ((enc y.natAbs).1, (enc y.natAbs).2.1, ()), ((0 : Int), ()), ())) =
      some (.inl ((), (((Nat.gcd x.natAbs y.natAbs : Nat) : Int).sign, dig (Nat.gcd x.natAbs y.natAbs), ()), (((0 : Nat) : Int).sign, dig 0, ()), ((0 : Int), ()), ())) :=
    it123 0 _ x.natAbs y.natAbs rounds hlt h1 h2 (lt_rounds (by omega))
  show f123 ((x.sign, dig x.natAbs, ()), (y.sign, dig y.natAbs, ()), ()) = _
  simp only [f123, t123, g132, e0, e1, b123_0, hl, Option.isSome_some, Option.getD_some, Tr.val_test, Tr.val_fin, isBrk, outB, if_true]
  rfl

def encR (r : Rat) : (Int × List Int × PUnit) × (Int × List Int × PUnit) × PUnit := (enc r.num, enc (r.den : Int), ())

def rsz (r : Rat) (n : Nat) : Prop := (dig r.num.natAbs).length ≤ n ∧ (dig r.den).length ≤ n

theorem len_mul (m n : Nat) : (dig (m * n)).length ≤ (dig m).length + (dig n).length := dig_len (by
  have h1 := dig_len_pw m; have h2 := dig_len_pw n
  rw [pw_add, Int.natCast_mul]
  rcases Nat.eq_zero_or_pos n with h | h
  · subst h
    have := pw_pos (dig m).length; have := pw_pos (dig 0).length
    have := Int.mul_pos (pw_pos (dig m).length) (pw_pos (dig 0).length)
    simpa using this
  · exact Int.lt_of_lt_of_le (Int.mul_lt_mul_of_pos_right h1 (by omega)) (Int.mul_le_mul_of_nonneg_left (Int.le_of_lt h2) (Int.le_of_lt (pw_pos _))))

theorem len_add (x y : Int) {k : Nat} (h1 : (dig x.natAbs).length ≤ k) (h2 : (dig y.natAbs).length ≤ k) : (dig (x + y).natAbs).length ≤ k + 1 := dig_len (by
  have q1 := dig_len_pw x.natAbs; have q2 := dig_len_pw y.natAbs
  have q3 : pw (dig x.natAbs).length ≤ pw k := pw_le h1
  have q4 : pw (dig y.natAbs).length ≤ pw k := pw_le h2
  simp only [pw]; omega)

theorem len_imul (x y : Int) : (dig (x * y).natAbs).length ≤ (dig x.natAbs).length + (dig y.natAbs).length := by rw [Int.natAbs_mul]; exact len_mul _ _

theorem f101_eq (x : Int) (y : Nat) (hy : y ≠ 0) (h1 : (dig x.natAbs).length ≤ 10000) (h2 : (dig y).length ≤ 10000) : f101 (enc x, enc (y : Int), ()) = some (encR (Rat.normalize x y hy), ()) := by
  have hs : (y : Int).sign = 1 := Int.sign_eq_one_of_pos (by omega)
  have e0 : f70 (((y : Int).sign, dig (y : Int).natAbs, ()), ()) = some ((y : Int).sign, ()) := rfl
  have e1 : f123 ((x.sign, dig x.natAbs, ()), ((y : Int).sign, dig (y : Int).natAbs, ()), ()) = some (enc (Nat.gcd x.natAbs y : Nat), ()) := f123_eq x y h1 h2
  have e2 := f98_eq 1 (by decide)
  have hg : 0 < Nat.gcd x.natAbs y := Nat.gcd_pos_of_pos_right _ (by omega)
  have hgl : (dig (Nat.gcd x.natAbs y)).length ≤ 10000 := Nat.le_trans (dig_mono (Nat.gcd_le_right _ (by omega))) h2
  have hnum : (Rat.normalize x y hy).num = x / ((Nat.gcd x.natAbs y : Nat) : Int) := by rw [Rat.normalize_eq]
  have hden : (Rat.normalize x y hy).den = y / Nat.gcd x.natAbs y := by rw [Rat.normalize_eq]
  generalize hgg : Nat.gcd x.natAbs y = g at *
  have e3 : f73 (((enc (g : Nat)).1, (enc (g : Nat)).2.1, ()), ((enc 1).1, (enc 1).2.1, ()), ()) = some (((g : Int) - 1).sign, ()) := f73_eq (g : Int) 1 (by simp only [Int.natAbs_natCast]; omega) (by have := dig_small (x := 1) (by omega) (by omega); omega)
  have e4 : f124 ((x.sign, dig x.natAbs, ()), ((enc (g : Nat)).1, (enc (g : Nat)).2.1, ()), ()) = some (enc (x / (g : Int)), ()) := f124_eq x g (by omega) hgl h1
  have e5 : f124 (((y : Int).sign, dig (y : Int).natAbs, ()), ((enc (g : Nat)).1, (enc (g : Nat)).2.1, ()), ()) = some (enc ((y : Int) / (g : Int)), ()) := f124_eq y g (by omega) hgl h2
  show f101 ((x.sign, dig x.natAbs, ()), ((y : Int).sign, dig (y : Int).natAbs, ()), ()) = _
  simp only [f101, t101, g70, e0, g123, e1, g98, e2, g73, e3, Option.isSome_some, Option.getD_some, Tr.val_test, Tr.val_fin, leF_eq, eqF_eq, if_true]
  rw [if_neg (by rw [hs]; simp)]
  by_cases h : g = 1
  · subst h
    rw [if_pos (by simp), encR, hnum, hden]
    simp [enc]
  · rw [if_neg (by rw [Int.sign_eq_one_of_pos (by omega)]; simp)]
    simp only [g124, e4, e5, Option.isSome_some, Option.getD_some, if_true]
    rw [encR, hnum, hden, Int.natCast_ediv]

theorem f75_eq (x : Int) (y : Nat) (hy : y ≠ 0) (h : x.natAbs ≤ 9223372036854775807) (h2 : y ≤ 9223372036854775807) : f75 (x, (y : Int), ()) = some (encR (Rat.normalize x y hy), ()) := by
  have e1 := f98_eq x h
  have e2 := f98_eq (y : Int) (by omega)
  have e3 : f101 (((enc x).1, (enc x).2.1, ()), ((enc (y : Int)).1, (enc (y : Int)).2.1, ()), ()) = some (encR (Rat.normalize x y hy), ()) := f101_eq x y hy
    (Nat.le_trans (dig_len (k := 3) (by simp only [pw]; omega)) (by omega)) (Nat.le_trans (dig_len (k := 3) (by simp only [pw]; omega)) (by omega))
  simp only [f75, t75, g98, e1, e2, g101, e3, Option.isSome_some, Option.getD_some, Tr.val_test, Tr.val_fin, if_true]

theorem f109_eq (r s : Rat) (hr : rsz r 2000) (hs : rsz s 2000) : f109 (encR r, encR s, ()) = some (encR (r + s), ()) := by
  obtain ⟨r1, r2⟩ := hr
  obtain ⟨s1, s2⟩ := hs
  have m1 := len_imul r.num (s.den : Int)
  have m2 := len_imul s.num (r.den : Int)
  have m3 := len_mul r.den s.den
  simp only [Int.natAbs_natCast] at m1 m2
  have m4 := len_add (r.num * (s.den : Int)) (s.num * (r.den : Int)) (k := 4000) (by omega) (by omega)
  have e1 : f74 ((r.num.sign, dig r.num.natAbs, ()), ((s.den : Int).sign, dig s.den, ()), ()) = some (enc (r.num * (s.den : Int)), ()) := f74_eq _ _ (by simp only [Int.natAbs_natCast]; omega)
  have e2 : f74 ((s.num.sign, dig s.num.natAbs, ()), ((r.den : Int).sign, dig r.den, ()), ()) = some (enc (s.num * (r.den : Int)), ()) := f74_eq _ _ (by simp only [Int.natAbs_natCast]; omega)
  have e3 : f97 (((enc (r.num * (s.den : Int))).1, (enc (r.num * (s.den : Int))).2.1, ()), ((enc (s.num * (r.den : Int))).1, (enc (s.num * (r.den : Int))).2.1, ()), ()) = some (enc (r.num * (s.den : Int) + s.num * (r.den : Int)), ()) := f97_eq _ _ (by omega) (by omega)
  have e4 : f74 (((r.den : Int).sign, dig r.den, ()), ((s.den : Int).sign, dig s.den, ()), ()) = some (enc ((r.den * s.den : Nat) : Int), ()) := by
    rw [Int.natCast_mul]; exact f74_eq (r.den : Int) (s.den : Int) (by simp only [Int.natAbs_natCast]; omega)
  have e5 : f101 (((enc (r.num * (s.den : Int) + s.num * (r.den : Int))).1, (enc (r.num * (s.den : Int) + s.num * (r.den : Int))).2.1, ()), ((enc ((r.den * s.den : Nat) : Int)).1, (enc ((r.den * s.den : Nat) : Int)).2.1, ()), ()) = some (encR (r + s), ()) := by
    rw [Rat.add_def]; exact f101_eq _ _ _ (by omega) (by omega)
  show f109 (((r.num.sign, dig r.num.natAbs, ()), ((r.den : Int).sign, dig r.den, ()), ()), ((s.num.sign, dig s.num.natAbs, ()), ((s.den : Int).sign, dig s.den, ()), ()), ()) = _
  simp only [f109, t109, g74, e1, e2, g97, e3, e4, g101, e5, Option.isSome_some, Option.getD_some, Tr.val_test, Tr.val_fin, if_true]

theorem f80_eq (r s : Rat) (hr : rsz r 2000) (hs : rsz s 2000) : f80 (encR r, encR s, ()) = some (encR (r - s), ()) := by
  have e0 : f117 ((s.num.sign, dig s.num.natAbs, ()), ()) = some (enc (-s.num), ()) := f117_eq s.num
  have e1 : f110 (((s.num.sign, dig s.num.natAbs, ()), ((s.den : Int).sign, dig s.den, ()), ()), ()) = some (encR (-s), ()) := by
    simp only [f110, t110, g117, e0, Option.isSome_some, Option.getD_some, Tr.val_test, Tr.val_fin, if_true]
    rfl
  have hs' : rsz (-s) 2000 := ⟨by rw [Rat.neg_num, Int.natAbs_neg]; exact hs.1, by rw [Rat.neg_den]; exact hs.2⟩
  have e2 : f109 (((r.num.sign, dig r.num.natAbs, ()), ((r.den : Int).sign, dig r.den, ()), ()), (((encR (-s)).1.1, (encR (-s)).1.2.1, ()), ((encR (-s)).2.1.1, (encR (-s)).2.1.2.1, ()), ()), ()) = some (encR (r + -s), ()) := f109_eq r (-s) hr hs'
  show f80 (((r.num.sign, dig r.num.natAbs, ()), ((r.den : Int).sign, dig r.den, ()), ()), ((s.num.sign, dig s.num.natAbs, ()), ((s.den : Int).sign, dig s.den, ()), ()), ()) = _
  simp only [f80, t80, g110, e1, g109, e2, Option.isSome_some, Option.getD_some, Tr.val_test, Tr.val_fin, if_true, Rat.sub_eq_add_neg]

def dvF (x : Int) (l : List Int) : Nat → Int
  | 0 => x
  | i + 1 => euc (dvF x l i) (l.getD i 0)

theorem lt_r3 {n : Nat} (h : n ≤ 9223372036854775808) : n < rounds := by unfold rounds; omega

theorem l56i (l : List Int) (n i : Int) (a b : Int) (h : b.natAbs ≤ 9223372036854775808) : l56_2 ((a, b, l, n, i, ()), ()) = some (.inl ((euc a b, l, n, i, ()), ())) := by
  refine itr_euc (fun a b => ((a, b, l, n, i, ()), ())) (fun a => ((a, l, n, i, ()), ())) ?_ ?_ rounds a b (lt_r3 h)
  · intro a b hb
    simp [s56_2, t56_2, eqF_eq, hb]
  · intro a
    simp [s56_2, t56_2, eqF_eq]

theorem l56 (x : Int) (l : List Int) (h : l.length ≤ 1000000000) (hb : ∀ i, i < l.length → (l.getD i 0).natAbs ≤ 9223372036854775808) : l56_0 ((x, l, (l.length : Int), (0 : Int), ()), ()) = some (.inl ((dvF x l l.length, ()), ())) := by
  refine itr_brk (fun i => ((dvF x l i, l, (l.length : Int), (i : Int), ()), ())) (n := l.length) ?_ ?_ (lt_rounds (by omega))
  · intro i hi
    have e := l56i l (l.length : Int) (i : Int) (dvF x l i) (l.getD i 0) (hb i hi)
    simp only [s56_0, t56_0, Tr.val_test, Tr.val_fin, Tr.val_stop, leF_eq, Int.toNat_natCast]
    rw [if_pos (by simp; omega), if_pos (by simp; omega)]
    simp only [e, isBrk, b56_2, outB, if_true, wrap64_nat (show i ≤ 9223372036854775806 by omega), dvF]
  · simp [s56_0, t56_0, leF_eq]

def absW (x : Int) : Int := if x < IntKind.wrap .i64 (0 - x) then IntKind.wrap .i64 (0 - x) else x

theorem absW_eq {x : Int} (h : x.natAbs ≤ 9223372036854775807) : absW x = (x.natAbs : Int) := by
  unfold absW
  rw [wn64 (by omega) (by omega)]
  by_cases hx : x < -x
  · rw [if_pos hx]; omega
  · rw [if_neg hx]; omega

theorem f56_eq (x : Int) (l : List Int) (h : l.length ≤ 1000000000) (hb : ∀ i, i < l.length → (l.getD i 0).natAbs ≤ 9223372036854775808) : f56 (x, l, ()) = some (absW (dvF x l l.length), ()) := by
  simp only [f56, t56, Tr.val_test, Tr.val_fin, Tr.val_stop, l56 x l h hb, isBrk, b56_0, outB, if_true, absW]

theorem gcd_le64 {a b : Nat} (ha : a ≤ 9223372036854775807) (hb : b ≤ 9223372036854775807) : Nat.gcd a b ≤ 9223372036854775807 := by
  by_cases h : b = 0
  · subst h; simpa using ha
  · exact Nat.le_trans (Nat.gcd_le_right _ (by omega)) hb

theorem f56_one (x a : Int) (hx : x.natAbs ≤ 9223372036854775807) (ha : a.natAbs ≤ 9223372036854775807) : f56 (x, [a], ()) = some (((Nat.gcd x.natAbs a.natAbs : Nat) : Int), ()) := by
  rw [f56_eq x [a] (by simp) (fun i hi => by
    have : i = 0 := by simp at hi; exact hi
    subst this; simp; omega)]
  have e : (dvF x [a] [a].length).natAbs = Nat.gcd x.natAbs a.natAbs := by
    simp only [List.length, dvF, List.getD_cons_zero, euc_abs]
  rw [absW_eq (by rw [e]; exact gcd_le64 hx ha), e]

def smP (f : Nat → Int) : Nat → Int
  | 0 => 0
  | k + 1 => smP f k + f k

theorem mulB {x y : Int} {A B : Nat} (hx : x.natAbs ≤ A) (hy : y.natAbs ≤ B) : (x * y).natAbs ≤ A * B := by
  rw [Int.natAbs_mul]
  exact Nat.mul_le_mul hx hy

theorem smP_congr {f g : Nat → Int} : ∀ n, (∀ i, i < n → f i = g i) → smP f n = smP g n
  | 0, _ => rfl
  | n + 1, h => by simp only [smP]; rw [smP_congr n fun i hi => h i (by omega), h n (by omega)]

theorem smP_add (f g : Nat → Int) : ∀ n, smP (fun i => f i + g i) n = smP f n + smP g n
  | 0 => rfl
  | n + 1 => by simp only [smP]; rw [smP_add f g n]; omega

theorem smP_mul (a : Int) (f : Nat → Int) : ∀ n, smP (fun i => a * f i) n = a * smP f n
  | 0 => by simp [smP]
  | n + 1 => by simp only [smP]; rw [smP_mul a f n, Int.mul_add]

theorem smP_const (a : Int) : ∀ n : Nat, smP (fun _ => a) n = (n : Int) * a
  | 0 => by simp [smP]
  | n + 1 => by simp only [smP]; rw [smP_const a n]; simp [Int.add_mul]

theorem smP_nn {f : Nat → Int} : ∀ n, (∀ i, i < n → 0 ≤ f i) → 0 ≤ smP f n
  | 0, _ => Int.le_refl _
  | n + 1, h => by
    have := smP_nn n fun i hi => h i (by omega)
    have := h n (by omega)
    simp only [smP]; omega

theorem smP_ge {f : Nat → Int} : ∀ n, (∀ i, i < n → 0 ≤ f i) → ∀ k, k < n → f k ≤ smP f n
  | n + 1, h, k, hk => by
    have h1 := h n (by omega)
    simp only [smP]
    by_cases hkn : k = n
    · have := smP_nn n fun i hi => h i (by omega)
      subst hkn; omega
    · have := smP_ge n (fun i hi => h i (by omega)) k (by omega)
      omega

theorem sq_nn (a : Int) : 0 ≤ a * a := by
  rcases Int.le_total 0 a with h | h
  · exact Int.mul_nonneg h h
  · have := Int.mul_nonneg (show 0 ≤ -a by omega) (show 0 ≤ -a by omega)
    rwa [Int.neg_mul_neg] at this

theorem wrapK {n : Int} (h1 : n.natAbs ≤ 9223372036854775807) : IntKind.wrap .i64 n = n := by rw [← wrap64_eq, wrap64_id (by omega) (by omega)]

theorem tdiv_le (a : Int) (b : Nat) : (a.tdiv (b : Int)).natAbs ≤ a.natAbs := by
  rw [Int.natAbs_tdiv]
  exact Nat.div_le_self _ _

def fr (x y : Int) : Int × Int × PUnit := (x.tdiv (Nat.gcd x.natAbs y.natAbs : Nat), y.tdiv (Nat.gcd x.natAbs y.natAbs : Nat), ())

theorem f65_eq (x y : Int) (hx : x.natAbs ≤ 9223372036854775807) (hy : y.natAbs ≤ 9223372036854775807) (h0 : y ≠ 0) : f65 (x, y, ()) = some (fr x y, ()) := by
  have e := f56_one y x hy hx
  rw [Nat.gcd_comm] at e
  have hg : Nat.gcd x.natAbs y.natAbs ≠ 0 := by
    have := Nat.gcd_pos_of_pos_right x.natAbs (show 0 < y.natAbs by omega)
    omega
  have hz : (((Nat.gcd x.natAbs y.natAbs : Nat) : Int) == (0 : Int)) = false := by
    rw [beq_eq_false_iff_ne]; omega
  have v1 : IntKind.wrap .i64 (x.tdiv (Nat.gcd x.natAbs y.natAbs : Nat)) = x.tdiv (Nat.gcd x.natAbs y.natAbs : Nat) := wrapK (by have := tdiv_le x (Nat.gcd x.natAbs y.natAbs); omega)
  have v2 : IntKind.wrap .i64 (y.tdiv (Nat.gcd x.natAbs y.natAbs : Nat)) = y.tdiv (Nat.gcd x.natAbs y.natAbs : Nat) := wrapK (by have := tdiv_le y (Nat.gcd x.natAbs y.natAbs); omega)
  simp only [f65, t65, Tr.val_test, Tr.val_fin, Tr.val_stop, g56, e, hz, v1, v2, Option.isSome_some, Option.getD_some, Bool.false_eq_true, ↓reduceIte]
  rfl

end Go.Vm.Mo

namespace Go.Vm.Mo
open Go
set_option linter.unusedVariables false
set_option linter.unusedSimpArgs false

def px (c : List (List Int)) (y x : Nat) : Int := (ch c y).getD x 0
def pxF (lo hi : Int) (r : List Int) : Option Nat := first (fun i => !wi lo hi (r.getD i 0)) r.length 0
def rowIn (lo hi : Int) (r : List Int) : Bool := (pxF lo hi r).isNone

def shB (c : List (List Int)) (n : Int) (i : Nat) : Bool := decide ((ch c i).length = 0) || !decide (((ch c i).length : Int) = n)
def shF (c : List (List Int)) (n : Int) : Option Nat := first (shB c n) c.length 0
def rgF (c : List (List Int)) : Option Nat := first (fun i => !rowIn 0 255 (ch c i)) c.length 0
def brF (c : List (List Int)) : Option Nat := first (fun i => !rowIn 0 0 (ch c i)) c.length 0

def Sm (c : List (List Int)) : Prop := c.length ≤ 1000 ∧ ∀ i, (ch c i).length ≤ 1000

theorem l136a (c : List (List Int)) (n : Int) (h : Sm c) : l102_0_1 ((c, (c.length : Int), (0 : Int), ()), (n, ()), ()) = match shF c n with
    | some k => some (.inr (((k : Int), (10 : Int), ()), (n, ()), ()))
    | none => some (.inl ((), (n, ()), ())) := by
  have hl := h.1
  refine itr_search (fun i => ((c, (c.length : Int), (i : Int), ()), (n, ()), ())) (shB c n) (fun k => (((k : Int), (10 : Int), ()), (n, ()), ())) (n := c.length) ?_ ?_ (lt_rounds (by omega))
  · intro i hi
    simp only [s102_0_1, t102_0_1, Tr.val_test, Tr.val_fin, Tr.val_stop, leF_eq, eqF_eq, Int.toNat_natCast, wrap64_nat (show i ≤ 9223372036854775806 by omega)]
    rw [if_pos (by simp; omega), if_pos (by simp; omega)]
    simp only [g62, f62_eq, Option.isSome_some, Option.getD_some, if_true, shB, ch]
    by_cases a0 : (List.getD c i []).length = 0
    · have a0' : ((List.getD c i []).length : Int) = 0 := by omega
      rw [if_pos (by rw [decide_eq_true_eq]; exact a0')]
      simp only [a0, decide_true, Bool.true_or, if_true]
      rfl
    · have a0' : ¬ ((List.getD c i []).length : Int) = 0 := by omega
      rw [if_neg (by rw [decide_eq_true_eq]; exact a0')]
      by_cases a1 : ((List.getD c i []).length : Int) = n
      · simp only [a0, a1, decide_true, decide_false, Bool.not_true, Bool.false_or, Bool.false_eq_true, if_false]
      · simp only [a0, a1, decide_false, Bool.not_false, Bool.false_or, if_true]
        rfl
  · simp [s102_0_1, t102_0_1, leF_eq]

theorem rowIn_eq (lo hi : Int) (r : List Int) (h : r.length ≤ 1000) : f66 (lo, hi, r, ()) = some (rowIn lo hi r, ()) := f66_eq lo hi r (by omega)

theorem l136b (c : List (List Int)) (h : Sm c) : l102_0_2 ((c, (c.length : Int), (0 : Int), ()), ()) = match rgF c with
    | some k => some (.inr (((k : Int), (2 : Int), ()), ()))
    | none => some (.inl ((), ())) := by
  have hl := h.1
  refine itr_search (fun i => ((c, (c.length : Int), (i : Int), ()), ())) (fun i => !rowIn 0 255 (ch c i)) (fun k => (((k : Int), (2 : Int), ()), ())) (n := c.length) ?_ ?_ (lt_rounds (by omega))
  · intro i hi
    have e := rowIn_eq 0 255 (ch c i) (h.2 i)
    simp only [ch] at e
    simp only [s102_0_2, t102_0_2, Tr.val_test, Tr.val_fin, Tr.val_stop, leF_eq, eqF_eq, Int.toNat_natCast, wrap64_nat (show i ≤ 9223372036854775806 by omega)]
    rw [if_pos (by simp; omega), if_pos (by simp; omega)]
    simp only [g66, e, g62, f62_eq, Option.isSome_some, Option.getD_some, if_true, ch]
    by_cases hq : rowIn 0 255 (List.getD c i []) = true
    · simp only [hq, Bool.not_true, Bool.false_eq_true, if_false, decide_true]
    · have hq' := Bool.eq_false_iff.2 hq
      simp only [hq', Bool.not_false, if_true]
      rfl
  · simp [s102_0_2, t102_0_2, leF_eq]

theorem l125 (c : List (List Int)) (h : Sm c) : l125_0 ((c, (c.length : Int), (0 : Int), ()), ()) = match brF c with
    | some k => some (.inr (((k : Int), ()), ()))
    | none => some (.inl ((), ())) := by
  have hl := h.1
  refine itr_search (fun i => ((c, (c.length : Int), (i : Int), ()), ())) (fun i => !rowIn 0 0 (ch c i)) (fun k => (((k : Int), ()), ())) (n := c.length) ?_ ?_ (lt_rounds (by omega))
  · intro i hi
    have e := rowIn_eq 0 0 (ch c i) (h.2 i)
    simp only [ch] at e
    simp only [s125_0, t125_0, Tr.val_test, Tr.val_fin, Tr.val_stop, leF_eq, eqF_eq, Int.toNat_natCast, wrap64_nat (show i ≤ 9223372036854775806 by omega)]
    rw [if_pos (by simp; omega), if_pos (by simp; omega)]
    simp only [g66, e, Option.isSome_some, Option.getD_some, if_true, ch]
  · simp [s125_0, t125_0, leF_eq]

def imW (c : List (List Int)) : Int := if (c.length : Int) ≤ 10 ∧ ((ch c 0).length : Int) ≤ 10 then 0 else 8
def imS (c : List (List Int)) : Int := if (shF c ((ch c 0).length : Int)).isSome = true then 10 else 0
def imR (c : List (List Int)) : Int := if (rgF c).isSome = true then 2 else 0
def imB (c : List (List Int)) : Int := if (brF c).isSome = true then 0 else 11
def imE (c : List (List Int)) : Int := if c.length = 0 then 10 else if imS c ≠ 0 then imS c else if imW c ≠ 0 then imW c else if imR c ≠ 0 then imR c else imB c

theorem f48_four (a b c d : Int) : f48 ([a, b, c, d], ()) = some (if a ≠ 0 then a else if b ≠ 0 then b else if c ≠ 0 then c else d, ()) := by
  rw [f48_eq _ (by simp)]
  simp only [firstNZ]
  by_cases h : a = 0
  · by_cases h2 : b = 0
    · by_cases h3 : c = 0
      · by_cases h4 : d = 0
        · simp [h, h2, h3, h4]
        · simp [h, h2, h3, h4]
      · simp [h, h2, h3]
    · simp [h, h2]
  · simp [h]

theorem f76_eq (c : List (List Int)) (h : Sm c) : f76 (c, ()) = some (imE c, ()) := by
  have hl := h.1
  by_cases h0 : c.length = 0
  · have e : decide ((c.length : Int) = 0) = true := by rw [decide_eq_true_eq]; omega
    have hE : imE c = 10 := if_pos h0
    rw [hE]
    simp only [f76, t76, Tr.val_test, Tr.val_fin, eqF_eq, e, if_true]
  have e : decide ((c.length : Int) = 0) = false := by rw [decide_eq_false_iff_not]; omega
  have e0 : (true && decide ((0 : Int) < (c.length : Int))) = true := by simp; omega
  have a1 := l136a c ((ch c 0).length : Int) h
  have a2 := l136b c h
  have a3 := l125 c h
  simp only [ch] at a1
  have k := f48_four (imS c) (imW c) (imR c) (imB c)
  have hE : imE c = (if imS c ≠ 0 then imS c else if imW c ≠ 0 then imW c else if imR c ≠ 0 then imR c else imB c) := by unfold imE; rw [if_neg h0]
  rw [← hE] at k
  cases hs : shF c ((List.getD c 0 []).length : Int) with
  | none =>
    cases hg : rgF c with
    | none =>
      cases hb : brF c with
      | none =>
        by_cases hh : (c.length : Int) ≤ 10
        · by_cases hv : ((List.getD c 0 []).length : Int) ≤ 10
          · rw [hs] at a1; rw [hg] at a2; rw [hb] at a3
            have vS : imS c = 0 := by unfold imS; simp only [ch]; rw [hs]; rfl
            have vR : imR c = 0 := by unfold imR; rw [hg]; rfl
            have vB : imB c = 11 := by unfold imB; rw [hb]; rfl
            have vW : imW c = 0 := by unfold imW; rw [if_pos ⟨hh, hv⟩]
            rw [vS, vW, vR, vB] at k
            simp only [f76, t76, Tr.val_test, Tr.val_fin, Tr.val_stop, leF_eq, eqF_eq, e, e0, a1, a2, a3, isRet, r102_0_1, b102_0_1, r102_0_2, r125_0, outR, outB, hh, hv, g62, f62_eq, g48, k, Option.isSome_some, Option.getD_some, decide_true, decide_false, Bool.not_true, Bool.not_false, Bool.false_eq_true, if_true, if_false]
          · rw [hs] at a1; rw [hg] at a2; rw [hb] at a3
            have vS : imS c = 0 := by unfold imS; simp only [ch]; rw [hs]; rfl
            have vR : imR c = 0 := by unfold imR; rw [hg]; rfl
            have vB : imB c = 11 := by unfold imB; rw [hb]; rfl
            have vW : imW c = 8 := by unfold imW; rw [if_neg (fun q => hv q.2)]
            rw [vS, vW, vR, vB] at k
            simp only [f76, t76, Tr.val_test, Tr.val_fin, Tr.val_stop, leF_eq, eqF_eq, e, e0, a1, a2, a3, isRet, r102_0_1, b102_0_1, r102_0_2, r125_0, outR, outB, hh, hv, g62, f62_eq, g48, k, Option.isSome_some, Option.getD_some, decide_true, decide_false, Bool.not_true, Bool.not_false, Bool.false_eq_true, if_true, if_false]
        · rw [hs] at a1; rw [hg] at a2; rw [hb] at a3
          have vS : imS c = 0 := by unfold imS; simp only [ch]; rw [hs]; rfl
          have vR : imR c = 0 := by unfold imR; rw [hg]; rfl
          have vB : imB c = 11 := by unfold imB; rw [hb]; rfl
          have vW : imW c = 8 := by unfold imW; rw [if_neg (fun q => hh q.1)]
          rw [vS, vW, vR, vB] at k
          simp only [f76, t76, Tr.val_test, Tr.val_fin, Tr.val_stop, leF_eq, eqF_eq, e, e0, a1, a2, a3, isRet, r102_0_1, b102_0_1, r102_0_2, r125_0, outR, outB, hh, g62, f62_eq, g48, k, Option.isSome_some, Option.getD_some, decide_true, decide_false, Bool.not_true, Bool.not_false, Bool.false_eq_true, if_true, if_false]
      | some kb =>
        by_cases hh : (c.length : Int) ≤ 10
        · by_cases hv : ((List.getD c 0 []).length : Int) ≤ 10
          · rw [hs] at a1; rw [hg] at a2; rw [hb] at a3
            have vS : imS c = 0 := by unfold imS; simp only [ch]; rw [hs]; rfl
            have vR : imR c = 0 := by unfold imR; rw [hg]; rfl
            have vB : imB c = 0 := by unfold imB; rw [hb]; rfl
            have vW : imW c = 0 := by unfold imW; rw [if_pos ⟨hh, hv⟩]
            rw [vS, vW, vR, vB] at k
            have kp : ((0 : Int) ≤ (kb : Int)) = True := by simp
            simp only [f76, t76, Tr.val_test, Tr.val_fin, Tr.val_stop, leF_eq, eqF_eq, e, e0, a1, a2, a3, isRet, r102_0_1, b102_0_1, r102_0_2, r125_0, outR, outB, hh, hv, kp, g62, f62_eq, g48, k, Option.isSome_some, Option.getD_some, decide_true, decide_false, Bool.not_true, Bool.not_false, Bool.false_eq_true, if_true, if_false]
          · rw [hs] at a1; rw [hg] at a2; rw [hb] at a3
            have vS : imS c = 0 := by unfold imS; simp only [ch]; rw [hs]; rfl
            have vR : imR c = 0 := by unfold imR; rw [hg]; rfl
            have vB : imB c = 0 := by unfold imB; rw [hb]; rfl
            have vW : imW c = 8 := by unfold imW; rw [if_neg (fun q => hv q.2)]
            rw [vS, vW, vR, vB] at k
            have kp : ((0 : Int) ≤ (kb : Int)) = True := by simp
            simp only [f76, t76, Tr.val_test, Tr.val_fin, Tr.val_stop, leF_eq, eqF_eq, e, e0, a1, a2, a3, isRet, r102_0_1, b102_0_1, r102_0_2, r125_0, outR, outB, hh, hv, kp, g62, f62_eq, g48, k, Option.isSome_some, Option.getD_some, decide_true, decide_false, Bool.not_true, Bool.not_false, Bool.false_eq_true, if_true, if_false]
        · rw [hs] at a1; rw [hg] at a2; rw [hb] at a3
          have vS : imS c = 0 := by unfold imS; simp only [ch]; rw [hs]; rfl
          have vR : imR c = 0 := by unfold imR; rw [hg]; rfl
          have vB : imB c = 0 := by unfold imB; rw [hb]; rfl
          have vW : imW c = 8 := by unfold imW; rw [if_neg (fun q => hh q.1)]
          rw [vS, vW, vR, vB] at k
          have kp : ((0 : Int) ≤ (kb : Int)) = True := by simp
          simp only [f76, t76, Tr.val_test, Tr.val_fin, Tr.val_stop, leF_eq, eqF_eq, e, e0, a1, a2, a3, isRet, r102_0_1, b102_0_1, r102_0_2, r125_0, outR, outB, hh, kp, g62, f62_eq, g48, k, Option.isSome_some, Option.getD_some, decide_true, decide_false, Bool.not_true, Bool.not_false, Bool.false_eq_true, if_true, if_false]
    | some kg =>
      cases hb : brF c with
      | none =>
        by_cases hh : (c.length : Int) ≤ 10
        · by_cases hv : ((List.getD c 0 []).length : Int) ≤ 10
          · rw [hs] at a1; rw [hg] at a2; rw [hb] at a3
            have vS : imS c = 0 := by unfold imS; simp only [ch]; rw [hs]; rfl
            have vR : imR c = 2 := by unfold imR; rw [hg]; rfl
            have vB : imB c = 11 := by unfold imB; rw [hb]; rfl
            have vW : imW c = 0 := by unfold imW; rw [if_pos ⟨hh, hv⟩]
            rw [vS, vW, vR, vB] at k
            simp only [f76, t76, Tr.val_test, Tr.val_fin, Tr.val_stop, leF_eq, eqF_eq, e, e0, a1, a2, a3, isRet, r102_0_1, b102_0_1, r102_0_2, r125_0, outR, outB, hh, hv, g62, f62_eq, g48, k, Option.isSome_some, Option.getD_some, decide_true, decide_false, Bool.not_true, Bool.not_false, Bool.false_eq_true, if_true, if_false]
          · rw [hs] at a1; rw [hg] at a2; rw [hb] at a3
            have vS : imS c = 0 := by unfold imS; simp only [ch]; rw [hs]; rfl
            have vR : imR c = 2 := by unfold imR; rw [hg]; rfl
            have vB : imB c = 11 := by unfold imB; rw [hb]; rfl
            have vW : imW c = 8 := by unfold imW; rw [if_neg (fun q => hv q.2)]
            rw [vS, vW, vR, vB] at k
            simp only [f76, t76, Tr.val_test, Tr.val_fin, Tr.val_stop, leF_eq, eqF_eq, e, e0, a1, a2, a3, isRet, r102_0_1, b102_0_1, r102_0_2, r125_0, outR, outB, hh, hv, g62, f62_eq, g48, k, Option.isSome_some, Option.getD_some, decide_true, decide_false, Bool.not_true, Bool.not_false, Bool.false_eq_true, if_true, if_false]
        · rw [hs] at a1; rw [hg] at a2; rw [hb] at a3
          have vS : imS c = 0 := by unfold imS; simp only [ch]; rw [hs]; rfl
          have vR : imR c = 2 := by unfold imR; rw [hg]; rfl
          have vB : imB c = 11 := by unfold imB; rw [hb]; rfl
          have vW : imW c = 8 := by unfold imW; rw [if_neg (fun q => hh q.1)]
          rw [vS, vW, vR, vB] at k
          simp only [f76, t76, Tr.val_test, Tr.val_fin, Tr.val_stop, leF_eq, eqF_eq, e, e0, a1, a2, a3, isRet, r102_0_1, b102_0_1, r102_0_2, r125_0, outR, outB, hh, g62, f62_eq, g48, k, Option.isSome_some, Option.getD_some, decide_true, decide_false, Bool.not_true, Bool.not_false, Bool.false_eq_true, if_true, if_false]
      | some kb =>
        by_cases hh : (c.length : Int) ≤ 10
        · by_cases hv : ((List.getD c 0 []).length : Int) ≤ 10
          · rw [hs] at a1; rw [hg] at a2; rw [hb] at a3
            have vS : imS c = 0 := by unfold imS; simp only [ch]; rw [hs]; rfl
            have vR : imR c = 2 := by unfold imR; rw [hg]; rfl
            have vB : imB c = 0 := by unfold imB; rw [hb]; rfl
            have vW : imW c = 0 := by unfold imW; rw [if_pos ⟨hh, hv⟩]
            rw [vS, vW, vR, vB] at k
            have kp : ((0 : Int) ≤ (kb : Int)) = True := by simp
            simp only [f76, t76, Tr.val_test, Tr.val_fin, Tr.val_stop, leF_eq, eqF_eq, e, e0, a1, a2, a3, isRet, r102_0_1, b102_0_1, r102_0_2, r125_0, outR, outB, hh, hv, kp, g62, f62_eq, g48, k, Option.isSome_some, Option.getD_some, decide_true, decide_false, Bool.not_true, Bool.not_false, Bool.false_eq_true, if_true, if_false]
          · rw [hs] at a1; rw [hg] at a2; rw [hb] at a3
            have vS : imS c = 0 := by unfold imS; simp only [ch]; rw [hs]; rfl
            have vR : imR c = 2 := by unfold imR; rw [hg]; rfl
            have vB : imB c = 0 := by unfold imB; rw [hb]; rfl
            have vW : imW c = 8 := by unfold imW; rw [if_neg (fun q => hv q.2)]
            rw [vS, vW, vR, vB] at k
            have kp : ((0 : Int) ≤ (kb : Int)) = True := by simp
            simp only [f76, t76, Tr.val_test, Tr.val_fin, Tr.val_stop, leF_eq, eqF_eq, e, e0, a1, a2, a3, isRet, r102_0_1, b102_0_1, r102_0_2, r125_0, outR, outB, hh, hv, kp, g62, f62_eq, g48, k, Option.isSome_some, Option.getD_some, decide_true, decide_false, Bool.not_true, Bool.not_false, Bool.false_eq_true, if_true, if_false]
        · rw [hs] at a1; rw [hg] at a2; rw [hb] at a3
          have vS : imS c = 0 := by unfold imS; simp only [ch]; rw [hs]; rfl
          have vR : imR c = 2 := by unfold imR; rw [hg]; rfl
          have vB : imB c = 0 := by unfold imB; rw [hb]; rfl
          have vW : imW c = 8 := by unfold imW; rw [if_neg (fun q => hh q.1)]
          rw [vS, vW, vR, vB] at k
          have kp : ((0 : Int) ≤ (kb : Int)) = True := by simp
          simp only [f76, t76, Tr.val_test, Tr.val_fin, Tr.val_stop, leF_eq, eqF_eq, e, e0, a1, a2, a3, isRet, r102_0_1, b102_0_1, r102_0_2, r125_0, outR, outB, hh, kp, g62, f62_eq, g48, k, Option.isSome_some, Option.getD_some, decide_true, decide_false, Bool.not_true, Bool.not_false, Bool.false_eq_true, if_true, if_false]
  | some ks =>
    cases hg : rgF c with
    | none =>
      cases hb : brF c with
      | none =>
        by_cases hh : (c.length : Int) ≤ 10
        · by_cases hv : ((List.getD c 0 []).length : Int) ≤ 10
          · rw [hs] at a1; rw [hg] at a2; rw [hb] at a3
            have vS : imS c = 10 := by unfold imS; simp only [ch]; rw [hs]; rfl
            have vR : imR c = 0 := by unfold imR; rw [hg]; rfl
            have vB : imB c = 11 := by unfold imB; rw [hb]; rfl
            have vW : imW c = 0 := by unfold imW; rw [if_pos ⟨hh, hv⟩]
            rw [vS, vW, vR, vB] at k
            simp only [f76, t76, Tr.val_test, Tr.val_fin, Tr.val_stop, leF_eq, eqF_eq, e, e0, a1, a2, a3, isRet, r102_0_1, b102_0_1, r102_0_2, r125_0, outR, outB, hh, hv, g62, f62_eq, g48, k, Option.isSome_some, Option.getD_some, decide_true, decide_false, Bool.not_true, Bool.not_false, Bool.false_eq_true, if_true, if_false]
          · rw [hs] at a1; rw [hg] at a2; rw [hb] at a3
            have vS : imS c = 10 := by unfold imS; simp only [ch]; rw [hs]; rfl
            have vR : imR c = 0 := by unfold imR; rw [hg]; rfl
            have vB : imB c = 11 := by unfold imB; rw [hb]; rfl
            have vW : imW c = 8 := by unfold imW; rw [if_neg (fun q => hv q.2)]
            rw [vS, vW, vR, vB] at k
            simp only [f76, t76, Tr.val_test, Tr.val_fin, Tr.val_stop, leF_eq, eqF_eq, e, e0, a1, a2, a3, isRet, r102_0_1, b102_0_1, r102_0_2, r125_0, outR, outB, hh, hv, g62, f62_eq, g48, k, Option.isSome_some, Option.getD_some, decide_true, decide_false, Bool.not_true, Bool.not_false, Bool.false_eq_true, if_true, if_false]
        · rw [hs] at a1; rw [hg] at a2; rw [hb] at a3
          have vS : imS c = 10 := by unfold imS; simp only [ch]; rw [hs]; rfl
          have vR : imR c = 0 := by unfold imR; rw [hg]; rfl
          have vB : imB c = 11 := by unfold imB; rw [hb]; rfl
          have vW : imW c = 8 := by unfold imW; rw [if_neg (fun q => hh q.1)]
          rw [vS, vW, vR, vB] at k
          simp only [f76, t76, Tr.val_test, Tr.val_fin, Tr.val_stop, leF_eq, eqF_eq, e, e0, a1, a2, a3, isRet, r102_0_1, b102_0_1, r102_0_2, r125_0, outR, outB, hh, g62, f62_eq, g48, k, Option.isSome_some, Option.getD_some, decide_true, decide_false, Bool.not_true, Bool.not_false, Bool.false_eq_true, if_true, if_false]
      | some kb =>
        by_cases hh : (c.length : Int) ≤ 10
        · by_cases hv : ((List.getD c 0 []).length : Int) ≤ 10
          · rw [hs] at a1; rw [hg] at a2; rw [hb] at a3
            have vS : imS c = 10 := by unfold imS; simp only [ch]; rw [hs]; rfl
            have vR : imR c = 0 := by unfold imR; rw [hg]; rfl
            have vB : imB c = 0 := by unfold imB; rw [hb]; rfl
            have vW : imW c = 0 := by unfold imW; rw [if_pos ⟨hh, hv⟩]
            rw [vS, vW, vR, vB] at k
            have kp : ((0 : Int) ≤ (kb : Int)) = True := by simp
            simp only [f76, t76, Tr.val_test, Tr.val_fin, Tr.val_stop, leF_eq, eqF_eq, e, e0, a1, a2, a3, isRet, r102_0_1, b102_0_1, r102_0_2, r125_0, outR, outB, hh, hv, kp, g62, f62_eq, g48, k, Option.isSome_some, Option.getD_some, decide_true, decide_false, Bool.not_true, Bool.not_false, Bool.false_eq_true, if_true, if_false]
          · rw [hs] at a1; rw [hg] at a2; rw [hb] at a3
            have vS : imS c = 10 := by unfold imS; simp only [ch]; rw [hs]; rfl
            have vR : imR c = 0 := by unfold imR; rw [hg]; rfl
            have vB : imB c = 0 := by unfold imB; rw [hb]; rfl
            have vW : imW c = 8 := by unfold imW; rw [if_neg (fun q => hv q.2)]
            rw [vS, vW, vR, vB] at k
            have kp : ((0 : Int) ≤ (kb : Int)) = True := by simp
            simp only [f76, t76, Tr.val_test, Tr.val_fin, Tr.val_stop, leF_eq, eqF_eq, e, e0, a1, a2, a3, isRet, r102_0_1, b102_0_1, r102_0_2, r125_0, outR, outB, hh, hv, kp, g62, f62_eq, g48, k, Option.isSome_some, Option.getD_some, decide_true, decide_false, Bool.not_true, Bool.not_false, Bool.false_eq_true, if_true, if_false]
        · rw [hs] at a1; rw [hg] at a2; rw [hb] at a3
          have vS : imS c = 10 := by unfold imS; simp only [ch]; rw [hs]; rfl
          have vR : imR c = 0 := by unfold imR; rw [hg]; rfl
          have vB : imB c = 0 := by unfold imB; rw [hb]; rfl
          have vW : imW c = 8 := by unfold imW; rw [if_neg (fun q => hh q.1)]
          rw [vS, vW, vR, vB] at k
          have kp : ((0 : Int) ≤ (kb : Int)) = True := by simp
          simp only [f76, t76, Tr.val_test, Tr.val_fin, Tr.val_stop, leF_eq, eqF_eq, e, e0, a1, a2, a3, isRet, r102_0_1, b102_0_1, r102_0_2, r125_0, outR, outB, hh, kp, g62, f62_eq, g48, k, Option.isSome_some, Option.getD_some, decide_true, decide_false, Bool.not_true, Bool.not_false, Bool.false_eq_true, if_true, if_false]
    | some kg =>
      cases hb : brF c with
      | none =>
        by_cases hh : (c.length : Int) ≤ 10
        · by_cases hv : ((List.getD c 0 []).length : Int) ≤ 10
          · rw [hs] at a1; rw [hg] at a2; rw [hb] at a3
            have vS : imS c = 10 := by unfold imS; simp only [ch]; rw [hs]; rfl
            have vR : imR c = 2 := by unfold imR; rw [hg]; rfl
            have vB : imB c = 11 := by unfold imB; rw [hb]; rfl
            have vW : imW c = 0 := by unfold imW; rw [if_pos ⟨hh, hv⟩]
            rw [vS, vW, vR, vB] at k
            simp only [f76, t76, Tr.val_test, Tr.val_fin, Tr.val_stop, leF_eq, eqF_eq, e, e0, a1, a2, a3, isRet, r102_0_1, b102_0_1, r102_0_2, r125_0, outR, outB, hh, hv, g62, f62_eq, g48, k, Option.isSome_some, Option.getD_some, decide_true, decide_false, Bool.not_true, Bool.not_false, Bool.false_eq_true, if_true, if_false]
          · rw [hs] at a1; rw [hg] at a2; rw [hb] at a3
            have vS : imS c = 10 := by unfold imS; simp only [ch]; rw [hs]; rfl
            have vR : imR c = 2 := by unfold imR; rw [hg]; rfl
            have vB : imB c = 11 := by unfold imB; rw [hb]; rfl
            have vW : imW c = 8 := by unfold imW; rw [if_neg (fun q => hv q.2)]
            rw [vS, vW, vR, vB] at k
            simp only [f76, t76, Tr.val_test, Tr.val_fin, Tr.val_stop, leF_eq, eqF_eq, e, e0, a1, a2, a3, isRet, r102_0_1, b102_0_1, r102_0_2, r125_0, outR, outB, hh, hv, g62, f62_eq, g48, k, Option.isSome_some, Option.getD_some, decide_true, decide_false, Bool.not_true, Bool.not_false, Bool.false_eq_true, if_true, if_false]
        · rw [hs] at a1; rw [hg] at a2; rw [hb] at a3
          have vS : imS c = 10 := by unfold imS; simp only [ch]; rw [hs]; rfl
          have vR : imR c = 2 := by unfold imR; rw [hg]; rfl
          have vB : imB c = 11 := by unfold imB; rw [hb]; rfl
          have vW : imW c = 8 := by unfold imW; rw [if_neg (fun q => hh q.1)]
          rw [vS, vW, vR, vB] at k
          simp only [f76, t76, Tr.val_test, Tr.val_fin, Tr.val_stop, leF_eq, eqF_eq, e, e0, a1, a2, a3, isRet, r102_0_1, b102_0_1, r102_0_2, r125_0, outR, outB, hh, g62, f62_eq, g48, k, Option.isSome_some, Option.getD_some, decide_true, decide_false, Bool.not_true, Bool.not_false, Bool.false_eq_true, if_true, if_false]
      | some kb =>
        by_cases hh : (c.length : Int) ≤ 10
        · by_cases hv : ((List.getD c 0 []).length : Int) ≤ 10
          · rw [hs] at a1; rw [hg] at a2; rw [hb] at a3
            have vS : imS c = 10 := by unfold imS; simp only [ch]; rw [hs]; rfl
            have vR : imR c = 2 := by unfold imR; rw [hg]; rfl
            have vB : imB c = 0 := by unfold imB; rw [hb]; rfl
            have vW : imW c = 0 := by unfold imW; rw [if_pos ⟨hh, hv⟩]
            rw [vS, vW, vR, vB] at k
            have kp : ((0 : Int) ≤ (kb : Int)) = True := by simp
            simp only [f76, t76, Tr.val_test, Tr.val_fin, Tr.val_stop, leF_eq, eqF_eq, e, e0, a1, a2, a3, isRet, r102_0_1, b102_0_1, r102_0_2, r125_0, outR, outB, hh, hv, kp, g62, f62_eq, g48, k, Option.isSome_some, Option.getD_some, decide_true, decide_false, Bool.not_true, Bool.not_false, Bool.false_eq_true, if_true, if_false]
          · rw [hs] at a1; rw [hg] at a2; rw [hb] at a3
            have vS : imS c = 10 := by unfold imS; simp only [ch]; rw [hs]; rfl
            have vR : imR c = 2 := by unfold imR; rw [hg]; rfl
            have vB : imB c = 0 := by unfold imB; rw [hb]; rfl
            have vW : imW c = 8 := by unfold imW; rw [if_neg (fun q => hv q.2)]
            rw [vS, vW, vR, vB] at k
            have kp : ((0 : Int) ≤ (kb : Int)) = True := by simp
            simp only [f76, t76, Tr.val_test, Tr.val_fin, Tr.val_stop, leF_eq, eqF_eq, e, e0, a1, a2, a3, isRet, r102_0_1, b102_0_1, r102_0_2, r125_0, outR, outB, hh, hv, kp, g62, f62_eq, g48, k, Option.isSome_some, Option.getD_some, decide_true, decide_false, Bool.not_true, Bool.not_false, Bool.false_eq_true, if_true, if_false]
        · rw [hs] at a1; rw [hg] at a2; rw [hb] at a3
          have vS : imS c = 10 := by unfold imS; simp only [ch]; rw [hs]; rfl
          have vR : imR c = 2 := by unfold imR; rw [hg]; rfl
          have vB : imB c = 0 := by unfold imB; rw [hb]; rfl
          have vW : imW c = 8 := by unfold imW; rw [if_neg (fun q => hh q.1)]
          rw [vS, vW, vR, vB] at k
          have kp : ((0 : Int) ≤ (kb : Int)) = True := by simp
          simp only [f76, t76, Tr.val_test, Tr.val_fin, Tr.val_stop, leF_eq, eqF_eq, e, e0, a1, a2, a3, isRet, r102_0_1, b102_0_1, r102_0_2, r125_0, outR, outB, hh, kp, g62, f62_eq, g48, k, Option.isSome_some, Option.getD_some, decide_true, decide_false, Bool.not_true, Bool.not_false, Bool.false_eq_true, if_true, if_false]

/-! The reference's errors. -/

theorem l70a (c : List (List Int)) (h : Sm c) (h0 : 0 < c.length) : l31_0 ((c, (0 : Int), ()), ()) = match first (fun i => !decide (((ch c i).length : Int) = ((ch c 0).length : Int))) c.length 0 with
    | some _ => some (.inr (((10 : Int), ()), ()))
    | none => some (.inl ((c, ()), ())) := by
  have hl := h.1
  refine itr_search (fun i => ((c, (i : Int), ()), ())) (fun i => !decide (((ch c i).length : Int) = ((ch c 0).length : Int))) (fun k => (((10 : Int), ()), ())) (n := c.length) ?_ ?_ (lt_rounds (by omega))
  · intro i hi
    have e0 : (true && decide ((0 : Int) < (c.length : Int))) = true := by simp; omega
    simp only [s31_0, t31_0, Tr.val_test, Tr.val_fin, Tr.val_stop, leF_eq, eqF_eq, Int.toNat_natCast, wrap64_nat (show i ≤ 9223372036854775806 by omega), e0, if_true, ch]
    rw [if_pos (by simp; omega), if_pos (by simp; omega)]
  · simp [s31_0, t31_0, leF_eq]

def rsW (s : Int) (r : List Int) : Nat → Int
  | 0 => s
  | i + 1 => wrap64 (rsW s r i + r.getD i 0)
def totW (c : List (List Int)) : Nat → Int
  | 0 => 0
  | y + 1 => rsW (totW c y) (ch c y) (ch c y).length

theorem l70c (c : List (List Int)) (h : Sm c) (s : Int) (y : Nat) (hy : y < c.length) : l31_4 ((c, s, (y : Int), (0 : Int), ()), ()) = match pxF 0 255 (ch c y) with
    | some _ => some (.inr (((2 : Int), ()), ()))
    | none => some (.inl ((c, rsW s (ch c y) (ch c y).length, (y : Int), ()), ())) := by
  have hl := h.1
  have hr := h.2 y
  refine itr_search (fun i => ((c, rsW s (ch c y) i, (y : Int), (i : Int), ()), ())) (fun i => !wi 0 255 ((ch c y).getD i 0)) (fun k => (((2 : Int), ()), ())) (n := (ch c y).length) ?_ ?_ (lt_rounds (by omega))
  · intro i hi
    have e1 : (decide ((0 : Int) ≤ (y : Int)) && decide ((y : Int) < (c.length : Int))) = true := by simp; omega
    simp only [ch] at hi hr
    simp only [s31_4, t31_4, Tr.val_test, Tr.val_fin, Tr.val_stop, leF_eq, eqF_eq, Int.toNat_natCast, wrap64_nat (show i ≤ 9223372036854775806 by omega), e1, if_true, ch]
    rw [if_pos (by simp only [Bool.not_eq_true', decide_eq_false_iff_not]; omega), if_pos (by simp only [Bool.and_eq_true, decide_eq_true_eq]; omega)]
    simp only [g20, f20_eq, Option.isSome_some, Option.getD_some, if_true]
    rfl
  · have e1 : (decide ((0 : Int) ≤ (y : Int)) && decide ((y : Int) < (c.length : Int))) = true := by simp; omega
    simp only [s31_4, t31_4, Tr.val_test, Tr.val_fin, Tr.val_stop, leF_eq, eqF_eq, Int.toNat_natCast, e1, if_true, ch]
    rw [if_neg (by simp)]

theorem l70b (c : List (List Int)) (h : Sm c) : l31_2 ((c, (0 : Int), (0 : Int), ()), ()) = match rgF c with
    | some _ => some (.inr (((2 : Int), ()), ()))
    | none => some (.inl ((totW c c.length, ()), ())) := by
  have hl := h.1
  refine itr_search (fun y => ((c, totW c y, (y : Int), ()), ())) (fun i => !rowIn 0 255 (ch c i)) (fun k => (((2 : Int), ()), ())) (n := c.length) ?_ ?_ (lt_rounds (by omega))
  · intro y hy
    have e := l70c c h (totW c y) y hy
    simp only [s31_2, t31_2, Tr.val_test, Tr.val_fin, Tr.val_stop, leF_eq, Int.toNat_natCast]
    rw [if_pos (by simp; omega)]
    unfold rowIn
    cases hp : pxF 0 255 (ch c y) with
    | none =>
      rw [hp] at e
      simp only [e, isRet, b31_4, outB, Option.isSome_some, Option.isNone_none, if_true, Bool.false_eq_true, Bool.not_true, if_false, wrap64_nat (show y ≤ 9223372036854775806 by omega)]
      rfl
    | some k =>
      rw [hp] at e
      simp only [e, isRet, r31_4, outR, Option.isSome_some, Option.isNone_some, if_true, Bool.not_false]
  · simp [s31_2, t31_2, leF_eq]

theorem rsW_eq {s : Int} {r : List Int} {B : Int} (hs : 0 ≤ s ∧ s ≤ B) (hr : ∀ i, 0 ≤ r.getD i 0 ∧ r.getD i 0 ≤ 255) : ∀ n : Nat, n ≤ 1000 → B ≤ 1000000000 → rsW s r n = s + smP (fun i => r.getD i 0) n ∧ 0 ≤ smP (fun i => r.getD i 0) n ∧ smP (fun i => r.getD i 0) n ≤ 255 * (n : Int)
  | 0, _, _ => by simp [rsW, smP]
  | n + 1, hn, hB => by
    obtain ⟨h1, h2, h3⟩ := rsW_eq hs hr n (by omega) hB
    have h4 := hr n
    simp only [rsW, smP, h1]
    refine ⟨?_, by omega, by omega⟩
    rw [wrap64_id (by omega) (by omega)]
    omega

theorem getD_out {l : List Int} {x : Nat} (h : l.length ≤ x) : l.getD x 0 = 0 := by simp [List.getD, List.getElem?_eq_none h]

def Bp (c : List (List Int)) : Prop := ∀ y x, 0 ≤ px c y x ∧ px c y x ≤ 255

theorem bp_of {c : List (List Int)} (h : rgF c = none) : Bp c := by
  intro y x
  unfold px
  by_cases hy : y < c.length
  · have h1 := first_none h y (Nat.zero_le _) (by omega)
    have h2 : rowIn 0 255 (ch c y) = true := by simpa using h1
    have h3 : pxF 0 255 (ch c y) = none := by simpa [rowIn] using h2
    by_cases hx : x < (ch c y).length
    · have h4 := first_none h3 x (Nat.zero_le _) (by omega)
      have : wi 0 255 ((ch c y).getD x 0) = true := by simpa using h4
      exact wi_iff.1 this
    · have := getD_out (l := ch c y) (x := x) (by omega)
      omega
  · have : ch c y = [] := by simp [ch, List.getD, List.getElem?_eq_none (Nat.le_of_not_lt hy)]
    rw [this]; simp

def rS (c : List (List Int)) (y n : Nat) : Int := smP (fun x => px c y x) n
def totS (c : List (List Int)) (H : Nat) : Int := smP (fun y => rS c y (ch c y).length) H

theorem totW_eq {c : List (List Int)} (hB : Bp c) (hr : ∀ i, (ch c i).length ≤ 10) : ∀ H : Nat, H ≤ 1000 → totW c H = totS c H ∧ 0 ≤ totS c H ∧ totS c H ≤ 2550 * (H : Int)
  | 0, _ => by simp [totW, totS, smP]
  | H + 1, hH => by
    obtain ⟨h1, h2, h3⟩ := totW_eq hB hr H (by omega)
    obtain ⟨g1, g2, g3⟩ := rsW_eq (s := totW c H) (r := ch c H) (B := 2550000) ⟨by omega, by omega⟩ (fun i => hB H i) (ch c H).length (by have := hr H; omega) (by omega)
    have := hr H
    simp only [totW, g1]
    have e : totS c (H + 1) = totS c H + smP (fun i => (ch c H).getD i 0) (ch c H).length := rfl
    rw [e, h1]
    exact ⟨rfl, by omega, by omega⟩

/-- All dark exactly if the sum is 0. -/
theorem dark_iff {c : List (List Int)} (hB : Bp c) : brF c = none ↔ totS c c.length = 0 := by
  have nn : ∀ y n, 0 ≤ rS c y n := fun y n => smP_nn n fun x _ => (hB y x).1
  constructor
  · intro h
    have z : ∀ y, y < c.length → rS c y (ch c y).length = 0 := by
      intro y hy
      have h1 := first_none h y (Nat.zero_le _) (by omega)
      have h2 : rowIn 0 0 (ch c y) = true := by simpa using h1
      have h3 : pxF 0 0 (ch c y) = none := by simpa [rowIn] using h2
      have h4 : ∀ x, x < (ch c y).length → px c y x = 0 := by
        intro x hx
        have := first_none h3 x (Nat.zero_le _) (by omega)
        have : wi 0 0 ((ch c y).getD x 0) = true := by simpa using this
        have := wi_iff.1 this
        unfold px; omega
      unfold rS
      rw [smP_congr (g := fun _ => 0) _ h4, smP_const]; simp
    unfold totS
    rw [smP_congr (g := fun _ => 0) _ z, smP_const]; simp
  · intro h
    refine first_of_none fun y _ hy => ?_
    have h1 := smP_ge (f := fun y => rS c y (ch c y).length) c.length (fun y _ => nn y _) y (by omega)
    have h2 : rS c y (ch c y).length = 0 := by
      have := nn y (ch c y).length
      unfold totS at h
      omega
    have h3 : pxF 0 0 (ch c y) = none := first_of_none fun x _ hx => by
      have := smP_ge (f := fun x => px c y x) (ch c y).length (fun x _ => (hB y x).1) x (by omega)
      have h5 := (hB y x).1
      unfold rS at h2
      have : wi 0 0 ((ch c y).getD x 0) = true := wi_iff.2 (by unfold px at *; omega)
      rw [this]; rfl
    unfold rowIn
    rw [h3]
    rfl

theorem f31_eq (c : List (List Int)) (h : Sm c) : f31 (c, ()) = some (imE c, ()) := by
  have hl := h.1
  by_cases h0 : c.length = 0
  · have e : decide ((c.length : Int) = 0) = true := by rw [decide_eq_true_eq]; omega
    have hE : imE c = 10 := if_pos h0
    rw [hE]
    simp only [f31, t31, Tr.val_test, Tr.val_fin, eqF_eq, e, if_true]
  have e : decide ((c.length : Int) = 0) = false := by rw [decide_eq_false_iff_not]; omega
  have e0 : (true && decide ((0 : Int) < (c.length : Int))) = true := by simp; omega
  by_cases hw : (ch c 0).length = 0
  · have ew : decide (((List.getD c 0 []).length : Int) = 0) = true := by rw [decide_eq_true_eq]; simp only [ch] at hw; omega
    have hs : imS c = 10 := by
      unfold imS
      cases hq : shF c ((ch c 0).length : Int) with
      | some k => rfl
      | none =>
        have := first_none hq 0 (Nat.le_refl _) (by omega)
        simp only [shB, hw, decide_true, Bool.true_or] at this
        cases this
    simp only [f31, t31, Tr.val_test, Tr.val_fin, Tr.val_stop, eqF_eq, e, e0, ew, Bool.false_eq_true, if_false, if_true, imE, h0, hs]
    rfl
  have ew : decide (((List.getD c 0 []).length : Int) = 0) = false := by rw [decide_eq_false_iff_not]; simp only [ch] at hw; omega
  have l1 := l70a c h (by omega)
  have same : first (fun i => !decide (((ch c i).length : Int) = ((ch c 0).length : Int))) c.length 0 = shF c ((ch c 0).length : Int) := by
    unfold shF
    refine first_congr fun i _ hi => ?_
    unfold shB
    by_cases hz : (ch c i).length = 0
    · have : ¬ ((ch c i).length : Int) = ((ch c 0).length : Int) := by omega
      rw [decide_eq_true hz, decide_eq_false this]; rfl
    · rw [decide_eq_false hz, Bool.false_or]
  rw [same] at l1
  cases hs : shF c ((ch c 0).length : Int) with
  | some k =>
    rw [hs] at l1
    have hS : imS c = 10 := by unfold imS; rw [hs]; rfl
    simp only [f31, t31, Tr.val_test, Tr.val_fin, Tr.val_stop, eqF_eq, e, e0, ew, l1, isRet, r31_0, outR, Option.isSome_some, Bool.false_eq_true, if_false, if_true, imE, h0, hS]
    rfl
  | none =>
    rw [hs] at l1
    have hS : imS c = 0 := by unfold imS; rw [hs]; rfl
    by_cases hh : (c.length : Int) ≤ 10
    · by_cases hv : ((List.getD c 0 []).length : Int) ≤ 10
      · have hW : imW c = 0 := by unfold imW; rw [if_pos ⟨hh, hv⟩]
        have l2 := l70b c h
        cases hr : rgF c with
        | some k =>
          rw [hr] at l2
          have hR : imR c = 2 := by unfold imR; rw [hr]; rfl
          simp only [f31, t31, Tr.val_test, Tr.val_fin, Tr.val_stop, leF_eq, eqF_eq, e, e0, ew, l1, isRet, b31_0, outB, hh, hv, decide_true, Bool.not_true, l2, r31_2, outR, Option.isSome_some, Bool.false_eq_true, if_false, if_true, imE, h0, hS, hW, hR, ne_eq, not_true_eq_false]
          rfl
        | none =>
          rw [hr] at l2
          have hR : imR c = 0 := by unfold imR; rw [hr]; rfl
          have hB := bp_of hr
          have hrows : ∀ i, (ch c i).length ≤ 10 := by
            intro i
            by_cases hi : i < c.length
            · have := first_none hs i (Nat.zero_le _) (by omega)
              simp only [shB, Bool.or_eq_false_iff, Bool.not_eq_false', decide_eq_true_eq] at this
              simp only [ch] at *
              omega
            · have : ch c i = [] := by simp [ch, List.getD, List.getElem?_eq_none (Nat.le_of_not_lt hi)]
              rw [this]; simp
          have ht := (totW_eq hB hrows c.length (by omega)).1
          have hd := dark_iff hB
          have fin : (if decide (totW c c.length = 0) = true then some ((11 : Int), ()) else some ((0 : Int), ())) = some (imB c, ()) := by
            rw [ht]
            unfold imB
            cases hq : brF c with
            | none => rw [if_pos (by rw [decide_eq_true_eq]; exact hd.1 hq)]; rfl
            | some k => rw [if_neg (by rw [decide_eq_true_eq]; intro q; have := hd.2 q; rw [hq] at this; cases this)]; rfl
          simp only [f31, t31, Tr.val_test, Tr.val_fin, Tr.val_stop, leF_eq, eqF_eq, e, e0, ew, l1, isRet, b31_0, outB, hh, hv, decide_true, Bool.not_true, l2, b31_2, Option.isSome_some, Bool.false_eq_true, if_false, if_true, imE, h0, hS, hW, hR, ne_eq, not_true_eq_false]
          exact fin
      · have hW : imW c = 8 := by unfold imW; rw [if_neg (fun q => hv q.2)]
        simp only [f31, t31, Tr.val_test, Tr.val_fin, Tr.val_stop, leF_eq, eqF_eq, e, e0, ew, l1, isRet, b31_0, outB, hh, hv, decide_true, decide_false, Bool.not_true, Bool.not_false, Option.isSome_some, Bool.false_eq_true, if_false, if_true, imE, h0, hS, hW, ne_eq, not_true_eq_false]
        rfl
    · have hW : imW c = 8 := by unfold imW; rw [if_neg (fun q => hh q.1)]
      simp only [f31, t31, Tr.val_test, Tr.val_fin, Tr.val_stop, leF_eq, eqF_eq, e, e0, ew, l1, isRet, b31_0, outB, hh, decide_false, Bool.not_false, Option.isSome_some, Bool.false_eq_true, if_false, if_true, imE, h0, hS, hW, ne_eq, not_true_eq_false]
      rfl

end Go.Vm.Mo

namespace Go.Vm.Mo
open Go
set_option linter.unusedVariables false
set_option linter.unusedSimpArgs false

structure Im (c : List (List Int)) (H W : Nat) : Prop where
  h0 : 0 < H
  h1 : H ≤ 10
  w0 : 0 < W
  w1 : W ≤ 10
  len : c.length = H
  row : ∀ y, y < H → (ch c y).length = W
  bd : ∀ y x, 0 ≤ px c y x ∧ px c y x ≤ 255
  lit : ∃ y x, y < H ∧ x < W ∧ px c y x ≠ 0

theorem im_of {c : List (List Int)} (h : imE c = 0) : ∃ H W, Im c H W := by
  unfold imE at h
  split at h
  · cases h
  · rename_i h0
    split at h
    · exact absurd h (by assumption)
    · rename_i hS
      split at h
      · exact absurd h (by assumption)
      · rename_i hW
        split at h
        · exact absurd h (by assumption)
        · rename_i hR
          have hS' : shF c ((ch c 0).length : Int) = none := by
            unfold imS at hS
            cases hq : shF c ((ch c 0).length : Int) with
            | none => rfl
            | some k => rw [hq] at hS; simp at hS
          have hR' : rgF c = none := by
            unfold imR at hR
            cases hq : rgF c with
            | none => rfl
            | some k => rw [hq] at hR; simp at hR
          have hW' : (c.length : Int) ≤ 10 ∧ ((ch c 0).length : Int) ≤ 10 := by
            unfold imW at hW
            by_cases q : (c.length : Int) ≤ 10 ∧ ((ch c 0).length : Int) ≤ 10
            · exact q
            · rw [if_neg q] at hW; simp at hW
          have hB : ∃ k, brF c = some k := by
            unfold imB at h
            cases hq : brF c with
            | none => rw [hq] at h; cases h
            | some k => exact ⟨k, rfl⟩
          have hrow : ∀ y, y < c.length → (ch c y).length = (ch c 0).length ∧ (ch c y).length ≠ 0 := by
            intro y hy
            have := first_none hS' y (Nat.zero_le _) (by omega)
            simp only [shB, Bool.or_eq_false_iff, Bool.not_eq_false', decide_eq_true_eq, decide_eq_false_iff_not] at this
            exact ⟨by omega, this.1⟩
          obtain ⟨k, hk⟩ := hB
          obtain ⟨_, k2, k3, _⟩ := first_some hk
          have k3 : rowIn 0 0 (ch c k) = false := by simpa using k3
          have hlit : ∃ x, x < (ch c k).length ∧ px c k x ≠ 0 := by
            unfold rowIn at k3
            cases hq : pxF 0 0 (ch c k) with
            | none => rw [hq] at k3; cases k3
            | some x =>
              obtain ⟨_, x2, x3, _⟩ := first_some hq
              refine ⟨x, by omega, fun q => ?_⟩
              have : wi 0 0 ((ch c k).getD x 0) = true := wi_iff.2 (by unfold px at q; omega)
              rw [this] at x3; cases x3
          obtain ⟨x, x1, x2⟩ := hlit
          have e0 := hrow 0 (by omega)
          have ek := hrow k (by omega)
          exact ⟨c.length, (ch c 0).length, ⟨by omega, by omega, by omega, by omega, rfl, fun y hy => (hrow y hy).1, bp_of hR', ⟨k, x, by omega, by omega, x2⟩⟩⟩

theorem Im.sm {c : List (List Int)} {H W : Nat} (m : Im c H W) : Sm c := by
  refine ⟨by have := m.len; have := m.h1; omega, fun i => ?_⟩
  by_cases hi : i < H
  · have := m.row i hi; have := m.w1; omega
  · have : ch c i = [] := by simp [ch, List.getD, List.getElem?_eq_none (show c.length ≤ i by rw [m.len]; omega)]
    rw [this]; simp

def imX (c : List (List Int)) (H W : Nat) : Int := smP (fun y => smP (fun x => (x : Int) * px c y x) W) H
def imY (c : List (List Int)) (H W : Nat) : Int := smP (fun y => smP (fun x => (y : Int) * px c y x) W) H
def imT (c : List (List Int)) (H W : Nat) : Int := smP (fun y => smP (fun x => px c y x) W) H

theorem smP_nb {f : Nat → Int} {B : Int} (n : Nat) (h : ∀ i, i < n → 0 ≤ f i ∧ f i ≤ B) : 0 ≤ smP f n ∧ smP f n ≤ (n : Int) * B := by
  refine ⟨smP_nn n fun i hi => (h i hi).1, ?_⟩
  have h2 := smP_nn (f := fun i => B + (-1) * f i) n fun i hi => by have := h i hi; omega
  rw [smP_add (fun _ => B) (fun i => (-1) * f i), smP_const, smP_mul (-1) f] at h2
  omega

theorem xp_bd {c : List (List Int)} {H W : Nat} (m : Im c H W) (a : Nat) (ha : a ≤ 10) (y x : Nat) : 0 ≤ (a : Int) * px c y x ∧ (a : Int) * px c y x ≤ 2550 := by
  have hp := m.bd y x
  have h1 := Int.mul_nonneg (show 0 ≤ (a : Int) by omega) hp.1
  have h2 := Int.mul_nonneg (show 0 ≤ 10 - (a : Int) by omega) hp.1
  rw [Int.sub_mul] at h2
  omega

theorem row_bd {c : List (List Int)} {H W : Nat} (m : Im c H W) (y n : Nat) (hn : n ≤ 10) (hy : y ≤ 10) :
    (0 ≤ smP (fun x => (x : Int) * px c y x) n ∧ smP (fun x => (x : Int) * px c y x) n ≤ 25500) ∧
    (0 ≤ smP (fun x => (y : Int) * px c y x) n ∧ smP (fun x => (y : Int) * px c y x) n ≤ 25500) ∧
    (0 ≤ smP (fun x => px c y x) n ∧ smP (fun x => px c y x) n ≤ 2550) := by
  have h1 := smP_nb (f := fun x => (x : Int) * px c y x) (B := 2550) n fun x hx => xp_bd m x (by omega) y x
  have h2 := smP_nb (f := fun x => (y : Int) * px c y x) (B := 2550) n fun x _ => xp_bd m y hy y x
  have h3 := smP_nb (f := fun x => px c y x) (B := 255) n fun x _ => m.bd y x
  omega

theorem tot_bd {c : List (List Int)} {H W : Nat} (m : Im c H W) (n : Nat) (hn : n ≤ 10) :
    (0 ≤ imX c n W ∧ imX c n W ≤ 255000) ∧ (0 ≤ imY c n W ∧ imY c n W ≤ 255000) ∧ (0 ≤ imT c n W ∧ imT c n W ≤ 25500) := by
  have hw := m.w1
  have h1 := smP_nb (f := fun y => smP (fun x => (x : Int) * px c y x) W) (B := 25500) n fun y hy => (row_bd m y W hw (by omega)).1
  have h2 := smP_nb (f := fun y => smP (fun x => (y : Int) * px c y x) W) (B := 25500) n fun y hy => (row_bd m y W hw (by omega)).2.1
  have h3 := smP_nb (f := fun y => smP (fun x => px c y x) W) (B := 2550) n fun y hy => (row_bd m y W hw (by omega)).2.2
  unfold imX imY imT
  omega

theorem tot_pos {c : List (List Int)} {H W : Nat} (m : Im c H W) : 0 < imT c H W := by
  obtain ⟨y, x, hy, hx, hp⟩ := m.lit
  have nn : ∀ y, 0 ≤ smP (fun x => px c y x) W := fun y => smP_nn W fun x _ => (m.bd y x).1
  have h1 := smP_ge (f := fun y => smP (fun x => px c y x) W) H (fun y _ => nn y) y hy
  have h2 := smP_ge (f := fun x => px c y x) W (fun x _ => (m.bd y x).1) x hx
  have h3 := (m.bd y x).1
  unfold imT
  omega

/-! The center. -/

theorem l119i {c : List (List Int)} {H W : Nat} (m : Im c H W) (a b s : Int) (y : Nat) (hy : y < H) (ha : 0 ≤ a ∧ a ≤ 1000000) (hb : 0 ≤ b ∧ b ≤ 1000000) (hs : 0 ≤ s ∧ s ≤ 1000000) (n1 n2 : Int) (z1 z2 z3 z4 : Int) :
    l77_2 ((a, b, s, (y : Int), c, n1, n2, ch c y, ((ch c y).length : Int), (0 : Int), ()), (z1, z2, z3, z4, ()), ()) =
      some (.inl ((a + smP (fun x => (x : Int) * px c y x) W, b + smP (fun x => (y : Int) * px c y x) W, s + smP (fun x => px c y x) W, c, n1, n2, ()), (z1, z2, z3, z4, ()), ())) := by
  have hW := m.row y hy
  have hw := m.w1
  have hh := m.h1
  have e0 : ∀ f, smP f 0 = 0 := fun _ => rfl
  have key := itr_brk (step := s77_2) (fun i => ((a + smP (fun x => (x : Int) * px c y x) i, b + smP (fun x => (y : Int) * px c y x) i, s + smP (fun x => px c y x) i, (y : Int), c, n1, n2, ch c y, ((ch c y).length : Int), (i : Int), ()), (z1, z2, z3, z4, ()), ())) (n := W) (m := rounds) (b := ((a + smP (fun x => (x : Int) * px c y x) W, b + smP (fun x => (y : Int) * px c y x) W, s + smP (fun x => px c y x) W, c, n1, n2, ()), (z1, z2, z3, z4, ()), ())) ?_ ?_ (lt_rounds (by omega))
  · simp only [e0, Int.add_zero] at key
    exact key
  · intro i hi
    obtain ⟨g1, g2, g3⟩ := row_bd m y i (by omega) (by omega)
    have x1 := xp_bd m i (by omega) y i
    have x2 := xp_bd m y (by omega) y i
    have x3 := m.bd y i
    have w1 : wrap64 ((i : Int) * px c y i) = (i : Int) * px c y i := wrap64_id (by omega) (by omega)
    have w2 : wrap64 ((y : Int) * px c y i) = (y : Int) * px c y i := wrap64_id (by omega) (by omega)
    have w3 : wrap64 (a + smP (fun x => (x : Int) * px c y x) i + (i : Int) * px c y i) = a + smP (fun x => (x : Int) * px c y x) (i + 1) := by rw [wrap64_id (by omega) (by omega)]; simp only [smP]; omega
    have w4 : wrap64 (b + smP (fun x => (y : Int) * px c y x) i + (y : Int) * px c y i) = b + smP (fun x => (y : Int) * px c y x) (i + 1) := by rw [wrap64_id (by omega) (by omega)]; simp only [smP]; omega
    have w5 : wrap64 (s + smP (fun x => px c y x) i + px c y i) = s + smP (fun x => px c y x) (i + 1) := by rw [wrap64_id (by omega) (by omega)]; simp only [smP]; omega
    have ep : List.getD (ch c y) i (0 : Int) = px c y i := rfl
    simp only [s77_2, t77_2, Tr.val_test, Tr.val_fin, Tr.val_stop, leF_eq, Int.toNat_natCast, wrap64_nat (show i ≤ 9223372036854775806 by omega), ep, w1, w2, w3, w4, w5]
    rw [if_pos (by simp only [Bool.not_eq_true', decide_eq_false_iff_not]; omega), if_pos (by simp only [Bool.and_eq_true, decide_eq_true_eq]; omega)]
  · have : ((ch c y).length : Int) ≤ (W : Int) := by omega
    simp only [s77_2, t77_2, Tr.val_test, Tr.val_fin, Tr.val_stop, leF_eq, this, decide_true, Bool.not_true, Bool.false_eq_true, if_false]

theorem l77 {c : List (List Int)} {H W : Nat} (m : Im c H W) :
    l77_0 (((0 : Int), (0 : Int), (0 : Int), c, (c.length : Int), (0 : Int), ()), ((0 : Int), (0 : Int), (0 : Int), (0 : Int), ()), ()) =
      some (.inl ((imX c H W, imY c H W, imT c H W, ()), ((0 : Int), (0 : Int), (0 : Int), (0 : Int), ()), ())) := by
  have hh := m.h1
  have hl := m.len
  refine itr_brk (fun y => ((imX c y W, imY c y W, imT c y W, c, (c.length : Int), (y : Int), ()), ((0 : Int), (0 : Int), (0 : Int), (0 : Int), ()), ())) (n := H) ?_ ?_ (lt_rounds (by omega))
  · intro y hy
    obtain ⟨t1, t2, t3⟩ := tot_bd m y (by omega)
    have e := l119i m (imX c y W) (imY c y W) (imT c y W) y hy ⟨t1.1, by omega⟩ ⟨t2.1, by omega⟩ ⟨t3.1, by omega⟩ (c.length : Int) (y : Int) 0 0 0 0
    simp only [ch] at e
    simp only [s77_0, t77_0, Tr.val_test, Tr.val_fin, Tr.val_stop, leF_eq, Int.toNat_natCast]
    rw [if_pos (by simp only [Bool.not_eq_true', decide_eq_false_iff_not]; omega), if_pos (by simp only [Bool.and_eq_true, decide_eq_true_eq]; omega)]
    simp only [e, isBrk, b77_2, outB, if_true, wrap64_nat (show y ≤ 9223372036854775806 by omega)]
    rfl
  · have : ((c.length : Nat) : Int) ≤ (H : Int) := by omega
    simp only [s77_0, t77_0, Tr.val_test, Tr.val_fin, Tr.val_stop, leF_eq, this, decide_true, Bool.not_true, Bool.false_eq_true, if_false]

theorem f77_eq {c : List (List Int)} {H W : Nat} (m : Im c H W) : f77 (c, ()) = some ((fr (imX c H W) (imT c H W), fr (imY c H W) (imT c H W), ()), ()) := by
  obtain ⟨t1, t2, t3⟩ := tot_bd m H m.h1
  have t4 := tot_pos m
  have e1 := f65_eq (imX c H W) (imT c H W) (by omega) (by omega) (by omega)
  have e2 := f65_eq (imY c H W) (imT c H W) (by omega) (by omega) (by omega)
  simp only [f77, t77, Tr.val_test, Tr.val_fin, Tr.val_stop, l77 m, isBrk, b77_0, outB, g65, e1, e2, Option.isSome_some, Option.getD_some, if_true]

abbrev zC : (Int × Int × PUnit.{1}) × (Int × Int × PUnit.{1}) × PUnit.{1} := (((0 : Int), (0 : Int), ()), ((0 : Int), (0 : Int), ()), ())

theorem f28_bad {c : List (List Int)} (h : Sm c) (he : imE c ≠ 0) : f28 (c, ()) = some (zC, imE c, ()) := by
  have e := f76_eq c h
  have nd : decide (imE c = 0) = false := by simpa using he
  simp only [f28, t28, Tr.val_test, Tr.val_fin, Tr.val_stop, g76, e, eqF_eq, nd, Option.isSome_some, Option.getD_some, Bool.not_false, if_true]

theorem f28_eq {c : List (List Int)} {H W : Nat} (m : Im c H W) (he : imE c = 0) : f28 (c, ()) = some ((fr (imX c H W) (imT c H W), fr (imY c H W) (imT c H W), ()), (0 : Int), ()) := by
  have e := f76_eq c m.sm
  have e2 := f77_eq m
  rw [he] at e
  simp only [f28, t28, Tr.val_test, Tr.val_fin, Tr.val_stop, g76, e, g77, e2, eqF_eq, decide_true, Option.isSome_some, Option.getD_some, Bool.not_true, Bool.false_eq_true, if_false, if_true]

/-! By what it moved. -/

def mn (p q : Int × Int × PUnit.{1}) : Int × Int × PUnit.{1} := fr (p.1 * q.2.1 - q.1 * p.2.1) (p.2.1 * q.2.1)

theorem gcd_pos' {x y : Int} (h : y ≠ 0) : 0 < Nat.gcd x.natAbs y.natAbs := Nat.gcd_pos_of_pos_right _ (by omega)

/-- A quotient in lowest terms: both parts times the divisor are what they were. -/
theorem fr_mul (x y : Int) : (fr x y).1 * (Nat.gcd x.natAbs y.natAbs : Nat) = x ∧ (fr x y).2.1 * (Nat.gcd x.natAbs y.natAbs : Nat) = y := by
  have h1 : ((Nat.gcd x.natAbs y.natAbs : Nat) : Int) ∣ x := Int.ofNat_dvd_left.2 (Nat.gcd_dvd_left _ _)
  have h2 : ((Nat.gcd x.natAbs y.natAbs : Nat) : Int) ∣ y := Int.ofNat_dvd_left.2 (Nat.gcd_dvd_right _ _)
  exact ⟨Int.tdiv_mul_cancel h1, Int.tdiv_mul_cancel h2⟩

theorem fr_pos {x y : Int} (h : 0 < y) : 0 < (fr x y).2.1 := by
  have h1 := (fr_mul x y).2
  have h2 := gcd_pos' (x := x) (y := y) (by omega)
  by_cases h3 : 0 < (fr x y).2.1
  · exact h3
  · exfalso
    have := Int.mul_le_mul_of_nonneg_right (show (fr x y).2.1 ≤ 0 by omega) (show (0 : Int) ≤ ((Nat.gcd x.natAbs y.natAbs : Nat) : Int) by omega)
    omega

theorem fr_le (x y : Int) : (fr x y).1.natAbs ≤ x.natAbs ∧ (fr x y).2.1.natAbs ≤ y.natAbs := ⟨tdiv_le _ _, tdiv_le _ _⟩

theorem f78_eq (a s b t : Int) (ha : a.natAbs ≤ 255000) (hb : b.natAbs ≤ 255000) (hs : 0 < s ∧ s ≤ 25500) (ht : 0 < t ∧ t ≤ 25500) : f78 (((fr a s).1, (fr a s).2.1, ()), ((fr b t).1, (fr b t).2.1, ()), ()) = some (mn (fr a s) (fr b t), ()) := by
  have p1 := fr_pos (x := a) hs.1
  have p2 := fr_pos (x := b) ht.1
  have l1 := fr_le a s
  have l2 := fr_le b t
  have m1 := mulB (x := (fr a s).1) (y := (fr b t).2.1) (A := 255000) (B := 25500) (by omega) (by omega)
  have m2 := mulB (x := (fr b t).1) (y := (fr a s).2.1) (A := 255000) (B := 25500) (by omega) (by omega)
  have m3 := mulB (x := (fr a s).2.1) (y := (fr b t).2.1) (A := 25500) (B := 25500) (by omega) (by omega)
  have m4 := Int.mul_pos p1 p2
  have w1 : wrap64 ((fr a s).1 * (fr b t).2.1) = (fr a s).1 * (fr b t).2.1 := wrap64_id (by omega) (by omega)
  have w2 : wrap64 ((fr b t).1 * (fr a s).2.1) = (fr b t).1 * (fr a s).2.1 := wrap64_id (by omega) (by omega)
  have w3 : wrap64 ((fr a s).2.1 * (fr b t).2.1) = (fr a s).2.1 * (fr b t).2.1 := wrap64_id (by omega) (by omega)
  have w4 : wrap64 ((fr a s).1 * (fr b t).2.1 - (fr b t).1 * (fr a s).2.1) = (fr a s).1 * (fr b t).2.1 - (fr b t).1 * (fr a s).2.1 := wrap64_id (by omega) (by omega)
  have e := f65_eq ((fr a s).1 * (fr b t).2.1 - (fr b t).1 * (fr a s).2.1) ((fr a s).2.1 * (fr b t).2.1) (by omega) (by omega) (by omega)
  simp only [f78, t78, Tr.val_test, Tr.val_fin, Tr.val_stop, w1, w2, w3, w4, g65, e, Option.isSome_some, Option.getD_some, if_true]
  rfl

def mvE (a b : List (List Int)) : Int := if imE a ≠ 0 then imE a else if imE b ≠ 0 then imE b else if a.length = b.length ∧ (ch a 0).length = (ch b 0).length then 0 else 13

theorem f34_eq {a b : List (List Int)} (ha : Sm a) (hb : Sm b) : f34 (a, b, ()) = some (mvE a b, ()) := by
  have e1 := f31_eq a ha
  have e2 := f31_eq b hb
  by_cases h1 : imE a = 0
  rotate_left
  · have n1 : decide (imE a = 0) = false := by simpa using h1
    have hE : mvE a b = imE a := if_pos h1
    rw [hE]
    simp only [f34, t34, Tr.val_test, Tr.val_fin, Tr.val_stop, g31, e1, eqF_eq, n1, Option.isSome_some, Option.getD_some, Bool.not_false, if_true]
  obtain ⟨H, W, m⟩ := im_of h1
  rw [h1] at e1
  by_cases h2 : imE b = 0
  rotate_left
  · have n2 : decide (imE b = 0) = false := by simpa using h2
    have hE : mvE a b = imE b := by unfold mvE; rw [if_neg (by simpa using h1), if_pos h2]
    rw [hE]
    simp only [f34, t34, Tr.val_test, Tr.val_fin, Tr.val_stop, g31, e1, e2, eqF_eq, n2, decide_true, Option.isSome_some, Option.getD_some, Bool.not_true, Bool.not_false, Bool.false_eq_true, if_false, if_true]
  obtain ⟨H', W', m'⟩ := im_of h2
  rw [h2] at e2
  have z1 : (true && decide ((0 : Int) < (a.length : Int))) = true := by have := m.h0; have := m.len; simp; omega
  have z2 : (true && decide ((0 : Int) < (b.length : Int))) = true := by have := m'.h0; have := m'.len; simp; omega
  by_cases h3 : a.length = b.length
  · have d3 : decide ((a.length : Int) = (b.length : Int)) = true := by rw [decide_eq_true_eq]; omega
    by_cases h4 : (ch a 0).length = (ch b 0).length
    · have d4 : decide (((List.getD a 0 []).length : Int) = ((List.getD b 0 []).length : Int)) = true := by rw [decide_eq_true_eq]; simp only [ch] at h4; omega
      have hE : mvE a b = 0 := by unfold mvE; rw [if_neg (by simpa using h1), if_neg (by simpa using h2), if_pos ⟨h3, h4⟩]
      rw [hE]
      simp only [f34, t34, Tr.val_test, Tr.val_fin, Tr.val_stop, g31, e1, e2, eqF_eq, z1, z2, d3, d4, decide_true, Option.isSome_some, Option.getD_some, Bool.not_true, Bool.false_eq_true, if_false, if_true]
    · have d4 : decide (((List.getD a 0 []).length : Int) = ((List.getD b 0 []).length : Int)) = false := by rw [decide_eq_false_iff_not]; simp only [ch] at h4; omega
      have hE : mvE a b = 13 := by unfold mvE; rw [if_neg (by simpa using h1), if_neg (by simpa using h2), if_neg (fun q => h4 q.2)]
      rw [hE]
      simp only [f34, t34, Tr.val_test, Tr.val_fin, Tr.val_stop, g31, e1, e2, eqF_eq, z1, z2, d3, d4, decide_true, Option.isSome_some, Option.getD_some, Bool.not_true, Bool.not_false, Bool.false_eq_true, if_false, if_true]
  · have d3 : decide ((a.length : Int) = (b.length : Int)) = false := by rw [decide_eq_false_iff_not]; omega
    have hE : mvE a b = 13 := by unfold mvE; rw [if_neg (by simpa using h1), if_neg (by simpa using h2), if_neg (fun q => h3 q.1)]
    rw [hE]
    simp only [f34, t34, Tr.val_test, Tr.val_fin, Tr.val_stop, g31, e1, e2, eqF_eq, d3, decide_true, Option.isSome_some, Option.getD_some, Bool.not_true, Bool.not_false, Bool.false_eq_true, if_false, if_true]

theorem f30_bad {a b : List (List Int)} (ha : Sm a) (hb : Sm b) (he : mvE a b ≠ 0) : f30 (a, b, ()) = some (zC, mvE a b, ()) := by
  have e1 := f76_eq a ha
  have e2 := f76_eq b hb
  have e3 := f48_two (imE a) (imE b)
  by_cases h1 : imE a = 0
  rotate_left
  · have hE : mvE a b = imE a := if_pos h1
    have e3' : f48 ([imE a, imE b], ()) = some (imE a, ()) := by rw [e3, if_neg h1]
    have n1 : decide (imE a = 0) = false := by simpa using h1
    rw [hE]
    simp only [f30, t30, Tr.val_test, Tr.val_fin, Tr.val_stop, g76, e1, e2, g48, e3', eqF_eq, n1, Option.isSome_some, Option.getD_some, Bool.not_false, if_true]
  have e3' : f48 ([imE a, imE b], ()) = some (imE b, ()) := by rw [e3, if_pos h1]
  obtain ⟨H, W, m⟩ := im_of h1
  by_cases h2 : imE b = 0
  rotate_left
  · have n2 : decide (imE b = 0) = false := by simpa using h2
    have hE : mvE a b = imE b := by unfold mvE; rw [if_neg (by simpa using h1), if_pos h2]
    rw [hE]
    simp only [f30, t30, Tr.val_test, Tr.val_fin, Tr.val_stop, g76, e1, e2, g48, e3', eqF_eq, n2, Option.isSome_some, Option.getD_some, Bool.not_false, if_true]
  obtain ⟨H', W', m'⟩ := im_of h2
  rw [h2] at e3'
  rw [h2] at e2
  have e3'' : f48 ([imE a, (0 : Int)], ()) = some ((0 : Int), ()) := by rw [h2] at e3; rw [e3, if_pos h1]
  have z1 : (true && decide ((0 : Int) < (a.length : Int))) = true := by have := m.h0; have := m.len; simp; omega
  have z2 : (true && decide ((0 : Int) < (b.length : Int))) = true := by have := m'.h0; have := m'.len; simp; omega
  by_cases h3 : a.length = b.length
  · have d3 : decide ((a.length : Int) = (b.length : Int)) = true := by rw [decide_eq_true_eq]; omega
    have h4 : ¬ (ch a 0).length = (ch b 0).length := by
      intro h4
      exact he (by unfold mvE; rw [if_neg (by simpa using h1), if_neg (by simpa using h2), if_pos ⟨h3, h4⟩])
    have d4 : decide (((List.getD a 0 []).length : Int) = ((List.getD b 0 []).length : Int)) = false := by rw [decide_eq_false_iff_not]; simp only [ch] at h4; omega
    have hE : mvE a b = 13 := by unfold mvE; rw [if_neg (by simpa using h1), if_neg (by simpa using h2), if_neg (fun q => h4 q.2)]
    rw [hE]
    simp only [f30, t30, Tr.val_test, Tr.val_fin, Tr.val_stop, g76, e1, e2, g48, e3'', eqF_eq, z1, z2, d3, d4, decide_true, Option.isSome_some, Option.getD_some, Bool.not_true, Bool.not_false, Bool.false_eq_true, if_false, if_true]
  · have d3 : decide ((a.length : Int) = (b.length : Int)) = false := by rw [decide_eq_false_iff_not]; omega
    have hE : mvE a b = 13 := by unfold mvE; rw [if_neg (by simpa using h1), if_neg (by simpa using h2), if_neg (fun q => h3 q.1)]
    rw [hE]
    simp only [f30, t30, Tr.val_test, Tr.val_fin, Tr.val_stop, g76, e1, e2, g48, e3'', eqF_eq, d3, decide_true, Option.isSome_some, Option.getD_some, Bool.not_true, Bool.not_false, Bool.false_eq_true, if_false, if_true]

theorem f30_eq {a b : List (List Int)} {H W : Nat} (m : Im a H W) (m' : Im b H W) (h1 : imE a = 0) (h2 : imE b = 0) :
    f30 (a, b, ()) = some ((mn (fr (imX b H W) (imT b H W)) (fr (imX a H W) (imT a H W)), mn (fr (imY b H W) (imT b H W)) (fr (imY a H W) (imT a H W)), ()), (0 : Int), ()) := by
  have e1 := f76_eq a m.sm
  have e2 := f76_eq b m'.sm
  rw [h1] at e1
  rw [h2] at e2
  have e3 : f48 ([(0 : Int), (0 : Int)], ()) = some ((0 : Int), ()) := f48_two 0 0
  have e4 := f77_eq m
  have e5 := f77_eq m'
  have z1 : (true && decide ((0 : Int) < (a.length : Int))) = true := by have := m.h0; have := m.len; simp; omega
  have z2 : (true && decide ((0 : Int) < (b.length : Int))) = true := by have := m'.h0; have := m'.len; simp; omega
  have d3 : decide ((a.length : Int) = (b.length : Int)) = true := by rw [decide_eq_true_eq, m.len, m'.len]
  have d4 : decide (((List.getD a 0 []).length : Int) = ((List.getD b 0 []).length : Int)) = true := by
    have q1 := m.row 0 m.h0
    have q2 := m'.row 0 m.h0
    simp only [ch] at q1 q2
    rw [decide_eq_true_eq, q1, q2]
  obtain ⟨t1, t2, t3⟩ := tot_bd m H m.h1
  obtain ⟨u1, u2, u3⟩ := tot_bd m' H m'.h1
  have p1 := tot_pos m
  have p2 := tot_pos m'
  have e6 := f78_eq (imX b H W) (imT b H W) (imX a H W) (imT a H W) (by omega) (by omega) ⟨p2, u3.2⟩ ⟨p1, t3.2⟩
  have e7 := f78_eq (imY b H W) (imT b H W) (imY a H W) (imT a H W) (by omega) (by omega) ⟨p2, u3.2⟩ ⟨p1, t3.2⟩
  simp only [f30, t30, Tr.val_test, Tr.val_fin, Tr.val_stop, g76, e1, e2, g48, e3, eqF_eq, z1, z2, d3, d4, decide_true, g77, e4, e5, g78, e6, e7, Option.isSome_some, Option.getD_some, Bool.not_true, Bool.false_eq_true, if_false, if_true]

theorem mvE_ok {a b : List (List Int)} (h : mvE a b = 0) : imE a = 0 ∧ imE b = 0 ∧ ∃ H W, Im a H W ∧ Im b H W := by
  unfold mvE at h
  split at h
  · exact absurd h (by assumption)
  · rename_i h1
    split at h
    · exact absurd h (by assumption)
    · rename_i h2
      split at h
      · rename_i h3
        have h1' : imE a = 0 := by simpa using h1
        have h2' : imE b = 0 := by simpa using h2
        obtain ⟨H, W, m⟩ := im_of h1'
        obtain ⟨H', W', m'⟩ := im_of h2'
        have q1 : H' = H := by rw [← m.len, ← m'.len]; exact h3.1.symm
        have q2 : W' = W := by rw [← m.row 0 m.h0, ← m'.row 0 m'.h0]; exact h3.2.symm
        subst q1; subst q2
        exact ⟨h1', h2', _, _, m, m'⟩
      · cases h

/-! How many. -/

def fitI (c : List (List Int)) : Bool := (first (fun i => !decide (((ch c i).length : Int) ≤ 12)) c.length 0).isNone && decide ((c.length : Int) ≤ 12)

theorem f27_eq (c : List (List Int)) (h : c.length ≤ 9223372036854775807) : f27 (c, ()) = some (fitI c, ()) := by
  have hl : l27_0 ((c, (0 : Int), ()), ()) = match first (fun i => !decide (((ch c i).length : Int) ≤ 12)) c.length 0 with
    | some _ => some (.inr ((false, ()), ()))
    | none => some (.inl ((c, ()), ())) := by
    refine itr_search (fun i => ((c, (i : Int), ()), ())) (fun i => !decide (((ch c i).length : Int) ≤ 12)) (fun k => ((false, ()), ())) (n := c.length) ?_ ?_ (lt_rounds (by omega))
    · intro i hi
      simp only [s27_0, t27_0, Tr.val_test, Tr.val_fin, Tr.val_stop, leF_eq, eqF_eq, Int.toNat_natCast, wrap64_nat (show i ≤ 9223372036854775806 by omega), ch]
      rw [if_pos (by simp; omega), if_pos (by simp; omega)]
    · simp [s27_0, t27_0, leF_eq]
  simp only [f27, t27, Tr.val_test, Tr.val_fin, Tr.val_stop, leF_eq, fitI]
  cases hf : first (fun i => !decide (((ch c i).length : Int) ≤ 12)) c.length 0 with
  | none =>
    rw [hf] at hl
    simp only [hl, isRet, b27_0, outB, Option.isSome_some, Option.isNone_none, if_true, Bool.false_eq_true, if_false, Bool.true_and]
  | some k =>
    rw [hf] at hl
    simp only [hl, isRet, r27_0, outR, Option.isSome_some, Option.isNone_some, if_true, Bool.false_and]

theorem fitI_ok {c : List (List Int)} (h : fitI c = true) : Sm c := by
  simp only [fitI, Bool.and_eq_true, decide_eq_true_eq, Option.isNone_iff_eq_none] at h
  refine ⟨by omega, fun i => ?_⟩
  by_cases hi : i < c.length
  · have := first_none h.1 i (Nat.zero_le _) (by omega)
    have : ((ch c i).length : Int) ≤ 12 := by simpa using this
    omega
  · have : ch c i = [] := by simp [ch, List.getD, List.getElem?_eq_none (Nat.le_of_not_lt hi)]
    rw [this]; simp

end Go.Vm.Mo

namespace Go.Vm.Mo
open Go
set_option linter.unusedVariables false
set_option linter.unusedSimpArgs false

theorem mul_cancel' {a b g : Int} (hg : g ≠ 0) (h : a * g = b * g) : a = b := Int.eq_of_mul_eq_mul_right hg h

def acl (l : List Int) : Nat → Int
  | 0 => 0
  | j + 1 => wrap64 (wrap64 (acl l j * 1000000000) + l.getD (l.length - 1 - j) 0)

theorem acl_eq : ∀ (l : List Int), l.length ≤ 2 → Dg l → acl l l.length = dval l
  | [], _, _ => rfl
  | [d], _, hd => by
    have h1 := hd.head
    have e : acl [d] [d].length = wrap64 (wrap64 (0 * 1000000000) + d) := rfl
    rw [e, wrap64_id (n := 0 * 1000000000) (by omega) (by omega), wrap64_id (by omega) (by omega)]
    simp only [dval]; omega
  | [d, e], _, hd => by
    have h1 := hd.head
    have h2 := hd.tail.head
    have q : acl [d, e] [d, e].length = wrap64 (wrap64 (wrap64 (wrap64 (0 * 1000000000) + e) * 1000000000) + d) := rfl
    rw [q, wrap64_id (n := 0 * 1000000000) (by omega) (by omega), wrap64_id (n := 0 * 1000000000 + e) (by omega) (by omega), wrap64_id (n := (0 * 1000000000 + e) * 1000000000) (by omega) (by omega), wrap64_id (by omega) (by omega)]
    simp only [dval]; omega
  | _ :: _ :: _ :: _, h, _ => by simp at h

theorem l107 (s : Int) (l : List Int) (hl : l.length ≤ 2) (hd : Dg l) : l107_0 (((0 : Int), (l.length : Int) - 1, ()), (s, l, ()), ()) = some (.inl ((dval l, ()), (s, l, ()), ())) := by
  have key := itr_brk (step := s107_0) (fun j => ((acl l j, (l.length : Int) - 1 - (j : Int), ()), (s, l, ()), ())) (n := l.length) (m := rounds) (b := ((acl l l.length, ()), (s, l, ()), ())) ?_ ?_ (lt_rounds (by omega))
  · rw [acl_eq l hl hd] at key
    have e : (l.length : Int) - 1 - ((0 : Nat) : Int) = (l.length : Int) - 1 := by omega
    simp only [e] at key
    exact key
  · intro j hj
    have e1 : Int.toNat ((l.length : Int) - 1 - (j : Int)) = l.length - 1 - j := by omega
    have e2 : wrap64 ((l.length : Int) - 1 - (j : Int) - 1) = (l.length : Int) - 1 - ((j + 1 : Nat) : Int) := by rw [wrap64_id (by omega) (by omega)]; omega
    simp only [s107_0, t107_0, Tr.val_test, Tr.val_fin, Tr.val_stop, leF_eq, e1, e2]
    rw [if_pos (by rw [decide_eq_true_eq]; omega), if_pos (by simp only [Bool.and_eq_true, decide_eq_true_eq]; omega)]
    rfl
  · simp only [s107_0, t107_0, Tr.val_test, Tr.val_fin, Tr.val_stop, leF_eq]
    rw [if_neg (by rw [decide_eq_true_eq]; omega)]

theorem f107_eq (x : Int) (h : (dig x.natAbs).length ≤ 2) : f107 (enc x, ()) = some (x, true, ()) := by
  have hl := l107 x.sign (dig x.natAbs) h (dig_Dg _)
  have n1 : decide (((dig x.natAbs).length : Int) ≤ 2) = true := by rw [decide_eq_true_eq]; omega
  have w1 : wrap64 (((dig x.natAbs).length : Int) - 1) = ((dig x.natAbs).length : Int) - 1 := wrap64_id (by omega) (by omega)
  have hb := dig_len_pw x.natAbs
  have hp := pw_le h
  have hp2 : pw 2 = 1000000000000000000 := rfl
  have w2 : wrap64 (x.sign * dval (dig x.natAbs)) = x := by
    rw [dig_dv, Int.sign_mul_natAbs]
    exact wrap64_id (by omega) (by omega)
  show f107 ((x.sign, dig x.natAbs, ()), ()) = _
  simp only [f107, t107, Tr.val_test, Tr.val_fin, Tr.val_stop, leF_eq, n1, w1, hl, isBrk, b107_0, outB, w2, Bool.not_true, Bool.false_eq_true, if_false, if_true]

theorem f108_eq (n d : Int) : f108 ((n, d, ()), ()) = some (wi (-1000000000) 1000000000 n && wi 1 1000000000 d, ()) := by
  simp only [f108, t108, Tr.val_test, Tr.val_fin, Tr.val_stop, g20, f20_eq, Option.isSome_some, Option.getD_some, if_true]
  cases wi (-1000000000) 1000000000 n <;> simp

theorem f79_eq (n d : Int) (h1 : n.natAbs ≤ 1000000000) (h2 : 1 ≤ d) (h3 : d ≤ 1000000000) : f79 ((enc n, enc d, ()), ()) = some ((n, d, ()), true, ()) := by
  have e1 : f107 ((n.sign, dig n.natAbs, ()), ()) = some (n, true, ()) := f107_eq n (dig_len (by simp only [pw]; omega))
  have e2 : f107 ((d.sign, dig d.natAbs, ()), ()) = some (d, true, ()) := f107_eq d (dig_len (by simp only [pw]; omega))
  have e3 := f108_eq n d
  have q1 : wi (-1000000000) 1000000000 n = true := wi_iff.2 (by omega)
  have q2 : wi 1 1000000000 d = true := wi_iff.2 (by omega)
  rw [q1, q2] at e3
  show f79 (((n.sign, dig n.natAbs, ()), (d.sign, dig d.natAbs, ()), ()), ()) = _
  simp only [f79, t79, Tr.val_test, Tr.val_fin, Tr.val_stop, g107, e1, e2, g108, e3, Option.isSome_some, Option.getD_some, Bool.and_self, Bool.not_true, Bool.false_eq_true, if_false, if_true]

def smallR (r : Rat) : Prop := r.num.natAbs ≤ 1000000000 ∧ r.den ≤ 1000000000

theorem f32_eq (r s : Rat) (hr : smallR r) (hs : smallR s) : f32 ((encR r, encR s, ()), ()) = some (((r.num, (r.den : Int), ()), (s.num, (s.den : Int), ()), ()), ()) := by
  have d1 := r.den_pos
  have d2 := s.den_pos
  have e1 : f79 (((r.num.sign, dig r.num.natAbs, ()), ((r.den : Int).sign, dig (r.den : Int).natAbs, ()), ()), ()) = some ((r.num, (r.den : Int), ()), true, ()) := f79_eq r.num (r.den : Int) hr.1 (by omega) (by have := hr.2; omega)
  have e2 : f79 (((s.num.sign, dig s.num.natAbs, ()), ((s.den : Int).sign, dig (s.den : Int).natAbs, ()), ()), ()) = some ((s.num, (s.den : Int), ()), true, ()) := f79_eq s.num (s.den : Int) hs.1 (by omega) (by have := hs.2; omega)
  show f32 ((((r.num.sign, dig r.num.natAbs, ()), ((r.den : Int).sign, dig (r.den : Int).natAbs, ()), ()), ((s.num.sign, dig s.num.natAbs, ()), ((s.den : Int).sign, dig (s.den : Int).natAbs, ()), ()), ()), ()) = _
  simp only [f32, t32, Tr.val_test, Tr.val_fin, Tr.val_stop, g79, e1, e2, Option.isSome_some, Option.getD_some, if_true]

/-! Lowest terms, both ways. -/

theorem norm_fr (x : Int) (y : Nat) (hy : y ≠ 0) : (Rat.normalize x y hy).num = (fr x (y : Int)).1 ∧ ((Rat.normalize x y hy).den : Int) = (fr x (y : Int)).2.1 := by
  obtain ⟨b1, b2⟩ := fr_mul x (y : Int)
  have g0 := gcd_pos' (x := x) (y := (y : Int)) (by omega)
  rw [Int.natAbs_natCast] at b1 b2 g0
  have hg : ((Nat.gcd x.natAbs y : Nat) : Int) ≠ 0 := by omega
  have hnum : (Rat.normalize x y hy).num = x / ((Nat.gcd x.natAbs y : Nat) : Int) := by rw [Rat.normalize_eq]
  have hden : (Rat.normalize x y hy).den = y / Nat.gcd x.natAbs y := by rw [Rat.normalize_eq]
  have k1 : ((Nat.gcd x.natAbs y : Nat) : Int) ∣ x := Int.ofNat_dvd_left.2 (Nat.gcd_dvd_left _ _)
  have k2 : ((Nat.gcd x.natAbs y : Nat) : Int) ∣ (y : Int) := Int.natCast_dvd_natCast.2 (Nat.gcd_dvd_right _ _)
  refine ⟨mul_cancel' hg ?_, mul_cancel' hg ?_⟩
  · rw [b1, hnum, Int.ediv_mul_cancel k1]
  · rw [b2, hden, Int.natCast_ediv, Int.ediv_mul_cancel k2]

def nz (x s : Int) : Rat := if h : s.toNat = 0 then 0 else Rat.normalize x s.toNat h

theorem nz_fr {x s : Int} (h : 0 < s) : (nz x s).num = (fr x s).1 ∧ ((nz x s).den : Int) = (fr x s).2.1 := by
  have h0 : s.toNat ≠ 0 := by omega
  have e : ((s.toNat : Nat) : Int) = s := by omega
  have := norm_fr x s.toNat h0
  rw [e] at this
  unfold nz
  rw [dif_neg h0]
  exact this

theorem sub_mn {x s y t : Int} (hs : 0 < s) (ht : 0 < t) : (nz x s - nz y t).num = (mn (fr x s) (fr y t)).1 ∧ ((nz x s - nz y t).den : Int) = (mn (fr x s) (fr y t)).2.1 := by
  obtain ⟨a1, a2⟩ := nz_fr (x := x) hs
  obtain ⟨b1, b2⟩ := nz_fr (x := y) ht
  have h0 : (nz x s).den * (nz y t).den ≠ 0 := Nat.mul_ne_zero (nz x s).den_nz (nz y t).den_nz
  have := norm_fr ((nz x s).num * ((nz y t).den : Int) - (nz y t).num * ((nz x s).den : Int)) ((nz x s).den * (nz y t).den) h0
  rw [Rat.sub_def]
  unfold mn
  rw [Int.natCast_mul] at this
  rw [← a1, ← a2, ← b1, ← b2]
  exact this

/-- The difference of two quotients is as small as the difference crosswise. -/
theorem mn_le {x s y t : Int} (hs : 0 < s) (ht : 0 < t) (h : (x * t - y * s).natAbs ≤ 1000000000) : (mn (fr x s) (fr y t)).1.natAbs ≤ 1000000000 := by
  obtain ⟨a1, a2⟩ := fr_mul x s
  obtain ⟨b1, b2⟩ := fr_mul y t
  have g1 := gcd_pos' (x := x) (y := s) (by omega)
  have g2 := gcd_pos' (x := y) (y := t) (by omega)
  have l := (fr_le ((fr x s).1 * (fr y t).2.1 - (fr y t).1 * (fr x s).2.1) ((fr x s).2.1 * (fr y t).2.1)).1
  generalize Nat.gcd x.natAbs s.natAbs = g at *
  generalize Nat.gcd y.natAbs t.natAbs = k at *
  have e : ((fr x s).1 * (fr y t).2.1 - (fr y t).1 * (fr x s).2.1) * ((g * k : Nat) : Int) = x * t - y * s := by
    rw [← a1, ← a2, ← b1, ← b2]
    simp only [a1, a2, b1, b2]
    rw [Int.natCast_mul]
    grind
  have e2 := congrArg Int.natAbs e
  rw [Int.natAbs_mul, Int.natAbs_natCast] at e2
  have gk : 1 ≤ g * k := Nat.mul_pos g1 g2
  have := Nat.mul_le_mul_left ((fr x s).1 * (fr y t).2.1 - (fr y t).1 * (fr x s).2.1).natAbs gk
  unfold mn
  omega

/-! Where a sum with bounded parts lies. -/

theorem sm_lo {c : Nat → Int} {K : Int} : ∀ n : Nat, (∀ i, i < n → 0 ≤ c i ∧ c i ≤ K) → 0 ≤ smP c n ∧ smP c n ≤ (n : Int) * K ∧ smP c n * smP c n - K * smP c n ≤ 2 * K * smP (fun i => (i : Int) * c i) n
  | 0, _ => by simp [smP]
  | n + 1, h => by
    obtain ⟨h1, h2, h3⟩ := sm_lo n fun i hi => h i (by omega)
    obtain ⟨c1, c2⟩ := h n (by omega)
    simp only [smP]
    generalize smP c n = S at *
    generalize smP (fun i => (i : Int) * c i) n = X at *
    generalize c n = d at *
    have hd := Int.mul_nonneg c1 (show 0 ≤ 2 * ((n : Int) * K) - 2 * S + (K - d) by omega)
    refine ⟨by omega, by grind, ?_⟩
    have e : (S + d) * (S + d) - K * (S + d) + d * (2 * ((n : Int) * K) - 2 * S + (K - d)) = (S * S - K * S) + 2 * K * ((n : Int) * d) := by grind
    have e2 : 2 * K * (X + (n : Int) * d) = 2 * K * X + 2 * K * ((n : Int) * d) := by grind
    omega

theorem sm_hi {c : Nat → Int} {K : Int} : ∀ n : Nat, (∀ i, i < n → 0 ≤ c i ∧ c i ≤ K) → 0 ≤ smP c n ∧ 2 * K * smP (fun i => (i : Int) * c i) n ≤ (2 * (n : Int) - 1) * (K * smP c n) - smP c n * smP c n
  | 0, _ => by simp [smP]
  | n + 1, h => by
    obtain ⟨h1, h3⟩ := sm_hi n fun i hi => h i (by omega)
    obtain ⟨c1, c2⟩ := h n (by omega)
    simp only [smP]
    generalize smP c n = S at *
    generalize smP (fun i => (i : Int) * c i) n = X at *
    generalize c n = d at *
    have hd := Int.mul_nonneg (show 0 ≤ 2 * S + d by omega) (show 0 ≤ K - d by omega)
    refine ⟨by omega, ?_⟩
    have e : (2 * ((n + 1 : Nat) : Int) - 1) * (K * (S + d)) - (S + d) * (S + d) = (2 * (n : Int) - 1) * (K * S) - S * S + 2 * K * ((n : Int) * d) + (2 * S + d) * (K - d) := by rw [Int.natCast_add]; grind
    have e2 : 2 * K * (X + (n : Int) * d) = 2 * K * X + 2 * K * ((n : Int) * d) := by grind
    omega

theorem cube (a b : Int) (ha : 0 ≤ a) (hb : 0 ≤ b) (ha' : a ≤ 25500) (hb' : b ≤ 25500) : a * b * (51000 - a - b) ≤ 4913000000000 := by
  have h1 := Int.mul_nonneg (sq_nn (a - b)) (show 0 ≤ 51000 - a - b by omega)
  have h2 := Int.mul_nonneg (sq_nn (3 * (a + b) - 102000)) (show 0 ≤ 3 * (a + b) + 51000 by omega)
  have e : 108 * (a * b * (51000 - a - b)) + 27 * ((a - b) * (a - b) * (51000 - a - b)) + (3 * (a + b) - 102000) * (3 * (a + b) - 102000) * (3 * (a + b) + 51000) = 108 * 4913000000000 := by grind
  omega

theorem cross {c d : Nat → Int} {n : Nat} (hn : n ≤ 10) (hc : ∀ i, i < n → 0 ≤ c i ∧ c i ≤ 2550) (hd : ∀ i, i < n → 0 ≤ d i ∧ d i ≤ 2550) :
    smP (fun i => (i : Int) * c i) n * smP d n - smP (fun i => (i : Int) * d i) n * smP c n ≤ 1000000000 := by
  obtain ⟨c1, c2, -⟩ := sm_lo n hc
  obtain ⟨d1, d2, d3⟩ := sm_lo n hd
  obtain ⟨-, c3⟩ := sm_hi n hc
  generalize smP (fun i => (i : Int) * c i) n = X at *
  generalize smP (fun i => (i : Int) * d i) n = Y at *
  generalize smP c n = S at *
  generalize smP d n = T at *
  have q1 := Int.mul_le_mul_of_nonneg_right c3 d1
  have q2 := Int.mul_le_mul_of_nonneg_right d3 c1
  have q3 := cube S T c1 d1 (by omega) (by omega)
  have q4 := Int.mul_nonneg (Int.mul_nonneg c1 d1) (show 0 ≤ 2 * 2550 * (10 - (n : Int)) by omega)
  have e : 5100 * (X * T - Y * S) = 2 * 2550 * X * T - 2 * 2550 * Y * S := by grind
  have e2 : ((2 * (n : Int) - 1) * (2550 * S) - S * S) * T - (T * T - 2550 * T) * S + S * T * (2 * 2550 * (10 - (n : Int))) = S * T * (51000 - S - T) := by grind
  omega

theorem smP_swap (f : Nat → Nat → Int) (W : Nat) : ∀ H, smP (fun y => smP (fun x => f y x) W) H = smP (fun x => smP (fun y => f y x) H) W
  | 0 => by simp only [smP]; rw [smP_const]; simp
  | H + 1 => by
    simp only [smP]
    rw [smP_swap f W H, ← smP_add]

def colS (c : List (List Int)) (H : Nat) (x : Nat) : Int := smP (fun y => px c y x) H
def rowS (c : List (List Int)) (W : Nat) (y : Nat) : Int := smP (fun x => px c y x) W

theorem imX_col (c : List (List Int)) (H W : Nat) : imX c H W = smP (fun x => (x : Int) * colS c H x) W := by
  unfold imX
  rw [smP_swap]
  refine smP_congr W fun x _ => ?_
  exact smP_mul _ _ _

theorem imY_row (c : List (List Int)) (H W : Nat) : imY c H W = smP (fun y => (y : Int) * rowS c W y) H :=
  smP_congr H fun y _ => smP_mul _ _ _

theorem imT_col (c : List (List Int)) (H W : Nat) : imT c H W = smP (colS c H) W := smP_swap _ W H

theorem col_bd {c : List (List Int)} {H W : Nat} (m : Im c H W) (x : Nat) : 0 ≤ colS c H x ∧ colS c H x ≤ 2550 := by
  have := smP_nb (f := fun y => px c y x) (B := 255) H fun y _ => m.bd y x
  have := m.h1
  unfold colS
  omega

theorem row_bd' {c : List (List Int)} {H W : Nat} (m : Im c H W) (y : Nat) : 0 ≤ rowS c W y ∧ rowS c W y ≤ 2550 := by
  have := smP_nb (f := fun x => px c y x) (B := 255) W fun x _ => m.bd y x
  have := m.w1
  unfold rowS
  omega

theorem crossX {a b : List (List Int)} {H W : Nat} (m : Im a H W) (m' : Im b H W) : (imX b H W * imT a H W - imX a H W * imT b H W).natAbs ≤ 1000000000 := by
  have h1 := cross (c := colS b H) (d := colS a H) m.w1 (fun x _ => col_bd m' x) (fun x _ => col_bd m x)
  have h2 := cross (c := colS a H) (d := colS b H) m.w1 (fun x _ => col_bd m x) (fun x _ => col_bd m' x)
  rw [← imX_col, ← imX_col, ← imT_col, ← imT_col] at h1 h2
  omega

theorem crossY {a b : List (List Int)} {H W : Nat} (m : Im a H W) (m' : Im b H W) : (imY b H W * imT a H W - imY a H W * imT b H W).natAbs ≤ 1000000000 := by
  have e : ∀ c : List (List Int), imT c H W = smP (rowS c W) H := fun _ => rfl
  have h1 := cross (c := rowS b W) (d := rowS a W) m.h1 (fun x _ => row_bd' m' x) (fun x _ => row_bd' m x)
  have h2 := cross (c := rowS a W) (d := rowS b W) m.h1 (fun x _ => row_bd' m x) (fun x _ => row_bd' m' x)
  rw [← imY_row, ← imY_row, ← e, ← e] at h1 h2
  omega

end Go.Vm.Mo

namespace Go.Vm.Mo
open Go
set_option linter.unusedVariables false
set_option linter.unusedSimpArgs false

theorem l33i {c : List (List Int)} {H W : Nat} (m : Im c H W) (a b s : Int) (y : Nat) (hy : y < H) (ha : 0 ≤ a ∧ a ≤ 1000000) (hb : 0 ≤ b ∧ b ≤ 1000000) (hs : 0 ≤ s ∧ s ≤ 1000000) (z1 z2 z3 z4 : Int) :
    l33_2 ((c, a, b, s, (y : Int), (0 : Int), ()), (z1, z2, z3, z4, ()), ()) =
      some (.inl ((c, a + smP (fun x => (x : Int) * px c y x) W, b + smP (fun x => (y : Int) * px c y x) W, s + smP (fun x => px c y x) W, (y : Int), ()), (z1, z2, z3, z4, ()), ())) := by
  have hW := m.row y hy
  have hw := m.w1
  have hh := m.h1
  have hl := m.len
  have e0 : ∀ f, smP f 0 = 0 := fun _ => rfl
  have ey : (decide ((0 : Int) ≤ (y : Int)) && decide ((y : Int) < (c.length : Int))) = true := by simp only [Bool.and_eq_true, decide_eq_true_eq]; omega
  have er : List.getD c y [] = ch c y := rfl
  have key := itr_brk (step := s33_2) (fun i => ((c, a + smP (fun x => (x : Int) * px c y x) i, b + smP (fun x => (y : Int) * px c y x) i, s + smP (fun x => px c y x) i, (y : Int), (i : Int), ()), (z1, z2, z3, z4, ()), ())) (n := W) (m := rounds) (b := ((c, a + smP (fun x => (x : Int) * px c y x) W, b + smP (fun x => (y : Int) * px c y x) W, s + smP (fun x => px c y x) W, (y : Int), ()), (z1, z2, z3, z4, ()), ())) ?_ ?_ (lt_rounds (by omega))
  · simp only [e0, Int.add_zero] at key
    exact key
  · intro i hi
    obtain ⟨g1, g2, g3⟩ := row_bd m y i (by omega) (by omega)
    have x1 := xp_bd m i (by omega) y i
    have x2 := xp_bd m y (by omega) y i
    have x3 := m.bd y i
    have w1 : wrap64 ((i : Int) * px c y i) = (i : Int) * px c y i := wrap64_id (by omega) (by omega)
    have w2 : wrap64 ((y : Int) * px c y i) = (y : Int) * px c y i := wrap64_id (by omega) (by omega)
    have w3 : wrap64 (a + smP (fun x => (x : Int) * px c y x) i + (i : Int) * px c y i) = a + smP (fun x => (x : Int) * px c y x) (i + 1) := by rw [wrap64_id (by omega) (by omega)]; simp only [smP]; omega
    have w4 : wrap64 (b + smP (fun x => (y : Int) * px c y x) i + (y : Int) * px c y i) = b + smP (fun x => (y : Int) * px c y x) (i + 1) := by rw [wrap64_id (by omega) (by omega)]; simp only [smP]; omega
    have w5 : wrap64 (s + smP (fun x => px c y x) i + px c y i) = s + smP (fun x => px c y x) (i + 1) := by rw [wrap64_id (by omega) (by omega)]; simp only [smP]; omega
    have ep : List.getD (ch c y) i (0 : Int) = px c y i := rfl
    have ei : (decide ((0 : Int) ≤ (i : Int)) && decide ((i : Int) < ((ch c y).length : Int))) = true := by simp only [Bool.and_eq_true, decide_eq_true_eq]; omega
    simp only [s33_2, t33_2, Tr.val_test, Tr.val_fin, Tr.val_stop, leF_eq, Int.toNat_natCast, wrap64_nat (show i ≤ 9223372036854775806 by omega), er, ep, ei, ey, w1, w2, w3, w4, w5, if_true]
    rw [if_pos (by simp only [Bool.not_eq_true', decide_eq_false_iff_not]; omega)]
  · have : ((ch c y).length : Int) ≤ (W : Int) := by omega
    simp only [s33_2, t33_2, Tr.val_test, Tr.val_fin, Tr.val_stop, leF_eq, Int.toNat_natCast, er, ey, this, decide_true, Bool.not_true, Bool.false_eq_true, if_false, if_true]

theorem l33 {c : List (List Int)} {H W : Nat} (m : Im c H W) :
    l33_0 ((c, (0 : Int), (0 : Int), (0 : Int), (0 : Int), ()), ((0 : Int), (0 : Int), (0 : Int), (0 : Int), ()), ()) =
      some (.inl ((imX c H W, imY c H W, imT c H W, ()), ((0 : Int), (0 : Int), (0 : Int), (0 : Int), ()), ())) := by
  have hh := m.h1
  have hl := m.len
  refine itr_brk (fun y => ((c, imX c y W, imY c y W, imT c y W, (y : Int), ()), ((0 : Int), (0 : Int), (0 : Int), (0 : Int), ()), ())) (n := H) ?_ ?_ (lt_rounds (by omega))
  · intro y hy
    obtain ⟨t1, t2, t3⟩ := tot_bd m y (by omega)
    have e := l33i m (imX c y W) (imY c y W) (imT c y W) y hy ⟨t1.1, by omega⟩ ⟨t2.1, by omega⟩ ⟨t3.1, by omega⟩ 0 0 0 0
    simp only [s33_0, t33_0, Tr.val_test, Tr.val_fin, Tr.val_stop, leF_eq]
    rw [if_pos (by simp only [Bool.not_eq_true', decide_eq_false_iff_not]; omega)]
    simp only [e, isBrk, b33_2, outB, if_true, wrap64_nat (show y ≤ 9223372036854775806 by omega)]
    rfl
  · have : ((c.length : Nat) : Int) ≤ (H : Int) := by omega
    simp only [s33_0, t33_0, Tr.val_test, Tr.val_fin, Tr.val_stop, leF_eq, this, decide_true, Bool.not_true, Bool.false_eq_true, if_false]

theorem f75_nz (x s : Int) (h : x.natAbs ≤ 9223372036854775807) (h0 : 0 < s) (h2 : s ≤ 9223372036854775807) : f75 (x, s, ()) = some (encR (nz x s), ()) := by
  have hs : s.toNat ≠ 0 := by omega
  have e : ((s.toNat : Nat) : Int) = s := by omega
  have := f75_eq x s.toNat hs h (by omega)
  rw [e] at this
  unfold nz
  rw [dif_neg hs]
  exact this

theorem f33_eq {c : List (List Int)} {H W : Nat} (m : Im c H W) : f33 (c, ()) = some ((encR (nz (imX c H W) (imT c H W)), encR (nz (imY c H W) (imT c H W)), ()), ()) := by
  obtain ⟨t1, t2, t3⟩ := tot_bd m H m.h1
  have t4 := tot_pos m
  have e1 := f75_nz (imX c H W) (imT c H W) (by omega) t4 (by omega)
  have e2 := f75_nz (imY c H W) (imT c H W) (by omega) t4 (by omega)
  simp only [f33, t33, Tr.val_test, Tr.val_fin, Tr.val_stop, l33 m, isBrk, b33_0, outB, g75, e1, e2, Option.isSome_some, Option.getD_some, if_true]

theorem nz_small {x s : Int} (h : 0 < s) (h1 : x.natAbs ≤ 255000) (h2 : s ≤ 25500) : smallR (nz x s) ∧ rsz (nz x s) 2000 := by
  obtain ⟨a1, a2⟩ := nz_fr (x := x) h
  obtain ⟨l1, l2⟩ := fr_le x s
  rw [← a1] at l1
  rw [← a2] at l2
  rw [Int.natAbs_natCast] at l2
  refine ⟨⟨by omega, by omega⟩, Nat.le_trans (dig_len (k := 1) (by simp only [pw]; omega)) (by decide), Nat.le_trans (dig_len (k := 1) (by simp only [pw]; omega)) (by decide)⟩

theorem sub_small {x s y t : Int} (hs : 0 < s) (ht : 0 < t) (hs' : s ≤ 25500) (ht' : t ≤ 25500) (h : (x * t - y * s).natAbs ≤ 1000000000) : smallR (nz x s - nz y t) := by
  obtain ⟨a1, a2⟩ := sub_mn (x := x) (y := y) hs ht
  have l1 := mn_le hs ht h
  have p1 := fr_pos (x := x) hs
  have p2 := fr_pos (x := y) ht
  have k1 := (fr_le x s).2
  have k2 := (fr_le y t).2
  have k3 := (fr_le ((fr x s).1 * (fr y t).2.1 - (fr y t).1 * (fr x s).2.1) ((fr x s).2.1 * (fr y t).2.1)).2
  have m3 := mulB (x := (fr x s).2.1) (y := (fr y t).2.1) (A := 25500) (B := 25500) (by omega) (by omega)
  unfold mn at a2
  rw [← a1] at l1
  rw [← a2, Int.natAbs_natCast] at k3
  exact ⟨l1, by omega⟩

theorem f35_eq {a b : List (List Int)} {H W : Nat} (m : Im a H W) (m' : Im b H W) :
    f35 (a, b, ()) = some ((mn (fr (imX b H W) (imT b H W)) (fr (imX a H W) (imT a H W)), mn (fr (imY b H W) (imT b H W)) (fr (imY a H W) (imT a H W)), ()), ()) := by
  obtain ⟨t1, t2, t3⟩ := tot_bd m H m.h1
  obtain ⟨u1, u2, u3⟩ := tot_bd m' H m'.h1
  have p1 := tot_pos m
  have p2 := tot_pos m'
  have e1 := f33_eq m
  have e2 := f33_eq m'
  have ax := nz_small (x := imX a H W) p1 (by omega) t3.2
  have ay := nz_small (x := imY a H W) p1 (by omega) t3.2
  have bx := nz_small (x := imX b H W) p2 (by omega) u3.2
  have bY := nz_small (x := imY b H W) p2 (by omega) u3.2
  have e3 := f80_eq (nz (imX b H W) (imT b H W)) (nz (imX a H W) (imT a H W)) bx.2 ax.2
  have e4 := f80_eq (nz (imY b H W) (imT b H W)) (nz (imY a H W) (imT a H W)) bY.2 ay.2
  have e5 := f32_eq (nz (imX b H W) (imT b H W) - nz (imX a H W) (imT a H W)) (nz (imY b H W) (imT b H W) - nz (imY a H W) (imT a H W))
    (sub_small p2 p1 u3.2 t3.2 (crossX m m')) (sub_small p2 p1 u3.2 t3.2 (crossY m m'))
  rw [(sub_mn p2 p1).1, (sub_mn p2 p1).2, (sub_mn p2 p1).1, (sub_mn p2 p1).2] at e5
  have e3' : ∀ r : Rat, (((encR r).1.1, (encR r).1.2.1, ()), ((encR r).2.1.1, (encR r).2.1.2.1, ()), ()) = encR r := fun _ => rfl
  simp only [f35, t35, Tr.val_test, Tr.val_fin, Tr.val_stop, g33, e1, e2, e3', g80, e3, e4, g32, e5, Option.isSome_some, Option.getD_some, if_true]

/-! The law. -/

theorem f5_eq (a b : List (List Int)) (h1 : a.length ≤ 9223372036854775807) (h2 : b.length ≤ 9223372036854775807) : f5 (a, b, ()) = some (true, ()) := by
  have e1 := f27_eq a h1
  have e2 := f27_eq b h2
  by_cases ha : fitI a = true
  rotate_left
  · have ha' := Bool.eq_false_iff.2 ha
    rw [ha'] at e1
    simp only [f5, t5, Tr.val_test, Tr.val_fin, Tr.val_stop, g27, e1, Option.isSome_some, Option.getD_some, Bool.not_false, ↓reduceIte]
  by_cases hb : fitI b = true
  rotate_left
  · have hb' := Bool.eq_false_iff.2 hb
    rw [ha] at e1
    rw [hb'] at e2
    simp only [f5, t5, Tr.val_test, Tr.val_fin, Tr.val_stop, g27, e1, e2, Option.isSome_some, Option.getD_some, Bool.not_false, Bool.not_true, Bool.false_eq_true, ↓reduceIte]
  rw [ha] at e1
  rw [hb] at e2
  have sa := fitI_ok ha
  have sb := fitI_ok hb
  have e3 := f29_eq a sa.1 sa.2
  have e4 := f29_eq b sb.1 sb.2
  have e5 := f31_eq a sa
  have e6 := f34_eq sa sb
  have z : ((0 : Int) == (0 : Int)) = true := rfl
  by_cases hv : mvE a b = 0
  · obtain ⟨r1, r2, H, W, m, m'⟩ := mvE_ok hv
    have e7 := f28_eq m r1
    have e8 := f30_eq m m' r1 r2
    have e9 := f33_eq m
    obtain ⟨t1, t2, t3⟩ := tot_bd m H m.h1
    have p1 := tot_pos m
    have ax := nz_small (x := imX a H W) p1 (by omega) t3.2
    have ay := nz_small (x := imY a H W) p1 (by omega) t3.2
    have e10 := f32_eq (nz (imX a H W) (imT a H W)) (nz (imY a H W) (imT a H W)) ax.1 ay.1
    rw [(nz_fr p1).1, (nz_fr p1).2, (nz_fr p1).1, (nz_fr p1).2] at e10
    have e11 := f35_eq m m'
    have eR : ∀ r : Rat, (((encR r).1.1, (encR r).1.2.1, ()), ((encR r).2.1.1, (encR r).2.1.2.1, ()), ()) = encR r := fun _ => rfl
    rw [r1] at e5
    rw [hv] at e6
    simp only [f5, t5, Tr.val_test, Tr.val_fin, Tr.val_stop, g27, e1, e2, g29, e3, e4, g28, e7, g30, e8, g31, e5, g34, e6, g33, e9, eR, g32, e10, g35, e11, eqF_eq, decide_true, beq_self_eq_true, Bool.and_self, Option.isSome_some, Option.getD_some, Bool.not_false, Bool.not_true, Bool.false_eq_true, ↓reduceIte]
  · have nv : decide (mvE a b = 0) = false := by simpa using hv
    have e8 := f30_bad sa sb hv
    by_cases r1 : imE a = 0
    · obtain ⟨H, W, m⟩ := im_of r1
      have e7 := f28_eq m r1
      have e9 := f33_eq m
      obtain ⟨t1, t2, t3⟩ := tot_bd m H m.h1
      have p1 := tot_pos m
      have ax := nz_small (x := imX a H W) p1 (by omega) t3.2
      have ay := nz_small (x := imY a H W) p1 (by omega) t3.2
      have e10 := f32_eq (nz (imX a H W) (imT a H W)) (nz (imY a H W) (imT a H W)) ax.1 ay.1
      rw [(nz_fr p1).1, (nz_fr p1).2, (nz_fr p1).1, (nz_fr p1).2] at e10
      have eR : ∀ r : Rat, (((encR r).1.1, (encR r).1.2.1, ()), ((encR r).2.1.1, (encR r).2.1.2.1, ()), ()) = encR r := fun _ => rfl
      rw [r1] at e5
      simp only [f5, t5, Tr.val_test, Tr.val_fin, Tr.val_stop, g27, e1, e2, g29, e3, e4, g28, e7, g30, e8, g31, e5, g34, e6, g33, e9, eR, g32, e10, eqF_eq, nv, z, decide_true, beq_self_eq_true, Bool.and_self, Option.isSome_some, Option.getD_some, Bool.not_false, Bool.not_true, Bool.false_eq_true, ↓reduceIte]
    · have n1 : decide (imE a = 0) = false := by simpa using r1
      have e7 := f28_bad sa r1
      simp only [f5, t5, Tr.val_test, Tr.val_fin, Tr.val_stop, g27, e1, e2, g29, e3, e4, g28, e7, g30, e8, g31, e5, g34, e6, eqF_eq, n1, nv, z, decide_true, beq_self_eq_true, Bool.and_self, Option.isSome_some, Option.getD_some, Bool.not_false, Bool.not_true, Bool.false_eq_true, ↓reduceIte]

theorem law5 (d : Tys.data as5) (hw : Tys.Wf as5 d) : Pure1 Go.Proofs.Tryz.prog 5 as5 [.bool] d (true, ()) := by
  have h1 : List.length d.1 ≤ 9223372036854775807 := hw.1.1
  have h2 : List.length d.2.1 ≤ 9223372036854775807 := hw.2.1.1
  have h := f5_eq d.1 d.2.1 h1 h2
  have hp : p5.pre d = true := by
    show Option.isSome (f5 d) = true
    rw [show f5 d = some (true, ()) from h]; rfl
  have hg : p5.fn d = (true, ()) := by
    show (f5 d).getD _ = _
    rw [show f5 d = some (true, ()) from h]; rfl
  have := ok5.runs d hp
  rw [hg] at this
  exact this

end Go.Vm.Mo
