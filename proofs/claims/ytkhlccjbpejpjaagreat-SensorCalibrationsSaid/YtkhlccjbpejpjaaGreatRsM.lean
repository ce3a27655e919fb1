import Derived.Test.YtkhlccjbpejpjaaGreatRsFc
import Derived.Test.YtkhlccjbpejpjaaGreatA4
set_option linter.unusedVariables false
set_option linter.unusedSimpArgs false

namespace Go.Vm.Mo
open Go
set_option linter.unusedVariables false
set_option linter.unusedSimpArgs false

theorem first_map (bad : Nat → Bool) : ∀ (n i : Nat), first bad n (i + 1) = (first (fun k => bad (k + 1)) n i).map (· + 1)
  | 0, _ => rfl
  | n + 1, i => by
    simp only [first]
    split
    · rfl
    · exact first_map bad n (i + 1)

/-- The first that is not 0. -/
def firstNZ : List Int → Int
  | [] => 0
  | a :: l => if a = 0 then firstNZ l else a

theorem firstNZ_eq : ∀ l : List Int, (match first (fun i => !decide (l.getD i 0 = 0)) l.length 0 with
    | some k => l.getD k 0
    | none => 0) = firstNZ l
  | [] => rfl
  | a :: l => by
    simp only [List.length, first, firstNZ]
    by_cases ha : a = 0
    · subst ha
      have e := firstNZ_eq l
      have hf : first (fun i => !decide (((0 : Int) :: l).getD i 0 = 0)) l.length (0 + 1) = (first (fun i => !decide (l.getD i 0 = 0)) l.length 0).map (· + 1) := by
        rw [first_map]; rfl
      simp only [hf, List.getD_cons_zero, decide_true, Bool.not_true, Bool.false_eq_true, if_false, if_true]
      rw [← e]
      cases first (fun i => !decide (l.getD i 0 = 0)) l.length 0 with
      | none => rfl
      | some k => rfl
    · simp [ha]

theorem l48 (l : List Int) (h : l.length ≤ 1000000000) : l48_0 ((l, (l.length : Int), (0 : Int), ()), ()) = match first (fun i => !decide (l.getD i 0 = 0)) l.length 0 with
    | some k => some (.inr ((l.getD k 0, ()), ()))
    | none => some (.inl ((), ())) := by
  refine itr_search (fun i => ((l, (l.length : Int), (i : Int), ()), ())) (fun i => !decide (l.getD i 0 = 0)) (fun k => ((l.getD k 0, ()), ())) (n := l.length) ?_ ?_ (lt_rounds (by omega))
  · intro i hi
    simp only [s48_0, t48_0, Tr.val_test, leF_eq, eqF_eq]
    rw [if_pos (by simp; omega), if_pos (by simp; omega)]
    simp only [Int.toNat_natCast, wrap64_nat (show i ≤ 9223372036854775806 by omega)]
    rfl
  · simp [s48_0, t48_0, leF_eq]

theorem f48_eq (l : List Int) (h : l.length ≤ 1000000000) : f48 (l, ()) = some (firstNZ l, ()) := by
  simp only [f48, t48, Tr.val_test, r48_0, l48 l h, ← firstNZ_eq l]
  cases first (fun i => !decide (l.getD i 0 = 0)) l.length 0 with
  | none => rfl
  | some k => rfl

theorem f62_eq (d : Tys.data as62) : f62 d = some (if d.1 = true then d.2.1 else (0 : Int), ()) := by
  simp only [f62, t62, Tr.val_test]
  split <;> rfl

def wi (lo hi x : Int) : Bool := decide (lo ≤ x) && decide (x ≤ hi)

theorem wi_iff {lo hi x : Int} : wi lo hi x = true ↔ lo ≤ x ∧ x ≤ hi := by simp [wi]

theorem f20_eq (d : Tys.data as20) : f20 d = some (wi d.2.1 d.2.2.1 d.1, ()) := by
  simp only [f20, t20, Tr.val_test, Tr.val_fin, leF_eq, decide_eq_true_eq, wi]
  split <;> simp [*]

theorem l66 (lo hi : Int) (l : List Int) (h : l.length ≤ 1000000000) : l66_0 ((lo, hi, l, (l.length : Int), (0 : Int), ()), ()) = match first (fun i => !wi lo hi (l.getD i 0)) l.length 0 with
    | some _ => some (.inr ((false, ()), ()))
    | none => some (.inl ((), ())) := by
  refine itr_search (fun i => ((lo, hi, l, (l.length : Int), (i : Int), ()), ())) (fun i => !wi lo hi (l.getD i 0)) (fun _ => ((false, ()), ())) (n := l.length) ?_ ?_ (lt_rounds (by omega))
  · intro i hi'
    simp only [s66_0, t66_0, Tr.val_test, Tr.val_fin, leF_eq, Int.toNat_natCast, wrap64_nat (show i ≤ 9223372036854775806 by omega)]
    rw [if_pos (by simp; omega), if_pos (by simp; omega)]
    by_cases a0 : lo ≤ l.getD i 0
    · by_cases a1 : l.getD i 0 ≤ hi
      · simp only [wi, a0, a1, decide_true, Bool.and_self, Bool.not_true, if_true, if_false, Bool.false_eq_true]
      · simp only [wi, a0, a1, decide_true, decide_false, Bool.and_false, Bool.not_false, Bool.not_true, if_true, if_false, Bool.false_eq_true]
    · simp only [wi, a0, decide_false, Bool.false_and, Bool.not_false, if_true, if_false, Bool.false_eq_true]
  · simp [s66_0, t66_0, leF_eq]

theorem f66_eq (lo hi : Int) (l : List Int) (h : l.length ≤ 1000000000) : f66 (lo, hi, l, ()) = some ((first (fun i => !wi lo hi (l.getD i 0)) l.length 0).isNone, ()) := by
  have hl := l66 lo hi l h
  cases hf : first (fun i => !wi lo hi (l.getD i 0)) l.length 0 with
  | none =>
    rw [hf] at hl
    simp only [f66, t66, Tr.val_test, Tr.val_fin, hl, isRet, Option.isSome_some, Option.isNone_none, if_true, Bool.false_eq_true, if_false]
  | some k =>
    rw [hf] at hl
    simp only [f66, t66, Tr.val_test, Tr.val_fin, hl, isRet, r66_0, outR, Option.isSome_some, Option.isNone_some, if_true]

theorem f66_two (lo hi a b : Int) : f66 (lo, hi, [a, b], ()) = some (wi lo hi a && wi lo hi b, ()) := by
  rw [f66_eq lo hi _ (by simp)]
  simp only [first, List.length, List.getD_cons_zero, List.getD_cons_succ]
  by_cases h1 : wi lo hi a = true
  · by_cases h2 : wi lo hi b = true
    · simp [h1, h2]
    · simp [h1, h2]
  · simp [h1]

theorem f66_one (lo hi a : Int) : f66 (lo, hi, [a], ()) = some (wi lo hi a, ()) := by
  rw [f66_eq lo hi _ (by simp)]
  simp only [first, List.length, List.getD_cons_zero]
  by_cases h1 : wi lo hi a = true
  · simp [h1]
  · simp [h1]

theorem f93_eq (n m : Int) : f93 (n, m, ()) = some (if n = 0 then 10 else if ¬ n ≤ m then 8 else 0, ()) := by
  simp only [f93, t93, Tr.val_test, Tr.val_fin, g62, g48, f62_eq, Option.isSome_some, Option.getD_some, if_true]
  rw [f48_eq _ (by simp)]
  simp only [Option.isSome_some, Option.getD_some, if_true, eqF_eq, leF_eq, decide_eq_true_eq, Bool.not_eq_true', decide_eq_false_iff_not, firstNZ]
  by_cases h1 : n = 0
  · simp [h1]
  · by_cases h2 : n ≤ m
    · simp [h1, h2]
    · simp [h1, h2]

theorem wn64 {x : Int} (h1 : -9223372036854775807 ≤ x) (h2 : x ≤ 9223372036854775807) : IntKind.wrap .i64 (0 - x) = -x := by
  rw [← wrap64_eq, wrap64_id (by omega) (by omega)]
  omega

/-! Channels. -/

abbrev ch (c : List (List Int)) (i : Nat) : List Int := c.getD i []

theorem f48_two (a b : Int) : f48 ([a, b], ()) = some (if a = 0 then b else a, ()) := by
  rw [f48_eq _ (by simp)]
  simp only [firstNZ]
  by_cases h : a = 0
  · by_cases h2 : b = 0
    · simp [h, h2]
    · simp [h, h2]
  · simp [h]

/-! Copies; how many samples. -/

def fitF (c : List (List Int)) : Option Nat := first (fun i => !decide (((ch c i).length : Int) ≤ 62)) c.length 0

def fits (c : List (List Int)) : Bool := (fitF c).isNone && decide ((c.length : Int) ≤ 9)

theorem wrapJ {n : Int} (h1 : -9223372036854775808 ≤ n) (h2 : n ≤ 9223372036854775807) : IntKind.wrap .i64 n = n := by rw [← wrap64_eq, wrap64_id h1 h2]

theorem f21_abs (x : Int) (h : x.natAbs ≤ 9223372036854775807) : f21 (x, ()) = some ((x.natAbs : Int), ()) := by
  simp only [f21, t21, Tr.val_fin]
  rw [wrapJ (by omega) (by omega)]
  have e : (if x < 0 - x then 0 - x else x) = (x.natAbs : Int) := by split <;> omega
  rw [e]

theorem l122 (l : List Int) (h : l.length ≤ 1000000000) : l122_0 ((l, (l.length : Int), ()), ()) = some (.inl ((l, (trimN l l.length : Int), ()), ())) := by
  have hle := trimN_le l l.length
  refine itr_brk (fun i => ((l, ((l.length - i : Nat) : Int), ()), ())) (n := l.length - trimN l l.length) ?_ ?_ (lt_rounds (by omega))
  · intro i hi
    have h0 := trimN_zero l l.length (l.length - i - 1) (by omega) (by omega)
    have e : wrap64 (((l.length - i : Nat) : Int) - 1) = ((l.length - i - 1 : Nat) : Int) := by rw [wrap64_id (by omega) (by omega)]; omega
    simp only [s122_0, t122_0, Tr.val_test, Tr.val_fin, leF_eq, eqF_eq, e, Int.toNat_natCast, h0]
    rw [if_pos (by simp <;> omega), if_pos (by simp <;> omega), if_pos (by simp)]
    rfl
  · have e0 : l.length - (l.length - trimN l l.length) = trimN l l.length := by omega
    dsimp only
    rw [e0]
    cases hk : trimN l l.length with
    | zero => simp [s122_0, t122_0, leF_eq]
    | succ m =>
      have h0 := trimN_last l l.length m hk
      have e : wrap64 (((m + 1 : Nat) : Int) - 1) = ((m : Nat) : Int) := by rw [wrap64_id (by omega) (by omega)]; omega
      simp only [s122_0, t122_0, Tr.val_test, Tr.val_fin, leF_eq, eqF_eq, e, Int.toNat_natCast]
      rw [if_pos (by simp <;> omega), if_pos (by simp <;> omega), if_neg (by simpa using h0)]

theorem f122_eq (l : List Int) (h : l.length ≤ 1000000000) (hd : Dg l) : f122 (l, ()) = some (dig (dval l).toNat, ()) := by
  have hle := trimN_le l l.length
  simp only [f122, t122, b122_0, l122 l h, Tr.val_test, Tr.val_fin, isBrk, if_true, outB, Int.toNat_natCast]
  rw [if_pos (by simp <;> omega), trim_dig hd]

/-- A number out of its sign and its size. -/
def mkN (s n : Int) : Int × List Int × PUnit := if n = 0 then (0, [], ()) else (s, dig n.toNat, ())

theorem f100_eq (s : Int) (l : List Int) (h : l.length ≤ 1000000000) (hd : Dg l) : f100 (s, l, ()) = some (mkN s (dval l), ()) := by
  have h0 := dv_nonneg hd
  simp only [f100, t100, g122, f122_eq l h hd, Option.isSome_some, Option.getD_some, Tr.val_test, Tr.val_fin, eqF_eq, if_true, mkN]
  by_cases e : dval l = 0
  · rw [if_pos (by rw [e]; simp [dig_zero]), if_pos e, e]
    simp [dig_zero]
  · rw [if_neg e, if_neg]
    intro h2
    simp only [decide_eq_true_eq] at h2
    have h3 : (dig (dval l).toNat).length = 0 := by omega
    have := dig_nil.1 (List.eq_nil_of_length_eq_zero h3)
    omega

theorem mkN_enc {s z : Int} (h : z ≠ 0 → s = z.sign) : mkN s z.natAbs = enc z := by
  unfold mkN enc
  by_cases e : z = 0
  · subst e; simp [dig_zero]
  · rw [if_neg (by omega), h e]; simp

theorem f131_eq (l : List Int) (i : Nat) : f131 (l, (i : Int), ()) = some (l.getD i 0, ()) := by
  simp only [f131, t131, Tr.val_test, Tr.val_fin, leF_eq]
  by_cases h : i < l.length
  · rw [if_pos (by simp <;> omega), if_pos (by simp <;> omega)]; simp
  · rw [if_neg (by simp <;> omega)]
    simp [List.getD, List.getElem?_eq_none (Nat.le_of_not_lt h)]

theorem it98 (s b : Int) : ∀ (k : Nat) (x : Int) (acc : List Int) (m : Nat), (x.natAbs : Int) < pw k → x.natAbs ≤ 9223372036854775807 → acc.length + k ≤ 1000000 → k < m →
    itr s98_0 m ((x, s, acc, ()), ((b, ()), ())) = some (.inl ((s, acc ++ dig x.natAbs, ()), ((b, ()), ())))
  | 0, x, acc, m, h1, _, _, hm => by
    have : x = 0 := by simp only [pw] at h1; omega
    subst this
    obtain ⟨m, rfl⟩ : ∃ j, m = j + 1 := ⟨m - 1, by omega⟩
    simp [itr, s98_0, t98_0, eqF_eq, dig_zero]
  | k + 1, x, acc, m, h1, h2, h3, hm => by
    obtain ⟨m, rfl⟩ : ∃ j, m = j + 1 := ⟨m - 1, by omega⟩
    by_cases hx : x = 0
    · subst hx
      simp [itr, s98_0, t98_0, eqF_eq, dig_zero]
    · have e1 : (Int.tmod x 1000000000).natAbs = x.natAbs % 1000000000 := by rw [Int.natAbs_tmod]; rfl
      have e2 : (Int.tdiv x 1000000000).natAbs = x.natAbs / 1000000000 := by rw [Int.natAbs_tdiv]; rfl
      have e3 : IntKind.wrap .i64 (Int.tdiv x 1000000000) = Int.tdiv x 1000000000 := wrapJ (by omega) (by omega)
      have st : s98_0 ((x, s, acc, ()), ((b, ()), ())) = some (.again ((Int.tdiv x 1000000000, s, acc ++ [((x.natAbs % 1000000000 : Nat) : Int)], ()), ((b, ()), ()))) := by
        simp only [s98_0, t98_0, g21, f21_abs (Int.tmod x 1000000000) (by omega), Option.isSome_some, Option.getD_some, Tr.val_test, Tr.val_fin, eqF_eq, e3, e1, if_true]
        rw [if_pos (by simpa using hx), if_pos (by simp <;> omega)]
      simp only [pw] at h1
      rw [itr, st]
      dsimp only
      rw [it98 s b k (Int.tdiv x 1000000000) _ m (by omega) (by omega) (by simp <;> omega) (by omega), dig_pos (show x.natAbs ≠ 0 by omega), e2]
      simp

theorem f98_eq (x : Int) (h : x.natAbs ≤ 9223372036854775807) : f98 (x, ()) = some (enc x, ()) := by
  have hl : ∀ s : Int, l98_0 ((x, s, [], ()), (((0 : Int), ()), ())) = some (.inl ((s, dig x.natAbs, ()), (((0 : Int), ()), ()))) := fun s => by
    have := it98 s 0 3 x [] rounds (by simp only [pw]; omega) h (by simp) (lt_rounds (by omega))
    simpa [l98_0] using this
  have hg : (dig x.natAbs).length ≤ 3 := dig_len (by simp only [pw]; omega)
  have e := dig_dv x.natAbs
  simp only [f98, t98, b98_0, hl, g100, f100_eq _ (dig x.natAbs) (by omega) (dig_Dg _), e, Option.isSome_some, Option.getD_some, Tr.val_test, Tr.val_fin, isBrk, outB, if_true, leF_eq]
  by_cases hx : 0 ≤ x
  · rw [if_neg (by simp <;> omega)]
    have : mkN 1 (x.natAbs : Int) = enc x := mkN_enc fun h => by rw [Int.sign_eq_one_of_pos (by omega)]
    rw [this]
  · rw [if_pos (by simp <;> omega)]
    have : mkN (-1) (x.natAbs : Int) = enc x := mkN_enc fun h => by rw [Int.sign_eq_neg_one_of_neg (by omega)]
    rw [this]

/-- Carries and digits of a sum. -/
def cA (a b : List Int) : Nat → Int
  | 0 => 0
  | i + 1 => (a.getD i 0 + b.getD i 0 + cA a b i) / 1000000000

def oA (a b : List Int) : Nat → List Int
  | 0 => []
  | i + 1 => oA a b i ++ [(a.getD i 0 + b.getD i 0 + cA a b i) % 1000000000]

theorem cA_le {a b : List Int} (ha : Dg a) (hb : Dg b) : ∀ i, 0 ≤ cA a b i ∧ cA a b i ≤ 1
  | 0 => by simp [cA]
  | i + 1 => by
    have := cA_le ha hb i; have := ha.getD i; have := hb.getD i
    simp only [cA]; omega

theorem oA_len (a b : List Int) : ∀ i, (oA a b i).length = i
  | 0 => rfl
  | i + 1 => by simp [oA, oA_len a b i]

theorem oA_Dg (a b : List Int) : ∀ i, Dg (oA a b i)
  | 0 => Dg.nil
  | i + 1 => (oA_Dg a b i).push (by omega) (by omega)

theorem oA_dv (a b : List Int) : ∀ i, dval (oA a b i) + pw i * cA a b i = dval (a.take i) + dval (b.take i)
  | 0 => by simp [oA, cA, dval, pw]
  | i + 1 => by
    have ih := oA_dv a b i
    rw [oA, dv_push, oA_len, dv_take, dv_take, cA, pw]
    generalize hs : a.getD i 0 + b.getD i 0 + cA a b i = s at *
    have e : s % 1000000000 = s - 1000000000 * (s / 1000000000) := by omega
    have e2 : pw i * (s % 1000000000) + 1000000000 * pw i * (s / 1000000000) = pw i * s := by
      rw [e, Int.mul_sub, Int.mul_comm 1000000000 (pw i), Int.mul_assoc]; omega
    have e3 : pw i * s = pw i * a.getD i 0 + pw i * b.getD i 0 + pw i * cA a b i := by rw [← hs, Int.mul_add, Int.mul_add]
    omega

/-- How many digits a sum has. -/
def nA (a b : List Int) : Nat := if cA a b (max a.length b.length) = 0 then max a.length b.length else max a.length b.length + 1

theorem cA_end {a b : List Int} (ha : Dg a) (hb : Dg b) : cA a b (nA a b) = 0 := by
  unfold nA
  split
  · assumption
  · have := cA_le ha hb (max a.length b.length)
    have e1 : a.getD (max a.length b.length) 0 = 0 := by simp [List.getD, List.getElem?_eq_none (Nat.le_max_left a.length b.length)]
    have e2 : b.getD (max a.length b.length) 0 = 0 := by simp [List.getD, List.getElem?_eq_none (Nat.le_max_right a.length b.length)]
    simp only [cA, e1, e2]; omega

theorem s118_again {a b : List Int} (ha : Dg a) (hb : Dg b) {i : Nat} (hl : i ≤ 1000000) (h : i < a.length ∨ i < b.length ∨ 0 < cA a b i) :
    s118_0 ((a, b, oA a b i, cA a b i, (i : Int), ()), ()) = some (.again ((a, b, oA a b (i + 1), cA a b (i + 1), ((i + 1 : Nat) : Int), ()), ())) := by
  have h1 := cA_le ha hb i; have h2 := ha.getD i; have h3 := hb.getD i
  have e1 : wrap64 (wrap64 (a.getD i 0 + b.getD i 0) + cA a b i) = a.getD i 0 + b.getD i 0 + cA a b i := by
    rw [wrap64_id (n := a.getD i 0 + b.getD i 0) (by omega) (by omega), wrap64_id (by omega) (by omega)]
  have e2 : IntKind.wrap .i64 (Int.tdiv (a.getD i 0 + b.getD i 0 + cA a b i) 1000000000) = cA a b (i + 1) := by
    rw [Int.tdiv_eq_ediv_of_nonneg (by omega), wrapJ (by omega) (by omega), cA]
  have e3 : Int.tmod (a.getD i 0 + b.getD i 0 + cA a b i) 1000000000 = (a.getD i 0 + b.getD i 0 + cA a b i) % 1000000000 := Int.tmod_eq_emod_of_nonneg (by omega)
  have e4 : wrap64 ((i : Int) + 1) = ((i + 1 : Nat) : Int) := wrap64_nat (by omega)
  have e5 : (Nat.ble ((2 * ((oA a b i).length + 1) + 192) * 8) 281474976710656 && Nat.ble ((oA a b i).length + 1) 281474976710656) = true := by
    rw [oA_len]; simp; omega
  simp only [s118_0, t118_0, g131, f131_eq a i, f131_eq b i, Option.isSome_some, Option.getD_some, Tr.val_test, Tr.val_fin, leF_eq, if_true, e1, e2, e3, e4, e5]
  by_cases c1 : i < a.length
  · rw [if_pos (by simp <;> omega)]; rfl
  · rw [if_neg (by simp <;> omega)]
    by_cases c2 : i < b.length
    · rw [if_pos (by simp <;> omega)]; rfl
    · rw [if_neg (by simp <;> omega), if_pos (by simp <;> omega)]; rfl

theorem f118_eq (a b : List Int) (ha : Dg a) (hb : Dg b) (h1 : a.length ≤ 100000) (h2 : b.length ≤ 100000) : f118 (a, b, ()) = some (oA a b (nA a b), ()) := by
  have hn : nA a b ≤ max a.length b.length + 1 := by unfold nA; split <;> omega
  have hl : l118_0 ((a, b, [], (0 : Int), (0 : Int), ()), ()) = some (.inl ((oA a b (nA a b), ()), ())) := by
    refine itr_brk (fun i => ((a, b, oA a b i, cA a b i, (i : Int), ()), ())) (n := nA a b) ?_ ?_ (lt_rounds (by omega))
    · intro i hi
      refine s118_again ha hb (by omega) ?_
      have := cA_le ha hb i
      unfold nA at hi
      split at hi
      · omega
      · rename_i hc
        by_cases e : i = max a.length b.length
        · rw [← e] at hc; omega
        · omega
    · have hc := cA_end ha hb
      have hm : max a.length b.length ≤ nA a b := by unfold nA; split <;> omega
      simp only [s118_0, t118_0, Tr.val_test, Tr.val_fin, leF_eq, hc]
      rw [if_neg (by simp <;> omega), if_neg (by simp <;> omega), if_neg (by simp)]
  simp only [f118, t118, b118_0, hl, Tr.val_test, Tr.val_fin, isBrk, if_true, outB]

theorem oA_sum {a b : List Int} (ha : Dg a) (hb : Dg b) : dval (oA a b (nA a b)) = dval a + dval b := by
  have h := oA_dv a b (nA a b)
  have hm : max a.length b.length ≤ nA a b := by unfold nA; split <;> omega
  rw [cA_end ha hb, dv_take_all a (by omega), dv_take_all b (by omega)] at h
  omega

/-- Borrows and digits of a difference. -/
def cS (a b : List Int) : Nat → Int
  | 0 => 0
  | i + 1 => if a.getD i 0 - b.getD i 0 - cS a b i < 0 then 1 else 0

def oS (a b : List Int) : Nat → List Int
  | 0 => []
  | i + 1 => oS a b i ++ [if a.getD i 0 - b.getD i 0 - cS a b i < 0 then a.getD i 0 - b.getD i 0 - cS a b i + 1000000000 else a.getD i 0 - b.getD i 0 - cS a b i]

theorem cS_le (a b : List Int) : ∀ i, 0 ≤ cS a b i ∧ cS a b i ≤ 1
  | 0 => by simp [cS]
  | i + 1 => by simp only [cS]; split <;> omega

theorem oS_len (a b : List Int) : ∀ i, (oS a b i).length = i
  | 0 => rfl
  | i + 1 => by simp [oS, oS_len a b i]

theorem oS_Dg {a b : List Int} (ha : Dg a) (hb : Dg b) : ∀ i, Dg (oS a b i)
  | 0 => Dg.nil
  | i + 1 => by
    have := cS_le a b i; have := ha.getD i; have := hb.getD i
    exact (oS_Dg ha hb i).push (by split <;> omega) (by split <;> omega)

theorem oS_dv (a b : List Int) : ∀ i, dval (oS a b i) - pw i * cS a b i = dval (a.take i) - dval (b.take i)
  | 0 => by simp [oS, cS, dval, pw]
  | i + 1 => by
    have ih := oS_dv a b i
    rw [oS, dv_push, oS_len, dv_take, dv_take, cS, pw]
    generalize hs : a.getD i 0 - b.getD i 0 - cS a b i = s at *
    have e3 : pw i * s = pw i * a.getD i 0 - pw i * b.getD i 0 - pw i * cS a b i := by rw [← hs, Int.mul_sub, Int.mul_sub]
    by_cases h : s < 0
    · rw [if_pos h, if_pos h, Int.mul_add]; omega
    · rw [if_neg h, if_neg h]; omega

theorem f120_eq (a b : List Int) (ha : Dg a) (hb : Dg b) (h1 : a.length ≤ 1000000) (h2 : b.length ≤ a.length) (h3 : dval b ≤ dval a) : f120 (a, b, ()) = some (dig (dval a - dval b).toNat, ()) := by
  have hl : l120_0 ((a, b, [], (0 : Int), (0 : Int), ()), ()) = some (.inl ((oS a b a.length, ()), ())) := by
    refine itr_brk (fun i => ((a, b, oS a b i, cS a b i, (i : Int), ()), ())) (n := a.length) ?_ ?_ (lt_rounds (by omega))
    · intro i hi
      have h1 := cS_le a b i; have h2 := ha.getD i; have h3 := hb.getD i
      have e0 : wrap64 (a.getD i 0 - b.getD i 0) = a.getD i 0 - b.getD i 0 := wrap64_id (by omega) (by omega)
      have e1 : wrap64 (wrap64 (a.getD i 0 - b.getD i 0) - cS a b i) = a.getD i 0 - b.getD i 0 - cS a b i := by
        rw [e0, wrap64_id (by omega) (by omega)]
      have e2 : wrap64 (a.getD i 0 - b.getD i 0 - cS a b i + 1000000000) = a.getD i 0 - b.getD i 0 - cS a b i + 1000000000 := wrap64_id (by omega) (by omega)
      have e4 : wrap64 ((i : Int) + 1) = ((i + 1 : Nat) : Int) := wrap64_nat (by omega)
      have e5 : (Nat.ble ((2 * ((oS a b i).length + 1) + 192) * 8) 281474976710656 && Nat.ble ((oS a b i).length + 1) 281474976710656) = true := by
        rw [oS_len]; simp; omega
      simp only [s120_0, t120_0, g131, f131_eq b i, Option.isSome_some, Option.getD_some, Tr.val_test, Tr.val_fin, leF_eq, if_true, e1, e2, e4, e5, Int.toNat_natCast, oS, cS]
      rw [if_pos (by simp <;> omega), if_pos (by simp <;> omega)]
      by_cases h : a.getD i 0 - b.getD i 0 - cS a b i < 0
      · rw [if_pos (by simp only [Bool.not_eq_true', decide_eq_false_iff_not]; omega), if_pos h, if_pos h]
      · rw [if_neg (by simp only [Bool.not_eq_true', decide_eq_false_iff_not]; omega), if_neg h, if_neg h]
    · simp [s120_0, t120_0, leF_eq]
  have hd := oS_Dg ha hb a.length
  have hv := oS_dv a b a.length
  rw [dv_take_all a (Nat.le_refl _), dv_take_all b h2] at hv
  have hlt := dv_lt hd
  rw [oS_len] at hlt
  have hc := cS_le a b a.length
  have hc0 : cS a b a.length = 0 := by
    by_cases e : cS a b a.length = 1
    · rw [e] at hv; omega
    · omega
  rw [hc0, Int.mul_zero, Int.sub_zero] at hv
  simp only [f120, t120, b120_0, hl, g122, f122_eq _ (show (oS a b a.length).length ≤ 1000000000 by rw [oS_len]; omega) hd, hv, Option.isSome_some, Option.getD_some, Tr.val_test, Tr.val_fin, isBrk, if_true, outB]

theorem can_ge {l : List Int} (hd : Dg l) (hc : Can l) {m : Nat} (hm : l.length = m + 1) : pw m ≤ dval l := by
  have h3 := dv_take l m
  rw [dv_take_all _ (by omega)] at h3
  have h2 := hc m hm
  have h4 := dv_nonneg (hd.take m)
  have h5 := hd.getD m
  have h7 : pw m * 1 ≤ pw m * l.getD m 0 := Int.mul_le_mul_of_nonneg_left (by omega) (Int.le_of_lt (pw_pos m))
  omega

theorem dv_top {a b : List Int} (ha : Dg a) (hb : Dg b) {j : Nat} (hlt : a.getD j 0 < b.getD j 0) : ∀ n, (∀ i, j < i → i < j + 1 + n → a.getD i 0 = b.getD i 0) → dval (a.take (j + 1 + n)) < dval (b.take (j + 1 + n))
  | 0, _ => by
    rw [Nat.add_zero, dv_take, dv_take]
    have h1 := dv_lt (ha.take j)
    have h2 := dv_nonneg (hb.take j)
    have h3 : pw (a.take j).length ≤ pw j := pw_le (by simp; omega)
    have h7 : pw j * (a.getD j 0 + 1) ≤ pw j * b.getD j 0 := Int.mul_le_mul_of_nonneg_left (by omega) (Int.le_of_lt (pw_pos j))
    rw [Int.mul_add] at h7
    omega
  | n + 1, h => by
    have ih := dv_top ha hb hlt n fun i h1 h2 => h i h1 (by omega)
    have e := h (j + 1 + n) (by omega) (by omega)
    rw [← Nat.add_assoc, dv_take, dv_take, e]
    omega

theorem f119_eq (a b : List Int) (ha : Dg a) (hb : Dg b) (ca : Can a) (cb : Can b) (h1 : a.length ≤ 1000000) : f119 (a, b, ()) = some ((dval a - dval b).sign, ()) := by
  simp only [f119, t119, Tr.val_test, Tr.val_fin, leF_eq, eqF_eq]
  by_cases hle : a.length = b.length
  · rw [if_neg (by simp; omega)]
    have e0 : wrap64 ((a.length : Int) - 1) = (a.length : Int) - 1 := wrap64_id (by omega) (by omega)
    have hl : l119_0 ((a, b, (a.length : Int) - 1, ()), ()) = match first (fun k => !decide (a.getD (a.length - 1 - k) 0 = b.getD (a.length - 1 - k) 0)) a.length 0 with
        | some k => some (.inr (((if a.getD (a.length - 1 - k) 0 < b.getD (a.length - 1 - k) 0 then (-1 : Int) else 1), ()), ()))
        | none => some (.inl ((), ())) := by
      have := itr_search (step := s119_0) (m := rounds) (n := a.length) (fun k => ((a, b, (a.length : Int) - 1 - (k : Int), ()), ())) (fun k => !decide (a.getD (a.length - 1 - k) 0 = b.getD (a.length - 1 - k) 0))
        (fun k => (((if a.getD (a.length - 1 - k) 0 < b.getD (a.length - 1 - k) 0 then (-1 : Int) else 1), ()), ())) (b := ((), ())) ?_ ?_ (lt_rounds (by omega))
      · rw [l119_0, show (a.length : Int) - 1 = (a.length : Int) - 1 - ((0 : Nat) : Int) by omega]; exact this
      · intro k hk
        have e1 : (a.length : Int) - 1 - (k : Int) = ((a.length - 1 - k : Nat) : Int) := by omega
        have e2 : wrap64 (((a.length - 1 - k : Nat) : Int) - 1) = (a.length : Int) - 1 - ((k + 1 : Nat) : Int) := by rw [wrap64_id (by omega) (by omega)]; omega
        simp only [e1, s119_0, t119_0, Tr.val_test, Tr.val_fin, leF_eq, Int.toNat_natCast, e2]
        rw [if_pos (by simp), if_pos (by simp; omega), if_pos (by simp; omega)]
        generalize a.getD (a.length - 1 - k) 0 = x
        generalize b.getD (a.length - 1 - k) 0 = y
        rcases Int.lt_trichotomy x y with h | h | h
        · rw [if_pos (by simp; omega), if_pos (by simp; omega), if_pos h]
        · rw [if_neg (by simp; omega), if_neg (by simp; omega), if_neg (by simp; omega)]
        · rw [if_neg (by simp; omega), if_pos (by simp; omega), if_pos (by simp; omega), if_neg (by omega)]
      · simp only [s119_0, t119_0, Tr.val_test, Tr.val_fin, leF_eq]
        rw [if_neg (by simp; omega)]
    rw [e0, r119_0, hl]
    have hta := dv_take_all a (Nat.le_refl _)
    have htb := dv_take_all b (Nat.le_of_eq hle.symm)
    cases hf : first (fun k => !decide (a.getD (a.length - 1 - k) 0 = b.getD (a.length - 1 - k) 0)) a.length 0 with
    | none =>
      have hn := first_none hf
      have : ∀ n, n ≤ a.length → dval (a.take n) = dval (b.take n) := by
        intro n
        induction n with
        | zero => intro _; simp
        | succ n ih =>
          intro h
          have := hn (a.length - 1 - n) (by omega) (by omega)
          rw [show a.length - 1 - (a.length - 1 - n) = n by omega] at this
          rw [dv_take, dv_take, ih (by omega), show a.getD n 0 = b.getD n 0 by simpa using this]
      have e := this a.length (Nat.le_refl _)
      rw [hta, htb] at e
      simp [e, isRet]
    | some k =>
      obtain ⟨q1, q2, q3, q4⟩ := first_some hf
      have hne : a.getD (a.length - 1 - k) 0 ≠ b.getD (a.length - 1 - k) 0 := by simpa using q3
      have heq : ∀ i, a.length - 1 - k < i → i < a.length - 1 - k + 1 + k → a.getD i 0 = b.getD i 0 := fun i h1 h2 => by
        have := q4 (a.length - 1 - i) (by omega) (by omega)
        rw [show a.length - 1 - (a.length - 1 - i) = i by omega] at this
        simpa using this
      have hN : a.length - 1 - k + 1 + k = a.length := by omega
      simp only [isRet, Option.isSome_some, if_true, outR]
      by_cases h : a.getD (a.length - 1 - k) 0 < b.getD (a.length - 1 - k) 0
      · have := dv_top ha hb h k heq
        rw [hN, hta, htb] at this
        rw [if_pos h, Int.sign_eq_neg_one_of_neg (by omega)]
      · have := dv_top hb ha (j := a.length - 1 - k) (by omega) k fun i h1 h2 => (heq i h1 h2).symm
        rw [hN, hta, htb] at this
        rw [if_neg h, Int.sign_eq_one_of_pos (by omega)]
  · rw [if_pos (by simp; omega)]
    by_cases h : a.length < b.length
    · rw [if_pos (by simp; omega)]
      have hx := dv_lt ha
      obtain ⟨m, hm⟩ : ∃ m, b.length = m + 1 := ⟨b.length - 1, by omega⟩
      have hy := can_ge hb cb hm
      have : pw a.length ≤ pw m := pw_le (by omega)
      rw [Int.sign_eq_neg_one_of_neg (by omega)]
    · rw [if_neg (by simp; omega)]
      have hx := dv_lt hb
      obtain ⟨m, hm⟩ : ∃ m, a.length = m + 1 := ⟨a.length - 1, by omega⟩
      have hy := can_ge ha ca hm
      have : pw b.length ≤ pw m := pw_le (by omega)
      rw [Int.sign_eq_one_of_pos (by omega)]

theorem l74_2_eq (n c i : Nat) (s0 s1 z : Int) (a b buf : List Int) (hi : i < a.length) (ha : Dg a) (hb : Dg b) (hbuf : Dg buf) (hlen : buf.length = n) (hn : i + b.length ≤ n) (hs : n ≤ 1000000) :
    l74_2 (((n, c), ((i : Int), (0 : Int), (0 : Int), ())), ((s0, a, ()), (s1, b, ()), (z, ()), buf, ())) =
      some (.inl (((n, c), ((i : Int), (mI (a.getD i 0) b i buf b.length).2, ())), ((s0, a, ()), (s1, b, ()), (z, ()), (mI (a.getD i 0) b i buf b.length).1, ()))) := by
  refine itr_brk (fun j => (((n, c), ((i : Int), (mI (a.getD i 0) b i buf j).2, (j : Int), ())), ((s0, a, ()), (s1, b, ()), (z, ()), (mI (a.getD i 0) b i buf j).1, ()))) (n := b.length) ?_ ?_ (lt_rounds (by omega))
  · intro j hj
    obtain ⟨h1, h2, h3⟩ := mI_Dg (i := i) (ha.getD i) hb hbuf j
    have h4 := h1.getD (i + j)
    have h5 := dg_mul (ha.getD i) (hb.getD j)
    have hml := mI_len (a.getD i 0) b i buf j
    have e0 : wrap64 ((i : Int) + (j : Int)) = ((i + j : Nat) : Int) := by rw [wrap64_id (by omega) (by omega)]; omega
    have e1 : wrap64 (a.getD i 0 * b.getD j 0) = a.getD i 0 * b.getD j 0 := wrap64_id (by omega) (by omega)
    have e2 : wrap64 (wrap64 ((mI (a.getD i 0) b i buf j).1.getD (i + j) 0 + a.getD i 0 * b.getD j 0) + (mI (a.getD i 0) b i buf j).2) = (mI (a.getD i 0) b i buf j).1.getD (i + j) 0 + a.getD i 0 * b.getD j 0 + (mI (a.getD i 0) b i buf j).2 := by
      rw [wrap64_id (n := (mI (a.getD i 0) b i buf j).1.getD (i + j) 0 + a.getD i 0 * b.getD j 0) (by omega) (by omega), wrap64_id (by omega) (by omega)]
    have e3 : Int.tmod ((mI (a.getD i 0) b i buf j).1.getD (i + j) 0 + a.getD i 0 * b.getD j 0 + (mI (a.getD i 0) b i buf j).2) 1000000000 = ((mI (a.getD i 0) b i buf j).1.getD (i + j) 0 + a.getD i 0 * b.getD j 0 + (mI (a.getD i 0) b i buf j).2) % 1000000000 := Int.tmod_eq_emod_of_nonneg (by omega)
    have e4 : IntKind.wrap .i64 (Int.tdiv ((mI (a.getD i 0) b i buf j).1.getD (i + j) 0 + a.getD i 0 * b.getD j 0 + (mI (a.getD i 0) b i buf j).2) 1000000000) = ((mI (a.getD i 0) b i buf j).1.getD (i + j) 0 + a.getD i 0 * b.getD j 0 + (mI (a.getD i 0) b i buf j).2) / 1000000000 := by
      rw [Int.tdiv_eq_ediv_of_nonneg (by omega), wrapJ (by omega) (by omega)]
    have e5 : wrap64 ((j : Int) + 1) = ((j + 1 : Nat) : Int) := wrap64_nat (by omega)
    simp only [s74_2, t74_2, Tr.val_test, Tr.val_fin, leF_eq, e0, Int.toNat_natCast, Nat.zero_add, e1, e2, e3, e4, e5]
    rw [if_pos (by simp; omega), if_pos (by simp; omega), if_pos (by rw [hml, ble_eq_true']; omega), if_pos (by simp; omega), if_pos (by simp; omega)]
    rfl
  · simp [s74_2, t74_2, leF_eq]

theorem l74_0_eq (s0 s1 z : Int) (a b : List Int) (n : Nat) (ha : Dg a) (hb : Dg b) (hn : n = a.length + b.length + 1) (hs : n ≤ 1000000) :
    l74_0 (((n, n), ((0 : Int), ())), ((s0, a, ()), (s1, b, ()), (z, ()), List.replicate n 0, ())) = some (.inl (((n, n), ()), ((s0, a, ()), (s1, b, ()), (z, ()), mO a b a.length, ()))) := by
  subst hn
  refine itr_brk (fun i => (((a.length + b.length + 1, a.length + b.length + 1), ((i : Int), ())), ((s0, a, ()), (s1, b, ()), (z, ()), mO a b i, ()))) (n := a.length) ?_ ?_ (lt_rounds (by omega))
  · intro i hi
    have hl := l74_2_eq (a.length + b.length + 1) (a.length + b.length + 1) i s0 s1 z a b (mO a b i) hi ha hb (mO_Dg ha hb i) (mO_len a b i) (by omega) hs
    obtain ⟨h1, h2, h3⟩ := mI_Dg (i := i) (ha.getD i) hb (mO_Dg ha hb i) b.length
    have e0 : wrap64 ((i : Int) + (b.length : Int)) = ((i + b.length : Nat) : Int) := by rw [wrap64_id (by omega) (by omega)]; omega
    have e1 : wrap64 ((mI (a.getD i 0) b i (mO a b i) b.length).1.getD (i + b.length) 0 + (mI (a.getD i 0) b i (mO a b i) b.length).2) = (mI (a.getD i 0) b i (mO a b i) b.length).1.getD (i + b.length) 0 + (mI (a.getD i 0) b i (mO a b i) b.length).2 := by
      rw [mO_get]; exact wrap64_id (by omega) (by omega)
    have e5 : wrap64 ((i : Int) + 1) = ((i + 1 : Nat) : Int) := wrap64_nat (by omega)
    have hml : (mI (a.getD i 0) b i (mO a b i) b.length).1.length = a.length + b.length + 1 := by rw [mI_len, mO_len]
    simp only [s74_0, t74_0, b74_2, hl, isBrk, outB, Tr.val_test, Tr.val_fin, leF_eq, e0, Int.toNat_natCast, Nat.zero_add, e1, e5, if_true]
    rw [if_pos (by simp; omega), if_pos (by simp; omega), if_pos (by rw [hml, ble_eq_true']; omega)]
    rfl
  · simp [s74_0, t74_0, leF_eq]

theorem f74_raw (s0 s1 : Int) (a b : List Int) (ha : Dg a) (hb : Dg b) (h : a.length + b.length + 1 ≤ 1000000) : f74 ((s0, a, ()), (s1, b, ()), ()) = some (mkN (wrap64 (s0 * s1)) (dval a * dval b), ()) := by
  have e0 : wrap64 (wrap64 ((a.length : Int) + (b.length : Int)) + 1) = ((a.length + b.length + 1 : Nat) : Int) := by
    rw [wrap64_id (n := (a.length : Int) + (b.length : Int)) (by omega) (by omega), wrap64_id (by omega) (by omega)]; omega
  have hl := l74_0_eq s0 s1 0 a b _ ha hb rfl h
  have hd := mO_Dg ha hb a.length
  have hv := mO_dv a b a.length (Nat.le_refl _)
  rw [dv_take_all a (Nat.le_refl _)] at hv
  have hlen := mO_len a b a.length
  have hf : f100 (wrap64 (s0 * s1), mO a b a.length, ()) = some (mkN (wrap64 (s0 * s1)) (dval a * dval b), ()) := by rw [f100_eq _ _ (by omega) hd, hv]
  simp only [f74, t74, e0, Int.toNat_natCast, b74_0, hl, isBrk, outB, Tr.val_test, Tr.val_fin, if_true, hlen, g100, hf, Option.isSome_some, Option.getD_some]
  rw [if_pos (by simp; omega), if_pos (by simp)]

theorem f74_eq (x y : Int) (h : (dig x.natAbs).length + (dig y.natAbs).length + 1 ≤ 1000000) : f74 (enc x, enc y, ()) = some (enc (x * y), ()) := by
  have hf := f74_raw x.sign y.sign (dig x.natAbs) (dig y.natAbs) (dig_Dg _) (dig_Dg _) h
  rw [dig_dv, dig_dv] at hf
  have hw : wrap64 (x.sign * y.sign) = (x * y).sign := by
    rw [← Int.sign_mul]
    have : (x * y).sign = -1 ∨ (x * y).sign = 0 ∨ (x * y).sign = 1 := by
      rcases Int.lt_trichotomy (x * y) 0 with h | h | h
      · left; exact Int.sign_eq_neg_one_of_neg h
      · right; left; rw [h]; rfl
      · right; right; exact Int.sign_eq_one_of_pos h
    exact wrap64_id (by omega) (by omega)
  rw [hw] at hf
  have he : mkN (x * y).sign ((x.natAbs : Int) * (y.natAbs : Int)) = enc (x * y) := by
    rw [← Int.natCast_mul, ← Int.natAbs_mul]
    exact mkN_enc fun _ => rfl
  rw [he] at hf
  exact hf

theorem sgn_cases (x : Int) : (x < 0 ∧ x.sign = -1) ∨ (x = 0 ∧ x.sign = 0) ∨ (0 < x ∧ x.sign = 1) := by
  rcases Int.lt_trichotomy x 0 with h | h | h
  · exact .inl ⟨h, Int.sign_eq_neg_one_of_neg h⟩
  · exact .inr (.inl ⟨h, by rw [h]; rfl⟩)
  · exact .inr (.inr ⟨h, Int.sign_eq_one_of_pos h⟩)

theorem f97_raw (s0 s1 : Int) (a b : List Int) (ha : Dg a) (hb : Dg b) (ca : Can a) (cb : Can b) (h1 : a.length ≤ 100000) (h2 : b.length ≤ 100000) : f97 ((s0, a, ()), (s1, b, ()), ()) =
    if s0 = 0 then some ((s1, b, ()), ()) else if s1 = 0 then some ((s0, a, ()), ()) else if s0 = s1 then some (mkN s0 (dval a + dval b), ()) else
    if dval a = dval b then some ((0, [], ()), ()) else if dval b < dval a then some (mkN s0 (dval a - dval b), ()) else some (mkN s1 (dval b - dval a), ()) := by
  have hle : ∀ {l : List Int} {n : Int}, Dg l → Can l → dval l ≤ n → ∀ {l2 : List Int}, Dg l2 → n = dval l2 → l.length ≤ l2.length := fun {l n} hd hc hn {l2} hd2 e => by
    rcases Nat.lt_or_ge l2.length l.length with h | h
    · exfalso
      obtain ⟨m, hm⟩ : ∃ m, l.length = m + 1 := ⟨l.length - 1, by omega⟩
      have := can_ge hd hc hm
      have := dv_lt hd2
      have : pw l2.length ≤ pw m := pw_le (by omega)
      omega
    · exact h
  have hn : nA a b ≤ max a.length b.length + 1 := by unfold nA; split <;> omega
  simp only [f97, t97, Tr.val_test, Tr.val_fin, eqF_eq, leF_eq, decide_eq_true_eq]
  by_cases c1 : s0 = 0
  · rw [if_pos c1, if_pos c1]
  rw [if_neg c1, if_neg c1]
  by_cases c2 : s1 = 0
  · rw [if_pos c2, if_pos c2]
  rw [if_neg c2, if_neg c2]
  by_cases c3 : s0 = s1
  · rw [if_pos c3, if_pos c3]
    simp only [g118, f118_eq a b ha hb h1 h2, Option.isSome_some, Option.getD_some, if_true, g100, f100_eq s0 (oA a b (nA a b)) (by rw [oA_len]; omega) (oA_Dg a b _), oA_sum ha hb]
  rw [if_neg c3, if_neg c3]
  simp only [g119, f119_eq a b ha hb ca cb (by omega), Option.isSome_some, Option.getD_some, if_true]
  rcases sgn_cases (dval a - dval b) with ⟨hs, e⟩ | ⟨hs, e⟩ | ⟨hs, e⟩
  · have hl := hle ha ca (show dval a ≤ dval b by omega) hb rfl
    have hv : ((dval b - dval a).toNat : Int) = dval b - dval a := by omega
    have hlen : (dig (dval b - dval a).toNat).length ≤ b.length := dig_len (by have := dv_lt hb; have := dv_nonneg ha; omega)
    rw [if_neg (by rw [e]; omega), if_neg (by rw [e]; simp)]
    simp only [g120, f120_eq b a hb ha (by omega) hl (by omega), Option.isSome_some, Option.getD_some, if_true, g100, f100_eq s1 (dig (dval b - dval a).toNat) (by omega) (dig_Dg _), dig_dv, hv]
    rw [if_neg (by omega), if_neg (by omega)]
  · rw [if_pos (by rw [e]), if_pos (by omega)]
  · have hl := hle hb cb (show dval b ≤ dval a by omega) ha rfl
    have hv : ((dval a - dval b).toNat : Int) = dval a - dval b := by omega
    have hlen : (dig (dval a - dval b).toNat).length ≤ a.length := dig_len (by have := dv_lt ha; have := dv_nonneg hb; omega)
    rw [if_neg (by rw [e]; omega), if_pos (by rw [e]; simp)]
    simp only [g120, f120_eq a b ha hb (by omega) hl (by omega), Option.isSome_some, Option.getD_some, if_true, g100, f100_eq s0 (dig (dval a - dval b).toNat) (by omega) (dig_Dg _), dig_dv, hv]
    rw [if_neg (by omega), if_pos (by omega)]

theorem mkN_eq {s n z : Int} (h : n = z.natAbs) (hs : z ≠ 0 → s = z.sign) : mkN s n = enc z := by rw [h]; exact mkN_enc hs

theorem f97_eq (x y : Int) (h1 : (dig x.natAbs).length ≤ 100000) (h2 : (dig y.natAbs).length ≤ 100000) : f97 (enc x, enc y, ()) = some (enc (x + y), ()) := by
  have hf := f97_raw x.sign y.sign (dig x.natAbs) (dig y.natAbs) (dig_Dg _) (dig_Dg _) (dig_Can _) (dig_Can _) h1 h2
  rw [dig_dv, dig_dv] at hf
  refine hf.trans ?_
  have t0 : (0 : Int).sign = 0 := rfl
  rcases sgn_cases x with ⟨hx, ex⟩ | ⟨hx, ex⟩ | ⟨hx, ex⟩
  · rcases sgn_cases y with ⟨hy, ey⟩ | ⟨hy, ey⟩ | ⟨hy, ey⟩
    · rw [ex, ey, if_neg (by omega), if_neg (by omega), if_pos rfl, mkN_eq (z := x + y) (by omega) fun _ => by rw [Int.sign_eq_neg_one_of_neg (by omega)]]
    · rw [ex, ey, if_neg (by omega), if_pos rfl]; subst hy; rw [Int.add_zero, enc, ex]
    · rw [ex, ey, if_neg (by omega), if_neg (by omega), if_neg (by omega)]
      split
      · have : x + y = 0 := by omega
        rw [this]; simp [enc, dig_zero]
      · split
        · rw [mkN_eq (z := x + y) (by omega) fun _ => by rw [Int.sign_eq_neg_one_of_neg (by omega)]]
        · rw [mkN_eq (z := x + y) (by omega) fun _ => by rw [Int.sign_eq_one_of_pos (by omega)]]
  · rw [ex, if_pos rfl]; subst hx; rw [Int.zero_add, enc]
  · rcases sgn_cases y with ⟨hy, ey⟩ | ⟨hy, ey⟩ | ⟨hy, ey⟩
    · rw [ex, ey, if_neg (by omega), if_neg (by omega), if_neg (by omega)]
      split
      · have : x + y = 0 := by omega
        rw [this]; simp [enc, dig_zero]
      · split
        · rw [mkN_eq (z := x + y) (by omega) fun _ => by rw [Int.sign_eq_one_of_pos (by omega)]]
        · rw [mkN_eq (z := x + y) (by omega) fun _ => by rw [Int.sign_eq_neg_one_of_neg (by omega)]]
    · rw [ex, ey, if_neg (by omega), if_pos rfl]; subst hy; rw [Int.add_zero, enc, ex]
    · rw [ex, ey, if_neg (by omega), if_neg (by omega), if_pos rfl, mkN_eq (z := x + y) (by omega) fun _ => by rw [Int.sign_eq_one_of_pos (by omega)]]

theorem enc_neg (x : Int) : (IntKind.wrap .i64 (0 - x.sign), dig x.natAbs, ()) = enc (-x) := by
  have : IntKind.wrap .i64 (0 - x.sign) = (-x).sign := by
    rw [Int.sign_neg]
    rcases sgn_cases x with ⟨_, e⟩ | ⟨_, e⟩ | ⟨_, e⟩ <;> rw [e] <;> rfl
  rw [this, enc, Int.natAbs_neg]

theorem f117_eq (x : Int) : f117 (enc x, ()) = some (enc (-x), ()) := by
  rw [← enc_neg]; rfl

theorem f96_eq (x y : Int) (h1 : (dig x.natAbs).length ≤ 100000) (h2 : (dig y.natAbs).length ≤ 100000) : f96 (enc x, enc y, ()) = some (enc (x - y), ()) := by
  have e0 : f117 ((y.sign, dig y.natAbs, ()), ()) = some (enc (-y), ()) := f117_eq y
  have e1 : f97 ((x.sign, dig x.natAbs, ()), ((enc (-y)).1, (enc (-y)).2.1, ()), ()) = some (enc (x - y), ()) := f97_eq x (-y) h1 (by rw [Int.natAbs_neg]; exact h2)
  show f96 ((x.sign, dig x.natAbs, ()), (y.sign, dig y.natAbs, ()), ()) = _
  simp only [f96, t96, g117, e0, g97, e1, Option.isSome_some, Option.getD_some, Tr.val_test, Tr.val_fin, if_true]

def dvF (x : Int) (l : List Int) : Nat → Int
  | 0 => x
  | i + 1 => euc (dvF x l i) (l.getD i 0)

theorem lt_r3 {n : Nat} (h : n ≤ 9223372036854775808) : n < rounds := by unfold rounds; omega

theorem l56i (l : List Int) (n i : Int) (a b : Int) (h : b.natAbs ≤ 9223372036854775808) : l56_2 ((a, b, l, n, i, ()), ()) = some (.inl ((euc a b, l, n, i, ()), ())) := by
  refine itr_euc (fun a b => ((a, b, l, n, i, ()), ())) (fun a => ((a, l, n, i, ()), ())) ?_ ?_ rounds a b (lt_r3 h)
  · intro a b hb
    simp [s56_2, t56_2, eqF_eq, hb]
  · intro a
    simp [s56_2, t56_2, eqF_eq]

theorem l56 (x : Int) (l : List Int) (h : l.length ≤ 1000000000) (hb : ∀ i, i < l.length → (l.getD i 0).natAbs ≤ 9223372036854775808) : l56_0 ((x, l, (l.length : Int), (0 : Int), ()), ()) = some (.inl ((dvF x l l.length, ()), ())) := by
  refine itr_brk (fun i => ((dvF x l i, l, (l.length : Int), (i : Int), ()), ())) (n := l.length) ?_ ?_ (lt_rounds (by omega))
  · intro i hi
    have e := l56i l (l.length : Int) (i : Int) (dvF x l i) (l.getD i 0) (hb i hi)
    simp only [s56_0, t56_0, Tr.val_test, Tr.val_fin, Tr.val_stop, leF_eq, Int.toNat_natCast]
    rw [if_pos (by simp; omega), if_pos (by simp; omega)]
    simp only [e, isBrk, b56_2, outB, if_true, wrap64_nat (show i ≤ 9223372036854775806 by omega), dvF]
  · simp [s56_0, t56_0, leF_eq]

def absW (x : Int) : Int := if x < IntKind.wrap .i64 (0 - x) then IntKind.wrap .i64 (0 - x) else x

theorem absW_eq {x : Int} (h : x.natAbs ≤ 9223372036854775807) : absW x = (x.natAbs : Int) := by
  unfold absW
  rw [wn64 (by omega) (by omega)]
  by_cases hx : x < -x
  · rw [if_pos hx]; omega
  · rw [if_neg hx]; omega

theorem f56_eq (x : Int) (l : List Int) (h : l.length ≤ 1000000000) (hb : ∀ i, i < l.length → (l.getD i 0).natAbs ≤ 9223372036854775808) : f56 (x, l, ()) = some (absW (dvF x l l.length), ()) := by
  simp only [f56, t56, Tr.val_test, Tr.val_fin, Tr.val_stop, l56 x l h hb, isBrk, b56_0, outB, if_true, absW]

theorem gcd_le64 {a b : Nat} (ha : a ≤ 9223372036854775807) (hb : b ≤ 9223372036854775807) : Nat.gcd a b ≤ 9223372036854775807 := by
  by_cases h : b = 0
  · subst h; simpa using ha
  · exact Nat.le_trans (Nat.gcd_le_right _ (by omega)) hb

theorem f56_one (x a : Int) (hx : x.natAbs ≤ 9223372036854775807) (ha : a.natAbs ≤ 9223372036854775807) : f56 (x, [a], ()) = some (((Nat.gcd x.natAbs a.natAbs : Nat) : Int), ()) := by
  rw [f56_eq x [a] (by simp) (fun i hi => by
    have : i = 0 := by simp at hi; exact hi
    subst this; simp; omega)]
  have e : (dvF x [a] [a].length).natAbs = Nat.gcd x.natAbs a.natAbs := by
    simp only [List.length, dvF, List.getD_cons_zero, euc_abs]
  rw [absW_eq (by rw [e]; exact gcd_le64 hx ha), e]

theorem f56_two (x a b : Int) (hx : x.natAbs ≤ 9223372036854775807) (ha : a.natAbs ≤ 9223372036854775807) (hb : b.natAbs ≤ 9223372036854775807) : f56 (x, [a, b], ()) = some (((Nat.gcd (Nat.gcd x.natAbs a.natAbs) b.natAbs : Nat) : Int), ()) := by
  rw [f56_eq x [a, b] (by simp) (fun i hi => by
    rcases Nat.lt_or_ge i 1 with h | h
    · have : i = 0 := by omega
      subst this; simp; omega
    · have : i = 1 := by simp at hi; omega
      subst this; simp; omega)]
  have e : (dvF x [a, b] [a, b].length).natAbs = Nat.gcd (Nat.gcd x.natAbs a.natAbs) b.natAbs := by
    simp only [List.length, dvF, List.getD_cons_zero, List.getD_cons_succ, euc_abs]
  rw [absW_eq (by rw [e]; exact gcd_le64 (gcd_le64 hx ha) hb), e]

theorem f56_any (x a b : Int) (ha : a.natAbs ≤ 9223372036854775808) (hb : b.natAbs ≤ 9223372036854775808) : ∃ y, f56 (x, [a, b], ()) = some (y, ()) :=
  ⟨_, f56_eq x [a, b] (by simp) (fun i hi => by
    rcases Nat.lt_or_ge i 1 with h | h
    · have : i = 0 := by omega
      subst this; simpa using ha
    · have : i = 1 := by simp at hi; omega
      subst this; simpa using hb)⟩

theorem l67 (a b : Int) (hb : b.natAbs ≤ 9223372036854775807) : l67_0 ((a, b, ()), ()) = some (.inl ((euc a b, ()), ())) := by
  refine itr_euc (fun a b => ((a, b, ()), ())) (fun a => ((a, ()), ())) ?_ ?_ rounds a b (lt_r3 (by omega))
  · intro a b hb
    simp [s67_0, t67_0, eqF_eq, hb]
  · intro a
    simp [s67_0, t67_0, eqF_eq]

theorem f67_eq (a b : Int) (ha : a.natAbs ≤ 9223372036854775807) (hb : b.natAbs ≤ 9223372036854775807) : f67 (a, b, ()) = some (((Nat.gcd a.natAbs b.natAbs : Nat) : Int), ()) := by
  have e := f21_abs (euc a b) (by rw [euc_abs]; exact gcd_le64 ha hb)
  rw [euc_abs] at e
  simp only [f67, t67, Tr.val_test, Tr.val_fin, Tr.val_stop, l67 a b hb, isBrk, b67_0, outB, if_true, g21, e, Option.isSome_some, Option.getD_some]

/-! Lines. -/

def gcd3 (a b c : Int) : Nat := Nat.gcd (Nat.gcd a.natAbs b.natAbs) c.natAbs

theorem gcd3_rot (a b c : Int) : gcd3 a b c = Nat.gcd (Nat.gcd c.natAbs a.natAbs) b.natAbs := by
  unfold gcd3
  rw [Nat.gcd_comm (Nat.gcd a.natAbs b.natAbs), Nat.gcd_assoc]

def liR (a b d : Int) : Bool := wi 1 300000000000 d && (wi (-300000000000) 300000000000 a && wi (-300000000000) 300000000000 b)
def liE (a b d : Int) : Int := if liR a b d = true then (if gcd3 a b d = 1 then 0 else 3) else 2

theorem f63_two (n a b : Int) (h0 : 0 ≤ n) (h1 : n ≤ 9223372036854775807) : f63 (n, [a, b], ()) = some (!(wi (-n) n a && wi (-n) n b), ()) := by
  have e := f66_two (-n) n a b
  simp only [f63, t63, Tr.val_test, Tr.val_fin, Tr.val_stop, g66, wn64 (show -9223372036854775807 ≤ n by omega) h1, e, Option.isSome_some, Option.getD_some, if_true]

def I64 (x : Int) : Prop := -9223372036854775808 ≤ x ∧ x ≤ 9223372036854775807

theorem f12_eq (a b d : Int) (ha : I64 a) (hb : I64 b) (hd : I64 d) : f12 ((a, b, d, ()), ()) = some (liE a b d, ()) := by
  unfold I64 at ha hb hd
  have e1 := f66_one 1 300000000000 d
  have e2 := f63_two 300000000000 a b (by omega) (by omega)
  obtain ⟨y, e3⟩ := f56_any d a b (by omega) (by omega)
  have k1 := f48_two 2 (if (!decide (y = 1)) = true then (3 : Int) else 0)
  have k2 := f48_two 0 (if (!decide (y = 1)) = true then (3 : Int) else 0)
  by_cases h1 : wi 1 300000000000 d = true
  · by_cases h2 : (wi (-300000000000) 300000000000 a && wi (-300000000000) 300000000000 b) = true
    · have hR : liR a b d = true := by rw [liR, h1, h2]; rfl
      rw [Bool.and_eq_true, wi_iff, wi_iff] at h2
      have h1' := wi_iff.1 h1
      have e4 := f56_two d a b (by omega) (by omega) (by omega)
      rw [← gcd3_rot, e3] at e4
      have hy : y = ((gcd3 a b d : Nat) : Int) := by cases e4; rfl
      simp only [h1] at e1
      rw [show (wi (-300000000000) 300000000000 a && wi (-300000000000) 300000000000 b) = true by rw [Bool.and_eq_true, wi_iff, wi_iff]; exact h2] at e2
      simp only [f12, t12, Tr.val_test, Tr.val_fin, Tr.val_stop, g66, g63, g62, g48, g56, e1, e2, e3, f62_eq, k2, eqF_eq, Option.isSome_some, Option.getD_some, Bool.not_true, Bool.false_eq_true, if_false, if_true, liE, hR]
      subst hy
      by_cases hg : gcd3 a b d = 1
      · have : ((gcd3 a b d : Nat) : Int) = 1 := by omega
        rw [if_pos hg]
        simp only [this, decide_true, Bool.not_true, Bool.false_eq_true, if_false, if_true]
      · have : ¬ ((gcd3 a b d : Nat) : Int) = 1 := by omega
        simp only [hg, this, decide_false, Bool.not_false, if_false, if_true]
    · have h2' : (wi (-300000000000) 300000000000 a && wi (-300000000000) 300000000000 b) = false := by simpa using h2
      have hR : liR a b d = false := by rw [liR, h1, h2']; rfl
      simp only [h1] at e1
      rw [h2'] at e2
      simp only [f12, t12, Tr.val_test, Tr.val_fin, Tr.val_stop, g66, g63, g62, g48, g56, e1, e2, e3, f62_eq, k1, eqF_eq, Option.isSome_some, Option.getD_some, Bool.not_true, Bool.not_false, Bool.false_eq_true, if_false, if_true, liE, hR]
      rfl
  · have h1' : wi 1 300000000000 d = false := by simpa using h1
    have hR : liR a b d = false := by rw [liR, h1']; rfl
    simp only [h1'] at e1
    simp only [f12, t12, Tr.val_test, Tr.val_fin, Tr.val_stop, g66, g63, g62, g48, g56, e1, e3, f62_eq, k1, eqF_eq, Option.isSome_some, Option.getD_some, Bool.not_true, Bool.not_false, Bool.false_eq_true, if_false, if_true, liE, hR]
    rfl

theorem f13_eq (a b d : Int) : f13 ((a, b, d, ()), ()) = some (liE a b d, ()) := by
  simp only [f13, t13, Tr.val_test, Tr.val_fin, Tr.val_stop, g20, f20_eq, Option.isSome_some, Option.getD_some, if_true]
  by_cases h1 : wi 1 300000000000 d = true
  · by_cases h2 : wi (-300000000000) 300000000000 a = true
    · by_cases h3 : wi (-300000000000) 300000000000 b = true
      · have hR : liR a b d = true := by rw [liR, h1, h2, h3]; rfl
        have q1 := wi_iff.1 h1
        have q2 := wi_iff.1 h2
        have q3 := wi_iff.1 h3
        have e1 := f67_eq a b (by omega) (by omega)
        have e2 := f67_eq ((Nat.gcd a.natAbs b.natAbs : Nat) : Int) d (by rw [Int.natAbs_natCast]; exact gcd_le64 (by omega) (by omega)) (by omega)
        rw [Int.natAbs_natCast] at e2
        simp only [h1, h2, h3, Bool.not_true, Bool.false_eq_true, if_false, g67, e1, e2, Option.isSome_some, Option.getD_some, if_true, eqF_eq, liE, hR]
        change _ = some (if gcd3 a b d = 1 then (0 : Int) else 3, ())
        change (if (!decide (((gcd3 a b d : Nat) : Int) = 1)) = true then _ else _) = _
        by_cases hg : gcd3 a b d = 1
        · have : ((gcd3 a b d : Nat) : Int) = 1 := by omega
          simp only [hg, decide_true, Bool.not_true, Bool.false_eq_true, if_false, if_true]
          rfl
        · have : ¬ ((gcd3 a b d : Nat) : Int) = 1 := by omega
          simp only [hg, this, decide_false, Bool.not_false, if_false, if_true]
      · have h3' : wi (-300000000000) 300000000000 b = false := by simpa using h3
        have hR : liR a b d = false := by rw [liR, h1, h2, h3']; rfl
        simp only [h1, h2, h3', Bool.not_true, Bool.not_false, Bool.false_eq_true, if_false, if_true, liE, hR]
    · have h2' : wi (-300000000000) 300000000000 a = false := by simpa using h2
      have hR : liR a b d = false := by rw [liR, h1, h2']; rfl
      simp only [h1, h2', Bool.not_true, Bool.not_false, Bool.false_eq_true, if_false, if_true, liE, hR]
  · have h1' : wi 1 300000000000 d = false := by simpa using h1
    have hR : liR a b d = false := by rw [liR, h1']; rfl
    simp only [h1', Bool.not_false, if_true, liE, hR, Bool.false_eq_true, if_false]

theorem liE_ok {a b d : Int} (h : liE a b d = 0) : (1 ≤ d ∧ d ≤ 300000000000) ∧ (-300000000000 ≤ a ∧ a ≤ 300000000000) ∧ (-300000000000 ≤ b ∧ b ≤ 300000000000) ∧ gcd3 a b d = 1 := by
  unfold liE at h
  split at h
  · rename_i h1
    simp only [liR, Bool.and_eq_true, wi_iff] at h1
    split at h
    · rename_i h2; exact ⟨h1.1, h1.2.1, h1.2.2, h2⟩
    · cases h
  · cases h

/-! Pairs. -/

abbrev Pr := Int × Int × PUnit.{1}
def pA (l : List Pr) (i : Nat) : Pr := l.getD i ((0 : Int), (0 : Int), ())
def kn (l : List Pr) (i : Nat) : Int := (pA l i).1
def rw' (l : List Pr) (i : Nat) : Int := (pA l i).2.1

def paB (l : List Pr) (i : Nat) : Bool := wi (-1000) 1000 (kn l i) && wi (-1000) 1000 (rw' l i)
def paF (l : List Pr) : Option Nat := first (fun i => !paB l i) l.length 0
def paE (l : List Pr) : Int := if l.length = 0 then 10 else if 10 < l.length then 8 else if (paF l).isSome = true then 2 else 0

theorem l91 (l : List Pr) (h : l.length ≤ 1000000000) : l91_0 ((l, (l.length : Int), (0 : Int), ()), ()) = match paF l with
    | some k => some (.inr (((k : Int), (2 : Int), ()), ()))
    | none => some (.inl ((), ())) := by
  refine itr_search (fun i => ((l, (l.length : Int), (i : Int), ()), ())) (fun i => !paB l i) (fun k => (((k : Int), (2 : Int), ()), ())) (n := l.length) ?_ ?_ (lt_rounds (by omega))
  · intro i hi
    have e := f63_two 1000 (kn l i) (rw' l i) (by omega) (by omega)
    simp only [kn, rw', pA] at e
    simp only [s91_0, t91_0, Tr.val_test, Tr.val_fin, Tr.val_stop, leF_eq, eqF_eq, Int.toNat_natCast, wrap64_nat (show i ≤ 9223372036854775806 by omega)]
    rw [if_pos (by simp; omega), if_pos (by simp; omega)]
    simp only [g63, g62, e, f62_eq, Option.isSome_some, Option.getD_some, if_true, paB, kn, rw', pA]
    by_cases hq : (wi (-1000) 1000 (l.getD i ((0 : Int), (0 : Int), ())).1 && wi (-1000) 1000 (l.getD i ((0 : Int), (0 : Int), ())).2.1) = true
    · simp only [hq, Bool.not_true, Bool.false_eq_true, if_false, decide_true]
    · have hq' := Bool.eq_false_iff.2 hq
      simp only [hq', Bool.not_false, if_true]
      rfl
  · simp [s91_0, t91_0, leF_eq]

theorem f49_eq (l : List Pr) (h : l.length ≤ 1000000000) : f49 (l, ()) = some (paE l, ()) := by
  have hl := l91 l h
  have e0 := f93_eq (l.length : Int) 10
  cases hf : paF l with
  | none =>
    rw [hf] at hl
    have k := f48_two (if (l.length : Int) = 0 then (10 : Int) else if ¬ (l.length : Int) ≤ 10 then 8 else 0) 0
    simp only [f49, t49, Tr.val_test, Tr.val_fin, Tr.val_stop, hl, isRet, g93, g48, e0, k, Option.isSome_some, Option.getD_some, Bool.false_eq_true, if_false, if_true, paE, hf, Option.isSome_none]
    by_cases h1 : l.length = 0
    · simp [h1]
    · by_cases h2 : 10 < l.length
      · have e1 : ¬ (l.length : Int) = 0 := by omega
        have e2 : ¬ (l.length : Int) ≤ 10 := by omega
        simp [h1, h2, e2]
      · have e1 : ¬ (l.length : Int) = 0 := by omega
        have e2 : (l.length : Int) ≤ 10 := by omega
        simp [h1, h2, e2]
  | some q =>
    rw [hf] at hl
    have k := f48_two (if (l.length : Int) = 0 then (10 : Int) else if ¬ (l.length : Int) ≤ 10 then 8 else 0) 2
    simp only [f49, t49, Tr.val_test, Tr.val_fin, Tr.val_stop, hl, isRet, r91_0, outR, g93, g48, e0, k, Option.isSome_some, Option.getD_some, Bool.false_eq_true, if_false, if_true, paE, hf]
    by_cases h1 : l.length = 0
    · simp [h1]
    · by_cases h2 : 10 < l.length
      · have e2 : ¬ (l.length : Int) ≤ 10 := by omega
        simp [h1, h2, e2]
      · have e2 : (l.length : Int) ≤ 10 := by omega
        simp [h1, h2, e2]

theorem f21_small (x : Int) (h : I64 x) : ∃ y : Int, f21 (x, ()) = some (y, ()) ∧ (y ≤ 1000 ∧ -1000 ≤ x ↔ -1000 ≤ x ∧ x ≤ 1000) := by
  unfold I64 at h
  by_cases hx : x = -9223372036854775808
  · subst hx
    exact ⟨-9223372036854775808, rfl, by omega⟩
  · refine ⟨(x.natAbs : Int), f21_abs x (by omega), ?_⟩
    constructor <;> intro h' <;> omega

theorem l14 (l : List Pr) (h : l.length ≤ 1000000000) (hI : ∀ i, I64 (kn l i) ∧ I64 (rw' l i)) : l14_0 ((l, (0 : Int), ()), ()) = match paF l with
    | some k => some (.inr (((2 : Int), ()), ()))
    | none => some (.inl ((), ())) := by
  refine itr_search (fun i => ((l, (i : Int), ()), ())) (fun i => !paB l i) (fun k => (((2 : Int), ()), ())) (n := l.length) ?_ ?_ (lt_rounds (by omega))
  · intro i hi
    obtain ⟨y1, e1, h1⟩ := f21_small (kn l i) (hI i).1
    obtain ⟨y2, e2, h2⟩ := f21_small (rw' l i) (hI i).2
    have hb : paB l i = true ↔ (-1000 ≤ kn l i ∧ kn l i ≤ 1000) ∧ (-1000 ≤ rw' l i ∧ rw' l i ≤ 1000) := by rw [paB, Bool.and_eq_true, wi_iff, wi_iff]
    simp only [s14_0, t14_0, Tr.val_test, Tr.val_fin, Tr.val_stop, leF_eq, eqF_eq, Int.toNat_natCast, wrap64_nat (show i ≤ 9223372036854775806 by omega)]
    rw [if_pos (by simp; omega), if_pos (by simp; omega)]
    change (if (f21 (kn l i, ())).isSome = true then (if (!decide ((g21 (kn l i, ())).1 ≤ 1000)) = true then _ else if (f21 (rw' l i, ())).isSome = true then (if (!decide ((g21 (rw' l i, ())).1 ≤ 1000)) = true then _ else if (!decide (-1000 ≤ kn l i)) = true then _ else if (!decide (-1000 ≤ rw' l i)) = true then _ else _) else _) else _) = _
    simp only [g21, e1, e2, Option.isSome_some, Option.getD_some, if_true]
    by_cases c1 : y1 ≤ 1000
    · by_cases c2 : y2 ≤ 1000
      · by_cases c3 : -1000 ≤ kn l i
        · by_cases c4 : -1000 ≤ rw' l i
          · have hB : paB l i = true := hb.2 ⟨h1.1 ⟨c1, c3⟩, h2.1 ⟨c2, c4⟩⟩
            simp only [c1, c2, c3, c4, hB, decide_true, Bool.not_true, Bool.false_eq_true, if_false]
          · have hB : paB l i = false := by
              cases hq : paB l i with
              | false => rfl
              | true => exact absurd (hb.1 hq).2.1 c4
            simp only [c1, c2, c3, c4, hB, decide_true, decide_false, Bool.not_true, Bool.not_false, Bool.false_eq_true, if_false, if_true]
        · have hB : paB l i = false := by
            cases hq : paB l i with
            | false => rfl
            | true => exact absurd (hb.1 hq).1.1 c3
          simp only [c1, c2, c3, hB, decide_true, decide_false, Bool.not_true, Bool.not_false, Bool.false_eq_true, if_false, if_true]
      · have hB : paB l i = false := by
          cases hq : paB l i with
          | false => rfl
          | true => exact absurd (h2.2 (hb.1 hq).2).1 c2
        simp only [c1, c2, hB, decide_true, decide_false, Bool.not_true, Bool.not_false, Bool.false_eq_true, if_false, if_true]
    · have hB : paB l i = false := by
        cases hq : paB l i with
        | false => rfl
        | true => exact absurd (h1.2 (hb.1 hq).1).1 c1
      simp only [c1, hB, decide_false, Bool.not_false, if_true]
  · simp [s14_0, t14_0, leF_eq]

theorem f14_eq (l : List Pr) (hI : ∀ i, I64 (kn l i) ∧ I64 (rw' l i)) : f14 (l, ()) = some (paE l, ()) := by
  simp only [f14, t14, Tr.val_test, Tr.val_fin, Tr.val_stop, eqF_eq, leF_eq, paE]
  by_cases h1 : l.length = 0
  · simp [h1]
  · have e1 : ¬ (l.length : Int) = 0 := by omega
    by_cases h2 : 10 < l.length
    · have e2 : ¬ (l.length : Int) ≤ 10 := by omega
      simp [h1, h2, e1, e2]
    · have e2 : (l.length : Int) ≤ 10 := by omega
      have hl := l14 l (by omega) hI
      simp only [h1, h2, e1, e2, if_false, decide_true, decide_false, Bool.not_true, Bool.false_eq_true]
      cases hf : paF l with
      | none =>
        rw [hf] at hl
        simp only [hl, isRet, Option.isSome_some, Option.isSome_none, if_true, Bool.false_eq_true, if_false]
      | some k =>
        rw [hf] at hl
        simp only [hl, isRet, r14_0, outR, Option.isSome_some, if_true]

def Ps (l : List Pr) : Prop := l.length ≤ 10 ∧ ∀ i, (kn l i).natAbs ≤ 1000 ∧ (rw' l i).natAbs ≤ 1000

theorem paE_ok {l : List Pr} (h : paE l = 0) : 0 < l.length ∧ Ps l := by
  unfold paE at h
  split at h
  · cases h
  · split at h
    · cases h
    · split at h
      · cases h
      · rename_i h1 h2 h3
        refine ⟨by omega, by omega, fun i => ?_⟩
        have hn : paF l = none := by simpa using h3
        by_cases hi : i < l.length
        · have := first_none hn i (Nat.zero_le _) (by omega)
          have : paB l i = true := by simpa using this
          rw [paB, Bool.and_eq_true, wi_iff, wi_iff] at this
          omega
        · have : pA l i = (0, 0, ()) := by simp [pA, List.getD, List.getElem?_eq_none (Nat.le_of_not_lt hi)]
          simp [kn, rw', this]

def flatF (l : List Pr) : Option Nat := first (fun i => !decide (rw' l i = rw' l 0)) l.length 0
def flat (l : List Pr) : Bool := (flatF l).isNone

theorem l116 (l : List Pr) (h : l.length ≤ 1000000000) : l116_0 ((l, (l.length : Int), (0 : Int), ()), (l, ()), ()) = match flatF l with
    | some k => some (.inr (((k : Int), ()), (l, ()), ()))
    | none => some (.inl ((), (l, ()), ())) := by
  refine itr_search (fun i => ((l, (l.length : Int), (i : Int), ()), (l, ()), ())) (fun i => !decide (rw' l i = rw' l 0)) (fun k => (((k : Int), ()), (l, ()), ())) (n := l.length) ?_ ?_ (lt_rounds (by omega))
  · intro i hi
    have e0 : (true && decide ((0 : Int) < (l.length : Int))) = true := by simp; omega
    simp only [s116_0, t116_0, Tr.val_test, Tr.val_fin, Tr.val_stop, leF_eq, eqF_eq, Int.toNat_natCast, wrap64_nat (show i ≤ 9223372036854775806 by omega)]
    rw [if_pos (by simp; omega), if_pos (by simp; omega)]
    simp only [e0, if_true, rw', pA]
    rfl
  · simp [s116_0, t116_0, leF_eq]

theorem f50_eq (l : List Pr) (h : l.length ≤ 1000000000) : f50 (l, ()) = some (if flat l = true then (11 : Int) else 0, ()) := by
  have hl := l116 l h
  cases hf : flatF l with
  | none =>
    rw [hf] at hl
    simp only [f50, t50, Tr.val_test, Tr.val_fin, Tr.val_stop, hl, isRet, g62, f62_eq, Option.isSome_some, Option.getD_some, Bool.false_eq_true, if_false, if_true, flat, hf, Option.isNone_none]
  | some k =>
    rw [hf] at hl
    have : (0 : Int) ≤ (k : Int) := by omega
    simp only [f50, t50, Tr.val_test, Tr.val_fin, Tr.val_stop, hl, isRet, r116_0, outR, g62, f62_eq, leF_eq, this, Option.isSome_some, Option.getD_some, decide_true, Bool.not_true, Bool.false_eq_true, if_false, if_true, flat, hf, Option.isNone_some]

theorem l15 (l : List Pr) (h : l.length ≤ 1000000000) (h0 : 0 < l.length) : l15_0 ((l, (1 : Int), ()), ()) = if flat l = true then some (.inl ((), ())) else some (.inr ((false, ()), ())) := by
  have key := itr_search (step := s15_0) (fun i => ((l, ((i + 1 : Nat) : Int), ()), ())) (fun i => !decide (rw' l (i + 1) = rw' l 0)) (fun k => ((false, ()), ())) (n := l.length - 1) (m := rounds) (b := ((), ())) ?_ ?_ (lt_rounds (by omega))
  · have e : (first (fun i => !decide (rw' l (i + 1) = rw' l 0)) (l.length - 1) 0).isNone = flat l := by
      unfold flat flatF
      cases hf : first (fun i => !decide (rw' l i = rw' l 0)) l.length 0 with
      | none =>
        have : first (fun i => !decide (rw' l (i + 1) = rw' l 0)) (l.length - 1) 0 = none := first_of_none fun j _ hj => first_none hf (j + 1) (Nat.zero_le _) (by omega)
        rw [this]
      | some k =>
        obtain ⟨_, h2, h3, _⟩ := first_some hf
        cases hg : first (fun i => !decide (rw' l (i + 1) = rw' l 0)) (l.length - 1) 0 with
        | some j => rfl
        | none =>
          exfalso
          by_cases hk : k = 0
          · subst hk; simp at h3
          · have := first_none hg (k - 1) (Nat.zero_le _) (by omega)
            rw [show k - 1 + 1 = k by omega, h3] at this
            cases this
    have key' : l15_0 ((l, (1 : Int), ()), ()) = _ := key
    rw [key', ← e]
    cases first (fun i => !decide (rw' l (i + 1) = rw' l 0)) (l.length - 1) 0 with
    | none => rfl
    | some k => rfl
  · intro i hi
    have hw : wrap64 (((i + 1 : Nat) : Int) + 1) = ((i + 1 + 1 : Nat) : Int) := wrap64_nat (by omega)
    have e0 : (true && decide ((0 : Int) < (l.length : Int))) = true := by simp; omega
    simp only [s15_0, t15_0, Tr.val_test, Tr.val_fin, Tr.val_stop, leF_eq, eqF_eq, Int.toNat_natCast, hw]
    rw [if_pos (by simp; omega), if_pos (by simp; omega)]
    simp only [e0, if_true, rw', pA]
    rfl
  · have : ((l.length - 1 + 1 : Nat) : Int) = (l.length : Int) := by omega
    simp only [this]
    simp [s15_0, t15_0, leF_eq]

theorem f15_eq (l : List Pr) (h : l.length ≤ 1000000000) (h0 : 0 < l.length) : f15 (l, ()) = some (flat l, ()) := by
  have hl := l15 l h h0
  by_cases hf : flat l = true
  · rw [if_pos hf] at hl
    simp only [f15, t15, Tr.val_test, Tr.val_fin, Tr.val_stop, hl, isRet, Option.isSome_some, if_true, Bool.false_eq_true, if_false, hf]
  · rw [if_neg hf] at hl
    have hf' : flat l = false := by simpa using hf
    simp only [f15, t15, Tr.val_test, Tr.val_fin, Tr.val_stop, hl, isRet, r15_0, outR, Option.isSome_some, if_true, hf']

theorem f9_eq (l : List Pr) (h : l.length ≤ 1000) : f9 (l, ()) = some (l, ()) := by
  simp only [f9, t9, Tr.val_test, Tr.val_fin, Tr.val_stop, List.nil_append]
  by_cases h0 : l.length = 0
  · have : l = [] := List.eq_nil_of_length_eq_zero h0
    subst this; rfl
  · rw [if_neg (by rw [beq_eq_true']; exact h0), if_neg (by rw [ble_eq_true']; omega), if_pos (by simp only [Bool.and_eq_true, ble_eq_true']; omega), if_pos (by rw [beq_eq_true']; omega)]

end Go.Vm.Mo

namespace Go.Vm.Mo
open Go
set_option linter.unusedVariables false
set_option linter.unusedSimpArgs false

def smP (f : Nat → Int) : Nat → Int
  | 0 => 0
  | k + 1 => smP f k + f k

theorem smP_bd {f : Nat → Int} {B : Nat} : ∀ n : Nat, (∀ i, i < n → (f i).natAbs ≤ B) → (smP f n).natAbs ≤ n * B
  | 0, _ => by simp [smP]
  | n + 1, h => by
    have ih := smP_bd n fun i hi => h i (by omega)
    have h1 := h n (by omega)
    simp only [smP]
    rw [Nat.add_mul]
    omega

theorem mulB {x y : Int} {A B : Nat} (hx : x.natAbs ≤ A) (hy : y.natAbs ≤ B) : (x * y).natAbs ≤ A * B := by
  rw [Int.natAbs_mul]
  exact Nat.mul_le_mul hx hy

theorem smP_congr {f g : Nat → Int} : ∀ n, (∀ i, i < n → f i = g i) → smP f n = smP g n
  | 0, _ => rfl
  | n + 1, h => by simp only [smP]; rw [smP_congr n fun i hi => h i (by omega), h n (by omega)]

abbrev sX (l : List Pr) (n : Nat) : Int := smP (rw' l) n
abbrev sY (l : List Pr) (n : Nat) : Int := smP (kn l) n
abbrev sXX (l : List Pr) (n : Nat) : Int := smP (fun i => rw' l i * rw' l i) n
abbrev sXY (l : List Pr) (n : Nat) : Int := smP (fun i => rw' l i * kn l i) n

theorem s_bd {l : List Pr} (h : Ps l) {n : Nat} (hn : n ≤ 10) : (sX l n).natAbs ≤ 10000 ∧ (sY l n).natAbs ≤ 10000 ∧ (sXX l n).natAbs ≤ 10000000 ∧ (sXY l n).natAbs ≤ 10000000 := by
  have h1 := smP_bd (f := rw' l) (B := 1000) n fun i _ => (h.2 i).2
  have h2 := smP_bd (f := kn l) (B := 1000) n fun i _ => (h.2 i).1
  have h3 := smP_bd (f := fun i => rw' l i * rw' l i) (B := 1000 * 1000) n fun i _ => mulB (h.2 i).2 (h.2 i).2
  have h4 := smP_bd (f := fun i => rw' l i * kn l i) (B := 1000 * 1000) n fun i _ => mulB (h.2 i).2 (h.2 i).1
  simp only [sX, sY, sXX, sXY]
  omega

theorem l51a (l : List Pr) (h : Ps l) : l51_0 (((0 : Int), l, (l.length : Int), (0 : Int), ()), ()) = some (.inl ((sX l l.length, ()), ())) := by
  have hl := h.1
  refine itr_brk (fun i => ((sX l i, l, (l.length : Int), (i : Int), ()), ())) (n := l.length) ?_ ?_ (lt_rounds (by omega))
  · intro i hi
    have := (s_bd h (n := i + 1) (by omega)).1
    have w : wrap64 (sX l i + rw' l i) = sX l (i + 1) := wrap64_id (by simp only [sX, smP] at *; omega) (by simp only [sX, smP] at *; omega)
    simp only [s51_0, t51_0, Tr.val_test, Tr.val_fin, Tr.val_stop, leF_eq, Int.toNat_natCast, wrap64_nat (show i ≤ 9223372036854775806 by omega)]
    rw [if_pos (by simp; omega), if_pos (by simp; omega)]
    simp only [rw', pA] at w
    simp only [w]
  · simp [s51_0, t51_0, leF_eq]

theorem l51b (l : List Pr) (h : Ps l) : l51_0_1 (((0 : Int), l, (l.length : Int), (0 : Int), ()), ()) = some (.inl ((sY l l.length, ()), ())) := by
  have hl := h.1
  refine itr_brk (fun i => ((sY l i, l, (l.length : Int), (i : Int), ()), ())) (n := l.length) ?_ ?_ (lt_rounds (by omega))
  · intro i hi
    have := (s_bd h (n := i + 1) (by omega)).2.1
    have w : wrap64 (sY l i + kn l i) = sY l (i + 1) := wrap64_id (by simp only [sY, smP] at *; omega) (by simp only [sY, smP] at *; omega)
    simp only [s51_0_1, t51_0_1, Tr.val_test, Tr.val_fin, Tr.val_stop, leF_eq, Int.toNat_natCast, wrap64_nat (show i ≤ 9223372036854775806 by omega)]
    rw [if_pos (by simp; omega), if_pos (by simp; omega)]
    simp only [kn, pA] at w
    simp only [w]
  · simp [s51_0_1, t51_0_1, leF_eq]

theorem l51c (l : List Pr) (h : Ps l) : l51_0_2 (((0 : Int), l, (l.length : Int), (0 : Int), ()), ()) = some (.inl ((sXX l l.length, ()), ())) := by
  have hl := h.1
  refine itr_brk (fun i => ((sXX l i, l, (l.length : Int), (i : Int), ()), ())) (n := l.length) ?_ ?_ (lt_rounds (by omega))
  · intro i hi
    have := (s_bd h (n := i + 1) (by omega)).2.2.1
    have m := mulB (h.2 i).2 (h.2 i).2
    have w0 : wrap64 (rw' l i * rw' l i) = rw' l i * rw' l i := wrap64_id (by omega) (by omega)
    have w : wrap64 (sXX l i + rw' l i * rw' l i) = sXX l (i + 1) := wrap64_id (by simp only [sXX, smP] at *; omega) (by simp only [sXX, smP] at *; omega)
    simp only [s51_0_2, t51_0_2, Tr.val_test, Tr.val_fin, Tr.val_stop, leF_eq, Int.toNat_natCast, wrap64_nat (show i ≤ 9223372036854775806 by omega)]
    rw [if_pos (by simp; omega), if_pos (by simp; omega)]
    simp only [rw', pA] at w w0
    simp only [w0, w]
  · simp [s51_0_2, t51_0_2, leF_eq]

theorem l51d (l : List Pr) (h : Ps l) : l51_0_3 (((0 : Int), l, (l.length : Int), (0 : Int), ()), ()) = some (.inl ((sXY l l.length, ()), ())) := by
  have hl := h.1
  refine itr_brk (fun i => ((sXY l i, l, (l.length : Int), (i : Int), ()), ())) (n := l.length) ?_ ?_ (lt_rounds (by omega))
  · intro i hi
    have := (s_bd h (n := i + 1) (by omega)).2.2.2
    have m := mulB (h.2 i).2 (h.2 i).1
    have w0 : wrap64 (rw' l i * kn l i) = rw' l i * kn l i := wrap64_id (by omega) (by omega)
    have w : wrap64 (sXY l i + rw' l i * kn l i) = sXY l (i + 1) := wrap64_id (by simp only [sXY, smP] at *; omega) (by simp only [sXY, smP] at *; omega)
    simp only [s51_0_3, t51_0_3, Tr.val_test, Tr.val_fin, Tr.val_stop, leF_eq, Int.toNat_natCast, wrap64_nat (show i ≤ 9223372036854775806 by omega)]
    rw [if_pos (by simp; omega), if_pos (by simp; omega)]
    simp only [rw', kn, pA] at w w0
    simp only [w0, w]
  · simp [s51_0_3, t51_0_3, leF_eq]

/-! The calibration: its numbers, not yet in lowest terms. -/

def cD (l : List Pr) : Int := (l.length : Int) * sXX l l.length - sX l l.length * sX l l.length
def cG (l : List Pr) : Int := (l.length : Int) * sXY l l.length - sX l l.length * sY l l.length
def cO (l : List Pr) : Int := sY l l.length * sXX l l.length - sX l l.length * sXY l l.length

theorem c_bd {l : List Pr} (h : Ps l) : (cD l).natAbs ≤ 200000000 ∧ (cG l).natAbs ≤ 200000000 ∧ (cO l).natAbs ≤ 200000000000 := by
  obtain ⟨h1, h2, h3, h4⟩ := s_bd h h.1
  have hn : ((l.length : Int)).natAbs ≤ 10 := by have := h.1; omega
  have a1 := mulB hn h3
  have a2 := mulB h1 h1
  have a3 := mulB hn h4
  have a4 := mulB h1 h2
  have a5 := mulB h2 h3
  have a6 := mulB h1 h4
  unfold cD cG cO
  omega

theorem smP_add (f g : Nat → Int) : ∀ n, smP (fun i => f i + g i) n = smP f n + smP g n
  | 0 => rfl
  | n + 1 => by simp only [smP]; rw [smP_add f g n]; omega

theorem smP_mul (a : Int) (f : Nat → Int) : ∀ n, smP (fun i => a * f i) n = a * smP f n
  | 0 => by simp [smP]
  | n + 1 => by simp only [smP]; rw [smP_mul a f n, Int.mul_add]

theorem smP_const (a : Int) : ∀ n : Nat, smP (fun _ => a) n = (n : Int) * a
  | 0 => by simp [smP]
  | n + 1 => by simp only [smP]; rw [smP_const a n]; simp [Int.add_mul]

theorem smP_nn {f : Nat → Int} : ∀ n, (∀ i, i < n → 0 ≤ f i) → 0 ≤ smP f n
  | 0, _ => Int.le_refl _
  | n + 1, h => by
    have := smP_nn n fun i hi => h i (by omega)
    have := h n (by omega)
    simp only [smP]; omega

theorem smP_ge {f : Nat → Int} : ∀ n, (∀ i, i < n → 0 ≤ f i) → ∀ k, k < n → f k ≤ smP f n
  | n + 1, h, k, hk => by
    have h1 := h n (by omega)
    simp only [smP]
    by_cases hkn : k = n
    · have := smP_nn n fun i hi => h i (by omega)
      subst hkn; omega
    · have := smP_ge n (fun i hi => h i (by omega)) k (by omega)
      omega

/-- Twice the denominator is the sum of the squares of all differences. -/
theorem cD_two (x : Nat → Int) (n : Nat) : smP (fun i => smP (fun j => (x i - x j) * (x i - x j)) n) n = 2 * ((n : Int) * smP (fun i => x i * x i) n - smP x n * smP x n) := by
  have inner : ∀ i, smP (fun j => (x i - x j) * (x i - x j)) n = (n : Int) * (x i * x i) + (-2 * smP x n) * x i + smP (fun j => x j * x j) n := by
    intro i
    have e : ∀ j, j < n → (x i - x j) * (x i - x j) = (x i * x i + (-2 * x i) * x j) + x j * x j := by intro j _; grind
    rw [smP_congr n e, smP_add (fun j => x i * x i + (-2 * x i) * x j) (fun j => x j * x j), smP_add (fun _ => x i * x i) (fun j => (-2 * x i) * x j), smP_const, smP_mul (-2 * x i) x]
    grind
  rw [smP_congr n fun i _ => inner i, smP_add (fun i => (n : Int) * (x i * x i) + (-2 * smP x n) * x i) (fun _ => smP (fun j => x j * x j) n), smP_add (fun i => (n : Int) * (x i * x i)) (fun i => (-2 * smP x n) * x i), smP_const, smP_mul (n : Int) (fun i => x i * x i), smP_mul (-2 * smP x n) x]
  grind

theorem sq_nn (a : Int) : 0 ≤ a * a := by
  rcases Int.le_total 0 a with h | h
  · exact Int.mul_nonneg h h
  · have := Int.mul_nonneg (show 0 ≤ -a by omega) (show 0 ≤ -a by omega)
    rwa [Int.neg_mul_neg] at this

theorem sq_pos {a : Int} (h : a ≠ 0) : 1 ≤ a * a := by
  have h1 := sq_nn a
  have h2 : a * a ≠ 0 := by
    intro e
    rcases Int.mul_eq_zero.1 e with e | e <;> exact h e
  omega

theorem cD_pos {l : List Pr} (h : flat l = false) : 0 < cD l := by
  unfold flat at h
  obtain ⟨k, hk⟩ : ∃ k, flatF l = some k := by
    cases e : flatF l with
    | none => rw [e] at h; cases h
    | some k => exact ⟨k, rfl⟩
  obtain ⟨_, h2, h3, _⟩ := first_some hk
  have h3 : rw' l k ≠ rw' l 0 := by simpa using h3
  have e := cD_two (rw' l) l.length
  have n1 : ∀ i, i < l.length → 0 ≤ smP (fun j => (rw' l i - rw' l j) * (rw' l i - rw' l j)) l.length := fun i _ => smP_nn _ fun j _ => sq_nn _
  have g1 := smP_ge l.length n1 k (by omega)
  have g2 := smP_ge (f := fun j => (rw' l k - rw' l j) * (rw' l k - rw' l j)) l.length (fun j _ => sq_nn _) 0 (by omega)
  have g3 := sq_pos (a := rw' l k - rw' l 0) (by omega)
  unfold cD
  simp only [sXX, sX]
  omega

theorem wrapK {n : Int} (h1 : n.natAbs ≤ 9223372036854775807) : IntKind.wrap .i64 n = n := by rw [← wrap64_eq, wrap64_id (by omega) (by omega)]

theorem tdiv_le (a : Int) (b : Nat) : (a.tdiv (b : Int)).natAbs ≤ a.natAbs := by
  rw [Int.natAbs_tdiv]
  exact Nat.div_le_self _ _

def cgcd (l : List Pr) : Nat := gcd3 (cG l) (cO l) (cD l)

theorem cgcd_pos {l : List Pr} (h : flat l = false) : cgcd l ≠ 0 := by
  have := cD_pos h
  unfold cgcd gcd3
  have : 0 < (cD l).natAbs := by omega
  have := Nat.gcd_pos_of_pos_right (Nat.gcd (cG l).natAbs (cO l).natAbs) this
  omega

def calN (l : List Pr) : Int × Int × Int × PUnit := ((cG l).tdiv (cgcd l : Nat), (cO l).tdiv (cgcd l : Nat), (cD l).tdiv (cgcd l : Nat), ())

theorem f48_two' (a b : Int) : f48 ([a, b], ()) = some (if a ≠ 0 then a else b, ()) := by
  rw [f48_two]
  by_cases h : a = 0
  · simp [h]
  · simp [h]

def caE (l : List Pr) : Int := if paE l ≠ 0 then paE l else if flat l = true then 11 else 0

theorem f8_eq (l : List Pr) (h : l.length ≤ 1000) : f8 (l, ()) = some (if caE l ≠ 0 then (((0 : Int), (0 : Int), (0 : Int), ()), caE l, ()) else (calN l, (0 : Int), ())) := by
  have e1 := f49_eq l (by omega)
  have e2 := f50_eq l (by omega)
  have e3 := f48_two' (paE l) (if flat l = true then (11 : Int) else 0)
  change f48 ([paE l, if flat l = true then (11 : Int) else 0], ()) = some (caE l, ()) at e3
  by_cases hc : caE l = 0
  rotate_left
  · have nd : decide (caE l = 0) = false := by simpa using hc
    simp only [f8, t8, Tr.val_test, Tr.val_fin, Tr.val_stop, g49, g50, g48, e1, e2, e3, eqF_eq, nd, decide_false, Option.isSome_some, Option.getD_some, Bool.not_false, ne_eq, hc, not_false_eq_true, ↓reduceIte]
  have hp : paE l = 0 ∧ flat l = false := by
    unfold caE at hc
    split at hc
    · exact absurd hc (by assumption)
    · rename_i q1
      split at hc
      · cases hc
      · rename_i q2; exact ⟨by simpa using q1, by simpa using q2⟩
  obtain ⟨h0, hP⟩ := paE_ok hp.1
  obtain ⟨b1, b2, b3, b4⟩ := s_bd hP hP.1
  obtain ⟨c1, c2, c3⟩ := c_bd hP
  have hn : ((l.length : Int)).natAbs ≤ 10 := by have := hP.1; omega
  have a1 := mulB hn b3
  have a2 := mulB b1 b1
  have a3 := mulB hn b4
  have a4 := mulB b1 b2
  have a5 := mulB b2 b3
  have a6 := mulB b1 b4
  have w1 : wrap64 ((l.length : Int) * sXX l l.length) = (l.length : Int) * sXX l l.length := wrap64_id (by omega) (by omega)
  have w2 : wrap64 (sX l l.length * sX l l.length) = sX l l.length * sX l l.length := wrap64_id (by omega) (by omega)
  have w3 : wrap64 ((l.length : Int) * sXY l l.length) = (l.length : Int) * sXY l l.length := wrap64_id (by omega) (by omega)
  have w4 : wrap64 (sX l l.length * sY l l.length) = sX l l.length * sY l l.length := wrap64_id (by omega) (by omega)
  have w5 : wrap64 (sY l l.length * sXX l l.length) = sY l l.length * sXX l l.length := wrap64_id (by omega) (by omega)
  have w6 : wrap64 (sX l l.length * sXY l l.length) = sX l l.length * sXY l l.length := wrap64_id (by omega) (by omega)
  have w7 : wrap64 ((l.length : Int) * sXX l l.length - sX l l.length * sX l l.length) = cD l := wrap64_id (by unfold cD at c1; omega) (by unfold cD at c1; omega)
  have w8 : wrap64 ((l.length : Int) * sXY l l.length - sX l l.length * sY l l.length) = cG l := wrap64_id (by unfold cG at c2; omega) (by unfold cG at c2; omega)
  have w9 : wrap64 (sY l l.length * sXX l l.length - sX l l.length * sXY l l.length) = cO l := wrap64_id (by unfold cO at c3; omega) (by unfold cO at c3; omega)
  have e4 := f56_two (cD l) (cG l) (cO l) (by omega) (by omega) (by omega)
  rw [← gcd3_rot] at e4
  change f56 (cD l, [cG l, cO l], ()) = some (((cgcd l : Nat) : Int), ()) at e4
  have hg := cgcd_pos hp.2
  have hz : (((cgcd l : Nat) : Int) == (0 : Int)) = false := by
    rw [beq_eq_false_iff_ne]; omega
  have v1 : IntKind.wrap .i64 ((cG l).tdiv (cgcd l : Nat)) = (cG l).tdiv (cgcd l : Nat) := wrapK (by have := tdiv_le (cG l) (cgcd l); omega)
  have v2 : IntKind.wrap .i64 ((cO l).tdiv (cgcd l : Nat)) = (cO l).tdiv (cgcd l : Nat) := wrapK (by have := tdiv_le (cO l) (cgcd l); omega)
  have v3 : IntKind.wrap .i64 ((cD l).tdiv (cgcd l : Nat)) = (cD l).tdiv (cgcd l : Nat) := wrapK (by have := tdiv_le (cD l) (cgcd l); omega)
  rw [hc] at e3
  simp only [f8, t8, Tr.val_test, Tr.val_fin, Tr.val_stop, g49, g50, g48, e1, e2, e3, eqF_eq, decide_true, Bool.not_true, Bool.false_eq_true, l51a l hP, l51b l hP, l51c l hP, l51d l hP, isBrk, b51_0, b51_0_1, b51_0_2, b51_0_3, outB, w1, w2, w3, w4, w5, w6, w7, w8, w9, g56, e4, hz, v1, v2, v3, Option.isSome_some, Option.getD_some, ne_eq, hc, not_true_eq_false, ↓reduceIte]
  rfl

/-! The reference's calibration. -/

theorem l16 (l : List Pr) (h : Ps l) : l16_0 ((l, (l.length : Int), (0 : Int), (0 : Int), (0 : Int), (0 : Int), (0 : Int), ()), ((0 : Int), (0 : Int), (0 : Int), ()), ()) = some (.inl (((l.length : Int), sX l l.length, sY l l.length, sXX l l.length, sXY l l.length, ()), ((0 : Int), (0 : Int), (0 : Int), ()), ())) := by
  have hl := h.1
  refine itr_brk (fun i => ((l, (l.length : Int), sX l i, sY l i, sXX l i, sXY l i, (i : Int), ()), ((0 : Int), (0 : Int), (0 : Int), ()), ())) (n := l.length) ?_ ?_ (lt_rounds (by omega))
  · intro i hi
    obtain ⟨b1, b2, b3, b4⟩ := s_bd h (n := i + 1) (by omega)
    have m1 := mulB (h.2 i).2 (h.2 i).2
    have m2 := mulB (h.2 i).2 (h.2 i).1
    have w0 : wrap64 (rw' l i * rw' l i) = rw' l i * rw' l i := wrap64_id (by omega) (by omega)
    have w1 : wrap64 (rw' l i * kn l i) = rw' l i * kn l i := wrap64_id (by omega) (by omega)
    have w2 : wrap64 (sX l i + rw' l i) = sX l (i + 1) := wrap64_id (by simp only [sX, smP] at *; omega) (by simp only [sX, smP] at *; omega)
    have w3 : wrap64 (sY l i + kn l i) = sY l (i + 1) := wrap64_id (by simp only [sY, smP] at *; omega) (by simp only [sY, smP] at *; omega)
    have w4 : wrap64 (sXX l i + rw' l i * rw' l i) = sXX l (i + 1) := wrap64_id (by simp only [sXX, smP] at *; omega) (by simp only [sXX, smP] at *; omega)
    have w5 : wrap64 (sXY l i + rw' l i * kn l i) = sXY l (i + 1) := wrap64_id (by simp only [sXY, smP] at *; omega) (by simp only [sXY, smP] at *; omega)
    simp only [s16_0, t16_0, Tr.val_test, Tr.val_fin, Tr.val_stop, leF_eq, Int.toNat_natCast, wrap64_nat (show i ≤ 9223372036854775806 by omega)]
    rw [if_pos (by simp; omega), if_pos (by simp; omega)]
    simp only [rw', kn, pA] at w0 w1 w2 w3 w4 w5
    simp only [w0, w1, w2, w3, w4, w5]
  · simp [s16_0, t16_0, leF_eq]

theorem f68_eq (a b d : Int) (ha : a.natAbs ≤ 9223372036854775807) (hb : b.natAbs ≤ 9223372036854775807) (hd : d.natAbs ≤ 9223372036854775807) (h0 : gcd3 a b d ≠ 0) :
    f68 (a, b, d, ()) = some ((a.tdiv (gcd3 a b d : Nat), b.tdiv (gcd3 a b d : Nat), d.tdiv (gcd3 a b d : Nat), ()), ()) := by
  have e1 := f67_eq a b ha hb
  have e2 := f67_eq ((Nat.gcd a.natAbs b.natAbs : Nat) : Int) d (by rw [Int.natAbs_natCast]; exact gcd_le64 ha hb) hd
  rw [Int.natAbs_natCast] at e2
  change f67 (((Nat.gcd a.natAbs b.natAbs : Nat) : Int), d, ()) = some (((gcd3 a b d : Nat) : Int), ()) at e2
  have hz : (((gcd3 a b d : Nat) : Int) == (0 : Int)) = false := by
    rw [beq_eq_false_iff_ne]; omega
  have v1 : IntKind.wrap .i64 (a.tdiv (gcd3 a b d : Nat)) = a.tdiv (gcd3 a b d : Nat) := wrapK (by have := tdiv_le a (gcd3 a b d); omega)
  have v2 : IntKind.wrap .i64 (b.tdiv (gcd3 a b d : Nat)) = b.tdiv (gcd3 a b d : Nat) := wrapK (by have := tdiv_le b (gcd3 a b d); omega)
  have v3 : IntKind.wrap .i64 (d.tdiv (gcd3 a b d : Nat)) = d.tdiv (gcd3 a b d : Nat) := wrapK (by have := tdiv_le d (gcd3 a b d); omega)
  simp only [f68, t68, Tr.val_test, Tr.val_fin, Tr.val_stop, g67, e1, e2, hz, v1, v2, v3, Option.isSome_some, Option.getD_some, Bool.false_eq_true, ↓reduceIte]

theorem f16_eq (l : List Pr) (hP : Ps l) (hf : flat l = false) : f16 (l, ()) = some (calN l, ()) := by
  obtain ⟨b1, b2, b3, b4⟩ := s_bd hP hP.1
  obtain ⟨c1, c2, c3⟩ := c_bd hP
  have hn : ((l.length : Int)).natAbs ≤ 10 := by have := hP.1; omega
  have a1 := mulB hn b3
  have a2 := mulB b1 b1
  have a3 := mulB hn b4
  have a4 := mulB b1 b2
  have a5 := mulB b3 b2
  have a6 := mulB b1 b4
  have w1 : wrap64 ((l.length : Int) * sXX l l.length) = (l.length : Int) * sXX l l.length := wrap64_id (by omega) (by omega)
  have w2 : wrap64 (sX l l.length * sX l l.length) = sX l l.length * sX l l.length := wrap64_id (by omega) (by omega)
  have w3 : wrap64 ((l.length : Int) * sXY l l.length) = (l.length : Int) * sXY l l.length := wrap64_id (by omega) (by omega)
  have w4 : wrap64 (sX l l.length * sY l l.length) = sX l l.length * sY l l.length := wrap64_id (by omega) (by omega)
  have w5 : wrap64 (sXX l l.length * sY l l.length) = sY l l.length * sXX l l.length := by rw [wrap64_id (by omega) (by omega), Int.mul_comm]
  have w6 : wrap64 (sX l l.length * sXY l l.length) = sX l l.length * sXY l l.length := wrap64_id (by omega) (by omega)
  have w7 : wrap64 ((l.length : Int) * sXX l l.length - sX l l.length * sX l l.length) = cD l := wrap64_id (by unfold cD at c1; omega) (by unfold cD at c1; omega)
  have w8 : wrap64 ((l.length : Int) * sXY l l.length - sX l l.length * sY l l.length) = cG l := wrap64_id (by unfold cG at c2; omega) (by unfold cG at c2; omega)
  have w9 : wrap64 (sY l l.length * sXX l l.length - sX l l.length * sXY l l.length) = cO l := wrap64_id (by unfold cO at c3; omega) (by unfold cO at c3; omega)
  have e := f68_eq (cG l) (cO l) (cD l) (by omega) (by omega) (by omega) (cgcd_pos hf)
  simp only [f16, t16, Tr.val_test, Tr.val_fin, Tr.val_stop, l16 l hP, isBrk, b16_0, outB, w1, w2, w3, w4, w5, w6, w7, w8, w9, g68, e, Option.isSome_some, Option.getD_some, ↓reduceIte]
  rfl

end Go.Vm.Mo

namespace Go.Vm.Mo
open Go
set_option linter.unusedVariables false
set_option linter.unusedSimpArgs false

def rst (l : List Pr) (a b d : Int) (i : Nat) : Int := a * rw' l i + b - d * kn l i
abbrev sR (l : List Pr) (a b d : Int) (n : Nat) : Int := smP (rst l a b d) n
abbrev sW (l : List Pr) (a b d : Int) (n : Nat) : Int := smP (fun i => rst l a b d i * rw' l i) n
abbrev sQ (l : List Pr) (a b d : Int) (n : Nat) : Int := smP (fun i => rst l a b d i * rst l a b d i) n

theorem rst_bd {l : List Pr} (h : Ps l) {a b d : Int} {B : Nat} (ha : a.natAbs ≤ B) (hb : b.natAbs ≤ B) (hd : d.natAbs ≤ B) (i : Nat) :
    (a * rw' l i).natAbs ≤ B * 1000 ∧ (a * rw' l i + b).natAbs ≤ B * 1001 ∧ (d * kn l i).natAbs ≤ B * 1000 ∧ (rst l a b d i).natAbs ≤ B * 2001 := by
  have m1 := mulB ha (h.2 i).2
  have m2 := mulB hd (h.2 i).1
  unfold rst
  omega

theorem sR_bd {l : List Pr} (h : Ps l) {a b d : Int} {B : Nat} (ha : a.natAbs ≤ B) (hb : b.natAbs ≤ B) (hd : d.natAbs ≤ B) {n : Nat} (hn : n ≤ 10) :
    (sR l a b d n).natAbs ≤ B * 20010 ∧ (sW l a b d n).natAbs ≤ B * 20010000 := by
  have h1 := smP_bd (f := rst l a b d) (B := B * 2001) n fun i _ => (rst_bd h ha hb hd i).2.2.2
  have h2 := smP_bd (f := fun i => rst l a b d i * rw' l i) (B := B * 2001 * 1000) n fun i _ => mulB (rst_bd h ha hb hd i).2.2.2 (h.2 i).2
  have h3 : n * (B * 2001) ≤ 10 * (B * 2001) := Nat.mul_le_mul_right _ hn
  have h4 : n * (B * 2001 * 1000) ≤ 10 * (B * 2001 * 1000) := Nat.mul_le_mul_right _ hn
  simp only [sR, sW]
  omega

theorem f72_eq (a b d x : Int) (h1 : (a * x).natAbs ≤ 9223372036854775807) (h2 : (a * x + b).natAbs ≤ 9223372036854775807) : f72 ((a, b, d, ()), x, ()) = some (a * x + b, ()) := by
  have w1 : wrap64 (a * x) = a * x := wrap64_id (by omega) (by omega)
  have w2 : wrap64 (a * x + b) = a * x + b := wrap64_id (by omega) (by omega)
  simp only [f72, t72, Tr.val_fin, w1, w2]

theorem f58_eq (l : List Pr) (h : Ps l) (a b d : Int) (ha : a.natAbs ≤ 300000000000) (hb : b.natAbs ≤ 300000000000) (hd : d.natAbs ≤ 300000000000) (i : Nat) :
    f58 ((a, b, d, ()), (kn l i, rw' l i, ()), ()) = some (rst l a b d i, ()) := by
  obtain ⟨m1, m2, m3, m4⟩ := rst_bd h ha hb hd i
  have e := f72_eq a b d (rw' l i) (by omega) (by omega)
  have w1 : wrap64 (d * kn l i) = d * kn l i := wrap64_id (by omega) (by omega)
  have w2 : wrap64 (a * rw' l i + b - d * kn l i) = rst l a b d i := wrap64_id (by unfold rst at m4; omega) (by unfold rst at m4; omega)
  simp only [f58, t58, Tr.val_test, Tr.val_fin, Tr.val_stop, g72, e, w1, w2, Option.isSome_some, Option.getD_some, if_true]

theorem l51e (l : List Pr) (h : Ps l) (a b d : Int) (ha : a.natAbs ≤ 300000000000) (hb : b.natAbs ≤ 300000000000) (hd : d.natAbs ≤ 300000000000) :
    l51_0_4 (((0 : Int), l, (l.length : Int), (0 : Int), ()), (a, b, d, ()), ()) = some (.inl ((sR l a b d l.length, ()), (a, b, d, ()), ())) := by
  have hl := h.1
  refine itr_brk (fun i => ((sR l a b d i, l, (l.length : Int), (i : Int), ()), (a, b, d, ()), ())) (n := l.length) ?_ ?_ (lt_rounds (by omega))
  · intro i hi
    have e := f58_eq l h a b d ha hb hd i
    have := (sR_bd h ha hb hd (n := i + 1) (by omega)).1
    have w : wrap64 (sR l a b d i + rst l a b d i) = sR l a b d (i + 1) := wrap64_id (by simp only [sR, smP] at *; omega) (by simp only [sR, smP] at *; omega)
    simp only [kn, rw', pA] at e
    simp only [s51_0_4, t51_0_4, Tr.val_test, Tr.val_fin, Tr.val_stop, leF_eq, Int.toNat_natCast, wrap64_nat (show i ≤ 9223372036854775806 by omega)]
    rw [if_pos (by simp; omega), if_pos (by simp; omega)]
    simp only [g58, e, Option.isSome_some, Option.getD_some, if_true, w]
  · simp [s51_0_4, t51_0_4, leF_eq]

theorem l51f (l : List Pr) (h : Ps l) (a b d : Int) (ha : a.natAbs ≤ 300000000000) (hb : b.natAbs ≤ 300000000000) (hd : d.natAbs ≤ 300000000000) :
    l51_0_5 (((0 : Int), l, (l.length : Int), (0 : Int), ()), (a, b, d, ()), ()) = some (.inl ((sW l a b d l.length, ()), (a, b, d, ()), ())) := by
  have hl := h.1
  refine itr_brk (fun i => ((sW l a b d i, l, (l.length : Int), (i : Int), ()), (a, b, d, ()), ())) (n := l.length) ?_ ?_ (lt_rounds (by omega))
  · intro i hi
    have e := f58_eq l h a b d ha hb hd i
    have := (sR_bd h ha hb hd (n := i + 1) (by omega)).2
    have m := mulB (rst_bd h ha hb hd i).2.2.2 (h.2 i).2
    have w0 : wrap64 (rst l a b d i * rw' l i) = rst l a b d i * rw' l i := wrap64_id (by omega) (by omega)
    have w : wrap64 (sW l a b d i + rst l a b d i * rw' l i) = sW l a b d (i + 1) := wrap64_id (by simp only [sW, smP] at *; omega) (by simp only [sW, smP] at *; omega)
    simp only [kn, rw', pA] at e
    have w0' := w0
    simp only [rw', pA] at w0'
    have w' := w
    simp only [rw', pA] at w'
    simp only [s51_0_5, t51_0_5, Tr.val_test, Tr.val_fin, Tr.val_stop, leF_eq, Int.toNat_natCast, wrap64_nat (show i ≤ 9223372036854775806 by omega)]
    rw [if_pos (by simp; omega), if_pos (by simp; omega)]
    simp only [g58, e, Option.isSome_some, Option.getD_some, if_true]
    change some (Out.again ((wrap64 (sW l a b d i + wrap64 (rst l a b d i * rw' l i)), l, (l.length : Int), ((i + 1 : Nat) : Int), ()), (a, b, d, ()), ())) = _
    rw [w0, w]
  · simp [s51_0_5, t51_0_5, leF_eq]

theorem sQ_bd {l : List Pr} (h : Ps l) {a b d : Int} (ha : a.natAbs ≤ 10000) (hb : b.natAbs ≤ 10000) (hd : d.natAbs ≤ 10000) {n : Nat} (hn : n ≤ 10) : (sQ l a b d n).natAbs ≤ 4004001000000000 := by
  have h2 := smP_bd (f := fun i => rst l a b d i * rst l a b d i) (B := (10000 * 2001) * (10000 * 2001)) n fun i _ => mulB (rst_bd h ha hb hd i).2.2.2 (rst_bd h ha hb hd i).2.2.2
  have h4 : n * ((10000 * 2001) * (10000 * 2001)) ≤ 10 * ((10000 * 2001) * (10000 * 2001)) := Nat.mul_le_mul_right _ hn
  simp only [sQ]
  omega

theorem l51g (l : List Pr) (h : Ps l) (a b d : Int) (ha : a.natAbs ≤ 10000) (hb : b.natAbs ≤ 10000) (hd : d.natAbs ≤ 10000) :
    l51_0_6 (((0 : Int), l, (l.length : Int), (0 : Int), ()), (a, b, d, ()), ()) = some (.inl ((sQ l a b d l.length, ()), (a, b, d, ()), ())) := by
  have hl := h.1
  refine itr_brk (fun i => ((sQ l a b d i, l, (l.length : Int), (i : Int), ()), (a, b, d, ()), ())) (n := l.length) ?_ ?_ (lt_rounds (by omega))
  · intro i hi
    have e := f58_eq l h a b d (by omega) (by omega) (by omega) i
    have := sQ_bd h ha hb hd (n := i + 1) (by omega)
    have m := mulB (rst_bd h ha hb hd i).2.2.2 (rst_bd h ha hb hd i).2.2.2
    have w0 : wrap64 (rst l a b d i * rst l a b d i) = rst l a b d i * rst l a b d i := wrap64_id (by omega) (by omega)
    have w : wrap64 (sQ l a b d i + rst l a b d i * rst l a b d i) = sQ l a b d (i + 1) := wrap64_id (by simp only [sQ, smP] at *; omega) (by simp only [sQ, smP] at *; omega)
    simp only [kn, rw', pA] at e
    simp only [s51_0_6, t51_0_6, Tr.val_test, Tr.val_fin, Tr.val_stop, leF_eq, Int.toNat_natCast, wrap64_nat (show i ≤ 9223372036854775806 by omega)]
    rw [if_pos (by simp; omega), if_pos (by simp; omega)]
    simp only [g58, e, Option.isSome_some, Option.getD_some, if_true, w0, w]
  · simp [s51_0_6, t51_0_6, leF_eq]

theorem l60b (r w : Int) : l60_0_1 ((((2 : Nat), (2 : Nat)), (2 : Int), (0 : Int), ()), [r, w], ()) = if r ≠ 0 then some (.inr (((0 : Int), (19 : Int), ()), [r, w], ())) else if w ≠ 0 then some (.inr (((1 : Int), (19 : Int), ()), [r, w], ())) else some (.inl ((), [r, w], ())) := by
  have key := itr_search (step := s60_0_1) (fun i => ((((2 : Nat), (2 : Nat)), (2 : Int), (i : Int), ()), [r, w], ())) (fun i => !decide ([r, w].getD i 0 = 0)) (fun k => (((k : Int), (19 : Int), ()), [r, w], ())) (n := 2) (m := rounds) (b := ((), [r, w], ())) ?_ ?_ (lt_rounds (by omega))
  · have key' : l60_0_1 ((((2 : Nat), (2 : Nat)), (2 : Int), (0 : Int), ()), [r, w], ()) = _ := key
    rw [key']
    simp only [first, List.getD_cons_zero, List.getD_cons_succ]
    by_cases h1 : r = 0
    · by_cases h2 : w = 0
      · simp [h1, h2]
      · simp [h1, h2]
    · simp [h1]
  · intro i hi
    simp only [s60_0_1, t60_0_1, Tr.val_test, Tr.val_fin, Tr.val_stop, leF_eq, eqF_eq, Int.toNat_natCast, wrap64_nat (show i ≤ 9223372036854775806 by omega)]
    rw [if_pos (by simp; omega), if_pos (by simp; omega), if_pos (by simp only [ble_eq_true', List.length]; omega)]
    simp only [g62, f62_eq, Option.isSome_some, Option.getD_some, if_true, Nat.zero_add]
    by_cases h : [r, w].getD i 0 = 0
    · simp only [h, decide_true, Bool.not_true, Bool.false_eq_true, if_false]
    · simp only [h, decide_false, Bool.not_false, if_true]
      rfl
  · simp [s60_0_1, t60_0_1, leF_eq]

def cpE (l : List Pr) (a b d : Int) : Int := if paE l ≠ 0 then paE l else liE a b d
def ckK (l : List Pr) (a b d : Int) : Int × Int := if cpE l a b d ≠ 0 then (0, cpE l a b d) else if sR l a b d l.length ≠ 0 then (0, 19) else if sW l a b d l.length ≠ 0 then (1, 19) else if flat l = true then (0, 11) else (0, 0)

theorem cpE_ok {l : List Pr} {a b d : Int} (h : cpE l a b d = 0) : paE l = 0 ∧ liE a b d = 0 := by
  unfold cpE at h
  split at h
  · exact absurd h (by assumption)
  · rename_i h1; exact ⟨by simpa using h1, h⟩

theorem f10_eq (l : List Pr) (a b d : Int) (h : l.length ≤ 1000) (ha : I64 a) (hb : I64 b) (hd : I64 d) : f10 (l, (a, b, d, ()), ()) = some ((ckK l a b d).1, (ckK l a b d).2, ()) := by
  have e1 := f49_eq l (by omega)
  have e2 := f12_eq a b d ha hb hd
  have e3 := f48_two' (paE l) (liE a b d)
  change f48 ([paE l, liE a b d], ()) = some (cpE l a b d, ()) at e3
  have e4 := f50_eq l (by omega)
  by_cases hc : cpE l a b d = 0
  rotate_left
  · have nd : decide (cpE l a b d = 0) = false := by simpa using hc
    simp only [f10, t10, Tr.val_test, Tr.val_fin, Tr.val_stop, g49, g12, g48, e1, e2, e3, eqF_eq, nd, decide_false, Option.isSome_some, Option.getD_some, Bool.not_false, ckK, ne_eq, hc, not_false_eq_true, ↓reduceIte]
  obtain ⟨hp, hL⟩ := cpE_ok hc
  obtain ⟨h0, hP⟩ := paE_ok hp
  obtain ⟨q1, q2, q3, _⟩ := liE_ok hL
  have s1 := l51e l hP a b d (by omega) (by omega) (by omega)
  have s2 := l51f l hP a b d (by omega) (by omega) (by omega)
  have s3 := l60b (sR l a b d l.length) (sW l a b d l.length)
  rw [hc] at e3
  have fin : ∀ K : Int × Int, ckK l a b d = K → f10 (l, (a, b, d, ()), ()) = some (K.1, K.2, ()) → f10 (l, (a, b, d, ()), ()) = some ((ckK l a b d).1, (ckK l a b d).2, ()) := fun K h1 h2 => by rw [h1]; exact h2
  by_cases h1 : sR l a b d l.length = 0
  · by_cases h2 : sW l a b d l.length = 0
    · have ck : ckK l a b d = (0, if flat l = true then 11 else 0) := by
        unfold ckK
        rw [if_neg (by simpa using hc), if_neg (by simpa using h1), if_neg (by simpa using h2)]
        cases flat l <;> rfl
      refine fin _ ck ?_
      rw [if_neg (by simpa using h1), if_neg (by simpa using h2)] at s3
      have k : f48 ([(0 : Int), if flat l = true then (11 : Int) else 0], ()) = some (if flat l = true then (11 : Int) else 0, ()) := f48_two' 0 _
      simp only [f10, t10, Tr.val_test, Tr.val_fin, Tr.val_stop, g49, g12, g48, g50, e1, e2, e3, e4, k, s1, s2, s3, isBrk, isRet, b51_0_4, b51_0_5, outB, eqF_eq, decide_true, Option.isSome_some, Option.getD_some, Bool.not_true, Bool.false_eq_true, ↓reduceIte]
    · have ck : ckK l a b d = (1, 19) := by
        unfold ckK
        rw [if_neg (by simpa using hc), if_neg (by simpa using h1), if_pos h2]
      refine fin _ ck ?_
      rw [if_neg (by simpa using h1), if_pos h2] at s3
      have k : f48 ([(19 : Int), if flat l = true then (11 : Int) else 0], ()) = some ((19 : Int), ()) := f48_two' 19 _
      simp only [f10, t10, Tr.val_test, Tr.val_fin, Tr.val_stop, g49, g12, g48, g50, e1, e2, e3, e4, k, s1, s2, s3, isBrk, isRet, b51_0_4, b51_0_5, r60_0_1, outB, outR, eqF_eq, decide_true, Option.isSome_some, Option.getD_some, Bool.not_true, Bool.false_eq_true, ↓reduceIte]
  · have ck : ckK l a b d = (0, 19) := by
      unfold ckK
      rw [if_neg (by simpa using hc), if_pos h1]
    refine fin _ ck ?_
    rw [if_pos h1] at s3
    have k : f48 ([(19 : Int), if flat l = true then (11 : Int) else 0], ()) = some ((19 : Int), ()) := f48_two' 19 _
    simp only [f10, t10, Tr.val_test, Tr.val_fin, Tr.val_stop, g49, g12, g48, g50, e1, e2, e3, e4, k, s1, s2, s3, isBrk, isRet, b51_0_4, b51_0_5, r60_0_1, outB, outR, eqF_eq, decide_true, Option.isSome_some, Option.getD_some, Bool.not_true, Bool.false_eq_true, ↓reduceIte]

/-! The reference's sums, of numbers of any size. -/

theorem dl3 {x : Int} (h : x.natAbs ≤ 100000000000000000000000000) : (dig x.natAbs).length ≤ 3 := dig_len (by simp only [pw]; omega)

theorem f69_step (l : List Pr) (h : Ps l) (a b d : Int) (ha : a.natAbs ≤ 300000000000) (hb : b.natAbs ≤ 300000000000) (hd : d.natAbs ≤ 300000000000) (i : Nat) (hi : i < l.length) :
    s69_0 ((l, (i : Int), ()), (a, b, d, ()), ((0 : Int), (0 : Int), ()), ((enc (sR l a b d i)).1, (enc (sR l a b d i)).2.1, (enc (sW l a b d i)).1, (enc (sW l a b d i)).2.1, ()), ()) =
      some (.again ((l, ((i + 1 : Nat) : Int), ()), (a, b, d, ()), ((0 : Int), (0 : Int), ()), ((enc (sR l a b d (i + 1))).1, (enc (sR l a b d (i + 1))).2.1, (enc (sW l a b d (i + 1))).1, (enc (sW l a b d (i + 1))).2.1, ()), ())) := by
  have hl := h.1
  obtain ⟨m1, m2, m3, m4⟩ := rst_bd h ha hb hd i
  have hx := (h.2 i).2
  have hy := (h.2 i).1
  have m5 := mulB m4 hx
  obtain ⟨r1, r2⟩ := sR_bd h ha hb hd (n := i) (by omega)
  have e1 := f98_eq a (by omega)
  have e2 := f98_eq (rw' l i) (by omega)
  have e3 := f98_eq b (by omega)
  have e4 := f98_eq d (by omega)
  have e5 := f98_eq (kn l i) (by omega)
  have d1 := dl3 (x := a) (by omega)
  have d2 := dl3 (x := rw' l i) (by omega)
  have d3 := dl3 (x := b) (by omega)
  have d4 := dl3 (x := d) (by omega)
  have d5 := dl3 (x := kn l i) (by omega)
  have d6 := dl3 (x := a * rw' l i) (by omega)
  have d7 := dl3 (x := a * rw' l i + b) (by omega)
  have d8 := dl3 (x := d * kn l i) (by omega)
  have d9 := dl3 (x := rst l a b d i) (by omega)
  have d10 := dl3 (x := rst l a b d i * rw' l i) (by omega)
  have d11 := dl3 (x := sR l a b d i) (by omega)
  have d12 := dl3 (x := sW l a b d i) (by omega)
  have k1 : f74 (((enc a).1, (enc a).2.1, ()), ((enc (rw' l i)).1, (enc (rw' l i)).2.1, ()), ()) = some (enc (a * rw' l i), ()) := f74_eq a (rw' l i) (by omega)
  have k2 : f97 (((enc (a * rw' l i)).1, (enc (a * rw' l i)).2.1, ()), ((enc b).1, (enc b).2.1, ()), ()) = some (enc (a * rw' l i + b), ()) := f97_eq _ b (by omega) (by omega)
  have k3 : f74 (((enc d).1, (enc d).2.1, ()), ((enc (kn l i)).1, (enc (kn l i)).2.1, ()), ()) = some (enc (d * kn l i), ()) := f74_eq d (kn l i) (by omega)
  have k4 : f96 (((enc (a * rw' l i + b)).1, (enc (a * rw' l i + b)).2.1, ()), ((enc (d * kn l i)).1, (enc (d * kn l i)).2.1, ()), ()) = some (enc (rst l a b d i), ()) := f96_eq _ _ (by omega) (by omega)
  have k5 : f97 (((enc (sR l a b d i)).1, (enc (sR l a b d i)).2.1, ()), ((enc (rst l a b d i)).1, (enc (rst l a b d i)).2.1, ()), ()) = some (enc (sR l a b d (i + 1)), ()) := f97_eq _ _ (by omega) (by omega)
  have k6 : f74 (((enc (rst l a b d i)).1, (enc (rst l a b d i)).2.1, ()), ((enc (rw' l i)).1, (enc (rw' l i)).2.1, ()), ()) = some (enc (rst l a b d i * rw' l i), ()) := f74_eq _ _ (by omega)
  have k7 : f97 (((enc (sW l a b d i)).1, (enc (sW l a b d i)).2.1, ()), ((enc (rst l a b d i * rw' l i)).1, (enc (rst l a b d i * rw' l i)).2.1, ()), ()) = some (enc (sW l a b d (i + 1)), ()) := f97_eq _ _ (by omega) (by omega)
  have n1 : (!decide ((l.length : Int) ≤ (i : Int))) = true := by simp; omega
  have n2 : (decide ((0 : Int) ≤ (i : Int)) && decide ((i : Int) < (l.length : Int))) = true := by simp; omega
  have ekn : (List.getD l i ((0 : Int), (0 : Int), ())).1 = kn l i := rfl
  have erw : (List.getD l i ((0 : Int), (0 : Int), ())).2.1 = rw' l i := rfl
  generalize kn l i = y at *
  generalize rw' l i = x at *
  simp only [s69_0, t69_0, Tr.val_test, Tr.val_fin, Tr.val_stop, leF_eq, Int.toNat_natCast, n1, n2, ekn, erw, wrap64_nat (show i ≤ 9223372036854775806 by omega), g98, e1, e2, e3, e4, e5, g74, g97, g96, k1, k2, k3, k4, k5, k6, k7, Option.isSome_some, Option.getD_some, ↓reduceIte]

theorem f69_eq (l : List Pr) (h : Ps l) (a b d : Int) (ha : a.natAbs ≤ 300000000000) (hb : b.natAbs ≤ 300000000000) (hd : d.natAbs ≤ 300000000000) :
    f69 (l, (a, b, d, ()), ()) = some ((((enc (sR l a b d l.length)).1, (enc (sR l a b d l.length)).2.1, ()), ((enc (sW l a b d l.length)).1, (enc (sW l a b d l.length)).2.1, ()), ()), ()) := by
  have hl := h.1
  have e0 : enc 0 = ((0 : Int), ([] : List Int), ()) := by simp [enc, dig]
  have key := itr_brk (step := s69_0) (fun i => ((l, (i : Int), ()), (a, b, d, ()), ((0 : Int), (0 : Int), ()), ((enc (sR l a b d i)).1, (enc (sR l a b d i)).2.1, (enc (sW l a b d i)).1, (enc (sW l a b d i)).2.1, ()), ())) (n := l.length) (m := rounds) (b := ((), (a, b, d, ()), ((0 : Int), (0 : Int), ()), ((enc (sR l a b d l.length)).1, (enc (sR l a b d l.length)).2.1, (enc (sW l a b d l.length)).1, (enc (sW l a b d l.length)).2.1, ()), ())) (fun i hi => f69_step l h a b d ha hb hd i hi) (by simp [s69_0, t69_0, leF_eq]) (lt_rounds (by omega))
  simp only [sR, sW, smP, e0] at key
  have key' : l69_0 ((l, (0 : Int), ()), (a, b, d, ()), ((0 : Int), (0 : Int), ()), ((0 : Int), ([] : List Int), (0 : Int), ([] : List Int), ()), ()) = _ := key
  simp only [f69, t69, Tr.val_test, Tr.val_fin, Tr.val_stop, key', isBrk, b69_0, outB, ↓reduceIte]

theorem f70_eq (x : Int) : f70 (((enc x).1, (enc x).2.1, ()), ()) = some (x.sign, ()) := rfl

theorem f17_eq (l : List Pr) (h : Ps l) (h0 : 0 < l.length) (a b d : Int) (ha : a.natAbs ≤ 300000000000) (hb : b.natAbs ≤ 300000000000) (hd : d.natAbs ≤ 300000000000) :
    f17 (l, (a, b, d, ()), ()) = some (if sR l a b d l.length ≠ 0 then ((0 : Int), (19 : Int), ()) else if sW l a b d l.length ≠ 0 then ((1 : Int), (19 : Int), ()) else if flat l = true then ((0 : Int), (11 : Int), ()) else ((0 : Int), (0 : Int), ())) := by
  have e1 := f69_eq l h a b d ha hb hd
  have e2 := f70_eq (sR l a b d l.length)
  have e3 := f70_eq (sW l a b d l.length)
  have e4 := f15_eq l (by have := h.1; omega) h0
  by_cases h1 : sR l a b d l.length = 0
  · have n1 : decide ((sR l a b d l.length).sign = 0) = true := by rw [h1]; rfl
    rw [if_neg (by simpa using h1)]
    by_cases h2 : sW l a b d l.length = 0
    · have n2 : decide ((sW l a b d l.length).sign = 0) = true := by rw [h2]; rfl
      rw [if_neg (by simpa using h2)]
      simp only [f17, t17, Tr.val_test, Tr.val_fin, Tr.val_stop, g69, e1, g70, e2, e3, g15, e4, eqF_eq, n1, n2, Option.isSome_some, Option.getD_some, Bool.not_true, Bool.false_eq_true, ↓reduceIte]
      cases flat l <;> rfl
    · have n2 : decide ((sW l a b d l.length).sign = 0) = false := by
        rw [decide_eq_false_iff_not]; intro q; exact h2 (Int.sign_eq_zero_iff_zero.1 q)
      rw [if_pos h2]
      simp only [f17, t17, Tr.val_test, Tr.val_fin, Tr.val_stop, g69, e1, g70, e2, e3, g15, e4, eqF_eq, n1, n2, Option.isSome_some, Option.getD_some, Bool.not_true, Bool.not_false, Bool.false_eq_true, ↓reduceIte]
  · have n1 : decide ((sR l a b d l.length).sign = 0) = false := by
      rw [decide_eq_false_iff_not]; intro q; exact h1 (Int.sign_eq_zero_iff_zero.1 q)
    rw [if_pos h1]
    simp only [f17, t17, Tr.val_test, Tr.val_fin, Tr.val_stop, g69, e1, g70, e2, e3, g15, e4, eqF_eq, n1, Option.isSome_some, Option.getD_some, Bool.not_false, Bool.false_eq_true, ↓reduceIte]

/-! Misfits. -/

def smE (a b d : Int) : Int := if (wi (-10000) 10000 a && (wi (-10000) 10000 b && wi (-10000) 10000 d)) = true then 0 else 8
def fr (x y : Int) : Int × Int × PUnit := (x.tdiv (Nat.gcd x.natAbs y.natAbs : Nat), y.tdiv (Nat.gcd x.natAbs y.natAbs : Nat), ())

theorem f65_eq (x y : Int) (hx : x.natAbs ≤ 9223372036854775807) (hy : y.natAbs ≤ 9223372036854775807) (h0 : y ≠ 0) : f65 (x, y, ()) = some (fr x y, ()) := by
  have e := f56_one y x hy hx
  rw [Nat.gcd_comm] at e
  have hg : Nat.gcd x.natAbs y.natAbs ≠ 0 := by
    have := Nat.gcd_pos_of_pos_right x.natAbs (show 0 < y.natAbs by omega)
    omega
  have hz : (((Nat.gcd x.natAbs y.natAbs : Nat) : Int) == (0 : Int)) = false := by
    rw [beq_eq_false_iff_ne]; omega
  have v1 : IntKind.wrap .i64 (x.tdiv (Nat.gcd x.natAbs y.natAbs : Nat)) = x.tdiv (Nat.gcd x.natAbs y.natAbs : Nat) := wrapK (by have := tdiv_le x (Nat.gcd x.natAbs y.natAbs); omega)
  have v2 : IntKind.wrap .i64 (y.tdiv (Nat.gcd x.natAbs y.natAbs : Nat)) = y.tdiv (Nat.gcd x.natAbs y.natAbs : Nat) := wrapK (by have := tdiv_le y (Nat.gcd x.natAbs y.natAbs); omega)
  simp only [f65, t65, Tr.val_test, Tr.val_fin, Tr.val_stop, g56, e, hz, v1, v2, Option.isSome_some, Option.getD_some, Bool.false_eq_true, ↓reduceIte]
  rfl

theorem f47_eq (x y : Int) (hx : x.natAbs ≤ 9223372036854775807) (hy : y.natAbs ≤ 9223372036854775807) (h0 : 0 < y) : f47 (x, y, ()) = some (fr x y, ()) := by
  have e := f67_eq x y hx hy
  have hg : Nat.gcd x.natAbs y.natAbs ≠ 0 := by
    have := Nat.gcd_pos_of_pos_right x.natAbs (show 0 < y.natAbs by omega)
    omega
  have hz : (((Nat.gcd x.natAbs y.natAbs : Nat) : Int) == (0 : Int)) = false := by
    rw [beq_eq_false_iff_ne]; omega
  have hle : leF (0 : Int) y = true := by rw [leF_eq]; simp; omega
  have v1 : IntKind.wrap .i64 (x.tdiv (Nat.gcd x.natAbs y.natAbs : Nat)) = x.tdiv (Nat.gcd x.natAbs y.natAbs : Nat) := wrapK (by have := tdiv_le x (Nat.gcd x.natAbs y.natAbs); omega)
  have v2 : IntKind.wrap .i64 (y.tdiv (Nat.gcd x.natAbs y.natAbs : Nat)) = y.tdiv (Nat.gcd x.natAbs y.natAbs : Nat) := wrapK (by have := tdiv_le y (Nat.gcd x.natAbs y.natAbs); omega)
  simp only [f47, t47, Tr.val_test, Tr.val_fin, Tr.val_stop, g67, e, hz, hle, v1, v2, Option.isSome_some, Option.getD_some, Bool.not_true, Bool.false_eq_true, ↓reduceIte]
  rfl

theorem f66_three (lo hi a b c : Int) : f66 (lo, hi, [a, b, c], ()) = some (wi lo hi a && (wi lo hi b && wi lo hi c), ()) := by
  rw [f66_eq lo hi _ (by simp)]
  simp only [first, List.length, List.getD_cons_zero, List.getD_cons_succ]
  by_cases h1 : wi lo hi a = true
  · by_cases h2 : wi lo hi b = true
    · by_cases h3 : wi lo hi c = true
      · simp [h1, h2, h3]
      · simp [h1, h2, h3]
    · simp [h1, h2]
  · simp [h1]

theorem f63_three (n a b c : Int) (h0 : 0 ≤ n) (h1 : n ≤ 9223372036854775807) : f63 (n, [a, b, c], ()) = some (!(wi (-n) n a && (wi (-n) n b && wi (-n) n c)), ()) := by
  have e := f66_three (-n) n a b c
  simp only [f63, t63, Tr.val_test, Tr.val_fin, Tr.val_stop, g66, wn64 (show -9223372036854775807 ≤ n by omega) h1, e, Option.isSome_some, Option.getD_some, if_true]

theorem firstThree (a b c : Int) : f48 ([a, b, c], ()) = some (if (if a ≠ 0 then a else b) ≠ 0 then (if a ≠ 0 then a else b) else c, ()) := by
  rw [f48_eq _ (by simp)]
  simp only [firstNZ]
  by_cases h : a = 0
  · by_cases h2 : b = 0
    · by_cases h3 : c = 0
      · simp [h, h2, h3]
      · simp [h, h2, h3]
    · simp [h, h2]
  · simp [h]

def miE (l : List Pr) (a b d : Int) : Int := if cpE l a b d ≠ 0 then cpE l a b d else smE a b d

theorem miE_ok {l : List Pr} {a b d : Int} (h : miE l a b d = 0) : cpE l a b d = 0 ∧ a.natAbs ≤ 10000 ∧ b.natAbs ≤ 10000 ∧ d.natAbs ≤ 10000 := by
  unfold miE at h
  split at h
  · exact absurd h (by assumption)
  · rename_i h1
    refine ⟨by simpa using h1, ?_⟩
    unfold smE at h
    split at h
    · rename_i h2
      simp only [Bool.and_eq_true, wi_iff] at h2
      omega
    · cases h

theorem f11_eq (l : List Pr) (a b d : Int) (h : l.length ≤ 1000) (ha : I64 a) (hb : I64 b) (hd : I64 d) : f11 (l, (a, b, d, ()), ()) = some (if miE l a b d ≠ 0 then (((0 : Int), (0 : Int), ()), miE l a b d, ()) else (fr (sQ l a b d l.length) (d * d), (0 : Int), ())) := by
  have e1 := f49_eq l (by omega)
  have e2 := f12_eq a b d ha hb hd
  have e3 := f63_three 10000 a b d (by omega) (by omega)
  have e4 := firstThree (paE l) (liE a b d) (if (!(wi (-10000) 10000 a && (wi (-10000) 10000 b && wi (-10000) 10000 d))) = true then (8 : Int) else 0)
  have es : (if (!(wi (-10000) 10000 a && (wi (-10000) 10000 b && wi (-10000) 10000 d))) = true then (8 : Int) else 0) = smE a b d := by
    unfold smE
    by_cases hq : (wi (-10000) 10000 a && (wi (-10000) 10000 b && wi (-10000) 10000 d)) = true
    · rw [if_pos hq, hq]; rfl
    · rw [if_neg hq, Bool.eq_false_iff.2 hq]; rfl
  rw [es] at e4
  change f48 ([paE l, liE a b d, smE a b d], ()) = some (miE l a b d, ()) at e4
  by_cases hc : miE l a b d = 0
  rotate_left
  · have nd : decide (miE l a b d = 0) = false := by simpa using hc
    simp only [f11, t11, Tr.val_test, Tr.val_fin, Tr.val_stop, g49, g12, g63, g62, g48, e1, e2, e3, f62_eq, es, e4, eqF_eq, nd, decide_false, Option.isSome_some, Option.getD_some, Bool.not_false, ne_eq, hc, not_false_eq_true, ↓reduceIte]
  obtain ⟨hk, q1, q2, q3⟩ := miE_ok hc
  obtain ⟨hp, hL⟩ := cpE_ok hk
  obtain ⟨h0, hP⟩ := paE_ok hp
  obtain ⟨p1, _⟩ := liE_ok hL
  have s1 := l51g l hP a b d q1 q2 q3
  have bq := sQ_bd hP q1 q2 q3 hP.1
  have md := mulB q3 q3
  have w : wrap64 (d * d) = d * d := wrap64_id (by omega) (by omega)
  have hdd := sq_pos (a := d) (by omega)
  have e5 := f65_eq (sQ l a b d l.length) (d * d) (by omega) (by omega) (by omega)
  rw [hc] at e4
  simp only [f11, t11, Tr.val_test, Tr.val_fin, Tr.val_stop, g49, g12, g63, g62, g48, e1, e2, e3, f62_eq, es, e4, eqF_eq, decide_true, s1, isBrk, b51_0_6, outB, w, g65, e5, Option.isSome_some, Option.getD_some, Bool.not_true, Bool.false_eq_true, ne_eq, hc, not_true_eq_false, ↓reduceIte]

theorem l19 (l : List Pr) (h : Ps l) (a b d : Int) (ha : a.natAbs ≤ 10000) (hb : b.natAbs ≤ 10000) (hd : d.natAbs ≤ 10000) :
    l19_0 ((l, (0 : Int), (0 : Int), ()), (a, b, d, ()), ((0 : Int), (0 : Int), ()), ()) = some (.inl ((sQ l a b d l.length, ()), (a, b, d, ()), ((0 : Int), (0 : Int), ()), ())) := by
  have hl := h.1
  refine itr_brk (fun i => ((l, sQ l a b d i, (i : Int), ()), (a, b, d, ()), ((0 : Int), (0 : Int), ()), ())) (n := l.length) ?_ ?_ (lt_rounds (by omega))
  · intro i hi
    obtain ⟨m1, m2, m3, m4⟩ := rst_bd h ha hb hd i
    have := sQ_bd h ha hb hd (n := i + 1) (by omega)
    have m := mulB m4 m4
    have w0 : wrap64 (rst l a b d i * rst l a b d i) = rst l a b d i * rst l a b d i := wrap64_id (by omega) (by omega)
    have w : wrap64 (sQ l a b d i + rst l a b d i * rst l a b d i) = sQ l a b d (i + 1) := wrap64_id (by simp only [sQ, smP] at *; omega) (by simp only [sQ, smP] at *; omega)
    have v1 : wrap64 (a * rw' l i) = a * rw' l i := wrap64_id (by omega) (by omega)
    have v2 : wrap64 (a * rw' l i + b) = a * rw' l i + b := wrap64_id (by omega) (by omega)
    have v3 : wrap64 (d * kn l i) = d * kn l i := wrap64_id (by omega) (by omega)
    have v4 : wrap64 (a * rw' l i + b - d * kn l i) = rst l a b d i := wrap64_id (by unfold rst at m4; omega) (by unfold rst at m4; omega)
    have ekn : (List.getD l i ((0 : Int), (0 : Int), ())).1 = kn l i := rfl
    have erw : (List.getD l i ((0 : Int), (0 : Int), ())).2.1 = rw' l i := rfl
    simp only [s19_0, t19_0, Tr.val_test, Tr.val_fin, Tr.val_stop, leF_eq, Int.toNat_natCast, wrap64_nat (show i ≤ 9223372036854775806 by omega), ekn, erw, v1, v2, v3, v4, w0, w]
    rw [if_pos (by simp; omega), if_pos (by simp; omega)]
  · simp [s19_0, t19_0, leF_eq]

theorem f19_eq (l : List Pr) (h : Ps l) (a b d : Int) (ha : a.natAbs ≤ 10000) (hb : b.natAbs ≤ 10000) (hd : d.natAbs ≤ 10000) (h0 : d ≠ 0) : f19 (l, (a, b, d, ()), ()) = some (fr (sQ l a b d l.length) (d * d), ()) := by
  have bq := sQ_bd h ha hb hd h.1
  have md := mulB hd hd
  have w : wrap64 (d * d) = d * d := wrap64_id (by omega) (by omega)
  have hdd := sq_pos (a := d) h0
  have e5 := f47_eq (sQ l a b d l.length) (d * d) (by omega) (by omega) (by omega)
  simp only [f19, t19, Tr.val_test, Tr.val_fin, Tr.val_stop, l19 l h a b d ha hb hd, isBrk, b19_0, outB, w, g47, e5, Option.isSome_some, Option.getD_some, ↓reduceIte]

theorem f18_eq (a b d : Int) (h : liE a b d = 0) : f18 ((a, b, d, ()), ()) = some (smE a b d, ()) := by
  obtain ⟨q1, q2, q3, _⟩ := liE_ok h
  have e1 := f21_abs a (by omega)
  have e2 := f21_abs b (by omega)
  simp only [f18, t18, Tr.val_test, Tr.val_fin, Tr.val_stop, g21, e1, e2, leF_eq, Option.isSome_some, Option.getD_some, if_true, smE]
  by_cases h1 : (a.natAbs : Int) ≤ 10000
  · have w1 : wi (-10000) 10000 a = true := wi_iff.2 (by omega)
    by_cases h2 : (b.natAbs : Int) ≤ 10000
    · have w2 : wi (-10000) 10000 b = true := wi_iff.2 (by omega)
      by_cases h3 : d ≤ 10000
      · have w3 : wi (-10000) 10000 d = true := wi_iff.2 (by omega)
        simp only [h1, h2, h3, w1, w2, w3, decide_true, Bool.not_true, Bool.false_eq_true, Bool.and_self, if_false, if_true]
      · have w3 : wi (-10000) 10000 d = false := Bool.eq_false_iff.2 fun q => by have := wi_iff.1 q; omega
        simp only [h1, h2, h3, w1, w2, w3, decide_true, decide_false, Bool.not_true, Bool.not_false, Bool.false_eq_true, Bool.and_false, Bool.and_self, if_false, if_true]
    · have w2 : wi (-10000) 10000 b = false := Bool.eq_false_iff.2 fun q => by have := wi_iff.1 q; omega
      simp only [h1, h2, w1, w2, decide_true, decide_false, Bool.not_true, Bool.not_false, Bool.false_eq_true, Bool.and_false, Bool.false_and, if_false, if_true]
  · have w1 : wi (-10000) 10000 a = false := Bool.eq_false_iff.2 fun q => by have := wi_iff.1 q; omega
    simp only [h1, w1, decide_false, Bool.not_false, Bool.false_eq_true, Bool.false_and, if_false, if_true]

/-! The law. -/

theorem zz : ((0 : Int) == (0 : Int)) = true := rfl

theorem f3_eq (l : List Pr) (a b d : Int) (hI : ∀ i, I64 (kn l i) ∧ I64 (rw' l i)) (ha : I64 a) (hb : I64 b) (hd : I64 d) : f3 (l, (a, b, d, ()), ()) = some (true, ()) := by
  by_cases hl : (l.length : Int) ≤ 12
  rotate_left
  · have e0 : f7 (l, ()) = some (false, ()) := by simp only [f7, t7, Tr.val_fin, leF_eq, hl, decide_false]
    simp only [f3, t3, Tr.val_test, Tr.val_fin, Tr.val_stop, g7, e0, Option.isSome_some, Option.getD_some, Bool.not_false, ↓reduceIte]
  have e0 : f7 (l, ()) = some (true, ()) := by simp only [f7, t7, Tr.val_fin, leF_eq, hl, decide_true]
  have hl' : l.length ≤ 12 := by omega
  have e1 := f9_eq l (by omega)
  have e2 := f8_eq l (by omega)
  have e3 := f10_eq l a b d (by omega) ha hb hd
  have e4 := f11_eq l a b d (by omega) ha hb hd
  have e5 := f12_eq a b d ha hb hd
  have e6 := f13_eq a b d
  have e7 := f14_eq l hI
  by_cases hp : paE l = 0
  rotate_left
  · have np : decide (paE l = 0) = false := by simpa using hp
    have c1 : caE l = paE l := if_pos hp
    have c2 : cpE l a b d = paE l := if_pos hp
    have c3 : ckK l a b d = (0, paE l) := by unfold ckK; rw [c2, if_pos hp]
    have c4 : miE l a b d = paE l := by unfold miE; rw [c2, if_pos hp]
    rw [c1, if_pos hp] at e2
    rw [c3] at e3
    rw [c4, if_pos hp] at e4
    simp only [f3, t3, Tr.val_test, Tr.val_fin, Tr.val_stop, g7, e0, g9, e1, g8, e2, g10, e3, g11, e4, g12, e5, g13, e6, g14, e7, eqF_eq, np, zz, decide_true, Option.isSome_some, Option.getD_some, Bool.not_true, Bool.not_false, Bool.false_eq_true, Bool.and_self, ↓reduceIte]
  obtain ⟨h0, hP⟩ := paE_ok hp
  have e8 := f15_eq l (by omega) h0
  rw [hp] at e7
  have c2 : cpE l a b d = liE a b d := if_neg (by simpa using hp)
  -- what the line gives
  have tail : ∀ (r2 : Int × Int × Int × PUnit) , (if (!decide (liE a b d = 0)) = true then
        if decide ((ckK l a b d).2 = liE a b d) = true then
          if decide ((if miE l a b d ≠ 0 then (((0 : Int), (0 : Int), ()), miE l a b d, ()) else (fr (sQ l a b d l.length) (d * d), (0 : Int), ())).2.1 = liE a b d) = true then
            if decide ((ckK l a b d).1 = 0) = true then some (((if miE l a b d ≠ 0 then (((0 : Int), (0 : Int), ()), miE l a b d, ()) else (fr (sQ l a b d l.length) (d * d), (0 : Int), ())).1.1 == (0 : Int)) && (((if miE l a b d ≠ 0 then (((0 : Int), (0 : Int), ()), miE l a b d, ()) else (fr (sQ l a b d l.length) (d * d), (0 : Int), ())).1.2.1 == (0 : Int)) && true), ())
            else some (false, ())
          else some (false, ())
        else some (false, ())
      else if Option.isSome (f17 (l, (a, b, d, ()), ())) = true then
        if (!decide ((ckK l a b d).2 = (g17 (l, (a, b, d, ()), ())).2.1)) = true then some (false, ())
        else if (!decide ((ckK l a b d).1 = (g17 (l, (a, b, d, ()), ())).1)) = true then some (false, ())
        else if Option.isSome (f18 ((a, b, d, ()), ())) = true then
          if (!decide ((g18 ((a, b, d, ()), ())).1 = 0)) = true then
            if decide ((if miE l a b d ≠ 0 then (((0 : Int), (0 : Int), ()), miE l a b d, ()) else (fr (sQ l a b d l.length) (d * d), (0 : Int), ())).2.1 = (g18 ((a, b, d, ()), ())).1) = true then some (((if miE l a b d ≠ 0 then (((0 : Int), (0 : Int), ()), miE l a b d, ()) else (fr (sQ l a b d l.length) (d * d), (0 : Int), ())).1.1 == (0 : Int)) && (((if miE l a b d ≠ 0 then (((0 : Int), (0 : Int), ()), miE l a b d, ()) else (fr (sQ l a b d l.length) (d * d), (0 : Int), ())).1.2.1 == (0 : Int)) && true), ())
            else some (false, ())
          else if decide ((if miE l a b d ≠ 0 then (((0 : Int), (0 : Int), ()), miE l a b d, ()) else (fr (sQ l a b d l.length) (d * d), (0 : Int), ())).2.1 = 0) = true then
            if Option.isSome (f19 (l, (a, b, d, ()), ())) = true then some (((if miE l a b d ≠ 0 then (((0 : Int), (0 : Int), ()), miE l a b d, ()) else (fr (sQ l a b d l.length) (d * d), (0 : Int), ())).1.1 == (g19 (l, (a, b, d, ()), ())).1.1) && (((if miE l a b d ≠ 0 then (((0 : Int), (0 : Int), ()), miE l a b d, ()) else (fr (sQ l a b d l.length) (d * d), (0 : Int), ())).1.2.1 == (g19 (l, (a, b, d, ()), ())).1.2.1) && true), ())
            else none
          else some (false, ())
        else none
      else none) = some (true, ()) := by
    intro r2
    by_cases hL : liE a b d = 0
    · obtain ⟨q1, q2, q3, _⟩ := liE_ok hL
      have e9 := f17_eq l hP h0 a b d (by omega) (by omega) (by omega)
      have e10 := f18_eq a b d hL
      have k1 : (ckK l a b d).2 = ((if sR l a b d l.length ≠ 0 then ((0 : Int), (19 : Int), ()) else if sW l a b d l.length ≠ 0 then ((1 : Int), (19 : Int), ()) else if flat l = true then ((0 : Int), (11 : Int), ()) else ((0 : Int), (0 : Int), ())) : Int × Int × PUnit).2.1 := by
        unfold ckK; rw [c2, if_neg (by simpa using hL)]
        split
        · rfl
        · split
          · rfl
          · split <;> rfl
      have k2 : (ckK l a b d).1 = ((if sR l a b d l.length ≠ 0 then ((0 : Int), (19 : Int), ()) else if sW l a b d l.length ≠ 0 then ((1 : Int), (19 : Int), ()) else if flat l = true then ((0 : Int), (11 : Int), ()) else ((0 : Int), (0 : Int), ())) : Int × Int × PUnit).1 := by
        unfold ckK; rw [c2, if_neg (by simpa using hL)]
        split
        · rfl
        · split
          · rfl
          · split <;> rfl
      have c4 : miE l a b d = smE a b d := by unfold miE; rw [c2, if_neg (by simpa using hL)]
      rw [c4]
      simp only [hL, decide_true, Bool.not_true, Bool.false_eq_true, ↓reduceIte, g17, e9, g18, e10, Option.isSome_some, Option.getD_some, ← k1, ← k2]
      by_cases hs : smE a b d = 0
      · have hk := miE_ok (l := l) (a := a) (b := b) (d := d) (by rw [c4]; exact hs)
        have e11 := f19_eq l hP a b d hk.2.1 hk.2.2.1 hk.2.2.2 (by omega)
        simp only [hs, decide_true, Bool.not_true, Bool.false_eq_true, ne_eq, not_true_eq_false, ↓reduceIte, g19, e11, Option.isSome_some, Option.getD_some, beq_self_eq_true, Bool.and_self]
      · have ns : decide (smE a b d = 0) = false := by simpa using hs
        simp only [hs, ns, decide_true, decide_false, Bool.not_false, Bool.false_eq_true, ne_eq, not_false_eq_true, ↓reduceIte, zz, Bool.and_self]
    · have nL : decide (liE a b d = 0) = false := by simpa using hL
      have c3 : ckK l a b d = (0, liE a b d) := by unfold ckK; rw [c2, if_pos hL]
      have c4 : miE l a b d = liE a b d := by unfold miE; rw [c2, if_pos hL]
      rw [c3, c4]
      simp only [hL, nL, decide_true, decide_false, Bool.not_false, Bool.false_eq_true, ne_eq, not_false_eq_true, ↓reduceIte, zz, Bool.and_self]
  by_cases hf : flat l = true
  · have c1 : caE l = 11 := by unfold caE; rw [if_neg (by simpa using hp), if_pos hf]
    rw [c1, if_pos (by decide)] at e2
    rw [hf] at e8
    simp only [f3, t3, Tr.val_test, Tr.val_fin, Tr.val_stop, g7, e0, g9, e1, g8, e2, g10, e3, g11, e4, g12, e5, g13, e6, g14, e7, g15, e8, eqF_eq, zz, decide_true, Option.isSome_some, Option.getD_some, Bool.not_true, Bool.not_false, Bool.false_eq_true, Bool.and_self, ↓reduceIte]
    exact tail (0, 0, 0, ())
  · have hf' : flat l = false := Bool.eq_false_iff.2 hf
    have c1 : caE l = 0 := by unfold caE; rw [if_neg (by simpa using hp), if_neg hf]
    rw [c1, if_neg (by decide)] at e2
    rw [hf'] at e8
    have e12 := f16_eq l hP hf'
    simp only [f3, t3, Tr.val_test, Tr.val_fin, Tr.val_stop, g7, e0, g9, e1, g8, e2, g10, e3, g11, e4, g12, e5, g13, e6, g14, e7, g15, e8, g16, e12, eqF_eq, beq_self_eq_true, decide_true, Option.isSome_some, Option.getD_some, Bool.not_true, Bool.not_false, Bool.false_eq_true, Bool.and_self, ↓reduceIte]
    exact tail (0, 0, 0, ())

theorem law3 (d : Tys.data as3) (hw : Tys.Wf as3 d) : Pure1 Go.Proofs.Tryz.prog 3 as3 [.bool] d (true, ()) := by
  have hI : ∀ i, I64 (kn d.1 i) ∧ I64 (rw' d.1 i) := by
    intro i
    by_cases hi : i < List.length d.1
    · have hm : pA d.1 i ∈ (show List Pr from d.1) := by simp [pA, List.getD, hi]
      have := hw.1.2 _ hm
      exact ⟨this.1, this.2.1⟩
    · have : pA d.1 i = (0, 0, ()) := by simp [pA, List.getD, List.getElem?_eq_none (Nat.le_of_not_lt hi)]
      simp only [kn, rw', this, I64]
      omega
  have h := f3_eq d.1 d.2.1.1 d.2.1.2.1 d.2.1.2.2.1 hI hw.2.1.1 hw.2.1.2.1 hw.2.1.2.2.1
  have hp : p3.pre d = true := by
    show Option.isSome (f3 d) = true
    rw [show f3 d = some (true, ()) from h]; rfl
  have hg : p3.fn d = (true, ()) := by
    show (f3 d).getD _ = _
    rw [show f3 d = some (true, ()) from h]; rfl
  have := ok3.runs d hp
  rw [hg] at this
  exact this

end Go.Vm.Mo
