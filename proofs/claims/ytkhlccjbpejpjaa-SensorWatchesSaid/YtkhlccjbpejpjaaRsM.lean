import Derived.Test.YtkhlccjbpejpjaaRsFb
import Derived.Test.YtkhlccjbpejpjaaA4
set_option linter.unusedVariables false
set_option linter.unusedSimpArgs false

namespace Go.Vm.Mo
open Go
set_option linter.unusedVariables false
set_option linter.unusedSimpArgs false

theorem first_map (bad : Nat → Bool) : ∀ (n i : Nat), first bad n (i + 1) = (first (fun k => bad (k + 1)) n i).map (· + 1)
  | 0, _ => rfl
  | n + 1, i => by
    simp only [first]
    split
    · rfl
    · exact first_map bad n (i + 1)

/-- The first that is not 0. -/
def firstNZ : List Int → Int
  | [] => 0
  | a :: l => if a = 0 then firstNZ l else a

theorem firstNZ_eq : ∀ l : List Int, (match first (fun i => !decide (l.getD i 0 = 0)) l.length 0 with
    | some k => l.getD k 0
    | none => 0) = firstNZ l
  | [] => rfl
  | a :: l => by
    simp only [List.length, first, firstNZ]
    by_cases ha : a = 0
    · subst ha
      have e := firstNZ_eq l
      have hf : first (fun i => !decide (((0 : Int) :: l).getD i 0 = 0)) l.length (0 + 1) = (first (fun i => !decide (l.getD i 0 = 0)) l.length 0).map (· + 1) := by
        rw [first_map]; rfl
      simp only [hf, List.getD_cons_zero, decide_true, Bool.not_true, Bool.false_eq_true, if_false, if_true]
      rw [← e]
      cases first (fun i => !decide (l.getD i 0 = 0)) l.length 0 with
      | none => rfl
      | some k => rfl
    · simp [ha]

theorem l88 (l : List Int) (h : l.length ≤ 1000000000) : l88_0 ((l, (l.length : Int), (0 : Int), ()), ()) = match first (fun i => !decide (l.getD i 0 = 0)) l.length 0 with
    | some k => some (.inr ((l.getD k 0, ()), ()))
    | none => some (.inl ((), ())) := by
  refine itr_search (fun i => ((l, (l.length : Int), (i : Int), ()), ())) (fun i => !decide (l.getD i 0 = 0)) (fun k => ((l.getD k 0, ()), ())) (n := l.length) ?_ ?_ (lt_rounds (by omega))
  · intro i hi
    simp only [s88_0, t88_0, Tr.val_test, leF_eq, eqF_eq]
    rw [if_pos (by simp; omega), if_pos (by simp; omega)]
    simp only [Int.toNat_natCast, wrap64_nat (show i ≤ 9223372036854775806 by omega)]
    rfl
  · simp [s88_0, t88_0, leF_eq]

theorem f88_eq (l : List Int) (h : l.length ≤ 1000000000) : f88 (l, ()) = some (firstNZ l, ()) := by
  simp only [f88, t88, Tr.val_test, r88_0, l88 l h, ← firstNZ_eq l]
  cases first (fun i => !decide (l.getD i 0 = 0)) l.length 0 with
  | none => rfl
  | some k => rfl

theorem f86_eq (d : Tys.data as86) : f86 d = some (if d.1 = true then d.2.1 else (0 : Int), ()) := by
  simp only [f86, t86, Tr.val_test]
  split <;> rfl

def wi (lo hi x : Int) : Bool := decide (lo ≤ x) && decide (x ≤ hi)

theorem wi_iff {lo hi x : Int} : wi lo hi x = true ↔ lo ≤ x ∧ x ≤ hi := by simp [wi]

theorem f22_eq (d : Tys.data as22) : f22 d = some (wi d.2.1 d.2.2.1 d.1, ()) := by
  simp only [f22, t22, Tr.val_test, Tr.val_fin, leF_eq, decide_eq_true_eq, wi]
  split <;> simp [*]

theorem l100 (lo hi : Int) (l : List Int) (h : l.length ≤ 1000000000) : l100_0 ((lo, hi, l, (l.length : Int), (0 : Int), ()), ()) = match first (fun i => !wi lo hi (l.getD i 0)) l.length 0 with
    | some _ => some (.inr ((false, ()), ()))
    | none => some (.inl ((), ())) := by
  refine itr_search (fun i => ((lo, hi, l, (l.length : Int), (i : Int), ()), ())) (fun i => !wi lo hi (l.getD i 0)) (fun _ => ((false, ()), ())) (n := l.length) ?_ ?_ (lt_rounds (by omega))
  · intro i hi'
    simp only [s100_0, t100_0, Tr.val_test, Tr.val_fin, leF_eq, Int.toNat_natCast, wrap64_nat (show i ≤ 9223372036854775806 by omega)]
    rw [if_pos (by simp; omega), if_pos (by simp; omega)]
    by_cases a0 : lo ≤ l.getD i 0
    · by_cases a1 : l.getD i 0 ≤ hi
      · simp only [wi, a0, a1, decide_true, Bool.and_self, Bool.not_true, if_true, if_false, Bool.false_eq_true]
      · simp only [wi, a0, a1, decide_true, decide_false, Bool.and_false, Bool.not_false, Bool.not_true, if_true, if_false, Bool.false_eq_true]
    · simp only [wi, a0, decide_false, Bool.false_and, Bool.not_false, if_true, if_false, Bool.false_eq_true]
  · simp [s100_0, t100_0, leF_eq]

theorem f100_eq (lo hi : Int) (l : List Int) (h : l.length ≤ 1000000000) : f100 (lo, hi, l, ()) = some ((first (fun i => !wi lo hi (l.getD i 0)) l.length 0).isNone, ()) := by
  have hl := l100 lo hi l h
  cases hf : first (fun i => !wi lo hi (l.getD i 0)) l.length 0 with
  | none =>
    rw [hf] at hl
    simp only [f100, t100, Tr.val_test, Tr.val_fin, hl, isRet, Option.isSome_some, Option.isNone_none, if_true, Bool.false_eq_true, if_false]
  | some k =>
    rw [hf] at hl
    simp only [f100, t100, Tr.val_test, Tr.val_fin, hl, isRet, r100_0, outR, Option.isSome_some, Option.isNone_some, if_true]

theorem f100_one (lo hi a : Int) : f100 (lo, hi, [a], ()) = some (wi lo hi a, ()) := by
  rw [f100_eq lo hi _ (by simp)]
  simp only [first, List.length, List.getD_cons_zero]
  by_cases h1 : wi lo hi a = true
  · simp [h1]
  · simp [h1]

theorem f83_eq (n m : Int) : f83 (n, m, ()) = some (if n = 0 then 10 else if ¬ n ≤ m then 8 else 0, ()) := by
  simp only [f83, t83, Tr.val_test, Tr.val_fin, g86, g88, f86_eq, Option.isSome_some, Option.getD_some, if_true]
  rw [f88_eq _ (by simp)]
  simp only [Option.isSome_some, Option.getD_some, if_true, eqF_eq, leF_eq, decide_eq_true_eq, Bool.not_eq_true', decide_eq_false_iff_not, firstNZ]
  by_cases h1 : n = 0
  · simp [h1]
  · by_cases h2 : n ≤ m
    · simp [h1, h2]
    · simp [h1, h2]

theorem q35_0 (l : List Int) (h : l.length ≤ 1000000) : l35_0 ((l, l, (0 : Int), ()), ()) = some (.inl ((), ())) := by
  refine itr_brk (fun i => ((l, l, (i : Int), ()), ())) (n := l.length) ?_ ?_ (lt_rounds (by omega))
  · intro i hi
    simp only [s35_0, t35_0, Tr.val_test, Tr.val_fin, Tr.val_stop, leF_eq, eqF_eq, Int.toNat_natCast, wrap64_nat (show i ≤ 9223372036854775806 by omega)]
    rw [if_pos (by simp; omega), if_pos (by simp; omega), if_pos (by simp; omega)]
    simp
  · simp [s35_0, t35_0, leF_eq]

theorem f35_self (l : List Int) (h : l.length ≤ 1000000) : f35 (l, l, ()) = some (true, ()) := by
  simp only [f35, t35, Tr.val_test, Tr.val_fin, Tr.val_stop, q35_0 l h, isRet, eqF_eq, decide_true, Bool.not_true, Bool.false_eq_true, if_false, Option.isSome_some, if_true]

theorem f14_eq (l : List Int) (h : l.length ≤ 1000) : f14 (l, ()) = some (l, ()) := by
  simp only [f14, t14, Tr.val_test, Tr.val_fin, Tr.val_stop, List.nil_append]
  by_cases h0 : l.length = 0
  · have : l = [] := List.eq_nil_of_length_eq_zero h0
    subst this; rfl
  · rw [if_neg (by rw [beq_eq_true']; exact h0), if_neg (by rw [ble_eq_true']; omega), if_pos (by simp only [Bool.and_eq_true, ble_eq_true']; omega), if_pos (by rw [beq_eq_true']; omega)]

def rawF (l : List Int) : Option Nat := first (fun i => !wi (-100000) 100000 (l.getD i 0)) l.length 0
def rawK (l : List Int) : Int × Int := if l.length = 0 then (0, 10) else if 60 < l.length then (0, 8) else match rawF l with
  | some k => ((k : Int), 2)
  | none => (0, 0)
def rawE (l : List Int) : Int := (rawK l).2

theorem wn64 {x : Int} (h1 : -9223372036854775807 ≤ x) (h2 : x ≤ 9223372036854775807) : IntKind.wrap .i64 (0 - x) = -x := by
  rw [← wrap64_eq, wrap64_id (by omega) (by omega)]
  omega

theorem f87_one (b x : Int) (h0 : 0 ≤ b) (h1 : b ≤ 9223372036854775807) : f87 (b, [x], ()) = some (!wi (-b) b x, ()) := by
  have e := f100_one (-b) b x
  simp only [f87, t87, Tr.val_test, Tr.val_fin, g100, wn64 (show -9223372036854775807 ≤ b by omega) h1, e, Option.isSome_some, Option.getD_some, if_true]

theorem l84 (l : List Int) (h : l.length ≤ 1000000000) : l84_0 ((l, (l.length : Int), (0 : Int), ()), ()) = match rawF l with
    | some k => some (.inr (((k : Int), (2 : Int), ()), ()))
    | none => some (.inl ((), ())) := by
  refine itr_search (fun i => ((l, (l.length : Int), (i : Int), ()), ())) (fun i => !wi (-100000) 100000 (l.getD i 0)) (fun k => (((k : Int), (2 : Int), ()), ())) (n := l.length) ?_ ?_ (lt_rounds (by omega))
  · intro i hi
    simp only [s84_0, t84_0, Tr.val_test, Tr.val_fin, Tr.val_stop, leF_eq, eqF_eq, Int.toNat_natCast, wrap64_nat (show i ≤ 9223372036854775806 by omega)]
    rw [if_pos (by simp; omega), if_pos (by simp; omega)]
    have e := f87_one 100000 (l.getD i 0) (by omega) (by omega)
    simp only [g87, g86, e, f86_eq, Option.isSome_some, Option.getD_some, if_true]
    cases wi (-100000) 100000 (l.getD i 0) <;> simp
  · simp [s84_0, t84_0, leF_eq]

theorem f13_eq (l : List Int) : f13 (l, ()) = some ((rawK l).1, (rawK l).2, ()) := by
  have e0 := f83_eq (l.length : Int) 60
  simp only [f13, t13, Tr.val_test, Tr.val_fin, Tr.val_stop, g83, e0, Option.isSome_some, Option.getD_some, if_true, eqF_eq, rawK]
  by_cases h1 : l.length = 0
  · simp [h1]
  · by_cases h2 : 60 < l.length
    · have e1 : ¬ (l.length : Int) = 0 := by omega
      have e2 : ¬ (l.length : Int) ≤ 60 := by omega
      simp [h1, h2, e1, e2]
    · have e1 : ¬ (l.length : Int) = 0 := by omega
      have e2 : (l.length : Int) ≤ 60 := by omega
      have hl := l84 l (by omega)
      simp only [h1, h2, e1, e2, not_true_eq_false, if_false, decide_true, Bool.not_true, Bool.false_eq_true]
      cases hf : rawF l with
      | none =>
        rw [hf] at hl
        simp only [hl, isRet, Option.isSome_some, if_true, Bool.false_eq_true, if_false]
      | some k =>
        rw [hf] at hl
        simp only [hl, isRet, r84_0, outR, Option.isSome_some, if_true]

theorem f90_eq (l : List Int) : f90 (l, ()) = some (rawE l, ()) := by
  have e := f13_eq l
  simp only [f90, t90, Tr.val_test, Tr.val_fin, Tr.val_stop, g13, e, Option.isSome_some, Option.getD_some, if_true, rawE]

theorem l19 (l : List Int) (h : l.length ≤ 1000000000) : l19_0 ((l, (0 : Int), ()), ()) = match rawF l with
    | some k => some (.inr (((k : Int), (2 : Int), ()), ()))
    | none => some (.inl ((), ())) := by
  refine itr_search (fun i => ((l, (i : Int), ()), ())) (fun i => !wi (-100000) 100000 (l.getD i 0)) (fun k => (((k : Int), (2 : Int), ()), ())) (n := l.length) ?_ ?_ (lt_rounds (by omega))
  · intro i hi
    simp only [s19_0, t19_0, Tr.val_test, Tr.val_fin, Tr.val_stop, leF_eq, eqF_eq, Int.toNat_natCast, wrap64_nat (show i ≤ 9223372036854775806 by omega)]
    rw [if_pos (by simp; omega), if_pos (by simp; omega)]
    simp only [g22, f22_eq, Option.isSome_some, Option.getD_some, if_true]
  · simp [s19_0, t19_0, leF_eq]

theorem f19_eq (l : List Int) : f19 (l, ()) = some ((rawK l).1, (rawK l).2, ()) := by
  simp only [f19, t19, Tr.val_test, Tr.val_fin, Tr.val_stop, eqF_eq, leF_eq, rawK]
  by_cases h1 : l.length = 0
  · simp [h1]
  · by_cases h2 : 60 < l.length
    · have e1 : ¬ (l.length : Int) = 0 := by omega
      have e2 : ¬ (l.length : Int) ≤ 60 := by omega
      simp [h1, h2, e1, e2]
    · have e1 : ¬ (l.length : Int) = 0 := by omega
      have e2 : (l.length : Int) ≤ 60 := by omega
      have hl := l19 l (by omega)
      simp only [h1, h2, e1, e2, if_false, decide_true, decide_false, Bool.not_true, Bool.false_eq_true]
      cases hf : rawF l with
      | none =>
        rw [hf] at hl
        simp only [hl, isRet, Option.isSome_some, if_true, Bool.false_eq_true, if_false]
      | some k =>
        rw [hf] at hl
        simp only [hl, isRet, r19_0, outR, Option.isSome_some, if_true]

theorem f34_eq (l : List Int) : f34 (l, ()) = some (rawE l, ()) := by
  have e := f19_eq l
  simp only [f34, t34, Tr.val_test, Tr.val_fin, Tr.val_stop, g19, e, Option.isSome_some, Option.getD_some, if_true, rawE]

theorem rawE_ok {l : List Int} (h : rawE l = 0) : 0 < l.length ∧ l.length ≤ 60 ∧ ∀ i, -100000 ≤ l.getD i 0 ∧ l.getD i 0 ≤ 100000 := by
  unfold rawE rawK at h
  split at h
  · cases h
  · split at h
    · cases h
    · refine ⟨by omega, by omega, fun i => ?_⟩
      cases hf : rawF l with
      | some k => rw [hf] at h; cases h
      | none =>
        by_cases hi : i < l.length
        · have := first_none hf i (Nat.zero_le _) (by omega)
          have : wi (-100000) 100000 (l.getD i 0) = true := by simpa using this
          rwa [wi_iff] at this
        · have : l.getD i 0 = 0 := by simp [List.getD, List.getElem?_eq_none (Nat.le_of_not_lt hi)]
          omega

/-! Channels. -/

abbrev ch (c : List (List Int)) (i : Nat) : List Int := c.getD i []

def csE (n : Int) (r : List Int) : Int := if rawE r ≠ 0 then rawE r else if (r.length : Int) = n then 0 else 13
def csF (n : Int) (c : List (List Int)) : Option Nat := first (fun i => !decide (csE n (ch c i) = 0)) c.length 0
def csK (n : Int) (c : List (List Int)) : Int × Int := match csF n c with
  | some k => ((k : Int), csE n (ch c k))
  | none => (0, 0)
def chK (most : Int) (c : List (List Int)) : Int × Int := if c.length = 0 then (0, 10) else if ¬ (c.length : Int) ≤ most then (0, 8) else csK ((ch c 0).length : Int) c
def chE (most : Int) (c : List (List Int)) : Int := (chK most c).2

theorem f88_two (a b : Int) : f88 ([a, b], ()) = some (if a = 0 then b else a, ()) := by
  rw [f88_eq _ (by simp)]
  simp only [firstNZ]
  by_cases h : a = 0
  · by_cases h2 : b = 0
    · simp [h, h2]
    · simp [h, h2]
  · simp [h]

theorem l136 (c : List (List Int)) (n : Int) (h : c.length ≤ 9000000000000000000) : l136_0 ((c, (c.length : Int), (0 : Int), ()), (n, ()), ()) = match csF n c with
    | some k => some (.inr (((k : Int), csE n (ch c k), ()), (n, ()), ()))
    | none => some (.inl ((), (n, ()), ())) := by
  refine itr_search (fun i => ((c, (c.length : Int), (i : Int), ()), (n, ()), ())) (fun i => !decide (csE n (ch c i) = 0)) (fun k => (((k : Int), csE n (ch c k), ()), (n, ()), ())) (n := c.length) ?_ ?_ (lt_rounds (by omega))
  · intro i hi
    simp only [s136_0, t136_0, Tr.val_test, Tr.val_fin, Tr.val_stop, leF_eq, eqF_eq, Int.toNat_natCast, wrap64_nat (show i ≤ 9223372036854775806 by omega)]
    rw [if_pos (by simp; omega), if_pos (by simp; omega)]
    have e9 := f90_eq (ch c i)
    simp only [ch] at e9
    have e8 := f88_two (rawE (List.getD c i [])) (if (!decide (((List.getD c i []).length : Int) = n)) = true then (13 : Int) else 0)
    simp only [g90, g86, g88, e9, f86_eq, e8, Option.isSome_some, Option.getD_some, if_true, csE, ch]
    by_cases a0 : rawE (List.getD c i []) = 0
    · by_cases a1 : ((List.getD c i []).length : Int) = n
      · simp only [a0, a1]; simp
      · simp only [a0, a1]; simp
    · simp only [a0, ne_eq, not_false_eq_true, if_true, if_false, decide_false, Bool.not_false]
  · simp [s136_0, t136_0, leF_eq]

theorem f129_eq (c : List (List Int)) (n : Int) (h : c.length ≤ 9000000000000000000) : f129 (c, n, ()) = some ((csK n c).1, (csK n c).2, ()) := by
  have hl := l136 c n h
  simp only [f129, t129, Tr.val_test, Tr.val_fin, Tr.val_stop, csK]
  cases hf : csF n c with
  | none =>
    rw [hf] at hl
    simp only [hl, isRet, Option.isSome_some, if_true, Bool.false_eq_true, if_false]
  | some k =>
    rw [hf] at hl
    simp only [hl, isRet, r136_0, outR, Option.isSome_some, if_true]

theorem f108_eq (c : List (List Int)) (m : Int) (hm : m ≤ 1000) : f108 (c, m, ()) = some ((chK m c).1, (chK m c).2, ()) := by
  have e0 := f83_eq (c.length : Int) m
  simp only [f108, t108, Tr.val_test, Tr.val_fin, Tr.val_stop, g83, e0, Option.isSome_some, Option.getD_some, if_true, eqF_eq, chK]
  by_cases h1 : c.length = 0
  · simp [h1]
  · by_cases h2 : (c.length : Int) ≤ m
    · have e1 : ¬ (c.length : Int) = 0 := by omega
      have e3 := f129_eq c ((ch c 0).length : Int) (by omega)
      simp only [ch] at e3
      simp only [h1, h2, e1, not_true_eq_false, if_false, decide_true, Bool.not_true, Bool.false_eq_true, ch]
      rw [if_pos (by simp; omega)]
      simp only [g129, e3, Option.isSome_some, Option.getD_some, if_true]
    · have e1 : ¬ (c.length : Int) = 0 := by omega
      simp [h1, h2, e1]

theorem f114_eq (c : List (List Int)) (m : Int) (hm : m ≤ 1000) : f114 (c, m, ()) = some (chE m c, ()) := by
  have e := f108_eq c m hm
  simp only [f114, t114, Tr.val_test, Tr.val_fin, Tr.val_stop, g108, e, Option.isSome_some, Option.getD_some, if_true, chE]

theorem l58 (c : List (List Int)) (h : c.length ≤ 1000000000) : l58_0 ((c, (0 : Int), ()), ()) = match csF ((ch c 0).length : Int) c with
    | some k => some (.inr ((csE ((ch c 0).length : Int) (ch c k), ()), ()))
    | none => some (.inl ((), ())) := by
  refine itr_search (fun i => ((c, (i : Int), ()), ())) (fun i => !decide (csE ((ch c 0).length : Int) (ch c i) = 0)) (fun k => ((csE ((ch c 0).length : Int) (ch c k), ()), ())) (n := c.length) ?_ ?_ (lt_rounds (by omega))
  · intro i hi
    simp only [s58_0, t58_0, Tr.val_test, Tr.val_fin, Tr.val_stop, leF_eq, eqF_eq, Int.toNat_natCast, wrap64_nat (show i ≤ 9223372036854775806 by omega)]
    rw [if_pos (by simp; omega), if_pos (by simp; omega)]
    have e9 := f34_eq (ch c i)
    simp only [ch] at e9
    simp only [g34, e9, Option.isSome_some, Option.getD_some, if_true, csE, ch]
    have e0 : (true && decide ((0 : Int) < (c.length : Int))) = true := by simp; omega
    simp only [e0, if_true]
    by_cases a0 : rawE (List.getD c i []) = 0
    · by_cases a1 : ((List.getD c i []).length : Int) = ((List.getD c 0 []).length : Int)
      · simp only [a0, a1]; simp
      · simp only [a0, a1]; simp
    · simp only [a0, ne_eq, not_false_eq_true, if_true, if_false, decide_false, Bool.not_false]
  · simp [s58_0, t58_0, leF_eq]

theorem f58_eq (c : List (List Int)) (m : Int) (hm : m ≤ 1000) : f58 (c, m, ()) = some (chE m c, ()) := by
  simp only [f58, t58, Tr.val_test, Tr.val_fin, Tr.val_stop, eqF_eq, leF_eq, chE, chK]
  by_cases h1 : c.length = 0
  · simp [h1]
  · have e1 : ¬ (c.length : Int) = 0 := by omega
    by_cases h2 : (c.length : Int) ≤ m
    · have hl := l58 c (by omega)
      simp only [h1, h2, e1, not_true_eq_false, if_false, decide_true, decide_false, Bool.not_true, Bool.false_eq_true, csK]
      cases hf : csF ((ch c 0).length : Int) c with
      | none =>
        rw [hf] at hl
        simp only [hl, isRet, Option.isSome_some, if_true, Bool.false_eq_true, if_false]
      | some k =>
        rw [hf] at hl
        simp only [hl, isRet, r58_0, outR, Option.isSome_some, if_true]
    · simp [h1, h2, e1]

theorem csE_ok {n : Int} {r : List Int} (h : csE n r = 0) : rawE r = 0 ∧ (r.length : Int) = n := by
  unfold csE at h
  split at h
  · exact absurd h (by assumption)
  · split at h
    · rename_i h1 h2; exact ⟨by simpa using h1, h2⟩
    · cases h

theorem chE_ok {m : Int} {c : List (List Int)} (h : chE m c = 0) : 0 < c.length ∧ (c.length : Int) ≤ m ∧ ∀ i, i < c.length → rawE (ch c i) = 0 ∧ (ch c i).length = (ch c 0).length := by
  unfold chE chK at h
  split at h
  · cases h
  · split at h
    · cases h
    · refine ⟨by omega, by omega, fun i hi => ?_⟩
      unfold csK at h
      cases hf : csF ((ch c 0).length : Int) c with
      | some k =>
        rw [hf] at h
        have := (first_some hf).2.2.1
        dsimp only at h
        rw [h] at this
        simp at this
      | none =>
        have := first_none hf i (Nat.zero_le _) (by omega)
        have : csE ((ch c 0).length : Int) (ch c i) = 0 := by simpa using this
        have := csE_ok this
        exact ⟨this.1, by omega⟩

/-! Copies; how many samples. -/

theorem copy_len (c : List (List Int)) (i : Nat) : (c.take i).length ≤ i := by simp; omega

theorem take_ch (c : List (List Int)) {i : Nat} (h : i < c.length) : c.take (i + 1) = c.take i ++ [ch c i] := by
  rw [List.take_succ_eq_append_getElem h]
  simp [ch, List.getD, h]

theorem l46 (c : List (List Int)) (h : c.length ≤ 1000) (hc : ∀ i, (ch c i).length ≤ 1000) : l46_0 ((c, [], (0 : Int), ()), ()) = some (.inl ((c, ()), ())) := by
  have := itr_brk (step := s46_0) (fun i => ((c, c.take i, (i : Int), ()), ())) (n := c.length) (m := rounds) (b := ((c, ()), ())) ?_ ?_ (lt_rounds (by omega))
  · exact this
  · intro i hi
    have e1 := f14_eq (ch c i) (hc i)
    simp only [ch] at e1
    simp only [s46_0, t46_0, Tr.val_test, Tr.val_fin, Tr.val_stop, leF_eq, Int.toNat_natCast, wrap64_nat (show i ≤ 9223372036854775806 by omega)]
    rw [if_pos (by simp; omega), if_pos (by simp; omega)]
    simp only [g14, e1, Option.isSome_some, Option.getD_some, if_true]
    have hl := copy_len c i
    rw [if_pos (by simp only [Bool.and_eq_true, ble_eq_true']; omega), take_ch c hi]
  · simp [s46_0, t46_0, leF_eq]

theorem f46_eq (c : List (List Int)) (h : c.length ≤ 1000) (hc : ∀ i, (ch c i).length ≤ 1000) : f46 (c, ()) = some (c, ()) := by
  simp only [f46, t46, Tr.val_test, Tr.val_fin, Tr.val_stop, l46 c h hc, isBrk, b46_0, outB, if_true]

theorem f12_eq (l : List Int) : f12 (l, ()) = some (decide ((l.length : Int) ≤ 62), ()) := by
  simp only [f12, t12, Tr.val_fin, leF_eq]

def fitF (c : List (List Int)) : Option Nat := first (fun i => !decide (((ch c i).length : Int) ≤ 62)) c.length 0

theorem l56 (c : List (List Int)) (h : c.length ≤ 9223372036854775807) : l56_0 ((c, (0 : Int), ()), ()) = match fitF c with
    | some _ => some (.inr ((false, ()), ()))
    | none => some (.inl ((c, ()), ())) := by
  refine itr_search (fun i => ((c, (i : Int), ()), ())) (fun i => !decide (((ch c i).length : Int) ≤ 62)) (fun k => ((false, ()), ())) (n := c.length) ?_ ?_ (lt_rounds (by omega))
  · intro i hi
    simp only [s56_0, t56_0, Tr.val_test, Tr.val_fin, Tr.val_stop, leF_eq, eqF_eq, Int.toNat_natCast, wrap64_nat (show i ≤ 9223372036854775806 by omega)]
    rw [if_pos (by simp; omega), if_pos (by simp; omega)]
    have e9 := f12_eq (ch c i)
    simp only [ch] at e9
    simp only [g12, e9, Option.isSome_some, Option.getD_some, if_true, ch]
  · simp [s56_0, t56_0, leF_eq]

def fits (c : List (List Int)) : Bool := (fitF c).isNone && decide ((c.length : Int) ≤ 9)

theorem f56_eq (c : List (List Int)) (h : c.length ≤ 9223372036854775807) : f56 (c, ()) = some (fits c, ()) := by
  have hl := l56 c h
  simp only [f56, t56, Tr.val_test, Tr.val_fin, Tr.val_stop, leF_eq, fits]
  cases hf : fitF c with
  | none =>
    rw [hf] at hl
    simp only [hl, isRet, b56_0, outB, Option.isSome_some, Option.isNone_none, if_true, Bool.false_eq_true, if_false, Bool.true_and]
  | some k =>
    rw [hf] at hl
    simp only [hl, isRet, r56_0, outR, Option.isSome_some, Option.isNone_some, if_true, Bool.false_and]

theorem fits_ok {c : List (List Int)} (h : fits c = true) : c.length ≤ 9 ∧ ∀ i, (ch c i).length ≤ 62 := by
  simp only [fits, Bool.and_eq_true, decide_eq_true_eq, Option.isNone_iff_eq_none] at h
  refine ⟨by omega, fun i => ?_⟩
  by_cases hi : i < c.length
  · have := first_none h.1 i (Nat.zero_le _) (by omega)
    have : ((ch c i).length : Int) ≤ 62 := by simpa using this
    omega
  · have : ch c i = [] := by simp [ch, List.getD, List.getElem?_eq_none (Nat.le_of_not_lt hi)]
    rw [this]; simp

end Go.Vm.Mo

namespace Go.Vm.Mo
open Go
set_option linter.unusedVariables false
set_option linter.unusedSimpArgs false

def waE (c : List (List Int)) (b n h : Int) : Int := if chE 7 c ≠ 0 then chE 7 c else if (wi 0 100000 b && wi 1 (c.length : Int) n && wi 1 60 h) = true then 0 else 2

theorem f135_eq (b n h m : Int) : f135 ((b, n, h, ()), m, ()) = some (if (wi 0 100000 b && wi 1 m n && wi 1 60 h) = true then (0 : Int) else 2, ()) := by
  have e1 := f100_one 0 100000 b
  have e2 := f100_one 1 m n
  have e3 := f100_one 1 60 h
  simp only [f135, t135, Tr.val_test, Tr.val_fin, Tr.val_stop, g100, g86, e1, e2, e3, f86_eq, Option.isSome_some, Option.getD_some, if_true]
  cases wi 0 100000 b <;> cases wi 1 m n <;> cases wi 1 60 h <;> rfl

theorem f116_eq (c : List (List Int)) (b n h : Int) : f116 (c, (b, n, h, ()), ()) = some (if waE c b n h ≠ 0 then ((((0 : Int), (0 : Int), (0 : Int), ()), ([] : List (List Int)), ()), waE c b n h, ()) else (((b, n, h, ()), c, ()), (0 : Int), ())) := by
  have e1 := f114_eq c 7 (by omega)
  have e2 := f135_eq b n h (c.length : Int)
  have e3 := f88_two (chE 7 c) (if (wi 0 100000 b && wi 1 (c.length : Int) n && wi 1 60 h) = true then (0 : Int) else 2)
  have ew : (if chE 7 c = 0 then (if (wi 0 100000 b && wi 1 (c.length : Int) n && wi 1 60 h) = true then (0 : Int) else 2) else chE 7 c) = waE c b n h := by
    unfold waE
    by_cases hc : chE 7 c = 0
    · simp only [hc, if_true, ne_eq, not_true_eq_false, if_false]
    · simp only [hc, if_false, ne_eq, not_false_eq_true, if_true]
  rw [ew] at e3
  simp only [f116, t116, Tr.val_test, Tr.val_fin, Tr.val_stop, g114, g135, g88, e1, e2, e3, Option.isSome_some, Option.getD_some, if_true, eqF_eq]
  by_cases hw : waE c b n h = 0
  · simp only [hw, decide_true, Bool.not_true, Bool.false_eq_true, if_false, ne_eq, not_true_eq_false]
  · simp only [hw, decide_false, Bool.not_false, if_true, ne_eq, not_false_eq_true]

theorem f66_eq (c : List (List Int)) (b n h : Int) : f66 (c, (b, n, h, ()), ()) = some (waE c b n h, ()) := by
  have e1 := f58_eq c 7 (by omega)
  simp only [f66, t66, Tr.val_test, Tr.val_fin, Tr.val_stop, g58, g22, e1, f22_eq, Option.isSome_some, Option.getD_some, if_true, eqF_eq, waE]
  by_cases hc : chE 7 c = 0
  · simp only [hc, decide_true, Bool.not_true, Bool.false_eq_true, if_false, ne_eq, not_true_eq_false]
    cases wi 0 100000 b <;> cases wi 1 (c.length : Int) n <;> cases wi 1 60 h <;> rfl
  · simp only [hc, decide_false, Bool.not_false, if_true, ne_eq, not_false_eq_true]

theorem waE_ok {c : List (List Int)} {b n h : Int} (e : waE c b n h = 0) : chE 7 c = 0 ∧ (0 ≤ b ∧ b ≤ 100000) ∧ (1 ≤ n ∧ n ≤ (c.length : Int)) ∧ 1 ≤ h ∧ h ≤ 60 := by
  unfold waE at e
  split at e
  · exact absurd e (by assumption)
  · rename_i h1
    split at e
    · rename_i h2
      simp only [Bool.and_eq_true, wi_iff] at h2
      exact ⟨by simpa using h1, h2.1.1, h2.1.2, h2.2⟩
    · cases e

/-- The voters among the first channels. -/
def vote (c : List (List Int)) (b : Int) (s : Nat) : Nat → List Int
  | 0 => []
  | i + 1 => if wi (-b) b ((ch c i).getD s 0) = true then vote c b s i else vote c b s i ++ [(i : Int)]

theorem vote_len (c : List (List Int)) (b : Int) (s : Nat) : ∀ i, (vote c b s i).length ≤ i
  | 0 => Nat.le_refl _
  | i + 1 => by
    have := vote_len c b s i
    simp only [vote]
    split
    · omega
    · simp; omega

theorem l117 (c : List (List Int)) (b n h : Int) (s : Nat) (hc : c.length ≤ 1000) (hs : ∀ i, i < c.length → s < (ch c i).length) (h0 : 0 ≤ b) (h1 : b ≤ 100000) :
    l117_0 (((s : Int), [], c, (c.length : Int), (0 : Int), ()), (b, n, h, c, ()), ()) = some (.inl ((vote c b s c.length, ()), (b, n, h, c, ()), ())) := by
  have := itr_brk (step := s117_0) (fun i => (((s : Int), vote c b s i, c, (c.length : Int), (i : Int), ()), (b, n, h, c, ()), ())) (n := c.length) (m := rounds) (b := ((vote c b s c.length, ()), (b, n, h, c, ()), ())) ?_ ?_ (lt_rounds (by omega))
  · exact this
  · intro i hi
    have e1 := f87_one b ((ch c i).getD s 0) h0 (by omega)
    have hl := vote_len c b s i
    have h3 := hs i hi
    simp only [ch] at e1 h3
    simp only [s117_0, t117_0, Tr.val_test, Tr.val_fin, Tr.val_stop, leF_eq, Int.toNat_natCast, wrap64_nat (show i ≤ 9223372036854775806 by omega)]
    rw [if_pos (by simp; omega), if_pos (by simp; omega), if_pos (by simp only [Bool.and_eq_true, decide_eq_true_eq]; omega)]
    simp only [g87, e1, Option.isSome_some, Option.getD_some, if_true, vote, ch]
    cases hm : wi (-b) b ((List.getD c i []).getD s 0) with
    | true => rfl
    | false =>
      simp only [Bool.not_false, if_true, Bool.false_eq_true, if_false]
      rw [if_pos (by simp only [Bool.and_eq_true, ble_eq_true']; omega)]
  · simp [s117_0, t117_0, leF_eq]

theorem f117_eq (c : List (List Int)) (b n h : Int) (s : Nat) (hc : c.length ≤ 1000) (hs : ∀ i, i < c.length → s < (ch c i).length) (h0 : 0 ≤ b) (h1 : b ≤ 100000) :
    f117 (((b, n, h, ()), c, ()), (s : Int), ()) = some (vote c b s c.length, ()) := by
  simp only [f117, t117, Tr.val_test, Tr.val_fin, Tr.val_stop, l117 c b n h s hc hs h0 h1, isBrk, b117_0, outB, if_true]

theorem f104_le (x b : Int) (h1 : -9223372036854775807 ≤ x) (h2 : x ≤ 9223372036854775807) : ∃ y : Int, f104 (x, ()) = some (y, ()) ∧ (y ≤ b ↔ -b ≤ x ∧ x ≤ b) := by
  refine ⟨if x < -x then -x else x, ?_, ?_⟩
  · simp only [f104, t104, Tr.val_fin, wn64 h1 h2]
  · by_cases hx : x < -x
    · rw [if_pos hx]
      exact ⟨fun h => ⟨by omega, by omega⟩, fun h => by omega⟩
    · rw [if_neg hx]
      exact ⟨fun h => ⟨by omega, by omega⟩, fun h => by omega⟩

theorem l67 (c : List (List Int)) (b n h : Int) (s : Nat) (hc : c.length ≤ 1000) (hs : ∀ i, i < c.length → s < (ch c i).length ∧ -100000 ≤ (ch c i).getD s 0 ∧ (ch c i).getD s 0 ≤ 100000) :
    l67_0 ((c, (s : Int), [], (0 : Int), ()), (b, n, h, ()), ()) = some (.inl ((vote c b s c.length, ()), (b, n, h, ()), ())) := by
  have := itr_brk (step := s67_0) (fun i => ((c, (s : Int), vote c b s i, (i : Int), ()), (b, n, h, ()), ())) (n := c.length) (m := rounds) (b := ((vote c b s c.length, ()), (b, n, h, ()), ())) ?_ ?_ (lt_rounds (by omega))
  · exact this
  · intro i hi
    have h3 := hs i hi
    obtain ⟨y, e1, hy⟩ := f104_le ((ch c i).getD s 0) b (by omega) (by omega)
    have hl := vote_len c b s i
    simp only [ch] at e1 h3 hy
    simp only [s67_0, t67_0, Tr.val_test, Tr.val_fin, Tr.val_stop, leF_eq, Int.toNat_natCast, wrap64_nat (show i ≤ 9223372036854775806 by omega)]
    rw [if_pos (by simp; omega), if_pos (by simp; omega), if_pos (by simp only [Bool.and_eq_true, decide_eq_true_eq]; omega)]
    simp only [g104, e1, Option.isSome_some, Option.getD_some, if_true, vote, ch]
    cases hm : wi (-b) b ((List.getD c i []).getD s 0) with
    | true =>
      have : y ≤ b := hy.2 (wi_iff.1 hm)
      simp only [this, decide_true, Bool.not_true, Bool.false_eq_true, if_false, if_true]
    | false =>
      have : ¬ y ≤ b := fun hle => by
        have := wi_iff.2 (hy.1 hle)
        rw [hm] at this; cases this
      simp only [this, decide_false, Bool.not_false, if_true, Bool.false_eq_true, if_false]
      rw [if_pos (by simp only [Bool.and_eq_true, ble_eq_true']; omega)]
  · simp [s67_0, t67_0, leF_eq]

theorem f67_eq (c : List (List Int)) (b n h : Int) (s : Nat) (hc : c.length ≤ 1000) (hs : ∀ i, i < c.length → s < (ch c i).length ∧ -100000 ≤ (ch c i).getD s 0 ∧ (ch c i).getD s 0 ≤ 100000) :
    f67 (c, (b, n, h, ()), (s : Int), ()) = some (vote c b s c.length, ()) := by
  simp only [f67, t67, Tr.val_test, Tr.val_fin, Tr.val_stop, l67 c b n h s hc hs, isBrk, b67_0, outB, if_true]

/-! How long it has been held. -/

def good (c : List (List Int)) (b n : Int) (s : Nat) : Bool := decide (n ≤ ((vote c b s c.length).length : Int))

def run (g : Nat → Bool) : Nat → Nat
  | 0 => 0
  | s + 1 => if g s = true then run g s + 1 else 0

def trip (g : Nat → Bool) (h L : Nat) : Option Nat := first (fun s => decide (run g (s + 1) = h)) L 0

theorem run_le (g : Nat → Bool) : ∀ s, run g s ≤ s
  | 0 => Nat.le_refl _
  | s + 1 => by
    have := run_le g s
    simp only [run]; split <;> omega

theorem run_step (g : Nat → Bool) (s : Nat) : run g (s + 1) ≤ run g s + 1 := by simp only [run]; split <;> omega

theorem run_mono {g g' : Nat → Bool} (hg : ∀ s, g s = true → g' s = true) : ∀ s, run g s ≤ run g' s
  | 0 => Nat.le_refl _
  | s + 1 => by
    have := run_mono hg s
    simp only [run]
    by_cases h : g s = true
    · rw [if_pos h, if_pos (hg s h)]; omega
    · rw [if_neg h]; omega

theorem run_ge (g : Nat → Bool) : ∀ (s h : Nat), h ≤ run g s ↔ h ≤ s ∧ ∀ j, j < h → g (s - h + j) = true
  | 0, h => by
    simp only [run]
    constructor
    · intro e; exact ⟨e, fun j hj => by omega⟩
    · intro e; exact e.1
  | s + 1, h => by
    simp only [run]
    cases h with
    | zero => simp
    | succ h =>
      have ih := run_ge g s h
      by_cases hg : g s = true
      · rw [if_pos hg]
        constructor
        · intro e
          obtain ⟨h1, h2⟩ := ih.1 (by omega)
          refine ⟨by omega, fun j hj => ?_⟩
          by_cases hj2 : j < h
          · have := h2 j hj2
            rwa [show s + 1 - (h + 1) + j = s - h + j by omega]
          · rw [show s + 1 - (h + 1) + j = s by omega]; exact hg
        · intro ⟨h1, h2⟩
          have : h ≤ run g s := ih.2 ⟨by omega, fun j hj => by
            have := h2 j (by omega)
            rwa [show s + 1 - (h + 1) + j = s - h + j by omega] at this⟩
          omega
      · rw [if_neg hg]
        constructor
        · intro e; omega
        · intro ⟨h1, h2⟩
          have := h2 h (by omega)
          rw [show s + 1 - (h + 1) + h = s by omega] at this
          exact absurd this hg

theorem first_eq_some {bad : Nat → Bool} {n k : Nat} (hk : k < n) (hb : bad k = true) (hn : ∀ j, j < k → bad j = false) : first bad n 0 = some k := by
  cases h : first bad n 0 with
  | none => have := first_none h k (Nat.zero_le _) (by omega); rw [hb] at this; cases this
  | some m =>
    obtain ⟨h1, h2, h3, h4⟩ := first_some h
    rcases Nat.lt_trichotomy m k with hlt | rfl | hgt
    · rw [hn m hlt] at h3; cases h3
    · rfl
    · have := h4 k (Nat.zero_le _) hgt; rw [hb] at this; cases this

theorem trip_some {g : Nat → Bool} {h L t : Nat} (e : trip g h L = some t) : t < L ∧ run g (t + 1) = h := by
  obtain ⟨h1, h2, h3, h4⟩ := first_some e
  exact ⟨by omega, by simpa using h3⟩

/-- As long as it was not tripped it was held for less. -/
theorem run_lt {g : Nat → Bool} {h : Nat} (h0 : 0 < h) : ∀ s, (∀ j, j < s → run g (j + 1) ≠ h) → run g s < h
  | 0, _ => by simp only [run]; exact h0
  | s + 1, hs => by
    have := run_lt h0 s fun j hj => hs j (by omega)
    have := run_step g s
    have := hs s (by omega)
    omega

theorem trip_easier {g g' : Nat → Bool} {h h' L t : Nat} (hg : ∀ s, g s = true → g' s = true) (h0 : 0 < h') (hh : h' ≤ h) (e : trip g h L = some t) : ∃ s, trip g' h' L = some s ∧ s ≤ t := by
  obtain ⟨ht, hr⟩ := trip_some e
  cases e' : trip g' h' L with
  | none =>
    exfalso
    have := run_lt (g := g') h0 (t + 1) fun j hj he => by
      have := first_none e' j (Nat.zero_le _) (by omega)
      simp [he] at this
    have := run_mono hg (t + 1)
    omega
  | some s =>
    refine ⟨s, rfl, ?_⟩
    rcases Nat.lt_or_ge t s with hlt | hge
    · exfalso
      obtain ⟨_, _, _, h4⟩ := first_some e'
      have := run_lt (g := g') h0 (t + 1) fun j hj he => by
        have := h4 j (Nat.zero_le _) (by omega)
        simp [he] at this
      have := run_mono hg (t + 1)
      omega
    · exact hge

/-- All of so many from one on. -/
def allG (g : Nat → Bool) (a : Nat) : Nat → Bool
  | 0 => true
  | j + 1 => allG g a j && g (a + j)

theorem allG_iff (g : Nat → Bool) (a : Nat) : ∀ n, allG g a n = true ↔ ∀ j, j < n → g (a + j) = true
  | 0 => by simp [allG]
  | n + 1 => by
    simp only [allG, Bool.and_eq_true, allG_iff g a n]
    constructor
    · intro ⟨h1, h2⟩ j hj
      by_cases h : j < n
      · exact h1 j h
      · rw [show j = n by omega]; exact h2
    · intro h
      exact ⟨fun j hj => h j (by omega), h n (by omega)⟩

theorem trip_ref (g : Nat → Bool) (h L : Nat) (h0 : 0 < h) : first (fun i => allG g i h) (L - (h - 1)) 0 = (trip g h L).map (· - (h - 1)) := by
  cases e : trip g h L with
  | none =>
    refine first_of_none fun i _ hi => ?_
    cases hb : allG g i h with
    | false => rfl
    | true =>
      exfalso
      have := run_lt (g := g) h0 (i + (h - 1) + 1) fun j hj he => by
        have := first_none e j (Nat.zero_le _) (by omega)
        simp [he] at this
      have h2 := (run_ge g (i + (h - 1) + 1) h).2 ⟨by omega, fun j hj => by
        have := (allG_iff g i h).1 hb j hj
        rwa [show i + (h - 1) + 1 - h + j = i + j by omega]⟩
      omega
  | some t =>
    obtain ⟨ht, hr⟩ := trip_some e
    have hw := (run_ge g (t + 1) h).1 (by omega)
    simp only [Option.map_some]
    refine first_eq_some (by omega) ?_ ?_
    · refine (allG_iff g _ h).2 fun j hj => ?_
      have := hw.2 j hj
      rwa [show t + 1 - h + j = t - (h - 1) + j by omega] at this
    · intro i hi
      cases hb : allG g i h with
      | false => rfl
      | true =>
        exfalso
        obtain ⟨_, _, _, h4⟩ := first_some e
        have := run_lt (g := g) h0 (i + (h - 1) + 1) fun j hj he => by
          have := h4 j (Nat.zero_le _) (by omega)
          simp [he] at this
        have h2 := (run_ge g (i + (h - 1) + 1) h).2 ⟨by omega, fun j hj => by
          have := (allG_iff g i h).1 hb j hj
          rwa [show i + (h - 1) + 1 - h + j = i + j by omega]⟩
        omega

theorem l64 (c : List (List Int)) (b n : Int) (h L : Nat) (hc : c.length ≤ 1000) (hs : ∀ i, i < c.length → (ch c i).length = L) (h0 : 0 ≤ b) (h1 : b ≤ 100000) (hh : 0 < h) (hL : L ≤ 1000) :
    l64_0 (((0 : Int), (L : Int), (0 : Int), ()), (b, n, (h : Int), ()), (b, n, (h : Int), c, ()), ()) = match trip (good c b n) h L with
    | some t => some (.inr (((t : Int), (0 : Int), ()), (b, n, (h : Int), ()), (b, n, (h : Int), c, ()), ()))
    | none => some (.inl ((), (b, n, (h : Int), ()), (b, n, (h : Int), c, ()), ())) := by
  refine itr_search (fun i => (((run (good c b n) i : Int), (L : Int), (i : Int), ()), (b, n, (h : Int), ()), (b, n, (h : Int), c, ()), ())) (fun s => decide (run (good c b n) (s + 1) = h)) (fun t => (((t : Int), (0 : Int), ()), (b, n, (h : Int), ()), (b, n, (h : Int), c, ()), ())) (n := L) ?_ ?_ (lt_rounds (by omega))
  · intro i hi
    have e1 := f117_eq c b n (h : Int) i hc (fun k hk => by rw [hs k hk]; exact hi) h0 h1
    have hr := run_le (good c b n) i
    simp only [s64_0, t64_0, Tr.val_test, Tr.val_fin, Tr.val_stop, leF_eq, eqF_eq, wrap64_nat (show i ≤ 9223372036854775806 by omega), wrap64_nat (show run (good c b n) i ≤ 9223372036854775806 by omega)]
    rw [if_pos (by simp; omega)]
    simp only [g117, e1, Option.isSome_some, Option.getD_some, if_true, run]
    have eg : decide (n ≤ ((vote c b i c.length).length : Int)) = good c b n i := rfl
    simp only [eg]
    by_cases hg : good c b n i = true
    rotate_left
    · have hg' : good c b n i = false := by simpa using hg
      have k1 : ¬ (0 : Int) = (h : Int) := by omega
      have k2 : ¬ 0 = h := by omega
      simp only [hg', k1, k2, Bool.not_false, if_true, decide_false, Bool.false_eq_true, if_false]
      rfl
    · simp only [hg, if_true]
      by_cases hq : run (good c b n) i + 1 = h
      · have : ((run (good c b n) i + 1 : Nat) : Int) = (h : Int) := by omega
        simp only [Bool.not_true, Bool.false_eq_true, if_false, this, hq, decide_true, if_true]
      · have : ¬ ((run (good c b n) i + 1 : Nat) : Int) = (h : Int) := by omega
        simp only [Bool.not_true, Bool.false_eq_true, if_false, this, hq, decide_false, if_true]
  · simp [s64_0, t64_0, leF_eq]

theorem f64_eq (c : List (List Int)) (b n h : Int) : f64 (c, (b, n, h, ()), ()) = some (if waE c b n h ≠ 0 then ((0 : Int), waE c b n h, ()) else match trip (good c b n) h.toNat (ch c 0).length with
    | some t => ((t : Int), (0 : Int), ())
    | none => ((0 : Int), (12 : Int), ())) := by
  have e1 := f116_eq c b n h
  simp only [f64, t64, Tr.val_test, Tr.val_fin, Tr.val_stop, g116, e1, Option.isSome_some, Option.getD_some, if_true, eqF_eq]
  by_cases hw : waE c b n h = 0
  · obtain ⟨k1, k2, k3, k4⟩ := waE_ok hw
    obtain ⟨k5, k6, k7⟩ := chE_ok k1
    have kr := (rawE_ok (k7 0 k5).1).2.1
    obtain ⟨H, rfl⟩ : ∃ H : Nat, h = (H : Int) := ⟨h.toNat, by omega⟩
    have hl := l64 c b n H (ch c 0).length (by omega) (fun i hi => (k7 i hi).2) k2.1 k2.2 (by omega) (by omega)
    have e0 : (true && decide ((0 : Int) < (c.length : Int))) = true := by simp; omega
    simp only [hw, ne_eq, not_true_eq_false, if_false, decide_true, Bool.not_true, Bool.false_eq_true, e0, if_true, Int.toNat_natCast]
    cases hf : trip (good c b n) H (ch c 0).length with
    | none =>
      rw [hf] at hl
      simp only [ch] at hl
      simp only [hl, isRet, Option.isSome_some, if_true, Bool.false_eq_true, if_false]
    | some k =>
      rw [hf] at hl
      simp only [ch] at hl
      simp only [hl, isRet, r64_0, outR, Option.isSome_some, if_true]
  · simp only [hw, ne_eq, not_false_eq_true, if_true, decide_false, Bool.not_false]

end Go.Vm.Mo

namespace Go.Vm.Mo
open Go
set_option linter.unusedVariables false
set_option linter.unusedSimpArgs false

theorem l68in (c : List (List Int)) (b n h : Int) (a m : Nat) (hc : c.length ≤ 1000) (hs : ∀ k, k < c.length → ∀ s, s < a + m → s < (ch c k).length ∧ -100000 ≤ (ch c k).getD s 0 ∧ (ch c k).getD s 0 ≤ 100000) (s : Int) (hsm : s = (a : Int) + m - 1) (hm : m ≤ 1000) (ha : a ≤ 1000) :
    l68_2 ((c, s, true, (a : Int), ()), (b, n, h, ()), ()) = some (.inl ((c, s, allG (good c b n) a m, ()), (b, n, h, ()), ())) := by
  have := itr_brk (step := s68_2) (fun i => ((c, s, allG (good c b n) a i, ((a + i : Nat) : Int), ()), (b, n, h, ()), ())) (n := m) (m := rounds) (b := ((c, s, allG (good c b n) a m, ()), (b, n, h, ()), ())) ?_ ?_ (lt_rounds (by omega))
  · exact this
  · intro i hi
    have e1 := f67_eq c b n h (a + i) hc fun k hk => hs k hk (a + i) (by omega)
    have hw : wrap64 (((a + i : Nat) : Int) + 1) = ((a + (i + 1) : Nat) : Int) := wrap64_nat (by omega)
    simp only [s68_2, t68_2, Tr.val_test, Tr.val_fin, Tr.val_stop, leF_eq, hw]
    rw [if_pos (by simp; omega)]
    simp only [g67, e1, Option.isSome_some, Option.getD_some, if_true, allG]
    have eg : decide (n ≤ ((vote c b (a + i) c.length).length : Int)) = good c b n (a + i) := rfl
    simp only [eg]
    by_cases hg : allG (good c b n) a i = true
    · simp only [hg, if_true, Bool.true_and]
    · have hg' : allG (good c b n) a i = false := by simpa using hg
      simp only [hg', Bool.false_eq_true, if_false, Bool.false_and]
  · have : ¬ ((a + m : Nat) : Int) ≤ s := by omega
    simp only [s68_2, t68_2, Tr.val_test, Tr.val_fin, leF_eq, this, decide_false, Bool.false_eq_true, if_false]

theorem l68 (c : List (List Int)) (b n : Int) (h L : Nat) (h0 : 0 < h) (hh : h ≤ 60) (hc : c.length ≤ 1000) (hc0 : 0 < c.length) (hL : (ch c 0).length = L) (hL2 : L ≤ 60) (hs : ∀ k, k < c.length → ∀ s, s < L → s < (ch c k).length ∧ -100000 ≤ (ch c k).getD s 0 ∧ (ch c k).getD s 0 ≤ 100000) :
    l68_0 ((c, ((h - 1 : Nat) : Int), ()), (b, n, (h : Int), ()), ()) = match first (fun i => allG (good c b n) i h) (L - (h - 1)) 0 with
    | some k => some (.inr ((((h - 1 + k : Nat) : Int), true, ()), (b, n, (h : Int), ()), ()))
    | none => some (.inl ((), (b, n, (h : Int), ()), ())) := by
  refine itr_search (fun i => ((c, ((h - 1 + i : Nat) : Int), ()), (b, n, (h : Int), ()), ())) (fun i => allG (good c b n) i h) (fun k => ((((h - 1 + k : Nat) : Int), true, ()), (b, n, (h : Int), ()), ())) (n := L - (h - 1)) ?_ ?_ (lt_rounds (by omega))
  · intro i hi
    have e0 : (true && decide ((0 : Int) < (c.length : Int))) = true := by simp; omega
    have e1 := l68in c b n (h : Int) i h hc (fun k hk s hs' => hs k hk s (by omega)) ((h - 1 + i : Nat) : Int) (by omega) (by omega) (by omega)
    have hw : wrap64 (((h - 1 + i : Nat) : Int) + 1) = ((h - 1 + (i + 1) : Nat) : Int) := wrap64_nat (by omega)
    have hv : wrap64 (wrap64 (((h - 1 + i : Nat) : Int) - (h : Int)) + 1) = (i : Int) := by
      rw [wrap64_add_l, wrap64_id (by omega) (by omega)]; omega
    have hlt : (!decide (((ch c 0).length : Int) ≤ ((h - 1 + i : Nat) : Int))) = true := by simp only [Bool.not_eq_true', decide_eq_false_iff_not]; omega
    simp only [ch] at hlt
    simp only [s68_0, t68_0, Tr.val_test, Tr.val_fin, Tr.val_stop, leF_eq, e0, hlt, if_true, hv, e1, isBrk, b68_2, outB, hw]
    try rfl
  · have e0 : (true && decide ((0 : Int) < (c.length : Int))) = true := by simp; omega
    have hlt : (!decide (((ch c 0).length : Int) ≤ ((h - 1 + (L - (h - 1)) : Nat) : Int))) = false := by simp only [Bool.not_eq_false', decide_eq_true_eq]; omega
    simp only [ch] at hlt
    simp only [s68_0, t68_0, Tr.val_test, Tr.val_fin, Tr.val_stop, leF_eq, e0, hlt, if_true, Bool.false_eq_true, if_false]

/-- Channels without an error: all of one length, and within the limits. -/
theorem ch_bounds {c : List (List Int)} (h : chE 7 c = 0) : ∀ k, k < c.length → ∀ s, s < (ch c 0).length → s < (ch c k).length ∧ -100000 ≤ (ch c k).getD s 0 ∧ (ch c k).getD s 0 ≤ 100000 := by
  intro k hk s hs
  obtain ⟨_, _, h3⟩ := chE_ok h
  have := (rawE_ok (h3 k hk).1).2.2 s
  have := (h3 k hk).2
  exact ⟨by omega, by assumption⟩

theorem f68_eq (c : List (List Int)) (b n : Int) (h : Nat) (hw : waE c b n (h : Int) = 0) : f68 (c, (b, n, (h : Int), ()), ()) = some (match trip (good c b n) h (ch c 0).length with
    | some t => ((t : Int), true, ())
    | none => ((0 : Int), false, ())) := by
  obtain ⟨k1, k2, k3, k4⟩ := waE_ok hw
  obtain ⟨k5, k6, k7⟩ := chE_ok k1
  have kr := (rawE_ok (k7 0 k5).1).2.1
  have hl := l68 c b n h (ch c 0).length (by omega) (by omega) (by omega) k5 rfl kr (ch_bounds k1)
  have hv : wrap64 ((h : Int) - 1) = ((h - 1 : Nat) : Int) := by rw [wrap64_id (by omega) (by omega)]; omega
  rw [trip_ref _ _ _ (by omega)] at hl
  simp only [f68, t68, Tr.val_test, Tr.val_fin, Tr.val_stop, hv]
  cases hf : trip (good c b n) h (ch c 0).length with
  | none =>
    rw [hf] at hl
    simp only [Option.map_none] at hl
    simp only [hl, isRet, Option.isSome_some, if_true, Bool.false_eq_true, if_false]
  | some k =>
    rw [hf] at hl
    simp only [Option.map_some] at hl
    have := (trip_some hf).2
    have hk : h - 1 + (k - (h - 1)) = k := by
      have := run_le (good c b n) (k + 1)
      omega
    rw [hk] at hl
    simp only [hl, isRet, r68_0, outR, Option.isSome_some, if_true]

theorem f65_eq (c : List (List Int)) (b n h s : Int) (hl : ∀ i, (ch c i).length ≤ 62) : f65 (c, (b, n, h, ()), s, ()) = some (if waE c b n h ≠ 0 then (([] : List Int), waE c b n h, ()) else if wi 0 ((ch c 0).length - 1 : Int) s = true then (vote c b s.toNat c.length, (0 : Int), ()) else (([] : List Int), (6 : Int), ())) := by
  have e1 := f116_eq c b n h
  have hL := hl 0
  have hv : wrap64 ((((List.getD c 0 []).length : Nat) : Int) - 1) = ((ch c 0).length - 1 : Int) := wrap64_id (by simp only [ch] at hL; omega) (by simp only [ch] at hL; omega)
  have e2 := f100_one 0 ((ch c 0).length - 1 : Int) s
  simp only [f65, t65, Tr.val_test, Tr.val_fin, Tr.val_stop, g116, e1, Option.isSome_some, Option.getD_some, if_true, eqF_eq, hv, g100, e2]
  by_cases hw : waE c b n h = 0
  · obtain ⟨k1, k2, k3, k4⟩ := waE_ok hw
    obtain ⟨k5, k6, k7⟩ := chE_ok k1
    have e0 : (true && decide ((0 : Int) < (c.length : Int))) = true := by simp; omega
    simp only [hw, ne_eq, not_true_eq_false, if_false, decide_true, Bool.not_true, Bool.false_eq_true, e0, if_true]
    by_cases hs : wi 0 ((ch c 0).length - 1 : Int) s = true
    · have hs2 := wi_iff.1 hs
      obtain ⟨S, rfl⟩ : ∃ S : Nat, s = (S : Int) := ⟨s.toNat, by omega⟩
      have e3 := f117_eq c b n h S (by omega) (fun i hi => by rw [(k7 i hi).2]; omega) k2.1 k2.2
      simp only [hs, Bool.not_true, Bool.false_eq_true, if_false, if_true, g117, e3, Option.isSome_some, Option.getD_some, Int.toNat_natCast]
    · have hs' : wi 0 ((ch c 0).length - 1 : Int) s = false := by simpa using hs
      simp only [hs', Bool.not_false, if_true, Bool.false_eq_true, if_false]
  · simp only [hw, ne_eq, not_false_eq_true, if_true, decide_false, Bool.not_false]

/-! Easier watches. -/

theorem vote_fewer (c : List (List Int)) {b b' : Int} (hb : b' ≤ b) (s : Nat) : ∀ i, (vote c b s i).length ≤ (vote c b' s i).length
  | 0 => Nat.le_refl _
  | i + 1 => by
    have ih := vote_fewer c hb s i
    simp only [vote]
    by_cases h1 : wi (-b') b' ((ch c i).getD s 0) = true
    · have h2 : wi (-b) b ((ch c i).getD s 0) = true := by rw [wi_iff] at h1 ⊢; omega
      rw [if_pos h1, if_pos h2]; exact ih
    · rw [if_neg h1]
      split
      · simp; omega
      · simp; omega

theorem good_easier (c : List (List Int)) {b b' n n' : Int} (hb : b' ≤ b) (hn : n' ≤ n) (s : Nat) (h : good c b n s = true) : good c b' n' s = true := by
  simp only [good, decide_eq_true_eq] at h ⊢
  have := vote_fewer c hb s c.length
  omega

theorem f64_easier (c : List (List Int)) {b n h b' n' h' : Int} {t : Nat} (hw : waE c b n h = 0) (hw' : waE c b' n' h' = 0) (hb : b' ≤ b) (hn : n' ≤ n) (hh : h' ≤ h) (ht : trip (good c b n) h.toNat (ch c 0).length = some t) :
    ∃ s : Nat, f64 (c, (b', n', h', ()), ()) = some ((s : Int), (0 : Int), ()) ∧ s ≤ t := by
  obtain ⟨_, _, _, k4⟩ := waE_ok hw'
  obtain ⟨s, e, hs⟩ := trip_easier (fun s => good_easier c hb hn s) (show 0 < h'.toNat by omega) (show h'.toNat ≤ h.toNat by omega) ht
  refine ⟨s, ?_, hs⟩
  rw [f64_eq, if_neg (by simpa using hw'), e]

theorem waE_easier {c : List (List Int)} {b n h b' n' h' : Int} (hw : waE c b n h = 0) (hb : 0 ≤ b' ∧ b' ≤ b) (hn : 1 ≤ n' ∧ n' ≤ n) (hh : 1 ≤ h' ∧ h' ≤ h) : waE c b' n' h' = 0 := by
  obtain ⟨k1, k2, k3, k4⟩ := waE_ok hw
  unfold waE
  have h1 : wi 0 100000 b' = true := wi_iff.2 (by omega)
  have h2 : wi 1 (c.length : Int) n' = true := wi_iff.2 (by omega)
  have h3 : wi 1 60 h' = true := wi_iff.2 (by omega)
  simp only [k1, h1, h2, h3, ne_eq, not_true_eq_false, if_false, Bool.and_self, if_true]

theorem mx1 (a x : Int) (ha : 0 ≤ a) (h0 : a ≤ x) (h1 : x ≤ 100000) : (if a < IntKind.wrap .i64 (x - 1) then IntKind.wrap .i64 (x - 1) else a) = if a < x - 1 then x - 1 else a := by
  rw [← wrap64_eq, wrap64_id (by omega) (by omega)]

theorem mx2 (a x : Int) (h0 : a ≤ x) : a ≤ (if a < x - 1 then x - 1 else a) ∧ (if a < x - 1 then x - 1 else a) ≤ x := by
  by_cases h : a < x - 1
  · rw [if_pos h]; omega
  · rw [if_neg h]; omega

theorem l9 (c : List (List Int)) (t : Nat) (a1 a2 a3 a4 a5 a6 a7 a8 a9 : Int) (h : c.length ≤ 1000) (hc : ∀ i, (ch c i).length ≤ 1000)
    (h1 : ∃ s : Nat, f64 (c, (a1, a2, a3, ()), ()) = some ((s : Int), (0 : Int), ()) ∧ s ≤ t)
    (h2 : ∃ s : Nat, f64 (c, (a4, a5, a6, ()), ()) = some ((s : Int), (0 : Int), ()) ∧ s ≤ t)
    (h3 : ∃ s : Nat, f64 (c, (a7, a8, a9, ()), ()) = some ((s : Int), (0 : Int), ()) ∧ s ≤ t) :
    l9_0 ((c, (t : Int), (0 : Int), ()), (a1, a2, a3, a4, a5, a6, a7, a8, a9, ()), ()) = some (.inl ((), (a1, a2, a3, a4, a5, a6, a7, a8, a9, ()), ())) := by
  have e0 := f46_eq c h hc
  refine itr_brk (fun i => ((c, (t : Int), (i : Int), ()), (a1, a2, a3, a4, a5, a6, a7, a8, a9, ()), ())) (n := 3) ?_ ?_ (lt_rounds (by omega))
  · intro i hi
    obtain ⟨s1, p1, q1⟩ := h1
    obtain ⟨s2, p2, q2⟩ := h2
    obtain ⟨s3, p3, q3⟩ := h3
    have w1 : (s1 : Int) ≤ (t : Int) := by omega
    have w2 : (s2 : Int) ≤ (t : Int) := by omega
    have w3 : (s3 : Int) ≤ (t : Int) := by omega
    simp only [s9_0, t9_0, Tr.val_test, Tr.val_fin, Tr.val_stop, leF_eq, eqF_eq, Int.toNat_natCast, wrap64_nat (show i ≤ 9223372036854775806 by omega), g46, e0, Option.isSome_some, Option.getD_some, if_true]
    rw [if_pos (by simp; omega), if_pos (by simp; omega), if_pos (by simp only [ble_eq_true']; omega)]
    match i, hi with
    | 0, _ =>
      simp only [Nat.zero_mul, Nat.zero_add, Nat.add_zero, List.getD_cons_zero, List.getD_cons_succ, g64, p1, w1, Option.isSome_some, Option.getD_some, if_true, decide_true, Bool.not_true, Bool.false_eq_true, if_false]
    | 1, _ =>
      simp only [Nat.one_mul, Nat.zero_add, Nat.add_zero, List.getD_cons_zero, List.getD_cons_succ, g64, p2, w2, Option.isSome_some, Option.getD_some, if_true, decide_true, Bool.not_true, Bool.false_eq_true, if_false]
    | 2, _ =>
      simp only [Nat.reduceMul, Nat.zero_add, Nat.add_zero, Nat.reduceAdd, List.getD_cons_zero, List.getD_cons_succ, g64, p3, w3, Option.isSome_some, Option.getD_some, if_true, decide_true, Bool.not_true, Bool.false_eq_true, if_false]
  · simp [s9_0, t9_0, leF_eq]

/-! The law. -/

theorem f9_eq (c : List (List Int)) (b n h s : Int) (hlen : c.length ≤ 9223372036854775807) : f9 (c, (b, n, h, ()), s, ()) = some (true, ()) := by
  have e1 := f56_eq c hlen
  by_cases hf : fits c = true
  rotate_left
  · have hf' : fits c = false := by simpa using hf
    rw [hf'] at e1
    simp only [f9, t9, Tr.val_test, Tr.val_fin, Tr.val_stop, g56, e1, Option.isSome_some, Option.getD_some, Bool.not_false, ↓reduceIte]
  obtain ⟨hc9, hc62⟩ := fits_ok hf
  rw [hf] at e1
  have e2 := f46_eq c (by omega) (fun i => by have := hc62 i; omega)
  have e3 := f64_eq c b n h
  have e4 := f65_eq c b n h s hc62
  have e5 := f66_eq c b n h
  by_cases hw : waE c b n h = 0
  rotate_left
  · have nd : decide (waE c b n h = 0) = false := by simpa using hw
    rw [if_pos (by simpa using hw)] at e3 e4
    simp only [f9, t9, Tr.val_test, Tr.val_fin, Tr.val_stop, g56, e1, g46, e2, g64, e3, g65, e4, g66, e5, Option.isSome_some, Option.getD_some, eqF_eq, nd, decide_true, Bool.not_true, Bool.not_false, Bool.false_eq_true, List.length_nil, ↓reduceIte]
    rfl
  obtain ⟨k1, k2, k3, k4⟩ := waE_ok hw
  obtain ⟨k5, k6, k7⟩ := chE_ok k1
  have kr := (rawE_ok (k7 0 k5).1).2.1
  obtain ⟨H, rfl⟩ : ∃ H : Nat, h = (H : Int) := ⟨h.toNat, by omega⟩
  rw [if_neg (by simpa using hw)] at e3 e4
  rw [hw] at e5
  have e0 : (true && decide ((0 : Int) < (c.length : Int))) = true := by simp; omega
  have e6 := f68_eq c b n H hw
  have hL := hc62 0
  have hv : wrap64 ((((List.getD c 0 []).length : Nat) : Int) - 1) = ((ch c 0).length - 1 : Int) := wrap64_id (by simp only [ch] at hL; omega) (by simp only [ch] at hL; omega)
  have e7 := f22_eq (s, (0 : Int), ((ch c 0).length - 1 : Int), ())
  have m1 := mx1 0 b (by omega) k2.1 k2.2
  have m2 := mx1 1 n (by omega) k3.1 (by omega)
  have m3 := mx1 1 (H : Int) (by omega) k4.1 (by omega)
  have b1 := mx2 0 b k2.1
  have b2 := mx2 1 n k3.1
  have b3 := mx2 1 (H : Int) k4.1
  -- behind the voters
  cases ht : trip (good c b n) H (ch c 0).length with
  | none =>
    simp only [Int.toNat_natCast, ht] at e3 e6
    by_cases hs : wi 0 ((ch c 0).length - 1 : Int) s = true
    · have hs2 := wi_iff.1 hs
      obtain ⟨S, rfl⟩ : ∃ S : Nat, s = (S : Int) := ⟨s.toNat, by omega⟩
      have e8 := f67_eq c b n (H : Int) S (by omega) (fun i hi => ch_bounds k1 i hi S (by omega))
      have e9 := f35_self (vote c b S c.length) (by have := vote_len c b S c.length; omega)
      rw [if_pos hs] at e4
      simp only [hs] at e7
      simp only [Int.toNat_natCast] at e4
      simp only [f9, t9, Tr.val_test, Tr.val_fin, Tr.val_stop, g56, e1, g46, e2, g64, e3, g65, e4, g66, e5, g22, e7, g67, e8, g35, e9, g68, e6, hv, e0, Option.isSome_some, Option.getD_some, eqF_eq, decide_true, Bool.not_true, Bool.not_false, Bool.false_eq_true, List.length_nil, ↓reduceIte]
    · have hs' : wi 0 ((ch c 0).length - 1 : Int) s = false := by simpa using hs
      rw [if_neg hs] at e4
      simp only [hs'] at e7
      simp only [f9, t9, Tr.val_test, Tr.val_fin, Tr.val_stop, g56, e1, g46, e2, g64, e3, g65, e4, g66, e5, g22, e7, g68, e6, hv, e0, Option.isSome_some, Option.getD_some, eqF_eq, decide_true, Bool.not_true, Bool.not_false, Bool.false_eq_true, List.length_nil, Int.natCast_zero, ↓reduceIte]
  | some t =>
    have ht' : trip (good c b n) ((H : Int)).toNat (ch c 0).length = some t := by simpa using ht
    simp only [Int.toNat_natCast, ht] at e3 e6
    have x1 := f64_easier c hw (waE_easier hw b1 ⟨k3.1, Int.le_refl _⟩ ⟨k4.1, Int.le_refl _⟩) b1.2 (Int.le_refl _) (Int.le_refl _) ht'
    have x2 := f64_easier c hw (waE_easier hw ⟨k2.1, Int.le_refl _⟩ b2 ⟨k4.1, Int.le_refl _⟩) (Int.le_refl _) b2.2 (Int.le_refl _) ht'
    have x3 := f64_easier c hw (waE_easier hw ⟨k2.1, Int.le_refl _⟩ ⟨k3.1, Int.le_refl _⟩ b3) (Int.le_refl _) (Int.le_refl _) b3.2 ht'
    have e10 := l9 c t _ _ _ _ _ _ _ _ _ (by omega) (fun i => by have := hc62 i; omega) x1 x2 x3
    by_cases hs : wi 0 ((ch c 0).length - 1 : Int) s = true
    · have hs2 := wi_iff.1 hs
      obtain ⟨S, rfl⟩ : ∃ S : Nat, s = (S : Int) := ⟨s.toNat, by omega⟩
      have e8 := f67_eq c b n (H : Int) S (by omega) (fun i hi => ch_bounds k1 i hi S (by omega))
      have e9 := f35_self (vote c b S c.length) (by have := vote_len c b S c.length; omega)
      rw [if_pos hs] at e4
      simp only [hs] at e7
      simp only [Int.toNat_natCast] at e4
      simp only [f9, t9, Tr.val_test, Tr.val_fin, Tr.val_stop, g56, e1, g46, e2, g64, e3, g65, e4, g66, e5, g22, e7, g67, e8, g35, e9, g68, e6, hv, e0, m1, m2, m3, e10, isRet, Option.isSome_some, Option.getD_some, eqF_eq, decide_true, Bool.not_true, Bool.not_false, Bool.false_eq_true, List.length_nil, ↓reduceIte]
    · have hs' : wi 0 ((ch c 0).length - 1 : Int) s = false := by simpa using hs
      rw [if_neg hs] at e4
      simp only [hs'] at e7
      simp only [f9, t9, Tr.val_test, Tr.val_fin, Tr.val_stop, g56, e1, g46, e2, g64, e3, g65, e4, g66, e5, g22, e7, g68, e6, hv, e0, m1, m2, m3, e10, isRet, Option.isSome_some, Option.getD_some, eqF_eq, decide_true, Bool.not_true, Bool.not_false, Bool.false_eq_true, List.length_nil, Int.natCast_zero, ↓reduceIte]

theorem law9 (d : Tys.data as9) (hw : Tys.Wf as9 d) : Pure1 Go.Proofs.Try.prog 9 as9 [.bool] d (true, ()) := by
  have hl : List.length d.1 ≤ 9223372036854775807 := hw.1.1
  have h := f9_eq d.1 d.2.1.1 d.2.1.2.1 d.2.1.2.2.1 d.2.2.1 hl
  have hp : p9.pre d = true := by
    show Option.isSome (f9 d) = true
    rw [show f9 d = some (true, ()) from h]; rfl
  have hg : p9.fn d = (true, ()) := by
    show (f9 d).getD _ = _
    rw [show f9 d = some (true, ()) from h]; rfl
  have := ok9.runs d hp
  rw [hg] at this
  exact this

end Go.Vm.Mo
