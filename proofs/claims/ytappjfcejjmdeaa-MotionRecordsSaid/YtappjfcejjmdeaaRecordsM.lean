import Derived.Test.YtappjfcejjmdeaaRecordsF
import Derived.Test.YtappjfcejjmdeaaA4
set_option linter.unusedVariables false
set_option linter.unusedSimpArgs false

namespace Go.Vm.Mo
open Go
set_option linter.unusedVariables false

/-! ### Running sums -/

def accW (l : List Int) : Nat → Int
  | 0 => 0
  | i + 1 => wrap64 (accW l i + l.getD i 0)
def sumsL (l : List Int) (n : Nat) : List Int := (List.range n).map fun i => accW l (i + 1)

theorem sumsL_len (l : List Int) (n : Nat) : (sumsL l n).length = n := by simp [sumsL]
theorem sumsL_succ (l : List Int) (n : Nat) : sumsL l (n + 1) = sumsL l n ++ [accW l (n + 1)] := by simp [sumsL, List.range_succ]
theorem sumsL_get (l : List Int) {n i : Nat} (h : i < n) : (sumsL l n).getD i 0 = accW l (i + 1) := by simp [sumsL, List.getD, h]

/-- Sums, exact. -/
def accE (l : List Int) : Nat → Int
  | 0 => 0
  | i + 1 => accE l i + l.getD i 0
def accE2 (l : List Int) : Nat → Int
  | 0 => 0
  | i + 1 => accE2 l i + accE l (i + 1)

theorem accW_eq (l : List Int) : ∀ i, accW l i = wrap64 (accE l i)
  | 0 => by simp [accW, accE, wrap64_bmod]
  | i + 1 => by rw [accW, accE, accW_eq l i, wrap64_add_l]

theorem accW2_eq (l : List Int) {n : Nat} : ∀ i, i ≤ n → accW (sumsL l n) i = wrap64 (accE2 l i)
  | 0, _ => by simp [accW, accE2, wrap64_bmod]
  | i + 1, h => by rw [accW, accE2, accW2_eq l i (by omega), sumsL_get l (by omega), accW_eq, wrap64_add_l, wrap64_add_r]

/-- The weighted sum. -/
def wsum (l : List Int) (n : Int) : Nat → Int
  | 0 => 0
  | i + 1 => wsum l n i + (n - i) * l.getD i 0

theorem wsum_eq (l : List Int) (n : Int) : ∀ i : Nat, wsum l n i = accE2 l i + (n - i) * accE l i
  | 0 => by simp [wsum, accE2, accE]
  | i + 1 => by
    rw [wsum, wsum_eq l n i, accE2, accE]
    have e : (n - ((i + 1 : Nat) : Int)) = (n - i) - 1 := by omega
    rw [e, Int.sub_mul _ 1, Int.one_mul, Int.mul_add]
    omega

theorem l91 (l : List Int) (h : l.length ≤ 1000000000) : l91_0 ((l, [], (0 : Int), (0 : Int), ()), ()) = some (.inl ((sumsL l l.length, ()), ())) := by
  refine itr_brk (fun i => ((l, sumsL l i, accW l i, (i : Int), ()), ())) (n := l.length) ?_ ?_ (lt_rounds (by omega))
  · intro i hi
    simp only [s91_0, t91_0, Tr.val_test, Tr.val_fin, leF_eq]
    rw [if_pos (by simp; omega), if_pos (by simp; omega), if_pos (by simp [sumsL_len]; omega)]
    simp only [Int.toNat_natCast, sumsL_succ, wrap64_nat (show i ≤ 9223372036854775806 by omega), accW]
  · simp [s91_0, t91_0, leF_eq]

theorem f91_eq (l : List Int) (h : l.length ≤ 1000000000) : f91 (l, ()) = some (sumsL l l.length, ()) := by
  simp only [f91, t91, b91_0, l91 l h, Tr.val_test, isBrk, if_true, outB]; rfl

theorem l89 (l : List Int) (h : l.length ≤ 1000000000) : l89_0 (([], (0 : Int), l, (l.length : Int), (0 : Int), ()), ()) = some (.inl ((sumsL l l.length, ()), ())) := by
  refine itr_brk (fun i => ((sumsL l i, accW l i, l, (l.length : Int), (i : Int), ()), ())) (n := l.length) ?_ ?_ (lt_rounds (by omega))
  · intro i hi
    simp only [s89_0, t89_0, Tr.val_test, Tr.val_fin, leF_eq]
    rw [if_pos (by simp; omega), if_pos (by simp; omega), if_pos (by simp [sumsL_len]; omega)]
    simp only [Int.toNat_natCast, sumsL_succ, wrap64_nat (show i ≤ 9223372036854775806 by omega), accW]
  · simp [s89_0, t89_0, leF_eq]

theorem f89_eq (l : List Int) (h : l.length ≤ 1000000000) : f89 (l, ()) = some (sumsL l l.length, ()) := by
  simp only [f89, t89, b89_0, l89 l h, Tr.val_test, isBrk, if_true, outB]; rfl

theorem f24_eq (l : List Int) (h : l.length ≤ 1000000000) : f24 (l, ()) = some (sumsL l l.length, ()) := by
  simp only [f24, t24, g91, f91_eq l h, Tr.val_test, Option.isSome, if_true, Option.getD]; rfl

theorem f25_eq (l : List Int) (h : l.length ≤ 1000000000) : f25 (l, ()) = some (sumsL (sumsL l l.length) l.length, ()) := by
  have h2 := f91_eq (sumsL l l.length) (by rw [sumsL_len]; exact h)
  rw [sumsL_len] at h2
  simp only [f25, t25, g91, f91_eq l h, h2, Tr.val_test, Option.isSome, if_true, Option.getD]; rfl

/-! ### Ends -/

theorem l90 (l : List Int) (h : l.length ≤ 1000000000) : l90_0 ((l, (l.length : Int), (0 : Int), ()), ((0 : Int), (0 : Int), ()), ((0 : Int), (0 : Int), ()), ()) = some (.inl ((), ((0 : Int), (0 : Int), ()), (wrap64 (accE l l.length), wrap64 (accE2 l l.length), ()), ())) := by
  refine itr_brk (fun i => ((l, (l.length : Int), (i : Int), ()), ((0 : Int), (0 : Int), ()), (wrap64 (accE l i), wrap64 (accE2 l i), ()), ())) (n := l.length) ?_ ?_ (lt_rounds (by omega))
  · intro i hi
    simp only [s90_0, t90_0, Tr.val_test, Tr.val_fin, leF_eq]
    rw [if_pos (by simp; omega), if_pos (by simp; omega)]
    simp only [Int.toNat_natCast, wrap64_nat (show i ≤ 9223372036854775806 by omega), wrap64_add_l, wrap64_add_r, accE, accE2]
  · simp [s90_0, t90_0, leF_eq]

theorem f90_eq (l : List Int) (h : l.length ≤ 1000000000) : f90 (l, ()) = some ((wrap64 (accE l l.length), wrap64 (accE2 l l.length), ()), ()) := by
  simp only [f90, t90, b90_0, l90 l h, Tr.val_test, isBrk, if_true, outB]; rfl

theorem l26 (l : List Int) (h : l.length ≤ 1000000000) : l26_0 ((l, (0 : Int), ()), ((0 : Int), (0 : Int), ()), ((0 : Int), (0 : Int), ()), ()) = some (.inl ((), ((0 : Int), (0 : Int), ()), (wrap64 (accE l l.length), wrap64 (wsum l l.length l.length), ()), ())) := by
  refine itr_brk (fun i => ((l, (i : Int), ()), ((0 : Int), (0 : Int), ()), (wrap64 (accE l i), wrap64 (wsum l l.length i), ()), ())) (n := l.length) ?_ ?_ (lt_rounds (by omega))
  · intro i hi
    simp only [s26_0, t26_0, Tr.val_test, Tr.val_fin, leF_eq]
    rw [if_pos (by simp; omega), if_pos (by simp; omega)]
    simp only [Int.toNat_natCast, wrap64_nat (show i ≤ 9223372036854775806 by omega), wrap64_add_l, wrap64_add_r, wrap64_mul_l, accE, wsum]
  · simp [s26_0, t26_0, leF_eq]

theorem f26_eq (l : List Int) (h : l.length ≤ 1000000000) : f26 (l, ()) = some ((wrap64 (accE l l.length), wrap64 (accE2 l l.length), ()), ()) := by
  have : wsum l l.length l.length = accE2 l l.length := by rw [wsum_eq]; simp
  simp only [f26, t26, b26_0, l26 l h, Tr.val_test, isBrk, if_true, outB, this]; rfl

/-! ### Lists that are the same -/

theorem l23 (l : List Int) (h : l.length ≤ 1000000000) : l23_0 ((l, l, (0 : Int), ()), ()) = some (.inl ((), ())) := by
  refine itr_brk (fun i => ((l, l, (i : Int), ()), ())) (n := l.length) ?_ ?_ (lt_rounds (by omega))
  · intro i hi
    simp only [s23_0, t23_0, Tr.val_test, Tr.val_fin, leF_eq, eqF_eq]
    rw [if_pos (by simp; omega), if_pos (by simp; omega), if_pos (by simp; omega), if_neg (by simp)]
    simp only [wrap64_nat (show i ≤ 9223372036854775806 by omega)]
  · simp [s23_0, t23_0, leF_eq]

theorem f23_self (l : List Int) (h : l.length ≤ 1000000000) : f23 (l, l, ()) = some (true, ()) := by
  simp only [f23, t23, l23 l h, Tr.val_test, isRet, eqF_eq, decide_true, Bool.not_true, Bool.false_eq_true, if_false, Option.isSome, if_true]; rfl

/-! ### Records that are checked -/

def badS (l : List Int) (i : Nat) : Bool := !(decide (-1000 ≤ l.getD i 0) && decide (l.getD i 0 ≤ 1000))

def chk (x : Int) (l : List Int) : Int × Int :=
  if x < 1 ∨ 1000000 < x then (0, 2)
  else if l.length < 2 then (0, 10)
  else if 24 < l.length then (0, 8)
  else match first (badS l) l.length 0 with
    | some k => (k, 2)
    | none => (0, 0)

theorem f47_eq (d : Tys.data as47) : f47 d = some (decide ((d.2.1 : Int) ≤ d.1) && decide ((d.1 : Int) ≤ d.2.2.1), ()) := by
  simp only [f47, t47, Tr.val_test, leF_eq, decide_eq_true_eq]
  split <;> simp [*]

theorem f54_eq (d : Tys.data as54) : f54 d = some (decide ((-1000 : Int) ≤ d.1) && decide (d.1 ≤ (1000 : Int)), ()) := by
  simp only [f54, t54, g47, f47_eq, Tr.val_test, Option.isSome, if_true, Option.getD]; rfl

theorem l22 (x : Int) (l : List Int) (h : l.length ≤ 1000000000) : l22_0 (((0 : Int), ()), (x, l, ()), ()) = match first (badS l) l.length 0 with
    | some k => some (.inr (((k : Int), (2 : Int), ()), (x, l, ()), ()))
    | none => some (.inl ((), (x, l, ()), ())) := by
  refine itr_search (fun i => (((i : Int), ()), (x, l, ()), ())) (badS l) (fun k => (((k : Int), (2 : Int), ()), (x, l, ()), ())) (n := l.length) ?_ ?_ (lt_rounds (by omega))
  · intro i hi
    simp only [s22_0, t22_0, Tr.val_test, leF_eq, g54, f54_eq, Option.isSome, if_true, Option.getD]
    rw [if_pos (by simp; omega), if_pos (by simp; omega)]
    simp only [Int.toNat_natCast, wrap64_nat (show i ≤ 9223372036854775806 by omega), badS]
    rfl
  · simp [s22_0, t22_0, leF_eq]

theorem f22_eq (x : Int) (l : List Int) (h : l.length ≤ 1000000000) : f22 ((x, l, ()), ()) = some ((chk x l).1, (chk x l).2, ()) := by
  simp only [f22, t22, g47, f47_eq, Tr.val_test, leF_eq, Option.isSome, if_true, Option.getD, r22_0, l22 x l h]
  unfold chk
  by_cases h1 : x < 1 ∨ 1000000 < x
  · rw [if_pos h1, if_pos (by simp; omega)]; rfl
  · rw [if_neg h1, if_neg (by simp; omega)]
    by_cases h2 : l.length < 2
    · rw [if_pos h2, if_pos (by simp; omega)]; rfl
    · rw [if_neg h2, if_neg (by simp; omega)]
      by_cases h3 : 24 < l.length
      · rw [if_pos h3, if_pos (by simp; omega)]; rfl
      · rw [if_neg h3, if_neg (by simp; omega)]
        cases first (badS l) l.length 0 with
        | none => rfl
        | some k => rfl

theorem f86_eq (d : Tys.data as86) : f86 d = some (if d.1 = true then d.2.1 else (0 : Int), ()) := by
  simp only [f86, t86, Tr.val_test]
  split <;> rfl

theorem l94 (x : Int) : l94_0 (((-1000 : Int), (1000 : Int), ((1 : Nat), (1 : Nat)), (1 : Int), (0 : Int), ()), [x], ()) =
    if (decide (-1000 ≤ x) && decide (x ≤ 1000)) = true then some (.inl ((), [x], ())) else some (.inr ((false, ()), [x], ())) := by
  have h := itr_search (step := s94_0) (fun i => (((-1000 : Int), (1000 : Int), ((1 : Nat), (1 : Nat)), (1 : Int), (i : Int), ()), [x], ())) (fun _ => !(decide (-1000 ≤ x) && decide (x ≤ 1000))) (fun _ => ((false, ()), [x], ())) (n := 1) (m := rounds) (b := ((), [x], ())) ?_ ?_ (lt_rounds (by omega))
  · refine Eq.trans h ?_
    simp only [first]
    by_cases hx : (decide (-1000 ≤ x) && decide (x ≤ 1000)) = true <;> simp [hx]
  · intro i hi
    obtain rfl : i = 0 := by omega
    simp only [s94_0, t94_0, Tr.val_test, leF_eq]
    rw [if_pos (by simp), if_pos (by simp), if_pos (by rfl)]
    by_cases h1 : -1000 ≤ x <;> by_cases h2 : x ≤ 1000 <;> simp [h1, h2] <;> rfl
  · simp [s94_0, t94_0, leF_eq]

theorem l106 (l : List Int) (h : l.length ≤ 1000000000) : l106_0 ((l, (l.length : Int), (0 : Int), ()), ()) = match first (badS l) l.length 0 with
    | some k => some (.inr (((k : Int), (2 : Int), ()), ()))
    | none => some (.inl ((), ())) := by
  refine itr_search (fun i => ((l, (l.length : Int), (i : Int), ()), ())) (badS l) (fun k => (((k : Int), (2 : Int), ()), ())) (n := l.length) ?_ ?_ (lt_rounds (by omega))
  · intro i hi
    simp only [s106_0, t106_0, Tr.val_test, leF_eq, eqF_eq, r94_0, g86, f86_eq, Int.toNat_natCast, l94 (l.getD i 0)]
    rw [if_pos (by simp; omega), if_pos (by simp; omega)]
    simp only [wrap64_nat (show i ≤ 9223372036854775806 by omega)]
    unfold badS
    by_cases hx : (decide (-1000 ≤ l.getD i 0) && decide (l.getD i 0 ≤ 1000)) = true
    · rw [hx]; simp [isRet]
    · simp only [Bool.not_eq_true] at hx
      rw [hx]; simp [isRet, outR]
  · simp [s106_0, t106_0, leF_eq]

/-- Where the first bad sample lies, and its error. -/
def badAt (l : List Int) : Int × Int := match first (badS l) l.length 0 with
  | some k => (k, 2)
  | none => (0, 0)

theorem f87_eq (l : List Int) (h : l.length ≤ 1000000000) : f87 (l, ()) = some ((badAt l).1, (badAt l).2, ()) := by
  simp only [f87, t87, Tr.val_test, r106_0, l106 l h, badAt]
  cases first (badS l) l.length 0 with
  | none => rfl
  | some k => rfl

/-- The first that is not 0. -/
def firstNZ : List Int → Int
  | [] => 0
  | a :: l => if a = 0 then firstNZ l else a

theorem first_map {bad : Nat → Bool} : ∀ (n i : Nat), first bad n (i + 1) = (first (fun j => bad (j + 1)) n i).map (· + 1)
  | 0, _ => rfl
  | n + 1, i => by
    simp only [first]
    split
    · rfl
    · exact first_map n (i + 1)

theorem firstNZ_eq : ∀ l : List Int, (match first (fun i => !decide (l.getD i 0 = 0)) l.length 0 with
    | some k => l.getD k 0
    | none => 0) = firstNZ l
  | [] => rfl
  | a :: l => by
    simp only [List.length, first, firstNZ]
    by_cases ha : a = 0
    · subst ha
      have e := firstNZ_eq l
      have hf : first (fun i => !decide (((0 : Int) :: l).getD i 0 = 0)) l.length (0 + 1) = (first (fun i => !decide (l.getD i 0 = 0)) l.length 0).map (· + 1) := by
        rw [first_map]; rfl
      simp only [hf, List.getD_cons_zero, decide_true, Bool.not_true, Bool.false_eq_true, if_false, if_true]
      rw [← e]
      cases first (fun i => !decide (l.getD i 0 = 0)) l.length 0 with
      | none => rfl
      | some k => rfl
    · simp [ha]

theorem l85 (l : List Int) (h : l.length ≤ 1000000000) : l85_0 ((l, (l.length : Int), (0 : Int), ()), ()) = match first (fun i => !decide (l.getD i 0 = 0)) l.length 0 with
    | some k => some (.inr ((l.getD k 0, ()), ()))
    | none => some (.inl ((), ())) := by
  refine itr_search (fun i => ((l, (l.length : Int), (i : Int), ()), ())) (fun i => !decide (l.getD i 0 = 0)) (fun k => ((l.getD k 0, ()), ())) (n := l.length) ?_ ?_ (lt_rounds (by omega))
  · intro i hi
    simp only [s85_0, t85_0, Tr.val_test, leF_eq, eqF_eq]
    rw [if_pos (by simp; omega), if_pos (by simp; omega)]
    simp only [Int.toNat_natCast, wrap64_nat (show i ≤ 9223372036854775806 by omega)]
    rfl
  · simp [s85_0, t85_0, leF_eq]

theorem f85_eq (l : List Int) (h : l.length ≤ 1000000000) : f85 (l, ()) = some (firstNZ l, ()) := by
  simp only [f85, t85, Tr.val_test, r85_0, l85 l h, ← firstNZ_eq l]
  cases first (fun i => !decide (l.getD i 0 = 0)) l.length 0 with
  | none => rfl
  | some k => rfl

theorem f17_eq (x : Int) (l : List Int) (h : l.length ≤ 1000000000) : f17 ((x, l, ()), ()) = some ((chk x l).1, (chk x l).2, ()) := by
  have e := fun a b c : Int => f85_eq [a, b, c] (by simp)
  have hc : chk x l = if x < 1 ∨ 1000000 < x then (0, 2) else if l.length < 2 then (0, 10) else if 24 < l.length then (0, 8) else badAt l := rfl
  simp only [f17, t17, Tr.val_test, leF_eq, eqF_eq, g86, f86_eq, g87, f87_eq l h, g85, Option.isSome_some, Option.getD_some, if_true]
  rw [e, e, hc]
  simp only [Option.isSome_some, Option.getD_some, if_true, firstNZ]
  by_cases h1 : x < 1
  · have h1' : ¬ 1 ≤ x := by omega
    simp [h1, h1']
  · have h1' : 1 ≤ x := by omega
    by_cases h2 : 1000000 < x
    · have h2' : ¬ x ≤ 1000000 := by omega
      simp [h1', h2, h2']
    · have h2' : x ≤ 1000000 := by omega
      by_cases h3 : l.length < 2
      · have h3' : ¬ (2 : Int) ≤ l.length := by omega
        simp [h1, h1', h2, h2', h3, h3']
      · have h3' : (2 : Int) ≤ l.length := by omega
        by_cases h4 : 24 < l.length
        · have h4' : ¬ (l.length : Int) ≤ 24 := by omega
          simp [h1, h1', h2, h2', h3, h3', h4, h4']
        · have h4' : (l.length : Int) ≤ 24 := by omega
          simp [h1, h1', h2, h2', h3, h3', h4, h4']

theorem f88_eq (x : Int) (l : List Int) (h : l.length ≤ 1000000000) : f88 ((x, l, ()), ()) = some ((chk x l).2, ()) := by
  simp only [f88, t88, Tr.val_test, g17, f17_eq x l h, Option.isSome_some, Option.getD_some, if_true, Tr.val_fin]

theorem f19_eq (x : Int) (l : List Int) (h : l.length ≤ 1000000000) : f19 ((x, l, ()), ()) = some (if (chk x l).2 = 0 then sumsL l l.length else [], (chk x l).2, ()) := by
  simp only [f19, t19, Tr.val_test, g88, f88_eq x l h, g89, f89_eq l h, eqF_eq, Option.isSome_some, Option.getD_some, if_true, Tr.val_fin]
  by_cases h0 : (chk x l).2 = 0 <;> simp [h0]

theorem f20_eq (x : Int) (l : List Int) (h : l.length ≤ 1000000000) : f20 ((x, l, ()), ()) = some (if (chk x l).2 = 0 then sumsL (sumsL l l.length) l.length else [], (chk x l).2, ()) := by
  have h2 := f89_eq (sumsL l l.length) (by rw [sumsL_len]; exact h)
  rw [sumsL_len] at h2
  simp only [f20, t20, Tr.val_test, g88, f88_eq x l h, g89, f89_eq l h, h2, eqF_eq, Option.isSome_some, Option.getD_some, if_true, Tr.val_fin]
  by_cases h0 : (chk x l).2 = 0 <;> simp [h0]

theorem f21_eq (x : Int) (l : List Int) (h : l.length ≤ 1000000000) : f21 ((x, l, ()), ()) = some (if (chk x l).2 = 0 then (wrap64 (accE l l.length), wrap64 (accE2 l l.length), ()) else (0, 0, ()), (chk x l).2, ()) := by
  simp only [f21, t21, Tr.val_test, g88, f88_eq x l h, g90, f90_eq l h, eqF_eq, Option.isSome_some, Option.getD_some, if_true, Tr.val_fin]
  by_cases h0 : (chk x l).2 = 0 <;> simp [h0]

theorem f70_eq (l : List Int) (h : l.length ≤ 1000000000) : f70 (l, ()) = some (l, ()) := by
  simp only [f70, t70, Tr.val_test, Tr.val_fin]
  by_cases h0 : l.length = 0
  · rw [List.eq_nil_of_length_eq_zero h0]; rfl
  · rw [if_neg (by simp [h0]), if_neg (by rw [ble_eq_true']; omega), if_pos (by simp; omega), if_pos (by simp)]
    rfl

theorem f18_eq (x : Int) (l : List Int) (h : l.length ≤ 1000000000) : f18 ((x, l, ()), ()) = some ((x, l, ()), ()) := by
  simp only [f18, t18, Tr.val_test, g70, f70_eq l h, Option.isSome_some, Option.getD_some, if_true, Tr.val_fin]

theorem f16_eq (x : Int) (l : List Int) : f16 ((x, l, ()), ()) = some (decide (l.length ≤ 26), ()) := by
  have : decide ((l.length : Int) ≤ 26) = decide (l.length ≤ 26) := decide_eq_decide.2 (by omega)
  simp only [f16, t16, leF_eq, Tr.val_fin, this]

theorem sums_last (l : List Int) (h : 0 < l.length) : (sumsL l l.length).getD (l.length - 1) 0 = wrap64 (accE l l.length) := by
  rw [sumsL_get l (by omega), accW_eq, Nat.sub_add_cancel h]

theorem sums2_last (l : List Int) (h : 0 < l.length) : (sumsL (sumsL l l.length) l.length).getD (l.length - 1) 0 = wrap64 (accE2 l l.length) := by
  rw [sumsL_get _ (by omega), Nat.sub_add_cancel h, accW2_eq l _ (Nat.le_refl _)]

theorem chk_len {x : Int} {l : List Int} (h : (chk x l).2 = 0) : 2 ≤ l.length := by
  unfold chk at h
  split at h
  · cases h
  · split at h
    · cases h
    · omega

theorem f3_eq (x : Int) (l : List Int) : f3 ((x, l, ()), ()) = some (true, ()) := by
  simp only [f3, t3, Tr.val_test, g16, f16_eq x l, Option.isSome_some, Option.getD_some, if_true]
  by_cases h : l.length ≤ 26
  · rw [if_neg (by simp [h])]
    have h9 : l.length ≤ 1000000000 := by omega
    have hs := f23_self (sumsL l l.length) (by rw [sumsL_len]; exact h9)
    have hs2 := f23_self (sumsL (sumsL l l.length) l.length) (by rw [sumsL_len]; exact h9)
    simp only [g18, f18_eq x l h9, g17, f17_eq x l h9, g19, f19_eq x l h9, g20, f20_eq x l h9, g21, f21_eq x l h9, g22, f22_eq x l h9, g24, f24_eq l h9, g25, f25_eq l h9, g26, f26_eq l h9, eqF_eq, Option.isSome_some, Option.getD_some, if_true, Tr.val_fin]
    by_cases h0 : (chk x l).2 = 0
    · have h2 := chk_len h0
      have hw : wrap64 ((l.length : Int) - 1) = ((l.length - 1 : Nat) : Int) := by rw [wrap64_id] <;> omega
      simp only [h0, decide_true, Bool.not_true, Bool.false_eq_true, if_false, if_true, g23, hs, hs2, Option.isSome_some, Option.getD_some, sumsL_len, hw, Int.toNat_natCast]
      have e1 := sums_last l (by omega)
      have e2 := sums2_last l (by omega)
      rw [List.getD_eq_getElem?_getD] at e1 e2
      have e3 : l.length - 1 < l.length := by omega
      simp [e1, e2, e3]
    · simp [h0]
  · rw [if_pos (by simp [h])]; rfl

theorem law3 (d : Tys.data as3) : Pure1 Go.Proofs.Try.prog 3 as3 [.bool] d (true, ()) := by
  have h := f3_eq d.1.1 d.1.2.1
  have hp : p3.pre d = true := by
    show Option.isSome (f3 d) = true
    rw [show f3 d = some (true, ()) from h]; rfl
  have hg : p3.fn d = (true, ()) := by
    show (f3 d).getD _ = _
    rw [show f3 d = some (true, ()) from h]; rfl
  have := ok3.runs d hp
  rw [hg] at this
  exact this

end Go.Vm.Mo
