import Derived.Test.YtappjfcejjmdeaaWavesG
import Derived.Test.YtappjfcejjmdeaaA4
set_option linter.unusedVariables false
set_option linter.unusedSimpArgs false

namespace Go.Vm.Mo
open Go
set_option linter.unusedVariables false

def accW (l : List Int) : Nat → Int
  | 0 => 0
  | i + 1 => wrap64 (accW l i + l.getD i 0)

def sumsL (l : List Int) (n : Nat) : List Int := (List.range n).map fun i => accW l (i + 1)

theorem sumsL_len (l : List Int) (n : Nat) : (sumsL l n).length = n := by simp [sumsL]

theorem sumsL_succ (l : List Int) (n : Nat) : sumsL l (n + 1) = sumsL l n ++ [accW l (n + 1)] := by simp [sumsL, List.range_succ]

theorem sumsL_get (l : List Int) {n i : Nat} (h : i < n) : (sumsL l n).getD i 0 = accW l (i + 1) := by simp [sumsL, List.getD, h]

/-- Sums, exact. -/
def accE (l : List Int) : Nat → Int
  | 0 => 0
  | i + 1 => accE l i + l.getD i 0

def accE2 (l : List Int) : Nat → Int
  | 0 => 0
  | i + 1 => accE2 l i + accE l (i + 1)

theorem accW_eq (l : List Int) : ∀ i, accW l i = wrap64 (accE l i)
  | 0 => by simp [accW, accE, wrap64_bmod]
  | i + 1 => by rw [accW, accE, accW_eq l i, wrap64_add_l]

theorem accW2_eq (l : List Int) {n : Nat} : ∀ i, i ≤ n → accW (sumsL l n) i = wrap64 (accE2 l i)
  | 0, _ => by simp [accW, accE2, wrap64_bmod]
  | i + 1, h => by rw [accW, accE2, accW2_eq l i (by omega), sumsL_get l (by omega), accW_eq, wrap64_add_l, wrap64_add_r]

/-- The weighted sum. -/
def wsum (l : List Int) (n : Int) : Nat → Int
  | 0 => 0
  | i + 1 => wsum l n i + (n - i) * l.getD i 0

theorem wsum_eq (l : List Int) (n : Int) : ∀ i : Nat, wsum l n i = accE2 l i + (n - i) * accE l i
  | 0 => by simp [wsum, accE2, accE]
  | i + 1 => by
    rw [wsum, wsum_eq l n i, accE2, accE]
    have e : (n - ((i + 1 : Nat) : Int)) = (n - i) - 1 := by omega
    rw [e, Int.sub_mul _ 1, Int.one_mul, Int.mul_add]
    omega

theorem l90 (l : List Int) (h : l.length ≤ 1000000000) : l90_0 ((l, (l.length : Int), (0 : Int), ()), ((0 : Int), (0 : Int), ()), ((0 : Int), (0 : Int), ()), ()) = some (.inl ((), ((0 : Int), (0 : Int), ()), (wrap64 (accE l l.length), wrap64 (accE2 l l.length), ()), ())) := by
  refine itr_brk (fun i => ((l, (l.length : Int), (i : Int), ()), ((0 : Int), (0 : Int), ()), (wrap64 (accE l i), wrap64 (accE2 l i), ()), ())) (n := l.length) ?_ ?_ (lt_rounds (by omega))
  · intro i hi
    simp only [s90_0, t90_0, Tr.val_test, Tr.val_fin, leF_eq]
    rw [if_pos (by simp; omega), if_pos (by simp; omega)]
    simp only [Int.toNat_natCast, wrap64_nat (show i ≤ 9223372036854775806 by omega), wrap64_add_l, wrap64_add_r, accE, accE2]
  · simp [s90_0, t90_0, leF_eq]

theorem f90_eq (l : List Int) (h : l.length ≤ 1000000000) : f90 (l, ()) = some ((wrap64 (accE l l.length), wrap64 (accE2 l l.length), ()), ()) := by
  simp only [f90, t90, b90_0, l90 l h, Tr.val_test, isBrk, if_true, outB]; rfl

theorem l26 (l : List Int) (h : l.length ≤ 1000000000) : l26_0 ((l, (0 : Int), ()), ((0 : Int), (0 : Int), ()), ((0 : Int), (0 : Int), ()), ()) = some (.inl ((), ((0 : Int), (0 : Int), ()), (wrap64 (accE l l.length), wrap64 (wsum l l.length l.length), ()), ())) := by
  refine itr_brk (fun i => ((l, (i : Int), ()), ((0 : Int), (0 : Int), ()), (wrap64 (accE l i), wrap64 (wsum l l.length i), ()), ())) (n := l.length) ?_ ?_ (lt_rounds (by omega))
  · intro i hi
    simp only [s26_0, t26_0, Tr.val_test, Tr.val_fin, leF_eq]
    rw [if_pos (by simp; omega), if_pos (by simp; omega)]
    simp only [Int.toNat_natCast, wrap64_nat (show i ≤ 9223372036854775806 by omega), wrap64_add_l, wrap64_add_r, wrap64_mul_l, accE, wsum]
  · simp [s26_0, t26_0, leF_eq]

theorem f26_eq (l : List Int) (h : l.length ≤ 1000000000) : f26 (l, ()) = some ((wrap64 (accE l l.length), wrap64 (accE2 l l.length), ()), ()) := by
  have : wsum l l.length l.length = accE2 l l.length := by rw [wsum_eq]; simp
  simp only [f26, t26, b26_0, l26 l h, Tr.val_test, isBrk, if_true, outB, this]; rfl

theorem l23 (l : List Int) (h : l.length ≤ 1000000000) : l23_0 ((l, l, (0 : Int), ()), ()) = some (.inl ((), ())) := by
  refine itr_brk (fun i => ((l, l, (i : Int), ()), ())) (n := l.length) ?_ ?_ (lt_rounds (by omega))
  · intro i hi
    simp only [s23_0, t23_0, Tr.val_test, Tr.val_fin, leF_eq, eqF_eq]
    rw [if_pos (by simp; omega), if_pos (by simp; omega), if_pos (by simp; omega), if_neg (by simp)]
    simp only [wrap64_nat (show i ≤ 9223372036854775806 by omega)]
  · simp [s23_0, t23_0, leF_eq]

theorem f23_self (l : List Int) (h : l.length ≤ 1000000000) : f23 (l, l, ()) = some (true, ()) := by
  simp only [f23, t23, l23 l h, Tr.val_test, isRet, eqF_eq, decide_true, Bool.not_true, Bool.false_eq_true, if_false, Option.isSome, if_true]; rfl

def badS (l : List Int) (i : Nat) : Bool := !(decide (-1000 ≤ l.getD i 0) && decide (l.getD i 0 ≤ 1000))

def chk (x : Int) (l : List Int) : Int × Int :=
  if x < 1 ∨ 1000000 < x then (0, 2)
  else if l.length < 2 then (0, 10)
  else if 24 < l.length then (0, 8)
  else match first (badS l) l.length 0 with
    | some k => (k, 2)
    | none => (0, 0)

theorem f47_eq (d : Tys.data as47) : f47 d = some (decide ((d.2.1 : Int) ≤ d.1) && decide ((d.1 : Int) ≤ d.2.2.1), ()) := by
  simp only [f47, t47, Tr.val_test, leF_eq, decide_eq_true_eq]
  split <;> simp [*]

theorem f54_eq (d : Tys.data as54) : f54 d = some (decide ((-1000 : Int) ≤ d.1) && decide (d.1 ≤ (1000 : Int)), ()) := by
  simp only [f54, t54, g47, f47_eq, Tr.val_test, Option.isSome, if_true, Option.getD]; rfl

theorem l22 (x : Int) (l : List Int) (h : l.length ≤ 1000000000) : l22_0 (((0 : Int), ()), (x, l, ()), ()) = match first (badS l) l.length 0 with
    | some k => some (.inr (((k : Int), (2 : Int), ()), (x, l, ()), ()))
    | none => some (.inl ((), (x, l, ()), ())) := by
  refine itr_search (fun i => (((i : Int), ()), (x, l, ()), ())) (badS l) (fun k => (((k : Int), (2 : Int), ()), (x, l, ()), ())) (n := l.length) ?_ ?_ (lt_rounds (by omega))
  · intro i hi
    simp only [s22_0, t22_0, Tr.val_test, leF_eq, g54, f54_eq, Option.isSome, if_true, Option.getD]
    rw [if_pos (by simp; omega), if_pos (by simp; omega)]
    simp only [Int.toNat_natCast, wrap64_nat (show i ≤ 9223372036854775806 by omega), badS]
    rfl
  · simp [s22_0, t22_0, leF_eq]

theorem f22_eq (x : Int) (l : List Int) (h : l.length ≤ 1000000000) : f22 ((x, l, ()), ()) = some ((chk x l).1, (chk x l).2, ()) := by
  simp only [f22, t22, g47, f47_eq, Tr.val_test, leF_eq, Option.isSome, if_true, Option.getD, r22_0, l22 x l h]
  unfold chk
  by_cases h1 : x < 1 ∨ 1000000 < x
  · rw [if_pos h1, if_pos (by simp; omega)]; rfl
  · rw [if_neg h1, if_neg (by simp; omega)]
    by_cases h2 : l.length < 2
    · rw [if_pos h2, if_pos (by simp; omega)]; rfl
    · rw [if_neg h2, if_neg (by simp; omega)]
      by_cases h3 : 24 < l.length
      · rw [if_pos h3, if_pos (by simp; omega)]; rfl
      · rw [if_neg h3, if_neg (by simp; omega)]
        cases first (badS l) l.length 0 with
        | none => rfl
        | some k => rfl

theorem f86_eq (d : Tys.data as86) : f86 d = some (if d.1 = true then d.2.1 else (0 : Int), ()) := by
  simp only [f86, t86, Tr.val_test]
  split <;> rfl

/-- Where the first bad sample lies, and its error. -/
def badAt (l : List Int) : Int × Int := match first (badS l) l.length 0 with
  | some k => (k, 2)
  | none => (0, 0)

/-- Whether all lie in a range. -/
def inAll (lo hi : Int) (l : List Int) : Bool := (first (fun i => !(decide (lo ≤ l.getD i 0) && decide (l.getD i 0 ≤ hi))) l.length 0).isNone

theorem inAll_nil (lo hi : Int) : inAll lo hi [] = true := rfl

theorem first_map {bad : Nat → Bool} : ∀ (n i : Nat), first bad n (i + 1) = (first (fun j => bad (j + 1)) n i).map (· + 1)
  | 0, _ => rfl
  | n + 1, i => by
    simp only [first]
    split
    · rfl
    · exact first_map n (i + 1)

theorem inAll_cons (lo hi a : Int) (l : List Int) : inAll lo hi (a :: l) = ((decide (lo ≤ a) && decide (a ≤ hi)) && inAll lo hi l) := by
  unfold inAll
  simp only [List.length, first]
  rw [first_map]
  by_cases h : (decide (lo ≤ a) && decide (a ≤ hi)) = true
  · simp only [List.getD_cons_zero, h, Bool.not_true, Bool.false_eq_true, if_false, Bool.true_and, List.getD_cons_succ]
    cases first (fun i => !(decide (lo ≤ l.getD i 0) && decide (l.getD i 0 ≤ hi))) l.length 0 <;> rfl
  · simp only [Bool.not_eq_true] at h
    simp [h]

theorem inAll_iff (lo hi : Int) (l : List Int) : inAll lo hi l = true ↔ ∀ i, i < l.length → lo ≤ l.getD i 0 ∧ l.getD i 0 ≤ hi := by
  unfold inAll
  constructor
  · intro h i hi'
    have := first_none (Option.isNone_iff_eq_none.1 h) i (by omega) (by omega)
    simpa using this
  · intro h
    rw [first_of_none]
    · rfl
    · intro j _ hj
      have := h j (by omega)
      simp only [List.getD_eq_getElem?_getD] at this ⊢
      simp [this.1, this.2]

theorem l94 (lo hi : Int) (l : List Int) (h : l.length ≤ 1000000000) : l94_0 ((lo, hi, l, (l.length : Int), (0 : Int), ()), ()) = match first (fun i => !(decide (lo ≤ l.getD i 0) && decide (l.getD i 0 ≤ hi))) l.length 0 with
    | some _ => some (.inr ((false, ()), ()))
    | none => some (.inl ((), ())) := by
  refine itr_search (fun i => ((lo, hi, l, (l.length : Int), (i : Int), ()), ())) (fun i => !(decide (lo ≤ l.getD i 0) && decide (l.getD i 0 ≤ hi))) (fun k => ((false, ()), ())) (n := l.length) ?_ ?_ (lt_rounds (by omega))
  · intro i hi'
    simp only [s94_0, t94_0, Tr.val_test, leF_eq, Int.toNat_natCast]
    rw [if_pos (by simp; omega), if_pos (by simp; omega)]
    simp only [wrap64_nat (show i ≤ 9223372036854775806 by omega)]
    by_cases h1 : lo ≤ l.getD i 0
    · by_cases h2 : l.getD i 0 ≤ hi
      · rw [if_neg (by simpa using h1), if_neg (by simpa using h2), if_neg (by simpa using ⟨h1, h2⟩)]; rfl
      · rw [if_neg (by simpa using h1), if_pos (by simpa using h2), if_pos (by simp only [h1, h2, decide_true, decide_false, Bool.and_false, Bool.not_false])]; rfl
    · rw [if_pos (by simpa using h1), if_pos (by simp only [h1, decide_false, Bool.false_and, Bool.not_false])]; rfl
  · simp [s94_0, t94_0, leF_eq]

theorem f94_eq (lo hi : Int) (l : List Int) (h : l.length ≤ 1000000000) : f94 (lo, hi, l, ()) = some (inAll lo hi l, ()) := by
  simp only [f94, t94, Tr.val_test, r94_0, l94 lo hi l h, inAll]
  cases first (fun i => !(decide (lo ≤ l.getD i 0) && decide (l.getD i 0 ≤ hi))) l.length 0 <;> rfl

theorem f141_eq (x : Int) (l : List Int) (h : l.length ≤ 1000000000) : f141 (x, l, ()) = some (!inAll (IntKind.wrap .i64 (0 - x)) x l, ()) := by
  simp only [f141, t141, Tr.val_test, g94, f94_eq _ _ l h, Option.isSome_some, Option.getD_some, if_true, Tr.val_fin]

theorem w1000 : IntKind.wrap .i64 (0 - 1000) = -1000 := by decide

theorem f140_eq (d : Tys.data as140) : f140 d = some (if (decide (-1000 ≤ (d.2.1 : Int)) && decide ((d.2.1 : Int) ≤ 1000)) = true then (0 : Int) else 2, ()) := by
  obtain ⟨i, x, u⟩ := d
  show f140 (i, x, ()) = some (if (decide (-1000 ≤ x) && decide (x ≤ 1000)) = true then (0 : Int) else 2, ())
  simp only [f140, t140, Tr.val_test, g141, f141_eq 1000 [x] (by simp), g86, f86_eq, Option.isSome_some, Option.getD_some, if_true, Tr.val_fin, inAll_cons, inAll_nil, w1000, Bool.and_true]
  by_cases hx : (decide (-1000 ≤ x) && decide (x ≤ 1000)) = true
  · rw [if_pos hx, hx]; rfl
  · rw [if_neg hx]; simp only [Bool.not_eq_true] at hx; rw [hx]; rfl

theorem l106 (l : List Int) (h : l.length ≤ 1000000000) : l106_0 ((l, (l.length : Int), (0 : Int), ()), ()) = match first (badS l) l.length 0 with
    | some k => some (.inr (((k : Int), (2 : Int), ()), ()))
    | none => some (.inl ((), ())) := by
  refine itr_search (fun i => ((l, (l.length : Int), (i : Int), ()), ())) (badS l) (fun k => (((k : Int), (2 : Int), ()), ())) (n := l.length) ?_ ?_ (lt_rounds (by omega))
  · intro i hi
    simp only [s106_0, t106_0, Tr.val_test, leF_eq, eqF_eq, g140, f140_eq, Int.toNat_natCast, Option.isSome_some, Option.getD_some, if_true]
    rw [if_pos (by simp; omega), if_pos (by simp; omega)]
    simp only [wrap64_nat (show i ≤ 9223372036854775806 by omega)]
    unfold badS
    by_cases hx : (decide (-1000 ≤ l.getD i 0) && decide (l.getD i 0 ≤ 1000)) = true
    · rw [hx]; simp
    · simp only [Bool.not_eq_true] at hx
      rw [hx]; simp
  · simp [s106_0, t106_0, leF_eq]

theorem f87_eq (l : List Int) (h : l.length ≤ 1000000000) : f87 (l, ()) = some ((badAt l).1, (badAt l).2, ()) := by
  simp only [f87, t87, Tr.val_test, r106_0, l106 l h, badAt]
  cases first (badS l) l.length 0 with
  | none => rfl
  | some k => rfl

/-- The first that is not 0. -/
def firstNZ : List Int → Int
  | [] => 0
  | a :: l => if a = 0 then firstNZ l else a

theorem firstNZ_eq : ∀ l : List Int, (match first (fun i => !decide (l.getD i 0 = 0)) l.length 0 with
    | some k => l.getD k 0
    | none => 0) = firstNZ l
  | [] => rfl
  | a :: l => by
    simp only [List.length, first, firstNZ]
    by_cases ha : a = 0
    · subst ha
      have e := firstNZ_eq l
      have hf : first (fun i => !decide (((0 : Int) :: l).getD i 0 = 0)) l.length (0 + 1) = (first (fun i => !decide (l.getD i 0 = 0)) l.length 0).map (· + 1) := by
        rw [first_map]; rfl
      simp only [hf, List.getD_cons_zero, decide_true, Bool.not_true, Bool.false_eq_true, if_false, if_true]
      rw [← e]
      cases first (fun i => !decide (l.getD i 0 = 0)) l.length 0 with
      | none => rfl
      | some k => rfl
    · simp [ha]

theorem l85 (l : List Int) (h : l.length ≤ 1000000000) : l85_0 ((l, (l.length : Int), (0 : Int), ()), ()) = match first (fun i => !decide (l.getD i 0 = 0)) l.length 0 with
    | some k => some (.inr ((l.getD k 0, ()), ()))
    | none => some (.inl ((), ())) := by
  refine itr_search (fun i => ((l, (l.length : Int), (i : Int), ()), ())) (fun i => !decide (l.getD i 0 = 0)) (fun k => ((l.getD k 0, ()), ())) (n := l.length) ?_ ?_ (lt_rounds (by omega))
  · intro i hi
    simp only [s85_0, t85_0, Tr.val_test, leF_eq, eqF_eq]
    rw [if_pos (by simp; omega), if_pos (by simp; omega)]
    simp only [Int.toNat_natCast, wrap64_nat (show i ≤ 9223372036854775806 by omega)]
    rfl
  · simp [s85_0, t85_0, leF_eq]

theorem f85_eq (l : List Int) (h : l.length ≤ 1000000000) : f85 (l, ()) = some (firstNZ l, ()) := by
  simp only [f85, t85, Tr.val_test, r85_0, l85 l h, ← firstNZ_eq l]
  cases first (fun i => !decide (l.getD i 0 = 0)) l.length 0 with
  | none => rfl
  | some k => rfl

theorem f17_eq (x : Int) (l : List Int) (h : l.length ≤ 1000000000) : f17 ((x, l, ()), ()) = some ((chk x l).1, (chk x l).2, ()) := by
  have e := fun a b c : Int => f85_eq [a, b, c] (by simp)
  have hc : chk x l = if x < 1 ∨ 1000000 < x then (0, 2) else if l.length < 2 then (0, 10) else if 24 < l.length then (0, 8) else badAt l := rfl
  simp only [f17, t17, Tr.val_test, leF_eq, eqF_eq, g86, f86_eq, g87, f87_eq l h, g85, Option.isSome_some, Option.getD_some, if_true]
  rw [e, e, hc]
  simp only [Option.isSome_some, Option.getD_some, if_true, firstNZ]
  by_cases h1 : x < 1
  · have h1' : ¬ 1 ≤ x := by omega
    simp [h1, h1']
  · have h1' : 1 ≤ x := by omega
    by_cases h2 : 1000000 < x
    · have h2' : ¬ x ≤ 1000000 := by omega
      simp [h1', h2, h2']
    · have h2' : x ≤ 1000000 := by omega
      by_cases h3 : l.length < 2
      · have h3' : ¬ (2 : Int) ≤ l.length := by omega
        simp [h1, h1', h2, h2', h3, h3']
      · have h3' : (2 : Int) ≤ l.length := by omega
        by_cases h4 : 24 < l.length
        · have h4' : ¬ (l.length : Int) ≤ 24 := by omega
          simp [h1, h1', h2, h2', h3, h3', h4, h4']
        · have h4' : (l.length : Int) ≤ 24 := by omega
          simp [h1, h1', h2, h2', h3, h3', h4, h4']

theorem f88_eq (x : Int) (l : List Int) (h : l.length ≤ 1000000000) : f88 ((x, l, ()), ()) = some ((chk x l).2, ()) := by
  simp only [f88, t88, Tr.val_test, g17, f17_eq x l h, Option.isSome_some, Option.getD_some, if_true, Tr.val_fin]

theorem f70_eq (l : List Int) (h : l.length ≤ 1000000000) : f70 (l, ()) = some (l, ()) := by
  simp only [f70, t70, Tr.val_test, Tr.val_fin]
  by_cases h0 : l.length = 0
  · rw [List.eq_nil_of_length_eq_zero h0]; rfl
  · rw [if_neg (by simp [h0]), if_neg (by rw [ble_eq_true']; omega), if_pos (by simp; omega), if_pos (by simp)]
    rfl

theorem f18_eq (x : Int) (l : List Int) (h : l.length ≤ 1000000000) : f18 ((x, l, ()), ()) = some ((x, l, ()), ()) := by
  simp only [f18, t18, Tr.val_test, g70, f70_eq l h, Option.isSome_some, Option.getD_some, if_true, Tr.val_fin]

theorem f16_eq (x : Int) (l : List Int) : f16 ((x, l, ()), ()) = some (decide (l.length ≤ 26), ()) := by
  have : decide ((l.length : Int) ≤ 26) = decide (l.length ≤ 26) := decide_eq_decide.2 (by omega)
  simp only [f16, t16, leF_eq, Tr.val_fin, this]

theorem sums_last (l : List Int) (h : 0 < l.length) : (sumsL l l.length).getD (l.length - 1) 0 = wrap64 (accE l l.length) := by
  rw [sumsL_get l (by omega), accW_eq, Nat.sub_add_cancel h]

theorem sums2_last (l : List Int) (h : 0 < l.length) : (sumsL (sumsL l l.length) l.length).getD (l.length - 1) 0 = wrap64 (accE2 l l.length) := by
  rw [sumsL_get _ (by omega), Nat.sub_add_cancel h, accW2_eq l _ (Nat.le_refl _)]

theorem chk_len {x : Int} {l : List Int} (h : (chk x l).2 = 0) : 2 ≤ l.length := by
  unfold chk at h
  split at h
  · cases h
  · split at h
    · cases h
    · omega

/-- The greater of two. -/
def mx (a b : Int) : Int := if a < b then b else a
/-- A number without its sign. -/
def sz (a : Int) : Int := mx a (IntKind.wrap .i64 (0 - a))
/-- The greatest size of the first numbers. -/
def pk (l : List Int) : Nat → Int
  | 0 => 0
  | i + 1 => mx (pk l i) (sz (l.getD i 0))

theorem mx_mx (m a b : Int) : mx (mx m a) b = mx m (mx a b) := by
  unfold mx
  split <;> split <;> (try split) <;> omega

theorem sz_eq {a : Int} (h1 : -9223372036854775807 ≤ a) (h2 : a ≤ 9223372036854775807) : sz a = a.natAbs := by
  unfold sz mx
  rw [← wrap64_eq, wrap64_id (by omega) (by omega)]
  split <;> omega

theorem l122 (l : List Int) (h : l.length ≤ 1000000000) : l122_0 (((0 : Int), l, (l.length : Int), (0 : Int), ()), ()) = some (.inl ((pk l l.length, ()), ())) := by
  refine itr_brk (fun i => ((pk l i, l, (l.length : Int), (i : Int), ()), ())) (n := l.length) ?_ ?_ (lt_rounds (by omega))
  · intro i hi
    simp only [s122_0, t122_0, Tr.val_test, Tr.val_fin, leF_eq, Int.toNat_natCast]
    rw [if_pos (by simp; omega), if_pos (by simp; omega)]
    simp only [wrap64_nat (show i ≤ 9223372036854775806 by omega), pk, sz, ← mx_mx]
    rfl
  · simp [s122_0, t122_0, leF_eq]

theorem f122_eq (l : List Int) (h : l.length ≤ 1000000000) : f122 (l, ()) = some (pk l l.length, ()) := by
  simp only [f122, t122, b122_0, l122 l h, Tr.val_test, isBrk, if_true, outB]; rfl

theorem f131_eq (d : Tys.data as131) : f131 d = some (sz d.1, ()) := rfl

theorem l96 (l : List Int) (h : l.length ≤ 1000000000) : l96_0 ((l, (0 : Int), (0 : Int), ()), ()) = some (.inl ((pk l l.length, ()), ())) := by
  refine itr_brk (fun i => ((l, pk l i, (i : Int), ()), ())) (n := l.length) ?_ ?_ (lt_rounds (by omega))
  · intro i hi
    simp only [s96_0, t96_0, Tr.val_test, Tr.val_fin, leF_eq, Int.toNat_natCast, g131, f131_eq, Option.isSome_some, Option.getD_some, if_true]
    rw [if_pos (by simp; omega), if_pos (by simp; omega)]
    simp only [wrap64_nat (show i ≤ 9223372036854775806 by omega), pk]
    rfl
  · simp [s96_0, t96_0, leF_eq]

theorem f96_eq (l : List Int) (h : l.length ≤ 1000000000) : f96 (l, ()) = some (pk l l.length, ()) := by
  simp only [f96, t96, b96_0, l96 l h, Tr.val_test, isBrk, if_true, outB]; rfl

theorem f29_eq (x : Int) (l : List Int) (h : l.length ≤ 1000000000) : f29 ((x, l, ()), ()) = some ((chk x l).2, ()) := by
  simp only [f29, t29, g22, f22_eq x l h, Tr.val_test, Tr.val_fin, Option.isSome_some, Option.getD_some, if_true]

/-- All are at most so great. -/
def Bd (B : Int) (l : List Int) : Prop := ∀ i, i < l.length → -B ≤ l.getD i 0 ∧ l.getD i 0 ≤ B

theorem chk_ok {x : Int} {l : List Int} (h : (chk x l).2 = 0) : 2 ≤ l.length ∧ l.length ≤ 24 ∧ Bd 1000 l ∧ 1 ≤ x ∧ x ≤ 1000000 := by
  unfold chk at h
  split at h
  · cases h
  · rename_i hx
    split at h
    · cases h
    · split at h
      · cases h
      · split at h
        · cases h
        · rename_i hn
          refine ⟨by omega, by omega, fun i hi => ?_, by omega, by omega⟩
          have := first_none hn i (by omega) (by omega)
          simpa [badS] using this

theorem pk_nonneg (l : List Int) : ∀ i, 0 ≤ pk l i
  | 0 => Int.le_refl 0
  | i + 1 => by
    have := pk_nonneg l i
    unfold pk mx
    split <;> omega

theorem pk_le {B : Int} {l : List Int} (h0 : 0 ≤ B) (hB : B ≤ 9223372036854775807) (h : Bd B l) : ∀ i, i ≤ l.length → pk l i ≤ B
  | 0, _ => h0
  | i + 1, hi => by
    have := pk_le h0 hB h i (by omega)
    have hb := h i (by omega)
    rw [pk, sz_eq (by omega) (by omega)]
    unfold mx
    split <;> omega

theorem pk_zero {B : Int} {l : List Int} (hB : B ≤ 9223372036854775807) (h : Bd B l) : ∀ n, n ≤ l.length → pk l n = 0 → ∀ i, i < n → l.getD i 0 = 0
  | 0, _, _, i, hi => by omega
  | n + 1, hn, e, i, hi => by
    have hb := h n (by omega)
    rw [pk, sz_eq (by omega) (by omega)] at e
    have hp := pk_nonneg l n
    have e1 : pk l n = 0 ∧ l.getD n 0 = 0 := by
      unfold mx at e
      split at e <;> omega
    rcases Nat.lt_succ_iff_lt_or_eq.1 hi with h1 | h1
    · exact pk_zero hB h n (by omega) e1.1 i h1
    · rw [h1]; exact e1.2

theorem pk_of_zero {l : List Int} : ∀ n, (∀ i, i < n → l.getD i 0 = 0) → pk l n = 0
  | 0, _ => rfl
  | n + 1, h => by
    rw [pk, pk_of_zero n fun i hi => h i (by omega), h n (by omega)]; rfl

theorem accW_bd {B : Int} {l : List Int} (h0 : 0 ≤ B) (h : Bd B l) (hB : B * l.length ≤ 9223372036854775807) : ∀ i : Nat, i ≤ l.length → -(B * i) ≤ accW l i ∧ accW l i ≤ B * i
  | 0, _ => by simp [accW]
  | i + 1, hi => by
    have hb := h i (by omega)
    have ih := accW_bd h0 h hB i (by omega)
    have e : B * ((i + 1 : Nat) : Int) = B * i + B := by rw [Int.natCast_add, Int.mul_add]; simp
    have h2 : B * ((i + 1 : Nat) : Int) ≤ B * l.length := Int.mul_le_mul_of_nonneg_left (by omega) h0
    rw [accW, wrap64_id (by omega) (by omega)]
    omega

theorem sums_bd {B : Int} {l : List Int} (h0 : 0 ≤ B) (h : Bd B l) (hB : B * l.length ≤ 9223372036854775807) : Bd (B * l.length) (sumsL l l.length) := by
  intro i hi
  rw [sumsL_len] at hi
  rw [sumsL_get l hi]
  have := accW_bd h0 h hB (i + 1) (by omega)
  have h2 : B * ((i + 1 : Nat) : Int) ≤ B * l.length := Int.mul_le_mul_of_nonneg_left (by omega) h0
  omega

/-- Where all sums are 0, all numbers are. -/
theorem sums_zero {B : Int} {l : List Int} (hB : B ≤ 9223372036854775807) (h : Bd B l) {n : Nat} (hn : n ≤ l.length) (e : ∀ i, i < n → accW l (i + 1) = 0) : ∀ i, i < n → l.getD i 0 = 0 := by
  intro i hi
  have hb := h i (by omega)
  have h1 := e i hi
  have h0 : accW l i = 0 := by
    cases i with
    | zero => rfl
    | succ j => exact e j (by omega)
  rw [accW, h0, Int.zero_add, wrap64_id (by omega) (by omega)] at h1
  exact h1

theorem pk_sums {B : Int} {l : List Int} (h0 : 0 ≤ B) (h : Bd B l) (hB : B * l.length ≤ 9223372036854775807) (hB2 : B ≤ 9223372036854775807) (hp : pk l l.length ≠ 0) : pk (sumsL l l.length) l.length ≠ 0 := by
  intro e
  have hs := sums_bd h0 h hB
  have hz := pk_zero hB hs l.length (by rw [sumsL_len]; exact Nat.le_refl _) e
  refine hp (pk_of_zero _ (sums_zero hB2 h (Nat.le_refl _) fun i hi => ?_))
  have := hz i hi
  rwa [sumsL_get l hi] at this

/-- The greatest common divisor of the first numbers, with a sign. -/
def dv (l : List Int) : Nat → Int
  | 0 => 0
  | i + 1 => euc (dv l i) (l.getD i 0)

theorem lt_r2 {n : Nat} (h : n ≤ 9223372036854775808) : n < rounds := by unfold rounds; omega

theorem mx_max (a b : Int) : mx a b = max a b := by unfold mx; omega

theorem euc_zero_left (b : Int) (h : b.natAbs ≤ 9223372036854775807) : (euc 0 b).natAbs = b.natAbs := by rw [euc_abs]; simp

theorem dv2 (a b : Int) (ha : a.natAbs ≤ 9223372036854775807) (hb : b.natAbs ≤ 9223372036854775807) : mx (dv [a, b] 2) (IntKind.wrap .i64 (0 - dv [a, b] 2)) = (Int.gcd a b : Int) := by
  have e0 : dv [a, b] 2 = euc (euc 0 a) b := rfl
  have e1 : (euc 0 a).natAbs = a.natAbs := euc_zero_left a ha
  have e2 : Int.gcd (euc 0 a) b = Int.gcd a b := by unfold Int.gcd; rw [e1]
  rw [e0, ← wrap64_eq, Int.zero_sub, mx_max, euc_gcd _ _ (by omega) (by omega) (by omega) (by omega), e2]

/-- A fraction in lowest terms. -/
def low (a b : Int) : Int × Int × Unit := (a.tdiv (Int.gcd a b), b.tdiv (Int.gcd a b), ())

theorem wrapI_id {n : Int} (h1 : -9223372036854775808 ≤ n) (h2 : n ≤ 9223372036854775807) : IntKind.wrap .i64 n = n := by rw [← wrap64_eq, wrap64_id h1 h2]

theorem low_wrap (a b : Int) (ha : a.natAbs ≤ 9223372036854775807) (hb : b.natAbs ≤ 9223372036854775807) : IntKind.wrap .i64 (a.tdiv (Int.gcd a b)) = (low a b).1 ∧ IntKind.wrap .i64 (b.tdiv (Int.gcd a b)) = (low a b).2.1 := by
  have h1 := tdiv_abs_le a (Int.gcd a b)
  have h2 := tdiv_abs_le b (Int.gcd a b)
  exact ⟨wrapI_id (by omega) (by omega), wrapI_id (by omega) (by omega)⟩

/-- Less, of fractions. -/
def lessF (a b : Int × Int × Unit) : Bool := !leF (wrap64 (b.1 * a.2.1)) (wrap64 (a.1 * b.2.1))

/-- The error of an oscillator. -/
def osE (s d : Int) : Int := if (decide (0 ≤ s) && decide (s ≤ 3000)) = false then 2 else if (decide (0 ≤ d) && decide (d ≤ 500)) = false then 2 else 0

theorem f119_eq (s d : Int) : f119 ((s, d, ()), ()) = some (osE s d, ()) := by
  have e2 := fun a b : Int => f85_eq [a, b] (by simp)
  simp only [f119, t119, g94, f94_eq 0 3000 [s] (by simp), f94_eq 0 500 [d] (by simp), g86, f86_eq, g85, e2, Tr.val_test, Tr.val_fin, Option.isSome_some, Option.getD_some, if_true, inAll_cons, inAll_nil, Bool.and_true, firstNZ, osE]
  cases (decide ((0 : Int) ≤ s) && decide (s ≤ 3000)) <;> cases (decide ((0 : Int) ≤ d) && decide (d ≤ 500)) <;> rfl

theorem f58_eq (s d : Int) : f58 ((s, d, ()), ()) = some (osE s d, ()) := by
  simp only [f58, t58, g47, f47_eq, Tr.val_test, Tr.val_fin, Option.isSome_some, Option.getD_some, if_true, osE]
  cases (decide ((0 : Int) ≤ s) && decide (s ≤ 3000)) <;> cases (decide ((0 : Int) ≤ d) && decide (d ≤ 500)) <;> rfl

structure OsOk (s d : Int) : Prop where
  s0 : 0 ≤ s
  s1 : s ≤ 3000
  d0 : 0 ≤ d
  d1 : d ≤ 500

theorem osE_ok {s d : Int} (h : osE s d = 0) : OsOk s d := by
  unfold osE at h
  split at h
  · cases h
  · split at h
    · cases h
    · rename_i h1 h2
      simp only [Bool.not_eq_false, Bool.and_eq_true, decide_eq_true_eq] at h1 h2
      exact ⟨h1.1, h1.2, h2.1, h2.2⟩

/-- What an oscillator is pulled by, wrapped. -/
def pullN (s d x y : Int) : Int := wrap64 (wrap64 (s * x) + wrap64 (d * wrap64 (x - y)))
/-- One tick of an oscillator. -/
def tick (s d a x y : Int) : Int := wrap64 (wrap64 (wrap64 (wrap64 (2 * x) - y) - IntKind.wrap .i64 ((pullN s d x y).tdiv 1000)) - a)
/-- The displacements of an oscillator, now and before. -/
def rsp (s d : Int) (l : List Int) : Nat → Int × Int
  | 0 => (0, 0)
  | i + 1 => (tick s d (l.getD i 0) (rsp s d l i).1 (rsp s d l i).2, (rsp s d l i).1)
def respL (s d : Int) (l : List Int) (n : Nat) : List Int := (List.range n).map fun i => (rsp s d l (i + 1)).1

theorem respL_len (s d : Int) (l : List Int) (n : Nat) : (respL s d l n).length = n := by simp [respL]
theorem respL_succ (s d : Int) (l : List Int) (n : Nat) : respL s d l (n + 1) = respL s d l n ++ [(rsp s d l (n + 1)).1] := by simp [respL, List.range_succ]
theorem respL_get (s d : Int) (l : List Int) {n i : Nat} (h : i < n) : (respL s d l n).getD i 0 = (rsp s d l (i + 1)).1 := by simp [respL, List.getD, h]

theorem l120 (l : List Int) (h : l.length ≤ 1000000000) (s d : Int) : l120_0 ((([] : List Int), (0 : Int), (0 : Int), l, (l.length : Int), (0 : Int), ()), (s, d, ()), ()) = some (.inl ((respL s d l l.length, ()), (s, d, ()), ())) := by
  refine itr_brk (fun i => ((respL s d l i, (rsp s d l i).1, (rsp s d l i).2, l, (l.length : Int), (i : Int), ()), (s, d, ()), ())) (n := l.length) ?_ ?_ (lt_rounds (by omega))
  · intro i hi
    simp only [s120_0, t120_0, Tr.val_test, Tr.val_fin, leF_eq]
    rw [if_pos (by simp; omega), if_pos (by simp; omega), if_pos (by simp [respL_len]; omega)]
    simp only [Int.toNat_natCast, respL_succ, wrap64_nat (show i ≤ 9223372036854775806 by omega)]
    rfl
  · simp [s120_0, t120_0, leF_eq]

theorem f120_eq (l : List Int) (h : l.length ≤ 1000000000) (s d : Int) : f120 (l, (s, d, ()), ()) = some (respL s d l l.length, ()) := by
  simp only [f120, t120, b120_0, l120 l h s d, Tr.val_test, isBrk, if_true, outB]; rfl

/-- A quotient rounded towards 0, by way of rounding down. -/
theorem f123_eq (n : Int) (h1 : -9223372036854775807 ≤ n) (h2 : n ≤ 9223372036854775807) : f123 (n, 1000, ()) = some (IntKind.wrap .i64 (n.tdiv 1000), ()) := by
  have ht : (n.tdiv 1000).natAbs ≤ n.natAbs := by rw [Int.natAbs_tdiv]; exact Nat.div_le_self _ _
  have hw : IntKind.wrap .i64 (n.tdiv 1000) = n.tdiv 1000 := wrapI_id (by omega) (by omega)
  by_cases h0 : 0 ≤ n
  · have hm : ¬ n.tmod 1000 < 0 := by have := Int.tmod_nonneg 1000 h0; omega
    simp only [f123, t123, g160, f160, t160, Tr.val_test, Tr.val_fin, leF_eq]
    rw [if_neg (by simp; omega)]
    simp [hm, h0]
  · have hn : IntKind.wrap .i64 (0 - n) = -n := by rw [wrapI_id (by omega) (by omega)]; omega
    have hm : ¬ (-n).tmod 1000 < 0 := by have := Int.tmod_nonneg 1000 (show 0 ≤ -n by omega); omega
    have e1 : IntKind.wrap .i64 ((-n).tdiv 1000) = -(n.tdiv 1000) := by rw [Int.neg_tdiv, wrapI_id (by omega) (by omega)]
    have e2 : IntKind.wrap .i64 (0 - -(n.tdiv 1000)) = n.tdiv 1000 := by rw [wrapI_id (by omega) (by omega)]; omega
    simp only [f123, t123, g160, f160, t160, Tr.val_test, Tr.val_fin, leF_eq, hn]
    rw [if_pos (by simp; omega)]
    have hm3 : ¬ 0 < n.tmod 1000 := by rw [Int.neg_tmod] at hm; omega
    have e3 : IntKind.wrap .i64 (-(n.tdiv 1000)) = -(n.tdiv 1000) := by rw [Int.neg_tdiv] at e1; exact e1
    simp [hm3, e3, e2, hw]

theorem mul_bd {c x M C : Int} (hc : -C ≤ c) (hc' : c ≤ C) (hx : -M ≤ x) (hx' : x ≤ M) (hM : 0 ≤ M) (hC : 0 ≤ C) : -(C * M) ≤ c * x ∧ c * x ≤ C * M := by
  have h : (c * x).natAbs ≤ (C * M).natAbs := by
    rw [Int.natAbs_mul, Int.natAbs_mul]
    exact Nat.mul_le_mul (by omega) (by omega)
  have := Int.mul_nonneg hC hM
  omega

/-- One tick, exact: how far it goes. -/
theorem tick_bd {s d a x y M : Int} (ho : OsOk s d) (ha : -1000 ≤ a ∧ a ≤ 1000) (hM : 0 ≤ M) (hM2 : M ≤ 500000000000000) (hx : -M ≤ x ∧ x ≤ M) (hy : -M ≤ y ∧ y ≤ M) :
    pullN s d x y = s * x + d * (x - y) ∧ (-(4000000000000000000) ≤ pullN s d x y ∧ pullN s d x y ≤ 4000000000000000000) ∧
    tick s d a x y = 2 * x - y - (s * x + d * (x - y)).tdiv 1000 - a ∧ -(3 * M + 1000) ≤ tick s d a x y ∧ tick s d a x y ≤ 3 * M + 1000 := by
  have k1 := mul_bd (c := s) (x := x) (M := M) (C := 3000) (by have := ho.s0; omega) ho.s1 hx.1 hx.2 hM (by omega)
  have k2 := mul_bd (c := d) (x := x - y) (M := 2 * M) (C := 500) (by have := ho.d0; omega) ho.d1 (by omega) (by omega) (by omega) (by omega)
  have p : pullN s d x y = s * x + d * (x - y) := by
    unfold pullN
    rw [wrap64_id (n := x - y) (by omega) (by omega), wrap64_id (n := s * x) (by omega) (by omega), wrap64_id (n := d * (x - y)) (by omega) (by omega), wrap64_id (by omega) (by omega)]
  have hN : -(4000000000000000000) ≤ pullN s d x y ∧ pullN s d x y ≤ 4000000000000000000 := by rw [p]; omega
  have q1 : 1000 * (s * x + d * (x - y)).tdiv 1000 + (s * x + d * (x - y)).tmod 1000 = s * x + d * (x - y) := Int.mul_tdiv_add_tmod _ _
  have q2 : -1000 < (s * x + d * (x - y)).tmod 1000 ∧ (s * x + d * (x - y)).tmod 1000 < 1000 := ⟨Int.lt_tmod_of_pos _ (by omega), Int.tmod_lt_of_pos _ (by omega)⟩
  generalize hq : (s * x + d * (x - y)).tdiv 1000 = q at *
  generalize (s * x + d * (x - y)).tmod 1000 = r at *
  -- a thousand times what is left
  have c1 : -(2000 : Int) ≤ 2000 - s - d := by have := ho.s1; have := ho.d1; omega
  have c3 : ∃ C, 0 ≤ C ∧ -C ≤ 2000 - s - d ∧ 2000 - s - d ≤ C ∧ C + (1000 - d) ≤ 3000 := by
    have := ho.s0; have := ho.d0; have := ho.s1; have := ho.d1
    rcases Int.le_total 0 (2000 - s - d) with h | h
    · exact ⟨2000 - s - d, h, by omega, Int.le_refl _, by omega⟩
    · exact ⟨-(2000 - s - d), by omega, by omega, by omega, by omega⟩
  obtain ⟨C, C0, C1, C2, C3⟩ := c3
  have m1 := mul_bd C1 C2 hx.1 hx.2 hM C0
  have m2 := mul_bd (c := 1000 - d) (x := y) (M := M) (C := 1000 - d) (by have := ho.d1; omega) (Int.le_refl _) hy.1 hy.2 hM (by have := ho.d1; omega)
  have m3 : (C + (1000 - d)) * M ≤ 3000 * M := Int.mul_le_mul_of_nonneg_right C3 hM
  have e1 : (2000 - s - d) * x - (1000 - d) * y = 1000 * (2 * x - y) - (s * x + d * (x - y)) := by
    simp only [Int.sub_mul, Int.mul_sub]
    omega
  have e2 : (C + (1000 - d)) * M = C * M + (1000 - d) * M := Int.add_mul _ _ _
  have hb : -(3 * M) ≤ 2 * x - y - q ∧ 2 * x - y - q ≤ 3 * M := by omega
  have ht : tick s d a x y = 2 * x - y - q - a := by
    unfold tick
    rw [p, hq, wrap64_id (n := 2 * x) (by omega) (by omega), wrap64_id (n := 2 * x - y) (by omega) (by omega), wrapI_id (n := q) (by omega) (by omega), wrap64_id (n := 2 * x - y - q) (by omega) (by omega), wrap64_id (by omega) (by omega)]
  refine ⟨p, hN, ht, by omega, by omega⟩

theorem rsp_bd {s d : Int} (ho : OsOk s d) {l : List Int} (hb : Bd 1000 l) (hl : l.length ≤ 24) : ∀ i : Nat, i ≤ l.length → (-(501 * (3 ^ i : Nat)) + 501 ≤ (rsp s d l i).1 ∧ (rsp s d l i).1 ≤ (501 * (3 ^ i : Nat) : Int) - 501) ∧ (-(501 * (3 ^ i : Nat)) + 501 ≤ (rsp s d l i).2 ∧ (rsp s d l i).2 ≤ (501 * (3 ^ i : Nat) : Int) - 501)
  | 0, _ => by simp [rsp]
  | i + 1, hi => by
    obtain ⟨h1, h2⟩ := rsp_bd ho hb hl i (by omega)
    have hp : (3 : Nat) ^ i ≤ 3 ^ 24 := Nat.pow_le_pow_right (by omega) (by omega)
    have h24 : (3 : Nat) ^ 24 = 282429536481 := by decide
    have h0 : 1 ≤ (3 : Nat) ^ i := by have := Nat.pow_le_pow_right (n := 3) (by omega) (Nat.zero_le i); simpa using this
    have hs : (3 : Nat) ^ (i + 1) = 3 * 3 ^ i := by rw [Nat.pow_succ, Nat.mul_comm]
    obtain ⟨_, _, _, t1, t2⟩ := tick_bd (x := (rsp s d l i).1) (y := (rsp s d l i).2) (M := 501 * ((3 ^ i : Nat) : Int) - 501) ho (hb i (by omega)) (by omega) (by omega) ⟨by omega, by omega⟩ ⟨by omega, by omega⟩
    simp only [rsp]
    rw [hs]
    omega

theorem l60 (l : List Int) (hb : Bd 1000 l) (hl : l.length ≤ 24) (s d : Int) (ho : OsOk s d) : l60_0 ((l, ([] : List Int), (0 : Int), (0 : Int), (0 : Int), ()), (s, d, ()), ()) = some (.inl ((respL s d l l.length, ()), (s, d, ()), ())) := by
  refine itr_brk (fun i => ((l, respL s d l i, (rsp s d l i).1, (rsp s d l i).2, (i : Int), ()), (s, d, ()), ())) (n := l.length) ?_ ?_ (lt_rounds (by omega))
  · intro i hi
    obtain ⟨h1, h2⟩ := rsp_bd ho hb hl i (by omega)
    have hp : (3 : Nat) ^ i ≤ 3 ^ 24 := Nat.pow_le_pow_right (by omega) (by omega)
    have h24 : (3 : Nat) ^ 24 = 282429536481 := by decide
    have h0 : 1 ≤ (3 : Nat) ^ i := by have := Nat.pow_le_pow_right (n := 3) (by omega) (Nat.zero_le i); simpa using this
    obtain ⟨_, t1, _⟩ := tick_bd (a := 0) (x := (rsp s d l i).1) (y := (rsp s d l i).2) (M := 501 * ((3 ^ i : Nat) : Int) - 501) ho (by omega) (by omega) (by omega) ⟨by omega, by omega⟩ ⟨by omega, by omega⟩
    have e := f123_eq (pullN s d (rsp s d l i).1 (rsp s d l i).2) (by omega) (by omega)
    unfold pullN at e
    simp only [s60_0, t60_0, Tr.val_test, Tr.val_fin, leF_eq, g123, e, Option.isSome_some, Option.getD_some, if_true]
    rw [if_pos (by simp; omega), if_pos (by simp; omega), if_pos (by simp [respL_len]; omega)]
    simp only [Int.toNat_natCast, respL_succ, wrap64_nat (show i ≤ 9223372036854775806 by omega)]
    rfl
  · simp [s60_0, t60_0, leF_eq]

theorem f60_eq (l : List Int) (hb : Bd 1000 l) (hl : l.length ≤ 24) (s d : Int) (ho : OsOk s d) : f60 (l, (s, d, ()), ()) = some (respL s d l l.length, ()) := by
  simp only [f60, t60, b60_0, l60 l hb hl s d ho, Tr.val_test, isBrk, if_true, outB]; rfl

/-- A row of a band: an oscillator, a range. -/
abbrev BR := (Int × Int × Unit) × (Int × Int × Unit) × Unit
abbrev br0 : BR := ((0, 0, ()), (0, 0, ()), ())

def bdE (b : BR) : Int := if osE b.1.1 b.1.2.1 ≠ 0 then osE b.1.1 b.1.2.1 else if inAll 0 1000000 [b.2.1.1, b.2.1.2.1] = false then 2 else if b.2.1.1 ≤ b.2.1.2.1 then 0 else 9

theorem f162_eq (d : Tys.data as162) : f162 d = some (bdE d.2.1, ()) := by
  obtain ⟨i, ⟨⟨s, q, u1⟩, ⟨lo, hi, u2⟩, u3⟩, u4⟩ := d
  have e3 := fun a b c : Int => f85_eq [a, b, c] (by simp)
  have e4 := f119_eq s q
  have e5 := f94_eq 0 1000000 [lo, hi] (by simp)
  show f162 (i, ((s, q, ()), (lo, hi, ()), ()), ()) = some (bdE ((s, q, ()), (lo, hi, ()), ()), ())
  simp only [f162, t162, g119, e4, g94, e5, g86, f86_eq, g85, e3, Tr.val_test, Tr.val_fin, leF_eq, Option.isSome_some, Option.getD_some, if_true, firstNZ, bdE]
  by_cases h1 : osE s q = 0
  · by_cases h2 : inAll 0 1000000 [lo, hi] = true
    · by_cases h3 : lo ≤ hi <;> simp [h1, h2, h3]
    · simp only [Bool.not_eq_true] at h2
      simp [h1, h2]
  · simp [h1]

def bAt (l : List BR) (i : Nat) : Int := bdE (l.getD i br0)

def bdLE (l : List BR) : Int := if l.length = 0 then 10 else if 6 < l.length then 8 else match first (fun i => !decide (bAt l i = 0)) l.length 0 with
  | some k => bAt l k
  | none => 0

theorem l161 (l : List BR) (h : l.length ≤ 1000000000) : l161_0 ((l, (l.length : Int), (0 : Int), ()), ()) = match first (fun i => !decide (bAt l i = 0)) l.length 0 with
    | some k => some (.inr (((k : Int), bAt l k, ()), ()))
    | none => some (.inl ((), ())) := by
  refine itr_search (fun i => ((l, (l.length : Int), (i : Int), ()), ())) (fun i => !decide (bAt l i = 0)) (fun k => (((k : Int), bAt l k, ()), ())) (n := l.length) ?_ ?_ (lt_rounds (by omega))
  · intro i hi
    simp only [s161_0, t161_0, Tr.val_test, Tr.val_fin, leF_eq, eqF_eq, g162, f162_eq, Int.toNat_natCast, Option.isSome_some, Option.getD_some, if_true]
    rw [if_pos (by simp; omega), if_pos (by simp; omega)]
    simp only [wrap64_nat (show i ≤ 9223372036854775806 by omega)]
    rfl
  · simp [s161_0, t161_0, leF_eq]

theorem f124_eq (l : List BR) (h : l.length ≤ 1000000000) : f124 (l, ()) = some (bdLE l, ()) := by
  have e2 := fun a b : Int => f85_eq [a, b] (by simp)
  simp only [f124, t124, g86, f86_eq, g85, e2, Tr.val_test, Tr.val_fin, leF_eq, eqF_eq, r161_0, l161 l h, Option.isSome_some, Option.getD_some, if_true, firstNZ, bdLE]
  by_cases h0 : l.length = 0
  · simp [h0]
  · have h0' : ¬ (l.length : Int) = 0 := by omega
    by_cases h1 : 6 < l.length
    · have h1' : ¬ (l.length : Int) ≤ 6 := by omega
      simp [h0, h1, h1']
    · have h1' : (l.length : Int) ≤ 6 := by omega
      simp only [h0, h0', h1, h1', decide_false, decide_true, Bool.not_true, Bool.not_false, Bool.false_eq_true, if_false, if_true]
      cases first (fun i => !decide (bAt l i = 0)) l.length 0 <;> rfl

theorem l64 (l : List BR) (h : l.length ≤ 1000000000) : l64_0 ((l, (0 : Int), ()), ()) = match first (fun i => !decide (bAt l i = 0)) l.length 0 with
    | some k => some (.inr ((bAt l k, ()), ()))
    | none => some (.inl ((), ())) := by
  refine itr_search (fun i => ((l, (i : Int), ()), ())) (fun i => !decide (bAt l i = 0)) (fun k => ((bAt l k, ()), ())) (n := l.length) ?_ ?_ (lt_rounds (by omega))
  · intro i hi
    have e := f58_eq (l.getD i br0).1.1 (l.getD i br0).1.2.1
    simp only [s64_0, t64_0, Tr.val_test, Tr.val_fin, leF_eq, eqF_eq, g58, e, g47, f47_eq, Int.toNat_natCast, Option.isSome_some, Option.getD_some, if_true, bAt, bdE, inAll_cons, inAll_nil, Bool.and_true]
    rw [if_pos (by simp; omega), if_pos (by simp; omega)]
    simp only [wrap64_nat (show i ≤ 9223372036854775806 by omega)]
    generalize l.getD i br0 = b
    obtain ⟨⟨s, q, u1⟩, ⟨lo, hi', u2⟩, u3⟩ := b
    dsimp only
    by_cases h1 : osE s q = 0
    · by_cases h2 : (decide (0 ≤ lo) && decide (lo ≤ 1000000)) = true
      · by_cases h3 : (decide (0 ≤ hi') && decide (hi' ≤ 1000000)) = true
        · by_cases h4 : lo ≤ hi'
          · simp only [h1, h2, h3, h4, decide_true, Bool.not_true, Bool.false_eq_true, if_false, if_true, Bool.and_self, Bool.true_eq_false, ne_eq, not_true_eq_false, Bool.not_false]
          · simp only [h1, h2, h3, h4, decide_true, decide_false, Bool.not_true, Bool.not_false, Bool.false_eq_true, if_false, if_true, Bool.and_self, Bool.true_eq_false, ne_eq, not_true_eq_false]
            simp
        · simp only [Bool.not_eq_true] at h3
          simp [h1, h2, h3]
      · simp only [Bool.not_eq_true] at h2
        simp [h1, h2]
    · simp [h1]
  · simp [s64_0, t64_0, leF_eq]

theorem f64_eq (l : List BR) (h : l.length ≤ 1000000000) : f64 (l, ()) = some (bdLE l, ()) := by
  simp only [f64, t64, Tr.val_test, Tr.val_fin, leF_eq, eqF_eq, r64_0, l64 l h, bdLE]
  by_cases h0 : l.length = 0
  · simp [h0]
  · have h0' : ¬ (l.length : Int) = 0 := by omega
    by_cases h1 : 6 < l.length
    · have h1' : ¬ (l.length : Int) ≤ 6 := by omega
      simp [h0, h1, h1']
    · have h1' : (l.length : Int) ≤ 6 := by omega
      simp only [h0, h0', h1, h1', decide_false, decide_true, Bool.not_true, Bool.false_eq_true, if_false, if_true]
      cases first (fun i => !decide (bAt l i = 0)) l.length 0 <;> rfl

theorem bdLE_ok {l : List BR} (h : bdLE l = 0) : (0 < l.length ∧ l.length ≤ 6) ∧ ∀ i, i < l.length → bdE (l.getD i br0) = 0 := by
  unfold bdLE at h
  split at h
  · cases h
  · split at h
    · cases h
    · refine ⟨by omega, fun i hi => ?_⟩
      split at h
      · rename_i k hk
        have := (first_some hk).2.2.1
        simp [h] at this
      · rename_i hn
        have := first_none hn i (by omega) (by omega)
        simpa [bAt] using this

structure BdOk (b : BR) : Prop where
  os : OsOk b.1.1 b.1.2.1
  lo0 : 0 ≤ b.2.1.1
  lo1 : b.2.1.1 ≤ 1000000
  hi0 : 0 ≤ b.2.1.2.1
  hi1 : b.2.1.2.1 ≤ 1000000
  le : b.2.1.1 ≤ b.2.1.2.1

theorem bdE_ok {b : BR} (h : bdE b = 0) : BdOk b := by
  unfold bdE at h
  split at h
  · rename_i h1; exact absurd h h1
  · rename_i h1
    split at h
    · cases h
    · rename_i h2
      split at h
      · rename_i h3
        simp only [inAll_cons, inAll_nil, Bool.and_true, Bool.not_eq_false, Bool.and_eq_true, decide_eq_true_eq] at h2
        exact ⟨osE_ok (by simpa using h1), h2.1.1, h2.1.2, h2.2.1, h2.2.2, h3⟩
      · cases h

theorem bdE_of {b : BR} (h : BdOk b) : bdE b = 0 := by
  have := h.os.s0; have := h.os.s1; have := h.os.d0; have := h.os.d1; have := h.lo0; have := h.lo1; have := h.hi0; have := h.hi1; have := h.le
  have e1 : osE b.1.1 b.1.2.1 = 0 := by simp [osE, *]
  have e2 : inAll 0 1000000 [b.2.1.1, b.2.1.2.1] = true := by simp [inAll_cons, inAll_nil, *]
  simp [bdE, e1, e2, *]

/-- Whether samples lie in a row of a band. -/
def inB (l : List Int) (b : BR) : Bool := decide (b.2.1.1 ≤ pk (respL b.1.1 b.1.2.1 l l.length) l.length) && decide (pk (respL b.1.1 b.1.2.1 l l.length) l.length ≤ b.2.1.2.1)
/-- Where they don't. -/
def outs (l : List Int) (b : List BR) : Nat → List Int
  | 0 => []
  | i + 1 => outs l b i ++ (if inB l (b.getD i br0) = true then [] else [(i : Int)])

theorem outs_len (l : List Int) (b : List BR) : ∀ i, (outs l b i).length ≤ i
  | 0 => Nat.le_refl 0
  | i + 1 => by
    have := outs_len l b i
    simp only [outs, List.length_append]
    split <;> simp <;> omega

theorem l125 (l : List Int) (h : l.length ≤ 1000000000) (b : List BR) (hb : b.length ≤ 1000000000) : l125_0 ((l, ([] : List Int), b, (b.length : Int), (0 : Int), ()), ()) = some (.inl ((outs l b b.length, ()), ())) := by
  refine itr_brk (fun i => ((l, outs l b i, b, (b.length : Int), (i : Int), ()), ())) (n := b.length) ?_ ?_ (lt_rounds (by omega))
  · intro i hi
    have e1 := f120_eq l h (b.getD i br0).1.1 (b.getD i br0).1.2.1
    have e2 := f122_eq (respL (b.getD i br0).1.1 (b.getD i br0).1.2.1 l l.length) (by rw [respL_len]; exact h)
    rw [respL_len] at e2
    have e3 := f94_eq (b.getD i br0).2.1.1 (b.getD i br0).2.1.2.1 [pk (respL (b.getD i br0).1.1 (b.getD i br0).1.2.1 l l.length) l.length] (by simp)
    have hl := outs_len l b i
    simp only [s125_0, t125_0, Tr.val_test, Tr.val_fin, leF_eq, Int.toNat_natCast, g120, e1, g122, e2, g94, e3, Option.isSome_some, Option.getD_some, if_true, inAll_cons, inAll_nil, Bool.and_true]
    rw [if_pos (by simp; omega), if_pos (by simp; omega)]
    simp only [wrap64_nat (show i ≤ 9223372036854775806 by omega), outs]
    by_cases hx : inB l (b.getD i br0) = true
    · have hx' := hx
      unfold inB at hx'
      rw [if_neg (by rw [hx']; simp), if_pos hx, List.append_nil]
    · have hx' := hx
      unfold inB at hx'
      simp only [Bool.not_eq_true] at hx'
      rw [if_pos (by rw [hx']; rfl), if_pos (by simp; omega), if_neg hx]
  · simp [s125_0, t125_0, leF_eq]

theorem f125_eq (l : List Int) (h : l.length ≤ 1000000000) (b : List BR) (hb : b.length ≤ 1000000000) : f125 (l, b, ()) = some (outs l b b.length, ()) := by
  simp only [f125, t125, b125_0, l125 l h b hb, Tr.val_test, isBrk, if_true, outB]; rfl

theorem l65 (l : List Int) (hl : Bd 1000 l) (h24 : l.length ≤ 24) (b : List BR) (hb : bdLE b = 0) : l65_0 ((l, b, ([] : List Int), (0 : Int), ()), ()) = some (.inl ((outs l b b.length, ()), ())) := by
  obtain ⟨⟨_, hb6⟩, hbo⟩ := bdLE_ok hb
  refine itr_brk (fun i => ((l, b, outs l b i, (i : Int), ()), ())) (n := b.length) ?_ ?_ (lt_rounds (by omega))
  · intro i hi
    have e1 := f60_eq l hl h24 (b.getD i br0).1.1 (b.getD i br0).1.2.1 (bdE_ok (hbo i hi)).os
    have e2 := f96_eq (respL (b.getD i br0).1.1 (b.getD i br0).1.2.1 l l.length) (by rw [respL_len]; omega)
    rw [respL_len] at e2
    have ho := outs_len l b i
    simp only [s65_0, t65_0, Tr.val_test, Tr.val_fin, leF_eq, Int.toNat_natCast, g60, e1, g96, e2, g47, f47_eq, Option.isSome_some, Option.getD_some, if_true]
    rw [if_pos (by simp; omega), if_pos (by simp; omega)]
    simp only [wrap64_nat (show i ≤ 9223372036854775806 by omega), outs]
    by_cases hx : inB l (b.getD i br0) = true
    · have hx' := hx
      unfold inB at hx'
      rw [if_neg (by rw [hx']; simp), if_pos hx, List.append_nil]
    · have hx' := hx
      unfold inB at hx'
      simp only [Bool.not_eq_true] at hx'
      rw [if_pos (by rw [hx']; rfl), if_pos (by simp; omega), if_neg hx]
  · simp [s65_0, t65_0, leF_eq]

theorem f65_eq (l : List Int) (hl : Bd 1000 l) (h24 : l.length ≤ 24) (b : List BR) (hb : bdLE b = 0) : f65 (l, b, ()) = some (outs l b b.length, ()) := by
  simp only [f65, t65, b65_0, l65 l hl h24 b hb, Tr.val_test, isBrk, if_true, outB]; rfl

theorem f63_eq (b : List BR) (hb : b.length ≤ 1000000000) : f63 (b, ()) = some (b, ()) := by
  simp only [f63, t63, Tr.val_test, Tr.val_fin]
  by_cases h0 : b.length = 0
  · rw [List.eq_nil_of_length_eq_zero h0]; rfl
  · rw [if_neg (by simp [h0]), if_neg (by rw [ble_eq_true']; omega), if_pos (by simp; omega), if_pos (by simp)]
    rfl

/-- What an instrument records. -/
def recA (l : List Int) (e : Int) : Nat → Int
  | 0 => 0
  | i + 1 => wrap64 (l.getD i 0 + wrap64 (e * recA l e i))
def recL (l : List Int) (e : Int) (n : Nat) : List Int := (List.range n).map fun i => recA l e (i + 1)
/-- The number ahead. -/
def prv (l : List Int) : Nat → Int
  | 0 => 0
  | i + 1 => l.getD i 0
/-- Of what it records this. -/
def corA (l : List Int) (e : Int) (i : Nat) : Int := wrap64 (l.getD i 0 - wrap64 (e * prv l i))
def corL (l : List Int) (e : Int) (n : Nat) : List Int := (List.range n).map fun i => corA l e i

theorem recL_len (l : List Int) (e : Int) (n : Nat) : (recL l e n).length = n := by simp [recL]
theorem recL_succ (l : List Int) (e : Int) (n : Nat) : recL l e (n + 1) = recL l e n ++ [recA l e (n + 1)] := by simp [recL, List.range_succ]
theorem recL_get (l : List Int) (e : Int) {n i : Nat} (h : i < n) : (recL l e n).getD i 0 = recA l e (i + 1) := by simp [recL, List.getD, h]
theorem corL_len (l : List Int) (e : Int) (n : Nat) : (corL l e n).length = n := by simp [corL]
theorem corL_succ (l : List Int) (e : Int) (n : Nat) : corL l e (n + 1) = corL l e n ++ [corA l e n] := by simp [corL, List.range_succ]
theorem corL_get (l : List Int) (e : Int) {n i : Nat} (h : i < n) : (corL l e n).getD i 0 = corA l e i := by simp [corL, List.getD, h]

/-- The last result, whatever it was. -/
def corR (l : List Int) (e : Int) : Nat → Int
  | 0 => 0
  | i + 1 => corA l e i

theorem f143_eq (x : Int) (l : List Int) (h : l.length ≤ 1000000000) : f143 (x, l, ()) = some (if inAll (-1000) 1000 l = true then (x, l, ()) else (0, [], ()), if inAll (-1000) 1000 l = true then 0 else 8, ()) := by
  simp only [f143, t143, g141, f141_eq 1000 l h, w1000, Tr.val_test, Tr.val_fin, Option.isSome_some, Option.getD_some, if_true]
  cases inAll (-1000) 1000 l <;> rfl

theorem w2 : IntKind.wrap .i64 (0 - 2) = -2 := by decide

/-- The error of an echo. -/
def ecE (e : Int) : Int := if (decide (-2 ≤ e) && decide (e ≤ 2)) = true then 0 else 2

theorem f36_self (x : Int) (l : List Int) (h : l.length ≤ 1000000000) : f36 ((x, l, ()), (x, l, ()), ()) = some (true, ()) := by
  simp only [f36, t36, eqF_eq, g23, f23_self l h, decide_true, Tr.val_test, Tr.val_fin, Option.isSome_some, Option.getD_some, if_true]

theorem f38_eq (x : Int) (l k : List Int) (h : k.length ≤ 1000000000) : f38 ((x, l, ()), k, ()) = some ((x, k, ()), ()) := by
  simp only [f38, t38, g70, f70_eq k h, Tr.val_test, Tr.val_fin, Option.isSome_some, Option.getD_some, if_true]

theorem ext0 {a b : List Int} (hl : a.length = b.length) (h : ∀ i, i < a.length → a.getD i 0 = b.getD i 0) : a = b := by
  refine List.ext_getElem hl fun i h1 h2 => ?_
  have := h i h1
  simpa [List.getD, h1, h2] using this

/-- Each undoes the other. -/
theorem cor_rec {l : List Int} (hb : Bd 1000 l) (e : Int) : corL (recL l e l.length) e l.length = l := by
  refine ext0 (by rw [corL_len]) fun i hi => ?_
  rw [corL_len] at hi
  rw [corL_get _ _ hi, corA, recL_get _ _ hi]
  have hp : prv (recL l e l.length) i = recA l e i := by
    cases i with
    | zero => rfl
    | succ j => exact recL_get l e (by omega)
  have := hb i hi
  rw [hp, recA, wrap64_sub_l, show l.getD i 0 + wrap64 (e * recA l e i) - wrap64 (e * recA l e i) = l.getD i 0 by omega, wrap64_id (by omega) (by omega)]

theorem rec_cor {l : List Int} (hb : Bd 1000 l) (e : Int) : recL (corL l e l.length) e l.length = l := by
  have key : ∀ i, i ≤ l.length → recA (corL l e l.length) e i = prv l i := by
    intro i
    induction i with
    | zero => intro _; rfl
    | succ i ih =>
      intro hi
      have := hb i (by omega)
      rw [recA, ih (by omega), corL_get _ _ (show i < l.length by omega), corA, wrap64_add_l, show l.getD i 0 - wrap64 (e * prv l i) + wrap64 (e * prv l i) = l.getD i 0 by omega, wrap64_id (by omega) (by omega)]
      rfl
  refine ext0 (by rw [recL_len]) fun i hi => ?_
  rw [recL_len] at hi
  rw [recL_get _ _ hi, key _ (by omega)]
  rfl

theorem chk_same {x : Int} {l k : List Int} (h : (chk x l).2 = 0) (hl : k.length = l.length) (hk : inAll (-1000) 1000 k = true) : (chk x k).2 = 0 := by
  obtain ⟨h1, h2, _, h3, h4⟩ := chk_ok h
  have hn : first (badS k) k.length 0 = none := Option.isNone_iff_eq_none.1 hk
  unfold chk
  rw [if_neg (by omega), if_neg (by omega), if_neg (by omega), hn]

/-- Samples with the first of a wave added so many times. -/
def inn (out w : List Int) (k : Int) : Nat → List Int
  | 0 => out
  | t + 1 => (inn out w k t).set t (wrap64 ((inn out w k t).getD t 0 + wrap64 (k * w.getD t 0)))

/-- Samples with the first waves added. -/
def adl (out : List Int) (ws : List (List Int)) (ts : List Int) (n : Nat) : Nat → List Int
  | 0 => out
  | i + 1 => inn (adl out ws ts n i) (ws.getD i []) (ts.getD i 0) n

theorem inn_len (out w : List Int) (k : Int) : ∀ t, (inn out w k t).length = out.length
  | 0 => rfl
  | t + 1 => by rw [inn, List.length_set, inn_len out w k t]

theorem adl_len (out : List Int) (ws : List (List Int)) (ts : List Int) (n : Nat) : ∀ i, (adl out ws ts n i).length = out.length
  | 0 => rfl
  | i + 1 => by rw [adl, inn_len, adl_len out ws ts n i]

theorem l1282 (x z : Int) (l ts : List Int) (ws : List (List Int)) (wave out : List Int) (nw : Int) (n i : Nat) (hn : out.length = n) (hw : wave.length = n) (hi : i < ts.length) (h9 : n ≤ 1000000000) :
    l128_2_1 ((ts, n, (i : Int), ws, nw, (i : Int), wave, (wave.length : Int), (0 : Int), ()), (x, l, ()), (z, ()), out, ()) = some (.inl ((ts, n, ws, nw, (i : Int), ()), (x, l, ()), (z, ()), inn out wave (ts.getD i 0) n, ())) := by
  refine itr_brk (fun t => ((ts, n, (i : Int), ws, nw, (i : Int), wave, (wave.length : Int), (t : Int), ()), (x, l, ()), (z, ()), inn out wave (ts.getD i 0) t, ())) (n := n) ?_ ?_ (lt_rounds (by omega))
  · intro t ht
    have hl := inn_len out wave (ts.getD i 0) t
    simp only [s128_2_1, t128_2_1, Tr.val_test, Tr.val_fin, leF_eq, Int.toNat_natCast, Nat.zero_add]
    rw [if_pos (by simp; omega), if_pos (by simp; omega), if_pos (by simp; omega), if_pos (by rw [ble_eq_true']; omega), if_pos (by simp; omega)]
    simp only [wrap64_nat (show t ≤ 9223372036854775806 by omega)]
    rfl
  · simp [s128_2_1, t128_2_1, leF_eq, hw]

theorem l1280 (x z : Int) (l ts : List Int) (ws : List (List Int)) (out : List Int) (n : Nat) (hn : out.length = n) (hw : ∀ i, i < ws.length → (ws.getD i []).length = n) (ht : ts.length = ws.length) (h9 : n ≤ 1000000000) (hs : ws.length ≤ 1000000000) :
    l128_0_1 ((ts, n, ws, (ws.length : Int), (0 : Int), ()), (x, l, ()), (z, ()), out, ()) = some (.inl ((n, ()), (x, l, ()), (z, ()), adl out ws ts n ws.length, ())) := by
  refine itr_brk (fun i => ((ts, n, ws, (ws.length : Int), (i : Int), ()), (x, l, ()), (z, ()), adl out ws ts n i, ())) (n := ws.length) ?_ ?_ (lt_rounds (by omega))
  · intro i hi
    have e := l1282 x z l ts ws (ws.getD i []) (adl out ws ts n i) ws.length n i (by rw [adl_len]; exact hn) (hw i hi) (by omega) h9
    simp only [s128_0_1, t128_0_1, Tr.val_test, Tr.val_fin, leF_eq, Int.toNat_natCast, b128_2_1, e, isBrk, outB, if_true]
    rw [if_pos (by simp; omega), if_pos (by simp; omega)]
    simp only [wrap64_nat (show i ≤ 9223372036854775806 by omega)]
    rfl
  · simp [s128_0_1, t128_0_1, leF_eq]

theorem f128_eq (x : Int) (l ts : List Int) (ws : List (List Int)) (h0 : 0 < l.length) (h9 : l.length ≤ 1000000000) (hw : ∀ i, i < ws.length → (ws.getD i []).length = l.length) (ht : ts.length = ws.length) (hs : ws.length ≤ 1000000000) :
    f128 ((x, l, ()), ws, ts, ()) = some (if inAll (-1000) 1000 (adl l ws ts l.length ws.length) = true then (x, adl l ws ts l.length ws.length, ()) else (0, [], ()), if inAll (-1000) 1000 (adl l ws ts l.length ws.length) = true then 0 else 8, ()) := by
  have hl := adl_len l ws ts l.length ws.length
  have e1 := l1280 x 0 l ts ws l l.length rfl hw ht h9 hs
  have e2 := f143_eq x (adl l ws ts l.length ws.length) (by rw [hl]; exact h9)
  simp only [f128, t128, Tr.val_test, Tr.val_fin, Nat.zero_add, List.nil_append, b128_0_1, e1, isBrk, outB, if_true, g143, e2, Option.isSome_some, Option.getD_some, hl]
  rw [if_neg (by rw [beq_eq_true']; omega), if_neg (by rw [ble_eq_true']; omega), if_pos (by simp; omega), if_pos (by rw [beq_eq_true'])]

theorem l752 (ts : List Int) (ws : List (List Int)) (out : List Int) (n i : Nat) (hn : out.length = n) (hw : (ws.getD i []).length = n) (hi : i < ts.length) (hi2 : i < ws.length) (h9 : n ≤ 1000000000) :
    l75_2 ((ws, ts, n, (i : Int), (0 : Int), ()), out, ()) = some (.inl ((ws, ts, n, (i : Int), ()), inn out (ws.getD i []) (ts.getD i 0) n, ())) := by
  refine itr_brk (fun t => ((ws, ts, n, (i : Int), (t : Int), ()), inn out (ws.getD i []) (ts.getD i 0) t, ())) (n := n) ?_ ?_ (lt_rounds (by omega))
  · intro t ht
    have hl := inn_len out (ws.getD i []) (ts.getD i 0) t
    have hw' := hw
    rw [List.getD_eq_getElem?_getD] at hw'
    simp only [s75_2, t75_2, Tr.val_test, Tr.val_fin, leF_eq, Int.toNat_natCast, Nat.zero_add]
    rw [if_pos (by simp; omega), if_pos (by simp; omega), if_pos (by rw [ble_eq_true']; omega), if_pos (by simp; omega), if_pos (by simp; omega), if_pos (by simp; omega)]
    simp only [wrap64_nat (show t ≤ 9223372036854775806 by omega)]
    rfl
  · simp [s75_2, t75_2, leF_eq]

theorem l750 (ts : List Int) (ws : List (List Int)) (out : List Int) (n : Nat) (hn : out.length = n) (hw : ∀ i, i < ws.length → (ws.getD i []).length = n) (ht : ts.length = ws.length) (h9 : n ≤ 1000000000) (hs : ws.length ≤ 1000000000) :
    l75_0 ((ws, ts, n, (0 : Int), ()), out, ()) = some (.inl ((n, ()), adl out ws ts n ws.length, ())) := by
  refine itr_brk (fun i => ((ws, ts, n, (i : Int), ()), adl out ws ts n i, ())) (n := ws.length) ?_ ?_ (lt_rounds (by omega))
  · intro i hi
    have e := l752 ts ws (adl out ws ts n i) n i (by rw [adl_len]; exact hn) (hw i hi) (by omega) hi h9
    simp only [s75_0, t75_0, Tr.val_test, Tr.val_fin, leF_eq, Int.toNat_natCast, b75_2, e, isBrk, outB, if_true]
    rw [if_pos (by simp; omega)]
    simp only [wrap64_nat (show i ≤ 9223372036854775806 by omega)]
    rfl
  · simp [s75_0, t75_0, leF_eq]

theorem l754 (a : List Int) (h : a.length ≤ 1000000000) : l75_4 ((a.length, (0 : Int), ()), a, ()) = match first (fun i => !(decide (-1000 ≤ a.getD i 0) && decide (a.getD i 0 ≤ 1000))) a.length 0 with
    | some _ => some (.inr ((false, ()), a, ()))
    | none => some (.inl ((a.length, ()), a, ())) := by
  refine itr_search (fun i => ((a.length, (i : Int), ()), a, ())) (fun i => !(decide (-1000 ≤ a.getD i 0) && decide (a.getD i 0 ≤ 1000))) (fun k => ((false, ()), a, ())) (n := a.length) ?_ ?_ (lt_rounds (by omega))
  · intro i hi
    simp only [s75_4, t75_4, Tr.val_test, Tr.val_fin, leF_eq, Int.toNat_natCast, Nat.zero_add, g54, f54_eq, Option.isSome_some, Option.getD_some, if_true]
    rw [if_pos (by simp; omega), if_pos (by simp; omega), if_pos (by rw [ble_eq_true']; omega)]
    simp only [wrap64_nat (show i ≤ 9223372036854775806 by omega)]
  · simp [s75_4, t75_4, leF_eq]

theorem f75_eq (l ts : List Int) (ws : List (List Int)) (h0 : 0 < l.length) (h9 : l.length ≤ 1000000000) (hw : ∀ i, i < ws.length → (ws.getD i []).length = l.length) (ht : ts.length = ws.length) (hs : ws.length ≤ 1000000000) :
    f75 (l, ws, ts, ()) = some (if inAll (-1000) 1000 (adl l ws ts l.length ws.length) = true then adl l ws ts l.length ws.length else [], inAll (-1000) 1000 (adl l ws ts l.length ws.length), ()) := by
  have hl := adl_len l ws ts l.length ws.length
  have e1 := l750 ts ws l l.length rfl hw ht h9 hs
  have e2 := l754 (adl l ws ts l.length ws.length) (by rw [hl]; exact h9)
  unfold inAll
  rw [hl] at e2 ⊢
  simp only [f75, t75, Tr.val_test, Tr.val_fin, Nat.zero_add, List.nil_append, b75_0, e1, isBrk, outB, if_true, r75_4, b75_4, e2]
  rw [if_neg (by rw [beq_eq_true']; omega), if_neg (by rw [ble_eq_true']; omega), if_pos (by simp; omega)]
  cases first (fun i => !(decide (-1000 ≤ (adl l ws ts l.length ws.length).getD i 0) && decide ((adl l ws ts l.length ws.length).getD i 0 ≤ 1000))) l.length 0 with
  | some k => rfl
  | none => simp [isRet, outB, hl]

/-! ### Waves that are checked -/

def endZ (w : List Int) : Bool := (wrap64 (accE w w.length) == 0 && (wrap64 (accE2 w w.length) == 0 && true))
def wvE (n : Nat) (w : List Int) : Int := if w.length ≠ n then 10 else if (badAt w).2 ≠ 0 then 2 else if endZ w = true then 0 else 21
def wAt (n : Nat) (ws : List (List Int)) (i : Nat) : Int := wvE n (ws.getD i [])
def wsE (n : Nat) (ws : List (List Int)) : Int := if 3 < ws.length then 8 else match first (fun i => !decide (wAt n ws i = 0)) ws.length 0 with
  | some k => wAt n ws k
  | none => 0

theorem badAt_two (w : List Int) : (badAt w).2 = 0 ∨ (badAt w).2 = 2 := by
  unfold badAt
  cases first (badS w) w.length 0 <;> simp

theorem l163 (n : Nat) (ws : List (List Int)) (hs : ws.length ≤ 1000000000) (hw : ∀ i, i < ws.length → (ws.getD i []).length ≤ 1000000000) : l163_0 ((ws, (ws.length : Int), (0 : Int), ()), ((n : Int), ()), ()) = match first (fun i => !decide (wAt n ws i = 0)) ws.length 0 with
    | some k => some (.inr (((k : Int), wAt n ws k, ()), ((n : Int), ()), ()))
    | none => some (.inl ((), ((n : Int), ()), ())) := by
  have e3 := fun a b c : Int => f85_eq [a, b, c] (by simp)
  refine itr_search (fun i => ((ws, (ws.length : Int), (i : Int), ()), ((n : Int), ()), ())) (fun i => !decide (wAt n ws i = 0)) (fun k => (((k : Int), wAt n ws k, ()), ((n : Int), ()), ())) (n := ws.length) ?_ ?_ (lt_rounds (by omega))
  · intro i hi
    have hwi := hw i hi
    have b2 := badAt_two (ws.getD i [])
    simp only [s163_0, t163_0, Tr.val_test, Tr.val_fin, leF_eq, eqF_eq, Int.toNat_natCast, g87, f87_eq _ hwi, g90, f90_eq _ hwi, g86, f86_eq, g85, e3, Option.isSome_some, Option.getD_some, if_true, firstNZ, wAt, wvE, endZ]
    rw [if_pos (by simp; omega), if_pos (by simp; omega)]
    simp only [wrap64_nat (show i ≤ 9223372036854775806 by omega)]
    by_cases h1 : (ws.getD i []).length = n
    · have h1' : ((ws.getD i []).length : Int) = (n : Int) := by omega
      rcases b2 with b2 | b2
      · by_cases h3 : (wrap64 (accE (ws.getD i []) (ws.getD i []).length) == 0 && (wrap64 (accE2 (ws.getD i []) (ws.getD i []).length) == 0 && true)) = true
        · rw [h1] at h3
          simp only [h1, decide_true, Bool.not_true, b2, h3, Bool.false_eq_true, if_false, if_true, ne_eq, not_true_eq_false, Bool.not_false]
        · simp only [Bool.not_eq_true] at h3
          rw [h1] at h3
          simp only [h1, decide_true, Bool.not_true, b2, h3, Bool.false_eq_true, if_false, if_true, ne_eq, not_true_eq_false, Bool.not_false]
          simp
      · simp only [h1, b2, decide_true, Bool.not_true, Bool.false_eq_true, if_false, if_true, ne_eq, not_true_eq_false]
        simp
    · have h1' : ¬ ((ws.getD i []).length : Int) = (n : Int) := by omega
      simp only [h1', h1, decide_false, Bool.not_false, if_true, ne_eq, not_false_eq_true]
      simp
  · simp [s163_0, t163_0, leF_eq]

theorem f126_eq (n : Nat) (ws : List (List Int)) (hs : ws.length ≤ 1000000000) (hw : ∀ i, i < ws.length → (ws.getD i []).length ≤ 1000000000) : f126 (ws, (n : Int), ()) = some (wsE n ws, ()) := by
  simp only [f126, t126, Tr.val_test, Tr.val_fin, leF_eq, r163_0, l163 n ws hs hw, wsE]
  by_cases h1 : 3 < ws.length
  · rw [if_pos h1, if_pos (by simp; omega)]
  · rw [if_neg h1, if_neg (by simp; omega)]
    cases first (fun i => !decide (wAt n ws i = 0)) ws.length 0 <;> rfl

theorem l732 (n : Nat) (ws : List (List Int)) (i : Nat) (hi : i < ws.length) (hw : (ws.getD i []).length = n) (h9 : n ≤ 1000000000) : l73_2 (((n : Int), ws, (i : Int), (0 : Int), ()), ()) = match first (badS (ws.getD i [])) n 0 with
    | some _ => some (.inr ((2, ()), ()))
    | none => some (.inl (((n : Int), ws, (i : Int), ()), ())) := by
  refine itr_search (fun t => (((n : Int), ws, (i : Int), (t : Int), ()), ())) (badS (ws.getD i [])) (fun k => ((2, ()), ())) (n := n) ?_ ?_ (lt_rounds (by omega))
  · intro t ht
    have hw' := hw
    rw [List.getD_eq_getElem?_getD] at hw'
    simp only [s73_2, t73_2, Tr.val_test, Tr.val_fin, leF_eq, Int.toNat_natCast, g54, f54_eq, Option.isSome_some, Option.getD_some, if_true]
    rw [if_pos (by simp; omega), if_pos (by simp; omega), if_pos (by simp; omega)]
    simp only [wrap64_nat (show t ≤ 9223372036854775806 by omega), badS]
    rfl
  · simp [s73_2, t73_2, leF_eq]

theorem l73 (n : Nat) (ws : List (List Int)) (hs : ws.length ≤ 1000000000) (h9 : n ≤ 1000000000) : l73_0 (((n : Int), ws, (0 : Int), ()), ()) = match first (fun i => !decide (wAt n ws i = 0)) ws.length 0 with
    | some k => some (.inr ((wAt n ws k, ()), ()))
    | none => some (.inl ((), ())) := by
  refine itr_search (fun i => (((n : Int), ws, (i : Int), ()), ())) (fun i => !decide (wAt n ws i = 0)) (fun k => ((wAt n ws k, ()), ())) (n := ws.length) ?_ ?_ (lt_rounds (by omega))
  · intro i hi
    by_cases h1 : (ws.getD i []).length = n
    · have e := l732 n ws i hi h1 h9
      have e26 := f26_eq (ws.getD i []) (by omega)
      simp only [s73_0, t73_0, Tr.val_test, Tr.val_fin, leF_eq, eqF_eq, Int.toNat_natCast, r73_2, b73_2, e]
      rw [if_pos (by simp; omega), if_pos (by simp; omega), if_neg (by rw [h1]; simp)]
      have hb : badAt (ws.getD i []) = match first (badS (ws.getD i [])) n 0 with | some k => ((k : Int), 2) | none => (0, 0) := by unfold badAt; rw [h1]
      cases hf : first (badS (ws.getD i [])) n 0 with
      | some k =>
        rw [hf] at hb
        have hwa : wAt n ws i = 2 := by
          simp only [wAt, wvE, h1, hb, ne_eq, not_true_eq_false, if_false]
          rfl
        simp [isRet, outR, hwa]
      | none =>
        rw [hf] at hb
        simp only [Option.isSome_some, if_true, isRet, Bool.false_eq_true, if_false, outB, Int.toNat_natCast, g26, e26, Option.getD_some, wAt, wvE, h1, hb, ne_eq, not_true_eq_false, endZ]
        rw [if_pos (by simp; omega)]
        simp only [wrap64_nat (show i ≤ 9223372036854775806 by omega)]
        cases (wrap64 (accE (ws.getD i []) n) == 0 && (wrap64 (accE2 (ws.getD i []) n) == 0 && true)) <;> simp
    · have h1' : ¬ ((ws.getD i []).length : Int) = (n : Int) := by omega
      simp only [s73_0, t73_0, Tr.val_test, Tr.val_fin, leF_eq, eqF_eq, Int.toNat_natCast]
      rw [if_pos (by simp; omega), if_pos (by simp; omega), if_pos (by simp only [h1', decide_false, Bool.not_false])]
      have hwa : wAt n ws i = 10 := by simp only [wAt, wvE, h1, ne_eq, not_false_eq_true, if_true]
      simp [hwa]
  · simp [s73_0, t73_0, leF_eq]

theorem f73_eq (n : Nat) (ws : List (List Int)) (hs : ws.length ≤ 1000000000) (h9 : n ≤ 1000000000) : f73 ((n : Int), ws, ()) = some (wsE n ws, ()) := by
  simp only [f73, t73, Tr.val_test, Tr.val_fin, leF_eq, r73_0, l73 n ws hs h9, wsE]
  by_cases h1 : 3 < ws.length
  · rw [if_pos h1, if_pos (by simp; omega)]
  · rw [if_neg h1, if_neg (by simp; omega)]
    cases first (fun i => !decide (wAt n ws i = 0)) ws.length 0 <;> rfl

theorem wsE_ok {n : Nat} {ws : List (List Int)} (h : wsE n ws = 0) : ws.length ≤ 3 ∧ ∀ i, i < ws.length → wvE n (ws.getD i []) = 0 := by
  unfold wsE at h
  split at h
  · cases h
  · refine ⟨by omega, fun i hi => ?_⟩
    split at h
    · rename_i k hk
      have := (first_some hk).2.2.1
      simp [h] at this
    · rename_i hn
      have := first_none hn i (by omega) (by omega)
      simpa [wAt] using this

theorem wvE_len {n : Nat} {w : List Int} (h : wvE n w = 0) : w.length = n := by
  unfold wvE at h
  split at h
  · cases h
  · rename_i h1; simpa using h1

/-! ### Times -/

def tmE (ts : List Int) (c : Nat) : Int := if ts.length ≠ c then 10 else if inAll (-2) 2 ts = true then 0 else 2

theorem f127_eq (ts : List Int) (c : Nat) (h : ts.length ≤ 1000000000) : f127 (ts, (c : Int), ()) = some (tmE ts c, ()) := by
  have e2 := fun a b : Int => f85_eq [a, b] (by simp)
  simp only [f127, t127, g86, f86_eq, g141, f141_eq 2 ts h, w2, g85, e2, eqF_eq, Tr.val_test, Tr.val_fin, Option.isSome_some, Option.getD_some, if_true, firstNZ, tmE]
  by_cases h1 : ts.length = c
  · have h1' : (ts.length : Int) = (c : Int) := by omega
    cases inAll (-2) 2 ts <;> simp [h1]
  · have h1' : ¬ (ts.length : Int) = (c : Int) := by omega
    simp [h1, h1']

theorem l74 (ts : List Int) (h : ts.length ≤ 1000000000) : l74_0 ((ts, (0 : Int), ()), ()) = match first (fun i => !(decide (-2 ≤ ts.getD i 0) && decide (ts.getD i 0 ≤ 2))) ts.length 0 with
    | some _ => some (.inr ((2, ()), ()))
    | none => some (.inl ((), ())) := by
  refine itr_search (fun i => ((ts, (i : Int), ()), ())) (fun i => !(decide (-2 ≤ ts.getD i 0) && decide (ts.getD i 0 ≤ 2))) (fun k => ((2, ()), ())) (n := ts.length) ?_ ?_ (lt_rounds (by omega))
  · intro i hi
    simp only [s74_0, t74_0, Tr.val_test, Tr.val_fin, leF_eq, Int.toNat_natCast, g47, f47_eq, Option.isSome_some, Option.getD_some, if_true]
    rw [if_pos (by simp; omega), if_pos (by simp; omega)]
    simp only [wrap64_nat (show i ≤ 9223372036854775806 by omega)]
  · simp [s74_0, t74_0, leF_eq]

theorem f74_eq (ts : List Int) (ws : List (List Int)) (h : ts.length ≤ 1000000000) : f74 (ws, ts, ()) = some (tmE ts ws.length, ()) := by
  unfold tmE inAll
  simp only [f74, t74, eqF_eq, Tr.val_test, Tr.val_fin, r74_0, l74 ts h]
  by_cases h1 : ts.length = ws.length
  · have h1' : (ts.length : Int) = (ws.length : Int) := by omega
    simp only [h1, decide_true, Bool.not_true, Bool.false_eq_true, if_false, ne_eq, not_true_eq_false]
    cases first (fun i => !(decide (-2 ≤ ts.getD i 0) && decide (ts.getD i 0 ≤ 2))) ws.length 0 <;> rfl
  · have h1' : ¬ (ts.length : Int) = (ws.length : Int) := by omega
    simp only [h1', h1, decide_false, Bool.not_false, if_true, ne_eq, not_false_eq_true]

def szs (ts : List Int) : Nat → Int
  | 0 => 0
  | i + 1 => wrap64 (szs ts i + sz (ts.getD i 0))

theorem l130 (ts : List Int) (h : ts.length ≤ 1000000000) : l130_0 (((0 : Int), ts, (ts.length : Int), (0 : Int), ()), ()) = some (.inl ((szs ts ts.length, ()), ())) := by
  refine itr_brk (fun i => ((szs ts i, ts, (ts.length : Int), (i : Int), ()), ())) (n := ts.length) ?_ ?_ (lt_rounds (by omega))
  · intro i hi
    simp only [s130_0, t130_0, Tr.val_test, Tr.val_fin, leF_eq, Int.toNat_natCast]
    rw [if_pos (by simp; omega), if_pos (by simp; omega)]
    simp only [wrap64_nat (show i ≤ 9223372036854775806 by omega)]
    rfl
  · simp [s130_0, t130_0, leF_eq]

theorem f130_eq (ts : List Int) (h : ts.length ≤ 1000000000) : f130 (ts, ()) = some (szs ts ts.length, ()) := by
  simp only [f130, t130, b130_0, l130 ts h, Tr.val_test, isBrk, if_true, outB]; rfl

theorem l76 (ts : List Int) (h : ts.length ≤ 1000000000) : l76_0 ((ts, (0 : Int), (0 : Int), ()), ()) = some (.inl ((szs ts ts.length, ()), ())) := by
  refine itr_brk (fun i => ((ts, szs ts i, (i : Int), ()), ())) (n := ts.length) ?_ ?_ (lt_rounds (by omega))
  · intro i hi
    simp only [s76_0, t76_0, Tr.val_test, Tr.val_fin, leF_eq, Int.toNat_natCast, g131, f131_eq, Option.isSome_some, Option.getD_some, if_true]
    rw [if_pos (by simp; omega), if_pos (by simp; omega)]
    simp only [wrap64_nat (show i ≤ 9223372036854775806 by omega)]
    rfl
  · simp [s76_0, t76_0, leF_eq]

theorem f76_eq (ts : List Int) (h : ts.length ≤ 1000000000) : f76 (ts, ()) = some (szs ts ts.length, ()) := by
  simp only [f76, t76, b76_0, l76 ts h, Tr.val_test, isBrk, if_true, outB]; rfl

/-! ### Copies; few -/

theorem take_snoc {α : Type} (l : List α) (d : α) {i : Nat} (h : i < l.length) : l.take (i + 1) = l.take i ++ [l.getD i d] := by
  rw [List.take_add_one, List.getD_eq_getElem?_getD, List.getElem?_eq_getElem h]; rfl

theorem l69 (ws : List (List Int)) (hs : ws.length ≤ 1000000000) (hw : ∀ i, i < ws.length → (ws.getD i []).length ≤ 1000000000) : l69_0 ((ws, ([] : List (List Int)), (0 : Int), ()), ()) = some (.inl ((ws, ()), ())) := by
  have key := itr_brk (step := s69_0) (fun i => ((ws, ws.take i, (i : Int), ()), ())) (n := ws.length) (m := rounds) (b := ((ws.take ws.length, ()), ())) ?_ ?_ (lt_rounds (by omega))
  · rw [List.take_length] at key
    exact key
  · intro i hi
    have e := f70_eq (ws.getD i []) (hw i hi)
    simp only [s69_0, t69_0, Tr.val_test, Tr.val_fin, leF_eq, Int.toNat_natCast, g70, e, Option.isSome_some, Option.getD_some, if_true]
    rw [if_pos (by simp; omega), if_pos (by simp; omega), if_pos (by simp [List.length_take]; omega)]
    simp only [wrap64_nat (show i ≤ 9223372036854775806 by omega), take_snoc ws [] hi]
  · simp [s69_0, t69_0, leF_eq]

theorem f69_eq (ws : List (List Int)) (hs : ws.length ≤ 1000000000) (hw : ∀ i, i < ws.length → (ws.getD i []).length ≤ 1000000000) : f69 (ws, ()) = some (ws, ()) := by
  simp only [f69, t69, b69_0, l69 ws hs hw, Tr.val_test, isBrk, if_true, outB]; rfl

theorem f72_eq (ws : List (List Int)) (ts : List Int) (hs : ws.length ≤ 1000000000) (hw : ∀ i, i < ws.length → (ws.getD i []).length ≤ 1000000000) (ht : ts.length ≤ 1000000000) : f72 ((ws, ts, ()), ()) = some ((ws, ts, ()), ()) := by
  simp only [f72, t72, g69, f69_eq ws hs hw, g70, f70_eq ts ht, Tr.val_test, Tr.val_fin, Option.isSome_some, Option.getD_some, if_true]

def fewW (ws : List (List Int)) : Bool := decide (ws.length ≤ 5) && (first (fun i => !decide ((ws.getD i []).length ≤ 26)) ws.length 0).isNone

theorem f67_eq (ws : List (List Int)) : f67 (ws, ()) = some (fewW ws, ()) := by
  by_cases h5 : ws.length ≤ 5
  · have hl : l67_0 ((ws, (0 : Int), ()), ()) = match first (fun i => !decide ((ws.getD i []).length ≤ 26)) ws.length 0 with
        | some _ => some (.inr ((false, ()), ()))
        | none => some (.inl ((), ())) := by
      refine itr_search (fun i => ((ws, (i : Int), ()), ())) (fun i => !decide ((ws.getD i []).length ≤ 26)) (fun k => ((false, ()), ())) (n := ws.length) ?_ ?_ (lt_rounds (by omega))
      · intro i hi
        have hd : decide (((ws.getD i []).length : Int) ≤ 26) = decide ((ws.getD i []).length ≤ 26) := decide_eq_decide.2 (by omega)
        simp only [s67_0, t67_0, Tr.val_test, Tr.val_fin, leF_eq, Int.toNat_natCast, hd]
        rw [if_pos (by simp; omega), if_pos (by simp; omega)]
        simp only [wrap64_nat (show i ≤ 9223372036854775806 by omega)]
      · simp [s67_0, t67_0, leF_eq]
    simp only [f67, t67, Tr.val_test, Tr.val_fin, leF_eq, r67_0, hl, fewW, h5, decide_true, Bool.true_and]
    rw [if_neg (by simp; omega)]
    cases first (fun i => !decide ((ws.getD i []).length ≤ 26)) ws.length 0 <;> rfl
  · simp only [f67, t67, Tr.val_test, Tr.val_fin, leF_eq, fewW, h5, decide_false, Bool.false_and]
    rw [if_pos (by simp; omega)]

theorem fewW_ok {ws : List (List Int)} (h : fewW ws = true) : ws.length ≤ 5 ∧ ∀ i, i < ws.length → (ws.getD i []).length ≤ 26 := by
  simp only [fewW, Bool.and_eq_true, decide_eq_true_eq, Option.isNone_iff_eq_none] at h
  refine ⟨h.1, fun i hi => ?_⟩
  have := first_none h.2 i (by omega) (by omega)
  simpa using this

/-- The first error of a record, waves and times. -/
def adE (x : Int) (l : List Int) (ws : List (List Int)) (ts : List Int) : Int := if (chk x l).2 ≠ 0 then (chk x l).2 else if wsE l.length ws ≠ 0 then wsE l.length ws else tmE ts ws.length

/-- What is known where there is none. -/
theorem adE_ok {x : Int} {l : List Int} {ws : List (List Int)} {ts : List Int} (h : adE x l ws ts = 0) : (chk x l).2 = 0 ∧ wsE l.length ws = 0 ∧ tmE ts ws.length = 0 ∧ ts.length = ws.length ∧ ∀ i, i < ws.length → (ws.getD i []).length = l.length := by
  unfold adE at h
  by_cases h0 : (chk x l).2 = 0
  · by_cases h1 : wsE l.length ws = 0
    · simp only [h0, h1, ne_eq, not_true_eq_false, if_false] at h
      refine ⟨h0, h1, h, ?_, fun i hi => wvE_len ((wsE_ok h1).2 i hi)⟩
      unfold tmE at h
      split at h
      · cases h
      · rename_i h2; simpa using h2
    · simp [h0, h1] at h
  · simp [h0] at h

theorem f68_eq (x : Int) (l : List Int) (h9 : l.length ≤ 1000000000) (ws : List (List Int)) (hs : ws.length ≤ 1000000000) (hw : ∀ i, i < ws.length → (ws.getD i []).length ≤ 1000000000) (ts : List Int) (ht : ts.length ≤ 1000000000) :
    f68 ((x, l, ()), ws, ts, ()) = some (
      if adE x l ws ts ≠ 0 then ((0, [], ()), adE x l ws ts, ())
      else (if inAll (-1000) 1000 (adl l ws ts l.length ws.length) = true then (x, adl l ws ts l.length ws.length, ()) else (0, [], ()), if inAll (-1000) 1000 (adl l ws ts l.length ws.length) = true then 0 else 8, ())) := by
  have e3 := fun a b c : Int => f85_eq [a, b, c] (by simp)
  by_cases ha : adE x l ws ts = 0
  · obtain ⟨h0, h1, h2, h3, h4⟩ := adE_ok ha
    have h5 := (chk_ok h0).1
    simp only [f68, t68, g88, f88_eq x l h9, g126, f126_eq l.length ws hs hw, g127, f127_eq ts ws.length ht, g85, e3, Tr.val_test, Tr.val_fin, eqF_eq, Option.isSome_some, Option.getD_some, if_true, firstNZ, h0, h1, h2, decide_true, Bool.not_true, Bool.false_eq_true, if_false, g128, f128_eq x l ts ws (by omega) h9 h4 h3 hs, ha, ne_eq, not_true_eq_false]
  · simp only [f68, t68, g88, f88_eq x l h9, g126, f126_eq l.length ws hs hw, g127, f127_eq ts ws.length ht, g85, e3, Tr.val_test, Tr.val_fin, eqF_eq, Option.isSome_some, Option.getD_some, if_true, firstNZ]
    unfold adE at ha ⊢
    by_cases h0 : (chk x l).2 = 0
    · by_cases h1 : wsE l.length ws = 0
      · simp only [h0, h1, ne_eq, not_true_eq_false, if_false] at ha
        simp [h0, h1, ha]
      · simp [h0, h1]
    · simp [h0]

/-- The last error of a match. -/
def mtE (l : List Int) (ws : List (List Int)) (ts : List Int) (b : List BR) : Int :=
  if inAll (-1000) 1000 (adl l ws ts l.length ws.length) = true then (if (outs (adl l ws ts l.length ws.length) b b.length).length = 0 then 0 else 22) else 8

theorem f129_eq (x : Int) (l : List Int) (ws : List (List Int)) (ts : List Int) (b : List BR) (hb : b.length ≤ 1000000000) (h0 : 0 < l.length) (h9 : l.length ≤ 1000000000) (hw : ∀ i, i < ws.length → (ws.getD i []).length = l.length) (ht : ts.length = ws.length) (hs : ws.length ≤ 1000000000) :
    f129 ((x, l, ()), ws, ts, b, ()) = some (mtE l ws ts b, ()) := by
  have e2 := fun a b : Int => f85_eq [a, b] (by simp)
  have hl := adl_len l ws ts l.length ws.length
  have e1 := f128_eq x l ts ws h0 h9 hw ht hs
  cases hin : inAll (-1000) 1000 (adl l ws ts l.length ws.length) with
  | true =>
    rw [hin] at e1
    simp only [if_true] at e1
    have e125 := f125_eq (adl l ws ts l.length ws.length) (by rw [hl]; exact h9) b hb
    simp only [f129, t129, g128, e1, g125, e125, g86, f86_eq, g85, e2, leF_eq, Tr.val_test, Tr.val_fin, Option.isSome_some, Option.getD_some, if_true, firstNZ, mtE, hin]
    by_cases hz : (outs (adl l ws ts l.length ws.length) b b.length).length = 0
    · simp [hz]
    · have hz' : ¬ ((outs (adl l ws ts l.length ws.length) b b.length).length : Int) ≤ 0 := by omega
      simp [hz, hz']
  | false =>
    rw [hin] at e1
    simp only [Bool.false_eq_true, if_false] at e1
    have e125 := f125_eq [] (by simp) b hb
    simp only [f129, t129, g128, e1, g125, e125, g86, f86_eq, g85, e2, leF_eq, Tr.val_test, Tr.val_fin, Option.isSome_some, Option.getD_some, if_true, firstNZ, mtE, hin]
    simp

theorem f71_eq (x : Int) (l : List Int) (h9 : l.length ≤ 1000000000) (ws : List (List Int)) (hs : ws.length ≤ 1000000000) (hw : ∀ i, i < ws.length → (ws.getD i []).length ≤ 1000000000) (ts : List Int) (ht : ts.length ≤ 1000000000) (b : List BR) (hb : b.length ≤ 1000000000) :
    f71 ((x, l, ()), (ws, ts, ()), b, ()) = some (
      if adE x l ws ts ≠ 0 then (0, adE x l ws ts, ()) else if bdLE b ≠ 0 then (0, bdLE b, ())
      else if mtE l ws ts b ≠ 0 then (0, mtE l ws ts b, ()) else (szs ts ts.length, 0, ())) := by
  have e4 := fun a b c d : Int => f85_eq [a, b, c, d] (by simp)
  by_cases ha : adE x l ws ts = 0
  · obtain ⟨h0, h1, h2, h3, h4⟩ := adE_ok ha
    have h5 := (chk_ok h0).1
    simp only [f71, t71, g88, f88_eq x l h9, g126, f126_eq l.length ws hs hw, g127, f127_eq ts ws.length ht, g124, f124_eq b hb, g85, e4, Tr.val_test, Tr.val_fin, eqF_eq, Option.isSome_some, Option.getD_some, if_true, firstNZ, h0, h1, h2, g129, f129_eq x l ws ts b hb (by omega) h9 h4 h3 hs, g130, f130_eq ts ht, ha, ne_eq, not_true_eq_false, if_false]
    by_cases h6 : bdLE b = 0
    · by_cases h7 : mtE l ws ts b = 0 <;> simp [h6, h7]
    · simp [h6]
  · simp only [f71, t71, g88, f88_eq x l h9, g126, f126_eq l.length ws hs hw, g127, f127_eq ts ws.length ht, g124, f124_eq b hb, g85, e4, Tr.val_test, Tr.val_fin, eqF_eq, Option.isSome_some, Option.getD_some, if_true, firstNZ]
    unfold adE at ha ⊢
    by_cases h0 : (chk x l).2 = 0
    · by_cases h1 : wsE l.length ws = 0
      · simp only [h0, h1, ne_eq, not_true_eq_false, if_false] at ha
        simp [h0, h1, ha]
      · simp [h0, h1]
    · simp [h0]

theorem f11_eq (x : Int) (l : List Int) (ws : List (List Int)) (ts : List Int) (b : List BR) : f11 ((x, l, ()), (ws, ts, ()), b, ()) = some (true, ()) := by
  simp only [f11, t11, Tr.val_test, g16, f16_eq x l, g67, f67_eq ws, Option.isSome_some, Option.getD_some, if_true]
  by_cases h : l.length ≤ 26
  · rw [if_neg (by simp [h])]
    by_cases hf : fewW ws = true
    · rw [if_neg (by simp [hf])]
      obtain ⟨w5, w26⟩ := fewW_ok hf
      by_cases ht : ts.length ≤ 5
      · rw [if_neg (by simp [leF_eq]; omega)]
        by_cases hq : b.length ≤ 8
        · rw [if_neg (by simp [leF_eq]; omega)]
          have h9 : l.length ≤ 1000000000 := by omega
          have q9 : b.length ≤ 1000000000 := by omega
          have t9 : ts.length ≤ 1000000000 := by omega
          have s9 : ws.length ≤ 1000000000 := by omega
          have w9 : ∀ i, i < ws.length → (ws.getD i []).length ≤ 1000000000 := fun i hi => by have := w26 i hi; omega
          have hn := f36_self 0 [] (by simp)
          have hal := adl_len l ws ts l.length ws.length
          have hsl := f36_self x (adl l ws ts l.length ws.length) (by rw [hal]; exact h9)
          have hwl := f38_eq x l (adl l ws ts l.length ws.length) (by rw [hal]; exact h9)
          simp only [g18, f18_eq x l h9, g69, f69_eq ws s9 w9, g70, f70_eq ts t9, g68, f68_eq x l h9 ws s9 w9 ts t9, g72, f72_eq ws ts s9 w9 t9, g63, f63_eq b q9, g71, f71_eq x l h9 ws s9 w9 ts t9 b q9, g29, f29_eq x l h9, g73, f73_eq l.length ws s9 h9, g74, f74_eq ts ws t9, g64, f64_eq b q9, g76, f76_eq ts t9, eqF_eq, leF_eq, Option.isSome_some, Option.getD_some, if_true, Tr.val_fin]
          by_cases ha : adE x l ws ts = 0
          · obtain ⟨h0, h1, h2, h3, h4⟩ := adE_ok ha
            obtain ⟨k2, k24, kb, _, _⟩ := chk_ok h0
            have e75 := f75_eq l ts ws (by omega) h9 h4 h3 s9
            cases hin : inAll (-1000) 1000 (adl l ws ts l.length ws.length) with
            | false =>
              rw [hin] at e75
              simp only [h0, h1, h2, ha, g75, e75, g36, hn, ne_eq, not_true_eq_false, if_false, decide_true, Bool.not_true, Bool.false_eq_true, if_true, Option.isSome_some, Option.getD_some, mtE, hin]
              by_cases h6 : bdLE b = 0 <;> simp [h6]
            | true =>
              rw [hin] at e75
              have hbd : Bd 1000 (adl l ws ts l.length ws.length) := (inAll_iff _ _ _).1 hin
              simp only [h0, h1, h2, ha, g75, e75, g36, hsl, g38, hwl, ne_eq, not_true_eq_false, if_false, decide_true, Bool.not_true, Bool.false_eq_true, if_true, Option.isSome_some, Option.getD_some, mtE, hin]
              by_cases h6 : bdLE b = 0
              · have e65 := f65_eq (adl l ws ts l.length ws.length) hbd (by rw [hal]; exact k24) b h6
                by_cases hz : (outs (adl l ws ts l.length ws.length) b b.length).length = 0
                · simp [h6, g65, e65, hz]
                · have hz' : ¬ ((outs (adl l ws ts l.length ws.length) b b.length).length : Int) ≤ 0 := by omega
                  simp [h6, g65, e65, hz, hz']
              · simp [h6]
          · have ha' := ha
            unfold adE at ha'
            by_cases h0 : (chk x l).2 = 0
            · by_cases h1 : wsE l.length ws = 0
              · have hae : adE x l ws ts = tmE ts ws.length := by simp [adE, h0, h1]
                simp only [h0, h1, ne_eq, not_true_eq_false, if_false] at ha'
                simp [h0, h1, hae, ha', g36, hn]
              · have hae : adE x l ws ts = wsE l.length ws := by simp [adE, h0, h1]
                simp [h0, hae, h1, g36, hn]
            · have hae : adE x l ws ts = (chk x l).2 := by simp [adE, h0]
              simp [hae, h0, g36, hn]
        · rw [if_pos (by simp [leF_eq]; omega)]; rfl
      · rw [if_pos (by simp [leF_eq]; omega)]; rfl
    · rw [if_pos (by simp [hf])]; rfl
  · rw [if_pos (by simp [h])]; rfl

theorem law11 (d : Tys.data as11) : Pure1 Go.Proofs.Try.prog 11 as11 [.bool] d (true, ()) := by
  have h := f11_eq d.1.1 d.1.2.1 d.2.1.1 d.2.1.2.1 d.2.2.1
  have hp : p11.pre d = true := by
    show Option.isSome (f11 d) = true
    rw [show f11 d = some (true, ()) from h]; rfl
  have hg : p11.fn d = (true, ()) := by
    show (f11 d).getD _ = _
    rw [show f11 d = some (true, ()) from h]; rfl
  have := ok11.runs d hp
  rw [hg] at this
  exact this

end Go.Vm.Mo
