import Derived.Test.YtappjfcejjmdeaaRestFc
import Derived.Test.YtappjfcejjmdeaaA4
set_option linter.unusedVariables false
set_option linter.unusedSimpArgs false

namespace Go.Vm.Mo
open Go
set_option linter.unusedVariables false

def accW (l : List Int) : Nat → Int
  | 0 => 0
  | i + 1 => wrap64 (accW l i + l.getD i 0)

/-- Sums, exact. -/
def accE (l : List Int) : Nat → Int
  | 0 => 0
  | i + 1 => accE l i + l.getD i 0

def accE2 (l : List Int) : Nat → Int
  | 0 => 0
  | i + 1 => accE2 l i + accE l (i + 1)

/-- The weighted sum. -/
def wsum (l : List Int) (n : Int) : Nat → Int
  | 0 => 0
  | i + 1 => wsum l n i + (n - i) * l.getD i 0

theorem wsum_eq (l : List Int) (n : Int) : ∀ i : Nat, wsum l n i = accE2 l i + (n - i) * accE l i
  | 0 => by simp [wsum, accE2, accE]
  | i + 1 => by
    rw [wsum, wsum_eq l n i, accE2, accE]
    have e : (n - ((i + 1 : Nat) : Int)) = (n - i) - 1 := by omega
    rw [e, Int.sub_mul _ 1, Int.one_mul, Int.mul_add]
    omega

theorem l90 (l : List Int) (h : l.length ≤ 1000000000) : l90_0 ((l, (l.length : Int), (0 : Int), ()), ((0 : Int), (0 : Int), ()), ((0 : Int), (0 : Int), ()), ()) = some (.inl ((), ((0 : Int), (0 : Int), ()), (wrap64 (accE l l.length), wrap64 (accE2 l l.length), ()), ())) := by
  refine itr_brk (fun i => ((l, (l.length : Int), (i : Int), ()), ((0 : Int), (0 : Int), ()), (wrap64 (accE l i), wrap64 (accE2 l i), ()), ())) (n := l.length) ?_ ?_ (lt_rounds (by omega))
  · intro i hi
    simp only [s90_0, t90_0, Tr.val_test, Tr.val_fin, leF_eq]
    rw [if_pos (by simp; omega), if_pos (by simp; omega)]
    simp only [Int.toNat_natCast, wrap64_nat (show i ≤ 9223372036854775806 by omega), wrap64_add_l, wrap64_add_r, accE, accE2]
  · simp [s90_0, t90_0, leF_eq]

theorem f90_eq (l : List Int) (h : l.length ≤ 1000000000) : f90 (l, ()) = some ((wrap64 (accE l l.length), wrap64 (accE2 l l.length), ()), ()) := by
  simp only [f90, t90, b90_0, l90 l h, Tr.val_test, isBrk, if_true, outB]; rfl

theorem l26 (l : List Int) (h : l.length ≤ 1000000000) : l26_0 ((l, (0 : Int), ()), ((0 : Int), (0 : Int), ()), ((0 : Int), (0 : Int), ()), ()) = some (.inl ((), ((0 : Int), (0 : Int), ()), (wrap64 (accE l l.length), wrap64 (wsum l l.length l.length), ()), ())) := by
  refine itr_brk (fun i => ((l, (i : Int), ()), ((0 : Int), (0 : Int), ()), (wrap64 (accE l i), wrap64 (wsum l l.length i), ()), ())) (n := l.length) ?_ ?_ (lt_rounds (by omega))
  · intro i hi
    simp only [s26_0, t26_0, Tr.val_test, Tr.val_fin, leF_eq]
    rw [if_pos (by simp; omega), if_pos (by simp; omega)]
    simp only [Int.toNat_natCast, wrap64_nat (show i ≤ 9223372036854775806 by omega), wrap64_add_l, wrap64_add_r, wrap64_mul_l, accE, wsum]
  · simp [s26_0, t26_0, leF_eq]

theorem f26_eq (l : List Int) (h : l.length ≤ 1000000000) : f26 (l, ()) = some ((wrap64 (accE l l.length), wrap64 (accE2 l l.length), ()), ()) := by
  have : wsum l l.length l.length = accE2 l l.length := by rw [wsum_eq]; simp
  simp only [f26, t26, b26_0, l26 l h, Tr.val_test, isBrk, if_true, outB, this]; rfl

theorem l23 (l : List Int) (h : l.length ≤ 1000000000) : l23_0 ((l, l, (0 : Int), ()), ()) = some (.inl ((), ())) := by
  refine itr_brk (fun i => ((l, l, (i : Int), ()), ())) (n := l.length) ?_ ?_ (lt_rounds (by omega))
  · intro i hi
    simp only [s23_0, t23_0, Tr.val_test, Tr.val_fin, leF_eq, eqF_eq]
    rw [if_pos (by simp; omega), if_pos (by simp; omega), if_pos (by simp; omega), if_neg (by simp)]
    simp only [wrap64_nat (show i ≤ 9223372036854775806 by omega)]
  · simp [s23_0, t23_0, leF_eq]

theorem f23_self (l : List Int) (h : l.length ≤ 1000000000) : f23 (l, l, ()) = some (true, ()) := by
  simp only [f23, t23, l23 l h, Tr.val_test, isRet, eqF_eq, decide_true, Bool.not_true, Bool.false_eq_true, if_false, Option.isSome, if_true]; rfl

def badS (l : List Int) (i : Nat) : Bool := !(decide (-1000 ≤ l.getD i 0) && decide (l.getD i 0 ≤ 1000))

def chk (x : Int) (l : List Int) : Int × Int :=
  if x < 1 ∨ 1000000 < x then (0, 2)
  else if l.length < 2 then (0, 10)
  else if 24 < l.length then (0, 8)
  else match first (badS l) l.length 0 with
    | some k => (k, 2)
    | none => (0, 0)

theorem f47_eq (d : Tys.data as47) : f47 d = some (decide ((d.2.1 : Int) ≤ d.1) && decide ((d.1 : Int) ≤ d.2.2.1), ()) := by
  simp only [f47, t47, Tr.val_test, leF_eq, decide_eq_true_eq]
  split <;> simp [*]

theorem f54_eq (d : Tys.data as54) : f54 d = some (decide ((-1000 : Int) ≤ d.1) && decide (d.1 ≤ (1000 : Int)), ()) := by
  simp only [f54, t54, g47, f47_eq, Tr.val_test, Option.isSome, if_true, Option.getD]; rfl

theorem l22 (x : Int) (l : List Int) (h : l.length ≤ 1000000000) : l22_0 (((0 : Int), ()), (x, l, ()), ()) = match first (badS l) l.length 0 with
    | some k => some (.inr (((k : Int), (2 : Int), ()), (x, l, ()), ()))
    | none => some (.inl ((), (x, l, ()), ())) := by
  refine itr_search (fun i => (((i : Int), ()), (x, l, ()), ())) (badS l) (fun k => (((k : Int), (2 : Int), ()), (x, l, ()), ())) (n := l.length) ?_ ?_ (lt_rounds (by omega))
  · intro i hi
    simp only [s22_0, t22_0, Tr.val_test, leF_eq, g54, f54_eq, Option.isSome, if_true, Option.getD]
    rw [if_pos (by simp; omega), if_pos (by simp; omega)]
    simp only [Int.toNat_natCast, wrap64_nat (show i ≤ 9223372036854775806 by omega), badS]
    rfl
  · simp [s22_0, t22_0, leF_eq]

theorem f22_eq (x : Int) (l : List Int) (h : l.length ≤ 1000000000) : f22 ((x, l, ()), ()) = some ((chk x l).1, (chk x l).2, ()) := by
  simp only [f22, t22, g47, f47_eq, Tr.val_test, leF_eq, Option.isSome, if_true, Option.getD, r22_0, l22 x l h]
  unfold chk
  by_cases h1 : x < 1 ∨ 1000000 < x
  · rw [if_pos h1, if_pos (by simp; omega)]; rfl
  · rw [if_neg h1, if_neg (by simp; omega)]
    by_cases h2 : l.length < 2
    · rw [if_pos h2, if_pos (by simp; omega)]; rfl
    · rw [if_neg h2, if_neg (by simp; omega)]
      by_cases h3 : 24 < l.length
      · rw [if_pos h3, if_pos (by simp; omega)]; rfl
      · rw [if_neg h3, if_neg (by simp; omega)]
        cases first (badS l) l.length 0 with
        | none => rfl
        | some k => rfl

theorem f86_eq (d : Tys.data as86) : f86 d = some (if d.1 = true then d.2.1 else (0 : Int), ()) := by
  simp only [f86, t86, Tr.val_test]
  split <;> rfl

/-- Where the first bad sample lies, and its error. -/
def badAt (l : List Int) : Int × Int := match first (badS l) l.length 0 with
  | some k => (k, 2)
  | none => (0, 0)

/-- Whether all lie in a range. -/
def inAll (lo hi : Int) (l : List Int) : Bool := (first (fun i => !(decide (lo ≤ l.getD i 0) && decide (l.getD i 0 ≤ hi))) l.length 0).isNone

theorem inAll_nil (lo hi : Int) : inAll lo hi [] = true := rfl

theorem first_map {bad : Nat → Bool} : ∀ (n i : Nat), first bad n (i + 1) = (first (fun j => bad (j + 1)) n i).map (· + 1)
  | 0, _ => rfl
  | n + 1, i => by
    simp only [first]
    split
    · rfl
    · exact first_map n (i + 1)

theorem inAll_cons (lo hi a : Int) (l : List Int) : inAll lo hi (a :: l) = ((decide (lo ≤ a) && decide (a ≤ hi)) && inAll lo hi l) := by
  unfold inAll
  simp only [List.length, first]
  rw [first_map]
  by_cases h : (decide (lo ≤ a) && decide (a ≤ hi)) = true
  · simp only [List.getD_cons_zero, h, Bool.not_true, Bool.false_eq_true, if_false, Bool.true_and, List.getD_cons_succ]
    cases first (fun i => !(decide (lo ≤ l.getD i 0) && decide (l.getD i 0 ≤ hi))) l.length 0 <;> rfl
  · simp only [Bool.not_eq_true] at h
    simp [h]

theorem inAll_iff (lo hi : Int) (l : List Int) : inAll lo hi l = true ↔ ∀ i, i < l.length → lo ≤ l.getD i 0 ∧ l.getD i 0 ≤ hi := by
  unfold inAll
  constructor
  · intro h i hi'
    have := first_none (Option.isNone_iff_eq_none.1 h) i (by omega) (by omega)
    simpa using this
  · intro h
    rw [first_of_none]
    · rfl
    · intro j _ hj
      have := h j (by omega)
      simp only [List.getD_eq_getElem?_getD] at this ⊢
      simp [this.1, this.2]

theorem l94 (lo hi : Int) (l : List Int) (h : l.length ≤ 1000000000) : l94_0 ((lo, hi, l, (l.length : Int), (0 : Int), ()), ()) = match first (fun i => !(decide (lo ≤ l.getD i 0) && decide (l.getD i 0 ≤ hi))) l.length 0 with
    | some _ => some (.inr ((false, ()), ()))
    | none => some (.inl ((), ())) := by
  refine itr_search (fun i => ((lo, hi, l, (l.length : Int), (i : Int), ()), ())) (fun i => !(decide (lo ≤ l.getD i 0) && decide (l.getD i 0 ≤ hi))) (fun k => ((false, ()), ())) (n := l.length) ?_ ?_ (lt_rounds (by omega))
  · intro i hi'
    simp only [s94_0, t94_0, Tr.val_test, leF_eq, Int.toNat_natCast]
    rw [if_pos (by simp; omega), if_pos (by simp; omega)]
    simp only [wrap64_nat (show i ≤ 9223372036854775806 by omega)]
    by_cases h1 : lo ≤ l.getD i 0
    · by_cases h2 : l.getD i 0 ≤ hi
      · rw [if_neg (by simpa using h1), if_neg (by simpa using h2), if_neg (by simpa using ⟨h1, h2⟩)]; rfl
      · rw [if_neg (by simpa using h1), if_pos (by simpa using h2), if_pos (by simp only [h1, h2, decide_true, decide_false, Bool.and_false, Bool.not_false])]; rfl
    · rw [if_pos (by simpa using h1), if_pos (by simp only [h1, decide_false, Bool.false_and, Bool.not_false])]; rfl
  · simp [s94_0, t94_0, leF_eq]

theorem f94_eq (lo hi : Int) (l : List Int) (h : l.length ≤ 1000000000) : f94 (lo, hi, l, ()) = some (inAll lo hi l, ()) := by
  simp only [f94, t94, Tr.val_test, r94_0, l94 lo hi l h, inAll]
  cases first (fun i => !(decide (lo ≤ l.getD i 0) && decide (l.getD i 0 ≤ hi))) l.length 0 <;> rfl

theorem f141_eq (x : Int) (l : List Int) (h : l.length ≤ 1000000000) : f141 (x, l, ()) = some (!inAll (IntKind.wrap .i64 (0 - x)) x l, ()) := by
  simp only [f141, t141, Tr.val_test, g94, f94_eq _ _ l h, Option.isSome_some, Option.getD_some, if_true, Tr.val_fin]

theorem w1000 : IntKind.wrap .i64 (0 - 1000) = -1000 := by decide

theorem f140_eq (d : Tys.data as140) : f140 d = some (if (decide (-1000 ≤ (d.2.1 : Int)) && decide ((d.2.1 : Int) ≤ 1000)) = true then (0 : Int) else 2, ()) := by
  obtain ⟨i, x, u⟩ := d
  show f140 (i, x, ()) = some (if (decide (-1000 ≤ x) && decide (x ≤ 1000)) = true then (0 : Int) else 2, ())
  simp only [f140, t140, Tr.val_test, g141, f141_eq 1000 [x] (by simp), g86, f86_eq, Option.isSome_some, Option.getD_some, if_true, Tr.val_fin, inAll_cons, inAll_nil, w1000, Bool.and_true]
  by_cases hx : (decide (-1000 ≤ x) && decide (x ≤ 1000)) = true
  · rw [if_pos hx, hx]; rfl
  · rw [if_neg hx]; simp only [Bool.not_eq_true] at hx; rw [hx]; rfl

theorem l106 (l : List Int) (h : l.length ≤ 1000000000) : l106_0 ((l, (l.length : Int), (0 : Int), ()), ()) = match first (badS l) l.length 0 with
    | some k => some (.inr (((k : Int), (2 : Int), ()), ()))
    | none => some (.inl ((), ())) := by
  refine itr_search (fun i => ((l, (l.length : Int), (i : Int), ()), ())) (badS l) (fun k => (((k : Int), (2 : Int), ()), ())) (n := l.length) ?_ ?_ (lt_rounds (by omega))
  · intro i hi
    simp only [s106_0, t106_0, Tr.val_test, leF_eq, eqF_eq, g140, f140_eq, Int.toNat_natCast, Option.isSome_some, Option.getD_some, if_true]
    rw [if_pos (by simp; omega), if_pos (by simp; omega)]
    simp only [wrap64_nat (show i ≤ 9223372036854775806 by omega)]
    unfold badS
    by_cases hx : (decide (-1000 ≤ l.getD i 0) && decide (l.getD i 0 ≤ 1000)) = true
    · rw [hx]; simp
    · simp only [Bool.not_eq_true] at hx
      rw [hx]; simp
  · simp [s106_0, t106_0, leF_eq]

theorem f87_eq (l : List Int) (h : l.length ≤ 1000000000) : f87 (l, ()) = some ((badAt l).1, (badAt l).2, ()) := by
  simp only [f87, t87, Tr.val_test, r106_0, l106 l h, badAt]
  cases first (badS l) l.length 0 with
  | none => rfl
  | some k => rfl

/-- The first that is not 0. -/
def firstNZ : List Int → Int
  | [] => 0
  | a :: l => if a = 0 then firstNZ l else a

theorem firstNZ_eq : ∀ l : List Int, (match first (fun i => !decide (l.getD i 0 = 0)) l.length 0 with
    | some k => l.getD k 0
    | none => 0) = firstNZ l
  | [] => rfl
  | a :: l => by
    simp only [List.length, first, firstNZ]
    by_cases ha : a = 0
    · subst ha
      have e := firstNZ_eq l
      have hf : first (fun i => !decide (((0 : Int) :: l).getD i 0 = 0)) l.length (0 + 1) = (first (fun i => !decide (l.getD i 0 = 0)) l.length 0).map (· + 1) := by
        rw [first_map]; rfl
      simp only [hf, List.getD_cons_zero, decide_true, Bool.not_true, Bool.false_eq_true, if_false, if_true]
      rw [← e]
      cases first (fun i => !decide (l.getD i 0 = 0)) l.length 0 with
      | none => rfl
      | some k => rfl
    · simp [ha]

theorem l85 (l : List Int) (h : l.length ≤ 1000000000) : l85_0 ((l, (l.length : Int), (0 : Int), ()), ()) = match first (fun i => !decide (l.getD i 0 = 0)) l.length 0 with
    | some k => some (.inr ((l.getD k 0, ()), ()))
    | none => some (.inl ((), ())) := by
  refine itr_search (fun i => ((l, (l.length : Int), (i : Int), ()), ())) (fun i => !decide (l.getD i 0 = 0)) (fun k => ((l.getD k 0, ()), ())) (n := l.length) ?_ ?_ (lt_rounds (by omega))
  · intro i hi
    simp only [s85_0, t85_0, Tr.val_test, leF_eq, eqF_eq]
    rw [if_pos (by simp; omega), if_pos (by simp; omega)]
    simp only [Int.toNat_natCast, wrap64_nat (show i ≤ 9223372036854775806 by omega)]
    rfl
  · simp [s85_0, t85_0, leF_eq]

theorem f85_eq (l : List Int) (h : l.length ≤ 1000000000) : f85 (l, ()) = some (firstNZ l, ()) := by
  simp only [f85, t85, Tr.val_test, r85_0, l85 l h, ← firstNZ_eq l]
  cases first (fun i => !decide (l.getD i 0 = 0)) l.length 0 with
  | none => rfl
  | some k => rfl

theorem f17_eq (x : Int) (l : List Int) (h : l.length ≤ 1000000000) : f17 ((x, l, ()), ()) = some ((chk x l).1, (chk x l).2, ()) := by
  have e := fun a b c : Int => f85_eq [a, b, c] (by simp)
  have hc : chk x l = if x < 1 ∨ 1000000 < x then (0, 2) else if l.length < 2 then (0, 10) else if 24 < l.length then (0, 8) else badAt l := rfl
  simp only [f17, t17, Tr.val_test, leF_eq, eqF_eq, g86, f86_eq, g87, f87_eq l h, g85, Option.isSome_some, Option.getD_some, if_true]
  rw [e, e, hc]
  simp only [Option.isSome_some, Option.getD_some, if_true, firstNZ]
  by_cases h1 : x < 1
  · have h1' : ¬ 1 ≤ x := by omega
    simp [h1, h1']
  · have h1' : 1 ≤ x := by omega
    by_cases h2 : 1000000 < x
    · have h2' : ¬ x ≤ 1000000 := by omega
      simp [h1', h2, h2']
    · have h2' : x ≤ 1000000 := by omega
      by_cases h3 : l.length < 2
      · have h3' : ¬ (2 : Int) ≤ l.length := by omega
        simp [h1, h1', h2, h2', h3, h3']
      · have h3' : (2 : Int) ≤ l.length := by omega
        by_cases h4 : 24 < l.length
        · have h4' : ¬ (l.length : Int) ≤ 24 := by omega
          simp [h1, h1', h2, h2', h3, h3', h4, h4']
        · have h4' : (l.length : Int) ≤ 24 := by omega
          simp [h1, h1', h2, h2', h3, h3', h4, h4']

theorem f88_eq (x : Int) (l : List Int) (h : l.length ≤ 1000000000) : f88 ((x, l, ()), ()) = some ((chk x l).2, ()) := by
  simp only [f88, t88, Tr.val_test, g17, f17_eq x l h, Option.isSome_some, Option.getD_some, if_true, Tr.val_fin]

theorem f21_eq (x : Int) (l : List Int) (h : l.length ≤ 1000000000) : f21 ((x, l, ()), ()) = some (if (chk x l).2 = 0 then (wrap64 (accE l l.length), wrap64 (accE2 l l.length), ()) else (0, 0, ()), (chk x l).2, ()) := by
  simp only [f21, t21, Tr.val_test, g88, f88_eq x l h, g90, f90_eq l h, eqF_eq, Option.isSome_some, Option.getD_some, if_true, Tr.val_fin]
  by_cases h0 : (chk x l).2 = 0 <;> simp [h0]

/-- The greater of two. -/
def mx (a b : Int) : Int := if a < b then b else a
/-- A number without its sign. -/
def sz (a : Int) : Int := mx a (IntKind.wrap .i64 (0 - a))

theorem f29_eq (x : Int) (l : List Int) (h : l.length ≤ 1000000000) : f29 ((x, l, ()), ()) = some ((chk x l).2, ()) := by
  simp only [f29, t29, g22, f22_eq x l h, Tr.val_test, Tr.val_fin, Option.isSome_some, Option.getD_some, if_true]

/-- All are at most so great. -/
def Bd (B : Int) (l : List Int) : Prop := ∀ i, i < l.length → -B ≤ l.getD i 0 ∧ l.getD i 0 ≤ B

theorem chk_ok {x : Int} {l : List Int} (h : (chk x l).2 = 0) : 2 ≤ l.length ∧ l.length ≤ 24 ∧ Bd 1000 l ∧ 1 ≤ x ∧ x ≤ 1000000 := by
  unfold chk at h
  split at h
  · cases h
  · rename_i hx
    split at h
    · cases h
    · split at h
      · cases h
      · split at h
        · cases h
        · rename_i hn
          refine ⟨by omega, by omega, fun i hi => ?_, by omega, by omega⟩
          have := first_none hn i (by omega) (by omega)
          simpa [badS] using this

/-- The greatest common divisor of the first numbers, with a sign. -/
def dv (l : List Int) : Nat → Int
  | 0 => 0
  | i + 1 => euc (dv l i) (l.getD i 0)

theorem lt_r2 {n : Nat} (h : n ≤ 9223372036854775808) : n < rounds := by unfold rounds; omega

theorem l144i (l : List Int) (n i : Int) (a b : Int) (h : b.natAbs ≤ 9223372036854775808) : l144_2 ((a, b, l, n, i, ()), ()) = some (.inl ((euc a b, l, n, i, ()), ())) := by
  refine itr_euc (fun a b => ((a, b, l, n, i, ()), ())) (fun a => ((a, l, n, i, ()), ())) ?_ ?_ rounds a b (lt_r2 h)
  · intro a b hb
    simp [s144_2, t144_2, eqF_eq, hb]
  · intro a
    simp [s144_2, t144_2, eqF_eq]

theorem l144 (l : List Int) (h : l.length ≤ 1000000000) (hb : ∀ i, i < l.length → (l.getD i 0).natAbs ≤ 9223372036854775808) : l144_0 (((0 : Int), l, (l.length : Int), (0 : Int), ()), ()) = some (.inl ((dv l l.length, ()), ())) := by
  refine itr_brk (fun i => ((dv l i, l, (l.length : Int), (i : Int), ()), ())) (n := l.length) ?_ ?_ (lt_rounds (by omega))
  · intro i hi
    simp only [s144_0, t144_0, Tr.val_test, Tr.val_fin, leF_eq, Int.toNat_natCast, b144_2, l144i l _ _ _ _ (hb i hi), isBrk, outB, if_true]
    rw [if_pos (by simp; omega), if_pos (by simp; omega)]
    simp only [wrap64_nat (show i ≤ 9223372036854775806 by omega), dv]
  · simp [s144_0, t144_0, leF_eq]

theorem f144_eq (l : List Int) (h : l.length ≤ 1000000000) (hb : ∀ i, i < l.length → (l.getD i 0).natAbs ≤ 9223372036854775808) : f144 (l, ()) = some (mx (dv l l.length) (IntKind.wrap .i64 (0 - dv l l.length)), ()) := by
  simp only [f144, t144, b144_0, l144 l h hb, Tr.val_test, isBrk, if_true, outB]; rfl

theorem mx_max (a b : Int) : mx a b = max a b := by unfold mx; omega

theorem euc_zero_left (b : Int) (h : b.natAbs ≤ 9223372036854775807) : (euc 0 b).natAbs = b.natAbs := by rw [euc_abs]; simp

theorem dv2 (a b : Int) (ha : a.natAbs ≤ 9223372036854775807) (hb : b.natAbs ≤ 9223372036854775807) : mx (dv [a, b] 2) (IntKind.wrap .i64 (0 - dv [a, b] 2)) = (Int.gcd a b : Int) := by
  have e0 : dv [a, b] 2 = euc (euc 0 a) b := rfl
  have e1 : (euc 0 a).natAbs = a.natAbs := euc_zero_left a ha
  have e2 : Int.gcd (euc 0 a) b = Int.gcd a b := by unfold Int.gcd; rw [e1]
  rw [e0, ← wrap64_eq, Int.zero_sub, mx_max, euc_gcd _ _ (by omega) (by omega) (by omega) (by omega), e2]

theorem f144_2 (a b : Int) (ha : a.natAbs ≤ 9223372036854775807) (hb : b.natAbs ≤ 9223372036854775807) : f144 ([a, b], ()) = some ((Int.gcd a b : Int), ()) := by
  rw [f144_eq [a, b] (by simp), show ([a, b] : List Int).length = 2 from rfl, dv2 a b ha hb]
  intro i hi
  match i, hi with
  | 0, _ => exact Nat.le_succ_of_le ha
  | 1, _ => exact Nat.le_succ_of_le hb

/-- A fraction in lowest terms. -/
def low (a b : Int) : Int × Int × Unit := (a.tdiv (Int.gcd a b), b.tdiv (Int.gcd a b), ())

theorem wrapI_id {n : Int} (h1 : -9223372036854775808 ≤ n) (h2 : n ≤ 9223372036854775807) : IntKind.wrap .i64 n = n := by rw [← wrap64_eq, wrap64_id h1 h2]

theorem low_wrap (a b : Int) (ha : a.natAbs ≤ 9223372036854775807) (hb : b.natAbs ≤ 9223372036854775807) : IntKind.wrap .i64 (a.tdiv (Int.gcd a b)) = (low a b).1 ∧ IntKind.wrap .i64 (b.tdiv (Int.gcd a b)) = (low a b).2.1 := by
  have h1 := tdiv_abs_le a (Int.gcd a b)
  have h2 := tdiv_abs_le b (Int.gcd a b)
  exact ⟨wrapI_id (by omega) (by omega), wrapI_id (by omega) (by omega)⟩

theorem f108_eq (a b : Int) (ha : a.natAbs ≤ 9223372036854775807) (hb : b.natAbs ≤ 9223372036854775807) (h0 : b ≠ 0) : f108 (a, b, ()) = some (low a b, ()) := by
  obtain ⟨e1, e2⟩ := low_wrap a b ha hb
  simp only [f108, t108, g144, f144_2 a b ha hb, Tr.val_test, Tr.val_fin, Option.isSome_some, Option.getD_some, if_true, e1, e2]
  rw [if_neg (by simpa using gcd_pos_right h0)]

structure OsOk (s d : Int) : Prop where
  s0 : 0 ≤ s
  s1 : s ≤ 3000
  d0 : 0 ≤ d
  d1 : d ≤ 500

/-- A row of a band: an oscillator, a range. -/
abbrev BR := (Int × Int × Unit) × (Int × Int × Unit) × Unit

structure BdOk (b : BR) : Prop where
  os : OsOk b.1.1 b.1.2.1
  lo0 : 0 ≤ b.2.1.1
  lo1 : b.2.1.1 ≤ 1000000
  hi0 : 0 ≤ b.2.1.2.1
  hi1 : b.2.1.2.1 ≤ 1000000
  le : b.2.1.1 ≤ b.2.1.2.1

/-! ### The opposite -/

theorem accE_bd {B : Int} {l : List Int} (h0 : 0 ≤ B) (h : Bd B l) : ∀ i : Nat, i ≤ l.length → -(B * i) ≤ accE l i ∧ accE l i ≤ B * i
  | 0, _ => by simp [accE]
  | i + 1, hi => by
    have hb := h i (by omega)
    have ih := accE_bd h0 h i (by omega)
    have e : B * ((i + 1 : Nat) : Int) = B * i + B := by rw [Int.natCast_add, Int.mul_add]; simp
    rw [accE]
    omega

theorem accE2_bd {l : List Int} (h : Bd 1000 l) (hl : l.length ≤ 24) : ∀ i : Nat, i ≤ l.length → -(24000 * (i : Int)) ≤ accE2 l i ∧ accE2 l i ≤ 24000 * (i : Int)
  | 0, _ => by simp [accE2]
  | i + 1, hi => by
    have ih := accE2_bd h hl i (by omega)
    have b := accE_bd (by omega) h (i + 1) hi
    rw [accE2]
    omega

theorem wrapJ {n : Int} (h1 : -9223372036854775808 ≤ n) (h2 : n ≤ 9223372036854775807) : IntKind.wrap .i64 n = n := by rw [← wrap64_eq, wrap64_id h1 h2]

theorem f131_abs (x : Int) (h : x.natAbs ≤ 9223372036854775807) : f131 (x, ()) = some ((x.natAbs : Int), ()) := by
  simp only [f131, t131, Tr.val_fin]
  rw [wrapJ (by omega) (by omega)]
  have e : (if x < 0 - x then 0 - x else x) = (x.natAbs : Int) := by split <;> omega
  rw [e]

theorem l173 (l : List Int) (h : l.length ≤ 1000000000) : l173_0 ((l, (l.length : Int), ()), ()) = some (.inl ((l, (trimN l l.length : Int), ()), ())) := by
  have hle := trimN_le l l.length
  refine itr_brk (fun i => ((l, ((l.length - i : Nat) : Int), ()), ())) (n := l.length - trimN l l.length) ?_ ?_ (lt_rounds (by omega))
  · intro i hi
    have h0 := trimN_zero l l.length (l.length - i - 1) (by omega) (by omega)
    have e : wrap64 (((l.length - i : Nat) : Int) - 1) = ((l.length - i - 1 : Nat) : Int) := by rw [wrap64_id (by omega) (by omega)]; omega
    simp only [s173_0, t173_0, Tr.val_test, Tr.val_fin, leF_eq, eqF_eq, e, Int.toNat_natCast, h0]
    rw [if_pos (by simp <;> omega), if_pos (by simp <;> omega), if_pos (by simp)]
    rfl
  · have e0 : l.length - (l.length - trimN l l.length) = trimN l l.length := by omega
    dsimp only
    rw [e0]
    cases hk : trimN l l.length with
    | zero => simp [s173_0, t173_0, leF_eq]
    | succ m =>
      have h0 := trimN_last l l.length m hk
      have e : wrap64 (((m + 1 : Nat) : Int) - 1) = ((m : Nat) : Int) := by rw [wrap64_id (by omega) (by omega)]; omega
      simp only [s173_0, t173_0, Tr.val_test, Tr.val_fin, leF_eq, eqF_eq, e, Int.toNat_natCast]
      rw [if_pos (by simp <;> omega), if_pos (by simp <;> omega), if_neg (by simpa using h0)]

theorem f173_eq (l : List Int) (h : l.length ≤ 1000000000) (hd : Dg l) : f173 (l, ()) = some (dig (dval l).toNat, ()) := by
  have hle := trimN_le l l.length
  simp only [f173, t173, b173_0, l173 l h, Tr.val_test, Tr.val_fin, isBrk, if_true, outB, Int.toNat_natCast]
  rw [if_pos (by simp <;> omega), trim_dig hd]

/-- A number out of its sign and its size. -/
def mkN (s n : Int) : Int × List Int × PUnit := if n = 0 then (0, [], ()) else (s, dig n.toNat, ())

theorem f149_eq (s : Int) (l : List Int) (h : l.length ≤ 1000000000) (hd : Dg l) : f149 (s, l, ()) = some (mkN s (dval l), ()) := by
  have h0 := dv_nonneg hd
  simp only [f149, t149, g173, f173_eq l h hd, Option.isSome_some, Option.getD_some, Tr.val_test, Tr.val_fin, eqF_eq, if_true, mkN]
  by_cases e : dval l = 0
  · rw [if_pos (by rw [e]; simp [dig_zero]), if_pos e, e]
    simp [dig_zero]
  · rw [if_neg e, if_neg]
    intro h2
    simp only [decide_eq_true_eq] at h2
    have h3 : (dig (dval l).toNat).length = 0 := by omega
    have := dig_nil.1 (List.eq_nil_of_length_eq_zero h3)
    omega

theorem mkN_enc {s z : Int} (h : z ≠ 0 → s = z.sign) : mkN s z.natAbs = enc z := by
  unfold mkN enc
  by_cases e : z = 0
  · subst e; simp [dig_zero]
  · rw [if_neg (by omega), h e]; simp

theorem f175_eq (l : List Int) (i : Nat) : f175 (l, (i : Int), ()) = some (l.getD i 0, ()) := by
  simp only [f175, t175, Tr.val_test, Tr.val_fin, leF_eq]
  by_cases h : i < l.length
  · rw [if_pos (by simp <;> omega), if_pos (by simp <;> omega)]; simp
  · rw [if_neg (by simp <;> omega)]
    simp [List.getD, List.getElem?_eq_none (Nat.le_of_not_lt h)]

theorem it113 (s b : Int) : ∀ (k : Nat) (x : Int) (acc : List Int) (m : Nat), (x.natAbs : Int) < pw k → x.natAbs ≤ 9223372036854775807 → acc.length + k ≤ 1000000 → k < m →
    itr s113_0 m ((x, s, acc, ()), ((b, ()), ())) = some (.inl ((s, acc ++ dig x.natAbs, ()), ((b, ()), ())))
  | 0, x, acc, m, h1, _, _, hm => by
    have : x = 0 := by simp only [pw] at h1; omega
    subst this
    obtain ⟨m, rfl⟩ : ∃ j, m = j + 1 := ⟨m - 1, by omega⟩
    simp [itr, s113_0, t113_0, eqF_eq, dig_zero]
  | k + 1, x, acc, m, h1, h2, h3, hm => by
    obtain ⟨m, rfl⟩ : ∃ j, m = j + 1 := ⟨m - 1, by omega⟩
    by_cases hx : x = 0
    · subst hx
      simp [itr, s113_0, t113_0, eqF_eq, dig_zero]
    · have e1 : (Int.tmod x 1000000000).natAbs = x.natAbs % 1000000000 := by rw [Int.natAbs_tmod]; rfl
      have e2 : (Int.tdiv x 1000000000).natAbs = x.natAbs / 1000000000 := by rw [Int.natAbs_tdiv]; rfl
      have e3 : IntKind.wrap .i64 (Int.tdiv x 1000000000) = Int.tdiv x 1000000000 := wrapJ (by omega) (by omega)
      have st : s113_0 ((x, s, acc, ()), ((b, ()), ())) = some (.again ((Int.tdiv x 1000000000, s, acc ++ [((x.natAbs % 1000000000 : Nat) : Int)], ()), ((b, ()), ()))) := by
        simp only [s113_0, t113_0, g131, f131_abs (Int.tmod x 1000000000) (by omega), Option.isSome_some, Option.getD_some, Tr.val_test, Tr.val_fin, eqF_eq, e3, e1, if_true]
        rw [if_pos (by simpa using hx), if_pos (by simp <;> omega)]
      simp only [pw] at h1
      rw [itr, st]
      dsimp only
      rw [it113 s b k (Int.tdiv x 1000000000) _ m (by omega) (by omega) (by simp <;> omega) (by omega), dig_pos (show x.natAbs ≠ 0 by omega), e2]
      simp

theorem f113_eq (x : Int) (h : x.natAbs ≤ 9223372036854775807) : f113 (x, ()) = some (enc x, ()) := by
  have hl : ∀ s : Int, l113_0 ((x, s, [], ()), (((0 : Int), ()), ())) = some (.inl ((s, dig x.natAbs, ()), (((0 : Int), ()), ()))) := fun s => by
    have := it113 s 0 3 x [] rounds (by simp only [pw]; omega) h (by simp) (lt_rounds (by omega))
    simpa [l113_0] using this
  have hg : (dig x.natAbs).length ≤ 3 := dig_len (by simp only [pw]; omega)
  have e := dig_dv x.natAbs
  simp only [f113, t113, b113_0, hl, g149, f149_eq _ (dig x.natAbs) (by omega) (dig_Dg _), e, Option.isSome_some, Option.getD_some, Tr.val_test, Tr.val_fin, isBrk, outB, if_true, leF_eq]
  by_cases hx : 0 ≤ x
  · rw [if_neg (by simp <;> omega)]
    have : mkN 1 (x.natAbs : Int) = enc x := mkN_enc fun h => by rw [Int.sign_eq_one_of_pos (by omega)]
    rw [this]
  · rw [if_pos (by simp <;> omega)]
    have : mkN (-1) (x.natAbs : Int) = enc x := mkN_enc fun h => by rw [Int.sign_eq_neg_one_of_neg (by omega)]
    rw [this]

/-- Carries and digits of a sum. -/
def cA (a b : List Int) : Nat → Int
  | 0 => 0
  | i + 1 => (a.getD i 0 + b.getD i 0 + cA a b i) / 1000000000

def oA (a b : List Int) : Nat → List Int
  | 0 => []
  | i + 1 => oA a b i ++ [(a.getD i 0 + b.getD i 0 + cA a b i) % 1000000000]

theorem cA_le {a b : List Int} (ha : Dg a) (hb : Dg b) : ∀ i, 0 ≤ cA a b i ∧ cA a b i ≤ 1
  | 0 => by simp [cA]
  | i + 1 => by
    have := cA_le ha hb i; have := ha.getD i; have := hb.getD i
    simp only [cA]; omega

theorem oA_len (a b : List Int) : ∀ i, (oA a b i).length = i
  | 0 => rfl
  | i + 1 => by simp [oA, oA_len a b i]

theorem oA_Dg (a b : List Int) : ∀ i, Dg (oA a b i)
  | 0 => Dg.nil
  | i + 1 => (oA_Dg a b i).push (by omega) (by omega)

theorem oA_dv (a b : List Int) : ∀ i, dval (oA a b i) + pw i * cA a b i = dval (a.take i) + dval (b.take i)
  | 0 => by simp [oA, cA, dval, pw]
  | i + 1 => by
    have ih := oA_dv a b i
    rw [oA, dv_push, oA_len, dv_take, dv_take, cA, pw]
    generalize hs : a.getD i 0 + b.getD i 0 + cA a b i = s at *
    have e : s % 1000000000 = s - 1000000000 * (s / 1000000000) := by omega
    have e2 : pw i * (s % 1000000000) + 1000000000 * pw i * (s / 1000000000) = pw i * s := by
      rw [e, Int.mul_sub, Int.mul_comm 1000000000 (pw i), Int.mul_assoc]; omega
    have e3 : pw i * s = pw i * a.getD i 0 + pw i * b.getD i 0 + pw i * cA a b i := by rw [← hs, Int.mul_add, Int.mul_add]
    omega

/-- How many digits a sum has. -/
def nA (a b : List Int) : Nat := if cA a b (max a.length b.length) = 0 then max a.length b.length else max a.length b.length + 1

theorem cA_end {a b : List Int} (ha : Dg a) (hb : Dg b) : cA a b (nA a b) = 0 := by
  unfold nA
  split
  · assumption
  · have := cA_le ha hb (max a.length b.length)
    have e1 : a.getD (max a.length b.length) 0 = 0 := by simp [List.getD, List.getElem?_eq_none (Nat.le_max_left a.length b.length)]
    have e2 : b.getD (max a.length b.length) 0 = 0 := by simp [List.getD, List.getElem?_eq_none (Nat.le_max_right a.length b.length)]
    simp only [cA, e1, e2]; omega

theorem s154_again {a b : List Int} (ha : Dg a) (hb : Dg b) {i : Nat} (hl : i ≤ 1000000) (h : i < a.length ∨ i < b.length ∨ 0 < cA a b i) :
    s154_0 ((a, b, oA a b i, cA a b i, (i : Int), ()), ()) = some (.again ((a, b, oA a b (i + 1), cA a b (i + 1), ((i + 1 : Nat) : Int), ()), ())) := by
  have h1 := cA_le ha hb i; have h2 := ha.getD i; have h3 := hb.getD i
  have e1 : wrap64 (wrap64 (a.getD i 0 + b.getD i 0) + cA a b i) = a.getD i 0 + b.getD i 0 + cA a b i := by
    rw [wrap64_id (n := a.getD i 0 + b.getD i 0) (by omega) (by omega), wrap64_id (by omega) (by omega)]
  have e2 : IntKind.wrap .i64 (Int.tdiv (a.getD i 0 + b.getD i 0 + cA a b i) 1000000000) = cA a b (i + 1) := by
    rw [Int.tdiv_eq_ediv_of_nonneg (by omega), wrapJ (by omega) (by omega), cA]
  have e3 : Int.tmod (a.getD i 0 + b.getD i 0 + cA a b i) 1000000000 = (a.getD i 0 + b.getD i 0 + cA a b i) % 1000000000 := Int.tmod_eq_emod_of_nonneg (by omega)
  have e4 : wrap64 ((i : Int) + 1) = ((i + 1 : Nat) : Int) := wrap64_nat (by omega)
  have e5 : (Nat.ble ((2 * ((oA a b i).length + 1) + 192) * 8) 281474976710656 && Nat.ble ((oA a b i).length + 1) 281474976710656) = true := by
    rw [oA_len]; simp; omega
  simp only [s154_0, t154_0, g175, f175_eq a i, f175_eq b i, Option.isSome_some, Option.getD_some, Tr.val_test, Tr.val_fin, leF_eq, if_true, e1, e2, e3, e4, e5]
  by_cases c1 : i < a.length
  · rw [if_pos (by simp <;> omega)]; rfl
  · rw [if_neg (by simp <;> omega)]
    by_cases c2 : i < b.length
    · rw [if_pos (by simp <;> omega)]; rfl
    · rw [if_neg (by simp <;> omega), if_pos (by simp <;> omega)]; rfl

theorem f154_eq (a b : List Int) (ha : Dg a) (hb : Dg b) (h1 : a.length ≤ 100000) (h2 : b.length ≤ 100000) : f154 (a, b, ()) = some (oA a b (nA a b), ()) := by
  have hn : nA a b ≤ max a.length b.length + 1 := by unfold nA; split <;> omega
  have hl : l154_0 ((a, b, [], (0 : Int), (0 : Int), ()), ()) = some (.inl ((oA a b (nA a b), ()), ())) := by
    refine itr_brk (fun i => ((a, b, oA a b i, cA a b i, (i : Int), ()), ())) (n := nA a b) ?_ ?_ (lt_rounds (by omega))
    · intro i hi
      refine s154_again ha hb (by omega) ?_
      have := cA_le ha hb i
      unfold nA at hi
      split at hi
      · omega
      · rename_i hc
        by_cases e : i = max a.length b.length
        · rw [← e] at hc; omega
        · omega
    · have hc := cA_end ha hb
      have hm : max a.length b.length ≤ nA a b := by unfold nA; split <;> omega
      simp only [s154_0, t154_0, Tr.val_test, Tr.val_fin, leF_eq, hc]
      rw [if_neg (by simp <;> omega), if_neg (by simp <;> omega), if_neg (by simp)]
  simp only [f154, t154, b154_0, hl, Tr.val_test, Tr.val_fin, isBrk, if_true, outB]

theorem oA_sum {a b : List Int} (ha : Dg a) (hb : Dg b) : dval (oA a b (nA a b)) = dval a + dval b := by
  have h := oA_dv a b (nA a b)
  have hm : max a.length b.length ≤ nA a b := by unfold nA; split <;> omega
  rw [cA_end ha hb, dv_take_all a (by omega), dv_take_all b (by omega)] at h
  omega

/-- Borrows and digits of a difference. -/
def cS (a b : List Int) : Nat → Int
  | 0 => 0
  | i + 1 => if a.getD i 0 - b.getD i 0 - cS a b i < 0 then 1 else 0

def oS (a b : List Int) : Nat → List Int
  | 0 => []
  | i + 1 => oS a b i ++ [if a.getD i 0 - b.getD i 0 - cS a b i < 0 then a.getD i 0 - b.getD i 0 - cS a b i + 1000000000 else a.getD i 0 - b.getD i 0 - cS a b i]

theorem cS_le (a b : List Int) : ∀ i, 0 ≤ cS a b i ∧ cS a b i ≤ 1
  | 0 => by simp [cS]
  | i + 1 => by simp only [cS]; split <;> omega

theorem oS_len (a b : List Int) : ∀ i, (oS a b i).length = i
  | 0 => rfl
  | i + 1 => by simp [oS, oS_len a b i]

theorem oS_Dg {a b : List Int} (ha : Dg a) (hb : Dg b) : ∀ i, Dg (oS a b i)
  | 0 => Dg.nil
  | i + 1 => by
    have := cS_le a b i; have := ha.getD i; have := hb.getD i
    exact (oS_Dg ha hb i).push (by split <;> omega) (by split <;> omega)

theorem oS_dv (a b : List Int) : ∀ i, dval (oS a b i) - pw i * cS a b i = dval (a.take i) - dval (b.take i)
  | 0 => by simp [oS, cS, dval, pw]
  | i + 1 => by
    have ih := oS_dv a b i
    rw [oS, dv_push, oS_len, dv_take, dv_take, cS, pw]
    generalize hs : a.getD i 0 - b.getD i 0 - cS a b i = s at *
    have e3 : pw i * s = pw i * a.getD i 0 - pw i * b.getD i 0 - pw i * cS a b i := by rw [← hs, Int.mul_sub, Int.mul_sub]
    by_cases h : s < 0
    · rw [if_pos h, if_pos h, Int.mul_add]; omega
    · rw [if_neg h, if_neg h]; omega

theorem f156_eq (a b : List Int) (ha : Dg a) (hb : Dg b) (h1 : a.length ≤ 1000000) (h2 : b.length ≤ a.length) (h3 : dval b ≤ dval a) : f156 (a, b, ()) = some (dig (dval a - dval b).toNat, ()) := by
  have hl : l156_0 ((a, b, [], (0 : Int), (0 : Int), ()), ()) = some (.inl ((oS a b a.length, ()), ())) := by
    refine itr_brk (fun i => ((a, b, oS a b i, cS a b i, (i : Int), ()), ())) (n := a.length) ?_ ?_ (lt_rounds (by omega))
    · intro i hi
      have h1 := cS_le a b i; have h2 := ha.getD i; have h3 := hb.getD i
      have e0 : wrap64 (a.getD i 0 - b.getD i 0) = a.getD i 0 - b.getD i 0 := wrap64_id (by omega) (by omega)
      have e1 : wrap64 (wrap64 (a.getD i 0 - b.getD i 0) - cS a b i) = a.getD i 0 - b.getD i 0 - cS a b i := by
        rw [e0, wrap64_id (by omega) (by omega)]
      have e2 : wrap64 (a.getD i 0 - b.getD i 0 - cS a b i + 1000000000) = a.getD i 0 - b.getD i 0 - cS a b i + 1000000000 := wrap64_id (by omega) (by omega)
      have e4 : wrap64 ((i : Int) + 1) = ((i + 1 : Nat) : Int) := wrap64_nat (by omega)
      have e5 : (Nat.ble ((2 * ((oS a b i).length + 1) + 192) * 8) 281474976710656 && Nat.ble ((oS a b i).length + 1) 281474976710656) = true := by
        rw [oS_len]; simp; omega
      simp only [s156_0, t156_0, g175, f175_eq b i, Option.isSome_some, Option.getD_some, Tr.val_test, Tr.val_fin, leF_eq, if_true, e1, e2, e4, e5, Int.toNat_natCast, oS, cS]
      rw [if_pos (by simp <;> omega), if_pos (by simp <;> omega)]
      by_cases h : a.getD i 0 - b.getD i 0 - cS a b i < 0
      · rw [if_pos (by simp only [Bool.not_eq_true', decide_eq_false_iff_not]; omega), if_pos h, if_pos h]
      · rw [if_neg (by simp only [Bool.not_eq_true', decide_eq_false_iff_not]; omega), if_neg h, if_neg h]
    · simp [s156_0, t156_0, leF_eq]
  have hd := oS_Dg ha hb a.length
  have hv := oS_dv a b a.length
  rw [dv_take_all a (Nat.le_refl _), dv_take_all b h2] at hv
  have hlt := dv_lt hd
  rw [oS_len] at hlt
  have hc := cS_le a b a.length
  have hc0 : cS a b a.length = 0 := by
    by_cases e : cS a b a.length = 1
    · rw [e] at hv; omega
    · omega
  rw [hc0, Int.mul_zero, Int.sub_zero] at hv
  simp only [f156, t156, b156_0, hl, g173, f173_eq _ (show (oS a b a.length).length ≤ 1000000000 by rw [oS_len]; omega) hd, hv, Option.isSome_some, Option.getD_some, Tr.val_test, Tr.val_fin, isBrk, if_true, outB]

theorem can_ge {l : List Int} (hd : Dg l) (hc : Can l) {m : Nat} (hm : l.length = m + 1) : pw m ≤ dval l := by
  have h3 := dv_take l m
  rw [dv_take_all _ (by omega)] at h3
  have h2 := hc m hm
  have h4 := dv_nonneg (hd.take m)
  have h5 := hd.getD m
  have h7 : pw m * 1 ≤ pw m * l.getD m 0 := Int.mul_le_mul_of_nonneg_left (by omega) (Int.le_of_lt (pw_pos m))
  omega

theorem dv_top {a b : List Int} (ha : Dg a) (hb : Dg b) {j : Nat} (hlt : a.getD j 0 < b.getD j 0) : ∀ n, (∀ i, j < i → i < j + 1 + n → a.getD i 0 = b.getD i 0) → dval (a.take (j + 1 + n)) < dval (b.take (j + 1 + n))
  | 0, _ => by
    rw [Nat.add_zero, dv_take, dv_take]
    have h1 := dv_lt (ha.take j)
    have h2 := dv_nonneg (hb.take j)
    have h3 : pw (a.take j).length ≤ pw j := pw_le (by simp; omega)
    have h7 : pw j * (a.getD j 0 + 1) ≤ pw j * b.getD j 0 := Int.mul_le_mul_of_nonneg_left (by omega) (Int.le_of_lt (pw_pos j))
    rw [Int.mul_add] at h7
    omega
  | n + 1, h => by
    have ih := dv_top ha hb hlt n fun i h1 h2 => h i h1 (by omega)
    have e := h (j + 1 + n) (by omega) (by omega)
    rw [← Nat.add_assoc, dv_take, dv_take, e]
    omega

theorem f155_eq (a b : List Int) (ha : Dg a) (hb : Dg b) (ca : Can a) (cb : Can b) (h1 : a.length ≤ 1000000) : f155 (a, b, ()) = some ((dval a - dval b).sign, ()) := by
  simp only [f155, t155, Tr.val_test, Tr.val_fin, leF_eq, eqF_eq]
  by_cases hle : a.length = b.length
  · rw [if_neg (by simp; omega)]
    have e0 : wrap64 ((a.length : Int) - 1) = (a.length : Int) - 1 := wrap64_id (by omega) (by omega)
    have hl : l155_0 ((a, b, (a.length : Int) - 1, ()), ()) = match first (fun k => !decide (a.getD (a.length - 1 - k) 0 = b.getD (a.length - 1 - k) 0)) a.length 0 with
        | some k => some (.inr (((if a.getD (a.length - 1 - k) 0 < b.getD (a.length - 1 - k) 0 then (-1 : Int) else 1), ()), ()))
        | none => some (.inl ((), ())) := by
      have := itr_search (step := s155_0) (m := rounds) (n := a.length) (fun k => ((a, b, (a.length : Int) - 1 - (k : Int), ()), ())) (fun k => !decide (a.getD (a.length - 1 - k) 0 = b.getD (a.length - 1 - k) 0))
        (fun k => (((if a.getD (a.length - 1 - k) 0 < b.getD (a.length - 1 - k) 0 then (-1 : Int) else 1), ()), ())) (b := ((), ())) ?_ ?_ (lt_rounds (by omega))
      · rw [l155_0, show (a.length : Int) - 1 = (a.length : Int) - 1 - ((0 : Nat) : Int) by omega]; exact this
      · intro k hk
        have e1 : (a.length : Int) - 1 - (k : Int) = ((a.length - 1 - k : Nat) : Int) := by omega
        have e2 : wrap64 (((a.length - 1 - k : Nat) : Int) - 1) = (a.length : Int) - 1 - ((k + 1 : Nat) : Int) := by rw [wrap64_id (by omega) (by omega)]; omega
        simp only [e1, s155_0, t155_0, Tr.val_test, Tr.val_fin, leF_eq, Int.toNat_natCast, e2]
        rw [if_pos (by simp), if_pos (by simp; omega), if_pos (by simp; omega)]
        generalize a.getD (a.length - 1 - k) 0 = x
        generalize b.getD (a.length - 1 - k) 0 = y
        rcases Int.lt_trichotomy x y with h | h | h
        · rw [if_pos (by simp; omega), if_pos (by simp; omega), if_pos h]
        · rw [if_neg (by simp; omega), if_neg (by simp; omega), if_neg (by simp; omega)]
        · rw [if_neg (by simp; omega), if_pos (by simp; omega), if_pos (by simp; omega), if_neg (by omega)]
      · simp only [s155_0, t155_0, Tr.val_test, Tr.val_fin, leF_eq]
        rw [if_neg (by simp; omega)]
    rw [e0, r155_0, hl]
    have hta := dv_take_all a (Nat.le_refl _)
    have htb := dv_take_all b (Nat.le_of_eq hle.symm)
    cases hf : first (fun k => !decide (a.getD (a.length - 1 - k) 0 = b.getD (a.length - 1 - k) 0)) a.length 0 with
    | none =>
      have hn := first_none hf
      have : ∀ n, n ≤ a.length → dval (a.take n) = dval (b.take n) := by
        intro n
        induction n with
        | zero => intro _; simp
        | succ n ih =>
          intro h
          have := hn (a.length - 1 - n) (by omega) (by omega)
          rw [show a.length - 1 - (a.length - 1 - n) = n by omega] at this
          rw [dv_take, dv_take, ih (by omega), show a.getD n 0 = b.getD n 0 by simpa using this]
      have e := this a.length (Nat.le_refl _)
      rw [hta, htb] at e
      simp [e, isRet]
    | some k =>
      obtain ⟨q1, q2, q3, q4⟩ := first_some hf
      have hne : a.getD (a.length - 1 - k) 0 ≠ b.getD (a.length - 1 - k) 0 := by simpa using q3
      have heq : ∀ i, a.length - 1 - k < i → i < a.length - 1 - k + 1 + k → a.getD i 0 = b.getD i 0 := fun i h1 h2 => by
        have := q4 (a.length - 1 - i) (by omega) (by omega)
        rw [show a.length - 1 - (a.length - 1 - i) = i by omega] at this
        simpa using this
      have hN : a.length - 1 - k + 1 + k = a.length := by omega
      simp only [isRet, Option.isSome_some, if_true, outR]
      by_cases h : a.getD (a.length - 1 - k) 0 < b.getD (a.length - 1 - k) 0
      · have := dv_top ha hb h k heq
        rw [hN, hta, htb] at this
        rw [if_pos h, Int.sign_eq_neg_one_of_neg (by omega)]
      · have := dv_top hb ha (j := a.length - 1 - k) (by omega) k fun i h1 h2 => (heq i h1 h2).symm
        rw [hN, hta, htb] at this
        rw [if_neg h, Int.sign_eq_one_of_pos (by omega)]
  · rw [if_pos (by simp; omega)]
    by_cases h : a.length < b.length
    · rw [if_pos (by simp; omega)]
      have hx := dv_lt ha
      obtain ⟨m, hm⟩ : ∃ m, b.length = m + 1 := ⟨b.length - 1, by omega⟩
      have hy := can_ge hb cb hm
      have : pw a.length ≤ pw m := pw_le (by omega)
      rw [Int.sign_eq_neg_one_of_neg (by omega)]
    · rw [if_neg (by simp; omega)]
      have hx := dv_lt hb
      obtain ⟨m, hm⟩ : ∃ m, a.length = m + 1 := ⟨a.length - 1, by omega⟩
      have hy := can_ge ha ca hm
      have : pw b.length ≤ pw m := pw_le (by omega)
      rw [Int.sign_eq_one_of_pos (by omega)]

theorem l117_2_eq (n c i : Nat) (s0 s1 z : Int) (a b buf : List Int) (hi : i < a.length) (ha : Dg a) (hb : Dg b) (hbuf : Dg buf) (hlen : buf.length = n) (hn : i + b.length ≤ n) (hs : n ≤ 1000000) :
    l117_2 (((n, c), ((i : Int), (0 : Int), (0 : Int), ())), ((s0, a, ()), (s1, b, ()), (z, ()), buf, ())) =
      some (.inl (((n, c), ((i : Int), (mI (a.getD i 0) b i buf b.length).2, ())), ((s0, a, ()), (s1, b, ()), (z, ()), (mI (a.getD i 0) b i buf b.length).1, ()))) := by
  refine itr_brk (fun j => (((n, c), ((i : Int), (mI (a.getD i 0) b i buf j).2, (j : Int), ())), ((s0, a, ()), (s1, b, ()), (z, ()), (mI (a.getD i 0) b i buf j).1, ()))) (n := b.length) ?_ ?_ (lt_rounds (by omega))
  · intro j hj
    obtain ⟨h1, h2, h3⟩ := mI_Dg (i := i) (ha.getD i) hb hbuf j
    have h4 := h1.getD (i + j)
    have h5 := dg_mul (ha.getD i) (hb.getD j)
    have hml := mI_len (a.getD i 0) b i buf j
    have e0 : wrap64 ((i : Int) + (j : Int)) = ((i + j : Nat) : Int) := by rw [wrap64_id (by omega) (by omega)]; omega
    have e1 : wrap64 (a.getD i 0 * b.getD j 0) = a.getD i 0 * b.getD j 0 := wrap64_id (by omega) (by omega)
    have e2 : wrap64 (wrap64 ((mI (a.getD i 0) b i buf j).1.getD (i + j) 0 + a.getD i 0 * b.getD j 0) + (mI (a.getD i 0) b i buf j).2) = (mI (a.getD i 0) b i buf j).1.getD (i + j) 0 + a.getD i 0 * b.getD j 0 + (mI (a.getD i 0) b i buf j).2 := by
      rw [wrap64_id (n := (mI (a.getD i 0) b i buf j).1.getD (i + j) 0 + a.getD i 0 * b.getD j 0) (by omega) (by omega), wrap64_id (by omega) (by omega)]
    have e3 : Int.tmod ((mI (a.getD i 0) b i buf j).1.getD (i + j) 0 + a.getD i 0 * b.getD j 0 + (mI (a.getD i 0) b i buf j).2) 1000000000 = ((mI (a.getD i 0) b i buf j).1.getD (i + j) 0 + a.getD i 0 * b.getD j 0 + (mI (a.getD i 0) b i buf j).2) % 1000000000 := Int.tmod_eq_emod_of_nonneg (by omega)
    have e4 : IntKind.wrap .i64 (Int.tdiv ((mI (a.getD i 0) b i buf j).1.getD (i + j) 0 + a.getD i 0 * b.getD j 0 + (mI (a.getD i 0) b i buf j).2) 1000000000) = ((mI (a.getD i 0) b i buf j).1.getD (i + j) 0 + a.getD i 0 * b.getD j 0 + (mI (a.getD i 0) b i buf j).2) / 1000000000 := by
      rw [Int.tdiv_eq_ediv_of_nonneg (by omega), wrapJ (by omega) (by omega)]
    have e5 : wrap64 ((j : Int) + 1) = ((j + 1 : Nat) : Int) := wrap64_nat (by omega)
    simp only [s117_2, t117_2, Tr.val_test, Tr.val_fin, leF_eq, e0, Int.toNat_natCast, Nat.zero_add, e1, e2, e3, e4, e5]
    rw [if_pos (by simp; omega), if_pos (by simp; omega), if_pos (by rw [hml, ble_eq_true']; omega), if_pos (by simp; omega), if_pos (by simp; omega)]
    rfl
  · simp [s117_2, t117_2, leF_eq]

theorem l117_0_eq (s0 s1 z : Int) (a b : List Int) (n : Nat) (ha : Dg a) (hb : Dg b) (hn : n = a.length + b.length + 1) (hs : n ≤ 1000000) :
    l117_0 (((n, n), ((0 : Int), ())), ((s0, a, ()), (s1, b, ()), (z, ()), List.replicate n 0, ())) = some (.inl (((n, n), ()), ((s0, a, ()), (s1, b, ()), (z, ()), mO a b a.length, ()))) := by
  subst hn
  refine itr_brk (fun i => (((a.length + b.length + 1, a.length + b.length + 1), ((i : Int), ())), ((s0, a, ()), (s1, b, ()), (z, ()), mO a b i, ()))) (n := a.length) ?_ ?_ (lt_rounds (by omega))
  · intro i hi
    have hl := l117_2_eq (a.length + b.length + 1) (a.length + b.length + 1) i s0 s1 z a b (mO a b i) hi ha hb (mO_Dg ha hb i) (mO_len a b i) (by omega) hs
    obtain ⟨h1, h2, h3⟩ := mI_Dg (i := i) (ha.getD i) hb (mO_Dg ha hb i) b.length
    have e0 : wrap64 ((i : Int) + (b.length : Int)) = ((i + b.length : Nat) : Int) := by rw [wrap64_id (by omega) (by omega)]; omega
    have e1 : wrap64 ((mI (a.getD i 0) b i (mO a b i) b.length).1.getD (i + b.length) 0 + (mI (a.getD i 0) b i (mO a b i) b.length).2) = (mI (a.getD i 0) b i (mO a b i) b.length).1.getD (i + b.length) 0 + (mI (a.getD i 0) b i (mO a b i) b.length).2 := by
      rw [mO_get]; exact wrap64_id (by omega) (by omega)
    have e5 : wrap64 ((i : Int) + 1) = ((i + 1 : Nat) : Int) := wrap64_nat (by omega)
    have hml : (mI (a.getD i 0) b i (mO a b i) b.length).1.length = a.length + b.length + 1 := by rw [mI_len, mO_len]
    simp only [s117_0, t117_0, b117_2, hl, isBrk, outB, Tr.val_test, Tr.val_fin, leF_eq, e0, Int.toNat_natCast, Nat.zero_add, e1, e5, if_true]
    rw [if_pos (by simp; omega), if_pos (by simp; omega), if_pos (by rw [hml, ble_eq_true']; omega)]
    rfl
  · simp [s117_0, t117_0, leF_eq]

theorem f117_raw (s0 s1 : Int) (a b : List Int) (ha : Dg a) (hb : Dg b) (h : a.length + b.length + 1 ≤ 1000000) : f117 ((s0, a, ()), (s1, b, ()), ()) = some (mkN (wrap64 (s0 * s1)) (dval a * dval b), ()) := by
  have e0 : wrap64 (wrap64 ((a.length : Int) + (b.length : Int)) + 1) = ((a.length + b.length + 1 : Nat) : Int) := by
    rw [wrap64_id (n := (a.length : Int) + (b.length : Int)) (by omega) (by omega), wrap64_id (by omega) (by omega)]; omega
  have hl := l117_0_eq s0 s1 0 a b _ ha hb rfl h
  have hd := mO_Dg ha hb a.length
  have hv := mO_dv a b a.length (Nat.le_refl _)
  rw [dv_take_all a (Nat.le_refl _)] at hv
  have hlen := mO_len a b a.length
  have hf : f149 (wrap64 (s0 * s1), mO a b a.length, ()) = some (mkN (wrap64 (s0 * s1)) (dval a * dval b), ()) := by rw [f149_eq _ _ (by omega) hd, hv]
  simp only [f117, t117, e0, Int.toNat_natCast, b117_0, hl, isBrk, outB, Tr.val_test, Tr.val_fin, if_true, hlen, g149, hf, Option.isSome_some, Option.getD_some]
  rw [if_pos (by simp; omega), if_pos (by simp)]

theorem f117_eq (x y : Int) (h : (dig x.natAbs).length + (dig y.natAbs).length + 1 ≤ 1000000) : f117 (enc x, enc y, ()) = some (enc (x * y), ()) := by
  have hf := f117_raw x.sign y.sign (dig x.natAbs) (dig y.natAbs) (dig_Dg _) (dig_Dg _) h
  rw [dig_dv, dig_dv] at hf
  have hw : wrap64 (x.sign * y.sign) = (x * y).sign := by
    rw [← Int.sign_mul]
    have : (x * y).sign = -1 ∨ (x * y).sign = 0 ∨ (x * y).sign = 1 := by
      rcases Int.lt_trichotomy (x * y) 0 with h | h | h
      · left; exact Int.sign_eq_neg_one_of_neg h
      · right; left; rw [h]; rfl
      · right; right; exact Int.sign_eq_one_of_pos h
    exact wrap64_id (by omega) (by omega)
  rw [hw] at hf
  have he : mkN (x * y).sign ((x.natAbs : Int) * (y.natAbs : Int)) = enc (x * y) := by
    rw [← Int.natCast_mul, ← Int.natAbs_mul]
    exact mkN_enc fun _ => rfl
  rw [he] at hf
  exact hf

theorem sgn_cases (x : Int) : (x < 0 ∧ x.sign = -1) ∨ (x = 0 ∧ x.sign = 0) ∨ (0 < x ∧ x.sign = 1) := by
  rcases Int.lt_trichotomy x 0 with h | h | h
  · exact .inl ⟨h, Int.sign_eq_neg_one_of_neg h⟩
  · exact .inr (.inl ⟨h, by rw [h]; rfl⟩)
  · exact .inr (.inr ⟨h, Int.sign_eq_one_of_pos h⟩)

theorem f116_raw (s0 s1 : Int) (a b : List Int) (ha : Dg a) (hb : Dg b) (ca : Can a) (cb : Can b) (h1 : a.length ≤ 100000) (h2 : b.length ≤ 100000) : f116 ((s0, a, ()), (s1, b, ()), ()) =
    if s0 = 0 then some ((s1, b, ()), ()) else if s1 = 0 then some ((s0, a, ()), ()) else if s0 = s1 then some (mkN s0 (dval a + dval b), ()) else
    if dval a = dval b then some ((0, [], ()), ()) else if dval b < dval a then some (mkN s0 (dval a - dval b), ()) else some (mkN s1 (dval b - dval a), ()) := by
  have hle : ∀ {l : List Int} {n : Int}, Dg l → Can l → dval l ≤ n → ∀ {l2 : List Int}, Dg l2 → n = dval l2 → l.length ≤ l2.length := fun {l n} hd hc hn {l2} hd2 e => by
    rcases Nat.lt_or_ge l2.length l.length with h | h
    · exfalso
      obtain ⟨m, hm⟩ : ∃ m, l.length = m + 1 := ⟨l.length - 1, by omega⟩
      have := can_ge hd hc hm
      have := dv_lt hd2
      have : pw l2.length ≤ pw m := pw_le (by omega)
      omega
    · exact h
  have hn : nA a b ≤ max a.length b.length + 1 := by unfold nA; split <;> omega
  simp only [f116, t116, Tr.val_test, Tr.val_fin, eqF_eq, leF_eq, decide_eq_true_eq]
  by_cases c1 : s0 = 0
  · rw [if_pos c1, if_pos c1]
  rw [if_neg c1, if_neg c1]
  by_cases c2 : s1 = 0
  · rw [if_pos c2, if_pos c2]
  rw [if_neg c2, if_neg c2]
  by_cases c3 : s0 = s1
  · rw [if_pos c3, if_pos c3]
    simp only [g154, f154_eq a b ha hb h1 h2, Option.isSome_some, Option.getD_some, if_true, g149, f149_eq s0 (oA a b (nA a b)) (by rw [oA_len]; omega) (oA_Dg a b _), oA_sum ha hb]
  rw [if_neg c3, if_neg c3]
  simp only [g155, f155_eq a b ha hb ca cb (by omega), Option.isSome_some, Option.getD_some, if_true]
  rcases sgn_cases (dval a - dval b) with ⟨hs, e⟩ | ⟨hs, e⟩ | ⟨hs, e⟩
  · have hl := hle ha ca (show dval a ≤ dval b by omega) hb rfl
    have hv : ((dval b - dval a).toNat : Int) = dval b - dval a := by omega
    have hlen : (dig (dval b - dval a).toNat).length ≤ b.length := dig_len (by have := dv_lt hb; have := dv_nonneg ha; omega)
    rw [if_neg (by rw [e]; omega), if_neg (by rw [e]; simp)]
    simp only [g156, f156_eq b a hb ha (by omega) hl (by omega), Option.isSome_some, Option.getD_some, if_true, g149, f149_eq s1 (dig (dval b - dval a).toNat) (by omega) (dig_Dg _), dig_dv, hv]
    rw [if_neg (by omega), if_neg (by omega)]
  · rw [if_pos (by rw [e]), if_pos (by omega)]
  · have hl := hle hb cb (show dval b ≤ dval a by omega) ha rfl
    have hv : ((dval a - dval b).toNat : Int) = dval a - dval b := by omega
    have hlen : (dig (dval a - dval b).toNat).length ≤ a.length := dig_len (by have := dv_lt ha; have := dv_nonneg hb; omega)
    rw [if_neg (by rw [e]; omega), if_pos (by rw [e]; simp)]
    simp only [g156, f156_eq a b ha hb (by omega) hl (by omega), Option.isSome_some, Option.getD_some, if_true, g149, f149_eq s0 (dig (dval a - dval b).toNat) (by omega) (dig_Dg _), dig_dv, hv]
    rw [if_neg (by omega), if_pos (by omega)]

theorem mkN_eq {s n z : Int} (h : n = z.natAbs) (hs : z ≠ 0 → s = z.sign) : mkN s n = enc z := by rw [h]; exact mkN_enc hs

theorem f116_eq (x y : Int) (h1 : (dig x.natAbs).length ≤ 100000) (h2 : (dig y.natAbs).length ≤ 100000) : f116 (enc x, enc y, ()) = some (enc (x + y), ()) := by
  have hf := f116_raw x.sign y.sign (dig x.natAbs) (dig y.natAbs) (dig_Dg _) (dig_Dg _) (dig_Can _) (dig_Can _) h1 h2
  rw [dig_dv, dig_dv] at hf
  refine hf.trans ?_
  have t0 : (0 : Int).sign = 0 := rfl
  rcases sgn_cases x with ⟨hx, ex⟩ | ⟨hx, ex⟩ | ⟨hx, ex⟩
  · rcases sgn_cases y with ⟨hy, ey⟩ | ⟨hy, ey⟩ | ⟨hy, ey⟩
    · rw [ex, ey, if_neg (by omega), if_neg (by omega), if_pos rfl, mkN_eq (z := x + y) (by omega) fun _ => by rw [Int.sign_eq_neg_one_of_neg (by omega)]]
    · rw [ex, ey, if_neg (by omega), if_pos rfl]; subst hy; rw [Int.add_zero, enc, ex]
    · rw [ex, ey, if_neg (by omega), if_neg (by omega), if_neg (by omega)]
      split
      · have : x + y = 0 := by omega
        rw [this]; simp [enc, dig_zero]
      · split
        · rw [mkN_eq (z := x + y) (by omega) fun _ => by rw [Int.sign_eq_neg_one_of_neg (by omega)]]
        · rw [mkN_eq (z := x + y) (by omega) fun _ => by rw [Int.sign_eq_one_of_pos (by omega)]]
  · rw [ex, if_pos rfl]; subst hx; rw [Int.zero_add, enc]
  · rcases sgn_cases y with ⟨hy, ey⟩ | ⟨hy, ey⟩ | ⟨hy, ey⟩
    · rw [ex, ey, if_neg (by omega), if_neg (by omega), if_neg (by omega)]
      split
      · have : x + y = 0 := by omega
        rw [this]; simp [enc, dig_zero]
      · split
        · rw [mkN_eq (z := x + y) (by omega) fun _ => by rw [Int.sign_eq_one_of_pos (by omega)]]
        · rw [mkN_eq (z := x + y) (by omega) fun _ => by rw [Int.sign_eq_neg_one_of_neg (by omega)]]
    · rw [ex, ey, if_neg (by omega), if_pos rfl]; subst hy; rw [Int.add_zero, enc, ex]
    · rw [ex, ey, if_neg (by omega), if_neg (by omega), if_pos rfl, mkN_eq (z := x + y) (by omega) fun _ => by rw [Int.sign_eq_one_of_pos (by omega)]]

theorem enc_neg (x : Int) : (IntKind.wrap .i64 (0 - x.sign), dig x.natAbs, ()) = enc (-x) := by
  have : IntKind.wrap .i64 (0 - x.sign) = (-x).sign := by
    rw [Int.sign_neg]
    rcases sgn_cases x with ⟨_, e⟩ | ⟨_, e⟩ | ⟨_, e⟩ <;> rw [e] <;> rfl
  rw [this, enc, Int.natAbs_neg]

theorem f150_eq (x : Int) : f150 (enc x, ()) = some (enc (-x), ()) := by
  rw [← enc_neg]; rfl

theorem f157_eq (x y : Int) (h1 : (dig x.natAbs).length ≤ 100000) (h2 : (dig y.natAbs).length ≤ 100000) : f157 (enc x, enc y, ()) = some (enc (x - y), ()) := by
  have e0 : f150 ((y.sign, dig y.natAbs, ()), ()) = some (enc (-y), ()) := f150_eq y
  have e1 : f116 ((x.sign, dig x.natAbs, ()), ((enc (-y)).1, (enc (-y)).2.1, ()), ()) = some (enc (x - y), ()) := f116_eq x (-y) h1 (by rw [Int.natAbs_neg]; exact h2)
  show f157 ((x.sign, dig x.natAbs, ()), (y.sign, dig y.natAbs, ()), ()) = _
  simp only [f157, t157, g150, e0, g116, e1, Option.isSome_some, Option.getD_some, Tr.val_test, Tr.val_fin, if_true]

theorem f118_eq (x y : Int) (h1 : (dig x.natAbs).length ≤ 100000) (h2 : (dig y.natAbs).length ≤ 100000) : f118 (enc x, enc y, ()) = some ((x - y).sign, ()) := by
  have e0 : f157 ((x.sign, dig x.natAbs, ()), (y.sign, dig y.natAbs, ()), ()) = some (enc (x - y), ()) := f157_eq x y h1 h2
  show f118 ((x.sign, dig x.natAbs, ()), (y.sign, dig y.natAbs, ()), ()) = _
  simp only [f118, t118, g157, e0, Option.isSome_some, Option.getD_some, Tr.val_test, Tr.val_fin, if_true]
  rfl

theorem f174_eq (x : Int) : f174 (enc x, ()) = some (enc x.natAbs, ()) := by
  have e0 : f150 ((x.sign, dig x.natAbs, ()), ()) = some (enc (-x), ()) := f150_eq x
  show f174 ((x.sign, dig x.natAbs, ()), ()) = _
  simp only [f174, t174, g150, e0, Option.isSome_some, Option.getD_some, Tr.val_test, Tr.val_fin, leF_eq, if_true]
  rcases sgn_cases x with ⟨h, e⟩ | ⟨h, e⟩ | ⟨h, e⟩
  · rw [if_pos (by rw [e]; simp), show ((x.natAbs : Nat) : Int) = -x by omega]
  · subst h; rfl
  · rw [if_neg (by rw [e]; simp), show ((x.natAbs : Nat) : Int) = x by omega]; rfl

theorem dig_mono {m n : Nat} (h : m ≤ n) : (dig m).length ≤ (dig n).length := dig_len (by have := dig_len_pw n; omega)

theorem enc_pos {x : Int} (h : 0 < x) : f149 (1, dig x.natAbs, ()) = f149 (x.sign, dig x.natAbs, ()) := by rw [Int.sign_eq_one_of_pos h]

theorem f149_enc (x : Int) (h : (dig x.natAbs).length ≤ 1000000000) : f149 (x.sign, dig x.natAbs, ()) = some (enc x, ()) := by
  rw [f149_eq _ _ h (dig_Dg _), dig_dv, mkN_enc fun _ => rfl]

theorem dig_small {x : Int} (h0 : 0 ≤ x) (h : x < 1000000000) : (dig x.natAbs).length ≤ 1 := dig_len (by simp only [pw]; omega)

theorem f117_one {x y : Int} (hx : (dig x.natAbs).length ≤ 10000) (h0 : 0 ≤ y) (h : y < 1000000000) : f117 (((enc x).1, (enc x).2.1, ()), ((enc y).1, (enc y).2.1, ()), ()) = some (enc (x * y), ()) :=
  f117_eq x y (by have := dig_small h0 h; omega)

theorem it153 (n c : Nat) (i s0 s1 z : Int) (a buf : List Int) (V Y : Int) (hV : 0 ≤ V) (hY : 0 < Y) (hl : (dig Y.natAbs).length ≤ 10000) (hq : V / Y ≤ 999999999) :
    ∀ (k : Nat) (lo hi : Int) (m : Nat), (hi - lo).toNat ≤ k → 0 ≤ lo → lo ≤ V / Y → V / Y ≤ hi → hi ≤ 999999999 → k < m →
      itr s153_2 m (((n, c), (dig V.toNat, i, lo, hi, ())), ((s0, a, ()), (s1, dig Y.natAbs, ()), (z, ()), buf, ())) =
        some (.inl (((n, c), (dig V.toNat, i, V / Y, ())), ((s0, a, ()), (s1, dig Y.natAbs, ()), (z, ()), buf, ())))
  | k, lo, hi, m, hk, h1, h2, h3, h4, hm => by
    obtain ⟨m, rfl⟩ : ∃ j, m = j + 1 := ⟨m - 1, by omega⟩
    by_cases h : lo < hi
    · obtain ⟨k, rfl⟩ : ∃ j, k = j + 1 := ⟨k - 1, by omega⟩
      have e0 : IntKind.wrap .i64 (Int.tdiv (wrap64 (wrap64 (lo + hi) + 1)) 2) = (lo + hi + 1) / 2 := by
        rw [wrap64_id (n := lo + hi) (by omega) (by omega), wrap64_id (by omega) (by omega), Int.tdiv_eq_ediv_of_nonneg (by omega), wrapJ (by omega) (by omega)]
      have e5 : wrap64 ((lo + hi + 1) / 2 - 1) = (lo + hi + 1) / 2 - 1 := wrap64_id (by omega) (by omega)
      generalize hmid : (lo + hi + 1) / 2 = mid at *
      have b1 : 0 ≤ mid := by omega
      have b2 : mid < 1000000000 := by omega
      have e1 : f149 (1, dig Y.natAbs, ()) = some (enc Y, ()) := by rw [enc_pos hY, f149_enc Y (by omega)]
      have e2 := f113_eq mid (by omega)
      have e3 := f117_one (x := Y) hl b1 b2
      have hnn : 0 ≤ Y * mid := Int.mul_nonneg (by omega) b1
      have hvn : ((V.toNat : Nat) : Int) = V := by omega
      have hlm : (dig (Y * mid).natAbs).length ≤ (dig Y.natAbs).length + 1 := dig_len (by
        have q1 := dig_len_pw Y.natAbs
        have q3 : Y * mid < Y * 1000000000 := Int.mul_lt_mul_of_pos_left b2 hY
        simp only [pw]
        omega)
      have e4 : f155 ((enc (Y * mid)).2.1, dig V.toNat, ()) = some ((Y * mid - V).sign, ()) := by
        have := f155_eq (dig (Y * mid).natAbs) (dig V.toNat) (dig_Dg _) (dig_Dg _) (dig_Can _) (dig_Can _) (by omega)
        rw [dig_dv, dig_dv, hvn, show (((Y * mid).natAbs : Nat) : Int) = Y * mid by omega] at this
        exact this
      have hiff : mid ≤ V / Y ↔ Y * mid ≤ V := by rw [Int.le_ediv_iff_mul_le hY, Int.mul_comm]
      have hstep : s153_2 (((n, c), (dig V.toNat, i, lo, hi, ())), ((s0, a, ()), (s1, dig Y.natAbs, ()), (z, ()), buf, ())) =
          some (.again (((n, c), (dig V.toNat, i, (if mid ≤ V / Y then mid else lo), (if mid ≤ V / Y then hi else mid - 1), ())), ((s0, a, ()), (s1, dig Y.natAbs, ()), (z, ()), buf, ()))) := by
        simp only [s153_2, t153_2, e0, e5, g149, e1, g113, e2, g117, e3, g155, e4, Option.isSome_some, Option.getD_some, Tr.val_test, Tr.val_fin, leF_eq, if_true]
        rw [if_pos (by simp; omega)]
        rcases sgn_cases (Y * mid - V) with ⟨w, es⟩ | ⟨w, es⟩ | ⟨w, es⟩
        · have := hiff.2 (by omega)
          rw [if_pos (by rw [es]; simp), if_pos this, if_pos this]
        · have := hiff.2 (by omega)
          rw [if_pos (by rw [es]; simp), if_pos this, if_pos this]
        · have : ¬ mid ≤ V / Y := fun t => by have := hiff.1 t; omega
          rw [if_neg (by rw [es]; simp), if_neg this, if_neg this]
      rw [itr, hstep]
      dsimp only
      by_cases hc : mid ≤ V / Y
      · rw [if_pos hc, if_pos hc]
        exact it153 n c i s0 s1 z a buf V Y hV hY hl hq k mid hi m (by omega) b1 hc h3 h4 (by omega)
      · rw [if_neg hc, if_neg hc]
        exact it153 n c i s0 s1 z a buf V Y hV hY hl hq k lo (mid - 1) m (by omega) h1 h2 (by omega) (by omega) (by omega)
    · have : lo = V / Y := by omega
      rw [itr]
      simp only [s153_2, t153_2, Tr.val_test, Tr.val_fin, leF_eq]
      rw [if_neg (by simp; omega), this]

theorem set_zeros (q : Int) (d : List Int) : ∀ j, (List.replicate (j + 1) 0 ++ d).set j q = List.replicate j 0 ++ q :: d
  | 0 => by simp
  | j + 1 => by
    rw [List.replicate_succ, List.cons_append, List.set_cons_succ, set_zeros q d j, List.replicate_succ, List.cons_append]

/-- The value of the upper digits. -/
def upA (a : List Int) : Nat → Int
  | 0 => 0
  | k + 1 => a.getD (a.length - 1 - k) 0 + 1000000000 * upA a k

theorem upA_drop (a : List Int) : ∀ k, k ≤ a.length → upA a k = dval (a.drop (a.length - k))
  | 0, _ => by simp [upA, dval]
  | k + 1, h => by
    have e : a.length - (k + 1) + 1 = a.length - k := by omega
    rw [upA, upA_drop a k (by omega), List.drop_eq_getElem_cons (show a.length - (k + 1) < a.length by omega), dval, e]
    congr 1
    have : a.length - 1 - k = a.length - (k + 1) := by omega
    rw [this]
    simp [List.getD, show a.length - (k + 1) < a.length by omega]

/-- The digits of the quotient. -/
def dQ (a : List Int) (Y : Int) : Nat → List Int
  | 0 => []
  | k + 1 => ((a.getD (a.length - 1 - k) 0 + 1000000000 * (upA a k % Y)) / Y) :: dQ a Y k

theorem dQ_len (a : List Int) (Y : Int) : ∀ k, (dQ a Y k).length = k
  | 0 => rfl
  | k + 1 => by simp [dQ, dQ_len a Y k]

theorem dQ_bound {a : List Int} (ha : Dg a) {Y : Int} (hY : 0 < Y) (k : Nat) : 0 ≤ (a.getD (a.length - 1 - k) 0 + 1000000000 * (upA a k % Y)) / Y ∧ (a.getD (a.length - 1 - k) 0 + 1000000000 * (upA a k % Y)) / Y < 1000000000 := by
  have h1 := ha.getD (a.length - 1 - k)
  have h2 := Int.emod_nonneg (upA a k) (show Y ≠ 0 by omega)
  have h3 := Int.emod_lt_of_pos (upA a k) hY
  refine ⟨Int.ediv_nonneg (by omega) (by omega), Int.ediv_lt_of_lt_mul hY (by omega)⟩

theorem dQ_Dg {a : List Int} (ha : Dg a) {Y : Int} (hY : 0 < Y) : ∀ k, Dg (dQ a Y k)
  | 0 => Dg.nil
  | k + 1 => fun d hd => by
    rcases List.mem_cons.1 hd with rfl | hd
    · exact dQ_bound ha hY k
    · exact dQ_Dg ha hY k d hd

theorem upA_split (a : List Int) {Y : Int} (k : Nat) : upA a (k + 1) = a.getD (a.length - 1 - k) 0 + 1000000000 * (upA a k % Y) + Y * (1000000000 * (upA a k / Y)) := by
  have := Int.emod_add_mul_ediv (upA a k) Y
  rw [upA]
  have e : Y * (1000000000 * (upA a k / Y)) = 1000000000 * (Y * (upA a k / Y)) := by rw [Int.mul_left_comm]
  omega

theorem dQ_dv (a : List Int) {Y : Int} (hY : 0 < Y) : ∀ k, dval (dQ a Y k) = upA a k / Y
  | 0 => by simp [dQ, dval, upA]
  | k + 1 => by
    rw [dQ, dval, dQ_dv a hY k, upA_split a (Y := Y) k, Int.add_mul_ediv_left _ _ (by omega)]

theorem upA_mod (a : List Int) {Y : Int} (k : Nat) : upA a (k + 1) % Y = (a.getD (a.length - 1 - k) 0 + 1000000000 * (upA a k % Y)) % Y := by
  rw [upA_split a (Y := Y) k, Int.add_mul_emod_self_left]

theorem dig_up (V Y : Int) (hV : 0 ≤ V) (hY : 0 < Y) : f156 (dig V.toNat, (enc (Y * (V / Y))).2.1, ()) = f156 (dig V.toNat, dig (Y * (V / Y)).toNat, ()) := by
  have h : 0 ≤ Y * (V / Y) := Int.mul_nonneg (by omega) (Int.ediv_nonneg hV (by omega))
  rw [show (Y * (V / Y)).toNat = (Y * (V / Y)).natAbs by omega]; rfl

theorem f156_rem (V Y : Int) (hV : 0 ≤ V) (hY : 0 < Y) (h : (dig V.toNat).length ≤ 1000000) : f156 (dig V.toNat, (enc (Y * (V / Y))).2.1, ()) = some (dig (V % Y).toNat, ()) := by
  have h0 : 0 ≤ Y * (V / Y) := Int.mul_nonneg (by omega) (Int.ediv_nonneg hV (by omega))
  have h1 := Int.emod_add_mul_ediv V Y
  have h2 := Int.emod_nonneg V (show Y ≠ 0 by omega)
  have e1 : ((V.toNat : Nat) : Int) = V := by omega
  have e2 : (((Y * (V / Y)).toNat : Nat) : Int) = Y * (V / Y) := by omega
  rw [dig_up V Y hV hY, f156_eq _ _ (dig_Dg _) (dig_Dg _) h (dig_mono (by omega)) (by rw [dig_dv, dig_dv]; omega), dig_dv, dig_dv, e1, e2, show V - Y * (V / Y) = V % Y by omega]

theorem l153 (s0 s1 z : Int) (a : List Int) (Y : Int) (ha : Dg a) (hY : 0 < Y) (hl : (dig Y.natAbs).length ≤ 10000) (h : a.length ≤ 10000) :
    l153_0 (((a.length, a.length), ([], (a.length : Int) - 1, ())), ((s0, a, ()), (s1, dig Y.natAbs, ()), (z, ()), List.replicate a.length 0, ())) =
      some (.inl (((a.length, a.length), (dig (upA a a.length % Y).toNat, ())), ((s0, a, ()), (s1, dig Y.natAbs, ()), (z, ()), dQ a Y a.length, ()))) := by
  have key := itr_brk (step := s153_0) (m := rounds) (n := a.length) (b := (((a.length, a.length), (dig (upA a a.length % Y).toNat, ())), ((s0, a, ()), (s1, dig Y.natAbs, ()), (z, ()), dQ a Y a.length, ())))
    (fun k => (((a.length, a.length), (dig (upA a k % Y).toNat, (a.length : Int) - 1 - (k : Int), ())), ((s0, a, ()), (s1, dig Y.natAbs, ()), (z, ()), List.replicate (a.length - k) 0 ++ dQ a Y k, ()))) ?_ ?_ (lt_rounds (by omega))
  · have h0 : dig (upA a 0 % Y).toNat = [] := by simp [upA, dig_zero]
    have h1 : List.replicate (a.length - 0) (0 : Int) ++ dQ a Y 0 = List.replicate a.length 0 := by simp [dQ]
    have h2 : (a.length : Int) - 1 - ((0 : Nat) : Int) = (a.length : Int) - 1 := by omega
    simp only [h0, h1, h2] at key
    exact key
  · intro k hk
    have hidx : (a.length : Int) - 1 - (k : Int) = ((a.length - 1 - k : Nat) : Int) := by omega
    have hnext : wrap64 (((a.length - 1 - k : Nat) : Int) - 1) = (a.length : Int) - 1 - ((k + 1 : Nat) : Int) := by rw [wrap64_id (by omega) (by omega)]; omega
    have hrep : List.replicate (a.length - k) (0 : Int) = List.replicate ((a.length - 1 - k) + 1) 0 := by congr 1; omega
    have hset : (List.replicate (a.length - k) 0 ++ dQ a Y k).set (a.length - 1 - k) ((a.getD (a.length - 1 - k) 0 + 1000000000 * (upA a k % Y)) / Y) = List.replicate (a.length - (k + 1)) 0 ++ dQ a Y (k + 1) := by
      rw [hrep, set_zeros, dQ, show a.length - (k + 1) = a.length - 1 - k by omega]
    have hblen : (List.replicate (a.length - k) (0 : Int) ++ dQ a Y k).length = a.length := by rw [List.length_append, List.length_replicate, dQ_len]; omega
    have hb := dQ_bound ha hY k
    have hd := ha.getD (a.length - 1 - k)
    have hr0 := Int.emod_nonneg (upA a k) (show Y ≠ 0 by omega)
    have hr1 := Int.emod_lt_of_pos (upA a k) hY
    have hmod := upA_mod a (Y := Y) k
    generalize hR : upA a k % Y = R at *
    generalize hV : a.getD (a.length - 1 - k) 0 + 1000000000 * R = V at *
    have hV0 : 0 ≤ V := by omega
    have hRl : (dig R.toNat).length ≤ 10000 := Nat.le_trans (dig_mono (by omega)) hl
    have hVl : (dig V.toNat).length ≤ 10001 := by
      refine Nat.le_trans (m := (dig Y.natAbs).length + 1) (dig_len ?_) (by omega)
      have q1 := dig_len_pw Y.natAbs
      simp only [pw]; omega
    have hdg : Dg ([a.getD (a.length - 1 - k) 0] ++ dig R.toNat) := Dg.append (fun x hx => by rw [List.mem_singleton] at hx; subst hx; exact hd) (dig_Dg _)
    have hf : f173 ([a.getD (a.length - 1 - k) 0] ++ dig R.toNat, ()) = some (dig V.toNat, ()) := by
      rw [f173_eq _ (by simp; omega) hdg]
      congr 3
      have : dval ([a.getD (a.length - 1 - k) 0] ++ dig R.toNat) = V := by
        show a.getD (a.length - 1 - k) 0 + 1000000000 * dval (dig R.toNat) = V
        rw [dig_dv]; omega
      rw [this]
    have hin : l153_2 (((a.length, a.length), (dig V.toNat, ((a.length - 1 - k : Nat) : Int), (0 : Int), (999999999 : Int), ())), ((s0, a, ()), (s1, dig Y.natAbs, ()), (z, ()), List.replicate (a.length - k) 0 ++ dQ a Y k, ())) =
        some (.inl (((a.length, a.length), (dig V.toNat, ((a.length - 1 - k : Nat) : Int), V / Y, ())), ((s0, a, ()), (s1, dig Y.natAbs, ()), (z, ()), List.replicate (a.length - k) 0 ++ dQ a Y k, ()))) :=
      it153 _ _ _ s0 s1 z a _ V Y hV0 hY hl (by omega) 999999999 0 999999999 rounds (by omega) (by omega) hb.1 (by omega) (by omega) (lt_rounds (by omega))
    have e1 : f149 (1, dig Y.natAbs, ()) = some (enc Y, ()) := by rw [enc_pos hY, f149_enc Y (by omega)]
    have e2 := f113_eq (V / Y) (by omega)
    have e3 := f117_one (x := Y) hl hb.1 hb.2
    have e4 := f156_rem V Y hV0 hY (by omega)
    rw [hidx]
    dsimp only
    simp only [s153_0, t153_0, Tr.val_test, Tr.val_fin, leF_eq, Int.toNat_natCast]
    rw [if_pos (by simp), if_pos (by simp; omega)]
    by_cases hR0 : R = 0
    · have hnil : dig R.toNat = [] := by rw [hR0]; exact dig_zero
      rw [hnil, List.append_nil] at hf
      rw [hnil]
      simp only [g173, hf, b153_2, hin, isBrk, outB, g149, e1, g113, e2, g117, e3, g156, e4, Option.isSome_some, Option.getD_some, if_true, Int.toNat_natCast, Nat.zero_add, hset, hnext, hmod, hblen]
      rw [if_pos (by simp), if_pos (by simp; omega), if_pos (by rw [ble_eq_true']; omega)]
    · have hne : (dig R.toNat).length ≠ 0 := fun t => by
        have := dig_nil.1 (List.eq_nil_of_length_eq_zero t); omega
      simp only [g173, hf, b153_2, hin, isBrk, outB, g149, e1, g113, e2, g117, e3, g156, e4, Option.isSome_some, Option.getD_some, if_true, Int.toNat_natCast, Nat.zero_add, hset, hnext, hmod, hblen]
      rw [if_neg (by rw [beq_eq_true']; omega), if_neg (by rw [ble_eq_true']; omega), if_pos (by simp; omega), if_pos (by rw [beq_eq_true']; simp; omega), if_pos (by simp; omega), if_pos (by rw [ble_eq_true']; omega)]
  · have e : (a.length : Int) - 1 - (a.length : Int) = -1 := by omega
    simp only [e, Nat.sub_self, List.replicate_zero, List.nil_append]
    simp [s153_0, t153_0, leF_eq]

theorem ediv_neg_floor {x Y : Int} (hY : 0 < Y) : x / Y = if (-x) % Y = 0 then -((-x) / Y) else -((-x) / Y) - 1 := by
  have h1 := Int.emod_add_mul_ediv (-x) Y
  have h2 := Int.emod_nonneg (-x) (show Y ≠ 0 by omega)
  have h3 := Int.emod_lt_of_pos (-x) hY
  split
  · rename_i h
    refine ((Int.ediv_emod_unique (r := 0) hY).2 ⟨?_, by omega, hY⟩).1
    rw [Int.mul_neg]; omega
  · refine ((Int.ediv_emod_unique (r := Y - (-x) % Y) hY).2 ⟨?_, by omega, by omega⟩).1
    rw [Int.mul_sub, Int.mul_neg]; omega

theorem f153_eq (x Y : Int) (hY : 0 < Y) (hl : (dig Y.natAbs).length ≤ 10000) (h : (dig x.natAbs).length ≤ 10000) : f153 (enc x, enc Y, ()) = some (enc (x / Y), ()) := by
  show f153 ((x.sign, dig x.natAbs, ()), (Y.sign, dig Y.natAbs, ()), ()) = _
  have hL := l153 x.sign Y.sign 0 (dig x.natAbs) Y (dig_Dg _) hY hl h
  have hup : upA (dig x.natAbs) (dig x.natAbs).length = (x.natAbs : Int) := by
    rw [upA_drop _ _ (Nat.le_refl _), Nat.sub_self, List.drop_zero, dig_dv]
  rw [hup] at hL
  have hdq := dQ_dv (dig x.natAbs) hY (dig x.natAbs).length
  rw [hup] at hdq
  have hw : wrap64 (((dig x.natAbs).length : Int) - 1) = ((dig x.natAbs).length : Int) - 1 := wrap64_id (by omega) (by omega)
  have hql := dQ_len (dig x.natAbs) Y (dig x.natAbs).length
  have hf : f149 (x.sign, dQ (dig x.natAbs) Y (dig x.natAbs).length, ()) = some (mkN x.sign ((x.natAbs : Int) / Y), ()) := by
    rw [f149_eq _ _ (by omega) (dQ_Dg (dig_Dg _) hY _), hdq]
  have h0 := Int.ediv_nonneg (show (0 : Int) ≤ (x.natAbs : Int) by omega) (show 0 ≤ Y by omega)
  have hle : (x.natAbs : Int) / Y ≤ x.natAbs := Int.ediv_le_self _ (by omega)
  simp only [f153, t153, Tr.val_test, Tr.val_fin, eqF_eq, leF_eq, hw, Int.toNat_natCast, b153_0, hL, isBrk, outB, if_true, g149, hf, hql, Option.isSome_some, Option.getD_some]
  rcases sgn_cases x with ⟨hx, e⟩ | ⟨hx, e⟩ | ⟨hx, e⟩
  · have ex : (x.natAbs : Int) = -x := by omega
    rw [if_neg (by rw [e]; simp), if_pos (by simp; omega), if_pos (by simp), if_pos (by rw [e]; simp)]
    have hm : mkN x.sign ((x.natAbs : Int) / Y) = enc (-((-x) / Y)) := mkN_eq (by rw [ex] at h0 ⊢; omega) fun hz => by
      rw [ex] at h0; rw [e, Int.sign_eq_neg_one_of_neg (by omega)]
    have hfl := ediv_neg_floor (x := x) hY
    have hr0 := Int.emod_nonneg (-x) (show Y ≠ 0 by omega)
    rw [hm, ex]
    by_cases hr : (-x) % Y = 0
    · rw [if_pos hr] at hfl
      rw [if_neg (by rw [hr]; simp [dig_zero]), hfl]
    · rw [if_neg hr] at hfl
      have hne : (dig ((-x) % Y).toNat).length ≠ 0 := fun t => by
        have := dig_nil.1 (List.eq_nil_of_length_eq_zero t); omega
      have e1 := f113_eq 1 (by decide)
      have hlq : (dig (-((-x) / Y)).natAbs).length ≤ 10000 := Nat.le_trans (dig_mono (by rw [ex] at h0 hle; omega)) h
      have e2 : f157 (((enc (-((-x) / Y))).1, (enc (-((-x) / Y))).2.1, ()), ((enc 1).1, (enc 1).2.1, ()), ()) = some (enc (-((-x) / Y) - 1), ()) := f157_eq _ 1 (by omega) (by have := dig_small (x := 1) (by omega) (by omega); omega)
      rw [if_pos (by simp only [Bool.not_eq_true', decide_eq_false_iff_not]; omega)]
      simp only [g113, e1, g157, e2, Option.isSome_some, Option.getD_some, if_true]
      rw [hfl]
  · subst hx
    rw [if_pos (by simp), Int.zero_ediv]; simp [enc, dig_zero]
  · have ex : (x.natAbs : Int) = x := by omega
    rw [if_neg (by rw [e]; simp), if_pos (by simp; omega), if_pos (by simp), if_neg (by rw [e]; simp)]
    rw [mkN_eq (z := x / Y) (by rw [ex] at h0 ⊢; omega) fun hz => by
      rw [ex] at h0; rw [e, Int.sign_eq_one_of_pos (by omega)]]

theorem pw_two : ∀ n, pw n ≤ (((2 ^ (30 * n) : Nat)) : Int)
  | 0 => by simp [pw]
  | n + 1 => by
    have := pw_two n
    have e : (2 : Nat) ^ (30 * (n + 1)) = 1073741824 * 2 ^ (30 * n) := by rw [Nat.mul_add, Nat.pow_add, Nat.mul_comm]
    rw [e, pw]
    omega

theorem mod_half {b r : Nat} (h0 : 0 < r) (h : r < b) : 2 * (b % r) < b := by
  have h1 := Nat.mod_lt b h0
  have h2 := Nat.div_add_mod b r
  have h3 : 1 ≤ b / r := (Nat.one_le_div_iff h0).2 (Nat.le_of_lt h)
  have h4 : r * 1 ≤ r * (b / r) := Nat.mul_le_mul_left r h3
  omega

theorem s152_step (a b : Nat) (z : Int) (hb : b ≠ 0) (h1 : (dig a).length ≤ 10000) (h2 : (dig b).length ≤ 10000) :
    s152_0 ((), (((a : Int).sign, dig a, ()), ((b : Int).sign, dig b, ()), (z, ()), ())) = some (.again ((), (((b : Int).sign, dig b, ()), (((a % b : Nat) : Int).sign, dig (a % b), ()), (z, ()), ()))) := by
  have e0 : f151 (((b : Int).sign, dig b, ()), ()) = some ((b : Int).sign, ()) := rfl
  have e1 : f153 (((a : Int).sign, dig a, ()), ((b : Int).sign, dig b, ()), ()) = some (enc ((a : Int) / (b : Int)), ()) := f153_eq a b (by omega) h2 h1
  have hd : (dig ((a : Int) / (b : Int)).natAbs).length ≤ 10000 := Nat.le_trans (dig_mono (by
    have : ((a : Int) / (b : Int)).natAbs = a / b := by rw [← Int.natCast_ediv]; rfl
    rw [this]; exact Nat.div_le_self _ _)) h1
  have e2 : f117 (((enc ((a : Int) / (b : Int))).1, (enc ((a : Int) / (b : Int))).2.1, ()), ((b : Int).sign, dig b, ()), ()) = some (enc ((a : Int) / (b : Int) * (b : Int)), ()) := f117_eq _ b (by simp only [Int.natAbs_natCast]; omega)
  have hm := Int.emod_add_mul_ediv (a : Int) b
  have hle : 0 ≤ (a : Int) / (b : Int) * (b : Int) := Int.mul_nonneg (Int.ediv_nonneg (by omega) (by omega)) (by omega)
  have hmn := Int.emod_nonneg (a : Int) (show (b : Int) ≠ 0 by omega)
  have hcm : (a : Int) / (b : Int) * (b : Int) = (b : Int) * ((a : Int) / (b : Int)) := Int.mul_comm _ _
  have e3 : f157 (((a : Int).sign, dig a, ()), ((enc ((a : Int) / (b : Int) * (b : Int))).1, (enc ((a : Int) / (b : Int) * (b : Int))).2.1, ()), ()) = some (enc ((a % b : Nat) : Int), ()) := by
    have h := f157_eq a ((a : Int) / (b : Int) * (b : Int)) (by simp only [Int.natAbs_natCast]; omega) (Nat.le_trans (dig_mono (n := a) (by omega)) (by omega))
    rw [show (a : Int) - (a : Int) / (b : Int) * (b : Int) = ((a % b : Nat) : Int) by rw [Int.natCast_emod]; omega] at h
    exact h
  have hs : (b : Int).sign = 1 := Int.sign_eq_one_of_pos (by omega)
  simp only [s152_0, t152_0, g151, e0, g153, e1, g117, e2, g157, e3, Option.isSome_some, Option.getD_some, Tr.val_test, Tr.val_fin, eqF_eq, if_true]
  rw [if_pos (by rw [hs]; simp)]
  rfl

theorem s152_end (a : Nat) (z : Int) : s152_0 ((), (((a : Int).sign, dig a, ()), (((0 : Nat) : Int).sign, dig 0, ()), (z, ()), ())) = some (.brk ((), (((a : Int).sign, dig a, ()), (((0 : Nat) : Int).sign, dig 0, ()), (z, ()), ()))) := by
  have e0 : f151 ((((0 : Nat) : Int).sign, dig 0, ()), ()) = some (((0 : Nat) : Int).sign, ()) := rfl
  simp only [s152_0, t152_0, g151, e0, Option.isSome_some, Option.getD_some, Tr.val_test, Tr.val_fin, eqF_eq, if_true]
  rw [if_neg (by simp)]

theorem it152 (z : Int) : ∀ (k a b m : Nat), b < 2 ^ k → (dig a).length ≤ 10000 → (dig b).length ≤ 10000 → 2 * k < m →
    itr s152_0 m ((), (((a : Int).sign, dig a, ()), ((b : Int).sign, dig b, ()), (z, ()), ())) =
      some (.inl ((), (((Nat.gcd a b : Nat) : Int).sign, dig (Nat.gcd a b), ()), (((0 : Nat) : Int).sign, dig 0, ()), (z, ()), ()))
  | k, a, b, m, h, h1, h2, hm => by
    obtain ⟨m, rfl⟩ : ∃ j, m = j + 1 := ⟨m - 1, by omega⟩
    by_cases hb : b = 0
    · subst hb
      rw [itr, s152_end, Nat.gcd_zero_right]
    · rw [itr, s152_step a b z hb h1 h2]
      dsimp only
      have hr := Nat.mod_lt a (Nat.pos_of_ne_zero hb)
      have hrl : (dig (a % b)).length ≤ 10000 := Nat.le_trans (dig_mono (Nat.le_of_lt hr)) h2
      have hg : Nat.gcd a b = Nat.gcd b (a % b) := by rw [Nat.gcd_comm, Nat.gcd_rec, Nat.gcd_comm]
      obtain ⟨m, rfl⟩ : ∃ j, m = j + 1 := ⟨m - 1, by
        cases k with
        | zero => simp at h; omega
        | succ k => omega⟩
      by_cases hr0 : a % b = 0
      · rw [hg, hr0, itr, s152_end, Nat.gcd_zero_right]
      · rw [itr, s152_step b (a % b) z hr0 h2 hrl]
        dsimp only
        have hh := mod_half (Nat.pos_of_ne_zero hr0) hr
        have hg2 : Nat.gcd b (a % b) = Nat.gcd (a % b) (b % (a % b)) := by rw [Nat.gcd_comm, Nat.gcd_rec, Nat.gcd_comm]
        cases k with
        | zero => simp at h; omega
        | succ k =>
          rw [hg, hg2]
          have h3 := Nat.mod_lt b (Nat.pos_of_ne_zero hr0)
          exact it152 z k (a % b) (b % (a % b)) m (by rw [Nat.pow_succ] at h; omega) hrl (Nat.le_trans (dig_mono (by omega)) hrl) (by omega)

theorem f152_eq (x y : Int) (h1 : (dig x.natAbs).length ≤ 10000) (h2 : (dig y.natAbs).length ≤ 10000) : f152 (enc x, enc y, ()) = some (enc (Nat.gcd x.natAbs y.natAbs : Nat), ()) := by
  have e0 : f174 ((x.sign, dig x.natAbs, ()), ()) = some (enc x.natAbs, ()) := f174_eq x
  have e1 : f174 ((y.sign, dig y.natAbs, ()), ()) = some (enc y.natAbs, ()) := f174_eq y
  have hlt : y.natAbs < 2 ^ (30 * (dig y.natAbs).length) := by
    have q1 := dig_len_pw y.natAbs
    have q2 := pw_two (dig y.natAbs).length
    omega
  have hl : l152_0 ((), (((enc x.natAbs).1, (enc x.natAbs).2.1, ()), ((enc y.natAbs).1, (enc y.natAbs).2.1, ()), ((0 : Int), ()), ())) =
      some (.inl ((), (((Nat.gcd x.natAbs y.natAbs : Nat) : Int).sign, dig (Nat.gcd x.natAbs y.natAbs), ()), (((0 : Nat) : Int).sign, dig 0, ()), ((0 : Int), ()), ())) :=
    it152 0 _ x.natAbs y.natAbs rounds hlt h1 h2 (lt_rounds (by omega))
  show f152 ((x.sign, dig x.natAbs, ()), (y.sign, dig y.natAbs, ()), ()) = _
  simp only [f152, t152, g174, e0, e1, b152_0, hl, Option.isSome_some, Option.getD_some, Tr.val_test, Tr.val_fin, isBrk, outB, if_true]
  rfl

def encR (r : Rat) : (Int × List Int × PUnit) × (Int × List Int × PUnit) × PUnit := (enc r.num, enc (r.den : Int), ())

def rsz (r : Rat) (n : Nat) : Prop := (dig r.num.natAbs).length ≤ n ∧ (dig r.den).length ≤ n

theorem len_mul (m n : Nat) : (dig (m * n)).length ≤ (dig m).length + (dig n).length := dig_len (by
  have h1 := dig_len_pw m; have h2 := dig_len_pw n
  rw [pw_add, Int.natCast_mul]
  rcases Nat.eq_zero_or_pos n with h | h
  · subst h
    have := pw_pos (dig m).length; have := pw_pos (dig 0).length
    have := Int.mul_pos (pw_pos (dig m).length) (pw_pos (dig 0).length)
    simpa using this
  · exact Int.lt_of_lt_of_le (Int.mul_lt_mul_of_pos_right h1 (by omega)) (Int.mul_le_mul_of_nonneg_left (Int.le_of_lt h2) (Int.le_of_lt (pw_pos _))))

theorem len_add (x y : Int) {k : Nat} (h1 : (dig x.natAbs).length ≤ k) (h2 : (dig y.natAbs).length ≤ k) : (dig (x + y).natAbs).length ≤ k + 1 := dig_len (by
  have q1 := dig_len_pw x.natAbs; have q2 := dig_len_pw y.natAbs
  have q3 : pw (dig x.natAbs).length ≤ pw k := pw_le h1
  have q4 : pw (dig y.natAbs).length ≤ pw k := pw_le h2
  simp only [pw]; omega)

theorem len_imul (x y : Int) : (dig (x * y).natAbs).length ≤ (dig x.natAbs).length + (dig y.natAbs).length := by rw [Int.natAbs_mul]; exact len_mul _ _

theorem f115_eq (x : Int) (y : Nat) (hy : y ≠ 0) (h1 : (dig x.natAbs).length ≤ 10000) (h2 : (dig y).length ≤ 10000) : f115 (enc x, enc (y : Int), ()) = some (encR (Rat.normalize x y hy), ()) := by
  have hs : (y : Int).sign = 1 := Int.sign_eq_one_of_pos (by omega)
  have e0 : f151 (((y : Int).sign, dig (y : Int).natAbs, ()), ()) = some ((y : Int).sign, ()) := rfl
  have e1 : f152 ((x.sign, dig x.natAbs, ()), ((y : Int).sign, dig (y : Int).natAbs, ()), ()) = some (enc (Nat.gcd x.natAbs y : Nat), ()) := f152_eq x y h1 h2
  have e2 := f113_eq 1 (by decide)
  have hg : 0 < Nat.gcd x.natAbs y := Nat.gcd_pos_of_pos_right _ (by omega)
  have hgl : (dig (Nat.gcd x.natAbs y)).length ≤ 10000 := Nat.le_trans (dig_mono (Nat.gcd_le_right _ (by omega))) h2
  have hnum : (Rat.normalize x y hy).num = x / ((Nat.gcd x.natAbs y : Nat) : Int) := by rw [Rat.normalize_eq]
  have hden : (Rat.normalize x y hy).den = y / Nat.gcd x.natAbs y := by rw [Rat.normalize_eq]
  generalize hgg : Nat.gcd x.natAbs y = g at *
  have e3 : f118 (((enc (g : Nat)).1, (enc (g : Nat)).2.1, ()), ((enc 1).1, (enc 1).2.1, ()), ()) = some (((g : Int) - 1).sign, ()) := f118_eq (g : Int) 1 (by simp only [Int.natAbs_natCast]; omega) (by have := dig_small (x := 1) (by omega) (by omega); omega)
  have e4 : f153 ((x.sign, dig x.natAbs, ()), ((enc (g : Nat)).1, (enc (g : Nat)).2.1, ()), ()) = some (enc (x / (g : Int)), ()) := f153_eq x g (by omega) hgl h1
  have e5 : f153 (((y : Int).sign, dig (y : Int).natAbs, ()), ((enc (g : Nat)).1, (enc (g : Nat)).2.1, ()), ()) = some (enc ((y : Int) / (g : Int)), ()) := f153_eq y g (by omega) hgl h2
  show f115 ((x.sign, dig x.natAbs, ()), ((y : Int).sign, dig (y : Int).natAbs, ()), ()) = _
  simp only [f115, t115, g151, e0, g152, e1, g113, e2, g118, e3, Option.isSome_some, Option.getD_some, Tr.val_test, Tr.val_fin, leF_eq, eqF_eq, if_true]
  rw [if_neg (by rw [hs]; simp)]
  by_cases h : g = 1
  · subst h
    rw [if_pos (by simp), encR, hnum, hden]
    simp [enc]
  · rw [if_neg (by rw [Int.sign_eq_one_of_pos (by omega)]; simp)]
    simp only [g153, e4, e5, Option.isSome_some, Option.getD_some, if_true]
    rw [encR, hnum, hden, Int.natCast_ediv]

theorem f48_eq (x : Int) (h : x.natAbs ≤ 9223372036854775807) : f48 (x, ()) = some (encR (x : Rat), ()) := by
  have e1 := f113_eq x h
  have e2 := f113_eq 1 (by decide)
  simp only [f48, t48, g113, e1, e2, Option.isSome_some, Option.getD_some, Tr.val_test, Tr.val_fin, if_true]
  rfl

theorem f50_eq (x : Int) (y : Nat) (hy : y ≠ 0) (h : x.natAbs ≤ 9223372036854775807) (h2 : y ≤ 9223372036854775807) : f50 (x, (y : Int), ()) = some (encR (Rat.normalize x y hy), ()) := by
  have e1 := f113_eq x h
  have e2 := f113_eq (y : Int) (by omega)
  have e3 : f115 (((enc x).1, (enc x).2.1, ()), ((enc (y : Int)).1, (enc (y : Int)).2.1, ()), ()) = some (encR (Rat.normalize x y hy), ()) := f115_eq x y hy
    (Nat.le_trans (dig_len (k := 3) (by simp only [pw]; omega)) (by omega)) (Nat.le_trans (dig_len (k := 3) (by simp only [pw]; omega)) (by omega))
  simp only [f50, t50, g113, e1, e2, g115, e3, Option.isSome_some, Option.getD_some, Tr.val_test, Tr.val_fin, if_true]

theorem f51_eq (r s : Rat) (hr : rsz r 2000) (hs : rsz s 2000) : f51 (encR r, encR s, ()) = some (encR (r + s), ()) := by
  obtain ⟨r1, r2⟩ := hr
  obtain ⟨s1, s2⟩ := hs
  have m1 := len_imul r.num (s.den : Int)
  have m2 := len_imul s.num (r.den : Int)
  have m3 := len_mul r.den s.den
  simp only [Int.natAbs_natCast] at m1 m2
  have m4 := len_add (r.num * (s.den : Int)) (s.num * (r.den : Int)) (k := 4000) (by omega) (by omega)
  have e1 : f117 ((r.num.sign, dig r.num.natAbs, ()), ((s.den : Int).sign, dig s.den, ()), ()) = some (enc (r.num * (s.den : Int)), ()) := f117_eq _ _ (by simp only [Int.natAbs_natCast]; omega)
  have e2 : f117 ((s.num.sign, dig s.num.natAbs, ()), ((r.den : Int).sign, dig r.den, ()), ()) = some (enc (s.num * (r.den : Int)), ()) := f117_eq _ _ (by simp only [Int.natAbs_natCast]; omega)
  have e3 : f116 (((enc (r.num * (s.den : Int))).1, (enc (r.num * (s.den : Int))).2.1, ()), ((enc (s.num * (r.den : Int))).1, (enc (s.num * (r.den : Int))).2.1, ()), ()) = some (enc (r.num * (s.den : Int) + s.num * (r.den : Int)), ()) := f116_eq _ _ (by omega) (by omega)
  have e4 : f117 (((r.den : Int).sign, dig r.den, ()), ((s.den : Int).sign, dig s.den, ()), ()) = some (enc ((r.den * s.den : Nat) : Int), ()) := by
    rw [Int.natCast_mul]; exact f117_eq (r.den : Int) (s.den : Int) (by simp only [Int.natAbs_natCast]; omega)
  have e5 : f115 (((enc (r.num * (s.den : Int) + s.num * (r.den : Int))).1, (enc (r.num * (s.den : Int) + s.num * (r.den : Int))).2.1, ()), ((enc ((r.den * s.den : Nat) : Int)).1, (enc ((r.den * s.den : Nat) : Int)).2.1, ()), ()) = some (encR (r + s), ()) := by
    rw [Rat.add_def]; exact f115_eq _ _ _ (by omega) (by omega)
  show f51 (((r.num.sign, dig r.num.natAbs, ()), ((r.den : Int).sign, dig r.den, ()), ()), ((s.num.sign, dig s.num.natAbs, ()), ((s.den : Int).sign, dig s.den, ()), ()), ()) = _
  simp only [f51, t51, g117, e1, e2, g116, e3, e4, g115, e5, Option.isSome_some, Option.getD_some, Tr.val_test, Tr.val_fin, if_true]

theorem f52_eq (r s : Rat) (hr : rsz r 2000) (hs : rsz s 2000) : f52 (encR r, encR s, ()) = some (encR (r * s), ()) := by
  obtain ⟨r1, r2⟩ := hr
  obtain ⟨s1, s2⟩ := hs
  have m1 := len_imul r.num s.num
  have m3 := len_mul r.den s.den
  have e1 : f117 ((r.num.sign, dig r.num.natAbs, ()), (s.num.sign, dig s.num.natAbs, ()), ()) = some (enc (r.num * s.num), ()) := f117_eq _ _ (by omega)
  have e4 : f117 (((r.den : Int).sign, dig r.den, ()), ((s.den : Int).sign, dig s.den, ()), ()) = some (enc ((r.den * s.den : Nat) : Int), ()) := by
    rw [Int.natCast_mul]; exact f117_eq (r.den : Int) (s.den : Int) (by simp only [Int.natAbs_natCast]; omega)
  have e5 : f115 (((enc (r.num * s.num)).1, (enc (r.num * s.num)).2.1, ()), ((enc ((r.den * s.den : Nat) : Int)).1, (enc ((r.den * s.den : Nat) : Int)).2.1, ()), ()) = some (encR (r * s), ()) := by
    rw [Rat.mul_def]; exact f115_eq _ _ _ (by omega) (by omega)
  show f52 (((r.num.sign, dig r.num.natAbs, ()), ((r.den : Int).sign, dig r.den, ()), ()), ((s.num.sign, dig s.num.natAbs, ()), ((s.den : Int).sign, dig s.den, ()), ()), ()) = _
  simp only [f52, t52, g117, e1, e4, g115, e5, Option.isSome_some, Option.getD_some, Tr.val_test, Tr.val_fin, if_true]

theorem f49_eq (r s : Rat) (hr : rsz r 2000) (hs : rsz s 2000) : f49 (encR r, encR s, ()) = some (encR (r - s), ()) := by
  have e0 : f150 ((s.num.sign, dig s.num.natAbs, ()), ()) = some (enc (-s.num), ()) := f150_eq s.num
  have e1 : f114 (((s.num.sign, dig s.num.natAbs, ()), ((s.den : Int).sign, dig s.den, ()), ()), ()) = some (encR (-s), ()) := by
    simp only [f114, t114, g150, e0, Option.isSome_some, Option.getD_some, Tr.val_test, Tr.val_fin, if_true]
    rfl
  have hs' : rsz (-s) 2000 := ⟨by rw [Rat.neg_num, Int.natAbs_neg]; exact hs.1, by rw [Rat.neg_den]; exact hs.2⟩
  have e2 : f51 (((r.num.sign, dig r.num.natAbs, ()), ((r.den : Int).sign, dig r.den, ()), ()), (((encR (-s)).1.1, (encR (-s)).1.2.1, ()), ((encR (-s)).2.1.1, (encR (-s)).2.1.2.1, ()), ()), ()) = some (encR (r + -s), ()) := f51_eq r (-s) hr hs'
  show f49 (((r.num.sign, dig r.num.natAbs, ()), ((r.den : Int).sign, dig r.den, ()), ()), ((s.num.sign, dig s.num.natAbs, ()), ((s.den : Int).sign, dig s.den, ()), ()), ()) = _
  simp only [f49, t49, g114, e1, g51, e2, Option.isSome_some, Option.getD_some, Tr.val_test, Tr.val_fin, if_true, Rat.sub_eq_add_neg]

theorem f55_eq (r s : Rat) (hr : rsz r 2000) (hs : rsz s 2000) : f55 (encR r, encR s, ()) = some ((r.num * (s.den : Int) - s.num * (r.den : Int)).sign, ()) := by
  obtain ⟨r1, r2⟩ := hr
  obtain ⟨s1, s2⟩ := hs
  have m1 := len_imul r.num (s.den : Int)
  have m2 := len_imul s.num (r.den : Int)
  simp only [Int.natAbs_natCast] at m1 m2
  have e1 : f117 ((r.num.sign, dig r.num.natAbs, ()), ((s.den : Int).sign, dig s.den, ()), ()) = some (enc (r.num * (s.den : Int)), ()) := f117_eq _ _ (by simp only [Int.natAbs_natCast]; omega)
  have e2 : f117 ((s.num.sign, dig s.num.natAbs, ()), ((r.den : Int).sign, dig r.den, ()), ()) = some (enc (s.num * (r.den : Int)), ()) := f117_eq _ _ (by simp only [Int.natAbs_natCast]; omega)
  have e3 : f118 (((enc (r.num * (s.den : Int))).1, (enc (r.num * (s.den : Int))).2.1, ()), ((enc (s.num * (r.den : Int))).1, (enc (s.num * (r.den : Int))).2.1, ()), ()) = some ((r.num * (s.den : Int) - s.num * (r.den : Int)).sign, ()) := f118_eq _ _ (by omega) (by omega)
  show f55 (((r.num.sign, dig r.num.natAbs, ()), ((r.den : Int).sign, dig r.den, ()), ()), ((s.num.sign, dig s.num.natAbs, ()), ((s.den : Int).sign, dig s.den, ()), ()), ()) = _
  simp only [f55, t55, g117, e1, e2, g118, e3, Option.isSome_some, Option.getD_some, Tr.val_test, Tr.val_fin, if_true]

/-- The greatest divisor of the first numbers. -/
def gn (l : List Int) : Nat → Nat
  | 0 => 0
  | i + 1 => Nat.gcd (gn l i) (l.getD i 0).natAbs

theorem dv_gn (l : List Int) : ∀ i, (dv l i).natAbs = gn l i
  | 0 => by simp [dv, gn]
  | i + 1 => by rw [dv, gn, euc_abs, dv_gn l i]

theorem gn_le {l : List Int} {B : Nat} (h : ∀ i, i < l.length → (l.getD i 0).natAbs ≤ B) : ∀ i, i ≤ l.length → gn l i ≤ B
  | 0, _ => by simp [gn]
  | i + 1, hi => by
    rw [gn]
    have h1 := gn_le h i (by omega)
    have h2 := h i (by omega)
    by_cases e : gn l i = 0
    · rw [e, Nat.gcd_zero_left]; exact h2
    · exact Nat.le_trans (Nat.gcd_le_left _ (by omega)) h1

theorem gn_dvd (l : List Int) : ∀ n i, i < n → (gn l n : Int) ∣ l.getD i 0
  | 0, i, h => by omega
  | n + 1, i, h => by
    rw [gn]
    by_cases e : i = n
    · subst e
      exact Int.ofNat_dvd_left.2 (Nat.gcd_dvd_right _ _)
    · exact Int.ofNat_dvd_left.2 (Nat.dvd_trans (Nat.gcd_dvd_left _ _) (Int.ofNat_dvd_left.1 (gn_dvd l n i (by omega))))

theorem f144_gn (l : List Int) (h : l.length ≤ 1000000000) (hb : ∀ i, i < l.length → (l.getD i 0).natAbs ≤ 9223372036854775807) : f144 (l, ()) = some ((gn l l.length : Int), ()) := by
  have h1 := gn_le hb l.length (Nat.le_refl _)
  have h2 := dv_gn l l.length
  rw [f144_eq l h fun i hi => by have := hb i hi; omega, wrapJ (by omega) (by omega), mx_max]
  congr 2
  omega

theorem f144_pair (a : Int) (g : Nat) (ha : a.natAbs ≤ 9223372036854775807) (hg : g ≤ 9223372036854775807) : f144 ([a, (g : Int)], ()) = some ((Nat.gcd a.natAbs g : Int), ()) := f144_2 a g ha (by omega)

/-- In lowest terms. -/
def lwG (d : Int) (l : List Int) : Nat := Nat.gcd d.natAbs (gn l l.length)

def lwL (d : Int) (l : List Int) (n : Nat) : List Int := (List.range n).map fun i => (l.getD i 0).tdiv (lwG d l)

theorem lwL_len (d : Int) (l : List Int) (n : Nat) : (lwL d l n).length = n := by simp [lwL]
theorem lwL_succ (d : Int) (l : List Int) (n : Nat) : lwL d l (n + 1) = lwL d l n ++ [(l.getD n 0).tdiv (lwG d l)] := by simp [lwL, List.range_succ]
theorem lwL_get (d : Int) (l : List Int) {n i : Nat} (h : i < n) : (lwL d l n).getD i 0 = (l.getD i 0).tdiv (lwG d l) := by simp [lwL, List.getD, h]

theorem lwG_pos {d : Int} (l : List Int) (h : 0 < d) : 0 < lwG d l := Nat.gcd_pos_of_pos_left _ (by omega)

theorem f103_eq (d : Int) (l : List Int) (h0 : 0 < d) (hd : d ≤ 9223372036854775807) (h : l.length ≤ 1000000) (hb : ∀ i, i < l.length → (l.getD i 0).natAbs ≤ 9223372036854775807) :
    f103 (d, l, ()) = some ((d.tdiv (lwG d l), lwL d l l.length, ()), ()) := by
  have hg := lwG_pos l h0
  have hgn := gn_le hb l.length (Nat.le_refl _)
  have hp : f144 ([d, (gn l l.length : Int)], ()) = some ((lwG d l : Int), ()) := f144_pair d _ (by omega) hgn
  have hw : IntKind.wrap .i64 (d.tdiv (lwG d l)) = d.tdiv (lwG d l) := by
    have := tdiv_abs_le d (lwG d l)
    exact wrapJ (by omega) (by omega)
  have hl : l103_0 (((lwG d l : Int), l, (l.length : Int), (0 : Int), ()), ((0 : Int), ()), (d.tdiv (lwG d l), [], ()), ()) = some (.inl ((), ((0 : Int), ()), (d.tdiv (lwG d l), lwL d l l.length, ()), ())) := by
    refine itr_brk (fun i => (((lwG d l : Int), l, (l.length : Int), (i : Int), ()), ((0 : Int), ()), (d.tdiv (lwG d l), lwL d l i, ()), ())) (n := l.length) ?_ ?_ (lt_rounds (by omega))
    · intro i hi
      have e1 : IntKind.wrap .i64 ((l.getD i 0).tdiv (lwG d l)) = (l.getD i 0).tdiv (lwG d l) := by
        have := tdiv_abs_le (l.getD i 0) (lwG d l)
        have := hb i hi
        exact wrapJ (by omega) (by omega)
      have e4 : wrap64 ((i : Int) + 1) = ((i + 1 : Nat) : Int) := wrap64_nat (by omega)
      simp only [s103_0, t103_0, Tr.val_test, Tr.val_fin, leF_eq, Int.toNat_natCast, e1, e4, lwL_succ]
      rw [if_pos (by simp; omega), if_pos (by simp; omega), if_neg (by simp; omega), if_pos (by simp [lwL_len]; omega)]
    · simp [s103_0, t103_0, leF_eq]
  simp only [f103, t103, g144, f144_gn l (by omega) hb, hp, hw, b103_0, hl, isBrk, outB, Option.isSome_some, Option.getD_some, Tr.val_test, Tr.val_fin, if_true]
  rw [if_neg (by simp; omega)]

theorem f102_eq (a v d k : Int) : f102 ((a, v, d, ()), k, ()) = some (wrap64 (v + wrap64 (d * k)), ()) := rfl

theorem f145_eq (d : Int) (l : List Int) (hd : d.natAbs ≤ 9223372036854775807) (h : l.length ≤ 1000000) (hb : ∀ i, i < l.length → (l.getD i 0).natAbs ≤ 9223372036854775807) :
    f145 (d, l, ()) = some (decide (0 < d) && decide (lwG d l = 1), ()) := by
  have hgn := gn_le hb l.length (Nat.le_refl _)
  have hp : f144 ([d, (gn l l.length : Int)], ()) = some ((lwG d l : Int), ()) := f144_pair d _ (by omega) hgn
  simp only [f145, t145, g144, f144_gn l (by omega) hb, hp, Option.isSome_some, Option.getD_some, Tr.val_test, Tr.val_fin, if_true, leF_eq, eqF_eq]
  by_cases h0 : 0 < d
  · rw [if_pos (by simp; omega)]
    congr 2
    simp only [h0, decide_true, Bool.true_and, decide_eq_decide]
    omega
  · rw [if_neg (by simp; omega)]
    simp [h0]

/-- The sums of the first whole numbers and of their squares. -/
def kF : Nat → Int
  | 0 => 0
  | n + 1 => kF n + (n + 1)

def kS : Nat → Int
  | 0 => 0
  | n + 1 => kS n + (n + 1) * (n + 1)

theorem k_table : ∀ n : Nat, n < 25 → (((n : Int) * (n + 1)).tdiv 2 = kF n ∧ ((n : Int) * (n + 1) * (2 * n + 1)).tdiv 6 = kS n ∧ 0 ≤ kF n ∧ kF n ≤ 300 ∧ 0 ≤ kS n ∧ kS n ≤ 4900 ∧ (n : Int) * kS n - kF n * kF n ≤ 27600 ∧ (2 ≤ n → 0 < (n : Int) * kS n - kF n * kF n)) := by decide

def pr0 (l : List Int) : Int := (l.length : Int) * kS l.length - kF l.length * kF l.length
def prP (l : List Int) : Int := kF l.length * accE2 l l.length - kS l.length * accE l l.length
def prQ (l : List Int) : Int := kF l.length * accE l l.length - (l.length : Int) * accE2 l l.length
def prG (l : List Int) : Nat := lwG (pr0 l) [prP l, prQ l]

theorem mul_bdd {x y : Int} {A B : Int} (hx : -A ≤ x ∧ x ≤ A) (hy : -B ≤ y ∧ y ≤ B) (hA : 0 ≤ A) (hB : 0 ≤ B) : -(A * B) ≤ x * y ∧ x * y ≤ A * B := by
  have h : (x * y).natAbs ≤ (A * B).natAbs := by
    rw [Int.natAbs_mul, Int.natAbs_mul]
    exact Nat.mul_le_mul (by omega) (by omega)
  have : 0 ≤ A * B := Int.mul_nonneg hA hB
  omega

theorem pr_bounds {l : List Int} (hb : Bd 1000 l) (h2 : 2 ≤ l.length) (h : l.length ≤ 24) :
    (-24000 ≤ accE l l.length ∧ accE l l.length ≤ 24000) ∧ (-576000 ≤ accE2 l l.length ∧ accE2 l l.length ≤ 576000) ∧ (0 < pr0 l ∧ pr0 l ≤ 27600) ∧ (prP l).natAbs ≤ 290400000 ∧ (prQ l).natAbs ≤ 21024000 := by
  have h1 := accE_bd (by omega) hb l.length (Nat.le_refl _)
  have h3 := accE2_bd hb h l.length (Nat.le_refl _)
  obtain ⟨_, _, f0, f1, s0, s1, d1, d0⟩ := k_table l.length (by omega)
  have a1 : -24000 ≤ accE l l.length ∧ accE l l.length ≤ 24000 := by omega
  have a2 : -576000 ≤ accE2 l l.length ∧ accE2 l l.length ≤ 576000 := by omega
  have m1 := mul_bdd (A := 300) (x := kF l.length) (by omega) a2 (by omega) (by omega)
  have m2 := mul_bdd (A := 4900) (x := kS l.length) (by omega) a1 (by omega) (by omega)
  have m3 := mul_bdd (A := 300) (x := kF l.length) (by omega) a1 (by omega) (by omega)
  have m4 := mul_bdd (A := 24) (x := (l.length : Int)) (by omega) a2 (by omega) (by omega)
  refine ⟨a1, a2, ⟨d0 h2, d1⟩, ?_, ?_⟩
  · unfold prP; omega
  · unfold prQ; omega

theorem f101_eq {l : List Int} (hb : Bd 1000 l) (h2 : 2 ≤ l.length) (h : l.length ≤ 24) : f101 (l, ()) = some (((pr0 l).tdiv (prG l), (prP l).tdiv (prG l), (prQ l).tdiv (prG l), ()), ()) := by
  obtain ⟨a1, a2, ⟨d0, d1⟩, p1, q1⟩ := pr_bounds hb h2 h
  obtain ⟨eF, eS, f0, f1, s0, s1, _, _⟩ := k_table l.length (by omega)
  have hmm : ∀ (i : Nat), i < [prP l, prQ l].length → (([prP l, prQ l] : List Int).getD i 0).natAbs ≤ 9223372036854775807 := fun i hi => by
    match i, hi with
    | 0, _ => exact Nat.le_trans p1 (by decide)
    | 1, _ => exact Nat.le_trans q1 (by decide)
  have n1 : (l.length : Int) * ((l.length : Int) + 1) ≤ 24 * 25 := Int.mul_le_mul (by omega) (by omega) (by omega) (by omega)
  have n0 : 0 ≤ (l.length : Int) * ((l.length : Int) + 1) := Int.mul_nonneg (by omega) (by omega)
  have n2 : (l.length : Int) * ((l.length : Int) + 1) * (2 * (l.length : Int) + 1) ≤ 600 * 49 := Int.mul_le_mul (by omega) (by omega) (by omega) (by omega)
  have n3 : 0 ≤ (l.length : Int) * ((l.length : Int) + 1) * (2 * (l.length : Int) + 1) := Int.mul_nonneg n0 (by omega)
  have w1 : wrap64 ((l.length : Int) + 1) = (l.length : Int) + 1 := wrap64_id (by omega) (by omega)
  have w2 : wrap64 ((l.length : Int) * ((l.length : Int) + 1)) = (l.length : Int) * ((l.length : Int) + 1) := wrap64_id (by omega) (by omega)
  have w3 : wrap64 (wrap64 (2 * (l.length : Int)) + 1) = 2 * (l.length : Int) + 1 := by rw [wrap64_id (n := 2 * (l.length : Int)) (by omega) (by omega), wrap64_id (by omega) (by omega)]
  have w4 : wrap64 ((l.length : Int) * ((l.length : Int) + 1) * (2 * (l.length : Int) + 1)) = (l.length : Int) * ((l.length : Int) + 1) * (2 * (l.length : Int) + 1) := wrap64_id (by omega) (by omega)
  have w5 : IntKind.wrap .i64 (kF l.length) = kF l.length := wrapJ (by omega) (by omega)
  have w6 : IntKind.wrap .i64 (kS l.length) = kS l.length := wrapJ (by omega) (by omega)
  have m0 := mul_bdd (A := 24) (x := (l.length : Int)) (B := 4900) (y := kS l.length) (by omega) (by omega) (by omega) (by omega)
  have mf := mul_bdd (A := 300) (x := kF l.length) (B := 300) (y := kF l.length) (by omega) (by omega) (by omega) (by omega)
  have m1 := mul_bdd (A := 300) (x := kF l.length) (by omega) a2 (by omega) (by omega)
  have m2 := mul_bdd (A := 4900) (x := kS l.length) (by omega) a1 (by omega) (by omega)
  have m3 := mul_bdd (A := 300) (x := kF l.length) (by omega) a1 (by omega) (by omega)
  have m4 := mul_bdd (A := 24) (x := (l.length : Int)) (by omega) a2 (by omega) (by omega)
  have v1 : wrap64 (accE l l.length) = accE l l.length := wrap64_id (by omega) (by omega)
  have v2 : wrap64 (accE2 l l.length) = accE2 l l.length := wrap64_id (by omega) (by omega)
  have x0 : wrap64 (wrap64 ((l.length : Int) * kS l.length) - wrap64 (kF l.length * kF l.length)) = pr0 l := by
    rw [wrap64_id (n := (l.length : Int) * kS l.length) (by omega) (by omega), wrap64_id (n := kF l.length * kF l.length) (by omega) (by omega), wrap64_id (by omega) (by omega), pr0]
  have x1 : wrap64 (wrap64 (kF l.length * accE2 l l.length) - wrap64 (kS l.length * accE l l.length)) = prP l := by
    rw [wrap64_id (n := kF l.length * accE2 l l.length) (by omega) (by omega), wrap64_id (n := kS l.length * accE l l.length) (by omega) (by omega), wrap64_id (by omega) (by omega), prP]
  have x2 : wrap64 (wrap64 (kF l.length * accE l l.length) - wrap64 ((l.length : Int) * accE2 l l.length)) = prQ l := by
    rw [wrap64_id (n := kF l.length * accE l l.length) (by omega) (by omega), wrap64_id (n := (l.length : Int) * accE2 l l.length) (by omega) (by omega), wrap64_id (by omega) (by omega), prQ]
  have e1 := f103_eq (pr0 l) [prP l, prQ l] d0 (by omega) (by simp) hmm
  simp only [f101, t101, g90, f90_eq l (by omega), v1, v2, w1, w2, w3, w4, eF, eS, w5, w6, x0, x1, x2, g103, e1, Option.isSome_some, Option.getD_some, Tr.val_test, Tr.val_fin, if_true]
  rfl

def pD (l : List Int) : Int := (pr0 l).tdiv (prG l)
def pP (l : List Int) : Int := (prP l).tdiv (prG l)
def pQ (l : List Int) : Int := (prQ l).tdiv (prG l)

theorem p_bounds {l : List Int} (hb : Bd 1000 l) (h2 : 2 ≤ l.length) (h : l.length ≤ 24) : 0 < pD l ∧ pD l ≤ 27600 ∧ (pP l).natAbs ≤ 290400000 ∧ (pQ l).natAbs ≤ 21024000 := by
  obtain ⟨a1, a2, ⟨d0, d1⟩, p1, q1⟩ := pr_bounds hb h2 h
  have h1 := tdiv_abs_le (pr0 l) (prG l)
  have h3 := tdiv_abs_le (prP l) (prG l)
  have h4 := tdiv_abs_le (prQ l) (prG l)
  have hg : (prG l : Int) ∣ pr0 l := Int.ofNat_dvd_left.2 (Nat.gcd_dvd_left _ _)
  have h5 := Int.tdiv_mul_cancel hg
  have h6 : 0 < (pr0 l).tdiv (prG l) := by
    rcases Int.lt_trichotomy ((pr0 l).tdiv (prG l)) 0 with h | h | h
    · have := Int.mul_nonneg (show 0 ≤ -((pr0 l).tdiv (prG l)) by omega) (show (0 : Int) ≤ prG l by omega)
      rw [Int.neg_mul] at this; omega
    · rw [h] at h5; omega
    · exact h
  unfold pD pP pQ
  omega

/-- What the prices change a sample by, times their denominator. -/
def ch (l : List Int) (t : Nat) : Int := pP l + pQ l * ((l.length : Int) - t)

def bL (l : List Int) (n : Nat) : List Int := (List.range n).map fun t => l.getD t 0 * pD l + ch l t

theorem bL_len (l : List Int) (n : Nat) : (bL l n).length = n := by simp [bL]
theorem bL_succ (l : List Int) (n : Nat) : bL l (n + 1) = bL l n ++ [l.getD n 0 * pD l + ch l n] := by simp [bL, List.range_succ]
theorem bL_get (l : List Int) {n i : Nat} (h : i < n) : (bL l n).getD i 0 = l.getD i 0 * pD l + ch l i := by simp [bL, List.getD, h]

theorem ch_bound {l : List Int} (hb : Bd 1000 l) (h2 : 2 ≤ l.length) (h : l.length ≤ 24) {t : Nat} (ht : t < l.length) : (pQ l * ((l.length : Int) - t)).natAbs ≤ 504576000 ∧ (ch l t).natAbs ≤ 800000000 := by
  obtain ⟨d0, d1, p1, q1⟩ := p_bounds hb h2 h
  have m := mul_bdd (A := 21024000) (x := pQ l) (B := 24) (y := (l.length : Int) - t) (by omega) (by omega) (by omega) (by omega)
  unfold ch
  omega

theorem b_bound {l : List Int} (hb : Bd 1000 l) (h2 : 2 ≤ l.length) (h : l.length ≤ 24) {t : Nat} (ht : t < l.length) : (l.getD t 0 * pD l).natAbs ≤ 27600000 ∧ (l.getD t 0 * pD l + ch l t).natAbs ≤ 900000000 := by
  obtain ⟨d0, d1, p1, q1⟩ := p_bounds hb h2 h
  have hc := ch_bound hb h2 h ht
  have hl := hb t ht
  have m := mul_bdd (A := 1000) (x := l.getD t 0) (B := 27600) (y := pD l) (by omega) (by omega) (by omega) (by omega)
  omega

theorem f102_ch {l : List Int} (hb : Bd 1000 l) (h2 : 2 ≤ l.length) (h : l.length ≤ 24) {t : Nat} (ht : t < l.length) : f102 ((pD l, pP l, pQ l, ()), wrap64 ((l.length : Int) - t), ()) = some (ch l t, ()) := by
  obtain ⟨c1, c2⟩ := ch_bound hb h2 h ht
  rw [f102_eq, wrap64_id (n := (l.length : Int) - t) (by omega) (by omega), wrap64_id (n := pQ l * ((l.length : Int) - t)) (by omega) (by omega)]
  unfold ch at c2 ⊢
  rw [wrap64_id (by omega) (by omega)]

/-- The denominator and the parts of the rest. -/
def eD (l : List Int) : Int := (pD l).tdiv (lwG (pD l) (bL l l.length))
def cL (l : List Int) : List Int := lwL (pD l) (bL l l.length) l.length

theorem f41_eq {x : Int} {l : List Int} (hc : (chk x l).2 = 0) : f41 ((x, l, ()), ()) = some ((pD l, pP l, pQ l, ()), (0 : Int), ()) := by
  obtain ⟨h2, h, hb, _, _⟩ := chk_ok hc
  have e := f101_eq hb h2 h
  simp only [f41, t41, g88, f88_eq x l (by omega), hc, g101, e, Option.isSome_some, Option.getD_some, Tr.val_test, Tr.val_fin, eqF_eq, if_true]
  rw [if_neg (by simp)]
  rfl

theorem f40_eq {x : Int} {l : List Int} (hc : (chk x l).2 = 0) : f40 ((x, l, ()), ()) = some ((eD l, cL l, ()), (0 : Int), ()) := by
  obtain ⟨h2, h, hb, _, _⟩ := chk_ok hc
  have e : f101 (l, ()) = some ((pD l, pP l, pQ l, ()), ()) := f101_eq hb h2 h
  obtain ⟨d0, d1, p1, q1⟩ := p_bounds hb h2 h
  have hl : l40_0 (([], l, (l.length : Int), (0 : Int), ()), (x, l, ()), ((0 : Int), ()), (pD l, pP l, pQ l, ()), ()) = some (.inl ((bL l l.length, ()), (x, l, ()), ((0 : Int), ()), (pD l, pP l, pQ l, ()), ())) := by
    refine itr_brk (fun i => ((bL l i, l, (l.length : Int), (i : Int), ()), (x, l, ()), ((0 : Int), ()), (pD l, pP l, pQ l, ()), ())) (n := l.length) ?_ ?_ (lt_rounds (by omega))
    · intro i hi
      obtain ⟨b1, b2⟩ := b_bound hb h2 h hi
      have e1 := f102_ch hb h2 h hi
      have e2 : wrap64 (wrap64 (l.getD i 0 * pD l) + ch l i) = l.getD i 0 * pD l + ch l i := by
        rw [wrap64_id (n := l.getD i 0 * pD l) (by omega) (by omega), wrap64_id (by omega) (by omega)]
      have e4 : wrap64 ((i : Int) + 1) = ((i + 1 : Nat) : Int) := wrap64_nat (by omega)
      simp only [s40_0, t40_0, Tr.val_test, Tr.val_fin, leF_eq, Int.toNat_natCast, g102, e1, Option.isSome_some, Option.getD_some, if_true, e2, e4, bL_succ]
      rw [if_pos (by simp; omega), if_pos (by simp; omega), if_pos (by simp [bL_len]; omega)]
    · simp [s40_0, t40_0, leF_eq]
  have e3 := f103_eq (pD l) (bL l l.length) d0 (by omega) (by rw [bL_len]; omega) (fun i hi => by
    rw [bL_len] at hi
    have := (b_bound hb h2 h hi).2
    rw [bL_get l hi]; omega)
  rw [bL_len] at e3
  simp only [f40, t40, g88, f88_eq x l (by omega), hc, g101, e, b40_0, hl, isBrk, outB, g103, e3, Option.isSome_some, Option.getD_some, Tr.val_test, Tr.val_fin, eqF_eq, if_true]
  rw [if_neg (by simp)]
  rfl

theorem low_norm (a : Int) (e : Nat) (h : e ≠ 0) : low a e = ((Rat.normalize a e h).num, ((Rat.normalize a e h).den : Int), ()) := by
  have h1 : (Int.gcd a e : Int) ∣ a := Int.gcd_dvd_left ..
  have h2 : (Int.gcd a e : Int) ∣ (e : Int) := Int.gcd_dvd_right ..
  rw [Rat.normalize_eq, low, Int.tdiv_eq_ediv_of_dvd h1, Int.tdiv_eq_ediv_of_dvd h2, Int.natCast_ediv]
  rfl

theorem low_cross_eq {a b d e : Int} (hd : 0 < d) (he : 0 < e) (h : a * d = b * e) : low a e = low b d := by
  obtain ⟨d, rfl⟩ : ∃ n : Nat, d = n := ⟨d.toNat, by omega⟩
  obtain ⟨e, rfl⟩ : ∃ n : Nat, e = n := ⟨e.toNat, by omega⟩
  rw [low_norm a e (by omega), low_norm b d (by omega), (Rat.normalize_eq_iff (by omega) (by omega)).2 h]

def ptE (e : Int) (c : List Int) (n : Int) : Int := firstNZ [if (!inAll 1 1000000000 [e]) = true then (2 : Int) else 0, if (!decide ((c.length : Int) = n)) = true then (10 : Int) else 0,
  if (!inAll (-1000000000000) 1000000000000 c) = true then (2 : Int) else 0, if (!(decide (0 < e) && decide (lwG e c = 1))) = true then (3 : Int) else 0]

def prE (d p q : Int) : Int := firstNZ [if (!inAll 1 1000000000 [d] || !inAll (-1000000000000) 1000000000000 [p, q]) = true then (2 : Int) else 0, if (!(decide (0 < d) && decide (lwG d [p, q] = 1))) = true then (3 : Int) else 0]

theorem w1e12 : IntKind.wrap .i64 (0 - 1000000000000) = -1000000000000 := by decide

theorem f104_eq (e : Int) (c : List Int) (n : Int) (he : e.natAbs ≤ 9223372036854775807) (h : c.length ≤ 1000000) (hb : ∀ i, i < c.length → (c.getD i 0).natAbs ≤ 9223372036854775807) : f104 ((e, c, ()), n, ()) = some (ptE e c n, ()) := by
  simp only [f104, t104, g94, f94_eq 1 1000000000 [e] (by simp), g86, f86_eq, g141, f141_eq 1000000000000 c (by omega), w1e12, g145, f145_eq e c he h hb, Option.isSome_some, Option.getD_some, Tr.val_test, Tr.val_fin, if_true, eqF_eq]
  rw [if_pos (by rw [f85_eq _ (by simp)]; rfl)]
  simp only [g85, f85_eq _ (show ([if (!inAll 1 1000000000 [e]) = true then (2 : Int) else 0, if (!decide ((c.length : Int) = n)) = true then (10 : Int) else 0,
    if (!inAll (-1000000000000) 1000000000000 c) = true then (2 : Int) else 0, if (!(decide (0 < e) && decide (lwG e c = 1))) = true then (3 : Int) else 0]).length ≤ 1000000000 by simp), Option.getD_some, ptE]

theorem f105_eq (d p q : Int) (hd : d.natAbs ≤ 9223372036854775807) (hp : p.natAbs ≤ 9223372036854775807) (hq : q.natAbs ≤ 9223372036854775807) : f105 ((d, p, q, ()), ()) = some (prE d p q, ()) := by
  have hmm : ∀ (i : Nat), i < [p, q].length → (([p, q] : List Int).getD i 0).natAbs ≤ 9223372036854775807 := fun i hi => by
    match i, hi with
    | 0, _ => exact hp
    | 1, _ => exact hq
  have e85 : ∀ a b : Int, f85 ([a, b], ()) = some (firstNZ [a, b], ()) := fun a b => f85_eq _ (by simp)
  simp only [f105, t105, g94, f94_eq 1 1000000000 [d] (by simp), g86, f86_eq, g141, f141_eq 1000000000000 [p, q] (by simp), w1e12, g145, f145_eq d [p, q] hd (by simp) hmm, Option.isSome_some, Option.getD_some, Tr.val_test, Tr.val_fin, if_true, g85, e85, prE]
  cases inAll 1 1000000000 [d] <;> simp

theorem lwG_dvd_den (d : Int) (l : List Int) : (lwG d l : Int) ∣ d := Int.ofNat_dvd_left.2 (Nat.gcd_dvd_left _ _)

theorem lwG_dvd (d : Int) (l : List Int) {i : Nat} (h : i < l.length) : (lwG d l : Int) ∣ l.getD i 0 :=
  Int.dvd_trans (Int.natCast_dvd_natCast.2 (Nat.gcd_dvd_right _ _)) (gn_dvd l l.length i h)

theorem dvd_gn {l : List Int} {g : Nat} (h : ∀ i, i < l.length → (g : Int) ∣ l.getD i 0) : ∀ n, n ≤ l.length → g ∣ gn l n
  | 0, _ => by simp [gn]
  | n + 1, hn => by
    rw [gn]
    exact Nat.dvd_gcd (dvd_gn h n (by omega)) (Int.ofNat_dvd_left.1 (h n (by omega)))

theorem tdiv_pos' {d : Int} {g : Nat} (h : 0 < d) (hg : (g : Int) ∣ d) : 0 < d.tdiv g := by
  have h5 := Int.tdiv_mul_cancel hg
  rcases Int.lt_trichotomy (d.tdiv g) 0 with h6 | h6 | h6
  · have := Int.mul_nonneg (show 0 ≤ -(d.tdiv g) by omega) (show (0 : Int) ≤ g by omega)
    rw [Int.neg_mul] at this; omega
  · rw [h6] at h5; omega
  · exact h6

/-- What is divided by the greatest divisor has no other. -/
theorem lowest_again {d : Int} {l m : List Int} (h0 : 0 < d) (hl : m.length = l.length) (hm : ∀ i, i < l.length → m.getD i 0 = (l.getD i 0).tdiv (lwG d l)) : lwG (d.tdiv (lwG d l)) m = 1 := by
  have hg := lwG_pos l h0
  generalize hk : lwG (d.tdiv (lwG d l)) m = k at *
  have h1 : (k : Int) ∣ d.tdiv (lwG d l) := by rw [← hk]; exact lwG_dvd_den _ _
  have h2 : ∀ i, i < l.length → (k : Int) ∣ (l.getD i 0).tdiv (lwG d l) := fun i hi => by
    rw [← hm i hi, ← hk]; exact lwG_dvd _ _ (by omega)
  have h3 : k * lwG d l ∣ lwG d l := by
    refine Nat.dvd_gcd ?_ (dvd_gn (fun i hi => ?_) _ (Nat.le_refl _))
    · refine Int.ofNat_dvd_left.1 ?_
      have := Int.mul_dvd_mul h1 (Int.dvd_refl (lwG d l : Int))
      rw [Int.tdiv_mul_cancel (lwG_dvd_den d l)] at this
      rw [Int.natCast_mul]; exact this
    · have := Int.mul_dvd_mul (h2 i hi) (Int.dvd_refl (lwG d l : Int))
      rw [Int.tdiv_mul_cancel (lwG_dvd d l hi)] at this
      rw [Int.natCast_mul]; exact this
  have h4 := Nat.le_of_dvd hg h3
  have hk0 : k ≠ 0 := fun e => by
    rw [e] at h1
    have := tdiv_pos' h0 (lwG_dvd_den d l)
    have := Int.zero_dvd.1 h1
    omega
  rcases Nat.lt_or_ge 1 k with h5 | h5
  · have : 2 * lwG d l ≤ k * lwG d l := Nat.mul_le_mul_right _ h5
    omega
  · omega

theorem cL_get {l : List Int} {i : Nat} (h : i < l.length) : (cL l).getD i 0 = (l.getD i 0 * pD l + ch l i).tdiv (lwG (pD l) (bL l l.length)) := by
  rw [cL, lwL_get _ _ h, bL_get l h]

theorem cL_len (l : List Int) : (cL l).length = l.length := lwL_len _ _ _

theorem cL_bound {l : List Int} (hb : Bd 1000 l) (h2 : 2 ≤ l.length) (h : l.length ≤ 24) {i : Nat} (hi : i < l.length) : ((cL l).getD i 0).natAbs ≤ 900000000 := by
  rw [cL_get hi]
  exact Nat.le_trans (tdiv_abs_le _ _) (b_bound hb h2 h hi).2

theorem eD_bound {l : List Int} (hb : Bd 1000 l) (h2 : 2 ≤ l.length) (h : l.length ≤ 24) : 0 < eD l ∧ eD l ≤ 27600 := by
  obtain ⟨d0, d1, _, _⟩ := p_bounds hb h2 h
  have h1 : 0 < eD l := tdiv_pos' d0 (lwG_dvd_den _ _)
  have h3 := tdiv_abs_le (pD l) (lwG (pD l) (bL l l.length))
  unfold eD at *
  omega

theorem prE_ok {l : List Int} (hb : Bd 1000 l) (h2 : 2 ≤ l.length) (h : l.length ≤ 24) : prE (pD l) (pP l) (pQ l) = 0 := by
  obtain ⟨d0, d1, p1, q1⟩ := p_bounds hb h2 h
  obtain ⟨_, _, ⟨e0, _⟩, _, _⟩ := pr_bounds hb h2 h
  have hl : lwG (pD l) [pP l, pQ l] = 1 := lowest_again (d := pr0 l) (l := [prP l, prQ l]) e0 rfl fun i hi => by
    match i, hi with
    | 0, _ => rfl
    | 1, _ => rfl
  have i1 : inAll 1 1000000000 [pD l] = true := by rw [inAll_cons, inAll_nil]; simp; omega
  have i2 : inAll (-1000000000000) 1000000000000 [pP l, pQ l] = true := by rw [inAll_cons, inAll_cons, inAll_nil]; simp; omega
  rw [prE, i1, i2, hl]
  simp [d0, firstNZ]

theorem ptE_ok {l : List Int} (hb : Bd 1000 l) (h2 : 2 ≤ l.length) (h : l.length ≤ 24) : ptE (eD l) (cL l) l.length = 0 := by
  obtain ⟨d0, d1, p1, q1⟩ := p_bounds hb h2 h
  obtain ⟨e0, e1⟩ := eD_bound hb h2 h
  have hl : lwG (eD l) (cL l) = 1 := lowest_again (d := pD l) (l := bL l l.length) d0 (by rw [cL_len, bL_len]) fun i hi => by
    rw [bL_len] at hi
    rw [cL_get hi, bL_get l hi]
  have i1 : inAll 1 1000000000 [eD l] = true := by rw [inAll_cons, inAll_nil]; simp; omega
  have i2 : inAll (-1000000000000) 1000000000000 (cL l) = true := (inAll_iff _ _ _).2 fun i hi => by
    rw [cL_len] at hi
    have := cL_bound hb h2 h hi
    omega
  rw [ptE, i1, i2, hl, cL_len]
  simp [e0, firstNZ]

/-! sums -/

def sumZ (f : Nat → Int) : Nat → Int
  | 0 => 0
  | n + 1 => sumZ f n + f n

theorem sumZ_congr {f g : Nat → Int} : ∀ n, (∀ i, i < n → f i = g i) → sumZ f n = sumZ g n
  | 0, _ => rfl
  | n + 1, h => by rw [sumZ, sumZ, sumZ_congr n fun i hi => h i (by omega), h n (by omega)]

theorem sumZ_shift (f : Nat → Int) : ∀ n, sumZ f (n + 1) = f 0 + sumZ (fun i => f (i + 1)) n
  | 0 => by simp [sumZ]
  | n + 1 => by rw [sumZ, sumZ_shift f n, sumZ]; omega

theorem sumZ_lin (a b : Int) (f g : Nat → Int) : ∀ n, sumZ (fun i => a * f i + b * g i) n = a * sumZ f n + b * sumZ g n
  | 0 => by simp [sumZ]
  | n + 1 => by rw [sumZ, sumZ_lin a b f g n, sumZ, sumZ, Int.mul_add, Int.mul_add]; omega

theorem sumZ_mul (a : Int) (f : Nat → Int) : ∀ n, sumZ (fun i => f i * a) n = sumZ f n * a
  | 0 => by simp [sumZ]
  | n + 1 => by rw [sumZ, sumZ_mul a f n, sumZ, Int.add_mul]

theorem sumZ_one : ∀ n, sumZ (fun _ => 1) n = n
  | 0 => rfl
  | n + 1 => by rw [sumZ, sumZ_one n]; omega

theorem sumZ_kF : ∀ n : Nat, sumZ (fun t => (n : Int) - t) n = kF n
  | 0 => rfl
  | n + 1 => by
    rw [sumZ_shift, kF, ← sumZ_kF n, sumZ_congr (g := fun t => (n : Int) - t) n fun i _ => by omega]
    omega

theorem sumZ_kS : ∀ n : Nat, sumZ (fun t => ((n : Int) - t) * ((n : Int) - t)) n = kS n
  | 0 => rfl
  | n + 1 => by
    rw [sumZ_shift, kS, ← sumZ_kS n, sumZ_congr (g := fun t => ((n : Int) - t) * ((n : Int) - t)) n fun i _ => by
      rw [show ((n + 1 : Nat) : Int) - ((i + 1 : Nat) : Int) = (n : Int) - i by omega]]
    rw [show ((n + 1 : Nat) : Int) - ((0 : Nat) : Int) = (n : Int) + 1 by omega, Int.add_comm]

theorem accE_sum (l : List Int) : ∀ n, accE l n = sumZ (fun i => l.getD i 0) n
  | 0 => rfl
  | n + 1 => by rw [accE, accE_sum l n, sumZ]

theorem wsum_sum (l : List Int) (m : Int) : ∀ n : Nat, wsum l m n = sumZ (fun i => (m - i) * l.getD i 0) n
  | 0 => rfl
  | n + 1 => by rw [wsum, wsum_sum l m n, sumZ]

theorem accE2_sum (l : List Int) {n : Nat} (h : l.length = n) : accE2 l n = sumZ (fun i => ((n : Int) - i) * l.getD i 0) n := by
  rw [← wsum_sum, wsum_eq]; simp

theorem b_sums {l : List Int} (hb : Bd 1000 l) (h2 : 2 ≤ l.length) (h : l.length ≤ 24) : sumZ (fun t => l.getD t 0 * pD l + ch l t) l.length = 0 ∧ sumZ (fun t => ((l.length : Int) - t) * (l.getD t 0 * pD l + ch l t)) l.length = 0 := by
  have hg : (prG l : Int) ∣ pr0 l := lwG_dvd_den _ _
  have hp : (prG l : Int) ∣ prP l := lwG_dvd (pr0 l) [prP l, prQ l] (i := 0) (by simp)
  have hq : (prG l : Int) ∣ prQ l := lwG_dvd (pr0 l) [prP l, prQ l] (i := 1) (by simp)
  obtain ⟨_, _, ⟨d0, _⟩, _, _⟩ := pr_bounds hb h2 h
  have hG : (prG l : Int) ≠ 0 := by have : 0 < prG l := lwG_pos _ d0; omega
  have e0 : pD l * prG l = pr0 l := Int.tdiv_mul_cancel hg
  have e1 : pP l * prG l = prP l := Int.tdiv_mul_cancel hp
  have e2 : pQ l * prG l = prQ l := Int.tdiv_mul_cancel hq
  have s1 : sumZ (fun t => l.getD t 0 * pD l + ch l t) l.length = pD l * accE l l.length + pP l * l.length + pQ l * kF l.length := by
    have t1 := sumZ_lin (pD l) (pP l) (fun t => l.getD t 0) (fun _ => 1) l.length
    have t2 := sumZ_lin 1 (pQ l) (fun i => pD l * l.getD i 0 + pP l * 1) (fun t => (l.length : Int) - t) l.length
    rw [t1, sumZ_one, sumZ_kF, Int.one_mul] at t2
    rw [accE_sum]
    refine Eq.trans (sumZ_congr _ fun i _ => ?_) t2
    unfold ch
    grind
  have s2 : sumZ (fun t => ((l.length : Int) - t) * (l.getD t 0 * pD l + ch l t)) l.length = pD l * accE2 l l.length + pP l * kF l.length + pQ l * kS l.length := by
    have t1 := sumZ_lin (pD l) (pP l) (fun t => ((l.length : Int) - t) * l.getD t 0) (fun t => (l.length : Int) - t) l.length
    have t2 := sumZ_lin 1 (pQ l) (fun t => pD l * (((l.length : Int) - t) * l.getD t 0) + pP l * ((l.length : Int) - t)) (fun t => ((l.length : Int) - t) * ((l.length : Int) - t)) l.length
    rw [t1, sumZ_kF, sumZ_kS, Int.one_mul] at t2
    rw [accE2_sum l rfl]
    refine Eq.trans (sumZ_congr _ fun i _ => ?_) t2
    unfold ch
    generalize (l.length : Int) - (i : Int) = k
    grind
  rw [s1, s2]
  constructor
  · refine (Int.mul_eq_zero.1 (?_ : (pD l * accE l l.length + pP l * l.length + pQ l * kF l.length) * (prG l : Int) = 0)).resolve_right hG
    have : (pD l * accE l l.length + pP l * l.length + pQ l * kF l.length) * (prG l : Int) = pr0 l * accE l l.length + prP l * l.length + prQ l * kF l.length := by rw [← e0, ← e1, ← e2]; grind
    rw [this]
    unfold pr0 prP prQ
    generalize accE l l.length = V
    generalize accE2 l l.length = D
    generalize kF l.length = F
    generalize kS l.length = S
    grind
  · refine (Int.mul_eq_zero.1 (?_ : (pD l * accE2 l l.length + pP l * kF l.length + pQ l * kS l.length) * (prG l : Int) = 0)).resolve_right hG
    have : (pD l * accE2 l l.length + pP l * kF l.length + pQ l * kS l.length) * (prG l : Int) = pr0 l * accE2 l l.length + prP l * kF l.length + prQ l * kS l.length := by rw [← e0, ← e1, ← e2]; grind
    rw [this]
    unfold pr0 prP prQ
    generalize accE l l.length = V
    generalize accE2 l l.length = D
    generalize kF l.length = F
    generalize kS l.length = S
    grind

theorem g2_facts {l : List Int} (hb : Bd 1000 l) (h2 : 2 ≤ l.length) (h : l.length ≤ 24) : (lwG (pD l) (bL l l.length) : Int) ≠ 0 ∧ eD l * (lwG (pD l) (bL l l.length) : Int) = pD l ∧ ∀ i, i < l.length → (cL l).getD i 0 * (lwG (pD l) (bL l l.length) : Int) = l.getD i 0 * pD l + ch l i := by
  obtain ⟨d0, d1, p1, q1⟩ := p_bounds hb h2 h
  have hg : 0 < lwG (pD l) (bL l l.length) := lwG_pos _ d0
  refine ⟨by omega, Int.tdiv_mul_cancel (lwG_dvd_den _ _), fun i hi => ?_⟩
  have := lwG_dvd (pD l) (bL l l.length) (i := i) (by rw [bL_len]; exact hi)
  rw [bL_get l hi] at this
  rw [cL_get hi]
  exact Int.tdiv_mul_cancel this

theorem c_sums {l : List Int} (hb : Bd 1000 l) (h2 : 2 ≤ l.length) (h : l.length ≤ 24) : accE (cL l) l.length = 0 ∧ accE2 (cL l) l.length = 0 := by
  obtain ⟨g0, _, g2⟩ := g2_facts hb h2 h
  obtain ⟨s1, s2⟩ := b_sums hb h2 h
  constructor
  · refine (Int.mul_eq_zero.1 (?_ : accE (cL l) l.length * (lwG (pD l) (bL l l.length) : Int) = 0)).resolve_right g0
    rw [accE_sum, ← sumZ_mul]
    exact Eq.trans (sumZ_congr _ fun i hi => g2 i hi) s1
  · refine (Int.mul_eq_zero.1 (?_ : accE2 (cL l) l.length * (lwG (pD l) (bL l l.length) : Int) = 0)).resolve_right g0
    rw [accE2_sum _ (cL_len l), ← sumZ_mul]
    exact Eq.trans (sumZ_congr _ fun i hi => by rw [Int.mul_assoc, g2 i hi]) s2

/-- Each part is by as much beside its sample as the prices say. -/
theorem c_ch {l : List Int} (hb : Bd 1000 l) (h2 : 2 ≤ l.length) (h : l.length ≤ 24) {i : Nat} (hi : i < l.length) : ((cL l).getD i 0 - l.getD i 0 * eD l) * pD l = ch l i * eD l := by
  obtain ⟨g0, g1, g2⟩ := g2_facts hb h2 h
  have e := g2 i hi
  generalize (lwG (pD l) (bL l l.length) : Int) = g at *
  generalize (cL l).getD i 0 = c at *
  generalize l.getD i 0 = a at *
  have h1 : (c - a * eD l) * g = ch l i := by
    rw [← g1] at e
    grind
  rw [← g1, ← h1]
  grind

theorem l106_ok {x : Int} {l : List Int} (hb : Bd 1000 l) (h2 : 2 ≤ l.length) (h : l.length ≤ 24) :
    l106_0_1 ((l, (l.length : Int), (0 : Int), ()), (eD l, cL l, ()), (pD l, pP l, pQ l, ()), (x, l, ()), ()) = some (.inl ((), (eD l, cL l, ()), (pD l, pP l, pQ l, ()), (x, l, ()), ())) := by
  obtain ⟨d0, d1, p1, q1⟩ := p_bounds hb h2 h
  obtain ⟨e0, e1⟩ := eD_bound hb h2 h
  refine itr_brk (fun i => ((l, (l.length : Int), (i : Int), ()), (eD l, cL l, ()), (pD l, pP l, pQ l, ()), (x, l, ()), ())) (n := l.length) ?_ ?_ (lt_rounds (by omega))
  · intro i hi
    have hl := hb i hi
    have hc := cL_bound hb h2 h hi
    have hch := (ch_bound hb h2 h hi).2
    have m := mul_bdd (A := 1000) (x := l.getD i 0) (B := 27600) (y := eD l) (by omega) (by omega) (by omega) (by omega)
    have w : wrap64 ((cL l).getD i 0 - wrap64 (l.getD i 0 * eD l)) = (cL l).getD i 0 - l.getD i 0 * eD l := by
      rw [wrap64_id (n := l.getD i 0 * eD l) (by omega) (by omega), wrap64_id (by omega) (by omega)]
    have f1 := f108_eq ((cL l).getD i 0 - l.getD i 0 * eD l) (eD l) (by omega) (by omega) (by omega)
    have f2 := f102_ch hb h2 h hi
    have f3 := f108_eq (ch l i) (pD l) (by omega) (by omega) (by omega)
    have hlow := low_cross_eq d0 e0 (c_ch hb h2 h hi)
    have e4 : wrap64 ((i : Int) + 1) = ((i + 1 : Nat) : Int) := wrap64_nat (by omega)
    simp only [s106_0_1, t106_0_1, Tr.val_test, Tr.val_fin, leF_eq, eqF_eq, Int.toNat_natCast, w, g108, f1, g102, f2, f3, hlow, g86, f86_eq, Option.isSome_some, Option.getD_some, if_true, e4]
    rw [if_pos (by simp; omega), if_pos (by simp; omega), if_pos (by rw [cL_len]; simp; omega), if_neg (by simp)]
  · simp [s106_0_1, t106_0_1, leF_eq]

theorem f85_3 (a b c : Int) : f85 ([a, b, c], ()) = some (firstNZ [a, b, c], ()) := f85_eq _ (by simp)

theorem f42_ok {x : Int} {l : List Int} (hc : (chk x l).2 = 0) : f42 ((x, l, ()), (eD l, cL l, ()), (pD l, pP l, pQ l, ()), ()) = some ((0 : Int), (0 : Int), ()) := by
  obtain ⟨h2, h, hb, _, _⟩ := chk_ok hc
  obtain ⟨d0, d1, p1, q1⟩ := p_bounds hb h2 h
  obtain ⟨e0, e1⟩ := eD_bound hb h2 h
  obtain ⟨s1, s2⟩ := c_sums hb h2 h
  have k1 := f104_eq (eD l) (cL l) l.length (by omega) (by rw [cL_len]; omega) fun i hi => by
    rw [cL_len] at hi
    have := cL_bound hb h2 h hi; omega
  have k2 := f105_eq (pD l) (pP l) (pQ l) (by omega) (by omega) (by omega)
  rw [ptE_ok hb h2 h] at k1
  rw [prE_ok hb h2 h] at k2
  have k3 := f90_eq (cL l) (by rw [cL_len]; omega)
  rw [cL_len, s1, s2] at k3
  have k4 := l106_ok (x := x) hb h2 h
  have z : firstNZ [0, 0, 0] = 0 := rfl
  have z2 : wrap64 0 = 0 := rfl
  simp only [f42, t42, g88, f88_eq x l (by omega), hc, g104, k1, g105, k2, g85, f85_3 0 0 0, z, g90, k3, z2, k4, isRet, r106_0_1, Option.isSome_some, Option.getD_some, Tr.val_test, Tr.val_fin, eqF_eq, if_true]
  rw [if_neg (by simp), if_neg (by simp), if_neg (by simp), if_neg (by simp)]

theorem getD_set_eq {l : List Int} {k : Nat} {v : Int} (h : k < l.length) : (l.set k v).getD k 0 = v := by
  simp [List.getD, List.getElem?_set, h]

theorem accE_set (c : List Int) {k : Nat} (v : Int) (hk : k < c.length) : ∀ n, accE (c.set k v) n = accE c n + if k < n then v - c.getD k 0 else 0
  | 0 => by simp [accE]
  | n + 1 => by
    rw [accE, accE, accE_set c v hk n]
    by_cases e : k = n
    · subst e
      rw [getD_set_eq hk, if_neg (by omega), if_pos (by omega)]; omega
    · rw [getD_set_ne e]
      by_cases h : k < n
      · rw [if_pos h, if_pos (by omega)]; omega
      · rw [if_neg h, if_neg (by omega)]; omega

theorem f42_odd {x : Int} {l : List Int} (hc : (chk x l).2 = 0) {k : Nat} (hk : k < l.length) {y : Int} (hy : y ≠ 0) (hy1 : -1000 ≤ y ∧ y ≤ 1000) :
    ∃ i g, f42 ((x, l, ()), (eD l, (cL l).set k ((cL l).getD k 0 + y), ()), (pD l, pP l, pQ l, ()), ()) = some (i, g, ()) ∧ g ≠ 0 := by
  obtain ⟨h2, h, hb, _, _⟩ := chk_ok hc
  obtain ⟨d0, d1, p1, q1⟩ := p_bounds hb h2 h
  obtain ⟨e0, e1⟩ := eD_bound hb h2 h
  obtain ⟨s1, s2⟩ := c_sums hb h2 h
  have hlen : ((cL l).set k ((cL l).getD k 0 + y)).length = l.length := by rw [List.length_set, cL_len]
  have ha := accE_set (cL l) ((cL l).getD k 0 + y) (show k < (cL l).length by rw [cL_len]; exact hk) l.length
  rw [if_pos hk, s1] at ha
  have k1 := f104_eq (eD l) ((cL l).set k ((cL l).getD k 0 + y)) l.length (by omega) (by rw [hlen]; omega) fun i hi => by
    rw [hlen] at hi
    have := cL_bound hb h2 h hi
    have := cL_bound hb h2 h hk
    by_cases e : k = i
    · subst e; rw [getD_set_eq (by rw [cL_len]; exact hk)]; omega
    · rw [getD_set_ne e]; omega
  have k2 := f105_eq (pD l) (pP l) (pQ l) (by omega) (by omega) (by omega)
  rw [prE_ok hb h2 h] at k2
  have k3 := f90_eq ((cL l).set k ((cL l).getD k 0 + y)) (by rw [hlen]; omega)
  rw [hlen, ha] at k3
  have w : wrap64 (0 + ((cL l).getD k 0 + y - (cL l).getD k 0)) = y := by rw [wrap64_id (by omega) (by omega)]; omega
  rw [w] at k3
  generalize (cL l).set k ((cL l).getD k 0 + y) = c at *
  generalize ptE (eD l) c l.length = P at *
  simp only [f42, t42, g88, f88_eq x l (by omega), hc, g104, k1, g105, k2, g85, f85_3 0 P 0, g90, k3, Option.isSome_some, Option.getD_some, Tr.val_test, Tr.val_fin, eqF_eq, if_true]
  by_cases hP : firstNZ [0, P, 0] = 0
  · rw [if_neg (by simp [hP]), if_pos (by simpa using hy)]
    exact ⟨0, 21, rfl, by decide⟩
  · rw [if_pos (by simpa using hP)]
    exact ⟨0, _, rfl, hP⟩

theorem norm_size {x : Int} {y : Nat} (hy : y ≠ 0) {n : Nat} (h1 : (dig x.natAbs).length ≤ n) (h2 : (dig y).length ≤ n) : rsz (Rat.normalize x y hy) n := by
  rw [Rat.normalize_eq]
  constructor
  · refine Nat.le_trans (dig_mono ?_) h1
    have h : ((x.natAbs.gcd y : Nat) : Int) ∣ x := Int.ofNat_dvd_left.2 (Nat.gcd_dvd_left _ _)
    show (x / ((x.natAbs.gcd y : Nat) : Int)).natAbs ≤ _
    rw [← Int.tdiv_eq_ediv_of_dvd h]
    exact tdiv_abs_le _ _
  · exact Nat.le_trans (dig_mono (Nat.div_le_self _ _)) h2

theorem norm_div (x : Int) {y : Nat} (hy : y ≠ 0) : Rat.normalize x y hy = (x : Rat) / (y : Rat) := by
  rw [Rat.normalize_eq_mkRat, Rat.mkRat_eq_div]

theorem norm_sub (c a : Int) {e : Nat} (he : e ≠ 0) : Rat.normalize c e he - (a : Rat) = Rat.normalize (c - a * e) e he := by
  have h : (e : Rat) ≠ 0 := by exact_mod_cast he
  rw [norm_div, norm_div, Rat.intCast_sub, Rat.intCast_mul]
  have : ((e : Int) : Rat) = (e : Rat) := rfl
  rw [this]
  grind

theorem norm_sq (u : Int) {e : Nat} (he : e ≠ 0) (S : Int) : Rat.normalize S (e * e) (Nat.mul_ne_zero he he) + Rat.normalize u e he * Rat.normalize u e he = Rat.normalize (S + u * u) (e * e) (Nat.mul_ne_zero he he) := by
  have h : (e : Rat) ≠ 0 := by exact_mod_cast he
  rw [norm_div, norm_div, norm_div, Rat.intCast_add, Rat.intCast_mul, Rat.natCast_mul]
  grind

theorem norm_zero {e : Nat} (he : e ≠ 0) : Rat.normalize 0 e he = 0 := by
  rw [norm_div]; simp [Rat.div_def, Rat.zero_mul]

def sq (l : List Int) (n : Nat) : Int := sumZ (fun t => ((cL l).getD t 0 - l.getD t 0 * eD l) * ((cL l).getD t 0 - l.getD t 0 * eD l)) n

theorem dif_bound {l : List Int} (hb : Bd 1000 l) (h2 : 2 ≤ l.length) (h : l.length ≤ 24) {i : Nat} (hi : i < l.length) : ((cL l).getD i 0 - l.getD i 0 * eD l).natAbs ≤ 1000000000 := by
  obtain ⟨e0, e1⟩ := eD_bound hb h2 h
  have hl := hb i hi
  have hc := cL_bound hb h2 h hi
  have m := mul_bdd (A := 1000) (x := l.getD i 0) (B := 27600) (y := eD l) (by omega) (by omega) (by omega) (by omega)
  omega

theorem sq_bound {l : List Int} (hb : Bd 1000 l) (h2 : 2 ≤ l.length) (h : l.length ≤ 24) : ∀ i, i ≤ l.length → 0 ≤ sq l i ∧ sq l i ≤ 1000000000000000000 * i
  | 0, _ => by simp [sq, sumZ]
  | i + 1, hi => by
    have ih := sq_bound hb h2 h i (by omega)
    have hd := dif_bound hb h2 h (show i < l.length by omega)
    have e : sq l (i + 1) = sq l i + ((cL l).getD i 0 - l.getD i 0 * eD l) * ((cL l).getD i 0 - l.getD i 0 * eD l) := rfl
    have m := mul_bdd (A := 1000000000) (B := 1000000000) (x := (cL l).getD i 0 - l.getD i 0 * eD l) (y := (cL l).getD i 0 - l.getD i 0 * eD l) (by omega) (by omega) (by omega) (by omega)
    have n : 0 ≤ ((cL l).getD i 0 - l.getD i 0 * eD l) * ((cL l).getD i 0 - l.getD i 0 * eD l) := by
      rcases Int.le_total 0 ((cL l).getD i 0 - l.getD i 0 * eD l) with h | h
      · exact Int.mul_nonneg h h
      · exact Int.mul_nonneg_of_nonpos_of_nonpos h h
    rw [e]; omega

theorem f18_new (x : Int) (l : List Int) (h : l.length ≤ 1000000) : f18 ((x, l, ()), ()) = some ((x, l, ()), ()) := by
  simp only [f18, t18, Tr.val_test, Tr.val_fin, List.nil_append]
  by_cases h0 : l.length = 0
  · rw [if_pos (by rw [beq_eq_true']; exact h0), List.eq_nil_of_length_eq_zero h0]
  · rw [if_neg (by rw [beq_eq_true']; exact h0), if_neg (by rw [ble_eq_true']; omega), if_pos (by simp; omega), if_pos (by rw [beq_eq_true']; omega)]

theorem f53_eq (x : Int) (n : Nat) (h0 : 0 < n) (h : n ≤ 1000000) : ∃ k : Nat, k < n ∧ f53 (x, (n : Int), ()) = some ((k : Int), ()) := by
  have h1 := Int.tmod_lt_of_pos x (show (0 : Int) < n by omega)
  have h2 := Int.lt_tmod_of_pos x (show (0 : Int) < n by omega)
  simp only [f53, t53, Tr.val_test, Tr.val_fin, leF_eq]
  rw [if_neg (by simp; omega)]
  by_cases hs : 0 ≤ x.tmod n
  · rw [if_neg (by simp; omega)]
    exact ⟨(x.tmod n).toNat, by omega, by rw [show (((x.tmod n).toNat : Nat) : Int) = x.tmod n by omega]⟩
  · rw [if_pos (by simp; omega), wrap64_id (by omega) (by omega)]
    exact ⟨(x.tmod n + n).toNat, by omega, by rw [show (((x.tmod n + n).toNat : Nat) : Int) = x.tmod n + n by omega]⟩

def RR (l : List Int) (h : (eD l).toNat ≠ 0) (i : Nat) : Rat := Rat.normalize (sq l i) ((eD l).toNat * (eD l).toNat) (Nat.mul_ne_zero h h)

theorem RR_size {l : List Int} (hb : Bd 1000 l) (h2 : 2 ≤ l.length) (h : l.length ≤ 24) (hE : (eD l).toNat ≠ 0) {i : Nat} (hi : i ≤ l.length) : rsz (RR l hE i) 2000 := by
  obtain ⟨e0, e1⟩ := eD_bound hb h2 h
  obtain ⟨s0, s1⟩ := sq_bound hb h2 h i hi
  have m : (eD l).toNat * (eD l).toNat ≤ 27600 * 27600 := Nat.mul_le_mul (by omega) (by omega)
  exact norm_size _ (Nat.le_trans (dig_len (k := 3) (by simp only [pw]; omega)) (by omega)) (Nat.le_trans (dig_len (k := 3) (by simp only [pw]; omega)) (by omega))

theorem norm_mul (u : Int) {e : Nat} (he : e ≠ 0) : Rat.normalize u e he * Rat.normalize u e he = Rat.normalize (u * u) (e * e) (Nat.mul_ne_zero he he) := by
  have := norm_sq u he 0
  rw [norm_zero, Rat.zero_add, Int.zero_add] at this
  exact this

theorem l7_0_eq (x y0 y1 : Int) (o : List Int) {l : List Int} (hb : Bd 1000 l) (h2 : 2 ≤ l.length) (h : l.length ≤ 24) (hE : (eD l).toNat ≠ 0) :
    l7_0 ((o, (0 : Int), ()), (x, l, ()), (y0, y1, ()), (eD l, cL l, ()), (pD l, pP l, pQ l, ()), ((encR ((0 : Int) : Rat)).1.1, (encR ((0 : Int) : Rat)).1.2.1, (encR ((0 : Int) : Rat)).2.1.1, (encR ((0 : Int) : Rat)).2.1.2.1, ()), ()) =
      some (.inl ((o, ()), (x, l, ()), (y0, y1, ()), (eD l, cL l, ()), (pD l, pP l, pQ l, ()), ((encR (RR l hE l.length)).1.1, (encR (RR l hE l.length)).1.2.1, (encR (RR l hE l.length)).2.1.1, (encR (RR l hE l.length)).2.1.2.1, ()), ())) := by
  obtain ⟨e0, e1⟩ := eD_bound hb h2 h
  have hEe : (((eD l).toNat : Nat) : Int) = eD l := by omega
  have hz : ((0 : Int) : Rat) = RR l hE 0 := (norm_zero _).symm
  rw [hz]
  refine itr_brk (fun i => ((o, (i : Int), ()), (x, l, ()), (y0, y1, ()), (eD l, cL l, ()), (pD l, pP l, pQ l, ()), ((encR (RR l hE i)).1.1, (encR (RR l hE i)).1.2.1, (encR (RR l hE i)).2.1.1, (encR (RR l hE i)).2.1.2.1, ()), ())) (n := l.length) ?_ ?_ (lt_rounds (by omega))
  · intro i hi
    have hc := cL_bound hb h2 h hi
    have hl := hb i hi
    have hd := dif_bound hb h2 h hi
    have k50 := f50_eq ((cL l).getD i 0) (eD l).toNat hE (by omega) (by omega)
    rw [hEe] at k50
    have k48 := f48_eq (l.getD i 0) (by omega)
    have z1 : rsz (Rat.normalize ((cL l).getD i 0) (eD l).toNat hE) 2000 := norm_size _ (Nat.le_trans (dig_len (k := 3) (by simp only [pw]; omega)) (by omega)) (Nat.le_trans (dig_len (k := 3) (by simp only [pw]; omega)) (by omega))
    have z2 : rsz ((l.getD i 0 : Int) : Rat) 2000 := ⟨Nat.le_trans (dig_len (k := 3) (by rw [Rat.num_intCast]; simp only [pw]; omega)) (by omega), Nat.le_trans (dig_len (k := 3) (by rw [Rat.den_intCast]; simp only [pw]; omega)) (by omega)⟩
    have k49 := f49_eq _ _ z1 z2
    rw [norm_sub, hEe] at k49
    have z3 : rsz (Rat.normalize ((cL l).getD i 0 - l.getD i 0 * eD l) (eD l).toNat hE) 2000 := norm_size _ (Nat.le_trans (dig_len (k := 3) (by simp only [pw]; omega)) (by omega)) (Nat.le_trans (dig_len (k := 3) (by simp only [pw]; omega)) (by omega))
    have k52 := f52_eq _ _ z3 z3
    have m := mul_bdd (A := 1000000000) (B := 1000000000) (x := (cL l).getD i 0 - l.getD i 0 * eD l) (y := (cL l).getD i 0 - l.getD i 0 * eD l) (by omega) (by omega) (by omega) (by omega)
    have mE : (eD l).toNat * (eD l).toNat ≤ 27600 * 27600 := Nat.mul_le_mul (by omega) (by omega)
    have z4 : rsz (Rat.normalize ((cL l).getD i 0 - l.getD i 0 * eD l) (eD l).toNat hE * Rat.normalize ((cL l).getD i 0 - l.getD i 0 * eD l) (eD l).toNat hE) 2000 := by
      rw [norm_mul]
      exact norm_size _ (Nat.le_trans (dig_len (k := 3) (by simp only [pw]; omega)) (by omega)) (Nat.le_trans (dig_len (k := 3) (by simp only [pw]; omega)) (by omega))
    have k51 := f51_eq _ _ (RR_size hb h2 h hE (Nat.le_of_lt hi)) z4
    have hR : RR l hE i + Rat.normalize ((cL l).getD i 0 - l.getD i 0 * eD l) (eD l).toNat hE * Rat.normalize ((cL l).getD i 0 - l.getD i 0 * eD l) (eD l).toNat hE = RR l hE (i + 1) := norm_sq _ hE (sq l i)
    rw [hR] at k51
    generalize Rat.normalize ((cL l).getD i 0) (eD l).toNat hE = A at *
    generalize Rat.normalize ((cL l).getD i 0 - l.getD i 0 * eD l) (eD l).toNat hE = U at *
    have j49 : f49 ((((encR A).1.1, (encR A).1.2.1, ()), ((encR A).2.1.1, (encR A).2.1.2.1, ()), ()), (((encR ((l.getD i 0 : Int) : Rat)).1.1, (encR ((l.getD i 0 : Int) : Rat)).1.2.1, ()), ((encR ((l.getD i 0 : Int) : Rat)).2.1.1, (encR ((l.getD i 0 : Int) : Rat)).2.1.2.1, ()), ()), ()) = some (encR U, ()) := k49
    have j52 : f52 ((((encR U).1.1, (encR U).1.2.1, ()), ((encR U).2.1.1, (encR U).2.1.2.1, ()), ()), (((encR U).1.1, (encR U).1.2.1, ()), ((encR U).2.1.1, (encR U).2.1.2.1, ()), ()), ()) = some (encR (U * U), ()) := k52
    have j51 : f51 ((((encR (RR l hE i)).1.1, (encR (RR l hE i)).1.2.1, ()), ((encR (RR l hE i)).2.1.1, (encR (RR l hE i)).2.1.2.1, ()), ()), (((encR (U * U)).1.1, (encR (U * U)).1.2.1, ()), ((encR (U * U)).2.1.1, (encR (U * U)).2.1.2.1, ()), ()), ()) = some (encR (RR l hE (i + 1)), ()) := k51
    have e4 : wrap64 ((i : Int) + 1) = ((i + 1 : Nat) : Int) := wrap64_nat (by omega)
    simp only [s7_0, t7_0, Tr.val_test, Tr.val_fin, leF_eq, Int.toNat_natCast, g50, k50, g48, k48, g49, j49, g52, j52, g51, j51, Option.isSome_some, Option.getD_some, if_true, e4]
    rw [if_pos (by rw [cL_len]; simp; omega), if_pos (by rw [cL_len]; simp; omega), if_pos (by simp; omega)]
  · have : (cL l).length = l.length := cL_len l
    simp [s7_0, t7_0, leF_eq, this]

def farW (o l : List Int) : Nat → Int
  | 0 => 0
  | i + 1 => wrap64 (farW o l i + wrap64 (wrap64 (o.getD i 0 - l.getD i 0) * wrap64 (o.getD i 0 - l.getD i 0)))

def farE (o l : List Int) (n : Nat) : Int := sumZ (fun t => (o.getD t 0 - l.getD t 0) * (o.getD t 0 - l.getD t 0)) n

theorem farW_eq {o l : List Int} (ho : Bd 1000 o) (hb : Bd 1000 l) (hl : o.length = l.length) (h : l.length ≤ 24) : ∀ n, n ≤ l.length → farW o l n = farE o l n ∧ 0 ≤ farE o l n ∧ farE o l n ≤ 4000000 * n
  | 0, _ => by simp [farW, farE, sumZ]
  | n + 1, hn => by
    obtain ⟨h1, h2, h3⟩ := farW_eq ho hb hl h n (by omega)
    have a1 := ho n (by omega)
    have a2 := hb n (by omega)
    have e : farE o l (n + 1) = farE o l n + (o.getD n 0 - l.getD n 0) * (o.getD n 0 - l.getD n 0) := rfl
    rw [farW, h1, e]
    generalize hu : o.getD n 0 - l.getD n 0 = u at *
    have m := mul_bdd (A := 2000) (B := 2000) (x := u) (y := u) (by omega) (by omega) (by omega) (by omega)
    have p : 0 ≤ u * u := by
      rcases Int.le_total 0 u with h | h
      · exact Int.mul_nonneg h h
      · exact Int.mul_nonneg_of_nonpos_of_nonpos h h
    rw [wrap64_id (n := u) (by omega) (by omega), wrap64_id (n := u * u) (by omega) (by omega), wrap64_id (by omega) (by omega)]
    omega

theorem l7_2_eq (o : List Int) (x : Int) (l : List Int) (b0 : Int) (b1 : List Int) (b2 : Int) (b3 : List Int) (hl : o.length = l.length) (h : l.length ≤ 24) :
    l7_2 ((o, (0 : Int), (0 : Int), ()), (x, l, ()), (b0, b1, b2, b3, ()), ()) = match first (badS o) o.length 0 with
      | some _ => some (.inr ((true, ()), (x, l, ()), (b0, b1, b2, b3, ()), ()))
      | none => some (.inl ((o, farW o l o.length, ()), (x, l, ()), (b0, b1, b2, b3, ()), ())) := by
  refine itr_search (fun i => ((o, farW o l i, (i : Int), ()), (x, l, ()), (b0, b1, b2, b3, ()), ())) (badS o) (fun _ => ((true, ()), (x, l, ()), (b0, b1, b2, b3, ()), ())) (n := o.length) ?_ ?_ (lt_rounds (by omega))
  · intro i hi
    have e4 : wrap64 ((i : Int) + 1) = ((i + 1 : Nat) : Int) := wrap64_nat (by omega)
    simp only [s7_2, t7_2, Tr.val_test, Tr.val_fin, leF_eq, Int.toNat_natCast, g54, f54_eq, Option.isSome_some, Option.getD_some, if_true, e4, farW]
    rw [if_pos (by simp; omega), if_pos (by simp; omega), if_pos (show (decide ((0 : Int) ≤ (i : Int)) && decide ((i : Int) < (l.length : Int))) = true by simp; omega)]
    rfl
  · simp [s7_2, t7_2, leF_eq]

theorem sumZ_sq_nonneg (f : Nat → Int) : ∀ n, 0 ≤ sumZ (fun t => f t * f t) n
  | 0 => Int.le_refl _
  | n + 1 => by
    have h1 := sumZ_sq_nonneg f n
    have p : 0 ≤ f n * f n := by
      rcases Int.le_total 0 (f n) with h | h
      · exact Int.mul_nonneg h h
      · exact Int.mul_nonneg_of_nonpos_of_nonpos h h
    rw [sumZ]; omega

/-- Nothing that ends at rest is nearer. -/
theorem nearest {o l : List Int} (hb : Bd 1000 l) (h2 : 2 ≤ l.length) (h : l.length ≤ 24) (hl : o.length = l.length) (o1 : accE o l.length = 0) (o2 : accE2 o l.length = 0) : sq l l.length ≤ farE o l l.length * (eD l * eD l) := by
  obtain ⟨s1, s2⟩ := c_sums hb h2 h
  obtain ⟨d0, _, _, _⟩ := p_bounds hb h2 h
  rw [accE_sum] at s1 o1
  rw [accE2_sum _ (cL_len l)] at s2
  rw [accE2_sum _ hl] at o2
  have hX1 := sumZ_lin (eD l) (-1) (fun t => o.getD t 0) (fun t => (cL l).getD t 0) l.length
  rw [o1, s1] at hX1
  have hX2 := sumZ_lin (eD l) (-1) (fun t => ((l.length : Int) - t) * o.getD t 0) (fun t => ((l.length : Int) - t) * (cL l).getD t 0) l.length
  rw [o2, s2] at hX2
  have hcross : sumZ (fun t => (eD l * o.getD t 0 - (cL l).getD t 0) * ((cL l).getD t 0 - l.getD t 0 * eD l)) l.length = 0 := by
    refine (Int.mul_eq_zero.1 (?_ : _ * pD l = 0)).resolve_right (by omega)
    rw [← sumZ_mul]
    have := sumZ_lin (pP l * eD l) (pQ l * eD l) (fun t => eD l * o.getD t 0 + -1 * (cL l).getD t 0) (fun t => eD l * (((l.length : Int) - t) * o.getD t 0) + -1 * (((l.length : Int) - t) * (cL l).getD t 0)) l.length
    rw [hX1, hX2] at this
    refine Eq.trans (sumZ_congr _ fun i hi => ?_) (this.trans (by simp))
    have e := c_ch hb h2 h hi
    unfold ch at e
    generalize (cL l).getD i 0 = c at *
    generalize l.getD i 0 = a at *
    generalize o.getD i 0 = b at *
    generalize (l.length : Int) - (i : Int) = k at *
    rw [Int.mul_assoc, e]
    grind
  have hsq := sumZ_sq_nonneg (fun t => eD l * o.getD t 0 - (cL l).getD t 0) l.length
  have hid : farE o l l.length * (eD l * eD l) = 1 * sumZ (fun t => (eD l * o.getD t 0 - (cL l).getD t 0) * (eD l * o.getD t 0 - (cL l).getD t 0) + 2 * ((eD l * o.getD t 0 - (cL l).getD t 0) * ((cL l).getD t 0 - l.getD t 0 * eD l))) l.length + 1 * sq l l.length := by
    rw [farE, ← sumZ_mul, sq, ← sumZ_lin]
    refine sumZ_congr _ fun i _ => ?_
    generalize (cL l).getD i 0 = c at *
    generalize l.getD i 0 = a at *
    generalize o.getD i 0 = b at *
    grind
  have hl2 := sumZ_lin 1 2 (fun t => (eD l * o.getD t 0 - (cL l).getD t 0) * (eD l * o.getD t 0 - (cL l).getD t 0)) (fun t => (eD l * o.getD t 0 - (cL l).getD t 0) * ((cL l).getD t 0 - l.getD t 0 * eD l)) l.length
  rw [hcross] at hl2
  have hl3 : sumZ (fun t => (eD l * o.getD t 0 - (cL l).getD t 0) * (eD l * o.getD t 0 - (cL l).getD t 0) + 2 * ((eD l * o.getD t 0 - (cL l).getD t 0) * ((cL l).getD t 0 - l.getD t 0 * eD l))) l.length = sumZ (fun t => (eD l * o.getD t 0 - (cL l).getD t 0) * (eD l * o.getD t 0 - (cL l).getD t 0)) l.length := by
    refine Eq.trans (sumZ_congr _ fun i _ => ?_) (hl2.trans (by omega))
    omega
  rw [hid, hl3]
  omega

theorem norm_le {S f : Int} {D : Nat} (hD : D ≠ 0) (h : S ≤ f * D) : (Rat.normalize S D hD).num * (((f : Int) : Rat).den : Int) - ((f : Int) : Rat).num * ((Rat.normalize S D hD).den : Int) ≤ 0 := by
  rw [Rat.num_intCast, Rat.den_intCast, Rat.normalize_eq]
  have g0 : 0 < S.natAbs.gcd D := Nat.gcd_pos_of_pos_right _ (by omega)
  have d1 : ((S.natAbs.gcd D : Nat) : Int) ∣ S := Int.ofNat_dvd_left.2 (Nat.gcd_dvd_left _ _)
  have d2 : S.natAbs.gcd D ∣ D := Nat.gcd_dvd_right _ _
  show S / ((S.natAbs.gcd D : Nat) : Int) * ((1 : Nat) : Int) - f * ((D / S.natAbs.gcd D : Nat) : Int) ≤ 0
  have e1 := Int.ediv_mul_cancel d1
  have e2 := Nat.div_mul_cancel d2
  generalize S.natAbs.gcd D = g at *
  generalize S / (g : Int) = p at *
  generalize D / g = q at *
  have h3 : p * (g : Int) ≤ f * (q : Int) * (g : Int) := by
    rw [e1, Int.mul_assoc, ← Int.natCast_mul, e2]; exact h
  have := Int.le_of_mul_le_mul_right h3 (by omega)
  omega

theorem f29_long (x : Int) (l : List Int) (h : 24 < l.length) : f29 ((x, l, ()), ()) = some ((chk x l).2, ()) ∧ (chk x l).2 ≠ 0 := by
  have h22 : f22 ((x, l, ()), ()) = some ((chk x l).1, (chk x l).2, ()) := by
    simp only [f22, t22, g47, f47_eq, Tr.val_test, leF_eq, Option.isSome, if_true, Option.getD]
    unfold chk
    by_cases h1 : x < 1 ∨ 1000000 < x
    · rw [if_pos h1, if_pos (by simp; omega)]; rfl
    · have h2 : ¬ l.length < 2 := by omega
      rw [if_neg h1, if_neg (by simp; omega)]
      rw [if_neg h2, if_neg (by simp; omega)]
      rw [if_pos h, if_pos (by simp; omega)]; rfl
  refine ⟨?_, ?_⟩
  · simp only [f29, t29, g22, h22, Tr.val_test, Tr.val_fin, Option.isSome_some, Option.getD_some, if_true]
  · unfold chk
    split
    · decide
    · split
      · decide
      · first | decide | (rw [if_pos h]; decide)

/-- A record that ends at rest is its own rest. -/
theorem own_rest {l : List Int} (hb : Bd 1000 l) (h2 : 2 ≤ l.length) (h : l.length ≤ 24) (v : accE l l.length = 0) (d : accE2 l l.length = 0) : pD l = 1 ∧ pP l = 0 ∧ pQ l = 0 ∧ eD l = 1 ∧ cL l = l := by
  obtain ⟨_, _, ⟨d0, _⟩, _, _⟩ := pr_bounds hb h2 h
  have hp : prP l = 0 := by unfold prP; rw [v, d]; simp
  have hq : prQ l = 0 := by unfold prQ; rw [v, d]; simp
  have hg : (prG l : Int) = pr0 l := by
    unfold prG lwG
    rw [hp, hq]
    show ((Nat.gcd (pr0 l).natAbs (gn [0, 0] 2) : Nat) : Int) = pr0 l
    have : gn [0, 0] 2 = 0 := by decide
    rw [this, Nat.gcd_zero_right]; omega
  have e1 : pD l = 1 := by unfold pD; rw [hg]; exact Int.tdiv_self (by omega)
  have e2 : pP l = 0 := by unfold pP; rw [hp]; exact Int.zero_tdiv _
  have e3 : pQ l = 0 := by unfold pQ; rw [hq]; exact Int.zero_tdiv _
  have e4 : (lwG (pD l) (bL l l.length) : Int) = 1 := by
    unfold lwG; rw [e1]
    show ((Nat.gcd 1 _ : Nat) : Int) = 1
    rw [Nat.gcd_one_left]; rfl
  refine ⟨e1, e2, e3, ?_, ?_⟩
  · unfold eD; rw [e4, e1]; rfl
  · refine List.ext_getElem (by rw [cL_len]) fun i hi hi' => ?_
    have := cL_get (l := l) (i := i) hi'
    rw [e4, Int.tdiv_one, e1] at this
    have hch : ch l i = 0 := by unfold ch; rw [e2, e3]; simp
    rw [hch, Int.mul_one, Int.add_zero] at this
    simpa [List.getD, hi, hi'] using this

theorem badS_none {o : List Int} (h : first (badS o) o.length 0 = none) : Bd 1000 o := fun i hi => by
  have := first_none h i (by omega) (by omega)
  simpa [badS] using this

set_option maxHeartbeats 2000000 in
theorem f7_eq (x : Int) (l o : List Int) (y0 y1 : Int) (h : l.length ≤ 1000000000) : f7 ((x, l, ()), o, (y0, y1, ()), ()) = some (true, ()) := by
  by_cases hc : (chk x l).2 = 0
  rotate_left
  · simp only [f7, t7, g29, f29_eq x l h, Tr.val_test, Tr.val_fin, eqF_eq, Option.isSome_some, Option.getD_some, if_true]
    simp [hc]
  by_cases hy : (decide (-1000 ≤ y1) && decide (y1 ≤ 1000)) = true
  rotate_left
  · simp only [f7, t7, g29, f29_eq x l h, hc, g47, f47_eq, Tr.val_test, Tr.val_fin, eqF_eq, Option.isSome_some, Option.getD_some, if_true]
    simp only [Bool.not_eq_true] at hy
    simp [hy]
  obtain ⟨h2, h24, hb, _, _⟩ := chk_ok hc
  obtain ⟨e0, e1⟩ := eD_bound hb h2 h24
  obtain ⟨d0, d1, p1, q1⟩ := p_bounds hb h2 h24
  obtain ⟨a1, a2, _, _, _⟩ := pr_bounds hb h2 h24
  have hE : (eD l).toNat ≠ 0 := by omega
  have hcl := cL_len l
  have e18 := f18_new x l (by omega)
  have e40 := f40_eq (x := x) hc
  have e41 := f41_eq (x := x) hc
  have e42 := f42_ok (x := x) hc
  have e48 := f48_eq 0 (by decide)
  have e70 := l7_0_eq x y0 y1 o hb h2 h24 hE
  have w1 : wrap64 (accE l l.length) = accE l l.length := wrap64_id (by omega) (by omega)
  have w2 : wrap64 (accE2 l l.length) = accE2 l l.length := wrap64_id (by omega) (by omega)
  have e21 : f21 ((x, l, ()), ()) = some ((accE l l.length, accE2 l l.length, ()), (0 : Int), ()) := by
    rw [f21_eq x l h, if_pos hc, hc, w1, w2]
  have t1 : Nat.beq l.length 0 = false := by rw [← Bool.not_eq_true, beq_eq_true']; omega
  have t2 : Nat.ble l.length 0 = false := by rw [← Bool.not_eq_true, ble_eq_true']; omega
  have t3 : (Nat.ble ((2 * l.length + 192) * 8) 281474976710656 && Nat.ble l.length 281474976710656) = true := by simp; omega
  have t4 : Nat.beq l.length l.length = true := Nat.beq_refl _
  have t5 : decide ((1 : Int) ≤ eD l) = true := by simp; omega
  have t6 : decide (eD l ≤ (1000000000 : Int)) = true := by simp; omega
  -- what follows the equations
  have key : (decide ((o.length : Int) = (l.length : Int)) = false) ∨ (decide ((o.length : Int) = (l.length : Int)) = true ∧ ((l7_2 ((o, (0 : Int), (0 : Int), ()), (x, l, ()), ((encR (RR l hE l.length)).1.1, (encR (RR l hE l.length)).1.2.1, (encR (RR l hE l.length)).2.1.1, (encR (RR l hE l.length)).2.1.2.1, ()), ()) = some (.inr ((true, ()), (x, l, ()), ((encR (RR l hE l.length)).1.1, (encR (RR l hE l.length)).1.2.1, (encR (RR l hE l.length)).2.1.1, (encR (RR l hE l.length)).2.1.2.1, ()), ()))) ∨
      (l7_2 ((o, (0 : Int), (0 : Int), ()), (x, l, ()), ((encR (RR l hE l.length)).1.1, (encR (RR l hE l.length)).1.2.1, (encR (RR l hE l.length)).2.1.1, (encR (RR l hE l.length)).2.1.2.1, ()), ()) = some (.inl ((o, farW o l o.length, ()), (x, l, ()), ((encR (RR l hE l.length)).1.1, (encR (RR l hE l.length)).1.2.1, (encR (RR l hE l.length)).2.1.1, (encR (RR l hE l.length)).2.1.2.1, ()), ())) ∧ f26 (o, ()) = some ((wrap64 (accE o o.length), wrap64 (accE2 o o.length), ()), ()) ∧
        ((wrap64 (accE o o.length) == 0 && (wrap64 (accE2 o o.length) == 0 && true)) = false ∨ ((wrap64 (accE o o.length) == 0 && (wrap64 (accE2 o o.length) == 0 && true)) = true ∧ f48 (farW o l o.length, ()) = some (encR ((farW o l o.length : Int) : Rat), ()) ∧
          ∃ sgn, f55 ((((encR (RR l hE l.length)).1.1, (encR (RR l hE l.length)).1.2.1, ()), ((encR (RR l hE l.length)).2.1.1, (encR (RR l hE l.length)).2.1.2.1, ()), ()), (((encR ((farW o l o.length : Int) : Rat)).1.1, (encR ((farW o l o.length : Int) : Rat)).1.2.1, ()), ((encR ((farW o l o.length : Int) : Rat)).2.1.1, (encR ((farW o l o.length : Int) : Rat)).2.1.2.1, ()), ()), ()) = some (sgn, ()) ∧ decide (sgn ≤ 0) = true))))) := by
    by_cases hol : o.length = l.length
    · refine .inr ⟨by simp [hol], ?_⟩
      have e72 := l7_2_eq o x l (encR (RR l hE l.length)).1.1 (encR (RR l hE l.length)).1.2.1 (encR (RR l hE l.length)).2.1.1 (encR (RR l hE l.length)).2.1.2.1 hol h24
      cases hf : first (badS o) o.length 0 with
      | some k => rw [hf] at e72; exact .inl e72
      | none =>
        rw [hf] at e72
        refine .inr ⟨e72, f26_eq o (by omega), ?_⟩
        have ho := badS_none hf
        obtain ⟨b1, b2, _, _, _⟩ := pr_bounds ho (by omega) (by omega)
        have v1 : wrap64 (accE o o.length) = accE o o.length := wrap64_id (by omega) (by omega)
        have v2 : wrap64 (accE2 o o.length) = accE2 o o.length := wrap64_id (by omega) (by omega)
        rw [v1, v2]
        cases hz : (accE o o.length == 0 && (accE2 o o.length == 0 && true)) with
        | false => exact .inl rfl
        | true =>
          refine .inr ⟨rfl, ?_⟩
          simp only [Bool.and_true, Bool.and_eq_true, beq_iff_eq] at hz
          obtain ⟨z1, z2⟩ := hz
          obtain ⟨g1, g2, g3⟩ := farW_eq ho hb hol h24 o.length (by omega)
          refine ⟨f48_eq _ (by omega), _, f55_eq (RR l hE l.length) ((farW o l o.length : Int) : Rat) (RR_size hb h2 h24 hE (Nat.le_refl _)) ⟨Nat.le_trans (dig_len (k := 3) (by rw [Rat.num_intCast]; simp only [pw]; omega)) (by omega), Nat.le_trans (dig_len (k := 3) (by rw [Rat.den_intCast]; simp only [pw]; omega)) (by omega)⟩, ?_⟩
          have hn := nearest hb h2 h24 hol (by rw [← hol]; exact z1) (by rw [← hol]; exact z2)
          rw [← hol, ← g1] at hn
          have hEe : (((eD l).toNat * (eD l).toNat : Nat) : Int) = eD l * eD l := by rw [Int.natCast_mul, show (((eD l).toNat : Nat) : Int) = eD l by omega]
          have hs := norm_le (S := sq l l.length) (f := farW o l o.length) (Nat.mul_ne_zero hE hE) (by rw [hEe, ← hol]; exact hn)
          have hs2 : (RR l hE l.length).num * ((((farW o l o.length : Int) : Rat)).den : Int) - (((farW o l o.length : Int) : Rat)).num * ((RR l hE l.length).den : Int) ≤ 0 := hs
          generalize (RR l hE l.length).num * ((((farW o l o.length : Int) : Rat)).den : Int) - (((farW o l o.length : Int) : Rat)).num * ((RR l hE l.length).den : Int) = w at *
          rcases sgn_cases w with ⟨_, es⟩ | ⟨_, es⟩ | ⟨hw, es⟩
          · rw [es]; rfl
          · rw [es]; rfl
          · omega
    · exact .inl (by simp; omega)
  have front : ((accE l l.length == 0 && (accE2 l l.length == 0 && true)) = false) ∨ ((accE l l.length == 0 && (accE2 l l.length == 0 && true)) = true ∧ f44 ((eD l, cL l, ()), ((1 : Int), l, ()), ()) = some (true, ()) ∧ (pD l == 1 && (pP l == 0 && (pQ l == 0 && true))) = true) := by
    cases hz : (accE l l.length == 0 && (accE2 l l.length == 0 && true)) with
    | false => exact .inl rfl
    | true =>
      simp only [Bool.and_true, Bool.and_eq_true, beq_iff_eq] at hz
      obtain ⟨r1, r2, r3, r4, r5⟩ := own_rest hb h2 h24 hz.1 hz.2
      refine .inr ⟨rfl, ?_, by rw [r1, r2, r3]; rfl⟩
      rw [r4, r5]
      have e23 := f23_self l h
      simp only [f44, t44, g23, e23, Tr.val_test, Tr.val_fin, eqF_eq, Option.isSome_some, Option.getD_some, if_true, decide_true]
  rcases front with q1 | ⟨q1, q2, q3⟩
  · by_cases hy0 : y1 = 0
    · subst hy0
      rcases key with k1 | ⟨k1, k2 | ⟨k2, k3, k4 | ⟨k4, k5, sgn, k6, k7⟩⟩⟩
      · simp only [f7, t7, g29, f29_eq x l h, hc, g47, f47_eq, hy, g18, e18, g40, e40, g41, e41, hcl, t1, t2, t3, t4, t5, t6, List.nil_append, Nat.zero_add, g42, e42, g48, e48, b7_0, e70, isBrk, outB, g21, e21, Tr.val_test, Tr.val_fin, eqF_eq, leF_eq, Option.isSome_some, Option.getD_some, if_true, if_false, decide_true, Bool.not_true, Bool.false_eq_true, Bool.not_false, q1, k1]
      · simp only [f7, t7, g29, f29_eq x l h, hc, g47, f47_eq, hy, g18, e18, g40, e40, g41, e41, hcl, t1, t2, t3, t4, t5, t6, List.nil_append, Nat.zero_add, g42, e42, g48, e48, b7_0, e70, isBrk, outB, g21, e21, Tr.val_test, Tr.val_fin, eqF_eq, leF_eq, Option.isSome_some, Option.getD_some, if_true, if_false, decide_true, Bool.not_true, Bool.false_eq_true, Bool.not_false, q1, k1, k2, isRet, r7_2, outR]
      · simp only [f7, t7, g29, f29_eq x l h, hc, g47, f47_eq, hy, g18, e18, g40, e40, g41, e41, hcl, t1, t2, t3, t4, t5, t6, List.nil_append, Nat.zero_add, g42, e42, g48, e48, b7_0, e70, isBrk, outB, g21, e21, Tr.val_test, Tr.val_fin, eqF_eq, leF_eq, Option.isSome_some, Option.getD_some, if_true, if_false, decide_true, Bool.not_true, Bool.false_eq_true, Bool.not_false, q1, k1, k2, isRet, b7_2, g26, k3, k4]
      · simp only [f7, t7, g29, f29_eq x l h, hc, g47, f47_eq, hy, g18, e18, g40, e40, g41, e41, hcl, t1, t2, t3, t4, t5, t6, List.nil_append, Nat.zero_add, g42, e42, g48, e48, b7_0, e70, isBrk, outB, g21, e21, Tr.val_test, Tr.val_fin, eqF_eq, leF_eq, Option.isSome_some, Option.getD_some, if_true, if_false, decide_true, Bool.not_true, Bool.false_eq_true, Bool.not_false, q1, k1, k2, isRet, b7_2, g26, k3, k4, k5, g55, k6, k7]
    · have hyn : decide (y1 = 0) = false := by simp [hy0]
      obtain ⟨k, hk, e53⟩ := f53_eq y0 l.length (by omega) (by omega)
      have hy' : -1000 ≤ y1 ∧ y1 ≤ 1000 := by simpa using hy
      obtain ⟨oi, og, e42o, hog⟩ := f42_odd (x := x) hc hk hy0 hy'
      have hck := cL_bound hb h2 h24 hk
      have wk : wrap64 ((cL l).getD k 0 + y1) = (cL l).getD k 0 + y1 := wrap64_id (by omega) (by omega)
      have u7 : (decide ((0 : Int) ≤ (k : Int)) && decide ((k : Int) < (l.length : Int))) = true := by simp; omega
      have t8 : Nat.ble (k + 1) l.length = true := by rw [ble_eq_true']; omega
      have t9 : (decide (-1000000000000 ≤ (cL l).getD k 0) && decide ((cL l).getD k 0 ≤ 1000000000000)) = true := by
        rw [Bool.and_eq_true, decide_eq_true_eq, decide_eq_true_eq]; omega
      have u10 : decide (og = 0) = false := by simp [hog]
      rcases key with k1 | ⟨k1, k2 | ⟨k2, k3, k4 | ⟨k4, k5, sgn, k6, k7⟩⟩⟩
      · simp only [f7, t7, g29, f29_eq x l h, hc, g47, f47_eq, hy, g18, e18, g40, e40, g41, e41, hcl, t1, t2, t3, t4, t5, t6, List.nil_append, Nat.zero_add, g42, e42, g48, e48, b7_0, e70, isBrk, outB, g21, e21, Tr.val_test, Tr.val_fin, eqF_eq, leF_eq, Option.isSome_some, Option.getD_some, if_true, if_false, decide_true, Bool.not_true, Bool.false_eq_true, Bool.not_false, q1, hyn, g53, e53, Int.toNat_natCast, u7, t8, t9, List.length_set, wk, e42o, u10, k1]
      · simp only [f7, t7, g29, f29_eq x l h, hc, g47, f47_eq, hy, g18, e18, g40, e40, g41, e41, hcl, t1, t2, t3, t4, t5, t6, List.nil_append, Nat.zero_add, g42, e42, g48, e48, b7_0, e70, isBrk, outB, g21, e21, Tr.val_test, Tr.val_fin, eqF_eq, leF_eq, Option.isSome_some, Option.getD_some, if_true, if_false, decide_true, Bool.not_true, Bool.false_eq_true, Bool.not_false, q1, hyn, g53, e53, Int.toNat_natCast, u7, t8, t9, List.length_set, wk, e42o, u10, k1, k2, isRet, r7_2, outR]
      · simp only [f7, t7, g29, f29_eq x l h, hc, g47, f47_eq, hy, g18, e18, g40, e40, g41, e41, hcl, t1, t2, t3, t4, t5, t6, List.nil_append, Nat.zero_add, g42, e42, g48, e48, b7_0, e70, isBrk, outB, g21, e21, Tr.val_test, Tr.val_fin, eqF_eq, leF_eq, Option.isSome_some, Option.getD_some, if_true, if_false, decide_true, Bool.not_true, Bool.false_eq_true, Bool.not_false, q1, hyn, g53, e53, Int.toNat_natCast, u7, t8, t9, List.length_set, wk, e42o, u10, k1, k2, isRet, b7_2, g26, k3, k4]
      · simp only [f7, t7, g29, f29_eq x l h, hc, g47, f47_eq, hy, g18, e18, g40, e40, g41, e41, hcl, t1, t2, t3, t4, t5, t6, List.nil_append, Nat.zero_add, g42, e42, g48, e48, b7_0, e70, isBrk, outB, g21, e21, Tr.val_test, Tr.val_fin, eqF_eq, leF_eq, Option.isSome_some, Option.getD_some, if_true, if_false, decide_true, Bool.not_true, Bool.false_eq_true, Bool.not_false, q1, hyn, g53, e53, Int.toNat_natCast, u7, t8, t9, List.length_set, wk, e42o, u10, k1, k2, isRet, b7_2, g26, k3, k4, k5, g55, k6, k7]
  · by_cases hy0 : y1 = 0
    · subst hy0
      rcases key with k1 | ⟨k1, k2 | ⟨k2, k3, k4 | ⟨k4, k5, sgn, k6, k7⟩⟩⟩
      · simp only [f7, t7, g29, f29_eq x l h, hc, g47, f47_eq, hy, g18, e18, g40, e40, g41, e41, hcl, t1, t2, t3, t4, t5, t6, List.nil_append, Nat.zero_add, g42, e42, g48, e48, b7_0, e70, isBrk, outB, g21, e21, Tr.val_test, Tr.val_fin, eqF_eq, leF_eq, Option.isSome_some, Option.getD_some, if_true, if_false, decide_true, Bool.not_true, Bool.false_eq_true, Bool.not_false, q1, g44, q2, q3, k1]
      · simp only [f7, t7, g29, f29_eq x l h, hc, g47, f47_eq, hy, g18, e18, g40, e40, g41, e41, hcl, t1, t2, t3, t4, t5, t6, List.nil_append, Nat.zero_add, g42, e42, g48, e48, b7_0, e70, isBrk, outB, g21, e21, Tr.val_test, Tr.val_fin, eqF_eq, leF_eq, Option.isSome_some, Option.getD_some, if_true, if_false, decide_true, Bool.not_true, Bool.false_eq_true, Bool.not_false, q1, g44, q2, q3, k1, k2, isRet, r7_2, outR]
      · simp only [f7, t7, g29, f29_eq x l h, hc, g47, f47_eq, hy, g18, e18, g40, e40, g41, e41, hcl, t1, t2, t3, t4, t5, t6, List.nil_append, Nat.zero_add, g42, e42, g48, e48, b7_0, e70, isBrk, outB, g21, e21, Tr.val_test, Tr.val_fin, eqF_eq, leF_eq, Option.isSome_some, Option.getD_some, if_true, if_false, decide_true, Bool.not_true, Bool.false_eq_true, Bool.not_false, q1, g44, q2, q3, k1, k2, isRet, b7_2, g26, k3, k4]
      · simp only [f7, t7, g29, f29_eq x l h, hc, g47, f47_eq, hy, g18, e18, g40, e40, g41, e41, hcl, t1, t2, t3, t4, t5, t6, List.nil_append, Nat.zero_add, g42, e42, g48, e48, b7_0, e70, isBrk, outB, g21, e21, Tr.val_test, Tr.val_fin, eqF_eq, leF_eq, Option.isSome_some, Option.getD_some, if_true, if_false, decide_true, Bool.not_true, Bool.false_eq_true, Bool.not_false, q1, g44, q2, q3, k1, k2, isRet, b7_2, g26, k3, k4, k5, g55, k6, k7]
    · have hyn : decide (y1 = 0) = false := by simp [hy0]
      obtain ⟨k, hk, e53⟩ := f53_eq y0 l.length (by omega) (by omega)
      have hy' : -1000 ≤ y1 ∧ y1 ≤ 1000 := by simpa using hy
      obtain ⟨oi, og, e42o, hog⟩ := f42_odd (x := x) hc hk hy0 hy'
      have hck := cL_bound hb h2 h24 hk
      have wk : wrap64 ((cL l).getD k 0 + y1) = (cL l).getD k 0 + y1 := wrap64_id (by omega) (by omega)
      have u7 : (decide ((0 : Int) ≤ (k : Int)) && decide ((k : Int) < (l.length : Int))) = true := by simp; omega
      have t8 : Nat.ble (k + 1) l.length = true := by rw [ble_eq_true']; omega
      have t9 : (decide (-1000000000000 ≤ (cL l).getD k 0) && decide ((cL l).getD k 0 ≤ 1000000000000)) = true := by
        rw [Bool.and_eq_true, decide_eq_true_eq, decide_eq_true_eq]; omega
      have u10 : decide (og = 0) = false := by simp [hog]
      rcases key with k1 | ⟨k1, k2 | ⟨k2, k3, k4 | ⟨k4, k5, sgn, k6, k7⟩⟩⟩
      · simp only [f7, t7, g29, f29_eq x l h, hc, g47, f47_eq, hy, g18, e18, g40, e40, g41, e41, hcl, t1, t2, t3, t4, t5, t6, List.nil_append, Nat.zero_add, g42, e42, g48, e48, b7_0, e70, isBrk, outB, g21, e21, Tr.val_test, Tr.val_fin, eqF_eq, leF_eq, Option.isSome_some, Option.getD_some, if_true, if_false, decide_true, Bool.not_true, Bool.false_eq_true, Bool.not_false, q1, g44, q2, q3, hyn, g53, e53, Int.toNat_natCast, u7, t8, t9, List.length_set, wk, e42o, u10, k1]
      · simp only [f7, t7, g29, f29_eq x l h, hc, g47, f47_eq, hy, g18, e18, g40, e40, g41, e41, hcl, t1, t2, t3, t4, t5, t6, List.nil_append, Nat.zero_add, g42, e42, g48, e48, b7_0, e70, isBrk, outB, g21, e21, Tr.val_test, Tr.val_fin, eqF_eq, leF_eq, Option.isSome_some, Option.getD_some, if_true, if_false, decide_true, Bool.not_true, Bool.false_eq_true, Bool.not_false, q1, g44, q2, q3, hyn, g53, e53, Int.toNat_natCast, u7, t8, t9, List.length_set, wk, e42o, u10, k1, k2, isRet, r7_2, outR]
      · simp only [f7, t7, g29, f29_eq x l h, hc, g47, f47_eq, hy, g18, e18, g40, e40, g41, e41, hcl, t1, t2, t3, t4, t5, t6, List.nil_append, Nat.zero_add, g42, e42, g48, e48, b7_0, e70, isBrk, outB, g21, e21, Tr.val_test, Tr.val_fin, eqF_eq, leF_eq, Option.isSome_some, Option.getD_some, if_true, if_false, decide_true, Bool.not_true, Bool.false_eq_true, Bool.not_false, q1, g44, q2, q3, hyn, g53, e53, Int.toNat_natCast, u7, t8, t9, List.length_set, wk, e42o, u10, k1, k2, isRet, b7_2, g26, k3, k4]
      · simp only [f7, t7, g29, f29_eq x l h, hc, g47, f47_eq, hy, g18, e18, g40, e40, g41, e41, hcl, t1, t2, t3, t4, t5, t6, List.nil_append, Nat.zero_add, g42, e42, g48, e48, b7_0, e70, isBrk, outB, g21, e21, Tr.val_test, Tr.val_fin, eqF_eq, leF_eq, Option.isSome_some, Option.getD_some, if_true, if_false, decide_true, Bool.not_true, Bool.false_eq_true, Bool.not_false, q1, g44, q2, q3, hyn, g53, e53, Int.toNat_natCast, u7, t8, t9, List.length_set, wk, e42o, u10, k1, k2, isRet, b7_2, g26, k3, k4, k5, g55, k6, k7]

theorem f7_all (x : Int) (l o : List Int) (y0 y1 : Int) : f7 ((x, l, ()), o, (y0, y1, ()), ()) = some (true, ()) := by
  by_cases h : l.length ≤ 1000000000
  · exact f7_eq x l o y0 y1 h
  · obtain ⟨h1, h2⟩ := f29_long x l (by omega)
    simp only [f7, t7, Tr.val_test, g29, h1, eqF_eq, Option.isSome_some, Option.getD_some, if_true, Tr.val_fin]
    simp [h2]

theorem law7 (d : Tys.data as7) : Pure1 Go.Proofs.Try.prog 7 as7 [.bool] d (true, ()) := by
  have h := f7_all d.1.1 d.1.2.1 d.2.1 d.2.2.1.1 d.2.2.1.2.1
  have hp : p7.pre d = true := by
    show Option.isSome (f7 d) = true
    rw [show f7 d = some (true, ()) from h]; rfl
  have hg : p7.fn d = (true, ()) := by
    show (f7 d).getD _ = _
    rw [show f7 d = some (true, ()) from h]; rfl
  have := ok7.runs d hp
  rw [hg] at this
  exact this

end Go.Vm.Mo
