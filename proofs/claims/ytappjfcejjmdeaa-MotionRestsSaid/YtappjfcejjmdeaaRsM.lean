import Derived.Test.YtappjfcejjmdeaaRsFc
import Derived.Test.YtappjfcejjmdeaaA4
set_option linter.unusedVariables false
set_option linter.unusedSimpArgs false

namespace Go.Vm.Mo
open Go
set_option linter.unusedVariables false

def accW (l : List Int) : Nat → Int
  | 0 => 0
  | i + 1 => wrap64 (accW l i + l.getD i 0)

/-- Sums, exact. -/
def accE (l : List Int) : Nat → Int
  | 0 => 0
  | i + 1 => accE l i + l.getD i 0

def accE2 (l : List Int) : Nat → Int
  | 0 => 0
  | i + 1 => accE2 l i + accE l (i + 1)

/-- The weighted sum. -/
def wsum (l : List Int) (n : Int) : Nat → Int
  | 0 => 0
  | i + 1 => wsum l n i + (n - i) * l.getD i 0

theorem wsum_eq (l : List Int) (n : Int) : ∀ i : Nat, wsum l n i = accE2 l i + (n - i) * accE l i
  | 0 => by simp [wsum, accE2, accE]
  | i + 1 => by
    rw [wsum, wsum_eq l n i, accE2, accE]
    have e : (n - ((i + 1 : Nat) : Int)) = (n - i) - 1 := by omega
    rw [e, Int.sub_mul _ 1, Int.one_mul, Int.mul_add]
    omega

theorem l90 (l : List Int) (h : l.length ≤ 1000000000) : l90_0 ((l, (l.length : Int), (0 : Int), ()), ((0 : Int), (0 : Int), ()), ((0 : Int), (0 : Int), ()), ()) = some (.inl ((), ((0 : Int), (0 : Int), ()), (wrap64 (accE l l.length), wrap64 (accE2 l l.length), ()), ())) := by
  refine itr_brk (fun i => ((l, (l.length : Int), (i : Int), ()), ((0 : Int), (0 : Int), ()), (wrap64 (accE l i), wrap64 (accE2 l i), ()), ())) (n := l.length) ?_ ?_ (lt_rounds (by omega))
  · intro i hi
    simp only [s90_0, t90_0, Tr.val_test, Tr.val_fin, leF_eq]
    rw [if_pos (by simp; omega), if_pos (by simp; omega)]
    simp only [Int.toNat_natCast, wrap64_nat (show i ≤ 9223372036854775806 by omega), wrap64_add_l, wrap64_add_r, accE, accE2]
  · simp [s90_0, t90_0, leF_eq]

theorem f90_eq (l : List Int) (h : l.length ≤ 1000000000) : f90 (l, ()) = some ((wrap64 (accE l l.length), wrap64 (accE2 l l.length), ()), ()) := by
  simp only [f90, t90, b90_0, l90 l h, Tr.val_test, isBrk, if_true, outB]; rfl

theorem l26 (l : List Int) (h : l.length ≤ 1000000000) : l26_0 ((l, (0 : Int), ()), ((0 : Int), (0 : Int), ()), ((0 : Int), (0 : Int), ()), ()) = some (.inl ((), ((0 : Int), (0 : Int), ()), (wrap64 (accE l l.length), wrap64 (wsum l l.length l.length), ()), ())) := by
  refine itr_brk (fun i => ((l, (i : Int), ()), ((0 : Int), (0 : Int), ()), (wrap64 (accE l i), wrap64 (wsum l l.length i), ()), ())) (n := l.length) ?_ ?_ (lt_rounds (by omega))
  · intro i hi
    simp only [s26_0, t26_0, Tr.val_test, Tr.val_fin, leF_eq]
    rw [if_pos (by simp; omega), if_pos (by simp; omega)]
    simp only [Int.toNat_natCast, wrap64_nat (show i ≤ 9223372036854775806 by omega), wrap64_add_l, wrap64_add_r, wrap64_mul_l, accE, wsum]
  · simp [s26_0, t26_0, leF_eq]

theorem f26_eq (l : List Int) (h : l.length ≤ 1000000000) : f26 (l, ()) = some ((wrap64 (accE l l.length), wrap64 (accE2 l l.length), ()), ()) := by
  have : wsum l l.length l.length = accE2 l l.length := by rw [wsum_eq]; simp
  simp only [f26, t26, b26_0, l26 l h, Tr.val_test, isBrk, if_true, outB, this]; rfl

theorem l23 (l : List Int) (h : l.length ≤ 1000000000) : l23_0 ((l, l, (0 : Int), ()), ()) = some (.inl ((), ())) := by
  refine itr_brk (fun i => ((l, l, (i : Int), ()), ())) (n := l.length) ?_ ?_ (lt_rounds (by omega))
  · intro i hi
    simp only [s23_0, t23_0, Tr.val_test, Tr.val_fin, leF_eq, eqF_eq]
    rw [if_pos (by simp; omega), if_pos (by simp; omega), if_pos (by simp; omega), if_neg (by simp)]
    simp only [wrap64_nat (show i ≤ 9223372036854775806 by omega)]
  · simp [s23_0, t23_0, leF_eq]

theorem f23_self (l : List Int) (h : l.length ≤ 1000000000) : f23 (l, l, ()) = some (true, ()) := by
  simp only [f23, t23, l23 l h, Tr.val_test, isRet, eqF_eq, decide_true, Bool.not_true, Bool.false_eq_true, if_false, Option.isSome, if_true]; rfl

def badS (l : List Int) (i : Nat) : Bool := !(decide (-1000 ≤ l.getD i 0) && decide (l.getD i 0 ≤ 1000))

def chk (x : Int) (l : List Int) : Int × Int :=
  if x < 1 ∨ 1000000 < x then (0, 2)
  else if l.length < 2 then (0, 10)
  else if 24 < l.length then (0, 8)
  else match first (badS l) l.length 0 with
    | some k => (k, 2)
    | none => (0, 0)

theorem f47_eq (d : Tys.data as47) : f47 d = some (decide ((d.2.1 : Int) ≤ d.1) && decide ((d.1 : Int) ≤ d.2.2.1), ()) := by
  simp only [f47, t47, Tr.val_test, leF_eq, decide_eq_true_eq]
  split <;> simp [*]

theorem f54_eq (d : Tys.data as54) : f54 d = some (decide ((-1000 : Int) ≤ d.1) && decide (d.1 ≤ (1000 : Int)), ()) := by
  simp only [f54, t54, g47, f47_eq, Tr.val_test, Option.isSome, if_true, Option.getD]; rfl

theorem l22 (x : Int) (l : List Int) (h : l.length ≤ 1000000000) : l22_0 (((0 : Int), ()), (x, l, ()), ()) = match first (badS l) l.length 0 with
    | some k => some (.inr (((k : Int), (2 : Int), ()), (x, l, ()), ()))
    | none => some (.inl ((), (x, l, ()), ())) := by
  refine itr_search (fun i => (((i : Int), ()), (x, l, ()), ())) (badS l) (fun k => (((k : Int), (2 : Int), ()), (x, l, ()), ())) (n := l.length) ?_ ?_ (lt_rounds (by omega))
  · intro i hi
    simp only [s22_0, t22_0, Tr.val_test, leF_eq, g54, f54_eq, Option.isSome, if_true, Option.getD]
    rw [if_pos (by simp; omega), if_pos (by simp; omega)]
    simp only [Int.toNat_natCast, wrap64_nat (show i ≤ 9223372036854775806 by omega), badS]
    rfl
  · simp [s22_0, t22_0, leF_eq]

theorem f22_eq (x : Int) (l : List Int) (h : l.length ≤ 1000000000) : f22 ((x, l, ()), ()) = some ((chk x l).1, (chk x l).2, ()) := by
  simp only [f22, t22, g47, f47_eq, Tr.val_test, leF_eq, Option.isSome, if_true, Option.getD, r22_0, l22 x l h]
  unfold chk
  by_cases h1 : x < 1 ∨ 1000000 < x
  · rw [if_pos h1, if_pos (by simp; omega)]; rfl
  · rw [if_neg h1, if_neg (by simp; omega)]
    by_cases h2 : l.length < 2
    · rw [if_pos h2, if_pos (by simp; omega)]; rfl
    · rw [if_neg h2, if_neg (by simp; omega)]
      by_cases h3 : 24 < l.length
      · rw [if_pos h3, if_pos (by simp; omega)]; rfl
      · rw [if_neg h3, if_neg (by simp; omega)]
        cases first (badS l) l.length 0 with
        | none => rfl
        | some k => rfl

theorem f86_eq (d : Tys.data as86) : f86 d = some (if d.1 = true then d.2.1 else (0 : Int), ()) := by
  simp only [f86, t86, Tr.val_test]
  split <;> rfl

/-- Where the first bad sample lies, and its error. -/
def badAt (l : List Int) : Int × Int := match first (badS l) l.length 0 with
  | some k => (k, 2)
  | none => (0, 0)

/-- Whether all lie in a range. -/
def inAll (lo hi : Int) (l : List Int) : Bool := (first (fun i => !(decide (lo ≤ l.getD i 0) && decide (l.getD i 0 ≤ hi))) l.length 0).isNone

theorem inAll_nil (lo hi : Int) : inAll lo hi [] = true := rfl

theorem first_map {bad : Nat → Bool} : ∀ (n i : Nat), first bad n (i + 1) = (first (fun j => bad (j + 1)) n i).map (· + 1)
  | 0, _ => rfl
  | n + 1, i => by
    simp only [first]
    split
    · rfl
    · exact first_map n (i + 1)

theorem inAll_cons (lo hi a : Int) (l : List Int) : inAll lo hi (a :: l) = ((decide (lo ≤ a) && decide (a ≤ hi)) && inAll lo hi l) := by
  unfold inAll
  simp only [List.length, first]
  rw [first_map]
  by_cases h : (decide (lo ≤ a) && decide (a ≤ hi)) = true
  · simp only [List.getD_cons_zero, h, Bool.not_true, Bool.false_eq_true, if_false, Bool.true_and, List.getD_cons_succ]
    cases first (fun i => !(decide (lo ≤ l.getD i 0) && decide (l.getD i 0 ≤ hi))) l.length 0 <;> rfl
  · simp only [Bool.not_eq_true] at h
    simp [h]

theorem inAll_iff (lo hi : Int) (l : List Int) : inAll lo hi l = true ↔ ∀ i, i < l.length → lo ≤ l.getD i 0 ∧ l.getD i 0 ≤ hi := by
  unfold inAll
  constructor
  · intro h i hi'
    have := first_none (Option.isNone_iff_eq_none.1 h) i (by omega) (by omega)
    simpa using this
  · intro h
    rw [first_of_none]
    · rfl
    · intro j _ hj
      have := h j (by omega)
      simp only [List.getD_eq_getElem?_getD] at this ⊢
      simp [this.1, this.2]

theorem l94 (lo hi : Int) (l : List Int) (h : l.length ≤ 1000000000) : l94_0 ((lo, hi, l, (l.length : Int), (0 : Int), ()), ()) = match first (fun i => !(decide (lo ≤ l.getD i 0) && decide (l.getD i 0 ≤ hi))) l.length 0 with
    | some _ => some (.inr ((false, ()), ()))
    | none => some (.inl ((), ())) := by
  refine itr_search (fun i => ((lo, hi, l, (l.length : Int), (i : Int), ()), ())) (fun i => !(decide (lo ≤ l.getD i 0) && decide (l.getD i 0 ≤ hi))) (fun k => ((false, ()), ())) (n := l.length) ?_ ?_ (lt_rounds (by omega))
  · intro i hi'
    simp only [s94_0, t94_0, Tr.val_test, leF_eq, Int.toNat_natCast]
    rw [if_pos (by simp; omega), if_pos (by simp; omega)]
    simp only [wrap64_nat (show i ≤ 9223372036854775806 by omega)]
    by_cases h1 : lo ≤ l.getD i 0
    · by_cases h2 : l.getD i 0 ≤ hi
      · rw [if_neg (by simpa using h1), if_neg (by simpa using h2), if_neg (by simpa using ⟨h1, h2⟩)]; rfl
      · rw [if_neg (by simpa using h1), if_pos (by simpa using h2), if_pos (by simp only [h1, h2, decide_true, decide_false, Bool.and_false, Bool.not_false])]; rfl
    · rw [if_pos (by simpa using h1), if_pos (by simp only [h1, decide_false, Bool.false_and, Bool.not_false])]; rfl
  · simp [s94_0, t94_0, leF_eq]

theorem f94_eq (lo hi : Int) (l : List Int) (h : l.length ≤ 1000000000) : f94 (lo, hi, l, ()) = some (inAll lo hi l, ()) := by
  simp only [f94, t94, Tr.val_test, r94_0, l94 lo hi l h, inAll]
  cases first (fun i => !(decide (lo ≤ l.getD i 0) && decide (l.getD i 0 ≤ hi))) l.length 0 <;> rfl

theorem f141_eq (x : Int) (l : List Int) (h : l.length ≤ 1000000000) : f141 (x, l, ()) = some (!inAll (IntKind.wrap .i64 (0 - x)) x l, ()) := by
  simp only [f141, t141, Tr.val_test, g94, f94_eq _ _ l h, Option.isSome_some, Option.getD_some, if_true, Tr.val_fin]

theorem w1000 : IntKind.wrap .i64 (0 - 1000) = -1000 := by decide

theorem f140_eq (d : Tys.data as140) : f140 d = some (if (decide (-1000 ≤ (d.2.1 : Int)) && decide ((d.2.1 : Int) ≤ 1000)) = true then (0 : Int) else 2, ()) := by
  obtain ⟨i, x, u⟩ := d
  show f140 (i, x, ()) = some (if (decide (-1000 ≤ x) && decide (x ≤ 1000)) = true then (0 : Int) else 2, ())
  simp only [f140, t140, Tr.val_test, g141, f141_eq 1000 [x] (by simp), g86, f86_eq, Option.isSome_some, Option.getD_some, if_true, Tr.val_fin, inAll_cons, inAll_nil, w1000, Bool.and_true]
  by_cases hx : (decide (-1000 ≤ x) && decide (x ≤ 1000)) = true
  · rw [if_pos hx, hx]; rfl
  · rw [if_neg hx]; simp only [Bool.not_eq_true] at hx; rw [hx]; rfl

theorem l106 (l : List Int) (h : l.length ≤ 1000000000) : l106_0 ((l, (l.length : Int), (0 : Int), ()), ()) = match first (badS l) l.length 0 with
    | some k => some (.inr (((k : Int), (2 : Int), ()), ()))
    | none => some (.inl ((), ())) := by
  refine itr_search (fun i => ((l, (l.length : Int), (i : Int), ()), ())) (badS l) (fun k => (((k : Int), (2 : Int), ()), ())) (n := l.length) ?_ ?_ (lt_rounds (by omega))
  · intro i hi
    simp only [s106_0, t106_0, Tr.val_test, leF_eq, eqF_eq, g140, f140_eq, Int.toNat_natCast, Option.isSome_some, Option.getD_some, if_true]
    rw [if_pos (by simp; omega), if_pos (by simp; omega)]
    simp only [wrap64_nat (show i ≤ 9223372036854775806 by omega)]
    unfold badS
    by_cases hx : (decide (-1000 ≤ l.getD i 0) && decide (l.getD i 0 ≤ 1000)) = true
    · rw [hx]; simp
    · simp only [Bool.not_eq_true] at hx
      rw [hx]; simp
  · simp [s106_0, t106_0, leF_eq]

theorem f87_eq (l : List Int) (h : l.length ≤ 1000000000) : f87 (l, ()) = some ((badAt l).1, (badAt l).2, ()) := by
  simp only [f87, t87, Tr.val_test, r106_0, l106 l h, badAt]
  cases first (badS l) l.length 0 with
  | none => rfl
  | some k => rfl

/-- The first that is not 0. -/
def firstNZ : List Int → Int
  | [] => 0
  | a :: l => if a = 0 then firstNZ l else a

theorem firstNZ_eq : ∀ l : List Int, (match first (fun i => !decide (l.getD i 0 = 0)) l.length 0 with
    | some k => l.getD k 0
    | none => 0) = firstNZ l
  | [] => rfl
  | a :: l => by
    simp only [List.length, first, firstNZ]
    by_cases ha : a = 0
    · subst ha
      have e := firstNZ_eq l
      have hf : first (fun i => !decide (((0 : Int) :: l).getD i 0 = 0)) l.length (0 + 1) = (first (fun i => !decide (l.getD i 0 = 0)) l.length 0).map (· + 1) := by
        rw [first_map]; rfl
      simp only [hf, List.getD_cons_zero, decide_true, Bool.not_true, Bool.false_eq_true, if_false, if_true]
      rw [← e]
      cases first (fun i => !decide (l.getD i 0 = 0)) l.length 0 with
      | none => rfl
      | some k => rfl
    · simp [ha]

theorem l85 (l : List Int) (h : l.length ≤ 1000000000) : l85_0 ((l, (l.length : Int), (0 : Int), ()), ()) = match first (fun i => !decide (l.getD i 0 = 0)) l.length 0 with
    | some k => some (.inr ((l.getD k 0, ()), ()))
    | none => some (.inl ((), ())) := by
  refine itr_search (fun i => ((l, (l.length : Int), (i : Int), ()), ())) (fun i => !decide (l.getD i 0 = 0)) (fun k => ((l.getD k 0, ()), ())) (n := l.length) ?_ ?_ (lt_rounds (by omega))
  · intro i hi
    simp only [s85_0, t85_0, Tr.val_test, leF_eq, eqF_eq]
    rw [if_pos (by simp; omega), if_pos (by simp; omega)]
    simp only [Int.toNat_natCast, wrap64_nat (show i ≤ 9223372036854775806 by omega)]
    rfl
  · simp [s85_0, t85_0, leF_eq]

theorem f85_eq (l : List Int) (h : l.length ≤ 1000000000) : f85 (l, ()) = some (firstNZ l, ()) := by
  simp only [f85, t85, Tr.val_test, r85_0, l85 l h, ← firstNZ_eq l]
  cases first (fun i => !decide (l.getD i 0 = 0)) l.length 0 with
  | none => rfl
  | some k => rfl

theorem f17_eq (x : Int) (l : List Int) (h : l.length ≤ 1000000000) : f17 ((x, l, ()), ()) = some ((chk x l).1, (chk x l).2, ()) := by
  have e := fun a b c : Int => f85_eq [a, b, c] (by simp)
  have hc : chk x l = if x < 1 ∨ 1000000 < x then (0, 2) else if l.length < 2 then (0, 10) else if 24 < l.length then (0, 8) else badAt l := rfl
  simp only [f17, t17, Tr.val_test, leF_eq, eqF_eq, g86, f86_eq, g87, f87_eq l h, g85, Option.isSome_some, Option.getD_some, if_true]
  rw [e, e, hc]
  simp only [Option.isSome_some, Option.getD_some, if_true, firstNZ]
  by_cases h1 : x < 1
  · have h1' : ¬ 1 ≤ x := by omega
    simp [h1, h1']
  · have h1' : 1 ≤ x := by omega
    by_cases h2 : 1000000 < x
    · have h2' : ¬ x ≤ 1000000 := by omega
      simp [h1', h2, h2']
    · have h2' : x ≤ 1000000 := by omega
      by_cases h3 : l.length < 2
      · have h3' : ¬ (2 : Int) ≤ l.length := by omega
        simp [h1, h1', h2, h2', h3, h3']
      · have h3' : (2 : Int) ≤ l.length := by omega
        by_cases h4 : 24 < l.length
        · have h4' : ¬ (l.length : Int) ≤ 24 := by omega
          simp [h1, h1', h2, h2', h3, h3', h4, h4']
        · have h4' : (l.length : Int) ≤ 24 := by omega
          simp [h1, h1', h2, h2', h3, h3', h4, h4']

theorem f88_eq (x : Int) (l : List Int) (h : l.length ≤ 1000000000) : f88 ((x, l, ()), ()) = some ((chk x l).2, ()) := by
  simp only [f88, t88, Tr.val_test, g17, f17_eq x l h, Option.isSome_some, Option.getD_some, if_true, Tr.val_fin]

theorem f16_eq (x : Int) (l : List Int) : f16 ((x, l, ()), ()) = some (decide (l.length ≤ 26), ()) := by
  have : decide ((l.length : Int) ≤ 26) = decide (l.length ≤ 26) := decide_eq_decide.2 (by omega)
  simp only [f16, t16, leF_eq, Tr.val_fin, this]

/-- The greater of two. -/
def mx (a b : Int) : Int := if a < b then b else a
/-- A number without its sign. -/
def sz (a : Int) : Int := mx a (IntKind.wrap .i64 (0 - a))

theorem f131_eq (d : Tys.data as131) : f131 d = some (sz d.1, ()) := rfl

theorem f29_eq (x : Int) (l : List Int) (h : l.length ≤ 1000000000) : f29 ((x, l, ()), ()) = some ((chk x l).2, ()) := by
  simp only [f29, t29, g22, f22_eq x l h, Tr.val_test, Tr.val_fin, Option.isSome_some, Option.getD_some, if_true]

/-- All are at most so great. -/
def Bd (B : Int) (l : List Int) : Prop := ∀ i, i < l.length → -B ≤ l.getD i 0 ∧ l.getD i 0 ≤ B

theorem chk_ok {x : Int} {l : List Int} (h : (chk x l).2 = 0) : 2 ≤ l.length ∧ l.length ≤ 24 ∧ Bd 1000 l ∧ 1 ≤ x ∧ x ≤ 1000000 := by
  unfold chk at h
  split at h
  · cases h
  · rename_i hx
    split at h
    · cases h
    · split at h
      · cases h
      · split at h
        · cases h
        · rename_i hn
          refine ⟨by omega, by omega, fun i hi => ?_, by omega, by omega⟩
          have := first_none hn i (by omega) (by omega)
          simpa [badS] using this

/-- The greatest common divisor of the first numbers, with a sign. -/
def dv (l : List Int) : Nat → Int
  | 0 => 0
  | i + 1 => euc (dv l i) (l.getD i 0)

theorem lt_r2 {n : Nat} (h : n ≤ 9223372036854775808) : n < rounds := by unfold rounds; omega

theorem l144i (l : List Int) (n i : Int) (a b : Int) (h : b.natAbs ≤ 9223372036854775808) : l144_2 ((a, b, l, n, i, ()), ()) = some (.inl ((euc a b, l, n, i, ()), ())) := by
  refine itr_euc (fun a b => ((a, b, l, n, i, ()), ())) (fun a => ((a, l, n, i, ()), ())) ?_ ?_ rounds a b (lt_r2 h)
  · intro a b hb
    simp [s144_2, t144_2, eqF_eq, hb]
  · intro a
    simp [s144_2, t144_2, eqF_eq]

theorem l144 (l : List Int) (h : l.length ≤ 1000000000) (hb : ∀ i, i < l.length → (l.getD i 0).natAbs ≤ 9223372036854775808) : l144_0 (((0 : Int), l, (l.length : Int), (0 : Int), ()), ()) = some (.inl ((dv l l.length, ()), ())) := by
  refine itr_brk (fun i => ((dv l i, l, (l.length : Int), (i : Int), ()), ())) (n := l.length) ?_ ?_ (lt_rounds (by omega))
  · intro i hi
    simp only [s144_0, t144_0, Tr.val_test, Tr.val_fin, leF_eq, Int.toNat_natCast, b144_2, l144i l _ _ _ _ (hb i hi), isBrk, outB, if_true]
    rw [if_pos (by simp; omega), if_pos (by simp; omega)]
    simp only [wrap64_nat (show i ≤ 9223372036854775806 by omega), dv]
  · simp [s144_0, t144_0, leF_eq]

theorem f144_eq (l : List Int) (h : l.length ≤ 1000000000) (hb : ∀ i, i < l.length → (l.getD i 0).natAbs ≤ 9223372036854775808) : f144 (l, ()) = some (mx (dv l l.length) (IntKind.wrap .i64 (0 - dv l l.length)), ()) := by
  simp only [f144, t144, b144_0, l144 l h hb, Tr.val_test, isBrk, if_true, outB]; rfl

theorem mx_max (a b : Int) : mx a b = max a b := by unfold mx; omega

theorem euc_zero_left (b : Int) (h : b.natAbs ≤ 9223372036854775807) : (euc 0 b).natAbs = b.natAbs := by rw [euc_abs]; simp

theorem dv2 (a b : Int) (ha : a.natAbs ≤ 9223372036854775807) (hb : b.natAbs ≤ 9223372036854775807) : mx (dv [a, b] 2) (IntKind.wrap .i64 (0 - dv [a, b] 2)) = (Int.gcd a b : Int) := by
  have e0 : dv [a, b] 2 = euc (euc 0 a) b := rfl
  have e1 : (euc 0 a).natAbs = a.natAbs := euc_zero_left a ha
  have e2 : Int.gcd (euc 0 a) b = Int.gcd a b := by unfold Int.gcd; rw [e1]
  rw [e0, ← wrap64_eq, Int.zero_sub, mx_max, euc_gcd _ _ (by omega) (by omega) (by omega) (by omega), e2]

theorem f144_2 (a b : Int) (ha : a.natAbs ≤ 9223372036854775807) (hb : b.natAbs ≤ 9223372036854775807) : f144 ([a, b], ()) = some ((Int.gcd a b : Int), ()) := by
  rw [f144_eq [a, b] (by simp), show ([a, b] : List Int).length = 2 from rfl, dv2 a b ha hb]
  intro i hi
  match i, hi with
  | 0, _ => exact Nat.le_succ_of_le ha
  | 1, _ => exact Nat.le_succ_of_le hb

/-- A fraction in lowest terms. -/
def low (a b : Int) : Int × Int × Unit := (a.tdiv (Int.gcd a b), b.tdiv (Int.gcd a b), ())

theorem wrapI_id {n : Int} (h1 : -9223372036854775808 ≤ n) (h2 : n ≤ 9223372036854775807) : IntKind.wrap .i64 n = n := by rw [← wrap64_eq, wrap64_id h1 h2]

theorem low_wrap (a b : Int) (ha : a.natAbs ≤ 9223372036854775807) (hb : b.natAbs ≤ 9223372036854775807) : IntKind.wrap .i64 (a.tdiv (Int.gcd a b)) = (low a b).1 ∧ IntKind.wrap .i64 (b.tdiv (Int.gcd a b)) = (low a b).2.1 := by
  have h1 := tdiv_abs_le a (Int.gcd a b)
  have h2 := tdiv_abs_le b (Int.gcd a b)
  exact ⟨wrapI_id (by omega) (by omega), wrapI_id (by omega) (by omega)⟩

theorem f108_eq (a b : Int) (ha : a.natAbs ≤ 9223372036854775807) (hb : b.natAbs ≤ 9223372036854775807) (h0 : b ≠ 0) : f108 (a, b, ()) = some (low a b, ()) := by
  obtain ⟨e1, e2⟩ := low_wrap a b ha hb
  simp only [f108, t108, g144, f144_2 a b ha hb, Tr.val_test, Tr.val_fin, Option.isSome_some, Option.getD_some, if_true, e1, e2]
  rw [if_neg (by simpa using gcd_pos_right h0)]

theorem l142 (a b : Int) (hb : b.natAbs ≤ 9223372036854775807) : l142_0 ((a, b, ()), ()) = some (.inl ((euc a b, ()), ())) := by
  refine itr_euc (fun a b => ((a, b, ()), ())) (fun a => ((a, ()), ())) ?_ ?_ rounds a b (lt_rounds hb)
  · intro a b hb
    simp [s142_0, t142_0, eqF_eq, hb]
  · intro a
    simp [s142_0, t142_0, eqF_eq]

theorem f142_eq (a b : Int) (ha : a.natAbs ≤ 9223372036854775807) (hb : b.natAbs ≤ 9223372036854775807) : f142 (a, b, ()) = some ((Int.gcd a b : Int), ()) := by
  simp only [f142, t142, b142_0, l142 a b hb, Tr.val_test, Tr.val_fin, isBrk, if_true, outB, g131, f131_eq, Option.isSome_some, Option.getD_some]
  rw [sz, ← wrap64_eq, Int.zero_sub, mx_max, euc_gcd _ _ (by omega) (by omega) (by omega) (by omega)]

structure OsOk (s d : Int) : Prop where
  s0 : 0 ≤ s
  s1 : s ≤ 3000
  d0 : 0 ≤ d
  d1 : d ≤ 500

/-- A row of a band: an oscillator, a range. -/
abbrev BR := (Int × Int × Unit) × (Int × Int × Unit) × Unit

structure BdOk (b : BR) : Prop where
  os : OsOk b.1.1 b.1.2.1
  lo0 : 0 ≤ b.2.1.1
  lo1 : b.2.1.1 ≤ 1000000
  hi0 : 0 ≤ b.2.1.2.1
  hi1 : b.2.1.2.1 ≤ 1000000
  le : b.2.1.1 ≤ b.2.1.2.1

/-! ### The opposite -/

theorem accE_bd {B : Int} {l : List Int} (h0 : 0 ≤ B) (h : Bd B l) : ∀ i : Nat, i ≤ l.length → -(B * i) ≤ accE l i ∧ accE l i ≤ B * i
  | 0, _ => by simp [accE]
  | i + 1, hi => by
    have hb := h i (by omega)
    have ih := accE_bd h0 h i (by omega)
    have e : B * ((i + 1 : Nat) : Int) = B * i + B := by rw [Int.natCast_add, Int.mul_add]; simp
    rw [accE]
    omega

theorem accE2_bd {l : List Int} (h : Bd 1000 l) (hl : l.length ≤ 24) : ∀ i : Nat, i ≤ l.length → -(24000 * (i : Int)) ≤ accE2 l i ∧ accE2 l i ≤ 24000 * (i : Int)
  | 0, _ => by simp [accE2]
  | i + 1, hi => by
    have ih := accE2_bd h hl i (by omega)
    have b := accE_bd (by omega) h (i + 1) hi
    rw [accE2]
    omega

theorem wrapJ {n : Int} (h1 : -9223372036854775808 ≤ n) (h2 : n ≤ 9223372036854775807) : IntKind.wrap .i64 n = n := by rw [← wrap64_eq, wrap64_id h1 h2]

theorem f131_abs (x : Int) (h : x.natAbs ≤ 9223372036854775807) : f131 (x, ()) = some ((x.natAbs : Int), ()) := by
  simp only [f131, t131, Tr.val_fin]
  rw [wrapJ (by omega) (by omega)]
  have e : (if x < 0 - x then 0 - x else x) = (x.natAbs : Int) := by split <;> omega
  rw [e]

theorem l173 (l : List Int) (h : l.length ≤ 1000000000) : l173_0 ((l, (l.length : Int), ()), ()) = some (.inl ((l, (trimN l l.length : Int), ()), ())) := by
  have hle := trimN_le l l.length
  refine itr_brk (fun i => ((l, ((l.length - i : Nat) : Int), ()), ())) (n := l.length - trimN l l.length) ?_ ?_ (lt_rounds (by omega))
  · intro i hi
    have h0 := trimN_zero l l.length (l.length - i - 1) (by omega) (by omega)
    have e : wrap64 (((l.length - i : Nat) : Int) - 1) = ((l.length - i - 1 : Nat) : Int) := by rw [wrap64_id (by omega) (by omega)]; omega
    simp only [s173_0, t173_0, Tr.val_test, Tr.val_fin, leF_eq, eqF_eq, e, Int.toNat_natCast, h0]
    rw [if_pos (by simp <;> omega), if_pos (by simp <;> omega), if_pos (by simp)]
    rfl
  · have e0 : l.length - (l.length - trimN l l.length) = trimN l l.length := by omega
    dsimp only
    rw [e0]
    cases hk : trimN l l.length with
    | zero => simp [s173_0, t173_0, leF_eq]
    | succ m =>
      have h0 := trimN_last l l.length m hk
      have e : wrap64 (((m + 1 : Nat) : Int) - 1) = ((m : Nat) : Int) := by rw [wrap64_id (by omega) (by omega)]; omega
      simp only [s173_0, t173_0, Tr.val_test, Tr.val_fin, leF_eq, eqF_eq, e, Int.toNat_natCast]
      rw [if_pos (by simp <;> omega), if_pos (by simp <;> omega), if_neg (by simpa using h0)]

theorem f173_eq (l : List Int) (h : l.length ≤ 1000000000) (hd : Dg l) : f173 (l, ()) = some (dig (dval l).toNat, ()) := by
  have hle := trimN_le l l.length
  simp only [f173, t173, b173_0, l173 l h, Tr.val_test, Tr.val_fin, isBrk, if_true, outB, Int.toNat_natCast]
  rw [if_pos (by simp <;> omega), trim_dig hd]

/-- A number out of its sign and its size. -/
def mkN (s n : Int) : Int × List Int × PUnit := if n = 0 then (0, [], ()) else (s, dig n.toNat, ())

theorem f149_eq (s : Int) (l : List Int) (h : l.length ≤ 1000000000) (hd : Dg l) : f149 (s, l, ()) = some (mkN s (dval l), ()) := by
  have h0 := dv_nonneg hd
  simp only [f149, t149, g173, f173_eq l h hd, Option.isSome_some, Option.getD_some, Tr.val_test, Tr.val_fin, eqF_eq, if_true, mkN]
  by_cases e : dval l = 0
  · rw [if_pos (by rw [e]; simp [dig_zero]), if_pos e, e]
    simp [dig_zero]
  · rw [if_neg e, if_neg]
    intro h2
    simp only [decide_eq_true_eq] at h2
    have h3 : (dig (dval l).toNat).length = 0 := by omega
    have := dig_nil.1 (List.eq_nil_of_length_eq_zero h3)
    omega

theorem mkN_enc {s z : Int} (h : z ≠ 0 → s = z.sign) : mkN s z.natAbs = enc z := by
  unfold mkN enc
  by_cases e : z = 0
  · subst e; simp [dig_zero]
  · rw [if_neg (by omega), h e]; simp

theorem f175_eq (l : List Int) (i : Nat) : f175 (l, (i : Int), ()) = some (l.getD i 0, ()) := by
  simp only [f175, t175, Tr.val_test, Tr.val_fin, leF_eq]
  by_cases h : i < l.length
  · rw [if_pos (by simp <;> omega), if_pos (by simp <;> omega)]; simp
  · rw [if_neg (by simp <;> omega)]
    simp [List.getD, List.getElem?_eq_none (Nat.le_of_not_lt h)]

theorem it113 (s b : Int) : ∀ (k : Nat) (x : Int) (acc : List Int) (m : Nat), (x.natAbs : Int) < pw k → x.natAbs ≤ 9223372036854775807 → acc.length + k ≤ 1000000 → k < m →
    itr s113_0 m ((x, s, acc, ()), ((b, ()), ())) = some (.inl ((s, acc ++ dig x.natAbs, ()), ((b, ()), ())))
  | 0, x, acc, m, h1, _, _, hm => by
    have : x = 0 := by simp only [pw] at h1; omega
    subst this
    obtain ⟨m, rfl⟩ : ∃ j, m = j + 1 := ⟨m - 1, by omega⟩
    simp [itr, s113_0, t113_0, eqF_eq, dig_zero]
  | k + 1, x, acc, m, h1, h2, h3, hm => by
    obtain ⟨m, rfl⟩ : ∃ j, m = j + 1 := ⟨m - 1, by omega⟩
    by_cases hx : x = 0
    · subst hx
      simp [itr, s113_0, t113_0, eqF_eq, dig_zero]
    · have e1 : (Int.tmod x 1000000000).natAbs = x.natAbs % 1000000000 := by rw [Int.natAbs_tmod]; rfl
      have e2 : (Int.tdiv x 1000000000).natAbs = x.natAbs / 1000000000 := by rw [Int.natAbs_tdiv]; rfl
      have e3 : IntKind.wrap .i64 (Int.tdiv x 1000000000) = Int.tdiv x 1000000000 := wrapJ (by omega) (by omega)
      have st : s113_0 ((x, s, acc, ()), ((b, ()), ())) = some (.again ((Int.tdiv x 1000000000, s, acc ++ [((x.natAbs % 1000000000 : Nat) : Int)], ()), ((b, ()), ()))) := by
        simp only [s113_0, t113_0, g131, f131_abs (Int.tmod x 1000000000) (by omega), Option.isSome_some, Option.getD_some, Tr.val_test, Tr.val_fin, eqF_eq, e3, e1, if_true]
        rw [if_pos (by simpa using hx), if_pos (by simp <;> omega)]
      simp only [pw] at h1
      rw [itr, st]
      dsimp only
      rw [it113 s b k (Int.tdiv x 1000000000) _ m (by omega) (by omega) (by simp <;> omega) (by omega), dig_pos (show x.natAbs ≠ 0 by omega), e2]
      simp

theorem f113_eq (x : Int) (h : x.natAbs ≤ 9223372036854775807) : f113 (x, ()) = some (enc x, ()) := by
  have hl : ∀ s : Int, l113_0 ((x, s, [], ()), (((0 : Int), ()), ())) = some (.inl ((s, dig x.natAbs, ()), (((0 : Int), ()), ()))) := fun s => by
    have := it113 s 0 3 x [] rounds (by simp only [pw]; omega) h (by simp) (lt_rounds (by omega))
    simpa [l113_0] using this
  have hg : (dig x.natAbs).length ≤ 3 := dig_len (by simp only [pw]; omega)
  have e := dig_dv x.natAbs
  simp only [f113, t113, b113_0, hl, g149, f149_eq _ (dig x.natAbs) (by omega) (dig_Dg _), e, Option.isSome_some, Option.getD_some, Tr.val_test, Tr.val_fin, isBrk, outB, if_true, leF_eq]
  by_cases hx : 0 ≤ x
  · rw [if_neg (by simp <;> omega)]
    have : mkN 1 (x.natAbs : Int) = enc x := mkN_enc fun h => by rw [Int.sign_eq_one_of_pos (by omega)]
    rw [this]
  · rw [if_pos (by simp <;> omega)]
    have : mkN (-1) (x.natAbs : Int) = enc x := mkN_enc fun h => by rw [Int.sign_eq_neg_one_of_neg (by omega)]
    rw [this]

/-- Carries and digits of a sum. -/
def cA (a b : List Int) : Nat → Int
  | 0 => 0
  | i + 1 => (a.getD i 0 + b.getD i 0 + cA a b i) / 1000000000

def oA (a b : List Int) : Nat → List Int
  | 0 => []
  | i + 1 => oA a b i ++ [(a.getD i 0 + b.getD i 0 + cA a b i) % 1000000000]

theorem cA_le {a b : List Int} (ha : Dg a) (hb : Dg b) : ∀ i, 0 ≤ cA a b i ∧ cA a b i ≤ 1
  | 0 => by simp [cA]
  | i + 1 => by
    have := cA_le ha hb i; have := ha.getD i; have := hb.getD i
    simp only [cA]; omega

theorem oA_len (a b : List Int) : ∀ i, (oA a b i).length = i
  | 0 => rfl
  | i + 1 => by simp [oA, oA_len a b i]

theorem oA_Dg (a b : List Int) : ∀ i, Dg (oA a b i)
  | 0 => Dg.nil
  | i + 1 => (oA_Dg a b i).push (by omega) (by omega)

theorem oA_dv (a b : List Int) : ∀ i, dval (oA a b i) + pw i * cA a b i = dval (a.take i) + dval (b.take i)
  | 0 => by simp [oA, cA, dval, pw]
  | i + 1 => by
    have ih := oA_dv a b i
    rw [oA, dv_push, oA_len, dv_take, dv_take, cA, pw]
    generalize hs : a.getD i 0 + b.getD i 0 + cA a b i = s at *
    have e : s % 1000000000 = s - 1000000000 * (s / 1000000000) := by omega
    have e2 : pw i * (s % 1000000000) + 1000000000 * pw i * (s / 1000000000) = pw i * s := by
      rw [e, Int.mul_sub, Int.mul_comm 1000000000 (pw i), Int.mul_assoc]; omega
    have e3 : pw i * s = pw i * a.getD i 0 + pw i * b.getD i 0 + pw i * cA a b i := by rw [← hs, Int.mul_add, Int.mul_add]
    omega

/-- How many digits a sum has. -/
def nA (a b : List Int) : Nat := if cA a b (max a.length b.length) = 0 then max a.length b.length else max a.length b.length + 1

theorem cA_end {a b : List Int} (ha : Dg a) (hb : Dg b) : cA a b (nA a b) = 0 := by
  unfold nA
  split
  · assumption
  · have := cA_le ha hb (max a.length b.length)
    have e1 : a.getD (max a.length b.length) 0 = 0 := by simp [List.getD, List.getElem?_eq_none (Nat.le_max_left a.length b.length)]
    have e2 : b.getD (max a.length b.length) 0 = 0 := by simp [List.getD, List.getElem?_eq_none (Nat.le_max_right a.length b.length)]
    simp only [cA, e1, e2]; omega

theorem s154_again {a b : List Int} (ha : Dg a) (hb : Dg b) {i : Nat} (hl : i ≤ 1000000) (h : i < a.length ∨ i < b.length ∨ 0 < cA a b i) :
    s154_0 ((a, b, oA a b i, cA a b i, (i : Int), ()), ()) = some (.again ((a, b, oA a b (i + 1), cA a b (i + 1), ((i + 1 : Nat) : Int), ()), ())) := by
  have h1 := cA_le ha hb i; have h2 := ha.getD i; have h3 := hb.getD i
  have e1 : wrap64 (wrap64 (a.getD i 0 + b.getD i 0) + cA a b i) = a.getD i 0 + b.getD i 0 + cA a b i := by
    rw [wrap64_id (n := a.getD i 0 + b.getD i 0) (by omega) (by omega), wrap64_id (by omega) (by omega)]
  have e2 : IntKind.wrap .i64 (Int.tdiv (a.getD i 0 + b.getD i 0 + cA a b i) 1000000000) = cA a b (i + 1) := by
    rw [Int.tdiv_eq_ediv_of_nonneg (by omega), wrapJ (by omega) (by omega), cA]
  have e3 : Int.tmod (a.getD i 0 + b.getD i 0 + cA a b i) 1000000000 = (a.getD i 0 + b.getD i 0 + cA a b i) % 1000000000 := Int.tmod_eq_emod_of_nonneg (by omega)
  have e4 : wrap64 ((i : Int) + 1) = ((i + 1 : Nat) : Int) := wrap64_nat (by omega)
  have e5 : (Nat.ble ((2 * ((oA a b i).length + 1) + 192) * 8) 281474976710656 && Nat.ble ((oA a b i).length + 1) 281474976710656) = true := by
    rw [oA_len]; simp; omega
  simp only [s154_0, t154_0, g175, f175_eq a i, f175_eq b i, Option.isSome_some, Option.getD_some, Tr.val_test, Tr.val_fin, leF_eq, if_true, e1, e2, e3, e4, e5]
  by_cases c1 : i < a.length
  · rw [if_pos (by simp <;> omega)]; rfl
  · rw [if_neg (by simp <;> omega)]
    by_cases c2 : i < b.length
    · rw [if_pos (by simp <;> omega)]; rfl
    · rw [if_neg (by simp <;> omega), if_pos (by simp <;> omega)]; rfl

theorem f154_eq (a b : List Int) (ha : Dg a) (hb : Dg b) (h1 : a.length ≤ 100000) (h2 : b.length ≤ 100000) : f154 (a, b, ()) = some (oA a b (nA a b), ()) := by
  have hn : nA a b ≤ max a.length b.length + 1 := by unfold nA; split <;> omega
  have hl : l154_0 ((a, b, [], (0 : Int), (0 : Int), ()), ()) = some (.inl ((oA a b (nA a b), ()), ())) := by
    refine itr_brk (fun i => ((a, b, oA a b i, cA a b i, (i : Int), ()), ())) (n := nA a b) ?_ ?_ (lt_rounds (by omega))
    · intro i hi
      refine s154_again ha hb (by omega) ?_
      have := cA_le ha hb i
      unfold nA at hi
      split at hi
      · omega
      · rename_i hc
        by_cases e : i = max a.length b.length
        · rw [← e] at hc; omega
        · omega
    · have hc := cA_end ha hb
      have hm : max a.length b.length ≤ nA a b := by unfold nA; split <;> omega
      simp only [s154_0, t154_0, Tr.val_test, Tr.val_fin, leF_eq, hc]
      rw [if_neg (by simp <;> omega), if_neg (by simp <;> omega), if_neg (by simp)]
  simp only [f154, t154, b154_0, hl, Tr.val_test, Tr.val_fin, isBrk, if_true, outB]

theorem oA_sum {a b : List Int} (ha : Dg a) (hb : Dg b) : dval (oA a b (nA a b)) = dval a + dval b := by
  have h := oA_dv a b (nA a b)
  have hm : max a.length b.length ≤ nA a b := by unfold nA; split <;> omega
  rw [cA_end ha hb, dv_take_all a (by omega), dv_take_all b (by omega)] at h
  omega

/-- Borrows and digits of a difference. -/
def cS (a b : List Int) : Nat → Int
  | 0 => 0
  | i + 1 => if a.getD i 0 - b.getD i 0 - cS a b i < 0 then 1 else 0

def oS (a b : List Int) : Nat → List Int
  | 0 => []
  | i + 1 => oS a b i ++ [if a.getD i 0 - b.getD i 0 - cS a b i < 0 then a.getD i 0 - b.getD i 0 - cS a b i + 1000000000 else a.getD i 0 - b.getD i 0 - cS a b i]

theorem cS_le (a b : List Int) : ∀ i, 0 ≤ cS a b i ∧ cS a b i ≤ 1
  | 0 => by simp [cS]
  | i + 1 => by simp only [cS]; split <;> omega

theorem oS_len (a b : List Int) : ∀ i, (oS a b i).length = i
  | 0 => rfl
  | i + 1 => by simp [oS, oS_len a b i]

theorem oS_Dg {a b : List Int} (ha : Dg a) (hb : Dg b) : ∀ i, Dg (oS a b i)
  | 0 => Dg.nil
  | i + 1 => by
    have := cS_le a b i; have := ha.getD i; have := hb.getD i
    exact (oS_Dg ha hb i).push (by split <;> omega) (by split <;> omega)

theorem oS_dv (a b : List Int) : ∀ i, dval (oS a b i) - pw i * cS a b i = dval (a.take i) - dval (b.take i)
  | 0 => by simp [oS, cS, dval, pw]
  | i + 1 => by
    have ih := oS_dv a b i
    rw [oS, dv_push, oS_len, dv_take, dv_take, cS, pw]
    generalize hs : a.getD i 0 - b.getD i 0 - cS a b i = s at *
    have e3 : pw i * s = pw i * a.getD i 0 - pw i * b.getD i 0 - pw i * cS a b i := by rw [← hs, Int.mul_sub, Int.mul_sub]
    by_cases h : s < 0
    · rw [if_pos h, if_pos h, Int.mul_add]; omega
    · rw [if_neg h, if_neg h]; omega

theorem f156_eq (a b : List Int) (ha : Dg a) (hb : Dg b) (h1 : a.length ≤ 1000000) (h2 : b.length ≤ a.length) (h3 : dval b ≤ dval a) : f156 (a, b, ()) = some (dig (dval a - dval b).toNat, ()) := by
  have hl : l156_0 ((a, b, [], (0 : Int), (0 : Int), ()), ()) = some (.inl ((oS a b a.length, ()), ())) := by
    refine itr_brk (fun i => ((a, b, oS a b i, cS a b i, (i : Int), ()), ())) (n := a.length) ?_ ?_ (lt_rounds (by omega))
    · intro i hi
      have h1 := cS_le a b i; have h2 := ha.getD i; have h3 := hb.getD i
      have e0 : wrap64 (a.getD i 0 - b.getD i 0) = a.getD i 0 - b.getD i 0 := wrap64_id (by omega) (by omega)
      have e1 : wrap64 (wrap64 (a.getD i 0 - b.getD i 0) - cS a b i) = a.getD i 0 - b.getD i 0 - cS a b i := by
        rw [e0, wrap64_id (by omega) (by omega)]
      have e2 : wrap64 (a.getD i 0 - b.getD i 0 - cS a b i + 1000000000) = a.getD i 0 - b.getD i 0 - cS a b i + 1000000000 := wrap64_id (by omega) (by omega)
      have e4 : wrap64 ((i : Int) + 1) = ((i + 1 : Nat) : Int) := wrap64_nat (by omega)
      have e5 : (Nat.ble ((2 * ((oS a b i).length + 1) + 192) * 8) 281474976710656 && Nat.ble ((oS a b i).length + 1) 281474976710656) = true := by
        rw [oS_len]; simp; omega
      simp only [s156_0, t156_0, g175, f175_eq b i, Option.isSome_some, Option.getD_some, Tr.val_test, Tr.val_fin, leF_eq, if_true, e1, e2, e4, e5, Int.toNat_natCast, oS, cS]
      rw [if_pos (by simp <;> omega), if_pos (by simp <;> omega)]
      by_cases h : a.getD i 0 - b.getD i 0 - cS a b i < 0
      · rw [if_pos (by simp only [Bool.not_eq_true', decide_eq_false_iff_not]; omega), if_pos h, if_pos h]
      · rw [if_neg (by simp only [Bool.not_eq_true', decide_eq_false_iff_not]; omega), if_neg h, if_neg h]
    · simp [s156_0, t156_0, leF_eq]
  have hd := oS_Dg ha hb a.length
  have hv := oS_dv a b a.length
  rw [dv_take_all a (Nat.le_refl _), dv_take_all b h2] at hv
  have hlt := dv_lt hd
  rw [oS_len] at hlt
  have hc := cS_le a b a.length
  have hc0 : cS a b a.length = 0 := by
    by_cases e : cS a b a.length = 1
    · rw [e] at hv; omega
    · omega
  rw [hc0, Int.mul_zero, Int.sub_zero] at hv
  simp only [f156, t156, b156_0, hl, g173, f173_eq _ (show (oS a b a.length).length ≤ 1000000000 by rw [oS_len]; omega) hd, hv, Option.isSome_some, Option.getD_some, Tr.val_test, Tr.val_fin, isBrk, if_true, outB]

theorem can_ge {l : List Int} (hd : Dg l) (hc : Can l) {m : Nat} (hm : l.length = m + 1) : pw m ≤ dval l := by
  have h3 := dv_take l m
  rw [dv_take_all _ (by omega)] at h3
  have h2 := hc m hm
  have h4 := dv_nonneg (hd.take m)
  have h5 := hd.getD m
  have h7 : pw m * 1 ≤ pw m * l.getD m 0 := Int.mul_le_mul_of_nonneg_left (by omega) (Int.le_of_lt (pw_pos m))
  omega

theorem dv_top {a b : List Int} (ha : Dg a) (hb : Dg b) {j : Nat} (hlt : a.getD j 0 < b.getD j 0) : ∀ n, (∀ i, j < i → i < j + 1 + n → a.getD i 0 = b.getD i 0) → dval (a.take (j + 1 + n)) < dval (b.take (j + 1 + n))
  | 0, _ => by
    rw [Nat.add_zero, dv_take, dv_take]
    have h1 := dv_lt (ha.take j)
    have h2 := dv_nonneg (hb.take j)
    have h3 : pw (a.take j).length ≤ pw j := pw_le (by simp; omega)
    have h7 : pw j * (a.getD j 0 + 1) ≤ pw j * b.getD j 0 := Int.mul_le_mul_of_nonneg_left (by omega) (Int.le_of_lt (pw_pos j))
    rw [Int.mul_add] at h7
    omega
  | n + 1, h => by
    have ih := dv_top ha hb hlt n fun i h1 h2 => h i h1 (by omega)
    have e := h (j + 1 + n) (by omega) (by omega)
    rw [← Nat.add_assoc, dv_take, dv_take, e]
    omega

theorem f155_eq (a b : List Int) (ha : Dg a) (hb : Dg b) (ca : Can a) (cb : Can b) (h1 : a.length ≤ 1000000) : f155 (a, b, ()) = some ((dval a - dval b).sign, ()) := by
  simp only [f155, t155, Tr.val_test, Tr.val_fin, leF_eq, eqF_eq]
  by_cases hle : a.length = b.length
  · rw [if_neg (by simp; omega)]
    have e0 : wrap64 ((a.length : Int) - 1) = (a.length : Int) - 1 := wrap64_id (by omega) (by omega)
    have hl : l155_0 ((a, b, (a.length : Int) - 1, ()), ()) = match first (fun k => !decide (a.getD (a.length - 1 - k) 0 = b.getD (a.length - 1 - k) 0)) a.length 0 with
        | some k => some (.inr (((if a.getD (a.length - 1 - k) 0 < b.getD (a.length - 1 - k) 0 then (-1 : Int) else 1), ()), ()))
        | none => some (.inl ((), ())) := by
      have := itr_search (step := s155_0) (m := rounds) (n := a.length) (fun k => ((a, b, (a.length : Int) - 1 - (k : Int), ()), ())) (fun k => !decide (a.getD (a.length - 1 - k) 0 = b.getD (a.length - 1 - k) 0))
        (fun k => (((if a.getD (a.length - 1 - k) 0 < b.getD (a.length - 1 - k) 0 then (-1 : Int) else 1), ()), ())) (b := ((), ())) ?_ ?_ (lt_rounds (by omega))
      · rw [l155_0, show (a.length : Int) - 1 = (a.length : Int) - 1 - ((0 : Nat) : Int) by omega]; exact this
      · intro k hk
        have e1 : (a.length : Int) - 1 - (k : Int) = ((a.length - 1 - k : Nat) : Int) := by omega
        have e2 : wrap64 (((a.length - 1 - k : Nat) : Int) - 1) = (a.length : Int) - 1 - ((k + 1 : Nat) : Int) := by rw [wrap64_id (by omega) (by omega)]; omega
        simp only [e1, s155_0, t155_0, Tr.val_test, Tr.val_fin, leF_eq, Int.toNat_natCast, e2]
        rw [if_pos (by simp), if_pos (by simp; omega), if_pos (by simp; omega)]
        generalize a.getD (a.length - 1 - k) 0 = x
        generalize b.getD (a.length - 1 - k) 0 = y
        rcases Int.lt_trichotomy x y with h | h | h
        · rw [if_pos (by simp; omega), if_pos (by simp; omega), if_pos h]
        · rw [if_neg (by simp; omega), if_neg (by simp; omega), if_neg (by simp; omega)]
        · rw [if_neg (by simp; omega), if_pos (by simp; omega), if_pos (by simp; omega), if_neg (by omega)]
      · simp only [s155_0, t155_0, Tr.val_test, Tr.val_fin, leF_eq]
        rw [if_neg (by simp; omega)]
    rw [e0, r155_0, hl]
    have hta := dv_take_all a (Nat.le_refl _)
    have htb := dv_take_all b (Nat.le_of_eq hle.symm)
    cases hf : first (fun k => !decide (a.getD (a.length - 1 - k) 0 = b.getD (a.length - 1 - k) 0)) a.length 0 with
    | none =>
      have hn := first_none hf
      have : ∀ n, n ≤ a.length → dval (a.take n) = dval (b.take n) := by
        intro n
        induction n with
        | zero => intro _; simp
        | succ n ih =>
          intro h
          have := hn (a.length - 1 - n) (by omega) (by omega)
          rw [show a.length - 1 - (a.length - 1 - n) = n by omega] at this
          rw [dv_take, dv_take, ih (by omega), show a.getD n 0 = b.getD n 0 by simpa using this]
      have e := this a.length (Nat.le_refl _)
      rw [hta, htb] at e
      simp [e, isRet]
    | some k =>
      obtain ⟨q1, q2, q3, q4⟩ := first_some hf
      have hne : a.getD (a.length - 1 - k) 0 ≠ b.getD (a.length - 1 - k) 0 := by simpa using q3
      have heq : ∀ i, a.length - 1 - k < i → i < a.length - 1 - k + 1 + k → a.getD i 0 = b.getD i 0 := fun i h1 h2 => by
        have := q4 (a.length - 1 - i) (by omega) (by omega)
        rw [show a.length - 1 - (a.length - 1 - i) = i by omega] at this
        simpa using this
      have hN : a.length - 1 - k + 1 + k = a.length := by omega
      simp only [isRet, Option.isSome_some, if_true, outR]
      by_cases h : a.getD (a.length - 1 - k) 0 < b.getD (a.length - 1 - k) 0
      · have := dv_top ha hb h k heq
        rw [hN, hta, htb] at this
        rw [if_pos h, Int.sign_eq_neg_one_of_neg (by omega)]
      · have := dv_top hb ha (j := a.length - 1 - k) (by omega) k fun i h1 h2 => (heq i h1 h2).symm
        rw [hN, hta, htb] at this
        rw [if_neg h, Int.sign_eq_one_of_pos (by omega)]
  · rw [if_pos (by simp; omega)]
    by_cases h : a.length < b.length
    · rw [if_pos (by simp; omega)]
      have hx := dv_lt ha
      obtain ⟨m, hm⟩ : ∃ m, b.length = m + 1 := ⟨b.length - 1, by omega⟩
      have hy := can_ge hb cb hm
      have : pw a.length ≤ pw m := pw_le (by omega)
      rw [Int.sign_eq_neg_one_of_neg (by omega)]
    · rw [if_neg (by simp; omega)]
      have hx := dv_lt hb
      obtain ⟨m, hm⟩ : ∃ m, a.length = m + 1 := ⟨a.length - 1, by omega⟩
      have hy := can_ge ha ca hm
      have : pw b.length ≤ pw m := pw_le (by omega)
      rw [Int.sign_eq_one_of_pos (by omega)]

theorem l117_2_eq (n c i : Nat) (s0 s1 z : Int) (a b buf : List Int) (hi : i < a.length) (ha : Dg a) (hb : Dg b) (hbuf : Dg buf) (hlen : buf.length = n) (hn : i + b.length ≤ n) (hs : n ≤ 1000000) :
    l117_2 (((n, c), ((i : Int), (0 : Int), (0 : Int), ())), ((s0, a, ()), (s1, b, ()), (z, ()), buf, ())) =
      some (.inl (((n, c), ((i : Int), (mI (a.getD i 0) b i buf b.length).2, ())), ((s0, a, ()), (s1, b, ()), (z, ()), (mI (a.getD i 0) b i buf b.length).1, ()))) := by
  refine itr_brk (fun j => (((n, c), ((i : Int), (mI (a.getD i 0) b i buf j).2, (j : Int), ())), ((s0, a, ()), (s1, b, ()), (z, ()), (mI (a.getD i 0) b i buf j).1, ()))) (n := b.length) ?_ ?_ (lt_rounds (by omega))
  · intro j hj
    obtain ⟨h1, h2, h3⟩ := mI_Dg (i := i) (ha.getD i) hb hbuf j
    have h4 := h1.getD (i + j)
    have h5 := dg_mul (ha.getD i) (hb.getD j)
    have hml := mI_len (a.getD i 0) b i buf j
    have e0 : wrap64 ((i : Int) + (j : Int)) = ((i + j : Nat) : Int) := by rw [wrap64_id (by omega) (by omega)]; omega
    have e1 : wrap64 (a.getD i 0 * b.getD j 0) = a.getD i 0 * b.getD j 0 := wrap64_id (by omega) (by omega)
    have e2 : wrap64 (wrap64 ((mI (a.getD i 0) b i buf j).1.getD (i + j) 0 + a.getD i 0 * b.getD j 0) + (mI (a.getD i 0) b i buf j).2) = (mI (a.getD i 0) b i buf j).1.getD (i + j) 0 + a.getD i 0 * b.getD j 0 + (mI (a.getD i 0) b i buf j).2 := by
      rw [wrap64_id (n := (mI (a.getD i 0) b i buf j).1.getD (i + j) 0 + a.getD i 0 * b.getD j 0) (by omega) (by omega), wrap64_id (by omega) (by omega)]
    have e3 : Int.tmod ((mI (a.getD i 0) b i buf j).1.getD (i + j) 0 + a.getD i 0 * b.getD j 0 + (mI (a.getD i 0) b i buf j).2) 1000000000 = ((mI (a.getD i 0) b i buf j).1.getD (i + j) 0 + a.getD i 0 * b.getD j 0 + (mI (a.getD i 0) b i buf j).2) % 1000000000 := Int.tmod_eq_emod_of_nonneg (by omega)
    have e4 : IntKind.wrap .i64 (Int.tdiv ((mI (a.getD i 0) b i buf j).1.getD (i + j) 0 + a.getD i 0 * b.getD j 0 + (mI (a.getD i 0) b i buf j).2) 1000000000) = ((mI (a.getD i 0) b i buf j).1.getD (i + j) 0 + a.getD i 0 * b.getD j 0 + (mI (a.getD i 0) b i buf j).2) / 1000000000 := by
      rw [Int.tdiv_eq_ediv_of_nonneg (by omega), wrapJ (by omega) (by omega)]
    have e5 : wrap64 ((j : Int) + 1) = ((j + 1 : Nat) : Int) := wrap64_nat (by omega)
    simp only [s117_2, t117_2, Tr.val_test, Tr.val_fin, leF_eq, e0, Int.toNat_natCast, Nat.zero_add, e1, e2, e3, e4, e5]
    rw [if_pos (by simp; omega), if_pos (by simp; omega), if_pos (by rw [hml, ble_eq_true']; omega), if_pos (by simp; omega), if_pos (by simp; omega)]
    rfl
  · simp [s117_2, t117_2, leF_eq]

theorem l117_0_eq (s0 s1 z : Int) (a b : List Int) (n : Nat) (ha : Dg a) (hb : Dg b) (hn : n = a.length + b.length + 1) (hs : n ≤ 1000000) :
    l117_0 (((n, n), ((0 : Int), ())), ((s0, a, ()), (s1, b, ()), (z, ()), List.replicate n 0, ())) = some (.inl (((n, n), ()), ((s0, a, ()), (s1, b, ()), (z, ()), mO a b a.length, ()))) := by
  subst hn
  refine itr_brk (fun i => (((a.length + b.length + 1, a.length + b.length + 1), ((i : Int), ())), ((s0, a, ()), (s1, b, ()), (z, ()), mO a b i, ()))) (n := a.length) ?_ ?_ (lt_rounds (by omega))
  · intro i hi
    have hl := l117_2_eq (a.length + b.length + 1) (a.length + b.length + 1) i s0 s1 z a b (mO a b i) hi ha hb (mO_Dg ha hb i) (mO_len a b i) (by omega) hs
    obtain ⟨h1, h2, h3⟩ := mI_Dg (i := i) (ha.getD i) hb (mO_Dg ha hb i) b.length
    have e0 : wrap64 ((i : Int) + (b.length : Int)) = ((i + b.length : Nat) : Int) := by rw [wrap64_id (by omega) (by omega)]; omega
    have e1 : wrap64 ((mI (a.getD i 0) b i (mO a b i) b.length).1.getD (i + b.length) 0 + (mI (a.getD i 0) b i (mO a b i) b.length).2) = (mI (a.getD i 0) b i (mO a b i) b.length).1.getD (i + b.length) 0 + (mI (a.getD i 0) b i (mO a b i) b.length).2 := by
      rw [mO_get]; exact wrap64_id (by omega) (by omega)
    have e5 : wrap64 ((i : Int) + 1) = ((i + 1 : Nat) : Int) := wrap64_nat (by omega)
    have hml : (mI (a.getD i 0) b i (mO a b i) b.length).1.length = a.length + b.length + 1 := by rw [mI_len, mO_len]
    simp only [s117_0, t117_0, b117_2, hl, isBrk, outB, Tr.val_test, Tr.val_fin, leF_eq, e0, Int.toNat_natCast, Nat.zero_add, e1, e5, if_true]
    rw [if_pos (by simp; omega), if_pos (by simp; omega), if_pos (by rw [hml, ble_eq_true']; omega)]
    rfl
  · simp [s117_0, t117_0, leF_eq]

theorem f117_raw (s0 s1 : Int) (a b : List Int) (ha : Dg a) (hb : Dg b) (h : a.length + b.length + 1 ≤ 1000000) : f117 ((s0, a, ()), (s1, b, ()), ()) = some (mkN (wrap64 (s0 * s1)) (dval a * dval b), ()) := by
  have e0 : wrap64 (wrap64 ((a.length : Int) + (b.length : Int)) + 1) = ((a.length + b.length + 1 : Nat) : Int) := by
    rw [wrap64_id (n := (a.length : Int) + (b.length : Int)) (by omega) (by omega), wrap64_id (by omega) (by omega)]; omega
  have hl := l117_0_eq s0 s1 0 a b _ ha hb rfl h
  have hd := mO_Dg ha hb a.length
  have hv := mO_dv a b a.length (Nat.le_refl _)
  rw [dv_take_all a (Nat.le_refl _)] at hv
  have hlen := mO_len a b a.length
  have hf : f149 (wrap64 (s0 * s1), mO a b a.length, ()) = some (mkN (wrap64 (s0 * s1)) (dval a * dval b), ()) := by rw [f149_eq _ _ (by omega) hd, hv]
  simp only [f117, t117, e0, Int.toNat_natCast, b117_0, hl, isBrk, outB, Tr.val_test, Tr.val_fin, if_true, hlen, g149, hf, Option.isSome_some, Option.getD_some]
  rw [if_pos (by simp; omega), if_pos (by simp)]

theorem f117_eq (x y : Int) (h : (dig x.natAbs).length + (dig y.natAbs).length + 1 ≤ 1000000) : f117 (enc x, enc y, ()) = some (enc (x * y), ()) := by
  have hf := f117_raw x.sign y.sign (dig x.natAbs) (dig y.natAbs) (dig_Dg _) (dig_Dg _) h
  rw [dig_dv, dig_dv] at hf
  have hw : wrap64 (x.sign * y.sign) = (x * y).sign := by
    rw [← Int.sign_mul]
    have : (x * y).sign = -1 ∨ (x * y).sign = 0 ∨ (x * y).sign = 1 := by
      rcases Int.lt_trichotomy (x * y) 0 with h | h | h
      · left; exact Int.sign_eq_neg_one_of_neg h
      · right; left; rw [h]; rfl
      · right; right; exact Int.sign_eq_one_of_pos h
    exact wrap64_id (by omega) (by omega)
  rw [hw] at hf
  have he : mkN (x * y).sign ((x.natAbs : Int) * (y.natAbs : Int)) = enc (x * y) := by
    rw [← Int.natCast_mul, ← Int.natAbs_mul]
    exact mkN_enc fun _ => rfl
  rw [he] at hf
  exact hf

theorem sgn_cases (x : Int) : (x < 0 ∧ x.sign = -1) ∨ (x = 0 ∧ x.sign = 0) ∨ (0 < x ∧ x.sign = 1) := by
  rcases Int.lt_trichotomy x 0 with h | h | h
  · exact .inl ⟨h, Int.sign_eq_neg_one_of_neg h⟩
  · exact .inr (.inl ⟨h, by rw [h]; rfl⟩)
  · exact .inr (.inr ⟨h, Int.sign_eq_one_of_pos h⟩)

theorem f116_raw (s0 s1 : Int) (a b : List Int) (ha : Dg a) (hb : Dg b) (ca : Can a) (cb : Can b) (h1 : a.length ≤ 100000) (h2 : b.length ≤ 100000) : f116 ((s0, a, ()), (s1, b, ()), ()) =
    if s0 = 0 then some ((s1, b, ()), ()) else if s1 = 0 then some ((s0, a, ()), ()) else if s0 = s1 then some (mkN s0 (dval a + dval b), ()) else
    if dval a = dval b then some ((0, [], ()), ()) else if dval b < dval a then some (mkN s0 (dval a - dval b), ()) else some (mkN s1 (dval b - dval a), ()) := by
  have hle : ∀ {l : List Int} {n : Int}, Dg l → Can l → dval l ≤ n → ∀ {l2 : List Int}, Dg l2 → n = dval l2 → l.length ≤ l2.length := fun {l n} hd hc hn {l2} hd2 e => by
    rcases Nat.lt_or_ge l2.length l.length with h | h
    · exfalso
      obtain ⟨m, hm⟩ : ∃ m, l.length = m + 1 := ⟨l.length - 1, by omega⟩
      have := can_ge hd hc hm
      have := dv_lt hd2
      have : pw l2.length ≤ pw m := pw_le (by omega)
      omega
    · exact h
  have hn : nA a b ≤ max a.length b.length + 1 := by unfold nA; split <;> omega
  simp only [f116, t116, Tr.val_test, Tr.val_fin, eqF_eq, leF_eq, decide_eq_true_eq]
  by_cases c1 : s0 = 0
  · rw [if_pos c1, if_pos c1]
  rw [if_neg c1, if_neg c1]
  by_cases c2 : s1 = 0
  · rw [if_pos c2, if_pos c2]
  rw [if_neg c2, if_neg c2]
  by_cases c3 : s0 = s1
  · rw [if_pos c3, if_pos c3]
    simp only [g154, f154_eq a b ha hb h1 h2, Option.isSome_some, Option.getD_some, if_true, g149, f149_eq s0 (oA a b (nA a b)) (by rw [oA_len]; omega) (oA_Dg a b _), oA_sum ha hb]
  rw [if_neg c3, if_neg c3]
  simp only [g155, f155_eq a b ha hb ca cb (by omega), Option.isSome_some, Option.getD_some, if_true]
  rcases sgn_cases (dval a - dval b) with ⟨hs, e⟩ | ⟨hs, e⟩ | ⟨hs, e⟩
  · have hl := hle ha ca (show dval a ≤ dval b by omega) hb rfl
    have hv : ((dval b - dval a).toNat : Int) = dval b - dval a := by omega
    have hlen : (dig (dval b - dval a).toNat).length ≤ b.length := dig_len (by have := dv_lt hb; have := dv_nonneg ha; omega)
    rw [if_neg (by rw [e]; omega), if_neg (by rw [e]; simp)]
    simp only [g156, f156_eq b a hb ha (by omega) hl (by omega), Option.isSome_some, Option.getD_some, if_true, g149, f149_eq s1 (dig (dval b - dval a).toNat) (by omega) (dig_Dg _), dig_dv, hv]
    rw [if_neg (by omega), if_neg (by omega)]
  · rw [if_pos (by rw [e]), if_pos (by omega)]
  · have hl := hle hb cb (show dval b ≤ dval a by omega) ha rfl
    have hv : ((dval a - dval b).toNat : Int) = dval a - dval b := by omega
    have hlen : (dig (dval a - dval b).toNat).length ≤ a.length := dig_len (by have := dv_lt ha; have := dv_nonneg hb; omega)
    rw [if_neg (by rw [e]; omega), if_pos (by rw [e]; simp)]
    simp only [g156, f156_eq a b ha hb (by omega) hl (by omega), Option.isSome_some, Option.getD_some, if_true, g149, f149_eq s0 (dig (dval a - dval b).toNat) (by omega) (dig_Dg _), dig_dv, hv]
    rw [if_neg (by omega), if_pos (by omega)]

theorem mkN_eq {s n z : Int} (h : n = z.natAbs) (hs : z ≠ 0 → s = z.sign) : mkN s n = enc z := by rw [h]; exact mkN_enc hs

theorem f116_eq (x y : Int) (h1 : (dig x.natAbs).length ≤ 100000) (h2 : (dig y.natAbs).length ≤ 100000) : f116 (enc x, enc y, ()) = some (enc (x + y), ()) := by
  have hf := f116_raw x.sign y.sign (dig x.natAbs) (dig y.natAbs) (dig_Dg _) (dig_Dg _) (dig_Can _) (dig_Can _) h1 h2
  rw [dig_dv, dig_dv] at hf
  refine hf.trans ?_
  have t0 : (0 : Int).sign = 0 := rfl
  rcases sgn_cases x with ⟨hx, ex⟩ | ⟨hx, ex⟩ | ⟨hx, ex⟩
  · rcases sgn_cases y with ⟨hy, ey⟩ | ⟨hy, ey⟩ | ⟨hy, ey⟩
    · rw [ex, ey, if_neg (by omega), if_neg (by omega), if_pos rfl, mkN_eq (z := x + y) (by omega) fun _ => by rw [Int.sign_eq_neg_one_of_neg (by omega)]]
    · rw [ex, ey, if_neg (by omega), if_pos rfl]; subst hy; rw [Int.add_zero, enc, ex]
    · rw [ex, ey, if_neg (by omega), if_neg (by omega), if_neg (by omega)]
      split
      · have : x + y = 0 := by omega
        rw [this]; simp [enc, dig_zero]
      · split
        · rw [mkN_eq (z := x + y) (by omega) fun _ => by rw [Int.sign_eq_neg_one_of_neg (by omega)]]
        · rw [mkN_eq (z := x + y) (by omega) fun _ => by rw [Int.sign_eq_one_of_pos (by omega)]]
  · rw [ex, if_pos rfl]; subst hx; rw [Int.zero_add, enc]
  · rcases sgn_cases y with ⟨hy, ey⟩ | ⟨hy, ey⟩ | ⟨hy, ey⟩
    · rw [ex, ey, if_neg (by omega), if_neg (by omega), if_neg (by omega)]
      split
      · have : x + y = 0 := by omega
        rw [this]; simp [enc, dig_zero]
      · split
        · rw [mkN_eq (z := x + y) (by omega) fun _ => by rw [Int.sign_eq_one_of_pos (by omega)]]
        · rw [mkN_eq (z := x + y) (by omega) fun _ => by rw [Int.sign_eq_neg_one_of_neg (by omega)]]
    · rw [ex, ey, if_neg (by omega), if_pos rfl]; subst hy; rw [Int.add_zero, enc, ex]
    · rw [ex, ey, if_neg (by omega), if_neg (by omega), if_pos rfl, mkN_eq (z := x + y) (by omega) fun _ => by rw [Int.sign_eq_one_of_pos (by omega)]]

theorem enc_neg (x : Int) : (IntKind.wrap .i64 (0 - x.sign), dig x.natAbs, ()) = enc (-x) := by
  have : IntKind.wrap .i64 (0 - x.sign) = (-x).sign := by
    rw [Int.sign_neg]
    rcases sgn_cases x with ⟨_, e⟩ | ⟨_, e⟩ | ⟨_, e⟩ <;> rw [e] <;> rfl
  rw [this, enc, Int.natAbs_neg]

theorem f150_eq (x : Int) : f150 (enc x, ()) = some (enc (-x), ()) := by
  rw [← enc_neg]; rfl

theorem f157_eq (x y : Int) (h1 : (dig x.natAbs).length ≤ 100000) (h2 : (dig y.natAbs).length ≤ 100000) : f157 (enc x, enc y, ()) = some (enc (x - y), ()) := by
  have e0 : f150 ((y.sign, dig y.natAbs, ()), ()) = some (enc (-y), ()) := f150_eq y
  have e1 : f116 ((x.sign, dig x.natAbs, ()), ((enc (-y)).1, (enc (-y)).2.1, ()), ()) = some (enc (x - y), ()) := f116_eq x (-y) h1 (by rw [Int.natAbs_neg]; exact h2)
  show f157 ((x.sign, dig x.natAbs, ()), (y.sign, dig y.natAbs, ()), ()) = _
  simp only [f157, t157, g150, e0, g116, e1, Option.isSome_some, Option.getD_some, Tr.val_test, Tr.val_fin, if_true]

theorem f118_eq (x y : Int) (h1 : (dig x.natAbs).length ≤ 100000) (h2 : (dig y.natAbs).length ≤ 100000) : f118 (enc x, enc y, ()) = some ((x - y).sign, ()) := by
  have e0 : f157 ((x.sign, dig x.natAbs, ()), (y.sign, dig y.natAbs, ()), ()) = some (enc (x - y), ()) := f157_eq x y h1 h2
  show f118 ((x.sign, dig x.natAbs, ()), (y.sign, dig y.natAbs, ()), ()) = _
  simp only [f118, t118, g157, e0, Option.isSome_some, Option.getD_some, Tr.val_test, Tr.val_fin, if_true]
  rfl

theorem f174_eq (x : Int) : f174 (enc x, ()) = some (enc x.natAbs, ()) := by
  have e0 : f150 ((x.sign, dig x.natAbs, ()), ()) = some (enc (-x), ()) := f150_eq x
  show f174 ((x.sign, dig x.natAbs, ()), ()) = _
  simp only [f174, t174, g150, e0, Option.isSome_some, Option.getD_some, Tr.val_test, Tr.val_fin, leF_eq, if_true]
  rcases sgn_cases x with ⟨h, e⟩ | ⟨h, e⟩ | ⟨h, e⟩
  · rw [if_pos (by rw [e]; simp), show ((x.natAbs : Nat) : Int) = -x by omega]
  · subst h; rfl
  · rw [if_neg (by rw [e]; simp), show ((x.natAbs : Nat) : Int) = x by omega]; rfl

theorem dig_mono {m n : Nat} (h : m ≤ n) : (dig m).length ≤ (dig n).length := dig_len (by have := dig_len_pw n; omega)

theorem enc_pos {x : Int} (h : 0 < x) : f149 (1, dig x.natAbs, ()) = f149 (x.sign, dig x.natAbs, ()) := by rw [Int.sign_eq_one_of_pos h]

theorem f149_enc (x : Int) (h : (dig x.natAbs).length ≤ 1000000000) : f149 (x.sign, dig x.natAbs, ()) = some (enc x, ()) := by
  rw [f149_eq _ _ h (dig_Dg _), dig_dv, mkN_enc fun _ => rfl]

theorem dig_small {x : Int} (h0 : 0 ≤ x) (h : x < 1000000000) : (dig x.natAbs).length ≤ 1 := dig_len (by simp only [pw]; omega)

theorem f117_one {x y : Int} (hx : (dig x.natAbs).length ≤ 10000) (h0 : 0 ≤ y) (h : y < 1000000000) : f117 (((enc x).1, (enc x).2.1, ()), ((enc y).1, (enc y).2.1, ()), ()) = some (enc (x * y), ()) :=
  f117_eq x y (by have := dig_small h0 h; omega)

theorem it153 (n c : Nat) (i s0 s1 z : Int) (a buf : List Int) (V Y : Int) (hV : 0 ≤ V) (hY : 0 < Y) (hl : (dig Y.natAbs).length ≤ 10000) (hq : V / Y ≤ 999999999) :
    ∀ (k : Nat) (lo hi : Int) (m : Nat), (hi - lo).toNat ≤ k → 0 ≤ lo → lo ≤ V / Y → V / Y ≤ hi → hi ≤ 999999999 → k < m →
      itr s153_2 m (((n, c), (dig V.toNat, i, lo, hi, ())), ((s0, a, ()), (s1, dig Y.natAbs, ()), (z, ()), buf, ())) =
        some (.inl (((n, c), (dig V.toNat, i, V / Y, ())), ((s0, a, ()), (s1, dig Y.natAbs, ()), (z, ()), buf, ())))
  | k, lo, hi, m, hk, h1, h2, h3, h4, hm => by
    obtain ⟨m, rfl⟩ : ∃ j, m = j + 1 := ⟨m - 1, by omega⟩
    by_cases h : lo < hi
    · obtain ⟨k, rfl⟩ : ∃ j, k = j + 1 := ⟨k - 1, by omega⟩
      have e0 : IntKind.wrap .i64 (Int.tdiv (wrap64 (wrap64 (lo + hi) + 1)) 2) = (lo + hi + 1) / 2 := by
        rw [wrap64_id (n := lo + hi) (by omega) (by omega), wrap64_id (by omega) (by omega), Int.tdiv_eq_ediv_of_nonneg (by omega), wrapJ (by omega) (by omega)]
      have e5 : wrap64 ((lo + hi + 1) / 2 - 1) = (lo + hi + 1) / 2 - 1 := wrap64_id (by omega) (by omega)
      generalize hmid : (lo + hi + 1) / 2 = mid at *
      have b1 : 0 ≤ mid := by omega
      have b2 : mid < 1000000000 := by omega
      have e1 : f149 (1, dig Y.natAbs, ()) = some (enc Y, ()) := by rw [enc_pos hY, f149_enc Y (by omega)]
      have e2 := f113_eq mid (by omega)
      have e3 := f117_one (x := Y) hl b1 b2
      have hnn : 0 ≤ Y * mid := Int.mul_nonneg (by omega) b1
      have hvn : ((V.toNat : Nat) : Int) = V := by omega
      have hlm : (dig (Y * mid).natAbs).length ≤ (dig Y.natAbs).length + 1 := dig_len (by
        have q1 := dig_len_pw Y.natAbs
        have q3 : Y * mid < Y * 1000000000 := Int.mul_lt_mul_of_pos_left b2 hY
        simp only [pw]
        omega)
      have e4 : f155 ((enc (Y * mid)).2.1, dig V.toNat, ()) = some ((Y * mid - V).sign, ()) := by
        have := f155_eq (dig (Y * mid).natAbs) (dig V.toNat) (dig_Dg _) (dig_Dg _) (dig_Can _) (dig_Can _) (by omega)
        rw [dig_dv, dig_dv, hvn, show (((Y * mid).natAbs : Nat) : Int) = Y * mid by omega] at this
        exact this
      have hiff : mid ≤ V / Y ↔ Y * mid ≤ V := by rw [Int.le_ediv_iff_mul_le hY, Int.mul_comm]
      have hstep : s153_2 (((n, c), (dig V.toNat, i, lo, hi, ())), ((s0, a, ()), (s1, dig Y.natAbs, ()), (z, ()), buf, ())) =
          some (.again (((n, c), (dig V.toNat, i, (if mid ≤ V / Y then mid else lo), (if mid ≤ V / Y then hi else mid - 1), ())), ((s0, a, ()), (s1, dig Y.natAbs, ()), (z, ()), buf, ()))) := by
        simp only [s153_2, t153_2, e0, e5, g149, e1, g113, e2, g117, e3, g155, e4, Option.isSome_some, Option.getD_some, Tr.val_test, Tr.val_fin, leF_eq, if_true]
        rw [if_pos (by simp; omega)]
        rcases sgn_cases (Y * mid - V) with ⟨w, es⟩ | ⟨w, es⟩ | ⟨w, es⟩
        · have := hiff.2 (by omega)
          rw [if_pos (by rw [es]; simp), if_pos this, if_pos this]
        · have := hiff.2 (by omega)
          rw [if_pos (by rw [es]; simp), if_pos this, if_pos this]
        · have : ¬ mid ≤ V / Y := fun t => by have := hiff.1 t; omega
          rw [if_neg (by rw [es]; simp), if_neg this, if_neg this]
      rw [itr, hstep]
      dsimp only
      by_cases hc : mid ≤ V / Y
      · rw [if_pos hc, if_pos hc]
        exact it153 n c i s0 s1 z a buf V Y hV hY hl hq k mid hi m (by omega) b1 hc h3 h4 (by omega)
      · rw [if_neg hc, if_neg hc]
        exact it153 n c i s0 s1 z a buf V Y hV hY hl hq k lo (mid - 1) m (by omega) h1 h2 (by omega) (by omega) (by omega)
    · have : lo = V / Y := by omega
      rw [itr]
      simp only [s153_2, t153_2, Tr.val_test, Tr.val_fin, leF_eq]
      rw [if_neg (by simp; omega), this]

theorem set_zeros (q : Int) (d : List Int) : ∀ j, (List.replicate (j + 1) 0 ++ d).set j q = List.replicate j 0 ++ q :: d
  | 0 => by simp
  | j + 1 => by
    rw [List.replicate_succ, List.cons_append, List.set_cons_succ, set_zeros q d j, List.replicate_succ, List.cons_append]

/-- The value of the upper digits. -/
def upA (a : List Int) : Nat → Int
  | 0 => 0
  | k + 1 => a.getD (a.length - 1 - k) 0 + 1000000000 * upA a k

theorem upA_drop (a : List Int) : ∀ k, k ≤ a.length → upA a k = dval (a.drop (a.length - k))
  | 0, _ => by simp [upA, dval]
  | k + 1, h => by
    have e : a.length - (k + 1) + 1 = a.length - k := by omega
    rw [upA, upA_drop a k (by omega), List.drop_eq_getElem_cons (show a.length - (k + 1) < a.length by omega), dval, e]
    congr 1
    have : a.length - 1 - k = a.length - (k + 1) := by omega
    rw [this]
    simp [List.getD, show a.length - (k + 1) < a.length by omega]

/-- The digits of the quotient. -/
def dQ (a : List Int) (Y : Int) : Nat → List Int
  | 0 => []
  | k + 1 => ((a.getD (a.length - 1 - k) 0 + 1000000000 * (upA a k % Y)) / Y) :: dQ a Y k

theorem dQ_len (a : List Int) (Y : Int) : ∀ k, (dQ a Y k).length = k
  | 0 => rfl
  | k + 1 => by simp [dQ, dQ_len a Y k]

theorem dQ_bound {a : List Int} (ha : Dg a) {Y : Int} (hY : 0 < Y) (k : Nat) : 0 ≤ (a.getD (a.length - 1 - k) 0 + 1000000000 * (upA a k % Y)) / Y ∧ (a.getD (a.length - 1 - k) 0 + 1000000000 * (upA a k % Y)) / Y < 1000000000 := by
  have h1 := ha.getD (a.length - 1 - k)
  have h2 := Int.emod_nonneg (upA a k) (show Y ≠ 0 by omega)
  have h3 := Int.emod_lt_of_pos (upA a k) hY
  refine ⟨Int.ediv_nonneg (by omega) (by omega), Int.ediv_lt_of_lt_mul hY (by omega)⟩

theorem dQ_Dg {a : List Int} (ha : Dg a) {Y : Int} (hY : 0 < Y) : ∀ k, Dg (dQ a Y k)
  | 0 => Dg.nil
  | k + 1 => fun d hd => by
    rcases List.mem_cons.1 hd with rfl | hd
    · exact dQ_bound ha hY k
    · exact dQ_Dg ha hY k d hd

theorem upA_split (a : List Int) {Y : Int} (k : Nat) : upA a (k + 1) = a.getD (a.length - 1 - k) 0 + 1000000000 * (upA a k % Y) + Y * (1000000000 * (upA a k / Y)) := by
  have := Int.emod_add_mul_ediv (upA a k) Y
  rw [upA]
  have e : Y * (1000000000 * (upA a k / Y)) = 1000000000 * (Y * (upA a k / Y)) := by rw [Int.mul_left_comm]
  omega

theorem dQ_dv (a : List Int) {Y : Int} (hY : 0 < Y) : ∀ k, dval (dQ a Y k) = upA a k / Y
  | 0 => by simp [dQ, dval, upA]
  | k + 1 => by
    rw [dQ, dval, dQ_dv a hY k, upA_split a (Y := Y) k, Int.add_mul_ediv_left _ _ (by omega)]

theorem upA_mod (a : List Int) {Y : Int} (k : Nat) : upA a (k + 1) % Y = (a.getD (a.length - 1 - k) 0 + 1000000000 * (upA a k % Y)) % Y := by
  rw [upA_split a (Y := Y) k, Int.add_mul_emod_self_left]

theorem dig_up (V Y : Int) (hV : 0 ≤ V) (hY : 0 < Y) : f156 (dig V.toNat, (enc (Y * (V / Y))).2.1, ()) = f156 (dig V.toNat, dig (Y * (V / Y)).toNat, ()) := by
  have h : 0 ≤ Y * (V / Y) := Int.mul_nonneg (by omega) (Int.ediv_nonneg hV (by omega))
  rw [show (Y * (V / Y)).toNat = (Y * (V / Y)).natAbs by omega]; rfl

theorem f156_rem (V Y : Int) (hV : 0 ≤ V) (hY : 0 < Y) (h : (dig V.toNat).length ≤ 1000000) : f156 (dig V.toNat, (enc (Y * (V / Y))).2.1, ()) = some (dig (V % Y).toNat, ()) := by
  have h0 : 0 ≤ Y * (V / Y) := Int.mul_nonneg (by omega) (Int.ediv_nonneg hV (by omega))
  have h1 := Int.emod_add_mul_ediv V Y
  have h2 := Int.emod_nonneg V (show Y ≠ 0 by omega)
  have e1 : ((V.toNat : Nat) : Int) = V := by omega
  have e2 : (((Y * (V / Y)).toNat : Nat) : Int) = Y * (V / Y) := by omega
  rw [dig_up V Y hV hY, f156_eq _ _ (dig_Dg _) (dig_Dg _) h (dig_mono (by omega)) (by rw [dig_dv, dig_dv]; omega), dig_dv, dig_dv, e1, e2, show V - Y * (V / Y) = V % Y by omega]

theorem l153 (s0 s1 z : Int) (a : List Int) (Y : Int) (ha : Dg a) (hY : 0 < Y) (hl : (dig Y.natAbs).length ≤ 10000) (h : a.length ≤ 10000) :
    l153_0 (((a.length, a.length), ([], (a.length : Int) - 1, ())), ((s0, a, ()), (s1, dig Y.natAbs, ()), (z, ()), List.replicate a.length 0, ())) =
      some (.inl (((a.length, a.length), (dig (upA a a.length % Y).toNat, ())), ((s0, a, ()), (s1, dig Y.natAbs, ()), (z, ()), dQ a Y a.length, ()))) := by
  have key := itr_brk (step := s153_0) (m := rounds) (n := a.length) (b := (((a.length, a.length), (dig (upA a a.length % Y).toNat, ())), ((s0, a, ()), (s1, dig Y.natAbs, ()), (z, ()), dQ a Y a.length, ())))
    (fun k => (((a.length, a.length), (dig (upA a k % Y).toNat, (a.length : Int) - 1 - (k : Int), ())), ((s0, a, ()), (s1, dig Y.natAbs, ()), (z, ()), List.replicate (a.length - k) 0 ++ dQ a Y k, ()))) ?_ ?_ (lt_rounds (by omega))
  · have h0 : dig (upA a 0 % Y).toNat = [] := by simp [upA, dig_zero]
    have h1 : List.replicate (a.length - 0) (0 : Int) ++ dQ a Y 0 = List.replicate a.length 0 := by simp [dQ]
    have h2 : (a.length : Int) - 1 - ((0 : Nat) : Int) = (a.length : Int) - 1 := by omega
    simp only [h0, h1, h2] at key
    exact key
  · intro k hk
    have hidx : (a.length : Int) - 1 - (k : Int) = ((a.length - 1 - k : Nat) : Int) := by omega
    have hnext : wrap64 (((a.length - 1 - k : Nat) : Int) - 1) = (a.length : Int) - 1 - ((k + 1 : Nat) : Int) := by rw [wrap64_id (by omega) (by omega)]; omega
    have hrep : List.replicate (a.length - k) (0 : Int) = List.replicate ((a.length - 1 - k) + 1) 0 := by congr 1; omega
    have hset : (List.replicate (a.length - k) 0 ++ dQ a Y k).set (a.length - 1 - k) ((a.getD (a.length - 1 - k) 0 + 1000000000 * (upA a k % Y)) / Y) = List.replicate (a.length - (k + 1)) 0 ++ dQ a Y (k + 1) := by
      rw [hrep, set_zeros, dQ, show a.length - (k + 1) = a.length - 1 - k by omega]
    have hblen : (List.replicate (a.length - k) (0 : Int) ++ dQ a Y k).length = a.length := by rw [List.length_append, List.length_replicate, dQ_len]; omega
    have hb := dQ_bound ha hY k
    have hd := ha.getD (a.length - 1 - k)
    have hr0 := Int.emod_nonneg (upA a k) (show Y ≠ 0 by omega)
    have hr1 := Int.emod_lt_of_pos (upA a k) hY
    have hmod := upA_mod a (Y := Y) k
    generalize hR : upA a k % Y = R at *
    generalize hV : a.getD (a.length - 1 - k) 0 + 1000000000 * R = V at *
    have hV0 : 0 ≤ V := by omega
    have hRl : (dig R.toNat).length ≤ 10000 := Nat.le_trans (dig_mono (by omega)) hl
    have hVl : (dig V.toNat).length ≤ 10001 := by
      refine Nat.le_trans (m := (dig Y.natAbs).length + 1) (dig_len ?_) (by omega)
      have q1 := dig_len_pw Y.natAbs
      simp only [pw]; omega
    have hdg : Dg ([a.getD (a.length - 1 - k) 0] ++ dig R.toNat) := Dg.append (fun x hx => by rw [List.mem_singleton] at hx; subst hx; exact hd) (dig_Dg _)
    have hf : f173 ([a.getD (a.length - 1 - k) 0] ++ dig R.toNat, ()) = some (dig V.toNat, ()) := by
      rw [f173_eq _ (by simp; omega) hdg]
      congr 3
      have : dval ([a.getD (a.length - 1 - k) 0] ++ dig R.toNat) = V := by
        show a.getD (a.length - 1 - k) 0 + 1000000000 * dval (dig R.toNat) = V
        rw [dig_dv]; omega
      rw [this]
    have hin : l153_2 (((a.length, a.length), (dig V.toNat, ((a.length - 1 - k : Nat) : Int), (0 : Int), (999999999 : Int), ())), ((s0, a, ()), (s1, dig Y.natAbs, ()), (z, ()), List.replicate (a.length - k) 0 ++ dQ a Y k, ())) =
        some (.inl (((a.length, a.length), (dig V.toNat, ((a.length - 1 - k : Nat) : Int), V / Y, ())), ((s0, a, ()), (s1, dig Y.natAbs, ()), (z, ()), List.replicate (a.length - k) 0 ++ dQ a Y k, ()))) :=
      it153 _ _ _ s0 s1 z a _ V Y hV0 hY hl (by omega) 999999999 0 999999999 rounds (by omega) (by omega) hb.1 (by omega) (by omega) (lt_rounds (by omega))
    have e1 : f149 (1, dig Y.natAbs, ()) = some (enc Y, ()) := by rw [enc_pos hY, f149_enc Y (by omega)]
    have e2 := f113_eq (V / Y) (by omega)
    have e3 := f117_one (x := Y) hl hb.1 hb.2
    have e4 := f156_rem V Y hV0 hY (by omega)
    rw [hidx]
    dsimp only
    simp only [s153_0, t153_0, Tr.val_test, Tr.val_fin, leF_eq, Int.toNat_natCast]
    rw [if_pos (by simp), if_pos (by simp; omega)]
    by_cases hR0 : R = 0
    · have hnil : dig R.toNat = [] := by rw [hR0]; exact dig_zero
      rw [hnil, List.append_nil] at hf
      rw [hnil]
      simp only [g173, hf, b153_2, hin, isBrk, outB, g149, e1, g113, e2, g117, e3, g156, e4, Option.isSome_some, Option.getD_some, if_true, Int.toNat_natCast, Nat.zero_add, hset, hnext, hmod, hblen]
      rw [if_pos (by simp), if_pos (by simp; omega), if_pos (by rw [ble_eq_true']; omega)]
    · have hne : (dig R.toNat).length ≠ 0 := fun t => by
        have := dig_nil.1 (List.eq_nil_of_length_eq_zero t); omega
      simp only [g173, hf, b153_2, hin, isBrk, outB, g149, e1, g113, e2, g117, e3, g156, e4, Option.isSome_some, Option.getD_some, if_true, Int.toNat_natCast, Nat.zero_add, hset, hnext, hmod, hblen]
      rw [if_neg (by rw [beq_eq_true']; omega), if_neg (by rw [ble_eq_true']; omega), if_pos (by simp; omega), if_pos (by rw [beq_eq_true']; simp; omega), if_pos (by simp; omega), if_pos (by rw [ble_eq_true']; omega)]
  · have e : (a.length : Int) - 1 - (a.length : Int) = -1 := by omega
    simp only [e, Nat.sub_self, List.replicate_zero, List.nil_append]
    simp [s153_0, t153_0, leF_eq]

theorem ediv_neg_floor {x Y : Int} (hY : 0 < Y) : x / Y = if (-x) % Y = 0 then -((-x) / Y) else -((-x) / Y) - 1 := by
  have h1 := Int.emod_add_mul_ediv (-x) Y
  have h2 := Int.emod_nonneg (-x) (show Y ≠ 0 by omega)
  have h3 := Int.emod_lt_of_pos (-x) hY
  split
  · rename_i h
    refine ((Int.ediv_emod_unique (r := 0) hY).2 ⟨?_, by omega, hY⟩).1
    rw [Int.mul_neg]; omega
  · refine ((Int.ediv_emod_unique (r := Y - (-x) % Y) hY).2 ⟨?_, by omega, by omega⟩).1
    rw [Int.mul_sub, Int.mul_neg]; omega

theorem f153_eq (x Y : Int) (hY : 0 < Y) (hl : (dig Y.natAbs).length ≤ 10000) (h : (dig x.natAbs).length ≤ 10000) : f153 (enc x, enc Y, ()) = some (enc (x / Y), ()) := by
  show f153 ((x.sign, dig x.natAbs, ()), (Y.sign, dig Y.natAbs, ()), ()) = _
  have hL := l153 x.sign Y.sign 0 (dig x.natAbs) Y (dig_Dg _) hY hl h
  have hup : upA (dig x.natAbs) (dig x.natAbs).length = (x.natAbs : Int) := by
    rw [upA_drop _ _ (Nat.le_refl _), Nat.sub_self, List.drop_zero, dig_dv]
  rw [hup] at hL
  have hdq := dQ_dv (dig x.natAbs) hY (dig x.natAbs).length
  rw [hup] at hdq
  have hw : wrap64 (((dig x.natAbs).length : Int) - 1) = ((dig x.natAbs).length : Int) - 1 := wrap64_id (by omega) (by omega)
  have hql := dQ_len (dig x.natAbs) Y (dig x.natAbs).length
  have hf : f149 (x.sign, dQ (dig x.natAbs) Y (dig x.natAbs).length, ()) = some (mkN x.sign ((x.natAbs : Int) / Y), ()) := by
    rw [f149_eq _ _ (by omega) (dQ_Dg (dig_Dg _) hY _), hdq]
  have h0 := Int.ediv_nonneg (show (0 : Int) ≤ (x.natAbs : Int) by omega) (show 0 ≤ Y by omega)
  have hle : (x.natAbs : Int) / Y ≤ x.natAbs := Int.ediv_le_self _ (by omega)
  simp only [f153, t153, Tr.val_test, Tr.val_fin, eqF_eq, leF_eq, hw, Int.toNat_natCast, b153_0, hL, isBrk, outB, if_true, g149, hf, hql, Option.isSome_some, Option.getD_some]
  rcases sgn_cases x with ⟨hx, e⟩ | ⟨hx, e⟩ | ⟨hx, e⟩
  · have ex : (x.natAbs : Int) = -x := by omega
    rw [if_neg (by rw [e]; simp), if_pos (by simp; omega), if_pos (by simp), if_pos (by rw [e]; simp)]
    have hm : mkN x.sign ((x.natAbs : Int) / Y) = enc (-((-x) / Y)) := mkN_eq (by rw [ex] at h0 ⊢; omega) fun hz => by
      rw [ex] at h0; rw [e, Int.sign_eq_neg_one_of_neg (by omega)]
    have hfl := ediv_neg_floor (x := x) hY
    have hr0 := Int.emod_nonneg (-x) (show Y ≠ 0 by omega)
    rw [hm, ex]
    by_cases hr : (-x) % Y = 0
    · rw [if_pos hr] at hfl
      rw [if_neg (by rw [hr]; simp [dig_zero]), hfl]
    · rw [if_neg hr] at hfl
      have hne : (dig ((-x) % Y).toNat).length ≠ 0 := fun t => by
        have := dig_nil.1 (List.eq_nil_of_length_eq_zero t); omega
      have e1 := f113_eq 1 (by decide)
      have hlq : (dig (-((-x) / Y)).natAbs).length ≤ 10000 := Nat.le_trans (dig_mono (by rw [ex] at h0 hle; omega)) h
      have e2 : f157 (((enc (-((-x) / Y))).1, (enc (-((-x) / Y))).2.1, ()), ((enc 1).1, (enc 1).2.1, ()), ()) = some (enc (-((-x) / Y) - 1), ()) := f157_eq _ 1 (by omega) (by have := dig_small (x := 1) (by omega) (by omega); omega)
      rw [if_pos (by simp only [Bool.not_eq_true', decide_eq_false_iff_not]; omega)]
      simp only [g113, e1, g157, e2, Option.isSome_some, Option.getD_some, if_true]
      rw [hfl]
  · subst hx
    rw [if_pos (by simp), Int.zero_ediv]; simp [enc, dig_zero]
  · have ex : (x.natAbs : Int) = x := by omega
    rw [if_neg (by rw [e]; simp), if_pos (by simp; omega), if_pos (by simp), if_neg (by rw [e]; simp)]
    rw [mkN_eq (z := x / Y) (by rw [ex] at h0 ⊢; omega) fun hz => by
      rw [ex] at h0; rw [e, Int.sign_eq_one_of_pos (by omega)]]

theorem pw_two : ∀ n, pw n ≤ (((2 ^ (30 * n) : Nat)) : Int)
  | 0 => by simp [pw]
  | n + 1 => by
    have := pw_two n
    have e : (2 : Nat) ^ (30 * (n + 1)) = 1073741824 * 2 ^ (30 * n) := by rw [Nat.mul_add, Nat.pow_add, Nat.mul_comm]
    rw [e, pw]
    omega

theorem mod_half {b r : Nat} (h0 : 0 < r) (h : r < b) : 2 * (b % r) < b := by
  have h1 := Nat.mod_lt b h0
  have h2 := Nat.div_add_mod b r
  have h3 : 1 ≤ b / r := (Nat.one_le_div_iff h0).2 (Nat.le_of_lt h)
  have h4 : r * 1 ≤ r * (b / r) := Nat.mul_le_mul_left r h3
  omega

theorem s152_step (a b : Nat) (z : Int) (hb : b ≠ 0) (h1 : (dig a).length ≤ 10000) (h2 : (dig b).length ≤ 10000) :
    s152_0 ((), (((a : Int).sign, dig a, ()), ((b : Int).sign, dig b, ()), (z, ()), ())) = some (.again ((), (((b : Int).sign, dig b, ()), (((a % b : Nat) : Int).sign, dig (a % b), ()), (z, ()), ()))) := by
  have e0 : f151 (((b : Int).sign, dig b, ()), ()) = some ((b : Int).sign, ()) := rfl
  have e1 : f153 (((a : Int).sign, dig a, ()), ((b : Int).sign, dig b, ()), ()) = some (enc ((a : Int) / (b : Int)), ()) := f153_eq a b (by omega) h2 h1
  have hd : (dig ((a : Int) / (b : Int)).natAbs).length ≤ 10000 := Nat.le_trans (dig_mono (by
    have : ((a : Int) / (b : Int)).natAbs = a / b := by rw [← Int.natCast_ediv]; rfl
    rw [this]; exact Nat.div_le_self _ _)) h1
  have e2 : f117 (((enc ((a : Int) / (b : Int))).1, (enc ((a : Int) / (b : Int))).2.1, ()), ((b : Int).sign, dig b, ()), ()) = some (enc ((a : Int) / (b : Int) * (b : Int)), ()) := f117_eq _ b (by simp only [Int.natAbs_natCast]; omega)
  have hm := Int.emod_add_mul_ediv (a : Int) b
  have hle : 0 ≤ (a : Int) / (b : Int) * (b : Int) := Int.mul_nonneg (Int.ediv_nonneg (by omega) (by omega)) (by omega)
  have hmn := Int.emod_nonneg (a : Int) (show (b : Int) ≠ 0 by omega)
  have hcm : (a : Int) / (b : Int) * (b : Int) = (b : Int) * ((a : Int) / (b : Int)) := Int.mul_comm _ _
  have e3 : f157 (((a : Int).sign, dig a, ()), ((enc ((a : Int) / (b : Int) * (b : Int))).1, (enc ((a : Int) / (b : Int) * (b : Int))).2.1, ()), ()) = some (enc ((a % b : Nat) : Int), ()) := by
    have h := f157_eq a ((a : Int) / (b : Int) * (b : Int)) (by simp only [Int.natAbs_natCast]; omega) (Nat.le_trans (dig_mono (n := a) (by omega)) (by omega))
    rw [show (a : Int) - (a : Int) / (b : Int) * (b : Int) = ((a % b : Nat) : Int) by rw [Int.natCast_emod]; omega] at h
    exact h
  have hs : (b : Int).sign = 1 := Int.sign_eq_one_of_pos (by omega)
  simp only [s152_0, t152_0, g151, e0, g153, e1, g117, e2, g157, e3, Option.isSome_some, Option.getD_some, Tr.val_test, Tr.val_fin, eqF_eq, if_true]
  rw [if_pos (by rw [hs]; simp)]
  rfl

theorem s152_end (a : Nat) (z : Int) : s152_0 ((), (((a : Int).sign, dig a, ()), (((0 : Nat) : Int).sign, dig 0, ()), (z, ()), ())) = some (.brk ((), (((a : Int).sign, dig a, ()), (((0 : Nat) : Int).sign, dig 0, ()), (z, ()), ()))) := by
  have e0 : f151 ((((0 : Nat) : Int).sign, dig 0, ()), ()) = some (((0 : Nat) : Int).sign, ()) := rfl
  simp only [s152_0, t152_0, g151, e0, Option.isSome_some, Option.getD_some, Tr.val_test, Tr.val_fin, eqF_eq, if_true]
  rw [if_neg (by simp)]

theorem it152 (z : Int) : ∀ (k a b m : Nat), b < 2 ^ k → (dig a).length ≤ 10000 → (dig b).length ≤ 10000 → 2 * k < m →
    itr s152_0 m ((), (((a : Int).sign, dig a, ()), ((b : Int).sign, dig b, ()), (z, ()), ())) =
      some (.inl ((), (((Nat.gcd a b : Nat) : Int).sign, dig (Nat.gcd a b), ()), (((0 : Nat) : Int).sign, dig 0, ()), (z, ()), ()))
  | k, a, b, m, h, h1, h2, hm => by
    obtain ⟨m, rfl⟩ : ∃ j, m = j + 1 := ⟨m - 1, by omega⟩
    by_cases hb : b = 0
    · subst hb
      rw [itr, s152_end, Nat.gcd_zero_right]
    · rw [itr, s152_step a b z hb h1 h2]
      dsimp only
      have hr := Nat.mod_lt a (Nat.pos_of_ne_zero hb)
      have hrl : (dig (a % b)).length ≤ 10000 := Nat.le_trans (dig_mono (Nat.le_of_lt hr)) h2
      have hg : Nat.gcd a b = Nat.gcd b (a % b) := by rw [Nat.gcd_comm, Nat.gcd_rec, Nat.gcd_comm]
      obtain ⟨m, rfl⟩ : ∃ j, m = j + 1 := ⟨m - 1, by
        cases k with
        | zero => simp at h; omega
        | succ k => omega⟩
      by_cases hr0 : a % b = 0
      · rw [hg, hr0, itr, s152_end, Nat.gcd_zero_right]
      · rw [itr, s152_step b (a % b) z hr0 h2 hrl]
        dsimp only
        have hh := mod_half (Nat.pos_of_ne_zero hr0) hr
        have hg2 : Nat.gcd b (a % b) = Nat.gcd (a % b) (b % (a % b)) := by rw [Nat.gcd_comm, Nat.gcd_rec, Nat.gcd_comm]
        cases k with
        | zero => simp at h; omega
        | succ k =>
          rw [hg, hg2]
          have h3 := Nat.mod_lt b (Nat.pos_of_ne_zero hr0)
          exact it152 z k (a % b) (b % (a % b)) m (by rw [Nat.pow_succ] at h; omega) hrl (Nat.le_trans (dig_mono (by omega)) hrl) (by omega)

theorem f152_eq (x y : Int) (h1 : (dig x.natAbs).length ≤ 10000) (h2 : (dig y.natAbs).length ≤ 10000) : f152 (enc x, enc y, ()) = some (enc (Nat.gcd x.natAbs y.natAbs : Nat), ()) := by
  have e0 : f174 ((x.sign, dig x.natAbs, ()), ()) = some (enc x.natAbs, ()) := f174_eq x
  have e1 : f174 ((y.sign, dig y.natAbs, ()), ()) = some (enc y.natAbs, ()) := f174_eq y
  have hlt : y.natAbs < 2 ^ (30 * (dig y.natAbs).length) := by
    have q1 := dig_len_pw y.natAbs
    have q2 := pw_two (dig y.natAbs).length
    omega
  have hl : l152_0 ((), (((enc x.natAbs).1, (enc x.natAbs).2.1, ()), ((enc y.natAbs).1, (enc y.natAbs).2.1, ()), ((0 : Int), ()), ())) =
      some (.inl ((), (((Nat.gcd x.natAbs y.natAbs : Nat) : Int).sign, dig (Nat.gcd x.natAbs y.natAbs), ()), (((0 : Nat) : Int).sign, dig 0, ()), ((0 : Int), ()), ())) :=
    it152 0 _ x.natAbs y.natAbs rounds hlt h1 h2 (lt_rounds (by omega))
  show f152 ((x.sign, dig x.natAbs, ()), (y.sign, dig y.natAbs, ()), ()) = _
  simp only [f152, t152, g174, e0, e1, b152_0, hl, Option.isSome_some, Option.getD_some, Tr.val_test, Tr.val_fin, isBrk, outB, if_true]
  rfl

def encR (r : Rat) : (Int × List Int × PUnit) × (Int × List Int × PUnit) × PUnit := (enc r.num, enc (r.den : Int), ())

def rsz (r : Rat) (n : Nat) : Prop := (dig r.num.natAbs).length ≤ n ∧ (dig r.den).length ≤ n

theorem len_mul (m n : Nat) : (dig (m * n)).length ≤ (dig m).length + (dig n).length := dig_len (by
  have h1 := dig_len_pw m; have h2 := dig_len_pw n
  rw [pw_add, Int.natCast_mul]
  rcases Nat.eq_zero_or_pos n with h | h
  · subst h
    have := pw_pos (dig m).length; have := pw_pos (dig 0).length
    have := Int.mul_pos (pw_pos (dig m).length) (pw_pos (dig 0).length)
    simpa using this
  · exact Int.lt_of_lt_of_le (Int.mul_lt_mul_of_pos_right h1 (by omega)) (Int.mul_le_mul_of_nonneg_left (Int.le_of_lt h2) (Int.le_of_lt (pw_pos _))))

theorem len_add (x y : Int) {k : Nat} (h1 : (dig x.natAbs).length ≤ k) (h2 : (dig y.natAbs).length ≤ k) : (dig (x + y).natAbs).length ≤ k + 1 := dig_len (by
  have q1 := dig_len_pw x.natAbs; have q2 := dig_len_pw y.natAbs
  have q3 : pw (dig x.natAbs).length ≤ pw k := pw_le h1
  have q4 : pw (dig y.natAbs).length ≤ pw k := pw_le h2
  simp only [pw]; omega)

theorem len_imul (x y : Int) : (dig (x * y).natAbs).length ≤ (dig x.natAbs).length + (dig y.natAbs).length := by rw [Int.natAbs_mul]; exact len_mul _ _

theorem f115_eq (x : Int) (y : Nat) (hy : y ≠ 0) (h1 : (dig x.natAbs).length ≤ 10000) (h2 : (dig y).length ≤ 10000) : f115 (enc x, enc (y : Int), ()) = some (encR (Rat.normalize x y hy), ()) := by
  have hs : (y : Int).sign = 1 := Int.sign_eq_one_of_pos (by omega)
  have e0 : f151 (((y : Int).sign, dig (y : Int).natAbs, ()), ()) = some ((y : Int).sign, ()) := rfl
  have e1 : f152 ((x.sign, dig x.natAbs, ()), ((y : Int).sign, dig (y : Int).natAbs, ()), ()) = some (enc (Nat.gcd x.natAbs y : Nat), ()) := f152_eq x y h1 h2
  have e2 := f113_eq 1 (by decide)
  have hg : 0 < Nat.gcd x.natAbs y := Nat.gcd_pos_of_pos_right _ (by omega)
  have hgl : (dig (Nat.gcd x.natAbs y)).length ≤ 10000 := Nat.le_trans (dig_mono (Nat.gcd_le_right _ (by omega))) h2
  have hnum : (Rat.normalize x y hy).num = x / ((Nat.gcd x.natAbs y : Nat) : Int) := by rw [Rat.normalize_eq]
  have hden : (Rat.normalize x y hy).den = y / Nat.gcd x.natAbs y := by rw [Rat.normalize_eq]
  generalize hgg : Nat.gcd x.natAbs y = g at *
  have e3 : f118 (((enc (g : Nat)).1, (enc (g : Nat)).2.1, ()), ((enc 1).1, (enc 1).2.1, ()), ()) = some (((g : Int) - 1).sign, ()) := f118_eq (g : Int) 1 (by simp only [Int.natAbs_natCast]; omega) (by have := dig_small (x := 1) (by omega) (by omega); omega)
  have e4 : f153 ((x.sign, dig x.natAbs, ()), ((enc (g : Nat)).1, (enc (g : Nat)).2.1, ()), ()) = some (enc (x / (g : Int)), ()) := f153_eq x g (by omega) hgl h1
  have e5 : f153 (((y : Int).sign, dig (y : Int).natAbs, ()), ((enc (g : Nat)).1, (enc (g : Nat)).2.1, ()), ()) = some (enc ((y : Int) / (g : Int)), ()) := f153_eq y g (by omega) hgl h2
  show f115 ((x.sign, dig x.natAbs, ()), ((y : Int).sign, dig (y : Int).natAbs, ()), ()) = _
  simp only [f115, t115, g151, e0, g152, e1, g113, e2, g118, e3, Option.isSome_some, Option.getD_some, Tr.val_test, Tr.val_fin, leF_eq, eqF_eq, if_true]
  rw [if_neg (by rw [hs]; simp)]
  by_cases h : g = 1
  · subst h
    rw [if_pos (by simp), encR, hnum, hden]
    simp [enc]
  · rw [if_neg (by rw [Int.sign_eq_one_of_pos (by omega)]; simp)]
    simp only [g153, e4, e5, Option.isSome_some, Option.getD_some, if_true]
    rw [encR, hnum, hden, Int.natCast_ediv]

theorem f48_eq (x : Int) (h : x.natAbs ≤ 9223372036854775807) : f48 (x, ()) = some (encR (x : Rat), ()) := by
  have e1 := f113_eq x h
  have e2 := f113_eq 1 (by decide)
  simp only [f48, t48, g113, e1, e2, Option.isSome_some, Option.getD_some, Tr.val_test, Tr.val_fin, if_true]
  rfl

theorem f50_eq (x : Int) (y : Nat) (hy : y ≠ 0) (h : x.natAbs ≤ 9223372036854775807) (h2 : y ≤ 9223372036854775807) : f50 (x, (y : Int), ()) = some (encR (Rat.normalize x y hy), ()) := by
  have e1 := f113_eq x h
  have e2 := f113_eq (y : Int) (by omega)
  have e3 : f115 (((enc x).1, (enc x).2.1, ()), ((enc (y : Int)).1, (enc (y : Int)).2.1, ()), ()) = some (encR (Rat.normalize x y hy), ()) := f115_eq x y hy
    (Nat.le_trans (dig_len (k := 3) (by simp only [pw]; omega)) (by omega)) (Nat.le_trans (dig_len (k := 3) (by simp only [pw]; omega)) (by omega))
  simp only [f50, t50, g113, e1, e2, g115, e3, Option.isSome_some, Option.getD_some, Tr.val_test, Tr.val_fin, if_true]

theorem f51_eq (r s : Rat) (hr : rsz r 2000) (hs : rsz s 2000) : f51 (encR r, encR s, ()) = some (encR (r + s), ()) := by
  obtain ⟨r1, r2⟩ := hr
  obtain ⟨s1, s2⟩ := hs
  have m1 := len_imul r.num (s.den : Int)
  have m2 := len_imul s.num (r.den : Int)
  have m3 := len_mul r.den s.den
  simp only [Int.natAbs_natCast] at m1 m2
  have m4 := len_add (r.num * (s.den : Int)) (s.num * (r.den : Int)) (k := 4000) (by omega) (by omega)
  have e1 : f117 ((r.num.sign, dig r.num.natAbs, ()), ((s.den : Int).sign, dig s.den, ()), ()) = some (enc (r.num * (s.den : Int)), ()) := f117_eq _ _ (by simp only [Int.natAbs_natCast]; omega)
  have e2 : f117 ((s.num.sign, dig s.num.natAbs, ()), ((r.den : Int).sign, dig r.den, ()), ()) = some (enc (s.num * (r.den : Int)), ()) := f117_eq _ _ (by simp only [Int.natAbs_natCast]; omega)
  have e3 : f116 (((enc (r.num * (s.den : Int))).1, (enc (r.num * (s.den : Int))).2.1, ()), ((enc (s.num * (r.den : Int))).1, (enc (s.num * (r.den : Int))).2.1, ()), ()) = some (enc (r.num * (s.den : Int) + s.num * (r.den : Int)), ()) := f116_eq _ _ (by omega) (by omega)
  have e4 : f117 (((r.den : Int).sign, dig r.den, ()), ((s.den : Int).sign, dig s.den, ()), ()) = some (enc ((r.den * s.den : Nat) : Int), ()) := by
    rw [Int.natCast_mul]; exact f117_eq (r.den : Int) (s.den : Int) (by simp only [Int.natAbs_natCast]; omega)
  have e5 : f115 (((enc (r.num * (s.den : Int) + s.num * (r.den : Int))).1, (enc (r.num * (s.den : Int) + s.num * (r.den : Int))).2.1, ()), ((enc ((r.den * s.den : Nat) : Int)).1, (enc ((r.den * s.den : Nat) : Int)).2.1, ()), ()) = some (encR (r + s), ()) := by
    rw [Rat.add_def]; exact f115_eq _ _ _ (by omega) (by omega)
  show f51 (((r.num.sign, dig r.num.natAbs, ()), ((r.den : Int).sign, dig r.den, ()), ()), ((s.num.sign, dig s.num.natAbs, ()), ((s.den : Int).sign, dig s.den, ()), ()), ()) = _
  simp only [f51, t51, g117, e1, e2, g116, e3, e4, g115, e5, Option.isSome_some, Option.getD_some, Tr.val_test, Tr.val_fin, if_true]

theorem f52_eq (r s : Rat) (hr : rsz r 2000) (hs : rsz s 2000) : f52 (encR r, encR s, ()) = some (encR (r * s), ()) := by
  obtain ⟨r1, r2⟩ := hr
  obtain ⟨s1, s2⟩ := hs
  have m1 := len_imul r.num s.num
  have m3 := len_mul r.den s.den
  have e1 : f117 ((r.num.sign, dig r.num.natAbs, ()), (s.num.sign, dig s.num.natAbs, ()), ()) = some (enc (r.num * s.num), ()) := f117_eq _ _ (by omega)
  have e4 : f117 (((r.den : Int).sign, dig r.den, ()), ((s.den : Int).sign, dig s.den, ()), ()) = some (enc ((r.den * s.den : Nat) : Int), ()) := by
    rw [Int.natCast_mul]; exact f117_eq (r.den : Int) (s.den : Int) (by simp only [Int.natAbs_natCast]; omega)
  have e5 : f115 (((enc (r.num * s.num)).1, (enc (r.num * s.num)).2.1, ()), ((enc ((r.den * s.den : Nat) : Int)).1, (enc ((r.den * s.den : Nat) : Int)).2.1, ()), ()) = some (encR (r * s), ()) := by
    rw [Rat.mul_def]; exact f115_eq _ _ _ (by omega) (by omega)
  show f52 (((r.num.sign, dig r.num.natAbs, ()), ((r.den : Int).sign, dig r.den, ()), ()), ((s.num.sign, dig s.num.natAbs, ()), ((s.den : Int).sign, dig s.den, ()), ()), ()) = _
  simp only [f52, t52, g117, e1, e4, g115, e5, Option.isSome_some, Option.getD_some, Tr.val_test, Tr.val_fin, if_true]

theorem f49_eq (r s : Rat) (hr : rsz r 2000) (hs : rsz s 2000) : f49 (encR r, encR s, ()) = some (encR (r - s), ()) := by
  have e0 : f150 ((s.num.sign, dig s.num.natAbs, ()), ()) = some (enc (-s.num), ()) := f150_eq s.num
  have e1 : f114 (((s.num.sign, dig s.num.natAbs, ()), ((s.den : Int).sign, dig s.den, ()), ()), ()) = some (encR (-s), ()) := by
    simp only [f114, t114, g150, e0, Option.isSome_some, Option.getD_some, Tr.val_test, Tr.val_fin, if_true]
    rfl
  have hs' : rsz (-s) 2000 := ⟨by rw [Rat.neg_num, Int.natAbs_neg]; exact hs.1, by rw [Rat.neg_den]; exact hs.2⟩
  have e2 : f51 (((r.num.sign, dig r.num.natAbs, ()), ((r.den : Int).sign, dig r.den, ()), ()), (((encR (-s)).1.1, (encR (-s)).1.2.1, ()), ((encR (-s)).2.1.1, (encR (-s)).2.1.2.1, ()), ()), ()) = some (encR (r + -s), ()) := f51_eq r (-s) hr hs'
  show f49 (((r.num.sign, dig r.num.natAbs, ()), ((r.den : Int).sign, dig r.den, ()), ()), ((s.num.sign, dig s.num.natAbs, ()), ((s.den : Int).sign, dig s.den, ()), ()), ()) = _
  simp only [f49, t49, g114, e1, g51, e2, Option.isSome_some, Option.getD_some, Tr.val_test, Tr.val_fin, if_true, Rat.sub_eq_add_neg]

theorem f55_eq (r s : Rat) (hr : rsz r 2000) (hs : rsz s 2000) : f55 (encR r, encR s, ()) = some ((r.num * (s.den : Int) - s.num * (r.den : Int)).sign, ()) := by
  obtain ⟨r1, r2⟩ := hr
  obtain ⟨s1, s2⟩ := hs
  have m1 := len_imul r.num (s.den : Int)
  have m2 := len_imul s.num (r.den : Int)
  simp only [Int.natAbs_natCast] at m1 m2
  have e1 : f117 ((r.num.sign, dig r.num.natAbs, ()), ((s.den : Int).sign, dig s.den, ()), ()) = some (enc (r.num * (s.den : Int)), ()) := f117_eq _ _ (by simp only [Int.natAbs_natCast]; omega)
  have e2 : f117 ((s.num.sign, dig s.num.natAbs, ()), ((r.den : Int).sign, dig r.den, ()), ()) = some (enc (s.num * (r.den : Int)), ()) := f117_eq _ _ (by simp only [Int.natAbs_natCast]; omega)
  have e3 : f118 (((enc (r.num * (s.den : Int))).1, (enc (r.num * (s.den : Int))).2.1, ()), ((enc (s.num * (r.den : Int))).1, (enc (s.num * (r.den : Int))).2.1, ()), ()) = some ((r.num * (s.den : Int) - s.num * (r.den : Int)).sign, ()) := f118_eq _ _ (by omega) (by omega)
  show f55 (((r.num.sign, dig r.num.natAbs, ()), ((r.den : Int).sign, dig r.den, ()), ()), ((s.num.sign, dig s.num.natAbs, ()), ((s.den : Int).sign, dig s.den, ()), ()), ()) = _
  simp only [f55, t55, g117, e1, e2, g118, e3, Option.isSome_some, Option.getD_some, Tr.val_test, Tr.val_fin, if_true]

/-- The greatest divisor of the first numbers. -/
def gn (l : List Int) : Nat → Nat
  | 0 => 0
  | i + 1 => Nat.gcd (gn l i) (l.getD i 0).natAbs

theorem dv_gn (l : List Int) : ∀ i, (dv l i).natAbs = gn l i
  | 0 => by simp [dv, gn]
  | i + 1 => by rw [dv, gn, euc_abs, dv_gn l i]

theorem gn_le {l : List Int} {B : Nat} (h : ∀ i, i < l.length → (l.getD i 0).natAbs ≤ B) : ∀ i, i ≤ l.length → gn l i ≤ B
  | 0, _ => by simp [gn]
  | i + 1, hi => by
    rw [gn]
    have h1 := gn_le h i (by omega)
    have h2 := h i (by omega)
    by_cases e : gn l i = 0
    · rw [e, Nat.gcd_zero_left]; exact h2
    · exact Nat.le_trans (Nat.gcd_le_left _ (by omega)) h1

theorem gn_dvd (l : List Int) : ∀ n i, i < n → (gn l n : Int) ∣ l.getD i 0
  | 0, i, h => by omega
  | n + 1, i, h => by
    rw [gn]
    by_cases e : i = n
    · subst e
      exact Int.ofNat_dvd_left.2 (Nat.gcd_dvd_right _ _)
    · exact Int.ofNat_dvd_left.2 (Nat.dvd_trans (Nat.gcd_dvd_left _ _) (Int.ofNat_dvd_left.1 (gn_dvd l n i (by omega))))

theorem f144_gn (l : List Int) (h : l.length ≤ 1000000000) (hb : ∀ i, i < l.length → (l.getD i 0).natAbs ≤ 9223372036854775807) : f144 (l, ()) = some ((gn l l.length : Int), ()) := by
  have h1 := gn_le hb l.length (Nat.le_refl _)
  have h2 := dv_gn l l.length
  rw [f144_eq l h fun i hi => by have := hb i hi; omega, wrapJ (by omega) (by omega), mx_max]
  congr 2
  omega

theorem f144_pair (a : Int) (g : Nat) (ha : a.natAbs ≤ 9223372036854775807) (hg : g ≤ 9223372036854775807) : f144 ([a, (g : Int)], ()) = some ((Nat.gcd a.natAbs g : Int), ()) := f144_2 a g ha (by omega)

/-- In lowest terms. -/
def lwG (d : Int) (l : List Int) : Nat := Nat.gcd d.natAbs (gn l l.length)

def lwL (d : Int) (l : List Int) (n : Nat) : List Int := (List.range n).map fun i => (l.getD i 0).tdiv (lwG d l)

theorem lwL_len (d : Int) (l : List Int) (n : Nat) : (lwL d l n).length = n := by simp [lwL]
theorem lwL_succ (d : Int) (l : List Int) (n : Nat) : lwL d l (n + 1) = lwL d l n ++ [(l.getD n 0).tdiv (lwG d l)] := by simp [lwL, List.range_succ]

theorem lwG_pos {d : Int} (l : List Int) (h : 0 < d) : 0 < lwG d l := Nat.gcd_pos_of_pos_left _ (by omega)

theorem f103_eq (d : Int) (l : List Int) (h0 : 0 < d) (hd : d ≤ 9223372036854775807) (h : l.length ≤ 1000000) (hb : ∀ i, i < l.length → (l.getD i 0).natAbs ≤ 9223372036854775807) :
    f103 (d, l, ()) = some ((d.tdiv (lwG d l), lwL d l l.length, ()), ()) := by
  have hg := lwG_pos l h0
  have hgn := gn_le hb l.length (Nat.le_refl _)
  have hp : f144 ([d, (gn l l.length : Int)], ()) = some ((lwG d l : Int), ()) := f144_pair d _ (by omega) hgn
  have hw : IntKind.wrap .i64 (d.tdiv (lwG d l)) = d.tdiv (lwG d l) := by
    have := tdiv_abs_le d (lwG d l)
    exact wrapJ (by omega) (by omega)
  have hl : l103_0 (((lwG d l : Int), l, (l.length : Int), (0 : Int), ()), ((0 : Int), ()), (d.tdiv (lwG d l), [], ()), ()) = some (.inl ((), ((0 : Int), ()), (d.tdiv (lwG d l), lwL d l l.length, ()), ())) := by
    refine itr_brk (fun i => (((lwG d l : Int), l, (l.length : Int), (i : Int), ()), ((0 : Int), ()), (d.tdiv (lwG d l), lwL d l i, ()), ())) (n := l.length) ?_ ?_ (lt_rounds (by omega))
    · intro i hi
      have e1 : IntKind.wrap .i64 ((l.getD i 0).tdiv (lwG d l)) = (l.getD i 0).tdiv (lwG d l) := by
        have := tdiv_abs_le (l.getD i 0) (lwG d l)
        have := hb i hi
        exact wrapJ (by omega) (by omega)
      have e4 : wrap64 ((i : Int) + 1) = ((i + 1 : Nat) : Int) := wrap64_nat (by omega)
      simp only [s103_0, t103_0, Tr.val_test, Tr.val_fin, leF_eq, Int.toNat_natCast, e1, e4, lwL_succ]
      rw [if_pos (by simp; omega), if_pos (by simp; omega), if_neg (by simp; omega), if_pos (by simp [lwL_len]; omega)]
    · simp [s103_0, t103_0, leF_eq]
  simp only [f103, t103, g144, f144_gn l (by omega) hb, hp, hw, b103_0, hl, isBrk, outB, Option.isSome_some, Option.getD_some, Tr.val_test, Tr.val_fin, if_true]
  rw [if_neg (by simp; omega)]

theorem f102_eq (a v d k : Int) : f102 ((a, v, d, ()), k, ()) = some (wrap64 (v + wrap64 (d * k)), ()) := rfl

theorem f145_eq (d : Int) (l : List Int) (hd : d.natAbs ≤ 9223372036854775807) (h : l.length ≤ 1000000) (hb : ∀ i, i < l.length → (l.getD i 0).natAbs ≤ 9223372036854775807) :
    f145 (d, l, ()) = some (decide (0 < d) && decide (lwG d l = 1), ()) := by
  have hgn := gn_le hb l.length (Nat.le_refl _)
  have hp : f144 ([d, (gn l l.length : Int)], ()) = some ((lwG d l : Int), ()) := f144_pair d _ (by omega) hgn
  simp only [f145, t145, g144, f144_gn l (by omega) hb, hp, Option.isSome_some, Option.getD_some, Tr.val_test, Tr.val_fin, if_true, leF_eq, eqF_eq]
  by_cases h0 : 0 < d
  · rw [if_pos (by simp; omega)]
    congr 2
    simp only [h0, decide_true, Bool.true_and, decide_eq_decide]
    omega
  · rw [if_neg (by simp; omega)]
    simp [h0]

/-- The sums of the first whole numbers and of their squares. -/
def kF : Nat → Int
  | 0 => 0
  | n + 1 => kF n + (n + 1)

def kS : Nat → Int
  | 0 => 0
  | n + 1 => kS n + (n + 1) * (n + 1)

theorem k_table : ∀ n : Nat, n < 25 → (((n : Int) * (n + 1)).tdiv 2 = kF n ∧ ((n : Int) * (n + 1) * (2 * n + 1)).tdiv 6 = kS n ∧ 0 ≤ kF n ∧ kF n ≤ 300 ∧ 0 ≤ kS n ∧ kS n ≤ 4900 ∧ (n : Int) * kS n - kF n * kF n ≤ 27600 ∧ (2 ≤ n → 0 < (n : Int) * kS n - kF n * kF n)) := by decide

def pr0 (l : List Int) : Int := (l.length : Int) * kS l.length - kF l.length * kF l.length
def prP (l : List Int) : Int := kF l.length * accE2 l l.length - kS l.length * accE l l.length
def prQ (l : List Int) : Int := kF l.length * accE l l.length - (l.length : Int) * accE2 l l.length
def prG (l : List Int) : Nat := lwG (pr0 l) [prP l, prQ l]

theorem mul_bdd {x y : Int} {A B : Int} (hx : -A ≤ x ∧ x ≤ A) (hy : -B ≤ y ∧ y ≤ B) (hA : 0 ≤ A) (hB : 0 ≤ B) : -(A * B) ≤ x * y ∧ x * y ≤ A * B := by
  have h : (x * y).natAbs ≤ (A * B).natAbs := by
    rw [Int.natAbs_mul, Int.natAbs_mul]
    exact Nat.mul_le_mul (by omega) (by omega)
  have : 0 ≤ A * B := Int.mul_nonneg hA hB
  omega

theorem pr_bounds {l : List Int} (hb : Bd 1000 l) (h2 : 2 ≤ l.length) (h : l.length ≤ 24) :
    (-24000 ≤ accE l l.length ∧ accE l l.length ≤ 24000) ∧ (-576000 ≤ accE2 l l.length ∧ accE2 l l.length ≤ 576000) ∧ (0 < pr0 l ∧ pr0 l ≤ 27600) ∧ (prP l).natAbs ≤ 290400000 ∧ (prQ l).natAbs ≤ 21024000 := by
  have h1 := accE_bd (by omega) hb l.length (Nat.le_refl _)
  have h3 := accE2_bd hb h l.length (Nat.le_refl _)
  obtain ⟨_, _, f0, f1, s0, s1, d1, d0⟩ := k_table l.length (by omega)
  have a1 : -24000 ≤ accE l l.length ∧ accE l l.length ≤ 24000 := by omega
  have a2 : -576000 ≤ accE2 l l.length ∧ accE2 l l.length ≤ 576000 := by omega
  have m1 := mul_bdd (A := 300) (x := kF l.length) (by omega) a2 (by omega) (by omega)
  have m2 := mul_bdd (A := 4900) (x := kS l.length) (by omega) a1 (by omega) (by omega)
  have m3 := mul_bdd (A := 300) (x := kF l.length) (by omega) a1 (by omega) (by omega)
  have m4 := mul_bdd (A := 24) (x := (l.length : Int)) (by omega) a2 (by omega) (by omega)
  refine ⟨a1, a2, ⟨d0 h2, d1⟩, ?_, ?_⟩
  · unfold prP; omega
  · unfold prQ; omega

theorem f101_eq {l : List Int} (hb : Bd 1000 l) (h2 : 2 ≤ l.length) (h : l.length ≤ 24) : f101 (l, ()) = some (((pr0 l).tdiv (prG l), (prP l).tdiv (prG l), (prQ l).tdiv (prG l), ()), ()) := by
  obtain ⟨a1, a2, ⟨d0, d1⟩, p1, q1⟩ := pr_bounds hb h2 h
  obtain ⟨eF, eS, f0, f1, s0, s1, _, _⟩ := k_table l.length (by omega)
  have hmm : ∀ (i : Nat), i < [prP l, prQ l].length → (([prP l, prQ l] : List Int).getD i 0).natAbs ≤ 9223372036854775807 := fun i hi => by
    match i, hi with
    | 0, _ => exact Nat.le_trans p1 (by decide)
    | 1, _ => exact Nat.le_trans q1 (by decide)
  have n1 : (l.length : Int) * ((l.length : Int) + 1) ≤ 24 * 25 := Int.mul_le_mul (by omega) (by omega) (by omega) (by omega)
  have n0 : 0 ≤ (l.length : Int) * ((l.length : Int) + 1) := Int.mul_nonneg (by omega) (by omega)
  have n2 : (l.length : Int) * ((l.length : Int) + 1) * (2 * (l.length : Int) + 1) ≤ 600 * 49 := Int.mul_le_mul (by omega) (by omega) (by omega) (by omega)
  have n3 : 0 ≤ (l.length : Int) * ((l.length : Int) + 1) * (2 * (l.length : Int) + 1) := Int.mul_nonneg n0 (by omega)
  have w1 : wrap64 ((l.length : Int) + 1) = (l.length : Int) + 1 := wrap64_id (by omega) (by omega)
  have w2 : wrap64 ((l.length : Int) * ((l.length : Int) + 1)) = (l.length : Int) * ((l.length : Int) + 1) := wrap64_id (by omega) (by omega)
  have w3 : wrap64 (wrap64 (2 * (l.length : Int)) + 1) = 2 * (l.length : Int) + 1 := by rw [wrap64_id (n := 2 * (l.length : Int)) (by omega) (by omega), wrap64_id (by omega) (by omega)]
  have w4 : wrap64 ((l.length : Int) * ((l.length : Int) + 1) * (2 * (l.length : Int) + 1)) = (l.length : Int) * ((l.length : Int) + 1) * (2 * (l.length : Int) + 1) := wrap64_id (by omega) (by omega)
  have w5 : IntKind.wrap .i64 (kF l.length) = kF l.length := wrapJ (by omega) (by omega)
  have w6 : IntKind.wrap .i64 (kS l.length) = kS l.length := wrapJ (by omega) (by omega)
  have m0 := mul_bdd (A := 24) (x := (l.length : Int)) (B := 4900) (y := kS l.length) (by omega) (by omega) (by omega) (by omega)
  have mf := mul_bdd (A := 300) (x := kF l.length) (B := 300) (y := kF l.length) (by omega) (by omega) (by omega) (by omega)
  have m1 := mul_bdd (A := 300) (x := kF l.length) (by omega) a2 (by omega) (by omega)
  have m2 := mul_bdd (A := 4900) (x := kS l.length) (by omega) a1 (by omega) (by omega)
  have m3 := mul_bdd (A := 300) (x := kF l.length) (by omega) a1 (by omega) (by omega)
  have m4 := mul_bdd (A := 24) (x := (l.length : Int)) (by omega) a2 (by omega) (by omega)
  have v1 : wrap64 (accE l l.length) = accE l l.length := wrap64_id (by omega) (by omega)
  have v2 : wrap64 (accE2 l l.length) = accE2 l l.length := wrap64_id (by omega) (by omega)
  have x0 : wrap64 (wrap64 ((l.length : Int) * kS l.length) - wrap64 (kF l.length * kF l.length)) = pr0 l := by
    rw [wrap64_id (n := (l.length : Int) * kS l.length) (by omega) (by omega), wrap64_id (n := kF l.length * kF l.length) (by omega) (by omega), wrap64_id (by omega) (by omega), pr0]
  have x1 : wrap64 (wrap64 (kF l.length * accE2 l l.length) - wrap64 (kS l.length * accE l l.length)) = prP l := by
    rw [wrap64_id (n := kF l.length * accE2 l l.length) (by omega) (by omega), wrap64_id (n := kS l.length * accE l l.length) (by omega) (by omega), wrap64_id (by omega) (by omega), prP]
  have x2 : wrap64 (wrap64 (kF l.length * accE l l.length) - wrap64 ((l.length : Int) * accE2 l l.length)) = prQ l := by
    rw [wrap64_id (n := kF l.length * accE l l.length) (by omega) (by omega), wrap64_id (n := (l.length : Int) * accE2 l l.length) (by omega) (by omega), wrap64_id (by omega) (by omega), prQ]
  have e1 := f103_eq (pr0 l) [prP l, prQ l] d0 (by omega) (by simp) hmm
  simp only [f101, t101, g90, f90_eq l (by omega), v1, v2, w1, w2, w3, w4, eF, eS, w5, w6, x0, x1, x2, g103, e1, Option.isSome_some, Option.getD_some, Tr.val_test, Tr.val_fin, if_true]
  rfl

def pD (l : List Int) : Int := (pr0 l).tdiv (prG l)
def pP (l : List Int) : Int := (prP l).tdiv (prG l)
def pQ (l : List Int) : Int := (prQ l).tdiv (prG l)

theorem p_bounds {l : List Int} (hb : Bd 1000 l) (h2 : 2 ≤ l.length) (h : l.length ≤ 24) : 0 < pD l ∧ pD l ≤ 27600 ∧ (pP l).natAbs ≤ 290400000 ∧ (pQ l).natAbs ≤ 21024000 := by
  obtain ⟨a1, a2, ⟨d0, d1⟩, p1, q1⟩ := pr_bounds hb h2 h
  have h1 := tdiv_abs_le (pr0 l) (prG l)
  have h3 := tdiv_abs_le (prP l) (prG l)
  have h4 := tdiv_abs_le (prQ l) (prG l)
  have hg : (prG l : Int) ∣ pr0 l := Int.ofNat_dvd_left.2 (Nat.gcd_dvd_left _ _)
  have h5 := Int.tdiv_mul_cancel hg
  have h6 : 0 < (pr0 l).tdiv (prG l) := by
    rcases Int.lt_trichotomy ((pr0 l).tdiv (prG l)) 0 with h | h | h
    · have := Int.mul_nonneg (show 0 ≤ -((pr0 l).tdiv (prG l)) by omega) (show (0 : Int) ≤ prG l by omega)
      rw [Int.neg_mul] at this; omega
    · rw [h] at h5; omega
    · exact h
  unfold pD pP pQ
  omega

/-- What the prices change a sample by, times their denominator. -/
def ch (l : List Int) (t : Nat) : Int := pP l + pQ l * ((l.length : Int) - t)

def bL (l : List Int) (n : Nat) : List Int := (List.range n).map fun t => l.getD t 0 * pD l + ch l t

theorem bL_len (l : List Int) (n : Nat) : (bL l n).length = n := by simp [bL]
theorem bL_succ (l : List Int) (n : Nat) : bL l (n + 1) = bL l n ++ [l.getD n 0 * pD l + ch l n] := by simp [bL, List.range_succ]
theorem bL_get (l : List Int) {n i : Nat} (h : i < n) : (bL l n).getD i 0 = l.getD i 0 * pD l + ch l i := by simp [bL, List.getD, h]

theorem ch_bound {l : List Int} (hb : Bd 1000 l) (h2 : 2 ≤ l.length) (h : l.length ≤ 24) {t : Nat} (ht : t < l.length) : (pQ l * ((l.length : Int) - t)).natAbs ≤ 504576000 ∧ (ch l t).natAbs ≤ 800000000 := by
  obtain ⟨d0, d1, p1, q1⟩ := p_bounds hb h2 h
  have m := mul_bdd (A := 21024000) (x := pQ l) (B := 24) (y := (l.length : Int) - t) (by omega) (by omega) (by omega) (by omega)
  unfold ch
  omega

theorem b_bound {l : List Int} (hb : Bd 1000 l) (h2 : 2 ≤ l.length) (h : l.length ≤ 24) {t : Nat} (ht : t < l.length) : (l.getD t 0 * pD l).natAbs ≤ 27600000 ∧ (l.getD t 0 * pD l + ch l t).natAbs ≤ 900000000 := by
  obtain ⟨d0, d1, p1, q1⟩ := p_bounds hb h2 h
  have hc := ch_bound hb h2 h ht
  have hl := hb t ht
  have m := mul_bdd (A := 1000) (x := l.getD t 0) (B := 27600) (y := pD l) (by omega) (by omega) (by omega) (by omega)
  omega

theorem f102_ch {l : List Int} (hb : Bd 1000 l) (h2 : 2 ≤ l.length) (h : l.length ≤ 24) {t : Nat} (ht : t < l.length) : f102 ((pD l, pP l, pQ l, ()), wrap64 ((l.length : Int) - t), ()) = some (ch l t, ()) := by
  obtain ⟨c1, c2⟩ := ch_bound hb h2 h ht
  rw [f102_eq, wrap64_id (n := (l.length : Int) - t) (by omega) (by omega), wrap64_id (n := pQ l * ((l.length : Int) - t)) (by omega) (by omega)]
  unfold ch at c2 ⊢
  rw [wrap64_id (by omega) (by omega)]

/-- The denominator and the parts of the rest. -/
def eD (l : List Int) : Int := (pD l).tdiv (lwG (pD l) (bL l l.length))
def cL (l : List Int) : List Int := lwL (pD l) (bL l l.length) l.length

theorem f41_eq {x : Int} {l : List Int} (hc : (chk x l).2 = 0) : f41 ((x, l, ()), ()) = some ((pD l, pP l, pQ l, ()), (0 : Int), ()) := by
  obtain ⟨h2, h, hb, _, _⟩ := chk_ok hc
  have e := f101_eq hb h2 h
  simp only [f41, t41, g88, f88_eq x l (by omega), hc, g101, e, Option.isSome_some, Option.getD_some, Tr.val_test, Tr.val_fin, eqF_eq, if_true]
  rw [if_neg (by simp)]
  rfl

theorem f40_eq {x : Int} {l : List Int} (hc : (chk x l).2 = 0) : f40 ((x, l, ()), ()) = some ((eD l, cL l, ()), (0 : Int), ()) := by
  obtain ⟨h2, h, hb, _, _⟩ := chk_ok hc
  have e : f101 (l, ()) = some ((pD l, pP l, pQ l, ()), ()) := f101_eq hb h2 h
  obtain ⟨d0, d1, p1, q1⟩ := p_bounds hb h2 h
  have hl : l40_0 (([], l, (l.length : Int), (0 : Int), ()), (x, l, ()), ((0 : Int), ()), (pD l, pP l, pQ l, ()), ()) = some (.inl ((bL l l.length, ()), (x, l, ()), ((0 : Int), ()), (pD l, pP l, pQ l, ()), ())) := by
    refine itr_brk (fun i => ((bL l i, l, (l.length : Int), (i : Int), ()), (x, l, ()), ((0 : Int), ()), (pD l, pP l, pQ l, ()), ())) (n := l.length) ?_ ?_ (lt_rounds (by omega))
    · intro i hi
      obtain ⟨b1, b2⟩ := b_bound hb h2 h hi
      have e1 := f102_ch hb h2 h hi
      have e2 : wrap64 (wrap64 (l.getD i 0 * pD l) + ch l i) = l.getD i 0 * pD l + ch l i := by
        rw [wrap64_id (n := l.getD i 0 * pD l) (by omega) (by omega), wrap64_id (by omega) (by omega)]
      have e4 : wrap64 ((i : Int) + 1) = ((i + 1 : Nat) : Int) := wrap64_nat (by omega)
      simp only [s40_0, t40_0, Tr.val_test, Tr.val_fin, leF_eq, Int.toNat_natCast, g102, e1, Option.isSome_some, Option.getD_some, if_true, e2, e4, bL_succ]
      rw [if_pos (by simp; omega), if_pos (by simp; omega), if_pos (by simp [bL_len]; omega)]
    · simp [s40_0, t40_0, leF_eq]
  have e3 := f103_eq (pD l) (bL l l.length) d0 (by omega) (by rw [bL_len]; omega) (fun i hi => by
    rw [bL_len] at hi
    have := (b_bound hb h2 h hi).2
    rw [bL_get l hi]; omega)
  rw [bL_len] at e3
  simp only [f40, t40, g88, f88_eq x l (by omega), hc, g101, e, b40_0, hl, isBrk, outB, g103, e3, Option.isSome_some, Option.getD_some, Tr.val_test, Tr.val_fin, eqF_eq, if_true]
  rw [if_neg (by simp)]
  rfl

theorem low_norm (a : Int) (e : Nat) (h : e ≠ 0) : low a e = ((Rat.normalize a e h).num, ((Rat.normalize a e h).den : Int), ()) := by
  have h1 : (Int.gcd a e : Int) ∣ a := Int.gcd_dvd_left ..
  have h2 : (Int.gcd a e : Int) ∣ (e : Int) := Int.gcd_dvd_right ..
  rw [Rat.normalize_eq, low, Int.tdiv_eq_ediv_of_dvd h1, Int.tdiv_eq_ediv_of_dvd h2, Int.natCast_ediv]
  rfl

theorem low_cross_eq {a b d e : Int} (hd : 0 < d) (he : 0 < e) (h : a * d = b * e) : low a e = low b d := by
  obtain ⟨d, rfl⟩ : ∃ n : Nat, d = n := ⟨d.toNat, by omega⟩
  obtain ⟨e, rfl⟩ : ∃ n : Nat, e = n := ⟨e.toNat, by omega⟩
  rw [low_norm a e (by omega), low_norm b d (by omega), (Rat.normalize_eq_iff (by omega) (by omega)).2 h]

def ptE (e : Int) (c : List Int) (n : Int) : Int := firstNZ [if (!inAll 1 1000000000 [e]) = true then (2 : Int) else 0, if (!decide ((c.length : Int) = n)) = true then (10 : Int) else 0,
  if (!inAll (-1000000000000) 1000000000000 c) = true then (2 : Int) else 0, if (!(decide (0 < e) && decide (lwG e c = 1))) = true then (3 : Int) else 0]

def prE (d p q : Int) : Int := firstNZ [if (!inAll 1 1000000000 [d] || !inAll (-1000000000000) 1000000000000 [p, q]) = true then (2 : Int) else 0, if (!(decide (0 < d) && decide (lwG d [p, q] = 1))) = true then (3 : Int) else 0]

theorem w1e12 : IntKind.wrap .i64 (0 - 1000000000000) = -1000000000000 := by decide

theorem f104_eq (e : Int) (c : List Int) (n : Int) (he : e.natAbs ≤ 9223372036854775807) (h : c.length ≤ 1000000) (hb : ∀ i, i < c.length → (c.getD i 0).natAbs ≤ 9223372036854775807) : f104 ((e, c, ()), n, ()) = some (ptE e c n, ()) := by
  simp only [f104, t104, g94, f94_eq 1 1000000000 [e] (by simp), g86, f86_eq, g141, f141_eq 1000000000000 c (by omega), w1e12, g145, f145_eq e c he h hb, Option.isSome_some, Option.getD_some, Tr.val_test, Tr.val_fin, if_true, eqF_eq]
  rw [if_pos (by rw [f85_eq _ (by simp)]; rfl)]
  simp only [g85, f85_eq _ (show ([if (!inAll 1 1000000000 [e]) = true then (2 : Int) else 0, if (!decide ((c.length : Int) = n)) = true then (10 : Int) else 0,
    if (!inAll (-1000000000000) 1000000000000 c) = true then (2 : Int) else 0, if (!(decide (0 < e) && decide (lwG e c = 1))) = true then (3 : Int) else 0]).length ≤ 1000000000 by simp), Option.getD_some, ptE]

theorem f105_eq (d p q : Int) (hd : d.natAbs ≤ 9223372036854775807) (hp : p.natAbs ≤ 9223372036854775807) (hq : q.natAbs ≤ 9223372036854775807) : f105 ((d, p, q, ()), ()) = some (prE d p q, ()) := by
  have hmm : ∀ (i : Nat), i < [p, q].length → (([p, q] : List Int).getD i 0).natAbs ≤ 9223372036854775807 := fun i hi => by
    match i, hi with
    | 0, _ => exact hp
    | 1, _ => exact hq
  have e85 : ∀ a b : Int, f85 ([a, b], ()) = some (firstNZ [a, b], ()) := fun a b => f85_eq _ (by simp)
  simp only [f105, t105, g94, f94_eq 1 1000000000 [d] (by simp), g86, f86_eq, g141, f141_eq 1000000000000 [p, q] (by simp), w1e12, g145, f145_eq d [p, q] hd (by simp) hmm, Option.isSome_some, Option.getD_some, Tr.val_test, Tr.val_fin, if_true, g85, e85, prE]
  cases inAll 1 1000000000 [d] <;> simp

theorem lwG_dvd_den (d : Int) (l : List Int) : (lwG d l : Int) ∣ d := Int.ofNat_dvd_left.2 (Nat.gcd_dvd_left _ _)

theorem lwG_dvd (d : Int) (l : List Int) {i : Nat} (h : i < l.length) : (lwG d l : Int) ∣ l.getD i 0 :=
  Int.dvd_trans (Int.natCast_dvd_natCast.2 (Nat.gcd_dvd_right _ _)) (gn_dvd l l.length i h)

theorem dvd_gn {l : List Int} {g : Nat} (h : ∀ i, i < l.length → (g : Int) ∣ l.getD i 0) : ∀ n, n ≤ l.length → g ∣ gn l n
  | 0, _ => by simp [gn]
  | n + 1, hn => by
    rw [gn]
    exact Nat.dvd_gcd (dvd_gn h n (by omega)) (Int.ofNat_dvd_left.1 (h n (by omega)))

theorem tdiv_pos' {d : Int} {g : Nat} (h : 0 < d) (hg : (g : Int) ∣ d) : 0 < d.tdiv g := by
  have h5 := Int.tdiv_mul_cancel hg
  rcases Int.lt_trichotomy (d.tdiv g) 0 with h6 | h6 | h6
  · have := Int.mul_nonneg (show 0 ≤ -(d.tdiv g) by omega) (show (0 : Int) ≤ g by omega)
    rw [Int.neg_mul] at this; omega
  · rw [h6] at h5; omega
  · exact h6

/-- What is divided by the greatest divisor has no other. -/
theorem lowest_again {d : Int} {l m : List Int} (h0 : 0 < d) (hl : m.length = l.length) (hm : ∀ i, i < l.length → m.getD i 0 = (l.getD i 0).tdiv (lwG d l)) : lwG (d.tdiv (lwG d l)) m = 1 := by
  have hg := lwG_pos l h0
  generalize hk : lwG (d.tdiv (lwG d l)) m = k at *
  have h1 : (k : Int) ∣ d.tdiv (lwG d l) := by rw [← hk]; exact lwG_dvd_den _ _
  have h2 : ∀ i, i < l.length → (k : Int) ∣ (l.getD i 0).tdiv (lwG d l) := fun i hi => by
    rw [← hm i hi, ← hk]; exact lwG_dvd _ _ (by omega)
  have h3 : k * lwG d l ∣ lwG d l := by
    refine Nat.dvd_gcd ?_ (dvd_gn (fun i hi => ?_) _ (Nat.le_refl _))
    · refine Int.ofNat_dvd_left.1 ?_
      have := Int.mul_dvd_mul h1 (Int.dvd_refl (lwG d l : Int))
      rw [Int.tdiv_mul_cancel (lwG_dvd_den d l)] at this
      rw [Int.natCast_mul]; exact this
    · have := Int.mul_dvd_mul (h2 i hi) (Int.dvd_refl (lwG d l : Int))
      rw [Int.tdiv_mul_cancel (lwG_dvd d l hi)] at this
      rw [Int.natCast_mul]; exact this
  have h4 := Nat.le_of_dvd hg h3
  have hk0 : k ≠ 0 := fun e => by
    rw [e] at h1
    have := tdiv_pos' h0 (lwG_dvd_den d l)
    have := Int.zero_dvd.1 h1
    omega
  rcases Nat.lt_or_ge 1 k with h5 | h5
  · have : 2 * lwG d l ≤ k * lwG d l := Nat.mul_le_mul_right _ h5
    omega
  · omega

theorem cL_len (l : List Int) : (cL l).length = l.length := lwL_len _ _ _

/-! sums -/

def sumZ (f : Nat → Int) : Nat → Int
  | 0 => 0
  | n + 1 => sumZ f n + f n

theorem sumZ_congr {f g : Nat → Int} : ∀ n, (∀ i, i < n → f i = g i) → sumZ f n = sumZ g n
  | 0, _ => rfl
  | n + 1, h => by rw [sumZ, sumZ, sumZ_congr n fun i hi => h i (by omega), h n (by omega)]

theorem sumZ_shift (f : Nat → Int) : ∀ n, sumZ f (n + 1) = f 0 + sumZ (fun i => f (i + 1)) n
  | 0 => by simp [sumZ]
  | n + 1 => by rw [sumZ, sumZ_shift f n, sumZ]; omega

theorem sumZ_kF : ∀ n : Nat, sumZ (fun t => (n : Int) - t) n = kF n
  | 0 => rfl
  | n + 1 => by
    rw [sumZ_shift, kF, ← sumZ_kF n, sumZ_congr (g := fun t => (n : Int) - t) n fun i _ => by omega]
    omega

theorem sumZ_kS : ∀ n : Nat, sumZ (fun t => ((n : Int) - t) * ((n : Int) - t)) n = kS n
  | 0 => rfl
  | n + 1 => by
    rw [sumZ_shift, kS, ← sumZ_kS n, sumZ_congr (g := fun t => ((n : Int) - t) * ((n : Int) - t)) n fun i _ => by
      rw [show ((n + 1 : Nat) : Int) - ((i + 1 : Nat) : Int) = (n : Int) - i by omega]]
    rw [show ((n + 1 : Nat) : Int) - ((0 : Nat) : Int) = (n : Int) + 1 by omega, Int.add_comm]

theorem f85_3 (a b c : Int) : f85 ([a, b, c], ()) = some (firstNZ [a, b, c], ()) := f85_eq _ (by simp)

theorem norm_size {x : Int} {y : Nat} (hy : y ≠ 0) {n : Nat} (h1 : (dig x.natAbs).length ≤ n) (h2 : (dig y).length ≤ n) : rsz (Rat.normalize x y hy) n := by
  rw [Rat.normalize_eq]
  constructor
  · refine Nat.le_trans (dig_mono ?_) h1
    have h : ((x.natAbs.gcd y : Nat) : Int) ∣ x := Int.ofNat_dvd_left.2 (Nat.gcd_dvd_left _ _)
    show (x / ((x.natAbs.gcd y : Nat) : Int)).natAbs ≤ _
    rw [← Int.tdiv_eq_ediv_of_dvd h]
    exact tdiv_abs_le _ _
  · exact Nat.le_trans (dig_mono (Nat.div_le_self _ _)) h2

theorem norm_div (x : Int) {y : Nat} (hy : y ≠ 0) : Rat.normalize x y hy = (x : Rat) / (y : Rat) := by
  rw [Rat.normalize_eq_mkRat, Rat.mkRat_eq_div]

def sq (l : List Int) (n : Nat) : Int := sumZ (fun t => ((cL l).getD t 0 - l.getD t 0 * eD l) * ((cL l).getD t 0 - l.getD t 0 * eD l)) n

theorem f18_new (x : Int) (l : List Int) (h : l.length ≤ 1000000) : f18 ((x, l, ()), ()) = some ((x, l, ()), ()) := by
  simp only [f18, t18, Tr.val_test, Tr.val_fin, List.nil_append]
  by_cases h0 : l.length = 0
  · rw [if_pos (by rw [beq_eq_true']; exact h0), List.eq_nil_of_length_eq_zero h0]
  · rw [if_neg (by rw [beq_eq_true']; exact h0), if_neg (by rw [ble_eq_true']; omega), if_pos (by simp; omega), if_pos (by rw [beq_eq_true']; omega)]

theorem rdiv_norm {r s : Rat} (h : 0 < s) : ∃ hy : r.den * s.num.toNat ≠ 0, r / s = Rat.normalize (r.num * (s.den : Int)) (r.den * s.num.toNat) hy := by
  have hs : 0 < s.num := by
    have h1 := Rat.num_nonneg.2 (Rat.le_of_lt h)
    rcases Int.lt_or_eq_of_le h1 with h2 | h2
    · exact h2
    · exfalso
      have : s = 0 := by rw [Rat.eq_iff_mul_eq_mul, ← h2]; simp
      rw [this] at h; exact absurd h (by decide)
  have hy : r.den * s.num.toNat ≠ 0 := Nat.mul_ne_zero r.den_nz (by omega)
  refine ⟨hy, ?_⟩
  rw [Rat.normalize_eq_mkRat, Rat.mkRat_eq_div, Rat.natCast_mul, Rat.intCast_mul]
  have h1 : ((s.num.toNat : Nat) : Rat) = ((s.num : Int) : Rat) := by rw [← Rat.intCast_natCast, Int.toNat_of_nonneg (by omega)]
  have h2 : r = (r.num : Rat) / (r.den : Rat) := by rw [← Rat.mkRat_eq_div, Rat.mkRat_self]
  have h3 : s = (s.num : Rat) / (s.den : Rat) := by rw [← Rat.mkRat_eq_div, Rat.mkRat_self]
  have n1 : ((r.den : Nat) : Rat) ≠ 0 := by rw [Ne, Rat.natCast_eq_zero_iff]; exact r.den_nz
  have n2 : ((s.den : Nat) : Rat) ≠ 0 := by rw [Ne, Rat.natCast_eq_zero_iff]; exact s.den_nz
  have n3 : ((s.num : Int) : Rat) ≠ 0 := by rw [Ne, Rat.intCast_eq_zero_iff]; omega
  rw [h1, Rat.intCast_natCast]
  generalize (r.num : Rat) = a at *
  generalize (r.den : Rat) = b at *
  generalize (s.num : Rat) = c at *
  generalize (s.den : Rat) = e at *
  rw [h2, h3]
  grind

theorem rsz_mul {r s : Rat} {m n : Nat} (hr : rsz r m) (hs : rsz s n) : rsz (r * s) (m + n) := by
  obtain ⟨r1, r2⟩ := hr
  obtain ⟨s1, s2⟩ := hs
  have m1 := len_imul r.num s.num
  have m3 := len_mul r.den s.den
  rw [Rat.mul_def]
  exact norm_size _ (by omega) (by omega)

theorem rsz_mono {r : Rat} {m n : Nat} (h : rsz r m) (hn : m ≤ n) : rsz r n := ⟨Nat.le_trans h.1 hn, Nat.le_trans h.2 hn⟩

theorem rsz_add {r s : Rat} {m n : Nat} (hr : rsz r m) (hs : rsz s n) : rsz (r + s) (m + n + 1) := by
  obtain ⟨r1, r2⟩ := hr
  obtain ⟨s1, s2⟩ := hs
  have m1 := len_imul r.num (s.den : Int)
  have m2 := len_imul s.num (r.den : Int)
  have m3 := len_mul r.den s.den
  simp only [Int.natAbs_natCast] at m1 m2
  have m4 := len_add (r.num * (s.den : Int)) (s.num * (r.den : Int)) (k := m + n) (by omega) (by omega)
  rw [Rat.add_def]
  exact norm_size _ m4 (by omega)

theorem rsz_neg {r : Rat} {m : Nat} (h : rsz r m) : rsz (-r) m := ⟨by rw [Rat.neg_num, Int.natAbs_neg]; exact h.1, by rw [Rat.neg_den]; exact h.2⟩

theorem rsz_sub {r s : Rat} {m n : Nat} (hr : rsz r m) (hs : rsz s n) : rsz (r - s) (m + n + 1) := by
  rw [Rat.sub_eq_add_neg]; exact rsz_add hr (rsz_neg hs)

theorem rsz_div {r s : Rat} {m n : Nat} (hr : rsz r m) (hs : rsz s n) (h : 0 < s) : rsz (r / s) (m + n) := by
  obtain ⟨hy, e⟩ := rdiv_norm (r := r) h
  obtain ⟨r1, r2⟩ := hr
  obtain ⟨s1, s2⟩ := hs
  have m1 := len_imul r.num (s.den : Int)
  have m3 := len_mul r.den s.num.toNat
  simp only [Int.natAbs_natCast] at m1
  have : s.num.toNat ≤ s.num.natAbs := by omega
  have := dig_mono this
  rw [e]
  exact norm_size _ (by omega) (by omega)

theorem rsz_int {x : Int} (h : x.natAbs < 1000000000000000000) : rsz (x : Rat) 2 := by
  refine ⟨?_, ?_⟩
  · rw [Rat.num_intCast]; exact dig_len (by simp only [pw]; omega)
  · rw [Rat.den_intCast]; exact Nat.le_trans (dig_len (k := 1) (by simp only [pw]; omega)) (by omega)

theorem f172_eq (r s : Rat) (h : 0 < s) (hr : rsz r 2000) (hs : rsz s 2000) : f172 (encR r, encR s, ()) = some (encR (r / s), ()) := by
  obtain ⟨hy, e⟩ := rdiv_norm (r := r) h
  obtain ⟨r1, r2⟩ := hr
  obtain ⟨s1, s2⟩ := hs
  have hs0 : 0 ≤ s.num := Rat.num_nonneg.2 (Rat.le_of_lt h)
  have m1 := len_imul r.num (s.den : Int)
  have m3 := len_mul r.den s.num.toNat
  simp only [Int.natAbs_natCast] at m1
  have m4 := dig_mono (show s.num.toNat ≤ s.num.natAbs by omega)
  have e1 : f117 ((r.num.sign, dig r.num.natAbs, ()), ((s.den : Int).sign, dig s.den, ()), ()) = some (enc (r.num * (s.den : Int)), ()) := f117_eq _ _ (by simp only [Int.natAbs_natCast]; omega)
  have e2 : f117 (((r.den : Int).sign, dig r.den, ()), (s.num.sign, dig s.num.natAbs, ()), ()) = some (enc ((r.den * s.num.toNat : Nat) : Int), ()) := by
    rw [Int.natCast_mul, Int.toNat_of_nonneg hs0]; exact f117_eq (r.den : Int) s.num (by simp only [Int.natAbs_natCast]; omega)
  have e5 : f115 (((enc (r.num * (s.den : Int))).1, (enc (r.num * (s.den : Int))).2.1, ()), ((enc ((r.den * s.num.toNat : Nat) : Int)).1, (enc ((r.den * s.num.toNat : Nat) : Int)).2.1, ()), ()) = some (encR (r / s), ()) := by
    rw [e]; exact f115_eq _ _ _ (by omega) (by omega)
  show f172 (((r.num.sign, dig r.num.natAbs, ()), ((r.den : Int).sign, dig r.den, ()), ()), ((s.num.sign, dig s.num.natAbs, ()), ((s.den : Int).sign, dig s.den, ()), ()), ()) = _
  simp only [f172, t172, g117, e1, e2, g115, e5, Option.isSome_some, Option.getD_some, Tr.val_test, Tr.val_fin, if_true]

theorem f171_eq (r : Rat) : f171 (encR r, ()) = some (r.num.sign, ()) := rfl

theorem num_sign_ne {r : Rat} (h : r ≠ 0) : r.num.sign ≠ 0 := by
  intro e
  rw [Int.sign_eq_zero_iff_zero] at e
  exact h (by rw [Rat.eq_iff_mul_eq_mul, e]; simp)

theorem f147_eq (z : Int) (h : z.natAbs < 1000000000000000000) : f147 (enc z, ()) = some (z, true, ()) := by
  have hl : (dig z.natAbs).length ≤ 2 := dig_len (by simp only [pw]; omega)
  have hv := dig_dv z.natAbs
  have hsgn : z.sign * (z.natAbs : Int) = z := Int.sign_mul_natAbs z
  have hDg := dig_Dg z.natAbs
  show f147 ((z.sign, dig z.natAbs, ()), ()) = _
  generalize hd : dig z.natAbs = d at *
  have hz : ∀ w : Int, w = z → wrap64 w = z := fun w e => by rw [e, wrap64_id (by omega) (by omega)]
  have z0 : wrap64 0 = 0 := rfl
  match d, hl with
  | [], _ =>
    simp only [dval] at hv
    have : z = 0 := by omega
    subst this
    rfl
  | [a], _ =>
    simp only [dval] at hv
    have ha := hDg a (by simp)
    have hr : l147_0 ((0, 0, ()), (z.sign, [a], ()), ()) = some (.inl ((a, ()), (z.sign, [a], ()), ())) := by
      refine itr_brk (fun i => (((if i = 0 then 0 else a), (0 : Int) - i, ()), (z.sign, [a], ()), ())) (n := 1) ?_ ?_ (by unfold rounds; omega)
      · intro i hi
        have : i = 0 := by omega
        subst this
        simp [s147_0, t147_0, leF_eq]
        exact ⟨by rw [z0, Int.zero_add, wrap64_id (by omega) (by omega)], by decide⟩
      · simp [s147_0, t147_0, leF_eq]
    have w0 : wrap64 (((1 : Nat) : Int) - 1) = 0 := by decide
    simp only [f147, t147, leF_eq, List.length_cons, List.length_nil, Tr.val_test, Tr.val_fin, b147_0, w0, hr, isBrk, outB, if_true, hz _ (show z.sign * a = z by rw [show a = (z.natAbs : Int) by omega]; exact hsgn)]
    rw [if_neg (by simp)]
  | [a, b], _ =>
    simp only [dval] at hv
    have ha := hDg a (by simp)
    have hb := hDg b (by simp)
    have hr : l147_0 ((0, 1, ()), (z.sign, [a, b], ()), ()) = some (.inl ((b * 1000000000 + a, ()), (z.sign, [a, b], ()), ())) := by
      refine itr_brk (fun i => (((if i = 0 then 0 else if i = 1 then b else b * 1000000000 + a), (1 : Int) - i, ()), (z.sign, [a, b], ()), ())) (n := 2) ?_ ?_ (by unfold rounds; omega)
      · intro i hi
        have : i = 0 ∨ i = 1 := by omega
        rcases this with rfl | rfl
        · simp [s147_0, t147_0, leF_eq]
          exact ⟨by rw [z0, Int.zero_add, wrap64_id (by omega) (by omega)], by decide⟩
        · have e1 : wrap64 (b * 1000000000) = b * 1000000000 := wrap64_id (by omega) (by omega)
          have e2 : wrap64 (b * 1000000000 + a) = b * 1000000000 + a := wrap64_id (by omega) (by omega)
          simp [s147_0, t147_0, leF_eq, e1, e2]
          decide
      · simp [s147_0, t147_0, leF_eq]
    have w0 : wrap64 (((2 : Nat) : Int) - 1) = 1 := by decide
    simp only [f147, t147, leF_eq, List.length_cons, List.length_nil, Tr.val_test, Tr.val_fin, b147_0, w0, hr, isBrk, outB, if_true, hz _ (show z.sign * (b * 1000000000 + a) = z by rw [show b * 1000000000 + a = (z.natAbs : Int) by omega]; exact hsgn)]
    rw [if_neg (by simp)]

theorem f148_eq (r : Rat) (hr : rsz r 2000) : f148 (encR r, ()) = some (enc (r.num / (r.den : Int)), ()) := by
  have e1 : f153 ((r.num.sign, dig r.num.natAbs, ()), ((r.den : Int).sign, dig r.den, ()), ()) = some (enc (r.num / (r.den : Int)), ()) :=
    f153_eq r.num (r.den : Int) (by have := r.den_pos; omega) (Nat.le_trans hr.2 (by omega)) (Nat.le_trans hr.1 (by omega))
  show f148 (((r.num.sign, dig r.num.natAbs, ()), ((r.den : Int).sign, dig r.den, ()), ()), ()) = _
  simp only [f148, t148, g153, e1, Option.isSome_some, Option.getD_some, Tr.val_test, Tr.val_fin, if_true]

abbrev XR (r : Rat) : (Int × List Int × PUnit) × (Int × List Int × PUnit) × PUnit := (((encR r).1.1, (encR r).1.2.1, ()), ((encR r).2.1.1, (encR r).2.1.2.1, ()), ())

theorem f146_eq {a0 a1 a2 b0 b1 b2 : Rat} (h0 : 0 < a0) (h1 : a1 ≠ 0) (h2 : b0 ≠ 0) (h3 : 0 < b1 - b0 / a0 * a1)
    (za0 : rsz a0 2) (za1 : rsz a1 2) (za2 : rsz a2 2) (zb0 : rsz b0 2) (zb1 : rsz b1 2) (zb2 : rsz b2 2) :
    f146 ([[encR a0, encR a1, encR a2], [encR b0, encR b1, encR b2]], ()) =
      some ([encR ((a2 - a1 / (b1 - b0 / a0 * a1) * (b2 - b0 / a0 * a2)) / a0), encR ((b2 - b0 / a0 * a2) / (b1 - b0 / a0 * a1))], true, ()) := by
  have zx := rsz_div zb0 za0 h0
  have e0 : f171 (XR a0, ()) = some (a0.num.sign, ()) := f171_eq a0
  have e1 : f171 (XR b0, ()) = some (b0.num.sign, ()) := f171_eq b0
  have e2 : f172 (XR b0, XR a0, ()) = some (encR (b0 / a0), ()) := f172_eq b0 a0 h0 (rsz_mono zb0 (by omega)) (rsz_mono za0 (by omega))
  have e3 : f52 (XR (b0 / a0), XR a0, ()) = some (encR (b0 / a0 * a0), ()) := f52_eq _ _ (rsz_mono zx (by omega)) (rsz_mono za0 (by omega))
  have e4 : f49 (XR b0, XR (b0 / a0 * a0), ()) = some (encR (b0 - b0 / a0 * a0), ()) := f49_eq _ _ (rsz_mono zb0 (by omega)) (rsz_mono (rsz_mul zx za0) (by omega))
  have e5 : f52 (XR (b0 / a0), XR a1, ()) = some (encR (b0 / a0 * a1), ()) := f52_eq _ _ (rsz_mono zx (by omega)) (rsz_mono za1 (by omega))
  have e6 : f49 (XR b1, XR (b0 / a0 * a1), ()) = some (encR (b1 - b0 / a0 * a1), ()) := f49_eq _ _ (rsz_mono zb1 (by omega)) (rsz_mono (rsz_mul zx za1) (by omega))
  have e7 : f52 (XR (b0 / a0), XR a2, ()) = some (encR (b0 / a0 * a2), ()) := f52_eq _ _ (rsz_mono zx (by omega)) (rsz_mono za2 (by omega))
  have e8 : f49 (XR b2, XR (b0 / a0 * a2), ()) = some (encR (b2 - b0 / a0 * a2), ()) := f49_eq _ _ (rsz_mono zb2 (by omega)) (rsz_mono (rsz_mul zx za2) (by omega))
  have zc := rsz_sub zb1 (rsz_mul zx za1)
  have zd := rsz_sub zb2 (rsz_mul zx za2)
  generalize hc : b1 - b0 / a0 * a1 = c at *
  generalize hd : b2 - b0 / a0 * a2 = d at *
  generalize b0 / a0 = x at *
  have e9 : f171 (XR c, ()) = some (c.num.sign, ()) := f171_eq c
  have e10 : f171 (XR a1, ()) = some (a1.num.sign, ()) := f171_eq a1
  have zy := rsz_div za1 zc h3
  have e11 : f172 (XR a1, XR c, ()) = some (encR (a1 / c), ()) := f172_eq a1 c h3 (rsz_mono za1 (by omega)) (rsz_mono zc (by omega))
  generalize a1 / c = y at *
  have e12 : f52 (XR y, XR c, ()) = some (encR (y * c), ()) := f52_eq _ _ (rsz_mono zy (by omega)) (rsz_mono zc (by omega))
  have e13 : f49 (XR a1, XR (y * c), ()) = some (encR (a1 - y * c), ()) := f49_eq _ _ (rsz_mono za1 (by omega)) (rsz_mono (rsz_mul zy zc) (by omega))
  have e14 : f52 (XR y, XR d, ()) = some (encR (y * d), ()) := f52_eq _ _ (rsz_mono zy (by omega)) (rsz_mono zd (by omega))
  have e15 : f49 (XR a2, XR (y * d), ()) = some (encR (a2 - y * d), ()) := f49_eq _ _ (rsz_mono za2 (by omega)) (rsz_mono (rsz_mul zy zd) (by omega))
  have zz := rsz_sub za2 (rsz_mul zy zd)
  generalize a2 - y * d = z at *
  have e16 : f172 (XR z, XR a0, ()) = some (encR (z / a0), ()) := f172_eq _ _ h0 (rsz_mono zz (by omega)) (rsz_mono za0 (by omega))
  have e17 : f172 (XR d, XR c, ()) = some (encR (d / c), ()) := f172_eq _ _ h3 (rsz_mono zd (by omega)) (rsz_mono zc (by omega))
  have n0 : decide (a0.num.sign = 0) = false := by simpa using num_sign_ne (r := a0) (by grind)
  have n1 : decide (b0.num.sign = 0) = false := by simpa using num_sign_ne h2
  have n2 : decide (c.num.sign = 0) = false := by simpa using num_sign_ne (r := c) (by grind)
  have n3 : decide (a1.num.sign = 0) = false := by simpa using num_sign_ne h1
  have k0 : (true && decide ((0 : Int) < 2)) = true := rfl
  have k1 : (true && decide ((1 : Int) < 2)) = true := rfl
  show (t146 (encR a0).1.1 (encR a0).1.2.1 (encR a0).2.1.1 (encR a0).2.1.2.1 (encR a1).1.1 (encR a1).1.2.1 (encR a1).2.1.1 (encR a1).2.1.2.1 (encR a2).1.1 (encR a2).1.2.1 (encR a2).2.1.1 (encR a2).2.1.2.1
    (encR b0).1.1 (encR b0).1.2.1 (encR b0).2.1.1 (encR b0).2.1.2.1 (encR b1).1.1 (encR b1).1.2.1 (encR b1).2.1.1 (encR b1).2.1.2.1 (encR b2).1.1 (encR b2).1.2.1 (encR b2).2.1.1 (encR b2).2.1.2.1).val = _
  simp only [t146, g171, g172, g52, g49, e0, e1, e2, e3, e4, e5, e6, e7, e8, e9, e10, e11, e12, e13, e14, e15, e16, e17, n0, n1, n2, n3, k0, k1, Option.isSome_some, Option.getD_some, Tr.val_test, Tr.val_fin, eqF_eq, if_true, Bool.false_eq_true, if_false]
  rfl

theorem sumZ_le (f : Nat → Int) (B : Int) : ∀ n, (∀ i, i < n → 0 ≤ f i ∧ f i ≤ B) → 0 ≤ sumZ f n ∧ sumZ f n ≤ B * n
  | 0, _ => by simp [sumZ]
  | n + 1, h => by
    obtain ⟨h1, h2⟩ := sumZ_le f B n fun i hi => h i (by omega)
    obtain ⟨h3, h4⟩ := h n (by omega)
    simp only [sumZ]
    rw [show ((n + 1 : Nat) : Int) = (n : Int) + 1 from rfl, Int.mul_add, Int.mul_one]
    omega

theorem l109 {l : List Int} (h : l.length ≤ 24) : l109_0 ((l, (l.length : Int), (0 : Int), (0 : Int), (0 : Int), ()), ((0 : Int), (0 : Int), ()), ((0 : Int), (0 : Int), ()), ()) =
    some (.inl ((l, (l.length : Int), kF l.length, kS l.length, ()), ((0 : Int), (0 : Int), ()), ((0 : Int), (0 : Int), ()), ())) := by
  rw [← sumZ_kF, ← sumZ_kS]
  refine itr_brk (fun i => ((l, (l.length : Int), sumZ (fun t => (l.length : Int) - t) i, sumZ (fun t => ((l.length : Int) - t) * ((l.length : Int) - t)) i, (i : Int), ()), ((0 : Int), (0 : Int), ()), ((0 : Int), (0 : Int), ()), ())) (n := l.length) ?_ ?_ (lt_rounds (by omega))
  · intro i hi
    obtain ⟨a1, a2⟩ := sumZ_le (fun t => (l.length : Int) - t) 24 i fun t ht => by constructor <;> omega
    obtain ⟨b1, b2⟩ := sumZ_le (fun t => ((l.length : Int) - t) * ((l.length : Int) - t)) 576 i fun t ht => by
      have := mul_bdd (A := 24) (B := 24) (x := (l.length : Int) - t) (y := (l.length : Int) - t) (by omega) (by omega) (by omega) (by omega)
      exact ⟨Int.mul_nonneg (by omega) (by omega), by omega⟩
    have m := mul_bdd (A := 24) (B := 24) (x := (l.length : Int) - i) (y := (l.length : Int) - i) (by omega) (by omega) (by omega) (by omega)
    have w1 : wrap64 ((l.length : Int) - i) = (l.length : Int) - i := wrap64_id (by omega) (by omega)
    have w2 : wrap64 (((l.length : Int) - i) * ((l.length : Int) - i)) = ((l.length : Int) - i) * ((l.length : Int) - i) := wrap64_id (by omega) (by omega)
    have e4 : wrap64 ((i : Int) + 1) = ((i + 1 : Nat) : Int) := wrap64_nat (by omega)
    have w3 : wrap64 (wrap64 (sumZ (fun t => (l.length : Int) - t) i + (l.length : Int)) - i) = sumZ (fun t => (l.length : Int) - t) (i + 1) := by
      rw [wrap64_id (n := sumZ (fun t => (l.length : Int) - t) i + (l.length : Int)) (by omega) (by omega), wrap64_id (by omega) (by omega)]
      simp only [sumZ]; omega
    have w4 : wrap64 (sumZ (fun t => ((l.length : Int) - t) * ((l.length : Int) - t)) i + ((l.length : Int) - i) * ((l.length : Int) - i)) = sumZ (fun t => ((l.length : Int) - t) * ((l.length : Int) - t)) (i + 1) := by
      rw [wrap64_id (by omega) (by omega)]
      simp only [sumZ]
    simp only [s109_0, t109_0, Tr.val_test, Tr.val_fin, leF_eq, w1, w2, w3, w4, e4]
    rw [if_pos (by simp; omega)]
  · simp [s109_0, t109_0, leF_eq]

theorem rat_pos {x : Int} (h : 0 < x) : (0 : Rat) < (x : Rat) := by
  have := Rat.intCast_lt_intCast.2 h
  simpa using this

theorem rat_ne {x : Int} (h : x ≠ 0) : (x : Rat) ≠ 0 := by rw [Ne, Rat.intCast_eq_zero_iff]; exact h

theorem pq_rat {l : List Int} (hb : Bd 1000 l) (h2 : 2 ≤ l.length) (h : l.length ≤ 24) :
    (pr0 l : Rat) ≠ 0 ∧ (pD l : Rat) ≠ 0 ∧ (prP l : Rat) / (pr0 l : Rat) = (pP l : Rat) / (pD l : Rat) ∧ (prQ l : Rat) / (pr0 l : Rat) = (pQ l : Rat) / (pD l : Rat) := by
  obtain ⟨a1, a2, ⟨d0, d1⟩, p1, q1⟩ := pr_bounds hb h2 h
  obtain ⟨c0, _, _, _⟩ := p_bounds hb h2 h
  have hg0 : (prG l : Int) ∣ pr0 l := Int.ofNat_dvd_left.2 (Nat.gcd_dvd_left _ _)
  have hg1 : (prG l : Int) ∣ prP l := lwG_dvd (pr0 l) [prP l, prQ l] (i := 0) (by simp)
  have hg2 : (prG l : Int) ∣ prQ l := lwG_dvd (pr0 l) [prP l, prQ l] (i := 1) (by simp)
  have e0 : pD l * (prG l : Int) = pr0 l := Int.tdiv_mul_cancel hg0
  have e1 : pP l * (prG l : Int) = prP l := Int.tdiv_mul_cancel hg1
  have e2 : pQ l * (prG l : Int) = prQ l := Int.tdiv_mul_cancel hg2
  have hgz : (prG l : Int) ≠ 0 := fun e => by rw [e] at e0; omega
  have n0 := rat_ne (show pr0 l ≠ 0 by omega)
  have n1 := rat_ne (show pD l ≠ 0 by omega)
  have n2 := rat_ne hgz
  refine ⟨n0, n1, ?_, ?_⟩
  · rw [← e0, ← e1, Rat.intCast_mul, Rat.intCast_mul]
    generalize (pD l : Rat) = a at *
    generalize (pP l : Rat) = b at *
    generalize ((prG l : Int) : Rat) = g at *
    grind
  · rw [← e0, ← e2, Rat.intCast_mul, Rat.intCast_mul]
    generalize (pD l : Rat) = a at *
    generalize (pQ l : Rat) = b at *
    generalize ((prG l : Int) : Rat) = g at *
    grind

theorem kF_pos : ∀ n : Nat, n < 25 → 2 ≤ n → 0 < kF n := by decide

theorem div_div_rat (x : Rat) {R n : Rat} (hn : n ≠ 0) (hR : R ≠ 0) : x / (R / n) = x * n / R := by
  have h1 : R / n ≠ 0 := fun e => hR (by have := Rat.div_mul_cancel (a := R) hn; rw [e, Rat.zero_mul] at this; exact this.symm)
  have h2 : x = x * n / R * (R / n) := by grind
  rw [h2, Rat.mul_div_cancel h1]
  rw [← h2]

theorem alg2 (v F d : Rat) {R n : Rat} (hn : n ≠ 0) (hR : R ≠ 0) : (-d - F / n * -v) / (R / n) = (F * v - n * d) / R := by
  rw [div_div_rat _ hn hR]
  grind

theorem alg1 (v F d : Rat) {R n : Rat} (hn : n ≠ 0) (hR : R ≠ 0) : (-v - F / (R / n) * (-d - F / n * -v)) / n = (F * d - (R + F * F) / n * v) / R := by
  rw [div_div_rat _ hn hR]
  grind

theorem f109_eq {l : List Int} (hb : Bd 1000 l) (h2 : 2 ≤ l.length) (h : l.length ≤ 24) : f109 (l, ()) = some (encR ((pP l : Rat) / (pD l : Rat)), encR ((pQ l : Rat) / (pD l : Rat)), ()) := by
  obtain ⟨⟨v1, v2⟩, ⟨d1, d2⟩, ⟨d0, _⟩, _, _⟩ := pr_bounds hb h2 h
  obtain ⟨_, _, f0, f1, s0, s1, _, _⟩ := k_table l.length (by omega)
  have fp := kF_pos l.length (by omega) h2
  obtain ⟨n0, nD, q1, q2⟩ := pq_rat hb h2 h
  have hl := l109 (l := l) h
  have e26 := f26_eq l (by omega)
  rw [wrap64_id (n := accE l l.length) (by omega) (by omega), wrap64_id (n := accE2 l l.length) (by omega) (by omega)] at e26
  have w1 : IntKind.wrap .i64 (0 - accE l l.length) = -accE l l.length := by rw [wrapJ (by omega) (by omega)]; omega
  have w2 : IntKind.wrap .i64 (0 - accE2 l l.length) = -accE2 l l.length := by rw [wrapJ (by omega) (by omega)]; omega
  have g1 := f48_eq (l.length : Int) (by omega)
  have g2 := f48_eq (kF l.length) (by omega)
  have g3 := f48_eq (-accE l l.length) (by omega)
  have g4 := f48_eq (kS l.length) (by omega)
  have g5 := f48_eq (-accE2 l l.length) (by omega)
  have pn : (0 : Rat) < ((l.length : Int) : Rat) := rat_pos (by omega)
  have nn := rat_ne (show (l.length : Int) ≠ 0 by omega)
  have hpr : (pr0 l : Rat) = ((l.length : Int) : Rat) * (kS l.length : Rat) - (kF l.length : Rat) * (kF l.length : Rat) := by unfold pr0; simp only [Rat.intCast_sub, Rat.intCast_mul]
  have hP : (prP l : Rat) = (kF l.length : Rat) * (accE2 l l.length : Rat) - (kS l.length : Rat) * (accE l l.length : Rat) := by unfold prP; simp only [Rat.intCast_sub, Rat.intCast_mul]
  have hQ : (prQ l : Rat) = (kF l.length : Rat) * (accE l l.length : Rat) - ((l.length : Int) : Rat) * (accE2 l l.length : Rat) := by unfold prQ; simp only [Rat.intCast_sub, Rat.intCast_mul]
  have hc : (kS l.length : Rat) - (kF l.length : Rat) / ((l.length : Int) : Rat) * (kF l.length : Rat) = (pr0 l : Rat) / ((l.length : Int) : Rat) := by rw [hpr]; grind
  have pc : (0 : Rat) < (pr0 l : Rat) / ((l.length : Int) : Rat) := by
    rw [Rat.lt_div_iff pn, Rat.zero_mul]; exact rat_pos d0
  have e146 : f146 ([[XR ((l.length : Int) : Rat), XR (kF l.length : Rat), XR ((-accE l l.length : Int) : Rat)], [XR (kF l.length : Rat), XR (kS l.length : Rat), XR ((-accE2 l l.length : Int) : Rat)]], ()) = some ([encR ((pP l : Rat) / (pD l : Rat)), encR ((pQ l : Rat) / (pD l : Rat))], true, ()) := by
    refine (f146_eq pn (rat_ne (by omega)) (rat_ne (by omega)) (by rw [hc]; exact pc) (rsz_int (by omega)) (rsz_int (by omega)) (rsz_int (by omega)) (rsz_int (by omega)) (rsz_int (by omega)) (rsz_int (by omega))).trans ?_
    rw [hc, ← q1, ← q2, Rat.intCast_neg, Rat.intCast_neg]
    have nS : (kS l.length : Rat) = ((pr0 l : Rat) + (kF l.length : Rat) * (kF l.length : Rat)) / ((l.length : Int) : Rat) := by rw [hpr]; grind
    rw [hP, hQ, nS]
    generalize (pr0 l : Rat) = R at *
    generalize ((l.length : Int) : Rat) = n at *
    generalize (kF l.length : Rat) = F at *
    generalize (accE l l.length : Rat) = v at *
    generalize (accE2 l l.length : Rat) = d at *
    rw [alg1 v F d nn n0, alg2 v F d nn n0]
  have k0 : (true && decide ((0 : Int) < ((2 : Nat) : Int))) = true := rfl
  have k1 : (true && decide ((1 : Int) < ((2 : Nat) : Int))) = true := rfl
  simp only [f109, t109, b109_0, hl, isBrk, outB, g26, e26, g48, g1, g2, g3, g4, g5, w1, w2, g146, e146, List.length_cons, List.length_nil, Nat.zero_add, Nat.reduceAdd, k0, k1, List.getD_cons_zero, List.getD_cons_succ, Option.isSome_some, Option.getD_some, Tr.val_test, Tr.val_fin, if_true]

theorem lcm_div {E a b : Nat} (hE : 0 < E) (ha : a ∣ E) (hb : b ∣ E) : Nat.lcm (E / a) (E / b) = E / Nat.gcd a b := by
  have hg : Nat.gcd a b ∣ E := Nat.dvd_trans (Nat.gcd_dvd_left a b) ha
  have pa : 0 < a := Nat.pos_of_dvd_of_pos ha hE
  have pb : 0 < b := Nat.pos_of_dvd_of_pos hb hE
  have pg : 0 < Nat.gcd a b := Nat.gcd_pos_of_pos_left _ pa
  have hk := Nat.mul_div_cancel' hg
  refine Nat.dvd_antisymm (Nat.lcm_dvd ?_ ?_) ?_
  · rw [Nat.div_dvd_iff_dvd_mul ha pa]
    obtain ⟨k, e⟩ := Nat.gcd_dvd_left a b
    exact ⟨k, by
      generalize Nat.gcd a b = g at *
      rw [e, Nat.mul_assoc, Nat.mul_comm k, ← Nat.mul_assoc, hk]⟩
  · rw [Nat.div_dvd_iff_dvd_mul hb pb]
    obtain ⟨k, e⟩ := Nat.gcd_dvd_right a b
    exact ⟨k, by
      generalize Nat.gcd a b = g at *
      rw [e, Nat.mul_assoc, Nat.mul_comm k, ← Nat.mul_assoc, hk]⟩
  · rw [Nat.div_dvd_iff_dvd_mul hg pg, ← Nat.gcd_mul_right]
    exact Nat.dvd_gcd ((Nat.div_dvd_iff_dvd_mul ha pa).1 (Nat.dvd_lcm_left _ _)) ((Nat.div_dvd_iff_dvd_mul hb pb).1 (Nat.dvd_lcm_right _ _))

/-- What divides the denominator and the first numbers. -/
def cG (E : Nat) (B : List Int) (i : Nat) : Nat := Nat.gcd E (gn B i)

theorem cG_dvd (E : Nat) (B : List Int) (i : Nat) : cG E B i ∣ E := Nat.gcd_dvd_left _ _

theorem frac_den (b : Int) {E : Nat} (hE : E ≠ 0) : ((b : Rat) / (((E : Nat) : Int) : Rat)).den = E / Nat.gcd b.natAbs E := by
  rw [Rat.intCast_natCast, ← norm_div b hE, Rat.normalize_eq]

theorem cG_succ (E : Nat) (hE : 0 < E) (B : List Int) (i : Nat) : Nat.lcm (E / Nat.gcd (B.getD i 0).natAbs E) (E / cG E B i) = E / cG E B (i + 1) := by
  rw [lcm_div hE (Nat.gcd_dvd_right _ _) (cG_dvd E B i)]
  congr 1
  simp only [cG, gn]
  refine Nat.dvd_antisymm ?_ ?_
  · have h1 := Nat.gcd_dvd_left (Nat.gcd (B.getD i 0).natAbs E) (Nat.gcd E (gn B i))
    have h2 := Nat.gcd_dvd_right (Nat.gcd (B.getD i 0).natAbs E) (Nat.gcd E (gn B i))
    exact Nat.dvd_gcd (Nat.dvd_trans h1 (Nat.gcd_dvd_right _ _)) (Nat.dvd_gcd (Nat.dvd_trans h2 (Nat.gcd_dvd_right _ _)) (Nat.dvd_trans h1 (Nat.gcd_dvd_left _ _)))
  · have h1 := Nat.gcd_dvd_left E (Nat.gcd (gn B i) (B.getD i 0).natAbs)
    have h2 := Nat.gcd_dvd_right E (Nat.gcd (gn B i) (B.getD i 0).natAbs)
    exact Nat.dvd_gcd (Nat.dvd_gcd (Nat.dvd_trans h2 (Nat.gcd_dvd_right _ _)) h1) (Nat.dvd_gcd h1 (Nat.dvd_trans h2 (Nat.gcd_dvd_left _ _)))

/-- Fractions over one denominator. -/
def frs (E : Nat) (B : List Int) : List ((Int × List Int × PUnit) × (Int × List Int × PUnit) × PUnit) := B.map fun (b : Int) => encR ((b : Rat) / (((E : Nat) : Int) : Rat))

theorem frs_len (E : Nat) (B : List Int) : (frs E B).length = B.length := by simp [frs]

theorem frs_get (E : Nat) (B : List Int) {i : Nat} (h : i < B.length) (d : (Int × List Int × PUnit) × (Int × List Int × PUnit) × PUnit) : (frs E B).getD i d = encR (((B.getD i 0 : Int) : Rat) / (((E : Nat) : Int) : Rat)) := by
  simp only [frs, List.getD_eq_getElem?_getD, List.getElem?_map, List.getElem?_eq_getElem h, Option.map_some, Option.getD_some]

theorem l110a {E : Nat} (hE : 0 < E) (hE2 : E ≤ 1000000000) (B : List Int) (h : B.length ≤ 100) (hB : ∀ i, i < B.length → (B.getD i 0).natAbs < 1000000000000000000) :
    l110_0 ((frs E B, (0 : Int), ()), ((enc 1).1, (enc 1).2.1, ()), ()) = some (.inl ((frs E B, ()), ((enc ((E / cG E B B.length : Nat) : Int)).1, (enc ((E / cG E B B.length : Nat) : Int)).2.1, ()), ())) := by
  have h1 : enc 1 = enc ((E / cG E B 0 : Nat) : Int) := by
    rw [show cG E B 0 = E by simp [cG, gn], Nat.div_self hE]; rfl
  rw [h1]
  refine itr_brk (fun i => ((frs E B, (i : Int), ()), ((enc ((E / cG E B i : Nat) : Int)).1, (enc ((E / cG E B i : Nat) : Int)).2.1, ()), ())) (n := B.length) ?_ ?_ (lt_rounds (by omega))
  · intro i hi
    have hD0 : 0 < E / cG E B i := Nat.div_pos (Nat.le_of_dvd hE (cG_dvd E B i)) (Nat.pos_of_dvd_of_pos (cG_dvd E B i) hE)
    have hDE : E / cG E B i ≤ E := Nat.div_le_self _ _
    have hden := frac_den (B.getD i 0) (E := E) (by omega)
    have hdE : E / Nat.gcd (B.getD i 0).natAbs E ≤ E := Nat.div_le_self _ _
    have hsucc := cG_succ E hE B i
    have dl : ∀ x : Nat, x ≤ 1000000000 → (dig x).length ≤ 2 := fun x hx => dig_len (by simp only [pw]; omega)
    have e1 : f115 (((encR (((B.getD i 0 : Int) : Rat) / (((E : Nat) : Int) : Rat))).2.1.1, (encR (((B.getD i 0 : Int) : Rat) / (((E : Nat) : Int) : Rat))).2.1.2.1, ()), ((enc ((E / cG E B i : Nat) : Int)).1, (enc ((E / cG E B i : Nat) : Int)).2.1, ()), ()) =
        some (encR (Rat.normalize ((((B.getD i 0 : Int) : Rat) / (((E : Nat) : Int) : Rat)).den : Int) (E / cG E B i) (by omega)), ()) :=
      f115_eq _ _ (by omega) (by rw [hden]; simp only [Int.natAbs_natCast]; exact Nat.le_trans (dl _ (by omega)) (by omega)) (Nat.le_trans (dl _ (by omega)) (by omega))
    have hnum : (Rat.normalize ((((B.getD i 0 : Int) : Rat) / (((E : Nat) : Int) : Rat)).den : Int) (E / cG E B i) (by omega)).num = ((E / Nat.gcd (B.getD i 0).natAbs E / Nat.gcd (E / Nat.gcd (B.getD i 0).natAbs E) (E / cG E B i) : Nat) : Int) := by
      rw [Rat.normalize_eq, hden]
      simp only [Int.natAbs_natCast]
      exact (Int.natCast_ediv _ _).symm
    generalize hN : Rat.normalize ((((B.getD i 0 : Int) : Rat) / (((E : Nat) : Int) : Rat)).den : Int) (E / cG E B i) (by omega) = N at *
    have hmul : ((E / cG E B i : Nat) : Int) * N.num = ((E / cG E B (i + 1) : Nat) : Int) := by
      rw [hnum, ← hsucc, ← Int.natCast_mul]
      congr 1
      rw [Nat.lcm, ← Nat.mul_div_assoc _ (Nat.gcd_dvd_left _ _), Nat.mul_comm]
    have e2 : f117 (((enc ((E / cG E B i : Nat) : Int)).1, (enc ((E / cG E B i : Nat) : Int)).2.1, ()), ((encR N).1.1, (encR N).1.2.1, ()), ()) = some (enc ((E / cG E B (i + 1) : Nat) : Int), ()) := by
      rw [← hmul]
      refine f117_eq _ N.num ?_
      have q1 := dl (E / cG E B i) (by omega)
      have q2 := dl (E / Nat.gcd (B.getD i 0).natAbs E / Nat.gcd (E / Nat.gcd (B.getD i 0).natAbs E) (E / cG E B i)) (Nat.le_trans (Nat.div_le_self _ _) (by omega))
      rw [hnum]
      simp only [Int.natAbs_natCast]
      omega
    have e4 : wrap64 ((i : Int) + 1) = ((i + 1 : Nat) : Int) := wrap64_nat (by omega)
    simp only [s110_0, t110_0, Tr.val_test, Tr.val_fin, leF_eq, Int.toNat_natCast, frs_len, frs_get E B hi, g115, e1, g117, e2, e4, Option.isSome_some, Option.getD_some, if_true]
    rw [if_pos (by simp; omega), if_pos (by simp; omega)]
  · simp [s110_0, t110_0, leF_eq, frs_len]

theorem frac_times {E : Nat} (hE : 0 < E) {g : Nat} (hg : g ∣ E) {b : Int} (hb : (g : Int) ∣ b) : ((b : Rat) / (((E : Nat) : Int) : Rat)) * (((E / g : Nat) : Int) : Rat) = ((b.tdiv g : Int) : Rat) := by
  have hg0 : 0 < g := Nat.pos_of_dvd_of_pos hg hE
  have h1 : ((E / g : Nat) : Int) * (g : Int) = (E : Int) := by rw [← Int.natCast_mul, Nat.div_mul_cancel hg]
  have h2 : b.tdiv g * (g : Int) = b := Int.tdiv_mul_cancel hb
  have n1 := rat_ne (show (E : Int) ≠ 0 by omega)
  have n2 := rat_ne (show (g : Int) ≠ 0 by omega)
  have r1 : (((E / g : Nat) : Int) : Rat) * ((g : Int) : Rat) = ((E : Int) : Rat) := by rw [← Rat.intCast_mul, h1]
  have r2 : ((b.tdiv g : Int) : Rat) * ((g : Int) : Rat) = (b : Rat) := by rw [← Rat.intCast_mul, h2]
  generalize (((E / g : Nat) : Int) : Rat) = x at *
  generalize ((b.tdiv g : Int) : Rat) = y at *
  generalize ((g : Int) : Rat) = z at *
  generalize ((E : Int) : Rat) = e at *
  generalize (b : Rat) = c at *
  rw [← r1, ← r2]
  rw [← r1] at n1
  have : x ≠ 0 := by grind
  grind

theorem floor_int (z : Int) : ((z : Rat)).num / (((z : Rat)).den : Int) = z := by rw [Rat.num_intCast, Rat.den_intCast]; simp

theorem l110b {E : Nat} (hE : 0 < E) (hE2 : E ≤ 1000000000) (B : List Int) (h : B.length ≤ 100) (hB : ∀ i, i < B.length → (B.getD i 0).natAbs < 1000000000000000000) :
    l110_2 ((frs E B, ((E / cG E B B.length : Nat) : Int), [], (0 : Int), ()), ()) = some (.inl ((((E / cG E B B.length : Nat) : Int), lwL E B B.length, ()), ())) := by
  have hDE : E / cG E B B.length ≤ E := Nat.div_le_self _ _
  have hts : ∀ i, i < B.length → ((B.getD i 0 : Int) : Rat) / (((E : Nat) : Int) : Rat) * (((E / cG E B B.length : Nat) : Int) : Rat) = (((B.getD i 0).tdiv (cG E B B.length) : Int) : Rat) := fun i hi =>
    frac_times hE (cG_dvd E B B.length) (Int.ofNat_dvd_left.2 (Nat.dvd_trans (Nat.gcd_dvd_right _ _) (Int.ofNat_dvd_left.1 (gn_dvd B B.length i hi))))
  generalize E / cG E B B.length = D at *
  refine itr_brk (fun i => ((frs E B, (D : Int), lwL E B i, (i : Int), ()), ())) (n := B.length) ?_ ?_ (lt_rounds (by omega))
  · intro i hi
    have ht := hts i hi
    have hz := tdiv_abs_le (B.getD i 0) (cG E B B.length)
    have hb := hB i hi
    have pE : (0 : Rat) < (((E : Nat) : Int) : Rat) := rat_pos (by omega)
    have zr : rsz (((B.getD i 0 : Int) : Rat) / (((E : Nat) : Int) : Rat)) 4 := rsz_div (rsz_int hb) (rsz_int (by omega)) pE
    have zD : rsz ((D : Int) : Rat) 2 := rsz_int (by omega)
    have e1 := f48_eq (D : Int) (by omega)
    have e2 : f52 (XR (((B.getD i 0 : Int) : Rat) / (((E : Nat) : Int) : Rat)), XR ((D : Int) : Rat), ()) = some (encR (((B.getD i 0).tdiv (cG E B B.length) : Int) : Rat), ()) := by
      rw [← ht]; exact f52_eq _ _ (rsz_mono zr (by omega)) (rsz_mono zD (by omega))
    have e3 : f148 (XR (((B.getD i 0).tdiv (cG E B B.length) : Int) : Rat), ()) = some (enc ((B.getD i 0).tdiv (cG E B B.length)), ()) := by
      refine (f148_eq _ (rsz_mono (rsz_int (by omega)) (by omega))).trans ?_
      rw [floor_int]
    have e4 : f147 (((enc ((B.getD i 0).tdiv (cG E B B.length))).1, (enc ((B.getD i 0).tdiv (cG E B B.length))).2.1, ()), ()) = some ((B.getD i 0).tdiv (cG E B B.length), true, ()) := f147_eq _ (by omega)
    have hlw : lwL E B (i + 1) = lwL E B i ++ [(B.getD i 0).tdiv (cG E B B.length)] := by rw [lwL_succ]; rfl
    have e5 : wrap64 ((i : Int) + 1) = ((i + 1 : Nat) : Int) := wrap64_nat (by omega)
    simp only [s110_2, t110_2, Tr.val_test, Tr.val_fin, leF_eq, Int.toNat_natCast, frs_len, frs_get E B hi, g48, e1, g52, e2, g148, e3, g147, e4, hlw, e5, Option.isSome_some, Option.getD_some, if_true]
    rw [if_pos (by simp; omega), if_pos (by simp; omega), if_pos (by simp [lwL_len]; omega)]
  · simp [s110_2, t110_2, leF_eq, frs_len]

theorem f110_eq {E : Nat} (hE : 0 < E) (hE2 : E ≤ 1000000000) (B : List Int) (h : B.length ≤ 100) (hB : ∀ i, i < B.length → (B.getD i 0).natAbs < 1000000000000000000) :
    f110 (frs E B, ()) = some ((E : Int).tdiv (lwG E B), lwL E B B.length, ()) := by
  have e0 := f113_eq 1 (by decide)
  have hDE : E / cG E B B.length ≤ E := Nat.div_le_self _ _
  have hD : ((E / cG E B B.length : Nat) : Int) = (E : Int).tdiv (lwG E B) := by
    rw [Int.tdiv_eq_ediv_of_nonneg (by omega), Int.natCast_ediv]; rfl
  have la := l110a hE hE2 B h hB
  have lb := l110b hE hE2 B h hB
  rw [← hD]
  generalize E / cG E B B.length = D at *
  have e1 : f147 (((enc (D : Int)).1, (enc (D : Int)).2.1, ()), ()) = some ((D : Int), true, ()) := f147_eq _ (by omega)
  simp only [f110, t110, g113, e0, b110_0, la, isBrk, outB, g147, e1, b110_2, lb, Option.isSome_some, Option.getD_some, Tr.val_test, Tr.val_fin, if_true]

theorem frs_snoc (E : Nat) (B : List Int) (b : Int) : frs E (B ++ [b]) = frs E B ++ [encR ((b : Rat) / (((E : Nat) : Int) : Rat))] := by simp [frs]

theorem l45 {l : List Int} (hb : Bd 1000 l) (h2 : 2 ≤ l.length) (h : l.length ≤ 24) {E : Nat} (hE : (E : Int) = pD l) (z : sh45_0.data) (zb : shb45_0.data)
    (hz : z = ((l, [], (0 : Int), ()), ((0 : Int), ()), ((0 : Int), (0 : Int), (0 : Int), ()),
      ((encR ((pP l : Rat) / (pD l : Rat))).1.1, (encR ((pP l : Rat) / (pD l : Rat))).1.2.1, (encR ((pP l : Rat) / (pD l : Rat))).2.1.1, (encR ((pP l : Rat) / (pD l : Rat))).2.1.2.1, ()),
      ((encR ((pQ l : Rat) / (pD l : Rat))).1.1, (encR ((pQ l : Rat) / (pD l : Rat))).1.2.1, (encR ((pQ l : Rat) / (pD l : Rat))).2.1.1, (encR ((pQ l : Rat) / (pD l : Rat))).2.1.2.1, ()), ()))
    (hzb : zb = ((frs E (bL l l.length), ()), ((0 : Int), ()), ((0 : Int), (0 : Int), (0 : Int), ()),
      ((encR ((pP l : Rat) / (pD l : Rat))).1.1, (encR ((pP l : Rat) / (pD l : Rat))).1.2.1, (encR ((pP l : Rat) / (pD l : Rat))).2.1.1, (encR ((pP l : Rat) / (pD l : Rat))).2.1.2.1, ()),
      ((encR ((pQ l : Rat) / (pD l : Rat))).1.1, (encR ((pQ l : Rat) / (pD l : Rat))).1.2.1, (encR ((pQ l : Rat) / (pD l : Rat))).2.1.1, (encR ((pQ l : Rat) / (pD l : Rat))).2.1.2.1, ()), ())) :
    l45_0 z = some (.inl zb) := by
  subst hz hzb
  obtain ⟨d0, d1, p1, q1⟩ := p_bounds hb h2 h
  refine itr_brk (fun i => ((l, frs E (bL l i), (i : Int), ()), ((0 : Int), ()), ((0 : Int), (0 : Int), (0 : Int), ()),
      ((encR ((pP l : Rat) / (pD l : Rat))).1.1, (encR ((pP l : Rat) / (pD l : Rat))).1.2.1, (encR ((pP l : Rat) / (pD l : Rat))).2.1.1, (encR ((pP l : Rat) / (pD l : Rat))).2.1.2.1, ()),
      ((encR ((pQ l : Rat) / (pD l : Rat))).1.1, (encR ((pQ l : Rat) / (pD l : Rat))).1.2.1, (encR ((pQ l : Rat) / (pD l : Rat))).2.1.1, (encR ((pQ l : Rat) / (pD l : Rat))).2.1.2.1, ()), ())) (n := l.length) ?_ ?_ (lt_rounds (by omega))
  · intro i hi
    have hl := hb i hi
    have pd : (0 : Rat) < (pD l : Rat) := rat_pos d0
    have nd := rat_ne (show pD l ≠ 0 by omega)
    have w1 : wrap64 ((l.length : Int) - i) = (l.length : Int) - i := wrap64_id (by omega) (by omega)
    have zp : rsz ((pP l : Rat) / (pD l : Rat)) 4 := rsz_div (rsz_int (by omega)) (rsz_int (by omega)) pd
    have zq : rsz ((pQ l : Rat) / (pD l : Rat)) 4 := rsz_div (rsz_int (by omega)) (rsz_int (by omega)) pd
    have zk : rsz (((l.length : Int) - i : Int) : Rat) 2 := rsz_int (by omega)
    have zl : rsz (((l.getD i 0 : Int)) : Rat) 2 := rsz_int (by omega)
    have e1 := f48_eq (l.getD i 0) (by omega)
    have e2 := f48_eq ((l.length : Int) - i) (by omega)
    have e3 : f52 (XR ((pQ l : Rat) / (pD l : Rat)), XR (((l.length : Int) - i : Int) : Rat), ()) = some (encR ((pQ l : Rat) / (pD l : Rat) * (((l.length : Int) - i : Int) : Rat)), ()) := f52_eq _ _ (rsz_mono zq (by omega)) (rsz_mono zk (by omega))
    have e4 : f51 (XR ((pP l : Rat) / (pD l : Rat)), XR ((pQ l : Rat) / (pD l : Rat) * (((l.length : Int) - i : Int) : Rat)), ()) = some (encR ((pP l : Rat) / (pD l : Rat) + (pQ l : Rat) / (pD l : Rat) * (((l.length : Int) - i : Int) : Rat)), ()) := f51_eq _ _ (rsz_mono zp (by omega)) (rsz_mono (rsz_mul zq zk) (by omega))
    have hv : ((l.getD i 0 : Int) : Rat) + ((pP l : Rat) / (pD l : Rat) + (pQ l : Rat) / (pD l : Rat) * (((l.length : Int) - i : Int) : Rat)) = ((l.getD i 0 * pD l + ch l i : Int) : Rat) / (((E : Nat) : Int) : Rat) := by
      rw [hE, ch, Rat.intCast_add, Rat.intCast_mul, Rat.intCast_add, Rat.intCast_mul]
      generalize (((l.length : Int) - i : Int) : Rat) = k at *
      generalize ((l.getD i 0 : Int) : Rat) = a at *
      generalize (pP l : Rat) = p at *
      generalize (pQ l : Rat) = q at *
      generalize (pD l : Rat) = d at *
      clear e1 e2 e3 e4
      grind
    have e5 : f51 (XR ((l.getD i 0 : Int) : Rat), XR ((pP l : Rat) / (pD l : Rat) + (pQ l : Rat) / (pD l : Rat) * (((l.length : Int) - i : Int) : Rat)), ()) = some (encR (((l.getD i 0 * pD l + ch l i : Int) : Rat) / (((E : Nat) : Int) : Rat)), ()) := by
      rw [← hv]; exact f51_eq _ _ (rsz_mono zl (by omega)) (rsz_mono (rsz_add zp (rsz_mul zq zk)) (by omega))
    have e6 : wrap64 ((i : Int) + 1) = ((i + 1 : Nat) : Int) := wrap64_nat (by omega)
    simp only [s45_0, t45_0, Tr.val_test, Tr.val_fin, leF_eq, Int.toNat_natCast, w1, g48, e1, e2, g52, e3, g51, e4, e5, e6, bL_succ, frs_snoc, Option.isSome_some, Option.getD_some, if_true]
    rw [if_pos (by simp; omega), if_pos (by simp; omega), if_pos (by simp [frs_len, bL_len]; omega)]
  · simp [s45_0, t45_0, leF_eq]

theorem f45_eq {l : List Int} (hb : Bd 1000 l) (h2 : 2 ≤ l.length) (h : l.length ≤ 24) : f45 (l, ()) = some ((eD l, cL l, ()), (pD l, pP l, pQ l, ()), ()) := by
  obtain ⟨d0, d1, p1, q1⟩ := p_bounds hb h2 h
  obtain ⟨E, hE⟩ : ∃ E : Nat, (E : Int) = pD l := ⟨(pD l).toNat, by omega⟩
  have e0 := f109_eq hb h2 h
  have e1 := l45 hb h2 h hE _ _ rfl rfl
  have e2 := f110_eq (E := E) (by omega) (by omega) (bL l l.length) (by rw [bL_len]; omega) (fun i hi => by
    rw [bL_len] at hi
    have := (b_bound hb h2 h hi).2
    rw [bL_get l hi]; omega)
  have e3 := f110_eq (E := E) (by omega) (by omega) [pP l, pQ l] (by simp) (fun i hi => by
    match i, hi with
    | 0, _ => show (pP l).natAbs < _; omega
    | 1, _ => show (pQ l).natAbs < _; omega)
  have hlow : lwG (E : Int) [pP l, pQ l] = 1 := by
    rw [hE]
    have hpp : pD l = (pr0 l).tdiv (lwG (pr0 l) [prP l, prQ l]) := rfl
    obtain ⟨_, _, ⟨r0, _⟩, _, _⟩ := pr_bounds hb h2 h
    rw [hpp]
    exact lowest_again (m := [pP l, pQ l]) r0 rfl fun i hi => by
      match i, hi with
      | 0, _ => rfl
      | 1, _ => rfl
  have hw : lwL (E : Int) [pP l, pQ l] 2 = [pP l, pQ l] := by
    simp only [lwL, hlow, List.range_succ, List.range_zero]
    simp
  have e3' : f110 ([XR ((pP l : Rat) / (pD l : Rat)), XR ((pQ l : Rat) / (pD l : Rat))], ()) = some (pD l, [pP l, pQ l], ()) := by
    have : frs E [pP l, pQ l] = [XR ((pP l : Rat) / (pD l : Rat)), XR ((pQ l : Rat) / (pD l : Rat))] := by simp only [frs, List.map_cons, List.map_nil, hE]
    rw [← this, e3, hlow, show ([pP l, pQ l] : List Int).length = 2 from rfl, hw, hE]
    simp
  rw [bL_len] at e2
  have k0 : (true && decide ((0 : Int) < ((2 : Nat) : Int))) = true := rfl
  have k1 : (true && decide ((1 : Int) < ((2 : Nat) : Int))) = true := rfl
  rw [hE] at e2
  simp only [f45, t45, g109, e0, b45_0, e1, isBrk, outB, g110, e2, e3', List.length_cons, List.length_nil, Nat.zero_add, Nat.reduceAdd, k0, k1, List.getD_cons_zero, List.getD_cons_succ, Option.isSome_some, Option.getD_some, Tr.val_test, Tr.val_fin, if_true]
  rfl

theorem mx_size (a b : Int) (ha : a.natAbs ≤ 9223372036854775808) (hb : b.natAbs ≤ 9223372036854775808) : (mx a b).natAbs ≤ 9223372036854775808 := by unfold mx; split <;> assumption

theorem f145_any (d : Int) (l : List Int) (hd : d.natAbs ≤ 9223372036854775808) (h : l.length ≤ 1000000) (hb : ∀ i, i < l.length → (l.getD i 0).natAbs ≤ 9223372036854775808) : ∃ b : Bool, f145 (d, l, ()) = some (b, ()) := by
  have e1 := f144_eq l (by omega) hb
  have hg : (mx (dv l l.length) (IntKind.wrap .i64 (0 - dv l l.length))).natAbs ≤ 9223372036854775808 := by
    refine mx_size _ _ ?_ ?_
    · rw [dv_gn]; exact gn_le hb _ (Nat.le_refl _)
    · rw [← wrap64_eq]; have := wrap64_bounds (0 - dv l l.length); omega
  generalize mx (dv l l.length) (IntKind.wrap .i64 (0 - dv l l.length)) = g at *
  have e2 := f144_eq [d, g] (by simp) fun i hi => by
    match i, hi with
    | 0, _ => exact hd
    | 1, _ => exact hg
  generalize mx (dv [d, g] ([d, g] : List Int).length) (IntKind.wrap .i64 (0 - dv [d, g] ([d, g] : List Int).length)) = k at e2
  by_cases h0 : 0 < d
  · refine ⟨decide (k = 1), ?_⟩
    simp only [f145, t145, g144, e1, e2, eqF_eq, Option.isSome_some, Option.getD_some, Tr.val_test, Tr.val_fin, if_true, leF_eq]
    rw [if_pos (by simp; omega)]
  · refine ⟨false, ?_⟩
    simp only [f145, t145, Tr.val_test, Tr.val_fin, leF_eq]
    rw [if_neg (by simp; omega)]

theorem inAll_one (lo hi x : Int) : inAll lo hi [x] = true ↔ lo ≤ x ∧ x ≤ hi := by
  rw [inAll_iff]
  exact ⟨fun h => h 0 (by simp), fun h i hi => by
    match i, hi with
    | 0, _ => exact h⟩

theorem f104_any (e : Int) (c : List Int) (n : Int) (he : e.natAbs ≤ 9223372036854775808) (h : c.length ≤ 1000000) (hb : ∀ i, i < c.length → (c.getD i 0).natAbs ≤ 9223372036854775808) : f104 ((e, c, ()), n, ()) = some (ptE e c n, ()) := by
  by_cases hin : inAll 1 1000000000 [e] = true ∧ inAll (-1000000000000) 1000000000000 c = true
  · have h1 := (inAll_one _ _ _).1 hin.1
    have h2 := (inAll_iff _ _ _).1 hin.2
    exact f104_eq e c n (by omega) h fun i hi => by have := h2 i hi; omega
  · obtain ⟨b, hb'⟩ := f145_any e c he h hb
    have hpt : ptE e c n = firstNZ [if (!inAll 1 1000000000 [e]) = true then (2 : Int) else 0, if (!decide ((c.length : Int) = n)) = true then (10 : Int) else 0,
        if (!inAll (-1000000000000) 1000000000000 c) = true then (2 : Int) else 0, if (!b) = true then (3 : Int) else 0] := by
      unfold ptE
      cases h1 : inAll 1 1000000000 [e] with
      | false => simp [firstNZ]
      | true =>
        cases h2 : inAll (-1000000000000) 1000000000000 c with
        | false => simp only [firstNZ]; simp
        | true => exact absurd ⟨h1, h2⟩ hin
    simp only [f104, t104, g94, f94_eq 1 1000000000 [e] (by simp), g86, f86_eq, g141, f141_eq 1000000000000 c (by omega), w1e12, g145, hb', Option.isSome_some, Option.getD_some, Tr.val_test, Tr.val_fin, if_true, eqF_eq]
    rw [if_pos (by rw [f85_eq _ (by simp)]; rfl)]
    simp only [g85, f85_eq _ (show ([if (!inAll 1 1000000000 [e]) = true then (2 : Int) else 0, if (!decide ((c.length : Int) = n)) = true then (10 : Int) else 0,
      if (!inAll (-1000000000000) 1000000000000 c) = true then (2 : Int) else 0, if (!b) = true then (3 : Int) else 0]).length ≤ 1000000000 by simp), Option.getD_some, hpt]

theorem f105_any (d p q : Int) (hd : d.natAbs ≤ 9223372036854775808) (hp : p.natAbs ≤ 9223372036854775808) (hq : q.natAbs ≤ 9223372036854775808) : f105 ((d, p, q, ()), ()) = some (prE d p q, ()) := by
  by_cases hin : inAll 1 1000000000 [d] = true ∧ inAll (-1000000000000) 1000000000000 [p, q] = true
  · have h1 := (inAll_one _ _ _).1 hin.1
    have h2 := (inAll_iff _ _ _).1 hin.2
    have h3 := h2 0 (by simp)
    have h4 := h2 1 (by simp)
    simp only [List.getD_cons_zero, List.getD_cons_succ] at h3 h4
    exact f105_eq d p q (by omega) (by omega) (by omega)
  · obtain ⟨b, hb'⟩ := f145_any d [p, q] hd (by simp) fun i hi => by
      match i, hi with
      | 0, _ => exact hp
      | 1, _ => exact hq
    have e85 : ∀ a b : Int, f85 ([a, b], ()) = some (firstNZ [a, b], ()) := fun a b => f85_eq _ (by simp)
    simp only [f105, t105, g94, f94_eq 1 1000000000 [d] (by simp), g86, f86_eq, g141, f141_eq 1000000000000 [p, q] (by simp), w1e12, g145, hb', Option.isSome_some, Option.getD_some, Tr.val_test, Tr.val_fin, if_true, g85, e85, prE]
    cases h1 : inAll 1 1000000000 [d] with
    | false => simp [firstNZ]
    | true =>
      cases h2 : inAll (-1000000000000) 1000000000000 [p, q] with
      | false => simp [firstNZ]
      | true => exact absurd ⟨h1, h2⟩ hin

theorem ptE_zero {e : Int} {c : List Int} {n : Int} (h : ptE e c n = 0) : 1 ≤ e ∧ e ≤ 1000000000 ∧ (c.length : Int) = n ∧ (∀ i, i < c.length → -1000000000000 ≤ c.getD i 0 ∧ c.getD i 0 ≤ 1000000000000) ∧ lwG e c = 1 := by
  unfold ptE at h
  cases h1 : inAll 1 1000000000 [e] with
  | false => rw [h1] at h; simp [firstNZ] at h
  | true =>
    by_cases h2 : (c.length : Int) = n
    · cases h3 : inAll (-1000000000000) 1000000000000 c with
      | false => rw [h1, h3] at h; simp [firstNZ, h2] at h
      | true =>
        have q1 := (inAll_one _ _ _).1 h1
        rw [h1, h3] at h
        simp only [h2, firstNZ, decide_true, Bool.not_true, Bool.false_eq_true, if_false, if_true] at h
        refine ⟨q1.1, q1.2, h2, (inAll_iff _ _ _).1 h3, ?_⟩
        by_cases h4 : lwG e c = 1
        · exact h4
        · simp [h4] at h
    · rw [h1] at h; simp [firstNZ, h2] at h

theorem prE_zero {d p q : Int} (h : prE d p q = 0) : 1 ≤ d ∧ d ≤ 1000000000 ∧ (-1000000000000 ≤ p ∧ p ≤ 1000000000000) ∧ (-1000000000000 ≤ q ∧ q ≤ 1000000000000) ∧ lwG d [p, q] = 1 := by
  unfold prE at h
  cases h1 : inAll 1 1000000000 [d] with
  | false => rw [h1] at h; simp [firstNZ] at h
  | true =>
    cases h3 : inAll (-1000000000000) 1000000000000 [p, q] with
    | false => rw [h1, h3] at h; simp [firstNZ] at h
    | true =>
      have q1 := (inAll_one _ _ _).1 h1
      have q2 := (inAll_iff _ _ _).1 h3
      have k3 := q2 0 (by simp)
      have k4 := q2 1 (by simp)
      simp only [List.getD_cons_zero, List.getD_cons_succ] at k3 k4
      rw [h1, h3] at h
      refine ⟨q1.1, q1.2, k3, k4, ?_⟩
      by_cases h4 : lwG d [p, q] = 1
      · exact h4
      · simp [firstNZ, h4] at h

def badR (l : List Int) (e : Int) (c : List Int) (d p q : Int) (t : Nat) : Bool := !decide ((c.getD t 0 - l.getD t 0 * e) * d = (p + q * ((l.length : Int) - t)) * e)

/-- What checking a rest returns for a record without errors. -/
def rc (l : List Int) (e : Int) (c : List Int) (d p q : Int) : Int × Int :=
  if ptE e c l.length ≠ 0 then (0, ptE e c l.length)
  else if prE d p q ≠ 0 then (0, prE d p q)
  else if wrap64 (accE c c.length) ≠ 0 then (0, 21)
  else if wrap64 (accE2 c c.length) ≠ 0 then (1, 21)
  else match first (badR l e c d p q) l.length 0 with
    | some k => ((k : Int), 19)
    | none => (0, 0)

theorem low_eq_iff {a b d e : Int} (hd : 0 < d) (he : 0 < e) : ((low a e).1 == (low b d).1 && ((low a e).2.1 == (low b d).2.1 && true)) = decide (a * d = b * e) := by
  by_cases h : a * d = b * e
  · rw [low_cross_eq hd he h, decide_eq_true h]; simp
  · rw [decide_eq_false h]
    cases hc : ((low a e).1 == (low b d).1 && ((low a e).2.1 == (low b d).2.1 && true)) with
    | false => rfl
    | true =>
      exfalso
      simp only [Bool.and_true, Bool.and_eq_true, beq_iff_eq] at hc
      obtain ⟨d, rfl⟩ : ∃ n : Nat, d = n := ⟨d.toNat, by omega⟩
      obtain ⟨e, rfl⟩ : ∃ n : Nat, e = n := ⟨e.toNat, by omega⟩
      rw [low_norm a e (by omega), low_norm b d (by omega)] at hc
      refine h ((Rat.normalize_eq_iff (by omega) (by omega)).1 ?_)
      rw [Rat.eq_iff_mul_eq_mul]
      obtain ⟨c1, c2⟩ := hc
      simp only at c1 c2
      rw [c1, c2]

theorem l106_gen {x : Int} {l : List Int} (hb : Bd 1000 l) (h : l.length ≤ 24) {e : Int} {c : List Int} {d p q : Int} (he : 1 ≤ e ∧ e ≤ 1000000000) (hl : (c.length : Int) = l.length) (hc : ∀ i, i < c.length → -1000000000000 ≤ c.getD i 0 ∧ c.getD i 0 ≤ 1000000000000)
    (hd : 1 ≤ d ∧ d ≤ 1000000000) (hp : -1000000000000 ≤ p ∧ p ≤ 1000000000000) (hq : -1000000000000 ≤ q ∧ q ≤ 1000000000000) :
    l106_0_1 ((l, (l.length : Int), (0 : Int), ()), (e, c, ()), (d, p, q, ()), (x, l, ()), ()) = match first (badR l e c d p q) l.length 0 with
      | some k => some (.inr (((k : Int), (19 : Int), ()), (e, c, ()), (d, p, q, ()), (x, l, ()), ()))
      | none => some (.inl ((), (e, c, ()), (d, p, q, ()), (x, l, ()), ())) := by
  refine itr_search (fun i => ((l, (l.length : Int), (i : Int), ()), (e, c, ()), (d, p, q, ()), (x, l, ()), ())) (badR l e c d p q) (fun k => (((k : Int), (19 : Int), ()), (e, c, ()), (d, p, q, ()), (x, l, ()), ())) (n := l.length) ?_ ?_ (lt_rounds (by omega))
  · intro i hi
    have h1 := hb i hi
    have h2 := hc i (by omega)
    have m := mul_bdd (A := 1000) (x := l.getD i 0) (B := 1000000000) (y := e) (by omega) (by omega) (by omega) (by omega)
    have m2 := mul_bdd (A := 1000000000000) (x := q) (B := 24) (y := (l.length : Int) - i) (by omega) (by omega) (by omega) (by omega)
    have w : wrap64 (c.getD i 0 - wrap64 (l.getD i 0 * e)) = c.getD i 0 - l.getD i 0 * e := by
      rw [wrap64_id (n := l.getD i 0 * e) (by omega) (by omega), wrap64_id (by omega) (by omega)]
    have w2 : wrap64 (p + wrap64 (q * wrap64 ((l.length : Int) - i))) = p + q * ((l.length : Int) - i) := by
      rw [wrap64_id (n := (l.length : Int) - i) (by omega) (by omega), wrap64_id (n := q * ((l.length : Int) - i)) (by omega) (by omega), wrap64_id (by omega) (by omega)]
    have f1 := f108_eq (c.getD i 0 - l.getD i 0 * e) e (by omega) (by omega) (by omega)
    have f2 := f102_eq d p q (wrap64 ((l.length : Int) - i))
    rw [w2] at f2
    have f3 := f108_eq (p + q * ((l.length : Int) - i)) d (by omega) (by omega) (by omega)
    have hlow := low_eq_iff (a := c.getD i 0 - l.getD i 0 * e) (b := p + q * ((l.length : Int) - i)) (d := d) (e := e) (by omega) (by omega)
    have e4 : wrap64 ((i : Int) + 1) = ((i + 1 : Nat) : Int) := wrap64_nat (by omega)
    simp only [s106_0_1, t106_0_1, Tr.val_test, Tr.val_fin, leF_eq, eqF_eq, Int.toNat_natCast, w, g108, f1, g102, f2, f3, hlow, g86, f86_eq, Option.isSome_some, Option.getD_some, if_true, e4]
    rw [if_pos (by simp; omega), if_pos (by simp; omega), if_pos (by simp; omega)]
    unfold badR
    cases decide ((c.getD i 0 - l.getD i 0 * e) * d = (p + q * ((l.length : Int) - i)) * e) <;> rfl
  · simp [s106_0_1, t106_0_1, leF_eq]

theorem f42_gen {x : Int} {l : List Int} (hc : (chk x l).2 = 0) {e : Int} {c : List Int} {d p q : Int} (he : e.natAbs ≤ 9223372036854775808) (hl : c.length ≤ 1000000) (hcb : ∀ i, i < c.length → (c.getD i 0).natAbs ≤ 9223372036854775808)
    (hd : d.natAbs ≤ 9223372036854775808) (hp : p.natAbs ≤ 9223372036854775808) (hq : q.natAbs ≤ 9223372036854775808) :
    f42 ((x, l, ()), (e, c, ()), (d, p, q, ()), ()) = some ((rc l e c d p q).1, (rc l e c d p q).2, ()) := by
  obtain ⟨h2, h, hb, _, _⟩ := chk_ok hc
  have k1 := f104_any e c l.length he hl hcb
  have k2 := f105_any d p q hd hp hq
  have k3 := f90_eq c (by omega)
  unfold rc
  by_cases z1 : ptE e c l.length = 0
  · by_cases z2 : prE d p q = 0
    · obtain ⟨e1, e2, e3, e4, _⟩ := ptE_zero z1
      obtain ⟨d1, d2, p1, q1, _⟩ := prE_zero z2
      have k4 := l106_gen (x := x) hb h ⟨e1, e2⟩ e3 e4 ⟨d1, d2⟩ p1 q1
      rw [z1] at k1
      rw [z2] at k2
      have z : firstNZ [0, 0, 0] = 0 := rfl
      rw [if_neg (by simp [z1]), if_neg (by simp [z2])]
      simp only [f42, t42, g88, f88_eq x l (by omega), hc, g104, k1, g105, k2, g85, f85_3 0 0 0, z, g90, k3, Option.isSome_some, Option.getD_some, Tr.val_test, Tr.val_fin, eqF_eq, if_true]
      by_cases v1 : wrap64 (accE c c.length) = 0
      · by_cases v2 : wrap64 (accE2 c c.length) = 0
        · cases hf : first (badR l e c d p q) l.length 0 with
          | none =>
            rw [hf] at k4
            simp [k4, isRet, v1, v2]
          | some k =>
            rw [hf] at k4
            simp [k4, isRet, r106_0_1, outR, v1, v2]
        · simp [v1, v2]
      · simp [v1]
    · rw [z1] at k1
      have z : firstNZ [0, 0, prE d p q] = prE d p q := by simp [firstNZ, z2]
      rw [if_neg (by simp [z1]), if_pos (by simp [z2])]
      simp only [f42, t42, g88, f88_eq x l (by omega), hc, g104, k1, g105, k2, g85, f85_3 0 0 (prE d p q), z, Option.isSome_some, Option.getD_some, Tr.val_test, Tr.val_fin, eqF_eq, if_true]
      rw [if_pos (by simp [z2])]
  · have z : firstNZ [0, ptE e c l.length, prE d p q] = ptE e c l.length := by simp [firstNZ, z1]
    rw [if_pos (by simp [z1])]
    simp only [f42, t42, g88, f88_eq x l (by omega), hc, g104, k1, g105, k2, g85, f85_3 0 (ptE e c l.length) (prE d p q), z, Option.isSome_some, Option.getD_some, Tr.val_test, Tr.val_fin, eqF_eq, if_true]
    rw [if_pos (by simp [z1])]

theorem f111_eq (x : Int) : f111 (x, ()) = some (decide (-1000000000000 ≤ x) && decide (x ≤ 1000000000000), ()) := by
  simp only [f111, t111, g47, f47_eq, Option.isSome_some, Option.getD_some, Tr.val_test, Tr.val_fin, if_true]

theorem f112_eq (x : Int) (l : List Int) (hx : x.natAbs ≤ 9223372036854775807) (h : l.length ≤ 1000000) (hb : ∀ i, i < l.length → (l.getD i 0).natAbs ≤ 9223372036854775807) : f112 (x, l, ()) = some ((lwG x l : Int), ()) := by
  have hle : ∀ i, i ≤ l.length → Nat.gcd x.natAbs (gn l i) ≤ 9223372036854775807 := fun i hi => by
    have := gn_le hb i hi
    by_cases e : x.natAbs = 0
    · rw [e, Nat.gcd_zero_left]; exact this
    · exact Nat.le_trans (Nat.gcd_le_left _ (by omega)) hx
  have hl : l112_0 ((l, (x.natAbs : Int), (0 : Int), ()), ()) = some (.inl (((Nat.gcd x.natAbs (gn l l.length) : Int), ()), ())) := by
    have h0 : (x.natAbs : Int) = ((Nat.gcd x.natAbs (gn l 0) : Nat) : Int) := by simp [gn]
    rw [h0]
    refine itr_brk (fun i => ((l, ((Nat.gcd x.natAbs (gn l i) : Nat) : Int), (i : Int), ()), ())) (n := l.length) ?_ ?_ (lt_rounds (by omega))
    · intro i hi
      have e1 := f142_eq ((Nat.gcd x.natAbs (gn l i) : Nat) : Int) (l.getD i 0) (by have := hle i (by omega); omega) (hb i hi)
      have e2 : (Int.gcd ((Nat.gcd x.natAbs (gn l i) : Nat) : Int) (l.getD i 0) : Int) = ((Nat.gcd x.natAbs (gn l (i + 1)) : Nat) : Int) := by
        congr 1
        show Nat.gcd (Int.natAbs _) (Int.natAbs _) = _
        rw [Int.natAbs_natCast, gn, Nat.gcd_assoc]
      rw [e2] at e1
      have e4 : wrap64 ((i : Int) + 1) = ((i + 1 : Nat) : Int) := wrap64_nat (by omega)
      simp only [s112_0, t112_0, Tr.val_test, Tr.val_fin, leF_eq, Int.toNat_natCast, g142, e1, e4, Option.isSome_some, Option.getD_some, if_true]
      rw [if_pos (by simp; omega), if_pos (by simp; omega)]
    · simp [s112_0, t112_0, leF_eq]
  simp only [f112, t112, g131, f131_abs x hx, b112_0, hl, isBrk, outB, Option.isSome_some, Option.getD_some, Tr.val_test, Tr.val_fin, if_true]
  rfl

def badP (c : List Int) (i : Nat) : Bool := !(decide (-1000000000000 ≤ c.getD i 0) && decide (c.getD i 0 ≤ 1000000000000))

theorem l46a {l : List Int} {e : Int} {c : List Int} {d p q : Int} (h : l.length ≤ 1000000) (hl : c.length = l.length) :
    l46_0 ((l, (0 : Int), ()), (e, c, ()), (d, p, q, ()), ()) = match first (badP c) l.length 0 with
      | some k => some (.inr (((0 : Int), (2 : Int), ()), (e, c, ()), (d, p, q, ()), ()))
      | none => some (.inl ((l, ()), (e, c, ()), (d, p, q, ()), ())) := by
  refine itr_search (fun i => ((l, (i : Int), ()), (e, c, ()), (d, p, q, ()), ())) (badP c) (fun _ => (((0 : Int), (2 : Int), ()), (e, c, ()), (d, p, q, ()), ())) (n := l.length) ?_ ?_ (lt_rounds (by omega))
  · intro i hi
    have e4 : wrap64 ((i : Int) + 1) = ((i + 1 : Nat) : Int) := wrap64_nat (by omega)
    simp only [s46_0, t46_0, Tr.val_test, Tr.val_fin, leF_eq, Int.toNat_natCast, g111, f111_eq (c.getD i 0), e4, Option.isSome_some, Option.getD_some, if_true]
    rw [if_pos (by simp; omega), if_pos (by simp; omega)]
    rfl
  · simp [s46_0, t46_0, leF_eq]

theorem rat_le_iff {r s : Rat} : (r.num * (s.den : Int) - s.num * (r.den : Int)).sign = 0 ↔ r = s := by
  rw [Int.sign_eq_zero_iff_zero, Rat.eq_iff_mul_eq_mul]
  omega

theorem l46b {l : List Int} (hb : Bd 1000 l) (h : l.length ≤ 24) {e : Int} {c : List Int} {d p q : Int} (he : 1 ≤ e ∧ e ≤ 1000000000) (hl : (c.length : Int) = l.length) (hc : ∀ i, i < c.length → -1000000000000 ≤ c.getD i 0 ∧ c.getD i 0 ≤ 1000000000000)
    (hd : 1 ≤ d ∧ d ≤ 1000000000) (hp : -1000000000000 ≤ p ∧ p ≤ 1000000000000) (hq : -1000000000000 ≤ q ∧ q ≤ 1000000000000) :
    l46_2 ((l, (0 : Int), ()), (e, c, ()), (d, p, q, ()), ()) = match first (badR l e c d p q) l.length 0 with
      | some k => some (.inr (((k : Int), (19 : Int), ()), (e, c, ()), (d, p, q, ()), ()))
      | none => some (.inl ((), (e, c, ()), (d, p, q, ()), ())) := by
  obtain ⟨en, rfl⟩ : ∃ n : Nat, e = n := ⟨e.toNat, by omega⟩
  obtain ⟨dn, rfl⟩ : ∃ n : Nat, d = n := ⟨d.toNat, by omega⟩
  refine itr_search (fun i => ((l, (i : Int), ()), ((en : Int), c, ()), ((dn : Int), p, q, ()), ())) (badR l en c dn p q) (fun k => (((k : Int), (19 : Int), ()), ((en : Int), c, ()), ((dn : Int), p, q, ()), ())) (n := l.length) ?_ ?_ (lt_rounds (by omega))
  · intro i hi
    have h1 := hb i hi
    have h2 := hc i (by omega)
    have pe : (0 : Rat) < ((en : Int) : Rat) := rat_pos (by omega)
    have pd : (0 : Rat) < ((dn : Int) : Rat) := rat_pos (by omega)
    have ne := rat_ne (show (en : Int) ≠ 0 by omega)
    have nd := rat_ne (show (dn : Int) ≠ 0 by omega)
    have w1 : wrap64 ((l.length : Int) - i) = (l.length : Int) - i := wrap64_id (by omega) (by omega)
    have zc : rsz ((c.getD i 0 : Int) : Rat) 2 := rsz_int (by omega)
    have zce : rsz (((c.getD i 0 : Int) : Rat) / ((en : Int) : Rat)) 4 := rsz_div (rsz_int (by omega)) (rsz_int (by omega)) pe
    have zp : rsz ((p : Rat) / ((dn : Int) : Rat)) 4 := rsz_div (rsz_int (by omega)) (rsz_int (by omega)) pd
    have zq : rsz ((q : Rat) / ((dn : Int) : Rat)) 4 := rsz_div (rsz_int (by omega)) (rsz_int (by omega)) pd
    have zk : rsz (((l.length : Int) - i : Int) : Rat) 2 := rsz_int (by omega)
    have zl : rsz ((l.getD i 0 : Int) : Rat) 2 := rsz_int (by omega)
    have e1 : f50 (c.getD i 0, (en : Int), ()) = some (encR (((c.getD i 0 : Int) : Rat) / ((en : Int) : Rat)), ()) := by
      rw [f50_eq (c.getD i 0) en (by omega) (by omega) (by omega), norm_div, Rat.intCast_natCast]
    have e2 := f48_eq (l.getD i 0) (by omega)
    have e3 : f49 (XR (((c.getD i 0 : Int) : Rat) / ((en : Int) : Rat)), XR ((l.getD i 0 : Int) : Rat), ()) = some (encR (((c.getD i 0 : Int) : Rat) / ((en : Int) : Rat) - ((l.getD i 0 : Int) : Rat)), ()) := f49_eq _ _ (rsz_mono zce (by omega)) (rsz_mono zl (by omega))
    have e4 : f50 (p, (dn : Int), ()) = some (encR ((p : Rat) / ((dn : Int) : Rat)), ()) := by
      rw [f50_eq p dn (by omega) (by omega) (by omega), norm_div, Rat.intCast_natCast]
    have e5 : f50 (q, (dn : Int), ()) = some (encR ((q : Rat) / ((dn : Int) : Rat)), ()) := by
      rw [f50_eq q dn (by omega) (by omega) (by omega), norm_div, Rat.intCast_natCast]
    have e6 := f48_eq ((l.length : Int) - i) (by omega)
    have e7 : f52 (XR ((q : Rat) / ((dn : Int) : Rat)), XR (((l.length : Int) - i : Int) : Rat), ()) = some (encR ((q : Rat) / ((dn : Int) : Rat) * (((l.length : Int) - i : Int) : Rat)), ()) := f52_eq _ _ (rsz_mono zq (by omega)) (rsz_mono zk (by omega))
    have e8 : f51 (XR ((p : Rat) / ((dn : Int) : Rat)), XR ((q : Rat) / ((dn : Int) : Rat) * (((l.length : Int) - i : Int) : Rat)), ()) = some (encR ((p : Rat) / ((dn : Int) : Rat) + (q : Rat) / ((dn : Int) : Rat) * (((l.length : Int) - i : Int) : Rat)), ()) := f51_eq _ _ (rsz_mono zp (by omega)) (rsz_mono (rsz_mul zq zk) (by omega))
    have e9 : f55 (XR (((c.getD i 0 : Int) : Rat) / ((en : Int) : Rat) - ((l.getD i 0 : Int) : Rat)), XR ((p : Rat) / ((dn : Int) : Rat) + (q : Rat) / ((dn : Int) : Rat) * (((l.length : Int) - i : Int) : Rat)), ()) = _ := f55_eq _ _ (rsz_mono (rsz_sub zce zl) (by omega)) (rsz_mono (rsz_add zp (rsz_mul zq zk)) (by omega))
    have hiff : ((((c.getD i 0 : Int) : Rat) / ((en : Int) : Rat) - ((l.getD i 0 : Int) : Rat)).num * (((p : Rat) / ((dn : Int) : Rat) + (q : Rat) / ((dn : Int) : Rat) * (((l.length : Int) - i : Int) : Rat)).den : Int) - ((p : Rat) / ((dn : Int) : Rat) + (q : Rat) / ((dn : Int) : Rat) * (((l.length : Int) - i : Int) : Rat)).num * ((((c.getD i 0 : Int) : Rat) / ((en : Int) : Rat) - ((l.getD i 0 : Int) : Rat)).den : Int)).sign = 0 ↔ (c.getD i 0 - l.getD i 0 * en) * dn = (p + q * ((l.length : Int) - i)) * en := by
      rw [rat_le_iff]
      have hcast : ((c.getD i 0 - l.getD i 0 * en) * dn = (p + q * ((l.length : Int) - i)) * en) ↔ ((((c.getD i 0 - l.getD i 0 * en) * dn : Int) : Rat) = (((p + q * ((l.length : Int) - i)) * en : Int) : Rat)) := by rw [Rat.intCast_inj]
      rw [hcast]
      simp only [Rat.intCast_mul, Rat.intCast_add, Rat.intCast_sub (c.getD i 0)]
      clear e1 e2 e3 e4 e5 e6 e7 e8 e9 hcast zc zce zp zq zk zl pe pd hc hb h1 h2 w1
      generalize (((l.length : Int) - i : Int) : Rat) = k at *
      generalize ((l.getD i 0 : Int) : Rat) = a at *
      generalize ((c.getD i 0 : Int) : Rat) = b at *
      generalize (p : Rat) = p at *
      generalize (q : Rat) = q at *
      generalize ((en : Int) : Rat) = e at *
      generalize ((dn : Int) : Rat) = d at *
      constructor <;> intro hh <;> grind
    generalize ((((c.getD i 0 : Int) : Rat) / ((en : Int) : Rat) - ((l.getD i 0 : Int) : Rat)).num * (((p : Rat) / ((dn : Int) : Rat) + (q : Rat) / ((dn : Int) : Rat) * (((l.length : Int) - i : Int) : Rat)).den : Int) - ((p : Rat) / ((dn : Int) : Rat) + (q : Rat) / ((dn : Int) : Rat) * (((l.length : Int) - i : Int) : Rat)).num * ((((c.getD i 0 : Int) : Rat) / ((en : Int) : Rat) - ((l.getD i 0 : Int) : Rat)).den : Int)).sign = sg at *
    have e10 : wrap64 ((i : Int) + 1) = ((i + 1 : Nat) : Int) := wrap64_nat (by omega)
    simp only [s46_2, t46_2, Tr.val_test, Tr.val_fin, leF_eq, eqF_eq, Int.toNat_natCast, w1, g50, e1, e4, e5, g48, e2, e6, g49, e3, g52, e7, g51, e8, g55, e9, e10, Option.isSome_some, Option.getD_some, if_true]
    rw [if_pos (by simp; omega), if_pos (by simp; omega), if_pos (by simp; omega)]
    have hd : decide (sg = 0) = decide ((c.getD i 0 - l.getD i 0 * en) * dn = (p + q * ((l.length : Int) - i)) * en) := decide_eq_decide.2 hiff
    rw [hd]
    unfold badR
    cases decide ((c.getD i 0 - l.getD i 0 * en) * dn = (p + q * ((l.length : Int) - i)) * en) <;> rfl
  · simp [s46_2, t46_2, leF_eq]

theorem first_badP {c : List Int} {n : Nat} (h : c.length = n) : inAll (-1000000000000) 1000000000000 c = (first (badP c) n 0).isNone := by
  subst h; rfl

theorem f46_gen {l : List Int} (hb : Bd 1000 l) (h : l.length ≤ 24) (e : Int) (c : List Int) (d p q : Int) : f46 (l, (e, c, ()), (d, p, q, ()), ()) = some ((rc l e c d p q).1, (rc l e c d p q).2, ()) := by
  have a1 := inAll_one 1 1000000000 e
  simp only [f46, t46, g47, f47_eq, Option.isSome_some, Option.getD_some, Tr.val_test, Tr.val_fin, eqF_eq, if_true]
  unfold rc
  by_cases r1 : 1 ≤ e ∧ e ≤ 1000000000
  rotate_left
  · have q1 : inAll 1 1000000000 [e] = false := by
      cases hh : inAll 1 1000000000 [e] with
      | false => rfl
      | true => exact absurd (a1.1 hh) r1
    have q2 : ptE e c l.length = 2 := by unfold ptE; rw [q1]; simp [firstNZ]
    have q3 : (decide (1 ≤ e) && decide (e ≤ 1000000000)) = false := by
      rw [Bool.and_eq_false_iff]
      by_cases h1 : 1 ≤ e
      · exact .inr (decide_eq_false fun h2 => r1 ⟨h1, h2⟩)
      · exact .inl (decide_eq_false h1)
    rw [q2, q3]
    simp
  have q3 : (decide (1 ≤ e) && decide (e ≤ 1000000000)) = true := by rw [decide_eq_true r1.1, decide_eq_true r1.2]; rfl
  rw [q3]
  simp only [Bool.not_true, Bool.false_eq_true, if_false]
  have q1 : inAll 1 1000000000 [e] = true := a1.2 r1
  by_cases r2 : c.length = l.length
  rotate_left
  · have r2' : ¬ ((c.length : Int) = (l.length : Int)) := by omega
    have q2 : ptE e c l.length = 10 := by unfold ptE; rw [q1]; simp [firstNZ, r2']
    have q4 : decide ((c.length : Int) = (l.length : Int)) = false := decide_eq_false (by omega)
    rw [q2, q4]
    simp
  have q4 : decide ((c.length : Int) = (l.length : Int)) = true := decide_eq_true (by omega)
  rw [q4]
  simp only [Bool.not_true, Bool.false_eq_true, if_false]
  have la := l46a (l := l) (e := e) (c := c) (d := d) (p := p) (q := q) (by omega) r2
  have fb := first_badP (c := c) r2
  cases hf : first (badP c) l.length 0 with
  | some k =>
    rw [hf] at la fb
    have q2 : ptE e c l.length = 2 := by unfold ptE; rw [q1, fb]; simp [firstNZ, q4]
    rw [q2]
    simp [la, isRet, r46_0, outR]
  | none =>
    rw [hf] at la fb
    have hin : inAll (-1000000000000) 1000000000000 c = true := fb
    have hcb := (inAll_iff _ _ _).1 hin
    have hpt : ptE e c l.length = if lwG e c = 1 then 0 else 3 := by
      unfold ptE
      rw [q1, hin, q4]
      by_cases h4 : lwG e c = 1
      · simp [firstNZ, h4]; omega
      · simp [firstNZ, h4]
    have e112 := f112_eq e c (by omega) (by omega) fun i hi => by have := hcb i hi; omega
    simp only [la, isRet, b46_0, outB, g112, e112, Option.isSome_some, Option.getD_some, if_true, Bool.false_eq_true, if_false]
    by_cases r3 : lwG e c = 1
    rotate_left
    · rw [hpt, if_neg r3]
      have : decide ((lwG e c : Int) = 1) = false := decide_eq_false (by omega)
      rw [this]
      simp
    have q5 : decide ((lwG e c : Int) = 1) = true := decide_eq_true (by omega)
    rw [hpt, if_pos r3, q5]
    simp only [Bool.not_true, Bool.false_eq_true, if_false, ne_eq, not_true, g111, f111_eq p, f111_eq q, Option.isSome_some, Option.getD_some, if_true]
    have a2 := inAll_one 1 1000000000 d
    by_cases r4 : 1 ≤ d ∧ d ≤ 1000000000
    rotate_left
    · have q1 : inAll 1 1000000000 [d] = false := by
        cases hh : inAll 1 1000000000 [d] with
        | false => rfl
        | true => exact absurd (a2.1 hh) r4
      have q2 : prE d p q = 2 := by unfold prE; rw [q1]; simp [firstNZ]
      have q3 : (decide (1 ≤ d) && decide (d ≤ 1000000000)) = false := by
        rw [Bool.and_eq_false_iff]
        by_cases h1 : 1 ≤ d
        · exact .inr (decide_eq_false fun h2 => r4 ⟨h1, h2⟩)
        · exact .inl (decide_eq_false h1)
      rw [q2, q3]
      simp
    have q6 : (decide (1 ≤ d) && decide (d ≤ 1000000000)) = true := by rw [decide_eq_true r4.1, decide_eq_true r4.2]; rfl
    have q7 : inAll 1 1000000000 [d] = true := a2.2 r4
    rw [q6]
    simp only [Bool.not_true, Bool.false_eq_true, if_false]
    have pqi : inAll (-1000000000000) 1000000000000 [p, q] = ((decide (-1000000000000 ≤ p) && decide (p ≤ 1000000000000)) && (decide (-1000000000000 ≤ q) && decide (q ≤ 1000000000000))) := by
      rw [inAll_cons, inAll_cons, inAll_nil, Bool.and_true]
    cases r5 : (decide (-1000000000000 ≤ p) && decide (p ≤ 1000000000000)) with
    | false =>
      have q2 : prE d p q = 2 := by unfold prE; rw [q7, pqi, r5]; simp [firstNZ]
      rw [q2]
      simp
    | true =>
      cases r6 : (decide (-1000000000000 ≤ q) && decide (q ≤ 1000000000000)) with
      | false =>
        have q2 : prE d p q = 2 := by unfold prE; rw [q7, pqi, r5, r6]; simp [firstNZ]
        rw [q2]
        simp
      | true =>
        simp only [Bool.and_eq_true, decide_eq_true_eq] at r5 r6
        have hin2 : inAll (-1000000000000) 1000000000000 [p, q] = true := by
          rw [pqi, decide_eq_true r5.1, decide_eq_true r5.2, decide_eq_true r6.1, decide_eq_true r6.2]; rfl
        have hpr : prE d p q = if lwG d [p, q] = 1 then 0 else 3 := by
          unfold prE
          rw [q7, hin2]
          by_cases h4 : lwG d [p, q] = 1
          · simp [firstNZ, h4]; omega
          · simp [firstNZ, h4]
        have e112b := f112_eq d [p, q] (by omega) (by simp) fun i hi => by
          match i, hi with
          | 0, _ => show p.natAbs ≤ _; omega
          | 1, _ => show q.natAbs ≤ _; omega
        have lb := l46b hb h r1 (by omega) hcb r4 r5 r6
        have k3 := f26_eq c (by omega)
        simp only [e112b, Option.isSome_some, Option.getD_some, if_true, Bool.not_true, Bool.false_eq_true, if_false]
        by_cases r7 : lwG d [p, q] = 1
        rotate_left
        · rw [hpr, if_neg r7]
          have : decide ((lwG d [p, q] : Int) = 1) = false := decide_eq_false (by omega)
          rw [this]
          simp
        have q8 : decide ((lwG d [p, q] : Int) = 1) = true := decide_eq_true (by omega)
        rw [hpr, if_pos r7, q8]
        simp only [Bool.not_true, Bool.false_eq_true, if_false, not_true, g26, k3, Option.isSome_some, Option.getD_some, if_true]
        by_cases v1 : wrap64 (accE c c.length) = 0
        · by_cases v2 : wrap64 (accE2 c c.length) = 0
          · cases hf2 : first (badR l e c d p q) l.length 0 with
            | none =>
              rw [hf2] at lb
              simp [lb, isRet, v1, v2]
            | some k =>
              rw [hf2] at lb
              simp [lb, isRet, r46_2, outR, v1, v2]
          · simp [v1, v2]
        · simp [v1]

theorem f40_bad {x : Int} {l : List Int} (h : l.length ≤ 1000000000) (hc : (chk x l).2 ≠ 0) : f40 ((x, l, ()), ()) = some (((0 : Int), [], ()), (chk x l).2, ()) := by
  simp only [f40, t40, g88, f88_eq x l h, Option.isSome_some, Option.getD_some, Tr.val_test, Tr.val_fin, eqF_eq, if_true]
  rw [if_pos (by simp [hc])]

theorem f41_bad {x : Int} {l : List Int} (h : l.length ≤ 1000000000) (hc : (chk x l).2 ≠ 0) : f41 ((x, l, ()), ()) = some (((0 : Int), (0 : Int), (0 : Int), ()), (chk x l).2, ()) := by
  simp only [f41, t41, g88, f88_eq x l h, Option.isSome_some, Option.getD_some, Tr.val_test, Tr.val_fin, eqF_eq, if_true]
  rw [if_pos (by simp [hc])]

theorem f42_bad {x : Int} {l : List Int} (h : l.length ≤ 1000000000) (hc : (chk x l).2 ≠ 0) {e : Int} {c : List Int} {d p q : Int} (he : e.natAbs ≤ 9223372036854775808) (hl : c.length ≤ 1000000) (hcb : ∀ i, i < c.length → (c.getD i 0).natAbs ≤ 9223372036854775808)
    (hd : d.natAbs ≤ 9223372036854775808) (hp : p.natAbs ≤ 9223372036854775808) (hq : q.natAbs ≤ 9223372036854775808) :
    f42 ((x, l, ()), (e, c, ()), (d, p, q, ()), ()) = some ((0 : Int), (chk x l).2, ()) := by
  have k1 := f104_any e c l.length he hl hcb
  have k2 := f105_any d p q hd hp hq
  have z : firstNZ [(chk x l).2, ptE e c l.length, prE d p q] = (chk x l).2 := by simp [firstNZ, hc]
  simp only [f42, t42, g88, f88_eq x l h, g104, k1, g105, k2, g85, f85_3 (chk x l).2 (ptE e c l.length) (prE d p q), z, Option.isSome_some, Option.getD_some, Tr.val_test, Tr.val_fin, eqF_eq, if_true]
  rw [if_pos (by simp [hc])]

theorem f44_self (e : Int) (c : List Int) (h : c.length ≤ 1000000000) : f44 ((e, c, ()), (e, c, ()), ()) = some (true, ()) := by
  have e23 := f23_self c h
  simp only [f44, t44, g23, e23, Tr.val_test, Tr.val_fin, eqF_eq, Option.isSome_some, Option.getD_some, if_true, decide_true]

theorem f6_eq (x : Int) (l : List Int) {e : Int} {c : List Int} {d p q : Int} (he : e.natAbs ≤ 9223372036854775808) (hcb : ∀ i, i < c.length → (c.getD i 0).natAbs ≤ 9223372036854775808)
    (hd : d.natAbs ≤ 9223372036854775808) (hp : p.natAbs ≤ 9223372036854775808) (hq : q.natAbs ≤ 9223372036854775808) :
    f6 ((x, l, ()), (e, c, ()), (d, p, q, ()), ()) = some (true, ()) := by
  by_cases hl : l.length ≤ 26
  rotate_left
  · have u1 : decide (l.length ≤ 26) = false := decide_eq_false hl
    simp only [f6, t6, g16, f16_eq x l, u1, Option.isSome_some, Option.getD_some, Tr.val_test, Tr.val_fin, if_true, Bool.not_false]
  have u1 : decide (l.length ≤ 26) = true := decide_eq_true hl
  by_cases hcl : c.length ≤ 26
  rotate_left
  · have u2 : decide ((c.length : Int) ≤ 26) = false := decide_eq_false (by omega)
    simp only [f6, t6, g16, f16_eq x l, u1, u2, leF_eq, Option.isSome_some, Option.getD_some, Tr.val_test, Tr.val_fin, if_true, Bool.not_false, Bool.not_true, Bool.false_eq_true, if_false]
  have u2 : decide ((c.length : Int) ≤ 26) = true := decide_eq_true (by omega)
  have e18 := f18_new x l (by omega)
  have e29 := f29_eq x l (by omega)
  have u3 : c ≠ [] → Nat.beq c.length 0 = false ∧ Nat.ble (0 + c.length) 0 = false ∧ (Nat.ble ((2 * (0 + c.length) + 192) * 8) 281474976710656 && Nat.ble (0 + c.length) 281474976710656) = true ∧ Nat.beq (0 + c.length) c.length = true := fun h => by
    have h0 : c.length ≠ 0 := fun e => h (List.eq_nil_of_length_eq_zero e)
    refine ⟨?_, ?_, ?_, ?_⟩
    · cases hh : Nat.beq c.length 0 with
      | false => rfl
      | true => exact absurd (Nat.eq_of_beq_eq_true hh) h0
    · cases hh : Nat.ble (0 + c.length) 0 with
      | false => rfl
      | true => have := Nat.le_of_ble_eq_true hh; omega
    · rw [Bool.and_eq_true, ble_eq_true', ble_eq_true']; omega
    · rw [beq_eq_true']; omega
  have k0 : Nat.beq ([] : List Int).length 0 = true := rfl
  by_cases hc : (chk x l).2 = 0
  · obtain ⟨h2, h24, hb, _, _⟩ := chk_ok hc
    have e40 := f40_eq hc
    have e41 := f41_eq hc
    have e42 := f42_gen hc (e := e) (c := c) (d := d) (p := p) (q := q) he (by omega) hcb hd hp hq
    have e45 := f45_eq hb h2 h24
    have e46 := f46_gen hb h24 e c d p q
    have e44 := f44_self (eD l) (cL l) (by rw [cL_len]; omega)
    rw [hc] at e29
    by_cases hc0 : c = []
    · subst hc0
      simp only [f6, t6, g16, f16_eq x l, u1, u2, leF_eq, eqF_eq, g18, e18, g40, e40, g41, e41, k0, g42, e42, g29, e29, g45, e45, g44, e44, g46, e46, Option.isSome_some, Option.getD_some, Tr.val_test, Tr.val_fin, if_true, Bool.not_false, Bool.not_true, Bool.false_eq_true, if_false, decide_true, beq_self_eq_true, Bool.and_true]
    · obtain ⟨v1, v2, v3, v4⟩ := u3 hc0
      simp only [f6, t6, g16, f16_eq x l, u1, u2, leF_eq, eqF_eq, g18, e18, g40, e40, g41, e41, v1, v2, v3, v4, List.nil_append, g42, e42, g29, e29, g45, e45, g44, e44, g46, e46, Option.isSome_some, Option.getD_some, Tr.val_test, Tr.val_fin, if_true, Bool.not_false, Bool.not_true, Bool.false_eq_true, if_false, decide_true, beq_self_eq_true, Bool.and_true]
  · have e40 := f40_bad (x := x) (l := l) (by omega) hc
    have e41 := f41_bad (x := x) (l := l) (by omega) hc
    have e42 := f42_bad (x := x) (l := l) (by omega) hc (e := e) (c := c) (d := d) (p := p) (q := q) he (by omega) hcb hd hp hq
    have e44 := f44_self 0 [] (by simp)
    have u4 : decide ((chk x l).2 = 0) = false := decide_eq_false hc
    by_cases hc0 : c = []
    · subst hc0
      simp only [f6, t6, g16, f16_eq x l, u1, u2, u4, leF_eq, eqF_eq, g18, e18, g40, e40, g41, e41, k0, g42, e42, g29, e29, g44, e44, Option.isSome_some, Option.getD_some, Tr.val_test, Tr.val_fin, if_true, Bool.not_false, Bool.not_true, Bool.false_eq_true, if_false, decide_true, beq_self_eq_true, Bool.and_true]
    · obtain ⟨v1, v2, v3, v4⟩ := u3 hc0
      simp only [f6, t6, g16, f16_eq x l, u1, u2, u4, leF_eq, eqF_eq, g18, e18, g40, e40, g41, e41, v1, v2, v3, v4, List.nil_append, g42, e42, g29, e29, g44, e44, Option.isSome_some, Option.getD_some, Tr.val_test, Tr.val_fin, if_true, Bool.not_false, Bool.not_true, Bool.false_eq_true, if_false, decide_true, beq_self_eq_true, Bool.and_true]

theorem law6 (d : Tys.data as6) (hd : Tys.Wf as6 d) : Pure1 Go.Proofs.Try.prog 6 as6 [.bool] d (true, ()) := by
  obtain ⟨_, ⟨n1, ⟨_, n2⟩, _⟩, ⟨n3, n4, n5, _⟩, _⟩ := hd
  have hb : ∀ n : Int, ((IntKind.min .i64 : Int) ≤ n ∧ n ≤ (IntKind.max .i64 : Int)) → n.natAbs ≤ 9223372036854775808 := by
    intro n hn
    have e1 : (IntKind.min .i64 : Int) = -9223372036854775808 := by decide
    have e2 : (IntKind.max .i64 : Int) = 9223372036854775807 := by decide
    rw [e1, e2] at hn
    omega
  have hc : ∀ i, i < List.length (show List Int from d.2.1.2.1) → ((show List Int from d.2.1.2.1).getD i 0).natAbs ≤ 9223372036854775808 := fun i hi => by
    refine hb _ (n2 _ ?_)
    rw [List.getD_eq_getElem?_getD, List.getElem?_eq_getElem hi]
    exact List.getElem_mem hi
  have h := f6_eq d.1.1 d.1.2.1 (e := d.2.1.1) (c := d.2.1.2.1) (d := d.2.2.1.1) (p := d.2.2.1.2.1) (q := d.2.2.1.2.2.1) (hb _ n1) hc (hb _ n3) (hb _ n4) (hb _ n5)
  have hp : p6.pre d = true := by
    show Option.isSome (f6 d) = true
    rw [show f6 d = some (true, ()) from h]; rfl
  have hg : p6.fn d = (true, ()) := by
    show (f6 d).getD _ = _
    rw [show f6 d = some (true, ()) from h]; rfl
  have := ok6.runs d hp
  rw [hg] at this
  exact this

end Go.Vm.Mo
