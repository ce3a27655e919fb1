import Derived.Test.YtappjfcejjmdeaaOppositeG
import Derived.Test.YtappjfcejjmdeaaA4
set_option linter.unusedVariables false
set_option linter.unusedSimpArgs false

namespace Go.Vm.Mo
open Go
set_option linter.unusedVariables false

def accW (l : List Int) : Nat → Int
  | 0 => 0
  | i + 1 => wrap64 (accW l i + l.getD i 0)

def sumsL (l : List Int) (n : Nat) : List Int := (List.range n).map fun i => accW l (i + 1)

theorem sumsL_len (l : List Int) (n : Nat) : (sumsL l n).length = n := by simp [sumsL]

theorem sumsL_succ (l : List Int) (n : Nat) : sumsL l (n + 1) = sumsL l n ++ [accW l (n + 1)] := by simp [sumsL, List.range_succ]

theorem sumsL_get (l : List Int) {n i : Nat} (h : i < n) : (sumsL l n).getD i 0 = accW l (i + 1) := by simp [sumsL, List.getD, h]

/-- Sums, exact. -/
def accE (l : List Int) : Nat → Int
  | 0 => 0
  | i + 1 => accE l i + l.getD i 0

def accE2 (l : List Int) : Nat → Int
  | 0 => 0
  | i + 1 => accE2 l i + accE l (i + 1)

theorem accW_eq (l : List Int) : ∀ i, accW l i = wrap64 (accE l i)
  | 0 => by simp [accW, accE, wrap64_bmod]
  | i + 1 => by rw [accW, accE, accW_eq l i, wrap64_add_l]

theorem accW2_eq (l : List Int) {n : Nat} : ∀ i, i ≤ n → accW (sumsL l n) i = wrap64 (accE2 l i)
  | 0, _ => by simp [accW, accE2, wrap64_bmod]
  | i + 1, h => by rw [accW, accE2, accW2_eq l i (by omega), sumsL_get l (by omega), accW_eq, wrap64_add_l, wrap64_add_r]

/-- The weighted sum. -/
def wsum (l : List Int) (n : Int) : Nat → Int
  | 0 => 0
  | i + 1 => wsum l n i + (n - i) * l.getD i 0

theorem wsum_eq (l : List Int) (n : Int) : ∀ i : Nat, wsum l n i = accE2 l i + (n - i) * accE l i
  | 0 => by simp [wsum, accE2, accE]
  | i + 1 => by
    rw [wsum, wsum_eq l n i, accE2, accE]
    have e : (n - ((i + 1 : Nat) : Int)) = (n - i) - 1 := by omega
    rw [e, Int.sub_mul _ 1, Int.one_mul, Int.mul_add]
    omega

theorem l89 (l : List Int) (h : l.length ≤ 1000000000) : l89_0 (([], (0 : Int), l, (l.length : Int), (0 : Int), ()), ()) = some (.inl ((sumsL l l.length, ()), ())) := by
  refine itr_brk (fun i => ((sumsL l i, accW l i, l, (l.length : Int), (i : Int), ()), ())) (n := l.length) ?_ ?_ (lt_rounds (by omega))
  · intro i hi
    simp only [s89_0, t89_0, Tr.val_test, Tr.val_fin, leF_eq]
    rw [if_pos (by simp; omega), if_pos (by simp; omega), if_pos (by simp [sumsL_len]; omega)]
    simp only [Int.toNat_natCast, sumsL_succ, wrap64_nat (show i ≤ 9223372036854775806 by omega), accW]
  · simp [s89_0, t89_0, leF_eq]

theorem f89_eq (l : List Int) (h : l.length ≤ 1000000000) : f89 (l, ()) = some (sumsL l l.length, ()) := by
  simp only [f89, t89, b89_0, l89 l h, Tr.val_test, isBrk, if_true, outB]; rfl

def badS (l : List Int) (i : Nat) : Bool := !(decide (-1000 ≤ l.getD i 0) && decide (l.getD i 0 ≤ 1000))

def chk (x : Int) (l : List Int) : Int × Int :=
  if x < 1 ∨ 1000000 < x then (0, 2)
  else if l.length < 2 then (0, 10)
  else if 24 < l.length then (0, 8)
  else match first (badS l) l.length 0 with
    | some k => (k, 2)
    | none => (0, 0)

theorem f47_eq (d : Tys.data as47) : f47 d = some (decide ((d.2.1 : Int) ≤ d.1) && decide ((d.1 : Int) ≤ d.2.2.1), ()) := by
  simp only [f47, t47, Tr.val_test, leF_eq, decide_eq_true_eq]
  split <;> simp [*]

theorem f54_eq (d : Tys.data as54) : f54 d = some (decide ((-1000 : Int) ≤ d.1) && decide (d.1 ≤ (1000 : Int)), ()) := by
  simp only [f54, t54, g47, f47_eq, Tr.val_test, Option.isSome, if_true, Option.getD]; rfl

theorem l22 (x : Int) (l : List Int) (h : l.length ≤ 1000000000) : l22_0 (((0 : Int), ()), (x, l, ()), ()) = match first (badS l) l.length 0 with
    | some k => some (.inr (((k : Int), (2 : Int), ()), (x, l, ()), ()))
    | none => some (.inl ((), (x, l, ()), ())) := by
  refine itr_search (fun i => (((i : Int), ()), (x, l, ()), ())) (badS l) (fun k => (((k : Int), (2 : Int), ()), (x, l, ()), ())) (n := l.length) ?_ ?_ (lt_rounds (by omega))
  · intro i hi
    simp only [s22_0, t22_0, Tr.val_test, leF_eq, g54, f54_eq, Option.isSome, if_true, Option.getD]
    rw [if_pos (by simp; omega), if_pos (by simp; omega)]
    simp only [Int.toNat_natCast, wrap64_nat (show i ≤ 9223372036854775806 by omega), badS]
    rfl
  · simp [s22_0, t22_0, leF_eq]

theorem f22_eq (x : Int) (l : List Int) (h : l.length ≤ 1000000000) : f22 ((x, l, ()), ()) = some ((chk x l).1, (chk x l).2, ()) := by
  simp only [f22, t22, g47, f47_eq, Tr.val_test, leF_eq, Option.isSome, if_true, Option.getD, r22_0, l22 x l h]
  unfold chk
  by_cases h1 : x < 1 ∨ 1000000 < x
  · rw [if_pos h1, if_pos (by simp; omega)]; rfl
  · rw [if_neg h1, if_neg (by simp; omega)]
    by_cases h2 : l.length < 2
    · rw [if_pos h2, if_pos (by simp; omega)]; rfl
    · rw [if_neg h2, if_neg (by simp; omega)]
      by_cases h3 : 24 < l.length
      · rw [if_pos h3, if_pos (by simp; omega)]; rfl
      · rw [if_neg h3, if_neg (by simp; omega)]
        cases first (badS l) l.length 0 with
        | none => rfl
        | some k => rfl

theorem f86_eq (d : Tys.data as86) : f86 d = some (if d.1 = true then d.2.1 else (0 : Int), ()) := by
  simp only [f86, t86, Tr.val_test]
  split <;> rfl

/-- Where the first bad sample lies, and its error. -/
def badAt (l : List Int) : Int × Int := match first (badS l) l.length 0 with
  | some k => (k, 2)
  | none => (0, 0)

/-- Whether all lie in a range. -/
def inAll (lo hi : Int) (l : List Int) : Bool := (first (fun i => !(decide (lo ≤ l.getD i 0) && decide (l.getD i 0 ≤ hi))) l.length 0).isNone

theorem inAll_nil (lo hi : Int) : inAll lo hi [] = true := rfl

theorem first_map {bad : Nat → Bool} : ∀ (n i : Nat), first bad n (i + 1) = (first (fun j => bad (j + 1)) n i).map (· + 1)
  | 0, _ => rfl
  | n + 1, i => by
    simp only [first]
    split
    · rfl
    · exact first_map n (i + 1)

theorem inAll_cons (lo hi a : Int) (l : List Int) : inAll lo hi (a :: l) = ((decide (lo ≤ a) && decide (a ≤ hi)) && inAll lo hi l) := by
  unfold inAll
  simp only [List.length, first]
  rw [first_map]
  by_cases h : (decide (lo ≤ a) && decide (a ≤ hi)) = true
  · simp only [List.getD_cons_zero, h, Bool.not_true, Bool.false_eq_true, if_false, Bool.true_and, List.getD_cons_succ]
    cases first (fun i => !(decide (lo ≤ l.getD i 0) && decide (l.getD i 0 ≤ hi))) l.length 0 <;> rfl
  · simp only [Bool.not_eq_true] at h
    simp [h]

theorem inAll_iff (lo hi : Int) (l : List Int) : inAll lo hi l = true ↔ ∀ i, i < l.length → lo ≤ l.getD i 0 ∧ l.getD i 0 ≤ hi := by
  unfold inAll
  constructor
  · intro h i hi'
    have := first_none (Option.isNone_iff_eq_none.1 h) i (by omega) (by omega)
    simpa using this
  · intro h
    rw [first_of_none]
    · rfl
    · intro j _ hj
      have := h j (by omega)
      simp only [List.getD_eq_getElem?_getD] at this ⊢
      simp [this.1, this.2]

theorem l94 (lo hi : Int) (l : List Int) (h : l.length ≤ 1000000000) : l94_0 ((lo, hi, l, (l.length : Int), (0 : Int), ()), ()) = match first (fun i => !(decide (lo ≤ l.getD i 0) && decide (l.getD i 0 ≤ hi))) l.length 0 with
    | some _ => some (.inr ((false, ()), ()))
    | none => some (.inl ((), ())) := by
  refine itr_search (fun i => ((lo, hi, l, (l.length : Int), (i : Int), ()), ())) (fun i => !(decide (lo ≤ l.getD i 0) && decide (l.getD i 0 ≤ hi))) (fun k => ((false, ()), ())) (n := l.length) ?_ ?_ (lt_rounds (by omega))
  · intro i hi'
    simp only [s94_0, t94_0, Tr.val_test, leF_eq, Int.toNat_natCast]
    rw [if_pos (by simp; omega), if_pos (by simp; omega)]
    simp only [wrap64_nat (show i ≤ 9223372036854775806 by omega)]
    by_cases h1 : lo ≤ l.getD i 0
    · by_cases h2 : l.getD i 0 ≤ hi
      · rw [if_neg (by simpa using h1), if_neg (by simpa using h2), if_neg (by simpa using ⟨h1, h2⟩)]; rfl
      · rw [if_neg (by simpa using h1), if_pos (by simpa using h2), if_pos (by simp only [h1, h2, decide_true, decide_false, Bool.and_false, Bool.not_false])]; rfl
    · rw [if_pos (by simpa using h1), if_pos (by simp only [h1, decide_false, Bool.false_and, Bool.not_false])]; rfl
  · simp [s94_0, t94_0, leF_eq]

theorem f94_eq (lo hi : Int) (l : List Int) (h : l.length ≤ 1000000000) : f94 (lo, hi, l, ()) = some (inAll lo hi l, ()) := by
  simp only [f94, t94, Tr.val_test, r94_0, l94 lo hi l h, inAll]
  cases first (fun i => !(decide (lo ≤ l.getD i 0) && decide (l.getD i 0 ≤ hi))) l.length 0 <;> rfl

theorem f141_eq (x : Int) (l : List Int) (h : l.length ≤ 1000000000) : f141 (x, l, ()) = some (!inAll (IntKind.wrap .i64 (0 - x)) x l, ()) := by
  simp only [f141, t141, Tr.val_test, g94, f94_eq _ _ l h, Option.isSome_some, Option.getD_some, if_true, Tr.val_fin]

theorem w1000 : IntKind.wrap .i64 (0 - 1000) = -1000 := by decide

theorem f140_eq (d : Tys.data as140) : f140 d = some (if (decide (-1000 ≤ (d.2.1 : Int)) && decide ((d.2.1 : Int) ≤ 1000)) = true then (0 : Int) else 2, ()) := by
  obtain ⟨i, x, u⟩ := d
  show f140 (i, x, ()) = some (if (decide (-1000 ≤ x) && decide (x ≤ 1000)) = true then (0 : Int) else 2, ())
  simp only [f140, t140, Tr.val_test, g141, f141_eq 1000 [x] (by simp), g86, f86_eq, Option.isSome_some, Option.getD_some, if_true, Tr.val_fin, inAll_cons, inAll_nil, w1000, Bool.and_true]
  by_cases hx : (decide (-1000 ≤ x) && decide (x ≤ 1000)) = true
  · rw [if_pos hx, hx]; rfl
  · rw [if_neg hx]; simp only [Bool.not_eq_true] at hx; rw [hx]; rfl

theorem l106 (l : List Int) (h : l.length ≤ 1000000000) : l106_0 ((l, (l.length : Int), (0 : Int), ()), ()) = match first (badS l) l.length 0 with
    | some k => some (.inr (((k : Int), (2 : Int), ()), ()))
    | none => some (.inl ((), ())) := by
  refine itr_search (fun i => ((l, (l.length : Int), (i : Int), ()), ())) (badS l) (fun k => (((k : Int), (2 : Int), ()), ())) (n := l.length) ?_ ?_ (lt_rounds (by omega))
  · intro i hi
    simp only [s106_0, t106_0, Tr.val_test, leF_eq, eqF_eq, g140, f140_eq, Int.toNat_natCast, Option.isSome_some, Option.getD_some, if_true]
    rw [if_pos (by simp; omega), if_pos (by simp; omega)]
    simp only [wrap64_nat (show i ≤ 9223372036854775806 by omega)]
    unfold badS
    by_cases hx : (decide (-1000 ≤ l.getD i 0) && decide (l.getD i 0 ≤ 1000)) = true
    · rw [hx]; simp
    · simp only [Bool.not_eq_true] at hx
      rw [hx]; simp
  · simp [s106_0, t106_0, leF_eq]

theorem f87_eq (l : List Int) (h : l.length ≤ 1000000000) : f87 (l, ()) = some ((badAt l).1, (badAt l).2, ()) := by
  simp only [f87, t87, Tr.val_test, r106_0, l106 l h, badAt]
  cases first (badS l) l.length 0 with
  | none => rfl
  | some k => rfl

/-- The first that is not 0. -/
def firstNZ : List Int → Int
  | [] => 0
  | a :: l => if a = 0 then firstNZ l else a

theorem firstNZ_eq : ∀ l : List Int, (match first (fun i => !decide (l.getD i 0 = 0)) l.length 0 with
    | some k => l.getD k 0
    | none => 0) = firstNZ l
  | [] => rfl
  | a :: l => by
    simp only [List.length, first, firstNZ]
    by_cases ha : a = 0
    · subst ha
      have e := firstNZ_eq l
      have hf : first (fun i => !decide (((0 : Int) :: l).getD i 0 = 0)) l.length (0 + 1) = (first (fun i => !decide (l.getD i 0 = 0)) l.length 0).map (· + 1) := by
        rw [first_map]; rfl
      simp only [hf, List.getD_cons_zero, decide_true, Bool.not_true, Bool.false_eq_true, if_false, if_true]
      rw [← e]
      cases first (fun i => !decide (l.getD i 0 = 0)) l.length 0 with
      | none => rfl
      | some k => rfl
    · simp [ha]

theorem l85 (l : List Int) (h : l.length ≤ 1000000000) : l85_0 ((l, (l.length : Int), (0 : Int), ()), ()) = match first (fun i => !decide (l.getD i 0 = 0)) l.length 0 with
    | some k => some (.inr ((l.getD k 0, ()), ()))
    | none => some (.inl ((), ())) := by
  refine itr_search (fun i => ((l, (l.length : Int), (i : Int), ()), ())) (fun i => !decide (l.getD i 0 = 0)) (fun k => ((l.getD k 0, ()), ())) (n := l.length) ?_ ?_ (lt_rounds (by omega))
  · intro i hi
    simp only [s85_0, t85_0, Tr.val_test, leF_eq, eqF_eq]
    rw [if_pos (by simp; omega), if_pos (by simp; omega)]
    simp only [Int.toNat_natCast, wrap64_nat (show i ≤ 9223372036854775806 by omega)]
    rfl
  · simp [s85_0, t85_0, leF_eq]

theorem f85_eq (l : List Int) (h : l.length ≤ 1000000000) : f85 (l, ()) = some (firstNZ l, ()) := by
  simp only [f85, t85, Tr.val_test, r85_0, l85 l h, ← firstNZ_eq l]
  cases first (fun i => !decide (l.getD i 0 = 0)) l.length 0 with
  | none => rfl
  | some k => rfl

theorem f17_eq (x : Int) (l : List Int) (h : l.length ≤ 1000000000) : f17 ((x, l, ()), ()) = some ((chk x l).1, (chk x l).2, ()) := by
  have e := fun a b c : Int => f85_eq [a, b, c] (by simp)
  have hc : chk x l = if x < 1 ∨ 1000000 < x then (0, 2) else if l.length < 2 then (0, 10) else if 24 < l.length then (0, 8) else badAt l := rfl
  simp only [f17, t17, Tr.val_test, leF_eq, eqF_eq, g86, f86_eq, g87, f87_eq l h, g85, Option.isSome_some, Option.getD_some, if_true]
  rw [e, e, hc]
  simp only [Option.isSome_some, Option.getD_some, if_true, firstNZ]
  by_cases h1 : x < 1
  · have h1' : ¬ 1 ≤ x := by omega
    simp [h1, h1']
  · have h1' : 1 ≤ x := by omega
    by_cases h2 : 1000000 < x
    · have h2' : ¬ x ≤ 1000000 := by omega
      simp [h1', h2, h2']
    · have h2' : x ≤ 1000000 := by omega
      by_cases h3 : l.length < 2
      · have h3' : ¬ (2 : Int) ≤ l.length := by omega
        simp [h1, h1', h2, h2', h3, h3']
      · have h3' : (2 : Int) ≤ l.length := by omega
        by_cases h4 : 24 < l.length
        · have h4' : ¬ (l.length : Int) ≤ 24 := by omega
          simp [h1, h1', h2, h2', h3, h3', h4, h4']
        · have h4' : (l.length : Int) ≤ 24 := by omega
          simp [h1, h1', h2, h2', h3, h3', h4, h4']

theorem f88_eq (x : Int) (l : List Int) (h : l.length ≤ 1000000000) : f88 ((x, l, ()), ()) = some ((chk x l).2, ()) := by
  simp only [f88, t88, Tr.val_test, g17, f17_eq x l h, Option.isSome_some, Option.getD_some, if_true, Tr.val_fin]

theorem f20_eq (x : Int) (l : List Int) (h : l.length ≤ 1000000000) : f20 ((x, l, ()), ()) = some (if (chk x l).2 = 0 then sumsL (sumsL l l.length) l.length else [], (chk x l).2, ()) := by
  have h2 := f89_eq (sumsL l l.length) (by rw [sumsL_len]; exact h)
  rw [sumsL_len] at h2
  simp only [f20, t20, Tr.val_test, g88, f88_eq x l h, g89, f89_eq l h, h2, eqF_eq, Option.isSome_some, Option.getD_some, if_true, Tr.val_fin]
  by_cases h0 : (chk x l).2 = 0 <;> simp [h0]

theorem f70_eq (l : List Int) (h : l.length ≤ 1000000000) : f70 (l, ()) = some (l, ()) := by
  simp only [f70, t70, Tr.val_test, Tr.val_fin]
  by_cases h0 : l.length = 0
  · rw [List.eq_nil_of_length_eq_zero h0]; rfl
  · rw [if_neg (by simp [h0]), if_neg (by rw [ble_eq_true']; omega), if_pos (by simp; omega), if_pos (by simp)]
    rfl

theorem f18_eq (x : Int) (l : List Int) (h : l.length ≤ 1000000000) : f18 ((x, l, ()), ()) = some ((x, l, ()), ()) := by
  simp only [f18, t18, Tr.val_test, g70, f70_eq l h, Option.isSome_some, Option.getD_some, if_true, Tr.val_fin]

theorem sums_last (l : List Int) (h : 0 < l.length) : (sumsL l l.length).getD (l.length - 1) 0 = wrap64 (accE l l.length) := by
  rw [sumsL_get l (by omega), accW_eq, Nat.sub_add_cancel h]

theorem sums2_last (l : List Int) (h : 0 < l.length) : (sumsL (sumsL l l.length) l.length).getD (l.length - 1) 0 = wrap64 (accE2 l l.length) := by
  rw [sumsL_get _ (by omega), Nat.sub_add_cancel h, accW2_eq l _ (Nat.le_refl _)]

theorem chk_len {x : Int} {l : List Int} (h : (chk x l).2 = 0) : 2 ≤ l.length := by
  unfold chk at h
  split at h
  · cases h
  · split at h
    · cases h
    · omega

/-- The greater of two. -/
def mx (a b : Int) : Int := if a < b then b else a
/-- A number without its sign. -/
def sz (a : Int) : Int := mx a (IntKind.wrap .i64 (0 - a))
/-- The greatest size of the first numbers. -/
def pk (l : List Int) : Nat → Int
  | 0 => 0
  | i + 1 => mx (pk l i) (sz (l.getD i 0))

theorem mx_mx (m a b : Int) : mx (mx m a) b = mx m (mx a b) := by
  unfold mx
  split <;> split <;> (try split) <;> omega

theorem sz_eq {a : Int} (h1 : -9223372036854775807 ≤ a) (h2 : a ≤ 9223372036854775807) : sz a = a.natAbs := by
  unfold sz mx
  rw [← wrap64_eq, wrap64_id (by omega) (by omega)]
  split <;> omega

theorem l122 (l : List Int) (h : l.length ≤ 1000000000) : l122_0 (((0 : Int), l, (l.length : Int), (0 : Int), ()), ()) = some (.inl ((pk l l.length, ()), ())) := by
  refine itr_brk (fun i => ((pk l i, l, (l.length : Int), (i : Int), ()), ())) (n := l.length) ?_ ?_ (lt_rounds (by omega))
  · intro i hi
    simp only [s122_0, t122_0, Tr.val_test, Tr.val_fin, leF_eq, Int.toNat_natCast]
    rw [if_pos (by simp; omega), if_pos (by simp; omega)]
    simp only [wrap64_nat (show i ≤ 9223372036854775806 by omega), pk, sz, ← mx_mx]
    rfl
  · simp [s122_0, t122_0, leF_eq]

theorem f122_eq (l : List Int) (h : l.length ≤ 1000000000) : f122 (l, ()) = some (pk l l.length, ()) := by
  simp only [f122, t122, b122_0, l122 l h, Tr.val_test, isBrk, if_true, outB]; rfl

theorem f92_eq (l : List Int) (h : l.length ≤ 1000000000) : f92 (l, ()) = some ((pk l l.length, pk (sumsL l l.length) l.length, pk (sumsL (sumsL l l.length) l.length) l.length, ()), ()) := by
  have hl := sumsL_len l l.length
  have e1 := f122_eq (sumsL l l.length) (by rw [hl]; exact h)
  have e2 := f89_eq (sumsL l l.length) (by rw [hl]; exact h)
  have e3 := f122_eq (sumsL (sumsL l l.length) l.length) (by rw [sumsL_len]; exact h)
  rw [hl] at e1 e2
  rw [sumsL_len] at e3
  simp only [f92, t92, g89, f89_eq l h, g122, f122_eq l h, e1, e2, e3, Tr.val_test, Tr.val_fin, Option.isSome_some, Option.getD_some, if_true]

theorem f29_eq (x : Int) (l : List Int) (h : l.length ≤ 1000000000) : f29 ((x, l, ()), ()) = some ((chk x l).2, ()) := by
  simp only [f29, t29, g22, f22_eq x l h, Tr.val_test, Tr.val_fin, Option.isSome_some, Option.getD_some, if_true]

theorem f27_eq (x : Int) (l : List Int) (h : l.length ≤ 1000000000) : f27 ((x, l, ()), ()) = some (if (chk x l).2 = 0 then (pk l l.length, pk (sumsL l l.length) l.length, pk (sumsL (sumsL l l.length) l.length) l.length, ()) else (0, 0, 0, ()), (chk x l).2, ()) := by
  simp only [f27, t27, g88, f88_eq x l h, g92, f92_eq l h, eqF_eq, Tr.val_test, Tr.val_fin, Option.isSome_some, Option.getD_some, if_true]
  by_cases h0 : (chk x l).2 = 0 <;> simp [h0]

/-- All are at most so great. -/
def Bd (B : Int) (l : List Int) : Prop := ∀ i, i < l.length → -B ≤ l.getD i 0 ∧ l.getD i 0 ≤ B

theorem chk_ok {x : Int} {l : List Int} (h : (chk x l).2 = 0) : 2 ≤ l.length ∧ l.length ≤ 24 ∧ Bd 1000 l ∧ 1 ≤ x ∧ x ≤ 1000000 := by
  unfold chk at h
  split at h
  · cases h
  · rename_i hx
    split at h
    · cases h
    · split at h
      · cases h
      · split at h
        · cases h
        · rename_i hn
          refine ⟨by omega, by omega, fun i hi => ?_, by omega, by omega⟩
          have := first_none hn i (by omega) (by omega)
          simpa [badS] using this

theorem pk_nonneg (l : List Int) : ∀ i, 0 ≤ pk l i
  | 0 => Int.le_refl 0
  | i + 1 => by
    have := pk_nonneg l i
    unfold pk mx
    split <;> omega

theorem pk_le {B : Int} {l : List Int} (h0 : 0 ≤ B) (hB : B ≤ 9223372036854775807) (h : Bd B l) : ∀ i, i ≤ l.length → pk l i ≤ B
  | 0, _ => h0
  | i + 1, hi => by
    have := pk_le h0 hB h i (by omega)
    have hb := h i (by omega)
    rw [pk, sz_eq (by omega) (by omega)]
    unfold mx
    split <;> omega

theorem pk_zero {B : Int} {l : List Int} (hB : B ≤ 9223372036854775807) (h : Bd B l) : ∀ n, n ≤ l.length → pk l n = 0 → ∀ i, i < n → l.getD i 0 = 0
  | 0, _, _, i, hi => by omega
  | n + 1, hn, e, i, hi => by
    have hb := h n (by omega)
    rw [pk, sz_eq (by omega) (by omega)] at e
    have hp := pk_nonneg l n
    have e1 : pk l n = 0 ∧ l.getD n 0 = 0 := by
      unfold mx at e
      split at e <;> omega
    rcases Nat.lt_succ_iff_lt_or_eq.1 hi with h1 | h1
    · exact pk_zero hB h n (by omega) e1.1 i h1
    · rw [h1]; exact e1.2

theorem pk_of_zero {l : List Int} : ∀ n, (∀ i, i < n → l.getD i 0 = 0) → pk l n = 0
  | 0, _ => rfl
  | n + 1, h => by
    rw [pk, pk_of_zero n fun i hi => h i (by omega), h n (by omega)]; rfl

theorem accW_bd {B : Int} {l : List Int} (h0 : 0 ≤ B) (h : Bd B l) (hB : B * l.length ≤ 9223372036854775807) : ∀ i : Nat, i ≤ l.length → -(B * i) ≤ accW l i ∧ accW l i ≤ B * i
  | 0, _ => by simp [accW]
  | i + 1, hi => by
    have hb := h i (by omega)
    have ih := accW_bd h0 h hB i (by omega)
    have e : B * ((i + 1 : Nat) : Int) = B * i + B := by rw [Int.natCast_add, Int.mul_add]; simp
    have h2 : B * ((i + 1 : Nat) : Int) ≤ B * l.length := Int.mul_le_mul_of_nonneg_left (by omega) h0
    rw [accW, wrap64_id (by omega) (by omega)]
    omega

theorem sums_bd {B : Int} {l : List Int} (h0 : 0 ≤ B) (h : Bd B l) (hB : B * l.length ≤ 9223372036854775807) : Bd (B * l.length) (sumsL l l.length) := by
  intro i hi
  rw [sumsL_len] at hi
  rw [sumsL_get l hi]
  have := accW_bd h0 h hB (i + 1) (by omega)
  have h2 : B * ((i + 1 : Nat) : Int) ≤ B * l.length := Int.mul_le_mul_of_nonneg_left (by omega) h0
  omega

/-- Where all sums are 0, all numbers are. -/
theorem sums_zero {B : Int} {l : List Int} (hB : B ≤ 9223372036854775807) (h : Bd B l) {n : Nat} (hn : n ≤ l.length) (e : ∀ i, i < n → accW l (i + 1) = 0) : ∀ i, i < n → l.getD i 0 = 0 := by
  intro i hi
  have hb := h i (by omega)
  have h1 := e i hi
  have h0 : accW l i = 0 := by
    cases i with
    | zero => rfl
    | succ j => exact e j (by omega)
  rw [accW, h0, Int.zero_add, wrap64_id (by omega) (by omega)] at h1
  exact h1

theorem pk_sums {B : Int} {l : List Int} (h0 : 0 ≤ B) (h : Bd B l) (hB : B * l.length ≤ 9223372036854775807) (hB2 : B ≤ 9223372036854775807) (hp : pk l l.length ≠ 0) : pk (sumsL l l.length) l.length ≠ 0 := by
  intro e
  have hs := sums_bd h0 h hB
  have hz := pk_zero hB hs l.length (by rw [sumsL_len]; exact Nat.le_refl _) e
  refine hp (pk_of_zero _ (sums_zero hB2 h (Nat.le_refl _) fun i hi => ?_))
  have := hz i hi
  rwa [sumsL_get l hi] at this

/-- The greatest common divisor of the first numbers, with a sign. -/
def dv (l : List Int) : Nat → Int
  | 0 => 0
  | i + 1 => euc (dv l i) (l.getD i 0)

theorem lt_r2 {n : Nat} (h : n ≤ 9223372036854775808) : n < rounds := by unfold rounds; omega

theorem mx_max (a b : Int) : mx a b = max a b := by unfold mx; omega

theorem euc_zero_left (b : Int) (h : b.natAbs ≤ 9223372036854775807) : (euc 0 b).natAbs = b.natAbs := by rw [euc_abs]; simp

theorem dv2 (a b : Int) (ha : a.natAbs ≤ 9223372036854775807) (hb : b.natAbs ≤ 9223372036854775807) : mx (dv [a, b] 2) (IntKind.wrap .i64 (0 - dv [a, b] 2)) = (Int.gcd a b : Int) := by
  have e0 : dv [a, b] 2 = euc (euc 0 a) b := rfl
  have e1 : (euc 0 a).natAbs = a.natAbs := euc_zero_left a ha
  have e2 : Int.gcd (euc 0 a) b = Int.gcd a b := by unfold Int.gcd; rw [e1]
  rw [e0, ← wrap64_eq, Int.zero_sub, mx_max, euc_gcd _ _ (by omega) (by omega) (by omega) (by omega), e2]

/-- A fraction in lowest terms. -/
def low (a b : Int) : Int × Int × Unit := (a.tdiv (Int.gcd a b), b.tdiv (Int.gcd a b), ())

theorem wrapI_id {n : Int} (h1 : -9223372036854775808 ≤ n) (h2 : n ≤ 9223372036854775807) : IntKind.wrap .i64 n = n := by rw [← wrap64_eq, wrap64_id h1 h2]

theorem low_wrap (a b : Int) (ha : a.natAbs ≤ 9223372036854775807) (hb : b.natAbs ≤ 9223372036854775807) : IntKind.wrap .i64 (a.tdiv (Int.gcd a b)) = (low a b).1 ∧ IntKind.wrap .i64 (b.tdiv (Int.gcd a b)) = (low a b).2.1 := by
  have h1 := tdiv_abs_le a (Int.gcd a b)
  have h2 := tdiv_abs_le b (Int.gcd a b)
  exact ⟨wrapI_id (by omega) (by omega), wrapI_id (by omega) (by omega)⟩

/-- Less, of fractions. -/
def lessF (a b : Int × Int × Unit) : Bool := !leF (wrap64 (b.1 * a.2.1)) (wrap64 (a.1 * b.2.1))

/-- The error of an oscillator. -/
def osE (s d : Int) : Int := if (decide (0 ≤ s) && decide (s ≤ 3000)) = false then 2 else if (decide (0 ≤ d) && decide (d ≤ 500)) = false then 2 else 0

theorem f119_eq (s d : Int) : f119 ((s, d, ()), ()) = some (osE s d, ()) := by
  have e2 := fun a b : Int => f85_eq [a, b] (by simp)
  simp only [f119, t119, g94, f94_eq 0 3000 [s] (by simp), f94_eq 0 500 [d] (by simp), g86, f86_eq, g85, e2, Tr.val_test, Tr.val_fin, Option.isSome_some, Option.getD_some, if_true, inAll_cons, inAll_nil, Bool.and_true, firstNZ, osE]
  cases (decide ((0 : Int) ≤ s) && decide (s ≤ 3000)) <;> cases (decide ((0 : Int) ≤ d) && decide (d ≤ 500)) <;> rfl

theorem f58_eq (s d : Int) : f58 ((s, d, ()), ()) = some (osE s d, ()) := by
  simp only [f58, t58, g47, f47_eq, Tr.val_test, Tr.val_fin, Option.isSome_some, Option.getD_some, if_true, osE]
  cases (decide ((0 : Int) ≤ s) && decide (s ≤ 3000)) <;> cases (decide ((0 : Int) ≤ d) && decide (d ≤ 500)) <;> rfl

structure OsOk (s d : Int) : Prop where
  s0 : 0 ≤ s
  s1 : s ≤ 3000
  d0 : 0 ≤ d
  d1 : d ≤ 500

theorem osE_ok {s d : Int} (h : osE s d = 0) : OsOk s d := by
  unfold osE at h
  split at h
  · cases h
  · split at h
    · cases h
    · rename_i h1 h2
      simp only [Bool.not_eq_false, Bool.and_eq_true, decide_eq_true_eq] at h1 h2
      exact ⟨h1.1, h1.2, h2.1, h2.2⟩

/-- What an oscillator is pulled by, wrapped. -/
def pullN (s d x y : Int) : Int := wrap64 (wrap64 (s * x) + wrap64 (d * wrap64 (x - y)))
/-- One tick of an oscillator. -/
def tick (s d a x y : Int) : Int := wrap64 (wrap64 (wrap64 (wrap64 (2 * x) - y) - IntKind.wrap .i64 ((pullN s d x y).tdiv 1000)) - a)
/-- The displacements of an oscillator, now and before. -/
def rsp (s d : Int) (l : List Int) : Nat → Int × Int
  | 0 => (0, 0)
  | i + 1 => (tick s d (l.getD i 0) (rsp s d l i).1 (rsp s d l i).2, (rsp s d l i).1)
def respL (s d : Int) (l : List Int) (n : Nat) : List Int := (List.range n).map fun i => (rsp s d l (i + 1)).1

theorem respL_len (s d : Int) (l : List Int) (n : Nat) : (respL s d l n).length = n := by simp [respL]
theorem respL_succ (s d : Int) (l : List Int) (n : Nat) : respL s d l (n + 1) = respL s d l n ++ [(rsp s d l (n + 1)).1] := by simp [respL, List.range_succ]
theorem respL_get (s d : Int) (l : List Int) {n i : Nat} (h : i < n) : (respL s d l n).getD i 0 = (rsp s d l (i + 1)).1 := by simp [respL, List.getD, h]

theorem l120 (l : List Int) (h : l.length ≤ 1000000000) (s d : Int) : l120_0 ((([] : List Int), (0 : Int), (0 : Int), l, (l.length : Int), (0 : Int), ()), (s, d, ()), ()) = some (.inl ((respL s d l l.length, ()), (s, d, ()), ())) := by
  refine itr_brk (fun i => ((respL s d l i, (rsp s d l i).1, (rsp s d l i).2, l, (l.length : Int), (i : Int), ()), (s, d, ()), ())) (n := l.length) ?_ ?_ (lt_rounds (by omega))
  · intro i hi
    simp only [s120_0, t120_0, Tr.val_test, Tr.val_fin, leF_eq]
    rw [if_pos (by simp; omega), if_pos (by simp; omega), if_pos (by simp [respL_len]; omega)]
    simp only [Int.toNat_natCast, respL_succ, wrap64_nat (show i ≤ 9223372036854775806 by omega)]
    rfl
  · simp [s120_0, t120_0, leF_eq]

theorem f120_eq (l : List Int) (h : l.length ≤ 1000000000) (s d : Int) : f120 (l, (s, d, ()), ()) = some (respL s d l l.length, ()) := by
  simp only [f120, t120, b120_0, l120 l h s d, Tr.val_test, isBrk, if_true, outB]; rfl

theorem mul_bd {c x M C : Int} (hc : -C ≤ c) (hc' : c ≤ C) (hx : -M ≤ x) (hx' : x ≤ M) (hM : 0 ≤ M) (hC : 0 ≤ C) : -(C * M) ≤ c * x ∧ c * x ≤ C * M := by
  have h : (c * x).natAbs ≤ (C * M).natAbs := by
    rw [Int.natAbs_mul, Int.natAbs_mul]
    exact Nat.mul_le_mul (by omega) (by omega)
  have := Int.mul_nonneg hC hM
  omega

/-- One tick, exact: how far it goes. -/
theorem tick_bd {s d a x y M : Int} (ho : OsOk s d) (ha : -1000 ≤ a ∧ a ≤ 1000) (hM : 0 ≤ M) (hM2 : M ≤ 500000000000000) (hx : -M ≤ x ∧ x ≤ M) (hy : -M ≤ y ∧ y ≤ M) :
    pullN s d x y = s * x + d * (x - y) ∧ (-(4000000000000000000) ≤ pullN s d x y ∧ pullN s d x y ≤ 4000000000000000000) ∧
    tick s d a x y = 2 * x - y - (s * x + d * (x - y)).tdiv 1000 - a ∧ -(3 * M + 1000) ≤ tick s d a x y ∧ tick s d a x y ≤ 3 * M + 1000 := by
  have k1 := mul_bd (c := s) (x := x) (M := M) (C := 3000) (by have := ho.s0; omega) ho.s1 hx.1 hx.2 hM (by omega)
  have k2 := mul_bd (c := d) (x := x - y) (M := 2 * M) (C := 500) (by have := ho.d0; omega) ho.d1 (by omega) (by omega) (by omega) (by omega)
  have p : pullN s d x y = s * x + d * (x - y) := by
    unfold pullN
    rw [wrap64_id (n := x - y) (by omega) (by omega), wrap64_id (n := s * x) (by omega) (by omega), wrap64_id (n := d * (x - y)) (by omega) (by omega), wrap64_id (by omega) (by omega)]
  have hN : -(4000000000000000000) ≤ pullN s d x y ∧ pullN s d x y ≤ 4000000000000000000 := by rw [p]; omega
  have q1 : 1000 * (s * x + d * (x - y)).tdiv 1000 + (s * x + d * (x - y)).tmod 1000 = s * x + d * (x - y) := Int.mul_tdiv_add_tmod _ _
  have q2 : -1000 < (s * x + d * (x - y)).tmod 1000 ∧ (s * x + d * (x - y)).tmod 1000 < 1000 := ⟨Int.lt_tmod_of_pos _ (by omega), Int.tmod_lt_of_pos _ (by omega)⟩
  generalize hq : (s * x + d * (x - y)).tdiv 1000 = q at *
  generalize (s * x + d * (x - y)).tmod 1000 = r at *
  -- a thousand times what is left
  have c1 : -(2000 : Int) ≤ 2000 - s - d := by have := ho.s1; have := ho.d1; omega
  have c3 : ∃ C, 0 ≤ C ∧ -C ≤ 2000 - s - d ∧ 2000 - s - d ≤ C ∧ C + (1000 - d) ≤ 3000 := by
    have := ho.s0; have := ho.d0; have := ho.s1; have := ho.d1
    rcases Int.le_total 0 (2000 - s - d) with h | h
    · exact ⟨2000 - s - d, h, by omega, Int.le_refl _, by omega⟩
    · exact ⟨-(2000 - s - d), by omega, by omega, by omega, by omega⟩
  obtain ⟨C, C0, C1, C2, C3⟩ := c3
  have m1 := mul_bd C1 C2 hx.1 hx.2 hM C0
  have m2 := mul_bd (c := 1000 - d) (x := y) (M := M) (C := 1000 - d) (by have := ho.d1; omega) (Int.le_refl _) hy.1 hy.2 hM (by have := ho.d1; omega)
  have m3 : (C + (1000 - d)) * M ≤ 3000 * M := Int.mul_le_mul_of_nonneg_right C3 hM
  have e1 : (2000 - s - d) * x - (1000 - d) * y = 1000 * (2 * x - y) - (s * x + d * (x - y)) := by
    simp only [Int.sub_mul, Int.mul_sub]
    omega
  have e2 : (C + (1000 - d)) * M = C * M + (1000 - d) * M := Int.add_mul _ _ _
  have hb : -(3 * M) ≤ 2 * x - y - q ∧ 2 * x - y - q ≤ 3 * M := by omega
  have ht : tick s d a x y = 2 * x - y - q - a := by
    unfold tick
    rw [p, hq, wrap64_id (n := 2 * x) (by omega) (by omega), wrap64_id (n := 2 * x - y) (by omega) (by omega), wrapI_id (n := q) (by omega) (by omega), wrap64_id (n := 2 * x - y - q) (by omega) (by omega), wrap64_id (by omega) (by omega)]
  refine ⟨p, hN, ht, by omega, by omega⟩

theorem rsp_bd {s d : Int} (ho : OsOk s d) {l : List Int} (hb : Bd 1000 l) (hl : l.length ≤ 24) : ∀ i : Nat, i ≤ l.length → (-(501 * (3 ^ i : Nat)) + 501 ≤ (rsp s d l i).1 ∧ (rsp s d l i).1 ≤ (501 * (3 ^ i : Nat) : Int) - 501) ∧ (-(501 * (3 ^ i : Nat)) + 501 ≤ (rsp s d l i).2 ∧ (rsp s d l i).2 ≤ (501 * (3 ^ i : Nat) : Int) - 501)
  | 0, _ => by simp [rsp]
  | i + 1, hi => by
    obtain ⟨h1, h2⟩ := rsp_bd ho hb hl i (by omega)
    have hp : (3 : Nat) ^ i ≤ 3 ^ 24 := Nat.pow_le_pow_right (by omega) (by omega)
    have h24 : (3 : Nat) ^ 24 = 282429536481 := by decide
    have h0 : 1 ≤ (3 : Nat) ^ i := by have := Nat.pow_le_pow_right (n := 3) (by omega) (Nat.zero_le i); simpa using this
    have hs : (3 : Nat) ^ (i + 1) = 3 * 3 ^ i := by rw [Nat.pow_succ, Nat.mul_comm]
    obtain ⟨_, _, _, t1, t2⟩ := tick_bd (x := (rsp s d l i).1) (y := (rsp s d l i).2) (M := 501 * ((3 ^ i : Nat) : Int) - 501) ho (hb i (by omega)) (by omega) (by omega) ⟨by omega, by omega⟩ ⟨by omega, by omega⟩
    simp only [rsp]
    rw [hs]
    omega

theorem f56_eq (x : Int) (l : List Int) (h : l.length ≤ 1000000000) (s d : Int) : f56 ((x, l, ()), (s, d, ()), ()) = some (if (chk x l).2 ≠ 0 then ([], (chk x l).2, ()) else if osE s d ≠ 0 then ([], osE s d, ()) else (respL s d l l.length, 0, ())) := by
  have e2 := fun a b : Int => f85_eq [a, b] (by simp)
  simp only [f56, t56, g88, f88_eq x l h, g119, f119_eq s d, g85, e2, g120, f120_eq l h s d, Tr.val_test, Tr.val_fin, eqF_eq, Option.isSome_some, Option.getD_some, if_true, firstNZ]
  by_cases h0 : (chk x l).2 = 0
  · by_cases h1 : osE s d = 0 <;> simp [h0, h1]
  · simp [h0]

theorem mul_abs_le {c x C M : Int} (hc : c.natAbs ≤ C.natAbs) (hx : x.natAbs ≤ M.natAbs) : (c * x).natAbs ≤ (C * M).natAbs := by
  rw [Int.natAbs_mul, Int.natAbs_mul]; exact Nat.mul_le_mul hc hx

/-- Two ticks: how the parts weigh. -/
theorem two_weights {A B : Int} (a0 : -1500 ≤ A) (a1 : A ≤ 2000) (b0 : 500 ≤ B) (b1 : B ≤ 1000) :
    ∃ P Q : Int, 0 ≤ P ∧ 0 ≤ Q ∧ P + Q ≤ 5000000 ∧ (-P ≤ A * A - 1000 * B ∧ A * A - 1000 * B ≤ P) ∧ (-Q ≤ A * B ∧ A * B ≤ Q) := by
  have sq0 : 0 ≤ A * A := by
    rcases Int.le_total 0 A with h | h
    · exact Int.mul_nonneg h h
    · have := Int.mul_nonneg (Int.neg_nonneg.2 h) (Int.neg_nonneg.2 h); rwa [Int.neg_mul_neg] at this
  rcases Int.lt_or_le A 0 with h | h
  · -- below 0
    have s1 : A * A ≤ 1500 * 1500 := by
      have := Int.mul_le_mul (show -A ≤ 1500 by omega) (show -A ≤ 1500 by omega) (by omega) (by omega)
      rwa [Int.neg_mul_neg] at this
    have s2 : -(A * B) ≤ 1500 * 1000 := by
      have := Int.mul_le_mul (show -A ≤ 1500 by omega) b1 (by omega) (by omega)
      rwa [Int.neg_mul] at this
    have s3 : 0 ≤ -(A * B) := by
      have := Int.mul_nonneg (show 0 ≤ -A by omega) (show 0 ≤ B by omega)
      rwa [Int.neg_mul] at this
    exact ⟨2250000, 1500000, by omega, by omega, by omega, ⟨by omega, by omega⟩, ⟨by omega, by omega⟩⟩
  · have s3 : 0 ≤ A * B := Int.mul_nonneg h (by omega)
    rcases Int.lt_or_le A 1000 with h1 | h1
    · have s1 : A * A ≤ 1000 * 1000 := Int.mul_le_mul (by omega) (by omega) h (by omega)
      have s2 : A * B ≤ 1000 * 1000 := Int.mul_le_mul (by omega) b1 (by omega) (by omega)
      exact ⟨1000000, 1000000, by omega, by omega, by omega, ⟨by omega, by omega⟩, ⟨by omega, by omega⟩⟩
    · -- A * A - 1000 B + A B = A * A + B (A - 1000)
      have s1 : A * A ≤ 2000 * 2000 := Int.mul_le_mul a1 a1 h (by omega)
      have s2 : 1000 * 1000 ≤ A * A := Int.mul_le_mul h1 h1 (by omega) h
      have s4 : (A - 1000) * B ≤ 1000 * 1000 := Int.mul_le_mul (by omega) b1 (by omega) (by omega)
      rw [Int.sub_mul] at s4
      exact ⟨A * A - 1000 * B, A * B, by omega, s3, by omega, ⟨by omega, by omega⟩, ⟨by omega, by omega⟩⟩

theorem abs_of {x M : Int} (h : -M ≤ x ∧ x ≤ M) (hM : 0 ≤ M) : x.natAbs ≤ M.natAbs := by omega

/-- Two ticks: how far they go. -/
theorem two_ticks {s d a b u v M : Int} (ho : OsOk s d) (ha : -1000 ≤ a ∧ a ≤ 1000) (hb : -1000 ≤ b ∧ b ≤ 1000) (hM : 0 ≤ M) (hM2 : M ≤ 100000000000000) (hu : -M ≤ u ∧ u ≤ M) (hv : -M ≤ v ∧ v ≤ M) :
    -(5 * M + 3003) ≤ tick s d b (tick s d a u v) u ∧ tick s d b (tick s d a u v) u ≤ 5 * M + 3003 := by
  have := ho.s0; have := ho.s1; have := ho.d0; have := ho.d1
  obtain ⟨_, _, t1, t2, t3⟩ := tick_bd ho ha hM (by omega) hu hv
  generalize hx : tick s d a u v = x at *
  obtain ⟨_, _, w1, _, _⟩ := tick_bd (x := x) (y := u) (M := 3 * M + 1000) ho hb (by omega) (by omega) ⟨by omega, by omega⟩ ⟨by omega, by omega⟩
  generalize tick s d b x u = y at *
  have q1 : 1000 * (s * u + d * (u - v)).tdiv 1000 + (s * u + d * (u - v)).tmod 1000 = s * u + d * (u - v) := Int.mul_tdiv_add_tmod _ _
  have q2 : -1000 < (s * u + d * (u - v)).tmod 1000 ∧ (s * u + d * (u - v)).tmod 1000 < 1000 := ⟨Int.lt_tmod_of_pos _ (by omega), Int.tmod_lt_of_pos _ (by omega)⟩
  have q3 : 1000 * (s * x + d * (x - u)).tdiv 1000 + (s * x + d * (x - u)).tmod 1000 = s * x + d * (x - u) := Int.mul_tdiv_add_tmod _ _
  have q4 : -1000 < (s * x + d * (x - u)).tmod 1000 ∧ (s * x + d * (x - u)).tmod 1000 < 1000 := ⟨Int.lt_tmod_of_pos _ (by omega), Int.tmod_lt_of_pos _ (by omega)⟩
  generalize (s * u + d * (u - v)).tdiv 1000 = p1 at *
  generalize (s * u + d * (u - v)).tmod 1000 = r1 at *
  generalize (s * x + d * (x - u)).tdiv 1000 = p2 at *
  generalize (s * x + d * (x - u)).tmod 1000 = r2 at *
  -- a thousand times each
  have e1 : 1000 * x = (2000 - s - d) * u - (1000 - d) * v - (1000 * a - r1) := by
    simp only [Int.sub_mul, Int.mul_sub] at *
    omega
  have e2 : 1000 * y = (2000 - s - d) * x - (1000 - d) * u - (1000 * b - r2) := by
    simp only [Int.sub_mul, Int.mul_sub] at *
    omega
  generalize hA : 2000 - s - d = A at *
  generalize hB : 1000 - d = B at *
  obtain ⟨P, Q, p0, q0, pq, pA, pB⟩ := two_weights (A := A) (B := B) (by omega) (by omega) (by omega) (by omega)
  have e3 : 1000 * (1000 * y) = (A * A - 1000 * B) * u - A * B * v - A * (1000 * a - r1) - 1000 * (1000 * b - r2) := by
    have k1 : 1000 * (A * x) = A * (A * u - B * v - (1000 * a - r1)) := by rw [← e1, ← Int.mul_assoc, ← Int.mul_assoc, Int.mul_comm 1000 A]
    rw [e2]
    simp only [Int.mul_sub, Int.sub_mul] at *
    have k2 : A * A * u = A * (A * u) := Int.mul_assoc _ _ _
    have k3 : A * B * v = A * (B * v) := Int.mul_assoc _ _ _
    have k4 : 1000 * B * u = 1000 * (B * u) := Int.mul_assoc _ _ _
    omega
  have m1 := mul_bd pA.1 pA.2 hu.1 hu.2 hM p0
  have m2 := mul_bd pB.1 pB.2 hv.1 hv.2 hM q0
  have m3 := mul_bd (c := A) (x := 1000 * a - r1) (M := 1000999) (C := 2000) (by omega) (by omega) (by omega) (by omega) (by omega) (by omega)
  have m4 : (P + Q) * M ≤ 5000000 * M := Int.mul_le_mul_of_nonneg_right pq hM
  rw [Int.add_mul] at m4
  omega

theorem rsp_two {s d : Int} (ho : OsOk s d) {l : List Int} (hb : Bd 1000 l) : ∀ k : Nat, k ≤ 11 → 2 * k ≤ l.length → (-(751 * (5 ^ k : Nat)) + 751 ≤ (rsp s d l (2 * k)).1 ∧ (rsp s d l (2 * k)).1 ≤ (751 * (5 ^ k : Nat) : Int) - 751) ∧ (-(751 * (5 ^ k : Nat)) + 751 ≤ (rsp s d l (2 * k)).2 ∧ (rsp s d l (2 * k)).2 ≤ (751 * (5 ^ k : Nat) : Int) - 751)
  | 0, _, _ => by simp [rsp]
  | k + 1, hk, hl => by
    obtain ⟨h1, h2⟩ := rsp_two ho hb k (by omega) (by omega)
    have hp : (5 : Nat) ^ k ≤ 5 ^ 11 := Nat.pow_le_pow_right (by omega) (by omega)
    have h11 : (5 : Nat) ^ 11 = 48828125 := by decide
    have h0 : 1 ≤ (5 : Nat) ^ k := by have := Nat.pow_le_pow_right (n := 5) (by omega) (Nat.zero_le k); simpa using this
    have hs : (5 : Nat) ^ (k + 1) = 5 * 5 ^ k := by rw [Nat.pow_succ, Nat.mul_comm]
    have hu := two_ticks (u := (rsp s d l (2 * k)).1) (v := (rsp s d l (2 * k)).2) (M := 751 * ((5 ^ k : Nat) : Int) - 751) ho (hb (2 * k) (by omega)) (hb (2 * k + 1) (by omega)) (by omega) (by omega) ⟨by omega, by omega⟩ ⟨by omega, by omega⟩
    obtain ⟨_, _, _, t2, t3⟩ := tick_bd (x := (rsp s d l (2 * k)).1) (y := (rsp s d l (2 * k)).2) (M := 751 * ((5 ^ k : Nat) : Int) - 751) ho (hb (2 * k) (by omega)) (by omega) (by omega) ⟨by omega, by omega⟩ ⟨by omega, by omega⟩
    have e : 2 * (k + 1) = 2 * k + 1 + 1 := by omega
    rw [e, hs]
    simp only [rsp]
    omega

/-- No response of a valid record is greater. -/
theorem rsp_small {s d : Int} (ho : OsOk s d) {l : List Int} (hb : Bd 1000 l) (hl : l.length ≤ 23) {i : Nat} (hi : i ≤ l.length) : -1099511627776 ≤ (rsp s d l i).1 ∧ (rsp s d l i).1 ≤ 1099511627776 := by
  obtain ⟨h1, h2⟩ := rsp_two ho hb (i / 2) (by omega) (by omega)
  have hp : (5 : Nat) ^ (i / 2) ≤ 5 ^ 11 := Nat.pow_le_pow_right (by omega) (by omega)
  have h11 : (5 : Nat) ^ 11 = 48828125 := by decide
  have h0 : 1 ≤ (5 : Nat) ^ (i / 2) := by have := Nat.pow_le_pow_right (n := 5) (by omega) (Nat.zero_le (i / 2)); simpa using this
  rcases Nat.mod_two_eq_zero_or_one i with h | h
  · have e : i = 2 * (i / 2) := by omega
    rw [e]; omega
  · have e : i = 2 * (i / 2) + 1 := by omega
    obtain ⟨_, _, _, t2, t3⟩ := tick_bd (x := (rsp s d l (2 * (i / 2))).1) (y := (rsp s d l (2 * (i / 2))).2) (M := 751 * ((5 ^ (i / 2) : Nat) : Int) - 751) ho (hb (2 * (i / 2)) (by omega)) (by omega) (by omega) ⟨by omega, by omega⟩ ⟨by omega, by omega⟩
    rw [e]
    simp only [rsp]
    omega

/-! ### The opposite -/

def opp (l : List Int) : List Int := l.map fun a => -a
theorem opp_len (l : List Int) : (opp l).length = l.length := by simp [opp]
theorem opp_get (l : List Int) (i : Nat) : (opp l).getD i 0 = -(l.getD i 0) := by
  simp only [opp, List.getD_eq_getElem?_getD, List.getElem?_map]
  cases l[i]? <;> simp

theorem opp_bd {l : List Int} (hb : Bd 1000 l) : Bd 1000 (opp l) := by
  intro i hi
  rw [opp_len] at hi
  rw [opp_get]
  have := hb i hi
  omega

theorem tick_opp {s d a x y M : Int} (ho : OsOk s d) (ha : -1000 ≤ a ∧ a ≤ 1000) (hM : 0 ≤ M) (hM2 : M ≤ 500000000000000) (hx : -M ≤ x ∧ x ≤ M) (hy : -M ≤ y ∧ y ≤ M) : tick s d (-a) (-x) (-y) = -(tick s d a x y) := by
  obtain ⟨_, _, t1, _, _⟩ := tick_bd ho ha hM hM2 hx hy
  obtain ⟨_, _, t2, _, _⟩ := tick_bd (a := -a) (x := -x) (y := -y) ho (by omega) hM hM2 (by omega) (by omega)
  rw [t1, t2]
  have e : s * -x + d * (-x - -y) = -(s * x + d * (x - y)) := by
    simp only [Int.mul_sub, Int.mul_neg]; omega
  rw [e, Int.neg_tdiv]
  omega

theorem rsp_opp {s d : Int} (ho : OsOk s d) {l : List Int} (hb : Bd 1000 l) (hl : l.length ≤ 23) : ∀ i, i ≤ l.length → (rsp s d (opp l) i).1 = -(rsp s d l i).1 ∧ (rsp s d (opp l) i).2 = -(rsp s d l i).2
  | 0, _ => by simp [rsp]
  | i + 1, hi => by
    obtain ⟨h1, h2⟩ := rsp_opp ho hb hl i (by omega)
    have b1 := rsp_small ho hb hl (show i ≤ l.length by omega)
    have b2 : -1099511627776 ≤ (rsp s d l i).2 ∧ (rsp s d l i).2 ≤ 1099511627776 := by
      cases i with
      | zero => simp [rsp]
      | succ j => exact rsp_small ho hb hl (show j ≤ l.length by omega)
    simp only [rsp]
    rw [h1, h2, opp_get]
    exact ⟨tick_opp ho (hb i (by omega)) (by omega) (by omega) b1 b2, rfl⟩

theorem tick_zero (s d : Int) : tick s d 0 0 0 = 0 := by
  simp [tick, pullN, wrap64_bmod]
  decide

theorem rsp_later (s d : Int) (l : List Int) : ∀ i, rsp s d (0 :: l) (i + 1) = ((rsp s d l i).1, (rsp s d l i).2)
  | 0 => by simp [rsp, tick_zero]
  | i + 1 => by
    rw [rsp, rsp_later s d l i]
    simp [rsp]

theorem rsp_zero (s d : Int) (n : Nat) : ∀ i, rsp s d (List.replicate n 0) i = (0, 0)
  | 0 => rfl
  | i + 1 => by
    have e : (List.replicate n (0 : Int)).getD i 0 = 0 := by
      simp [List.getD_eq_getElem?_getD, List.getElem?_replicate]
      split <;> rfl
    rw [rsp, rsp_zero s d n i, e]
    simp [tick_zero]

theorem accE_bd {B : Int} {l : List Int} (h0 : 0 ≤ B) (h : Bd B l) : ∀ i : Nat, i ≤ l.length → -(B * i) ≤ accE l i ∧ accE l i ≤ B * i
  | 0, _ => by simp [accE]
  | i + 1, hi => by
    have hb := h i (by omega)
    have ih := accE_bd h0 h i (by omega)
    have e : B * ((i + 1 : Nat) : Int) = B * i + B := by rw [Int.natCast_add, Int.mul_add]; simp
    rw [accE]
    omega

theorem accE2_bd {l : List Int} (h : Bd 1000 l) (hl : l.length ≤ 24) : ∀ i : Nat, i ≤ l.length → -(24000 * (i : Int)) ≤ accE2 l i ∧ accE2 l i ≤ 24000 * (i : Int)
  | 0, _ => by simp [accE2]
  | i + 1, hi => by
    have ih := accE2_bd h hl i (by omega)
    have b := accE_bd (by omega) h (i + 1) hi
    rw [accE2]
    omega

/-- Without forces. -/
theorem rsp_free {l : List Int} (h : Bd 1000 l) (hl : l.length ≤ 24) : ∀ i, i < l.length → (rsp 0 0 l (i + 1)).1 = -(accE2 l (i + 1)) ∧ (rsp 0 0 l (i + 1)).2 = -(accE2 l i)
  | 0, hi => by
    have := h 0 hi
    simp only [rsp, accE2, accE]
    have e : tick 0 0 (l.getD 0 0) 0 0 = -(l.getD 0 0) := by
      obtain ⟨_, _, t, _, _⟩ := tick_bd (s := 0) (d := 0) (x := 0) (y := 0) (M := 0) ⟨by omega, by omega, by omega, by omega⟩ this (by omega) (by omega) (by omega) (by omega)
      rw [t]; simp
    rw [e]; simp
  | i + 1, hi => by
    obtain ⟨h1, h2⟩ := rsp_free h hl i (by omega)
    have b1 := accE2_bd h hl (i + 1) (by omega)
    have b0 := accE2_bd h hl i (by omega)
    have := h (i + 1) hi
    rw [rsp, h1, h2]
    have e : tick 0 0 (l.getD (i + 1) 0) (-(accE2 l (i + 1))) (-(accE2 l i)) = -(accE2 l (i + 1 + 1)) := by
      obtain ⟨_, _, t, _, _⟩ := tick_bd (s := 0) (d := 0) (x := -(accE2 l (i + 1))) (y := -(accE2 l i)) (M := 1000000) ⟨by omega, by omega, by omega, by omega⟩ this (by omega) (by omega) (by omega) (by omega)
      rw [t]
      have e2 : accE2 l (i + 1 + 1) = accE2 l (i + 1) + (accE l (i + 1) + l.getD (i + 1) 0) := rfl
      have e1 : accE2 l (i + 1) = accE2 l i + accE l (i + 1) := rfl
      rw [show (0 : Int) * -accE2 l (i + 1) + 0 * (-accE2 l (i + 1) - -accE2 l i) = 0 by omega, Int.zero_tdiv]
      omega
    exact ⟨e, rfl⟩

theorem accW_opp {l : List Int} {B : Int} (h0 : 0 ≤ B) (h : Bd B l) (hB : B * l.length ≤ 9223372036854775807) : ∀ i, i ≤ l.length → accW (opp l) i = -(accW l i)
  | 0, _ => by simp [accW]
  | i + 1, hi => by
    have hb := h i (by omega)
    have b := accW_bd h0 h hB i (by omega)
    have e : B * ((i + 1 : Nat) : Int) = B * i + B := by rw [Int.natCast_add, Int.mul_add]; simp
    have h2 : B * ((i + 1 : Nat) : Int) ≤ B * l.length := Int.mul_le_mul_of_nonneg_left (by omega) h0
    rw [accW, accW, accW_opp h0 h hB i (by omega), opp_get, wrap64_id (by omega) (by omega), wrap64_id (by omega) (by omega)]
    omega

theorem sums_opp {l : List Int} {B : Int} (h0 : 0 ≤ B) (h : Bd B l) (hB : B * l.length ≤ 9223372036854775807) : sumsL (opp l) l.length = opp (sumsL l l.length) := by
  simp only [sumsL, opp, List.map_map]
  refine List.map_congr_left fun i hi => ?_
  exact accW_opp h0 h hB (i + 1) (by have := List.mem_range.1 hi; omega)

theorem pk_opp {l : List Int} {B : Int} (hB : B ≤ 9223372036854775807) (h : Bd B l) : ∀ i, i ≤ l.length → pk (opp l) i = pk l i
  | 0, _ => rfl
  | i + 1, hi => by
    have hb := h i (by omega)
    rw [pk, pk, pk_opp hB h i (by omega), opp_get, sz_eq (by omega) (by omega), sz_eq (by omega) (by omega), Int.natAbs_neg]

/-- What an instrument records. -/
def recA (l : List Int) (e : Int) : Nat → Int
  | 0 => 0
  | i + 1 => wrap64 (l.getD i 0 + wrap64 (e * recA l e i))
def recL (l : List Int) (e : Int) (n : Nat) : List Int := (List.range n).map fun i => recA l e (i + 1)
/-- The number ahead. -/
def prv (l : List Int) : Nat → Int
  | 0 => 0
  | i + 1 => l.getD i 0
/-- Of what it records this. -/
def corA (l : List Int) (e : Int) (i : Nat) : Int := wrap64 (l.getD i 0 - wrap64 (e * prv l i))
def corL (l : List Int) (e : Int) (n : Nat) : List Int := (List.range n).map fun i => corA l e i

theorem recL_len (l : List Int) (e : Int) (n : Nat) : (recL l e n).length = n := by simp [recL]
theorem recL_succ (l : List Int) (e : Int) (n : Nat) : recL l e (n + 1) = recL l e n ++ [recA l e (n + 1)] := by simp [recL, List.range_succ]
theorem recL_get (l : List Int) (e : Int) {n i : Nat} (h : i < n) : (recL l e n).getD i 0 = recA l e (i + 1) := by simp [recL, List.getD, h]
theorem corL_len (l : List Int) (e : Int) (n : Nat) : (corL l e n).length = n := by simp [corL]
theorem corL_succ (l : List Int) (e : Int) (n : Nat) : corL l e (n + 1) = corL l e n ++ [corA l e n] := by simp [corL, List.range_succ]
theorem corL_get (l : List Int) (e : Int) {n i : Nat} (h : i < n) : (corL l e n).getD i 0 = corA l e i := by simp [corL, List.getD, h]

/-- The last result, whatever it was. -/
def corR (l : List Int) (e : Int) : Nat → Int
  | 0 => 0
  | i + 1 => corA l e i

theorem w2 : IntKind.wrap .i64 (0 - 2) = -2 := by decide

/-- The error of an echo. -/
def ecE (e : Int) : Int := if (decide (-2 ≤ e) && decide (e ≤ 2)) = true then 0 else 2

theorem f38_eq (x : Int) (l k : List Int) (h : k.length ≤ 1000000000) : f38 ((x, l, ()), k, ()) = some ((x, k, ()), ()) := by
  simp only [f38, t38, g70, f70_eq k h, Tr.val_test, Tr.val_fin, Option.isSome_some, Option.getD_some, if_true]

theorem ext0 {a b : List Int} (hl : a.length = b.length) (h : ∀ i, i < a.length → a.getD i 0 = b.getD i 0) : a = b := by
  refine List.ext_getElem hl fun i h1 h2 => ?_
  have := h i h1
  simpa [List.getD, h1, h2] using this

/-- Each undoes the other. -/
theorem cor_rec {l : List Int} (hb : Bd 1000 l) (e : Int) : corL (recL l e l.length) e l.length = l := by
  refine ext0 (by rw [corL_len]) fun i hi => ?_
  rw [corL_len] at hi
  rw [corL_get _ _ hi, corA, recL_get _ _ hi]
  have hp : prv (recL l e l.length) i = recA l e i := by
    cases i with
    | zero => rfl
    | succ j => exact recL_get l e (by omega)
  have := hb i hi
  rw [hp, recA, wrap64_sub_l, show l.getD i 0 + wrap64 (e * recA l e i) - wrap64 (e * recA l e i) = l.getD i 0 by omega, wrap64_id (by omega) (by omega)]

theorem rec_cor {l : List Int} (hb : Bd 1000 l) (e : Int) : recL (corL l e l.length) e l.length = l := by
  have key : ∀ i, i ≤ l.length → recA (corL l e l.length) e i = prv l i := by
    intro i
    induction i with
    | zero => intro _; rfl
    | succ i ih =>
      intro hi
      have := hb i (by omega)
      rw [recA, ih (by omega), corL_get _ _ (show i < l.length by omega), corA, wrap64_add_l, show l.getD i 0 - wrap64 (e * prv l i) + wrap64 (e * prv l i) = l.getD i 0 by omega, wrap64_id (by omega) (by omega)]
      rfl
  refine ext0 (by rw [recL_len]) fun i hi => ?_
  rw [recL_len] at hi
  rw [recL_get _ _ hi, key _ (by omega)]
  rfl

theorem chk_same {x : Int} {l k : List Int} (h : (chk x l).2 = 0) (hl : k.length = l.length) (hk : inAll (-1000) 1000 k = true) : (chk x k).2 = 0 := by
  obtain ⟨h1, h2, _, h3, h4⟩ := chk_ok h
  have hn : first (badS k) k.length 0 = none := Option.isNone_iff_eq_none.1 hk
  unfold chk
  rw [if_neg (by omega), if_neg (by omega), if_neg (by omega), hn]

theorem chk_of {x : Int} {l : List Int} (hx : 1 ≤ x ∧ x ≤ 1000000) (h2 : 2 ≤ l.length) (h24 : l.length ≤ 24) (hb : Bd 1000 l) : (chk x l).2 = 0 := by
  have hn : first (badS l) l.length 0 = none := Option.isNone_iff_eq_none.1 ((inAll_iff (-1000) 1000 l).2 hb)
  unfold chk
  rw [if_neg (by omega), if_neg (by omega), if_neg (by omega), hn]

theorem snoc_take {α : Type} (l : List α) (d : α) {i : Nat} (h : i < l.length) : l.take (i + 1) = l.take i ++ [l.getD i d] := by
  rw [List.take_add_one, List.getD_eq_getElem?_getD, List.getElem?_eq_getElem h]; rfl

theorem l9a (x : Int) (l : List Int) (hb : Bd 1000 l) (h9 : l.length ≤ 1000000000) (s d : Int) : l9_0 ((([] : List Int), (0 : Int), ()), (x, l, ()), (s, d, ()), ()) = some (.inl ((opp l, ()), (x, l, ()), (s, d, ()), ())) := by
  have key := itr_brk (step := s9_0) (fun i => (((opp l).take i, (i : Int), ()), (x, l, ()), (s, d, ()), ())) (n := l.length) (m := rounds) (b := (((opp l).take l.length, ()), (x, l, ()), (s, d, ()), ())) ?_ ?_ (lt_rounds (by omega))
  · have e : (opp l).take l.length = opp l := by rw [← opp_len l, List.take_length]
    rw [e] at key
    exact key
  · intro i hi
    have hbi := hb i hi
    have e := opp_get l i
    have ew : IntKind.wrap .i64 (0 - l.getD i 0) = (opp l).getD i 0 := by rw [e, wrapI_id (by omega) (by omega)]; omega
    simp only [s9_0, t9_0, Tr.val_test, Tr.val_fin, leF_eq, Int.toNat_natCast, ew]
    rw [if_pos (by simp; omega), if_pos (by simp; omega), if_pos (by simp [List.length_take, opp_len]; omega)]
    simp only [wrap64_nat (show i ≤ 9223372036854775806 by omega), snoc_take (opp l) 0 (show i < (opp l).length by rw [opp_len]; exact hi)]
  · simp [s9_0, t9_0, leF_eq]

theorem l9b (x : Int) (l o u v w z : List Int) (h9 : u.length ≤ 1000000000) (hv : v.length = u.length) (hw : w.length = u.length + 1) (hz : z.length = u.length)
    (hs : ∀ i, i < u.length → (-1099511627776 ≤ u.getD i 0 ∧ u.getD i 0 ≤ 1099511627776) ∧ v.getD i 0 = -(u.getD i 0) ∧ w.getD (i + 1) 0 = u.getD i 0 ∧ z.getD i 0 = 0) :
    l9_2 ((o, u, v, w, z, (0 : Int), ()), (x, l, ()), ()) = some (.inl ((o, u, ()), (x, l, ()), ())) := by
  refine itr_brk (fun i => ((o, u, v, w, z, (i : Int), ()), (x, l, ()), ())) (n := u.length) ?_ ?_ (lt_rounds (by omega))
  · intro i hi
    obtain ⟨h1, h2, h3, h4⟩ := hs i hi
    have ew : IntKind.wrap .i64 (0 - u.getD i 0) = -(u.getD i 0) := by rw [wrapI_id (by omega) (by omega)]; omega
    simp only [s9_2, t9_2, Tr.val_test, Tr.val_fin, leF_eq, eqF_eq, Int.toNat_natCast, g47, f47_eq, Option.isSome_some, Option.getD_some, if_true, wrap64_nat (show i ≤ 9223372036854775806 by omega), ew, h2, h3, h4, decide_true, Bool.not_true, Bool.false_eq_true, if_false]
    rw [if_pos (by simp; omega), if_pos (by simp; omega), if_neg (by simp only [h1.1, h1.2, decide_true, Bool.and_self, Bool.not_true, Bool.false_eq_true, not_false_eq_true]), if_pos (by simp; omega), if_pos (by simp; omega), if_pos (by simp; omega)]
  · simp [s9_2, t9_2, leF_eq]

theorem l9c (u v : List Int) (h9 : u.length ≤ 1000000000) (hv : v.length = u.length)
    (hs : ∀ i, i < u.length → (-1099511627776 ≤ u.getD i 0 ∧ u.getD i 0 ≤ 1099511627776) ∧ v.getD i 0 = -(u.getD i 0)) :
    l9_4 ((u, v, (0 : Int), ()), ()) = some (.inl ((), ())) := by
  refine itr_brk (fun i => ((u, v, (i : Int), ()), ())) (n := u.length) ?_ ?_ (lt_rounds (by omega))
  · intro i hi
    obtain ⟨h1, h2⟩ := hs i hi
    have ew : IntKind.wrap .i64 (0 - u.getD i 0) = -(u.getD i 0) := by rw [wrapI_id (by omega) (by omega)]; omega
    simp only [s9_4, t9_4, Tr.val_test, Tr.val_fin, leF_eq, eqF_eq, Int.toNat_natCast, g47, f47_eq, Option.isSome_some, Option.getD_some, if_true, wrap64_nat (show i ≤ 9223372036854775806 by omega), ew, h2, decide_true, Bool.not_true, Bool.false_eq_true, if_false]
    rw [if_pos (by simp; omega), if_pos (by simp; omega), if_neg (by simp only [h1.1, h1.2, decide_true, Bool.and_self, Bool.not_true, Bool.false_eq_true, not_false_eq_true]), if_pos (by simp; omega)]
  · simp [s9_4, t9_4, leF_eq]

theorem zero_bd (n : Nat) : Bd 1000 (List.replicate n 0) := by
  intro i hi
  have e : (List.replicate n (0 : Int)).getD i 0 = 0 := by
    simp only [List.getD_eq_getElem?_getD, List.getElem?_replicate]
    split <;> rfl
  rw [e]; omega

theorem cons_bd {l : List Int} (h : Bd 1000 l) : Bd 1000 (0 :: l) := by
  intro i hi
  cases i with
  | zero => show -1000 ≤ (0 : Int) ∧ (0 : Int) ≤ 1000; omega
  | succ j => exact h j (by simpa using hi)

/-- Peaks of the opposite. -/
theorem peaks_opp {l : List Int} (hb : Bd 1000 l) (hl : l.length ≤ 24) : pk (opp l) l.length = pk l l.length ∧ pk (sumsL (opp l) l.length) l.length = pk (sumsL l l.length) l.length ∧ pk (sumsL (sumsL (opp l) l.length) l.length) l.length = pk (sumsL (sumsL l l.length) l.length) l.length := by
  have s1 := sums_bd (B := 1000) (by omega) hb (by omega)
  have hsl := sumsL_len l l.length
  have hsq : 1000 * (l.length : Int) * l.length ≤ 1000 * 24 * 24 := Int.mul_le_mul (by omega) (by omega) (by omega) (by omega)
  have s2 := sums_bd (l := sumsL l l.length) (B := 1000 * (l.length : Int)) (by omega) s1 (by rw [hsl]; omega)
  rw [hsl] at s2
  have o1 := sums_opp (l := l) (B := 1000) (by omega) hb (by omega)
  have o2 := sums_opp (l := sumsL l l.length) (B := 1000 * (l.length : Int)) (by omega) s1 (by rw [hsl]; omega)
  rw [hsl] at o2
  refine ⟨pk_opp (B := 1000) (by omega) hb _ (Nat.le_refl _), ?_, ?_⟩
  · rw [o1]; exact pk_opp (B := 1000 * (l.length : Int)) (by omega) s1 _ (by rw [hsl]; exact Nat.le_refl _)
  · rw [o1, o2]; exact pk_opp (B := 1000 * (l.length : Int) * l.length) (by omega) s2 _ (by rw [sumsL_len]; exact Nat.le_refl _)

theorem f9_eq (x : Int) (l : List Int) (s d : Int) (h99 : l.length ≤ 1000000000) : f9 ((x, l, ()), (s, d, ()), ()) = some (true, ()) := by
  simp only [f9, t9, Tr.val_test, g29, f29_eq x l h99, g58, f58_eq s d, eqF_eq, leF_eq, Option.isSome_some, Option.getD_some, if_true, Tr.val_fin]
  by_cases h0 : (chk x l).2 = 0
  · by_cases h1 : osE s d = 0
    · by_cases h2 : 24 ≤ l.length
      · have h2' : (24 : Int) ≤ (l.length : Int) := by omega
        simp [h0, h1, h2']
      · have h2' : ¬ (24 : Int) ≤ (l.length : Int) := by omega
        obtain ⟨k2, k24, kb, kx, kx'⟩ := chk_ok h0
        have ho := osE_ok h1
        have hol := opp_len l
        have hOp := f56_eq x (opp l) (by omega) s d
        rw [chk_of ⟨kx, kx'⟩ (by omega) (by omega) (opp_bd kb), hol] at hOp
        have hLa := f56_eq x (0 :: l) (by simp; omega) s d
        rw [chk_of ⟨kx, kx'⟩ (by simp; omega) (by simp; omega) (cons_bd kb), List.length_cons] at hLa
        have hZe := f56_eq x (List.replicate l.length 0) (by simp; omega) s d
        rw [chk_of ⟨kx, kx'⟩ (by simp; omega) (by simp; omega) (zero_bd _), List.length_replicate] at hZe
        have hFr := f56_eq x l h99 0 0
        have e00 : osE 0 0 = 0 := rfl
        have hU := f56_eq x l h99 s d
        have hPo := f27_eq x (opp l) (by omega)
        rw [chk_of ⟨kx, kx'⟩ (by omega) (by omega) (opp_bd kb), hol] at hPo
        obtain ⟨p1, p2, p3⟩ := peaks_opp kb k24
        rw [p1, p2, p3] at hPo
        have hPl := f27_eq x l h99
        have hDi := f20_eq x l h99
        have hWo := f38_eq x l (opp l) (by omega)
        have hCp := f18_eq x l h99
        have hl9 := l9a x l kb h99 s d
        -- the four responses
        have hcmp : ∀ i, i < (respL s d l l.length).length → (-1099511627776 ≤ (respL s d l l.length).getD i 0 ∧ (respL s d l l.length).getD i 0 ≤ 1099511627776) ∧ (respL s d (opp l) l.length).getD i 0 = -((respL s d l l.length).getD i 0) ∧ (respL s d (0 :: l) (l.length + 1)).getD (i + 1) 0 = (respL s d l l.length).getD i 0 ∧ (respL s d (List.replicate l.length 0) l.length).getD i 0 = 0 := by
          intro i hi
          rw [respL_len] at hi
          rw [respL_get s d l hi, respL_get s d (opp l) hi, respL_get s d (0 :: l) (show i + 1 < l.length + 1 by omega), respL_get s d (List.replicate l.length 0) hi]
          refine ⟨rsp_small ho kb (by omega) (by omega), (rsp_opp ho kb (by omega) (i + 1) (by omega)).1, ?_, ?_⟩
          · rw [rsp_later]
          · rw [rsp_zero]
        have hB := l9b x l (opp l) (respL s d l l.length) (respL s d (opp l) l.length) (respL s d (0 :: l) (l.length + 1)) (respL s d (List.replicate l.length 0) l.length) (by rw [respL_len]; exact h99) (by rw [respL_len, respL_len]) (by rw [respL_len, respL_len]) (by rw [respL_len, respL_len]) hcmp
        have hw0 : (respL s d (0 :: l) (l.length + 1)).getD 0 0 = 0 := by
          rw [respL_get s d (0 :: l) (show 0 < l.length + 1 by omega), rsp_later]; rfl
        -- without forces
        have hdl : (sumsL (sumsL l l.length) l.length).length = l.length := sumsL_len _ _
        have hC := l9c (sumsL (sumsL l l.length) l.length) (respL 0 0 l l.length) (by rw [hdl]; exact h99) (by rw [respL_len, hdl]) (by
          intro i hi
          rw [hdl] at hi
          have b := accE2_bd kb k24 (i + 1) (by omega)
          have ea : accW (sumsL l l.length) (i + 1) = accE2 l (i + 1) := by rw [accW2_eq l _ (by omega), wrap64_id (by omega) (by omega)]
          rw [sumsL_get _ hi, ea, respL_get 0 0 l hi, (rsp_free kb k24 i hi).1]
          omega)
        have hn0 : ¬ l.length = 0 := by omega
        have hw1 : wrap64 ((l.length : Int) + 1) = ((l.length + 1 : Nat) : Int) := wrap64_nat (by omega)
        simp only [h0, h1, h2', decide_true, decide_false, Bool.not_true, Bool.false_eq_true, if_false, b9_0, hl9, isBrk, outB, if_true, g18, hCp, g56, hU, g38, hWo, hOp, Option.isSome_some, Option.getD_some, ne_eq, not_true_eq_false, List.nil_append, List.cons_append, hLa, hZe, Int.toNat_natCast, respL_len, hw1, b9_2, r9_2, hB, isRet, g27, hPl, hPo, g20, hDi, hFr, e00, hdl, r9_4, hC, hw0, beq_self_eq_true, Bool.and_self]
        rw [if_neg (by simp [hn0]), if_neg (by rw [ble_eq_true']; omega), if_pos (by simp; omega), if_neg (by rw [beq_eq_true']; omega), if_neg (by rw [ble_eq_true']; omega), if_pos (by simp; omega), if_pos (by rw [beq_eq_true']; simp; omega), if_pos (by rw [beq_eq_true']; simp; omega), if_pos (by simp; omega), if_neg (by rw [beq_eq_true']; omega), if_neg (by rw [ble_eq_true']; omega), if_pos (by simp; omega), if_pos (by rw [beq_eq_true']; simp), if_pos (by rw [beq_eq_true']; simp)]
        simp
    · simp [h0, h1]
  · simp [h0]

theorem f29_long (x : Int) (l : List Int) (h : 24 < l.length) : f29 ((x, l, ()), ()) = some ((chk x l).2, ()) ∧ (chk x l).2 ≠ 0 := by
  have h22 : f22 ((x, l, ()), ()) = some ((chk x l).1, (chk x l).2, ()) := by
    simp only [f22, t22, g47, f47_eq, Tr.val_test, leF_eq, Option.isSome, if_true, Option.getD]
    unfold chk
    by_cases h1 : x < 1 ∨ 1000000 < x
    · rw [if_pos h1, if_pos (by simp; omega)]; rfl
    · have h2 : ¬ l.length < 2 := by omega
      rw [if_neg h1, if_neg (by simp; omega)]
      rw [if_neg h2, if_neg (by simp; omega)]
      rw [if_pos h, if_pos (by simp; omega)]; rfl
  refine ⟨?_, ?_⟩
  · simp only [f29, t29, g22, h22, Tr.val_test, Tr.val_fin, Option.isSome_some, Option.getD_some, if_true]
  · unfold chk
    split
    · decide
    · split
      · decide
      · first | decide | (rw [if_pos h]; decide)

theorem f9_all (x : Int) (l : List Int) (s d : Int) : f9 ((x, l, ()), (s, d, ()), ()) = some (true, ()) := by
  by_cases h : l.length ≤ 1000000000
  · exact f9_eq x l s d h
  · obtain ⟨h1, h2⟩ := f29_long x l (by omega)
    simp only [f9, t9, Tr.val_test, g29, h1, eqF_eq, Option.isSome_some, Option.getD_some, if_true, Tr.val_fin]
    simp [h2]

theorem law9 (d : Tys.data as9) : Pure1 Go.Proofs.Try.prog 9 as9 [.bool] d (true, ()) := by
  have h := f9_all d.1.1 d.1.2.1 d.2.1.1 d.2.1.2.1
  have hp : p9.pre d = true := by
    show Option.isSome (f9 d) = true
    rw [show f9 d = some (true, ()) from h]; rfl
  have hg : p9.fn d = (true, ()) := by
    show (f9 d).getD _ = _
    rw [show f9 d = some (true, ()) from h]; rfl
  have := ok9.runs d hp
  rw [hg] at this
  exact this

end Go.Vm.Mo
