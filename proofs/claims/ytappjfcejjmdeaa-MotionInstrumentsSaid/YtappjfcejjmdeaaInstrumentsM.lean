import Derived.Test.YtappjfcejjmdeaaInstrumentsF
import Derived.Test.YtappjfcejjmdeaaA4
set_option linter.unusedVariables false
set_option linter.unusedSimpArgs false

namespace Go.Vm.Mo
open Go
set_option linter.unusedVariables false

def accW (l : List Int) : Nat → Int
  | 0 => 0
  | i + 1 => wrap64 (accW l i + l.getD i 0)

def sumsL (l : List Int) (n : Nat) : List Int := (List.range n).map fun i => accW l (i + 1)

theorem sumsL_len (l : List Int) (n : Nat) : (sumsL l n).length = n := by simp [sumsL]

theorem sumsL_succ (l : List Int) (n : Nat) : sumsL l (n + 1) = sumsL l n ++ [accW l (n + 1)] := by simp [sumsL, List.range_succ]

theorem sumsL_get (l : List Int) {n i : Nat} (h : i < n) : (sumsL l n).getD i 0 = accW l (i + 1) := by simp [sumsL, List.getD, h]

/-- Sums, exact. -/
def accE (l : List Int) : Nat → Int
  | 0 => 0
  | i + 1 => accE l i + l.getD i 0

def accE2 (l : List Int) : Nat → Int
  | 0 => 0
  | i + 1 => accE2 l i + accE l (i + 1)

theorem accW_eq (l : List Int) : ∀ i, accW l i = wrap64 (accE l i)
  | 0 => by simp [accW, accE, wrap64_bmod]
  | i + 1 => by rw [accW, accE, accW_eq l i, wrap64_add_l]

theorem accW2_eq (l : List Int) {n : Nat} : ∀ i, i ≤ n → accW (sumsL l n) i = wrap64 (accE2 l i)
  | 0, _ => by simp [accW, accE2, wrap64_bmod]
  | i + 1, h => by rw [accW, accE2, accW2_eq l i (by omega), sumsL_get l (by omega), accW_eq, wrap64_add_l, wrap64_add_r]

/-- The weighted sum. -/
def wsum (l : List Int) (n : Int) : Nat → Int
  | 0 => 0
  | i + 1 => wsum l n i + (n - i) * l.getD i 0

theorem wsum_eq (l : List Int) (n : Int) : ∀ i : Nat, wsum l n i = accE2 l i + (n - i) * accE l i
  | 0 => by simp [wsum, accE2, accE]
  | i + 1 => by
    rw [wsum, wsum_eq l n i, accE2, accE]
    have e : (n - ((i + 1 : Nat) : Int)) = (n - i) - 1 := by omega
    rw [e, Int.sub_mul _ 1, Int.one_mul, Int.mul_add]
    omega

theorem l23 (l : List Int) (h : l.length ≤ 1000000000) : l23_0 ((l, l, (0 : Int), ()), ()) = some (.inl ((), ())) := by
  refine itr_brk (fun i => ((l, l, (i : Int), ()), ())) (n := l.length) ?_ ?_ (lt_rounds (by omega))
  · intro i hi
    simp only [s23_0, t23_0, Tr.val_test, Tr.val_fin, leF_eq, eqF_eq]
    rw [if_pos (by simp; omega), if_pos (by simp; omega), if_pos (by simp; omega), if_neg (by simp)]
    simp only [wrap64_nat (show i ≤ 9223372036854775806 by omega)]
  · simp [s23_0, t23_0, leF_eq]

theorem f23_self (l : List Int) (h : l.length ≤ 1000000000) : f23 (l, l, ()) = some (true, ()) := by
  simp only [f23, t23, l23 l h, Tr.val_test, isRet, eqF_eq, decide_true, Bool.not_true, Bool.false_eq_true, if_false, Option.isSome, if_true]; rfl

def badS (l : List Int) (i : Nat) : Bool := !(decide (-1000 ≤ l.getD i 0) && decide (l.getD i 0 ≤ 1000))

def chk (x : Int) (l : List Int) : Int × Int :=
  if x < 1 ∨ 1000000 < x then (0, 2)
  else if l.length < 2 then (0, 10)
  else if 24 < l.length then (0, 8)
  else match first (badS l) l.length 0 with
    | some k => (k, 2)
    | none => (0, 0)

theorem f47_eq (d : Tys.data as47) : f47 d = some (decide ((d.2.1 : Int) ≤ d.1) && decide ((d.1 : Int) ≤ d.2.2.1), ()) := by
  simp only [f47, t47, Tr.val_test, leF_eq, decide_eq_true_eq]
  split <;> simp [*]

theorem f54_eq (d : Tys.data as54) : f54 d = some (decide ((-1000 : Int) ≤ d.1) && decide (d.1 ≤ (1000 : Int)), ()) := by
  simp only [f54, t54, g47, f47_eq, Tr.val_test, Option.isSome, if_true, Option.getD]; rfl

theorem l22 (x : Int) (l : List Int) (h : l.length ≤ 1000000000) : l22_0 (((0 : Int), ()), (x, l, ()), ()) = match first (badS l) l.length 0 with
    | some k => some (.inr (((k : Int), (2 : Int), ()), (x, l, ()), ()))
    | none => some (.inl ((), (x, l, ()), ())) := by
  refine itr_search (fun i => (((i : Int), ()), (x, l, ()), ())) (badS l) (fun k => (((k : Int), (2 : Int), ()), (x, l, ()), ())) (n := l.length) ?_ ?_ (lt_rounds (by omega))
  · intro i hi
    simp only [s22_0, t22_0, Tr.val_test, leF_eq, g54, f54_eq, Option.isSome, if_true, Option.getD]
    rw [if_pos (by simp; omega), if_pos (by simp; omega)]
    simp only [Int.toNat_natCast, wrap64_nat (show i ≤ 9223372036854775806 by omega), badS]
    rfl
  · simp [s22_0, t22_0, leF_eq]

theorem f22_eq (x : Int) (l : List Int) (h : l.length ≤ 1000000000) : f22 ((x, l, ()), ()) = some ((chk x l).1, (chk x l).2, ()) := by
  simp only [f22, t22, g47, f47_eq, Tr.val_test, leF_eq, Option.isSome, if_true, Option.getD, r22_0, l22 x l h]
  unfold chk
  by_cases h1 : x < 1 ∨ 1000000 < x
  · rw [if_pos h1, if_pos (by simp; omega)]; rfl
  · rw [if_neg h1, if_neg (by simp; omega)]
    by_cases h2 : l.length < 2
    · rw [if_pos h2, if_pos (by simp; omega)]; rfl
    · rw [if_neg h2, if_neg (by simp; omega)]
      by_cases h3 : 24 < l.length
      · rw [if_pos h3, if_pos (by simp; omega)]; rfl
      · rw [if_neg h3, if_neg (by simp; omega)]
        cases first (badS l) l.length 0 with
        | none => rfl
        | some k => rfl

theorem f86_eq (d : Tys.data as86) : f86 d = some (if d.1 = true then d.2.1 else (0 : Int), ()) := by
  simp only [f86, t86, Tr.val_test]
  split <;> rfl

/-- Where the first bad sample lies, and its error. -/
def badAt (l : List Int) : Int × Int := match first (badS l) l.length 0 with
  | some k => (k, 2)
  | none => (0, 0)

/-- Whether all lie in a range. -/
def inAll (lo hi : Int) (l : List Int) : Bool := (first (fun i => !(decide (lo ≤ l.getD i 0) && decide (l.getD i 0 ≤ hi))) l.length 0).isNone

theorem inAll_nil (lo hi : Int) : inAll lo hi [] = true := rfl

theorem first_map {bad : Nat → Bool} : ∀ (n i : Nat), first bad n (i + 1) = (first (fun j => bad (j + 1)) n i).map (· + 1)
  | 0, _ => rfl
  | n + 1, i => by
    simp only [first]
    split
    · rfl
    · exact first_map n (i + 1)

theorem inAll_cons (lo hi a : Int) (l : List Int) : inAll lo hi (a :: l) = ((decide (lo ≤ a) && decide (a ≤ hi)) && inAll lo hi l) := by
  unfold inAll
  simp only [List.length, first]
  rw [first_map]
  by_cases h : (decide (lo ≤ a) && decide (a ≤ hi)) = true
  · simp only [List.getD_cons_zero, h, Bool.not_true, Bool.false_eq_true, if_false, Bool.true_and, List.getD_cons_succ]
    cases first (fun i => !(decide (lo ≤ l.getD i 0) && decide (l.getD i 0 ≤ hi))) l.length 0 <;> rfl
  · simp only [Bool.not_eq_true] at h
    simp [h]

theorem inAll_iff (lo hi : Int) (l : List Int) : inAll lo hi l = true ↔ ∀ i, i < l.length → lo ≤ l.getD i 0 ∧ l.getD i 0 ≤ hi := by
  unfold inAll
  constructor
  · intro h i hi'
    have := first_none (Option.isNone_iff_eq_none.1 h) i (by omega) (by omega)
    simpa using this
  · intro h
    rw [first_of_none]
    · rfl
    · intro j _ hj
      have := h j (by omega)
      simp only [List.getD_eq_getElem?_getD] at this ⊢
      simp [this.1, this.2]

theorem l94 (lo hi : Int) (l : List Int) (h : l.length ≤ 1000000000) : l94_0 ((lo, hi, l, (l.length : Int), (0 : Int), ()), ()) = match first (fun i => !(decide (lo ≤ l.getD i 0) && decide (l.getD i 0 ≤ hi))) l.length 0 with
    | some _ => some (.inr ((false, ()), ()))
    | none => some (.inl ((), ())) := by
  refine itr_search (fun i => ((lo, hi, l, (l.length : Int), (i : Int), ()), ())) (fun i => !(decide (lo ≤ l.getD i 0) && decide (l.getD i 0 ≤ hi))) (fun k => ((false, ()), ())) (n := l.length) ?_ ?_ (lt_rounds (by omega))
  · intro i hi'
    simp only [s94_0, t94_0, Tr.val_test, leF_eq, Int.toNat_natCast]
    rw [if_pos (by simp; omega), if_pos (by simp; omega)]
    simp only [wrap64_nat (show i ≤ 9223372036854775806 by omega)]
    by_cases h1 : lo ≤ l.getD i 0
    · by_cases h2 : l.getD i 0 ≤ hi
      · rw [if_neg (by simpa using h1), if_neg (by simpa using h2), if_neg (by simpa using ⟨h1, h2⟩)]; rfl
      · rw [if_neg (by simpa using h1), if_pos (by simpa using h2), if_pos (by simp only [h1, h2, decide_true, decide_false, Bool.and_false, Bool.not_false])]; rfl
    · rw [if_pos (by simpa using h1), if_pos (by simp only [h1, decide_false, Bool.false_and, Bool.not_false])]; rfl
  · simp [s94_0, t94_0, leF_eq]

theorem f94_eq (lo hi : Int) (l : List Int) (h : l.length ≤ 1000000000) : f94 (lo, hi, l, ()) = some (inAll lo hi l, ()) := by
  simp only [f94, t94, Tr.val_test, r94_0, l94 lo hi l h, inAll]
  cases first (fun i => !(decide (lo ≤ l.getD i 0) && decide (l.getD i 0 ≤ hi))) l.length 0 <;> rfl

theorem f141_eq (x : Int) (l : List Int) (h : l.length ≤ 1000000000) : f141 (x, l, ()) = some (!inAll (IntKind.wrap .i64 (0 - x)) x l, ()) := by
  simp only [f141, t141, Tr.val_test, g94, f94_eq _ _ l h, Option.isSome_some, Option.getD_some, if_true, Tr.val_fin]

theorem w1000 : IntKind.wrap .i64 (0 - 1000) = -1000 := by decide

theorem f140_eq (d : Tys.data as140) : f140 d = some (if (decide (-1000 ≤ (d.2.1 : Int)) && decide ((d.2.1 : Int) ≤ 1000)) = true then (0 : Int) else 2, ()) := by
  obtain ⟨i, x, u⟩ := d
  show f140 (i, x, ()) = some (if (decide (-1000 ≤ x) && decide (x ≤ 1000)) = true then (0 : Int) else 2, ())
  simp only [f140, t140, Tr.val_test, g141, f141_eq 1000 [x] (by simp), g86, f86_eq, Option.isSome_some, Option.getD_some, if_true, Tr.val_fin, inAll_cons, inAll_nil, w1000, Bool.and_true]
  by_cases hx : (decide (-1000 ≤ x) && decide (x ≤ 1000)) = true
  · rw [if_pos hx, hx]; rfl
  · rw [if_neg hx]; simp only [Bool.not_eq_true] at hx; rw [hx]; rfl

theorem l106 (l : List Int) (h : l.length ≤ 1000000000) : l106_0 ((l, (l.length : Int), (0 : Int), ()), ()) = match first (badS l) l.length 0 with
    | some k => some (.inr (((k : Int), (2 : Int), ()), ()))
    | none => some (.inl ((), ())) := by
  refine itr_search (fun i => ((l, (l.length : Int), (i : Int), ()), ())) (badS l) (fun k => (((k : Int), (2 : Int), ()), ())) (n := l.length) ?_ ?_ (lt_rounds (by omega))
  · intro i hi
    simp only [s106_0, t106_0, Tr.val_test, leF_eq, eqF_eq, g140, f140_eq, Int.toNat_natCast, Option.isSome_some, Option.getD_some, if_true]
    rw [if_pos (by simp; omega), if_pos (by simp; omega)]
    simp only [wrap64_nat (show i ≤ 9223372036854775806 by omega)]
    unfold badS
    by_cases hx : (decide (-1000 ≤ l.getD i 0) && decide (l.getD i 0 ≤ 1000)) = true
    · rw [hx]; simp
    · simp only [Bool.not_eq_true] at hx
      rw [hx]; simp
  · simp [s106_0, t106_0, leF_eq]

theorem f87_eq (l : List Int) (h : l.length ≤ 1000000000) : f87 (l, ()) = some ((badAt l).1, (badAt l).2, ()) := by
  simp only [f87, t87, Tr.val_test, r106_0, l106 l h, badAt]
  cases first (badS l) l.length 0 with
  | none => rfl
  | some k => rfl

/-- The first that is not 0. -/
def firstNZ : List Int → Int
  | [] => 0
  | a :: l => if a = 0 then firstNZ l else a

theorem firstNZ_eq : ∀ l : List Int, (match first (fun i => !decide (l.getD i 0 = 0)) l.length 0 with
    | some k => l.getD k 0
    | none => 0) = firstNZ l
  | [] => rfl
  | a :: l => by
    simp only [List.length, first, firstNZ]
    by_cases ha : a = 0
    · subst ha
      have e := firstNZ_eq l
      have hf : first (fun i => !decide (((0 : Int) :: l).getD i 0 = 0)) l.length (0 + 1) = (first (fun i => !decide (l.getD i 0 = 0)) l.length 0).map (· + 1) := by
        rw [first_map]; rfl
      simp only [hf, List.getD_cons_zero, decide_true, Bool.not_true, Bool.false_eq_true, if_false, if_true]
      rw [← e]
      cases first (fun i => !decide (l.getD i 0 = 0)) l.length 0 with
      | none => rfl
      | some k => rfl
    · simp [ha]

theorem l85 (l : List Int) (h : l.length ≤ 1000000000) : l85_0 ((l, (l.length : Int), (0 : Int), ()), ()) = match first (fun i => !decide (l.getD i 0 = 0)) l.length 0 with
    | some k => some (.inr ((l.getD k 0, ()), ()))
    | none => some (.inl ((), ())) := by
  refine itr_search (fun i => ((l, (l.length : Int), (i : Int), ()), ())) (fun i => !decide (l.getD i 0 = 0)) (fun k => ((l.getD k 0, ()), ())) (n := l.length) ?_ ?_ (lt_rounds (by omega))
  · intro i hi
    simp only [s85_0, t85_0, Tr.val_test, leF_eq, eqF_eq]
    rw [if_pos (by simp; omega), if_pos (by simp; omega)]
    simp only [Int.toNat_natCast, wrap64_nat (show i ≤ 9223372036854775806 by omega)]
    rfl
  · simp [s85_0, t85_0, leF_eq]

theorem f85_eq (l : List Int) (h : l.length ≤ 1000000000) : f85 (l, ()) = some (firstNZ l, ()) := by
  simp only [f85, t85, Tr.val_test, r85_0, l85 l h, ← firstNZ_eq l]
  cases first (fun i => !decide (l.getD i 0 = 0)) l.length 0 with
  | none => rfl
  | some k => rfl

theorem f17_eq (x : Int) (l : List Int) (h : l.length ≤ 1000000000) : f17 ((x, l, ()), ()) = some ((chk x l).1, (chk x l).2, ()) := by
  have e := fun a b c : Int => f85_eq [a, b, c] (by simp)
  have hc : chk x l = if x < 1 ∨ 1000000 < x then (0, 2) else if l.length < 2 then (0, 10) else if 24 < l.length then (0, 8) else badAt l := rfl
  simp only [f17, t17, Tr.val_test, leF_eq, eqF_eq, g86, f86_eq, g87, f87_eq l h, g85, Option.isSome_some, Option.getD_some, if_true]
  rw [e, e, hc]
  simp only [Option.isSome_some, Option.getD_some, if_true, firstNZ]
  by_cases h1 : x < 1
  · have h1' : ¬ 1 ≤ x := by omega
    simp [h1, h1']
  · have h1' : 1 ≤ x := by omega
    by_cases h2 : 1000000 < x
    · have h2' : ¬ x ≤ 1000000 := by omega
      simp [h1', h2, h2']
    · have h2' : x ≤ 1000000 := by omega
      by_cases h3 : l.length < 2
      · have h3' : ¬ (2 : Int) ≤ l.length := by omega
        simp [h1, h1', h2, h2', h3, h3']
      · have h3' : (2 : Int) ≤ l.length := by omega
        by_cases h4 : 24 < l.length
        · have h4' : ¬ (l.length : Int) ≤ 24 := by omega
          simp [h1, h1', h2, h2', h3, h3', h4, h4']
        · have h4' : (l.length : Int) ≤ 24 := by omega
          simp [h1, h1', h2, h2', h3, h3', h4, h4']

theorem f88_eq (x : Int) (l : List Int) (h : l.length ≤ 1000000000) : f88 ((x, l, ()), ()) = some ((chk x l).2, ()) := by
  simp only [f88, t88, Tr.val_test, g17, f17_eq x l h, Option.isSome_some, Option.getD_some, if_true, Tr.val_fin]

theorem f70_eq (l : List Int) (h : l.length ≤ 1000000000) : f70 (l, ()) = some (l, ()) := by
  simp only [f70, t70, Tr.val_test, Tr.val_fin]
  by_cases h0 : l.length = 0
  · rw [List.eq_nil_of_length_eq_zero h0]; rfl
  · rw [if_neg (by simp [h0]), if_neg (by rw [ble_eq_true']; omega), if_pos (by simp; omega), if_pos (by simp)]
    rfl

theorem f18_eq (x : Int) (l : List Int) (h : l.length ≤ 1000000000) : f18 ((x, l, ()), ()) = some ((x, l, ()), ()) := by
  simp only [f18, t18, Tr.val_test, g70, f70_eq l h, Option.isSome_some, Option.getD_some, if_true, Tr.val_fin]

theorem f16_eq (x : Int) (l : List Int) : f16 ((x, l, ()), ()) = some (decide (l.length ≤ 26), ()) := by
  have : decide ((l.length : Int) ≤ 26) = decide (l.length ≤ 26) := decide_eq_decide.2 (by omega)
  simp only [f16, t16, leF_eq, Tr.val_fin, this]

theorem sums_last (l : List Int) (h : 0 < l.length) : (sumsL l l.length).getD (l.length - 1) 0 = wrap64 (accE l l.length) := by
  rw [sumsL_get l (by omega), accW_eq, Nat.sub_add_cancel h]

theorem sums2_last (l : List Int) (h : 0 < l.length) : (sumsL (sumsL l l.length) l.length).getD (l.length - 1) 0 = wrap64 (accE2 l l.length) := by
  rw [sumsL_get _ (by omega), Nat.sub_add_cancel h, accW2_eq l _ (Nat.le_refl _)]

theorem chk_len {x : Int} {l : List Int} (h : (chk x l).2 = 0) : 2 ≤ l.length := by
  unfold chk at h
  split at h
  · cases h
  · split at h
    · cases h
    · omega

/-- The greater of two. -/
def mx (a b : Int) : Int := if a < b then b else a
/-- A number without its sign. -/
def sz (a : Int) : Int := mx a (IntKind.wrap .i64 (0 - a))
/-- The greatest size of the first numbers. -/
def pk (l : List Int) : Nat → Int
  | 0 => 0
  | i + 1 => mx (pk l i) (sz (l.getD i 0))

theorem mx_mx (m a b : Int) : mx (mx m a) b = mx m (mx a b) := by
  unfold mx
  split <;> split <;> (try split) <;> omega

theorem sz_eq {a : Int} (h1 : -9223372036854775807 ≤ a) (h2 : a ≤ 9223372036854775807) : sz a = a.natAbs := by
  unfold sz mx
  rw [← wrap64_eq, wrap64_id (by omega) (by omega)]
  split <;> omega

theorem f29_eq (x : Int) (l : List Int) (h : l.length ≤ 1000000000) : f29 ((x, l, ()), ()) = some ((chk x l).2, ()) := by
  simp only [f29, t29, g22, f22_eq x l h, Tr.val_test, Tr.val_fin, Option.isSome_some, Option.getD_some, if_true]

/-- All are at most so great. -/
def Bd (B : Int) (l : List Int) : Prop := ∀ i, i < l.length → -B ≤ l.getD i 0 ∧ l.getD i 0 ≤ B

theorem chk_ok {x : Int} {l : List Int} (h : (chk x l).2 = 0) : 2 ≤ l.length ∧ l.length ≤ 24 ∧ Bd 1000 l ∧ 1 ≤ x ∧ x ≤ 1000000 := by
  unfold chk at h
  split at h
  · cases h
  · rename_i hx
    split at h
    · cases h
    · split at h
      · cases h
      · split at h
        · cases h
        · rename_i hn
          refine ⟨by omega, by omega, fun i hi => ?_, by omega, by omega⟩
          have := first_none hn i (by omega) (by omega)
          simpa [badS] using this

theorem pk_nonneg (l : List Int) : ∀ i, 0 ≤ pk l i
  | 0 => Int.le_refl 0
  | i + 1 => by
    have := pk_nonneg l i
    unfold pk mx
    split <;> omega

theorem pk_le {B : Int} {l : List Int} (h0 : 0 ≤ B) (hB : B ≤ 9223372036854775807) (h : Bd B l) : ∀ i, i ≤ l.length → pk l i ≤ B
  | 0, _ => h0
  | i + 1, hi => by
    have := pk_le h0 hB h i (by omega)
    have hb := h i (by omega)
    rw [pk, sz_eq (by omega) (by omega)]
    unfold mx
    split <;> omega

theorem pk_zero {B : Int} {l : List Int} (hB : B ≤ 9223372036854775807) (h : Bd B l) : ∀ n, n ≤ l.length → pk l n = 0 → ∀ i, i < n → l.getD i 0 = 0
  | 0, _, _, i, hi => by omega
  | n + 1, hn, e, i, hi => by
    have hb := h n (by omega)
    rw [pk, sz_eq (by omega) (by omega)] at e
    have hp := pk_nonneg l n
    have e1 : pk l n = 0 ∧ l.getD n 0 = 0 := by
      unfold mx at e
      split at e <;> omega
    rcases Nat.lt_succ_iff_lt_or_eq.1 hi with h1 | h1
    · exact pk_zero hB h n (by omega) e1.1 i h1
    · rw [h1]; exact e1.2

theorem pk_of_zero {l : List Int} : ∀ n, (∀ i, i < n → l.getD i 0 = 0) → pk l n = 0
  | 0, _ => rfl
  | n + 1, h => by
    rw [pk, pk_of_zero n fun i hi => h i (by omega), h n (by omega)]; rfl

theorem accW_bd {B : Int} {l : List Int} (h0 : 0 ≤ B) (h : Bd B l) (hB : B * l.length ≤ 9223372036854775807) : ∀ i : Nat, i ≤ l.length → -(B * i) ≤ accW l i ∧ accW l i ≤ B * i
  | 0, _ => by simp [accW]
  | i + 1, hi => by
    have hb := h i (by omega)
    have ih := accW_bd h0 h hB i (by omega)
    have e : B * ((i + 1 : Nat) : Int) = B * i + B := by rw [Int.natCast_add, Int.mul_add]; simp
    have h2 : B * ((i + 1 : Nat) : Int) ≤ B * l.length := Int.mul_le_mul_of_nonneg_left (by omega) h0
    rw [accW, wrap64_id (by omega) (by omega)]
    omega

theorem sums_bd {B : Int} {l : List Int} (h0 : 0 ≤ B) (h : Bd B l) (hB : B * l.length ≤ 9223372036854775807) : Bd (B * l.length) (sumsL l l.length) := by
  intro i hi
  rw [sumsL_len] at hi
  rw [sumsL_get l hi]
  have := accW_bd h0 h hB (i + 1) (by omega)
  have h2 : B * ((i + 1 : Nat) : Int) ≤ B * l.length := Int.mul_le_mul_of_nonneg_left (by omega) h0
  omega

/-- Where all sums are 0, all numbers are. -/
theorem sums_zero {B : Int} {l : List Int} (hB : B ≤ 9223372036854775807) (h : Bd B l) {n : Nat} (hn : n ≤ l.length) (e : ∀ i, i < n → accW l (i + 1) = 0) : ∀ i, i < n → l.getD i 0 = 0 := by
  intro i hi
  have hb := h i (by omega)
  have h1 := e i hi
  have h0 : accW l i = 0 := by
    cases i with
    | zero => rfl
    | succ j => exact e j (by omega)
  rw [accW, h0, Int.zero_add, wrap64_id (by omega) (by omega)] at h1
  exact h1

theorem pk_sums {B : Int} {l : List Int} (h0 : 0 ≤ B) (h : Bd B l) (hB : B * l.length ≤ 9223372036854775807) (hB2 : B ≤ 9223372036854775807) (hp : pk l l.length ≠ 0) : pk (sumsL l l.length) l.length ≠ 0 := by
  intro e
  have hs := sums_bd h0 h hB
  have hz := pk_zero hB hs l.length (by rw [sumsL_len]; exact Nat.le_refl _) e
  refine hp (pk_of_zero _ (sums_zero hB2 h (Nat.le_refl _) fun i hi => ?_))
  have := hz i hi
  rwa [sumsL_get l hi] at this

/-- The greatest common divisor of the first numbers, with a sign. -/
def dv (l : List Int) : Nat → Int
  | 0 => 0
  | i + 1 => euc (dv l i) (l.getD i 0)

theorem lt_r2 {n : Nat} (h : n ≤ 9223372036854775808) : n < rounds := by unfold rounds; omega

theorem mx_max (a b : Int) : mx a b = max a b := by unfold mx; omega

theorem euc_zero_left (b : Int) (h : b.natAbs ≤ 9223372036854775807) : (euc 0 b).natAbs = b.natAbs := by rw [euc_abs]; simp

theorem dv2 (a b : Int) (ha : a.natAbs ≤ 9223372036854775807) (hb : b.natAbs ≤ 9223372036854775807) : mx (dv [a, b] 2) (IntKind.wrap .i64 (0 - dv [a, b] 2)) = (Int.gcd a b : Int) := by
  have e0 : dv [a, b] 2 = euc (euc 0 a) b := rfl
  have e1 : (euc 0 a).natAbs = a.natAbs := euc_zero_left a ha
  have e2 : Int.gcd (euc 0 a) b = Int.gcd a b := by unfold Int.gcd; rw [e1]
  rw [e0, ← wrap64_eq, Int.zero_sub, mx_max, euc_gcd _ _ (by omega) (by omega) (by omega) (by omega), e2]

/-- A fraction in lowest terms. -/
def low (a b : Int) : Int × Int × Unit := (a.tdiv (Int.gcd a b), b.tdiv (Int.gcd a b), ())

theorem wrapI_id {n : Int} (h1 : -9223372036854775808 ≤ n) (h2 : n ≤ 9223372036854775807) : IntKind.wrap .i64 n = n := by rw [← wrap64_eq, wrap64_id h1 h2]

theorem low_wrap (a b : Int) (ha : a.natAbs ≤ 9223372036854775807) (hb : b.natAbs ≤ 9223372036854775807) : IntKind.wrap .i64 (a.tdiv (Int.gcd a b)) = (low a b).1 ∧ IntKind.wrap .i64 (b.tdiv (Int.gcd a b)) = (low a b).2.1 := by
  have h1 := tdiv_abs_le a (Int.gcd a b)
  have h2 := tdiv_abs_le b (Int.gcd a b)
  exact ⟨wrapI_id (by omega) (by omega), wrapI_id (by omega) (by omega)⟩

/-- Less, of fractions. -/
def lessF (a b : Int × Int × Unit) : Bool := !leF (wrap64 (b.1 * a.2.1)) (wrap64 (a.1 * b.2.1))

/-- What an instrument records. -/
def recA (l : List Int) (e : Int) : Nat → Int
  | 0 => 0
  | i + 1 => wrap64 (l.getD i 0 + wrap64 (e * recA l e i))
def recL (l : List Int) (e : Int) (n : Nat) : List Int := (List.range n).map fun i => recA l e (i + 1)
/-- The number ahead. -/
def prv (l : List Int) : Nat → Int
  | 0 => 0
  | i + 1 => l.getD i 0
/-- Of what it records this. -/
def corA (l : List Int) (e : Int) (i : Nat) : Int := wrap64 (l.getD i 0 - wrap64 (e * prv l i))
def corL (l : List Int) (e : Int) (n : Nat) : List Int := (List.range n).map fun i => corA l e i

theorem recL_len (l : List Int) (e : Int) (n : Nat) : (recL l e n).length = n := by simp [recL]
theorem recL_succ (l : List Int) (e : Int) (n : Nat) : recL l e (n + 1) = recL l e n ++ [recA l e (n + 1)] := by simp [recL, List.range_succ]
theorem recL_get (l : List Int) (e : Int) {n i : Nat} (h : i < n) : (recL l e n).getD i 0 = recA l e (i + 1) := by simp [recL, List.getD, h]
theorem corL_len (l : List Int) (e : Int) (n : Nat) : (corL l e n).length = n := by simp [corL]
theorem corL_succ (l : List Int) (e : Int) (n : Nat) : corL l e (n + 1) = corL l e n ++ [corA l e n] := by simp [corL, List.range_succ]
theorem corL_get (l : List Int) (e : Int) {n i : Nat} (h : i < n) : (corL l e n).getD i 0 = corA l e i := by simp [corL, List.getD, h]

theorem l98 (x : Int) (l : List Int) (h : l.length ≤ 1000000000) (e z : Int) : l98_0 ((([] : List Int), (0 : Int), (0 : Int), l, (l.length : Int), (0 : Int), ()), (e, ()), (x, l, ()), (z, ()), ()) = some (.inl ((recL l e l.length, ()), (e, ()), (x, l, ()), (z, ()), ())) := by
  refine itr_brk (fun i => ((recL l e i, prv l i, recA l e i, l, (l.length : Int), (i : Int), ()), (e, ()), (x, l, ()), (z, ()), ())) (n := l.length) ?_ ?_ (lt_rounds (by omega))
  · intro i hi
    simp only [s98_0, t98_0, Tr.val_test, Tr.val_fin, leF_eq]
    rw [if_pos (by simp; omega), if_pos (by simp; omega), if_pos (by simp [recL_len]; omega)]
    simp only [Int.toNat_natCast, recL_succ, wrap64_nat (show i ≤ 9223372036854775806 by omega)]
    rfl
  · simp [s98_0, t98_0, leF_eq]

/-- The last result, whatever it was. -/
def corR (l : List Int) (e : Int) : Nat → Int
  | 0 => 0
  | i + 1 => corA l e i

theorem l98b (x : Int) (l : List Int) (h : l.length ≤ 1000000000) (e z : Int) : l98_0_1 ((([] : List Int), (0 : Int), (0 : Int), l, (l.length : Int), (0 : Int), ()), (e, ()), (x, l, ()), (z, ()), ()) = some (.inl ((corL l e l.length, ()), (e, ()), (x, l, ()), (z, ()), ())) := by
  refine itr_brk (fun i => ((corL l e i, prv l i, corR l e i, l, (l.length : Int), (i : Int), ()), (e, ()), (x, l, ()), (z, ()), ())) (n := l.length) ?_ ?_ (lt_rounds (by omega))
  · intro i hi
    simp only [s98_0_1, t98_0_1, Tr.val_test, Tr.val_fin, leF_eq]
    rw [if_pos (by simp; omega), if_pos (by simp; omega), if_pos (by simp [corL_len]; omega)]
    simp only [Int.toNat_natCast, corL_succ, wrap64_nat (show i ≤ 9223372036854775806 by omega)]
    rfl
  · simp [s98_0_1, t98_0_1, leF_eq]

theorem f143_eq (x : Int) (l : List Int) (h : l.length ≤ 1000000000) : f143 (x, l, ()) = some (if inAll (-1000) 1000 l = true then (x, l, ()) else (0, [], ()), if inAll (-1000) 1000 l = true then 0 else 8, ()) := by
  simp only [f143, t143, g141, f141_eq 1000 l h, w1000, Tr.val_test, Tr.val_fin, Option.isSome_some, Option.getD_some, if_true]
  cases inAll (-1000) 1000 l <;> rfl

theorem w2 : IntKind.wrap .i64 (0 - 2) = -2 := by decide

/-- The error of an echo. -/
def ecE (e : Int) : Int := if (decide (-2 ≤ e) && decide (e ≤ 2)) = true then 0 else 2

theorem f35_eq (d : Tys.data as35) : f35 d = some (ecE d.1, ()) := by
  simp only [f35, t35, g47, f47_eq, Tr.val_test, Tr.val_fin, Option.isSome_some, Option.getD_some, if_true, ecE]
  cases (decide (-2 ≤ (d.1 : Int)) && decide ((d.1 : Int) ≤ 2)) <;> rfl

theorem f33_eq (x : Int) (l : List Int) (h : l.length ≤ 1000000000) (e : Int) : f33 ((x, l, ()), e, ()) = some (
    if (chk x l).2 ≠ 0 then ((0, [], ()), (chk x l).2, ()) else if ecE e ≠ 0 then ((0, [], ()), ecE e, ())
    else if inAll (-1000) 1000 (recL l e l.length) = true then ((x, recL l e l.length, ()), 0, ()) else ((0, [], ()), 8, ())) := by
  have e2 := fun a b : Int => f85_eq [a, b] (by simp)
  have h143 := f143_eq x (recL l e l.length) (by rw [recL_len]; exact h)
  simp only [f33, t33, g88, f88_eq x l h, g141, f141_eq 2 [e] (by simp), g86, f86_eq, g85, e2, w2, inAll_cons, inAll_nil, Bool.and_true, b98_0, l98 x l h e 0, g143, h143, Tr.val_test, Tr.val_fin, eqF_eq, Option.isSome_some, Option.getD_some, if_true, isBrk, outB, firstNZ, ecE]
  by_cases h0 : (chk x l).2 = 0
  · by_cases hx : (decide (-2 ≤ e) && decide (e ≤ 2)) = true
    · simp only [hx]
      by_cases hq : inAll (-1000) 1000 (recL l e l.length) = true
      · simp only [hq]; simp [h0]
      · simp only [Bool.not_eq_true] at hq; simp only [hq]; simp [h0]
    · simp only [Bool.not_eq_true] at hx; simp only [hx]; simp [h0]
  · simp [h0]

theorem f34_eq (x : Int) (l : List Int) (h : l.length ≤ 1000000000) (e : Int) : f34 ((x, l, ()), e, ()) = some (
    if (chk x l).2 ≠ 0 then ((0, [], ()), (chk x l).2, ()) else if ecE e ≠ 0 then ((0, [], ()), ecE e, ())
    else if inAll (-1000) 1000 (corL l e l.length) = true then ((x, corL l e l.length, ()), 0, ()) else ((0, [], ()), 8, ())) := by
  have e2 := fun a b : Int => f85_eq [a, b] (by simp)
  have h143 := f143_eq x (corL l e l.length) (by rw [corL_len]; exact h)
  simp only [f34, t34, g88, f88_eq x l h, g141, f141_eq 2 [e] (by simp), g86, f86_eq, g85, e2, w2, inAll_cons, inAll_nil, Bool.and_true, b98_0_1, l98b x l h e 0, g143, h143, Tr.val_test, Tr.val_fin, eqF_eq, Option.isSome_some, Option.getD_some, if_true, isBrk, outB, firstNZ, ecE]
  by_cases h0 : (chk x l).2 = 0
  · by_cases hx : (decide (-2 ≤ e) && decide (e ≤ 2)) = true
    · simp only [hx]
      by_cases hq : inAll (-1000) 1000 (corL l e l.length) = true
      · simp only [hq]; simp [h0]
      · simp only [Bool.not_eq_true] at hq; simp only [hq]; simp [h0]
    · simp only [Bool.not_eq_true] at hx; simp only [hx]; simp [h0]
  · simp [h0]

theorem l37 (l : List Int) (h : l.length ≤ 1000000000) (e : Int) : l37_0 ((l, e, ([] : List Int), (0 : Int), (0 : Int), ()), ()) = match first (fun i => !(decide (-1000 ≤ (recL l e l.length).getD i 0) && decide ((recL l e l.length).getD i 0 ≤ 1000))) l.length 0 with
    | some _ => some (.inr ((false, ()), ()))
    | none => some (.inl ((recL l e l.length, ()), ())) := by
  refine itr_search (fun i => ((l, e, recL l e i, recA l e i, (i : Int), ()), ())) (fun i => !(decide (-1000 ≤ (recL l e l.length).getD i 0) && decide ((recL l e l.length).getD i 0 ≤ 1000))) (fun k => ((false, ()), ())) (n := l.length) ?_ ?_ (lt_rounds (by omega))
  · intro i hi
    have hr : recA l e (i + 1) = wrap64 (l.getD i 0 + wrap64 (e * recA l e i)) := rfl
    simp only [s37_0, t37_0, Tr.val_test, Tr.val_fin, leF_eq, Int.toNat_natCast, ← hr, g54, f54_eq, Option.isSome_some, Option.getD_some, if_true, recL_get l e hi]
    rw [if_pos (by simp; omega), if_pos (by simp; omega)]
    by_cases hx : (!(decide (-1000 ≤ recA l e (i + 1)) && decide (recA l e (i + 1) ≤ 1000))) = true
    · rw [if_pos hx, if_pos hx]
    · rw [if_neg hx, if_neg hx, if_pos (by simp [recL_len]; omega)]
      simp only [recL_succ, wrap64_nat (show i ≤ 9223372036854775806 by omega)]
  · simp [s37_0, t37_0, leF_eq]

theorem f37_eq (l : List Int) (h : l.length ≤ 1000000000) (e : Int) : f37 (l, e, ()) = some (if inAll (-1000) 1000 (recL l e l.length) = true then recL l e l.length else [], inAll (-1000) 1000 (recL l e l.length), ()) := by
  unfold inAll
  simp only [f37, t37, r37_0, b37_0, l37 l h e, Tr.val_test, Tr.val_fin, recL_len]
  cases first (fun i => !(decide (-1000 ≤ (recL l e l.length).getD i 0) && decide ((recL l e l.length).getD i 0 ≤ 1000))) l.length 0 <;> rfl

theorem l39 (l : List Int) (h : l.length ≤ 1000000000) (e : Int) : l39_0 ((l, e, ([] : List Int), (0 : Int), (0 : Int), ()), ()) = match first (fun i => !(decide (-1000 ≤ (corL l e l.length).getD i 0) && decide ((corL l e l.length).getD i 0 ≤ 1000))) l.length 0 with
    | some _ => some (.inr ((false, ()), ()))
    | none => some (.inl ((corL l e l.length, ()), ())) := by
  refine itr_search (fun i => ((l, e, corL l e i, prv l i, (i : Int), ()), ())) (fun i => !(decide (-1000 ≤ (corL l e l.length).getD i 0) && decide ((corL l e l.length).getD i 0 ≤ 1000))) (fun k => ((false, ()), ())) (n := l.length) ?_ ?_ (lt_rounds (by omega))
  · intro i hi
    have hr : corA l e i = wrap64 (l.getD i 0 - wrap64 (e * prv l i)) := rfl
    simp only [s39_0, t39_0, Tr.val_test, Tr.val_fin, leF_eq, Int.toNat_natCast, ← hr, g54, f54_eq, Option.isSome_some, Option.getD_some, if_true, corL_get l e hi]
    rw [if_pos (by simp; omega), if_pos (by simp; omega)]
    by_cases hx : (!(decide (-1000 ≤ corA l e i) && decide (corA l e i ≤ 1000))) = true
    · rw [if_pos hx, if_pos hx]
    · rw [if_neg hx, if_neg hx, if_pos (by simp [corL_len]; omega)]
      simp only [corL_succ, wrap64_nat (show i ≤ 9223372036854775806 by omega)]
      rfl
  · simp [s39_0, t39_0, leF_eq]

theorem f39_eq (l : List Int) (h : l.length ≤ 1000000000) (e : Int) : f39 (l, e, ()) = some (if inAll (-1000) 1000 (corL l e l.length) = true then corL l e l.length else [], inAll (-1000) 1000 (corL l e l.length), ()) := by
  unfold inAll
  simp only [f39, t39, r39_0, b39_0, l39 l h e, Tr.val_test, Tr.val_fin, corL_len]
  cases first (fun i => !(decide (-1000 ≤ (corL l e l.length).getD i 0) && decide ((corL l e l.length).getD i 0 ≤ 1000))) l.length 0 <;> rfl

theorem f36_self (x : Int) (l : List Int) (h : l.length ≤ 1000000000) : f36 ((x, l, ()), (x, l, ()), ()) = some (true, ()) := by
  simp only [f36, t36, eqF_eq, g23, f23_self l h, decide_true, Tr.val_test, Tr.val_fin, Option.isSome_some, Option.getD_some, if_true]

theorem f38_eq (x : Int) (l k : List Int) (h : k.length ≤ 1000000000) : f38 ((x, l, ()), k, ()) = some ((x, k, ()), ()) := by
  simp only [f38, t38, g70, f70_eq k h, Tr.val_test, Tr.val_fin, Option.isSome_some, Option.getD_some, if_true]

theorem ext0 {a b : List Int} (hl : a.length = b.length) (h : ∀ i, i < a.length → a.getD i 0 = b.getD i 0) : a = b := by
  refine List.ext_getElem hl fun i h1 h2 => ?_
  have := h i h1
  simpa [List.getD, h1, h2] using this

/-- Each undoes the other. -/
theorem cor_rec {l : List Int} (hb : Bd 1000 l) (e : Int) : corL (recL l e l.length) e l.length = l := by
  refine ext0 (by rw [corL_len]) fun i hi => ?_
  rw [corL_len] at hi
  rw [corL_get _ _ hi, corA, recL_get _ _ hi]
  have hp : prv (recL l e l.length) i = recA l e i := by
    cases i with
    | zero => rfl
    | succ j => exact recL_get l e (by omega)
  have := hb i hi
  rw [hp, recA, wrap64_sub_l, show l.getD i 0 + wrap64 (e * recA l e i) - wrap64 (e * recA l e i) = l.getD i 0 by omega, wrap64_id (by omega) (by omega)]

theorem rec_cor {l : List Int} (hb : Bd 1000 l) (e : Int) : recL (corL l e l.length) e l.length = l := by
  have key : ∀ i, i ≤ l.length → recA (corL l e l.length) e i = prv l i := by
    intro i
    induction i with
    | zero => intro _; rfl
    | succ i ih =>
      intro hi
      have := hb i (by omega)
      rw [recA, ih (by omega), corL_get _ _ (show i < l.length by omega), corA, wrap64_add_l, show l.getD i 0 - wrap64 (e * prv l i) + wrap64 (e * prv l i) = l.getD i 0 by omega, wrap64_id (by omega) (by omega)]
      rfl
  refine ext0 (by rw [recL_len]) fun i hi => ?_
  rw [recL_len] at hi
  rw [recL_get _ _ hi, key _ (by omega)]
  rfl

theorem chk_same {x : Int} {l k : List Int} (h : (chk x l).2 = 0) (hl : k.length = l.length) (hk : inAll (-1000) 1000 k = true) : (chk x k).2 = 0 := by
  obtain ⟨h1, h2, _, h3, h4⟩ := chk_ok h
  have hn : first (badS k) k.length 0 = none := Option.isNone_iff_eq_none.1 hk
  unfold chk
  rw [if_neg (by omega), if_neg (by omega), if_neg (by omega), hn]

theorem f5_eq (x : Int) (l : List Int) (e : Int) : f5 ((x, l, ()), e, ()) = some (true, ()) := by
  simp only [f5, t5, Tr.val_test, g16, f16_eq x l, Option.isSome_some, Option.getD_some, if_true]
  by_cases h : l.length ≤ 26
  · rw [if_neg (by simp [h])]
    have h9 : l.length ≤ 1000000000 := by omega
    have hr9 : (recL l e l.length).length ≤ 1000000000 := by rw [recL_len]; exact h9
    have hc9 : (corL l e l.length).length ≤ 1000000000 := by rw [corL_len]; exact h9
    have hn := f36_self 0 [] (by simp)
    have hsr := f36_self x (recL l e l.length) hr9
    have hsc := f36_self x (corL l e l.length) hc9
    have hsl := f36_self x l h9
    have hwr := f38_eq x l (recL l e l.length) hr9
    have hwc := f38_eq x l (corL l e l.length) hc9
    have hkr := f18_eq x (recL l e l.length) hr9
    have hkc := f18_eq x (corL l e l.length) hc9
    have hbr := f34_eq x (recL l e l.length) hr9 e
    have hbc := f33_eq x (corL l e l.length) hc9 e
    rw [recL_len] at hbr
    rw [corL_len] at hbc
    simp only [g18, f18_eq x l h9, g33, f33_eq x l h9 e, g34, f34_eq x l h9 e, g29, f29_eq x l h9, g35, f35_eq, g37, f37_eq l h9 e, g39, f39_eq l h9 e, eqF_eq, leF_eq, Option.isSome_some, Option.getD_some, if_true, Tr.val_fin]
    by_cases h0 : (chk x l).2 = 0
    · obtain ⟨k2, k24, kb, _, _⟩ := chk_ok h0
      rw [cor_rec kb e] at hbr
      rw [rec_cor kb e] at hbc
      have hin : inAll (-1000) 1000 l = true := (inAll_iff _ _ _).2 kb
      by_cases h1 : ecE e = 0
      · cases q1 : inAll (-1000) 1000 (recL l e l.length) with
        | false =>
          cases q2 : inAll (-1000) 1000 (corL l e l.length) with
          | false => simp [h0, h1, g36, hn]
          | true =>
            have hx := chk_same h0 (corL_len l e l.length) q2
            simp [h0, h1, g36, hn, hsc, g38, hwc, hkc, hbc, hx, hin, hsl]
        | true =>
          have hy := chk_same h0 (recL_len l e l.length) q1
          cases q2 : inAll (-1000) 1000 (corL l e l.length) with
          | false => simp [h0, h1, g36, hn, hsr, g38, hwr, hkr, hbr, hy, hin, hsl]
          | true =>
            have hx := chk_same h0 (corL_len l e l.length) q2
            simp [h0, h1, g36, hsr, hsc, g38, hwr, hwc, hkr, hkc, hbr, hbc, hx, hy, hin, hsl]
      · simp [h0, h1, g36, hn]
    · simp [h0, g36, hn]
  · rw [if_pos (by simp [h])]; rfl

theorem law5 (d : Tys.data as5) : Pure1 Go.Proofs.Try.prog 5 as5 [.bool] d (true, ()) := by
  have h := f5_eq d.1.1 d.1.2.1 d.2.1
  have hp : p5.pre d = true := by
    show Option.isSome (f5 d) = true
    rw [show f5 d = some (true, ()) from h]; rfl
  have hg : p5.fn d = (true, ()) := by
    show (f5 d).getD _ = _
    rw [show f5 d = some (true, ()) from h]; rfl
  have := ok5.runs d hp
  rw [hg] at this
  exact this

end Go.Vm.Mo
