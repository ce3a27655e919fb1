import Derived.Test.YtappjfcejjmdeaaDurationsF
import Derived.Test.YtappjfcejjmdeaaA4
set_option linter.unusedVariables false
set_option linter.unusedSimpArgs false

namespace Go.Vm.Mo
open Go
set_option linter.unusedVariables false

def accW (l : List Int) : Nat → Int
  | 0 => 0
  | i + 1 => wrap64 (accW l i + l.getD i 0)

def sumsL (l : List Int) (n : Nat) : List Int := (List.range n).map fun i => accW l (i + 1)

theorem sumsL_len (l : List Int) (n : Nat) : (sumsL l n).length = n := by simp [sumsL]

theorem sumsL_succ (l : List Int) (n : Nat) : sumsL l (n + 1) = sumsL l n ++ [accW l (n + 1)] := by simp [sumsL, List.range_succ]

theorem sumsL_get (l : List Int) {n i : Nat} (h : i < n) : (sumsL l n).getD i 0 = accW l (i + 1) := by simp [sumsL, List.getD, h]

/-- Sums, exact. -/
def accE (l : List Int) : Nat → Int
  | 0 => 0
  | i + 1 => accE l i + l.getD i 0

def accE2 (l : List Int) : Nat → Int
  | 0 => 0
  | i + 1 => accE2 l i + accE l (i + 1)

theorem accW_eq (l : List Int) : ∀ i, accW l i = wrap64 (accE l i)
  | 0 => by simp [accW, accE, wrap64_bmod]
  | i + 1 => by rw [accW, accE, accW_eq l i, wrap64_add_l]

theorem accW2_eq (l : List Int) {n : Nat} : ∀ i, i ≤ n → accW (sumsL l n) i = wrap64 (accE2 l i)
  | 0, _ => by simp [accW, accE2, wrap64_bmod]
  | i + 1, h => by rw [accW, accE2, accW2_eq l i (by omega), sumsL_get l (by omega), accW_eq, wrap64_add_l, wrap64_add_r]

/-- The weighted sum. -/
def wsum (l : List Int) (n : Int) : Nat → Int
  | 0 => 0
  | i + 1 => wsum l n i + (n - i) * l.getD i 0

theorem wsum_eq (l : List Int) (n : Int) : ∀ i : Nat, wsum l n i = accE2 l i + (n - i) * accE l i
  | 0 => by simp [wsum, accE2, accE]
  | i + 1 => by
    rw [wsum, wsum_eq l n i, accE2, accE]
    have e : (n - ((i + 1 : Nat) : Int)) = (n - i) - 1 := by omega
    rw [e, Int.sub_mul _ 1, Int.one_mul, Int.mul_add]
    omega

theorem l89 (l : List Int) (h : l.length ≤ 1000000000) : l89_0 (([], (0 : Int), l, (l.length : Int), (0 : Int), ()), ()) = some (.inl ((sumsL l l.length, ()), ())) := by
  refine itr_brk (fun i => ((sumsL l i, accW l i, l, (l.length : Int), (i : Int), ()), ())) (n := l.length) ?_ ?_ (lt_rounds (by omega))
  · intro i hi
    simp only [s89_0, t89_0, Tr.val_test, Tr.val_fin, leF_eq]
    rw [if_pos (by simp; omega), if_pos (by simp; omega), if_pos (by simp [sumsL_len]; omega)]
    simp only [Int.toNat_natCast, sumsL_succ, wrap64_nat (show i ≤ 9223372036854775806 by omega), accW]
  · simp [s89_0, t89_0, leF_eq]

theorem f89_eq (l : List Int) (h : l.length ≤ 1000000000) : f89 (l, ()) = some (sumsL l l.length, ()) := by
  simp only [f89, t89, b89_0, l89 l h, Tr.val_test, isBrk, if_true, outB]; rfl

def badS (l : List Int) (i : Nat) : Bool := !(decide (-1000 ≤ l.getD i 0) && decide (l.getD i 0 ≤ 1000))

def chk (x : Int) (l : List Int) : Int × Int :=
  if x < 1 ∨ 1000000 < x then (0, 2)
  else if l.length < 2 then (0, 10)
  else if 24 < l.length then (0, 8)
  else match first (badS l) l.length 0 with
    | some k => (k, 2)
    | none => (0, 0)

theorem f47_eq (d : Tys.data as47) : f47 d = some (decide ((d.2.1 : Int) ≤ d.1) && decide ((d.1 : Int) ≤ d.2.2.1), ()) := by
  simp only [f47, t47, Tr.val_test, leF_eq, decide_eq_true_eq]
  split <;> simp [*]

theorem f54_eq (d : Tys.data as54) : f54 d = some (decide ((-1000 : Int) ≤ d.1) && decide (d.1 ≤ (1000 : Int)), ()) := by
  simp only [f54, t54, g47, f47_eq, Tr.val_test, Option.isSome, if_true, Option.getD]; rfl

theorem l22 (x : Int) (l : List Int) (h : l.length ≤ 1000000000) : l22_0 (((0 : Int), ()), (x, l, ()), ()) = match first (badS l) l.length 0 with
    | some k => some (.inr (((k : Int), (2 : Int), ()), (x, l, ()), ()))
    | none => some (.inl ((), (x, l, ()), ())) := by
  refine itr_search (fun i => (((i : Int), ()), (x, l, ()), ())) (badS l) (fun k => (((k : Int), (2 : Int), ()), (x, l, ()), ())) (n := l.length) ?_ ?_ (lt_rounds (by omega))
  · intro i hi
    simp only [s22_0, t22_0, Tr.val_test, leF_eq, g54, f54_eq, Option.isSome, if_true, Option.getD]
    rw [if_pos (by simp; omega), if_pos (by simp; omega)]
    simp only [Int.toNat_natCast, wrap64_nat (show i ≤ 9223372036854775806 by omega), badS]
    rfl
  · simp [s22_0, t22_0, leF_eq]

theorem f22_eq (x : Int) (l : List Int) (h : l.length ≤ 1000000000) : f22 ((x, l, ()), ()) = some ((chk x l).1, (chk x l).2, ()) := by
  simp only [f22, t22, g47, f47_eq, Tr.val_test, leF_eq, Option.isSome, if_true, Option.getD, r22_0, l22 x l h]
  unfold chk
  by_cases h1 : x < 1 ∨ 1000000 < x
  · rw [if_pos h1, if_pos (by simp; omega)]; rfl
  · rw [if_neg h1, if_neg (by simp; omega)]
    by_cases h2 : l.length < 2
    · rw [if_pos h2, if_pos (by simp; omega)]; rfl
    · rw [if_neg h2, if_neg (by simp; omega)]
      by_cases h3 : 24 < l.length
      · rw [if_pos h3, if_pos (by simp; omega)]; rfl
      · rw [if_neg h3, if_neg (by simp; omega)]
        cases first (badS l) l.length 0 with
        | none => rfl
        | some k => rfl

theorem f86_eq (d : Tys.data as86) : f86 d = some (if d.1 = true then d.2.1 else (0 : Int), ()) := by
  simp only [f86, t86, Tr.val_test]
  split <;> rfl

/-- Where the first bad sample lies, and its error. -/
def badAt (l : List Int) : Int × Int := match first (badS l) l.length 0 with
  | some k => (k, 2)
  | none => (0, 0)

/-- Whether all lie in a range. -/
def inAll (lo hi : Int) (l : List Int) : Bool := (first (fun i => !(decide (lo ≤ l.getD i 0) && decide (l.getD i 0 ≤ hi))) l.length 0).isNone

theorem inAll_nil (lo hi : Int) : inAll lo hi [] = true := rfl

theorem first_map {bad : Nat → Bool} : ∀ (n i : Nat), first bad n (i + 1) = (first (fun j => bad (j + 1)) n i).map (· + 1)
  | 0, _ => rfl
  | n + 1, i => by
    simp only [first]
    split
    · rfl
    · exact first_map n (i + 1)

theorem inAll_cons (lo hi a : Int) (l : List Int) : inAll lo hi (a :: l) = ((decide (lo ≤ a) && decide (a ≤ hi)) && inAll lo hi l) := by
  unfold inAll
  simp only [List.length, first]
  rw [first_map]
  by_cases h : (decide (lo ≤ a) && decide (a ≤ hi)) = true
  · simp only [List.getD_cons_zero, h, Bool.not_true, Bool.false_eq_true, if_false, Bool.true_and, List.getD_cons_succ]
    cases first (fun i => !(decide (lo ≤ l.getD i 0) && decide (l.getD i 0 ≤ hi))) l.length 0 <;> rfl
  · simp only [Bool.not_eq_true] at h
    simp [h]

theorem inAll_iff (lo hi : Int) (l : List Int) : inAll lo hi l = true ↔ ∀ i, i < l.length → lo ≤ l.getD i 0 ∧ l.getD i 0 ≤ hi := by
  unfold inAll
  constructor
  · intro h i hi'
    have := first_none (Option.isNone_iff_eq_none.1 h) i (by omega) (by omega)
    simpa using this
  · intro h
    rw [first_of_none]
    · rfl
    · intro j _ hj
      have := h j (by omega)
      simp only [List.getD_eq_getElem?_getD] at this ⊢
      simp [this.1, this.2]

theorem l94 (lo hi : Int) (l : List Int) (h : l.length ≤ 1000000000) : l94_0 ((lo, hi, l, (l.length : Int), (0 : Int), ()), ()) = match first (fun i => !(decide (lo ≤ l.getD i 0) && decide (l.getD i 0 ≤ hi))) l.length 0 with
    | some _ => some (.inr ((false, ()), ()))
    | none => some (.inl ((), ())) := by
  refine itr_search (fun i => ((lo, hi, l, (l.length : Int), (i : Int), ()), ())) (fun i => !(decide (lo ≤ l.getD i 0) && decide (l.getD i 0 ≤ hi))) (fun k => ((false, ()), ())) (n := l.length) ?_ ?_ (lt_rounds (by omega))
  · intro i hi'
    simp only [s94_0, t94_0, Tr.val_test, leF_eq, Int.toNat_natCast]
    rw [if_pos (by simp; omega), if_pos (by simp; omega)]
    simp only [wrap64_nat (show i ≤ 9223372036854775806 by omega)]
    by_cases h1 : lo ≤ l.getD i 0
    · by_cases h2 : l.getD i 0 ≤ hi
      · rw [if_neg (by simpa using h1), if_neg (by simpa using h2), if_neg (by simpa using ⟨h1, h2⟩)]; rfl
      · rw [if_neg (by simpa using h1), if_pos (by simpa using h2), if_pos (by simp only [h1, h2, decide_true, decide_false, Bool.and_false, Bool.not_false])]; rfl
    · rw [if_pos (by simpa using h1), if_pos (by simp only [h1, decide_false, Bool.false_and, Bool.not_false])]; rfl
  · simp [s94_0, t94_0, leF_eq]

theorem f94_eq (lo hi : Int) (l : List Int) (h : l.length ≤ 1000000000) : f94 (lo, hi, l, ()) = some (inAll lo hi l, ()) := by
  simp only [f94, t94, Tr.val_test, r94_0, l94 lo hi l h, inAll]
  cases first (fun i => !(decide (lo ≤ l.getD i 0) && decide (l.getD i 0 ≤ hi))) l.length 0 <;> rfl

theorem f141_eq (x : Int) (l : List Int) (h : l.length ≤ 1000000000) : f141 (x, l, ()) = some (!inAll (IntKind.wrap .i64 (0 - x)) x l, ()) := by
  simp only [f141, t141, Tr.val_test, g94, f94_eq _ _ l h, Option.isSome_some, Option.getD_some, if_true, Tr.val_fin]

theorem w1000 : IntKind.wrap .i64 (0 - 1000) = -1000 := by decide

theorem f140_eq (d : Tys.data as140) : f140 d = some (if (decide (-1000 ≤ (d.2.1 : Int)) && decide ((d.2.1 : Int) ≤ 1000)) = true then (0 : Int) else 2, ()) := by
  obtain ⟨i, x, u⟩ := d
  show f140 (i, x, ()) = some (if (decide (-1000 ≤ x) && decide (x ≤ 1000)) = true then (0 : Int) else 2, ())
  simp only [f140, t140, Tr.val_test, g141, f141_eq 1000 [x] (by simp), g86, f86_eq, Option.isSome_some, Option.getD_some, if_true, Tr.val_fin, inAll_cons, inAll_nil, w1000, Bool.and_true]
  by_cases hx : (decide (-1000 ≤ x) && decide (x ≤ 1000)) = true
  · rw [if_pos hx, hx]; rfl
  · rw [if_neg hx]; simp only [Bool.not_eq_true] at hx; rw [hx]; rfl

theorem l106 (l : List Int) (h : l.length ≤ 1000000000) : l106_0 ((l, (l.length : Int), (0 : Int), ()), ()) = match first (badS l) l.length 0 with
    | some k => some (.inr (((k : Int), (2 : Int), ()), ()))
    | none => some (.inl ((), ())) := by
  refine itr_search (fun i => ((l, (l.length : Int), (i : Int), ()), ())) (badS l) (fun k => (((k : Int), (2 : Int), ()), ())) (n := l.length) ?_ ?_ (lt_rounds (by omega))
  · intro i hi
    simp only [s106_0, t106_0, Tr.val_test, leF_eq, eqF_eq, g140, f140_eq, Int.toNat_natCast, Option.isSome_some, Option.getD_some, if_true]
    rw [if_pos (by simp; omega), if_pos (by simp; omega)]
    simp only [wrap64_nat (show i ≤ 9223372036854775806 by omega)]
    unfold badS
    by_cases hx : (decide (-1000 ≤ l.getD i 0) && decide (l.getD i 0 ≤ 1000)) = true
    · rw [hx]; simp
    · simp only [Bool.not_eq_true] at hx
      rw [hx]; simp
  · simp [s106_0, t106_0, leF_eq]

theorem f87_eq (l : List Int) (h : l.length ≤ 1000000000) : f87 (l, ()) = some ((badAt l).1, (badAt l).2, ()) := by
  simp only [f87, t87, Tr.val_test, r106_0, l106 l h, badAt]
  cases first (badS l) l.length 0 with
  | none => rfl
  | some k => rfl

/-- The first that is not 0. -/
def firstNZ : List Int → Int
  | [] => 0
  | a :: l => if a = 0 then firstNZ l else a

theorem firstNZ_eq : ∀ l : List Int, (match first (fun i => !decide (l.getD i 0 = 0)) l.length 0 with
    | some k => l.getD k 0
    | none => 0) = firstNZ l
  | [] => rfl
  | a :: l => by
    simp only [List.length, first, firstNZ]
    by_cases ha : a = 0
    · subst ha
      have e := firstNZ_eq l
      have hf : first (fun i => !decide (((0 : Int) :: l).getD i 0 = 0)) l.length (0 + 1) = (first (fun i => !decide (l.getD i 0 = 0)) l.length 0).map (· + 1) := by
        rw [first_map]; rfl
      simp only [hf, List.getD_cons_zero, decide_true, Bool.not_true, Bool.false_eq_true, if_false, if_true]
      rw [← e]
      cases first (fun i => !decide (l.getD i 0 = 0)) l.length 0 with
      | none => rfl
      | some k => rfl
    · simp [ha]

theorem l85 (l : List Int) (h : l.length ≤ 1000000000) : l85_0 ((l, (l.length : Int), (0 : Int), ()), ()) = match first (fun i => !decide (l.getD i 0 = 0)) l.length 0 with
    | some k => some (.inr ((l.getD k 0, ()), ()))
    | none => some (.inl ((), ())) := by
  refine itr_search (fun i => ((l, (l.length : Int), (i : Int), ()), ())) (fun i => !decide (l.getD i 0 = 0)) (fun k => ((l.getD k 0, ()), ())) (n := l.length) ?_ ?_ (lt_rounds (by omega))
  · intro i hi
    simp only [s85_0, t85_0, Tr.val_test, leF_eq, eqF_eq]
    rw [if_pos (by simp; omega), if_pos (by simp; omega)]
    simp only [Int.toNat_natCast, wrap64_nat (show i ≤ 9223372036854775806 by omega)]
    rfl
  · simp [s85_0, t85_0, leF_eq]

theorem f85_eq (l : List Int) (h : l.length ≤ 1000000000) : f85 (l, ()) = some (firstNZ l, ()) := by
  simp only [f85, t85, Tr.val_test, r85_0, l85 l h, ← firstNZ_eq l]
  cases first (fun i => !decide (l.getD i 0 = 0)) l.length 0 with
  | none => rfl
  | some k => rfl

theorem f17_eq (x : Int) (l : List Int) (h : l.length ≤ 1000000000) : f17 ((x, l, ()), ()) = some ((chk x l).1, (chk x l).2, ()) := by
  have e := fun a b c : Int => f85_eq [a, b, c] (by simp)
  have hc : chk x l = if x < 1 ∨ 1000000 < x then (0, 2) else if l.length < 2 then (0, 10) else if 24 < l.length then (0, 8) else badAt l := rfl
  simp only [f17, t17, Tr.val_test, leF_eq, eqF_eq, g86, f86_eq, g87, f87_eq l h, g85, Option.isSome_some, Option.getD_some, if_true]
  rw [e, e, hc]
  simp only [Option.isSome_some, Option.getD_some, if_true, firstNZ]
  by_cases h1 : x < 1
  · have h1' : ¬ 1 ≤ x := by omega
    simp [h1, h1']
  · have h1' : 1 ≤ x := by omega
    by_cases h2 : 1000000 < x
    · have h2' : ¬ x ≤ 1000000 := by omega
      simp [h1', h2, h2']
    · have h2' : x ≤ 1000000 := by omega
      by_cases h3 : l.length < 2
      · have h3' : ¬ (2 : Int) ≤ l.length := by omega
        simp [h1, h1', h2, h2', h3, h3']
      · have h3' : (2 : Int) ≤ l.length := by omega
        by_cases h4 : 24 < l.length
        · have h4' : ¬ (l.length : Int) ≤ 24 := by omega
          simp [h1, h1', h2, h2', h3, h3', h4, h4']
        · have h4' : (l.length : Int) ≤ 24 := by omega
          simp [h1, h1', h2, h2', h3, h3', h4, h4']

theorem f88_eq (x : Int) (l : List Int) (h : l.length ≤ 1000000000) : f88 ((x, l, ()), ()) = some ((chk x l).2, ()) := by
  simp only [f88, t88, Tr.val_test, g17, f17_eq x l h, Option.isSome_some, Option.getD_some, if_true, Tr.val_fin]

theorem f70_eq (l : List Int) (h : l.length ≤ 1000000000) : f70 (l, ()) = some (l, ()) := by
  simp only [f70, t70, Tr.val_test, Tr.val_fin]
  by_cases h0 : l.length = 0
  · rw [List.eq_nil_of_length_eq_zero h0]; rfl
  · rw [if_neg (by simp [h0]), if_neg (by rw [ble_eq_true']; omega), if_pos (by simp; omega), if_pos (by simp)]
    rfl

theorem f18_eq (x : Int) (l : List Int) (h : l.length ≤ 1000000000) : f18 ((x, l, ()), ()) = some ((x, l, ()), ()) := by
  simp only [f18, t18, Tr.val_test, g70, f70_eq l h, Option.isSome_some, Option.getD_some, if_true, Tr.val_fin]

theorem f16_eq (x : Int) (l : List Int) : f16 ((x, l, ()), ()) = some (decide (l.length ≤ 26), ()) := by
  have : decide ((l.length : Int) ≤ 26) = decide (l.length ≤ 26) := decide_eq_decide.2 (by omega)
  simp only [f16, t16, leF_eq, Tr.val_fin, this]

theorem sums_last (l : List Int) (h : 0 < l.length) : (sumsL l l.length).getD (l.length - 1) 0 = wrap64 (accE l l.length) := by
  rw [sumsL_get l (by omega), accW_eq, Nat.sub_add_cancel h]

theorem sums2_last (l : List Int) (h : 0 < l.length) : (sumsL (sumsL l l.length) l.length).getD (l.length - 1) 0 = wrap64 (accE2 l l.length) := by
  rw [sumsL_get _ (by omega), Nat.sub_add_cancel h, accW2_eq l _ (Nat.le_refl _)]

theorem chk_len {x : Int} {l : List Int} (h : (chk x l).2 = 0) : 2 ≤ l.length := by
  unfold chk at h
  split at h
  · cases h
  · split at h
    · cases h
    · omega

/-- The greater of two. -/
def mx (a b : Int) : Int := if a < b then b else a
/-- A number without its sign. -/
def sz (a : Int) : Int := mx a (IntKind.wrap .i64 (0 - a))
/-- The greatest size of the first numbers. -/
def pk (l : List Int) : Nat → Int
  | 0 => 0
  | i + 1 => mx (pk l i) (sz (l.getD i 0))

theorem mx_mx (m a b : Int) : mx (mx m a) b = mx m (mx a b) := by
  unfold mx
  split <;> split <;> (try split) <;> omega

theorem sz_eq {a : Int} (h1 : -9223372036854775807 ≤ a) (h2 : a ≤ 9223372036854775807) : sz a = a.natAbs := by
  unfold sz mx
  rw [← wrap64_eq, wrap64_id (by omega) (by omega)]
  split <;> omega

theorem f131_eq (d : Tys.data as131) : f131 d = some (sz d.1, ()) := rfl

theorem f29_eq (x : Int) (l : List Int) (h : l.length ≤ 1000000000) : f29 ((x, l, ()), ()) = some ((chk x l).2, ()) := by
  simp only [f29, t29, g22, f22_eq x l h, Tr.val_test, Tr.val_fin, Option.isSome_some, Option.getD_some, if_true]

/-- All are at most so great. -/
def Bd (B : Int) (l : List Int) : Prop := ∀ i, i < l.length → -B ≤ l.getD i 0 ∧ l.getD i 0 ≤ B

theorem chk_ok {x : Int} {l : List Int} (h : (chk x l).2 = 0) : 2 ≤ l.length ∧ l.length ≤ 24 ∧ Bd 1000 l ∧ 1 ≤ x ∧ x ≤ 1000000 := by
  unfold chk at h
  split at h
  · cases h
  · rename_i hx
    split at h
    · cases h
    · split at h
      · cases h
      · split at h
        · cases h
        · rename_i hn
          refine ⟨by omega, by omega, fun i hi => ?_, by omega, by omega⟩
          have := first_none hn i (by omega) (by omega)
          simpa [badS] using this

theorem pk_nonneg (l : List Int) : ∀ i, 0 ≤ pk l i
  | 0 => Int.le_refl 0
  | i + 1 => by
    have := pk_nonneg l i
    unfold pk mx
    split <;> omega

theorem pk_le {B : Int} {l : List Int} (h0 : 0 ≤ B) (hB : B ≤ 9223372036854775807) (h : Bd B l) : ∀ i, i ≤ l.length → pk l i ≤ B
  | 0, _ => h0
  | i + 1, hi => by
    have := pk_le h0 hB h i (by omega)
    have hb := h i (by omega)
    rw [pk, sz_eq (by omega) (by omega)]
    unfold mx
    split <;> omega

theorem pk_zero {B : Int} {l : List Int} (hB : B ≤ 9223372036854775807) (h : Bd B l) : ∀ n, n ≤ l.length → pk l n = 0 → ∀ i, i < n → l.getD i 0 = 0
  | 0, _, _, i, hi => by omega
  | n + 1, hn, e, i, hi => by
    have hb := h n (by omega)
    rw [pk, sz_eq (by omega) (by omega)] at e
    have hp := pk_nonneg l n
    have e1 : pk l n = 0 ∧ l.getD n 0 = 0 := by
      unfold mx at e
      split at e <;> omega
    rcases Nat.lt_succ_iff_lt_or_eq.1 hi with h1 | h1
    · exact pk_zero hB h n (by omega) e1.1 i h1
    · rw [h1]; exact e1.2

theorem pk_of_zero {l : List Int} : ∀ n, (∀ i, i < n → l.getD i 0 = 0) → pk l n = 0
  | 0, _ => rfl
  | n + 1, h => by
    rw [pk, pk_of_zero n fun i hi => h i (by omega), h n (by omega)]; rfl

theorem accW_bd {B : Int} {l : List Int} (h0 : 0 ≤ B) (h : Bd B l) (hB : B * l.length ≤ 9223372036854775807) : ∀ i : Nat, i ≤ l.length → -(B * i) ≤ accW l i ∧ accW l i ≤ B * i
  | 0, _ => by simp [accW]
  | i + 1, hi => by
    have hb := h i (by omega)
    have ih := accW_bd h0 h hB i (by omega)
    have e : B * ((i + 1 : Nat) : Int) = B * i + B := by rw [Int.natCast_add, Int.mul_add]; simp
    have h2 : B * ((i + 1 : Nat) : Int) ≤ B * l.length := Int.mul_le_mul_of_nonneg_left (by omega) h0
    rw [accW, wrap64_id (by omega) (by omega)]
    omega

theorem sums_bd {B : Int} {l : List Int} (h0 : 0 ≤ B) (h : Bd B l) (hB : B * l.length ≤ 9223372036854775807) : Bd (B * l.length) (sumsL l l.length) := by
  intro i hi
  rw [sumsL_len] at hi
  rw [sumsL_get l hi]
  have := accW_bd h0 h hB (i + 1) (by omega)
  have h2 : B * ((i + 1 : Nat) : Int) ≤ B * l.length := Int.mul_le_mul_of_nonneg_left (by omega) h0
  omega

/-- Where all sums are 0, all numbers are. -/
theorem sums_zero {B : Int} {l : List Int} (hB : B ≤ 9223372036854775807) (h : Bd B l) {n : Nat} (hn : n ≤ l.length) (e : ∀ i, i < n → accW l (i + 1) = 0) : ∀ i, i < n → l.getD i 0 = 0 := by
  intro i hi
  have hb := h i (by omega)
  have h1 := e i hi
  have h0 : accW l i = 0 := by
    cases i with
    | zero => rfl
    | succ j => exact e j (by omega)
  rw [accW, h0, Int.zero_add, wrap64_id (by omega) (by omega)] at h1
  exact h1

theorem pk_sums {B : Int} {l : List Int} (h0 : 0 ≤ B) (h : Bd B l) (hB : B * l.length ≤ 9223372036854775807) (hB2 : B ≤ 9223372036854775807) (hp : pk l l.length ≠ 0) : pk (sumsL l l.length) l.length ≠ 0 := by
  intro e
  have hs := sums_bd h0 h hB
  have hz := pk_zero hB hs l.length (by rw [sumsL_len]; exact Nat.le_refl _) e
  refine hp (pk_of_zero _ (sums_zero hB2 h (Nat.le_refl _) fun i hi => ?_))
  have := hz i hi
  rwa [sumsL_get l hi] at this

/-- The greatest common divisor of the first numbers, with a sign. -/
def dv (l : List Int) : Nat → Int
  | 0 => 0
  | i + 1 => euc (dv l i) (l.getD i 0)

theorem lt_r2 {n : Nat} (h : n ≤ 9223372036854775808) : n < rounds := by unfold rounds; omega

theorem l144i (l : List Int) (n i : Int) (a b : Int) (h : b.natAbs ≤ 9223372036854775808) : l144_2 ((a, b, l, n, i, ()), ()) = some (.inl ((euc a b, l, n, i, ()), ())) := by
  refine itr_euc (fun a b => ((a, b, l, n, i, ()), ())) (fun a => ((a, l, n, i, ()), ())) ?_ ?_ rounds a b (lt_r2 h)
  · intro a b hb
    simp [s144_2, t144_2, eqF_eq, hb]
  · intro a
    simp [s144_2, t144_2, eqF_eq]

theorem l144 (l : List Int) (h : l.length ≤ 1000000000) (hb : ∀ i, i < l.length → (l.getD i 0).natAbs ≤ 9223372036854775808) : l144_0 (((0 : Int), l, (l.length : Int), (0 : Int), ()), ()) = some (.inl ((dv l l.length, ()), ())) := by
  refine itr_brk (fun i => ((dv l i, l, (l.length : Int), (i : Int), ()), ())) (n := l.length) ?_ ?_ (lt_rounds (by omega))
  · intro i hi
    simp only [s144_0, t144_0, Tr.val_test, Tr.val_fin, leF_eq, Int.toNat_natCast, b144_2, l144i l _ _ _ _ (hb i hi), isBrk, outB, if_true]
    rw [if_pos (by simp; omega), if_pos (by simp; omega)]
    simp only [wrap64_nat (show i ≤ 9223372036854775806 by omega), dv]
  · simp [s144_0, t144_0, leF_eq]

theorem f144_eq (l : List Int) (h : l.length ≤ 1000000000) (hb : ∀ i, i < l.length → (l.getD i 0).natAbs ≤ 9223372036854775808) : f144 (l, ()) = some (mx (dv l l.length) (IntKind.wrap .i64 (0 - dv l l.length)), ()) := by
  simp only [f144, t144, b144_0, l144 l h hb, Tr.val_test, isBrk, if_true, outB]; rfl

theorem mx_max (a b : Int) : mx a b = max a b := by unfold mx; omega

theorem euc_zero_left (b : Int) (h : b.natAbs ≤ 9223372036854775807) : (euc 0 b).natAbs = b.natAbs := by rw [euc_abs]; simp

theorem dv2 (a b : Int) (ha : a.natAbs ≤ 9223372036854775807) (hb : b.natAbs ≤ 9223372036854775807) : mx (dv [a, b] 2) (IntKind.wrap .i64 (0 - dv [a, b] 2)) = (Int.gcd a b : Int) := by
  have e0 : dv [a, b] 2 = euc (euc 0 a) b := rfl
  have e1 : (euc 0 a).natAbs = a.natAbs := euc_zero_left a ha
  have e2 : Int.gcd (euc 0 a) b = Int.gcd a b := by unfold Int.gcd; rw [e1]
  rw [e0, ← wrap64_eq, Int.zero_sub, mx_max, euc_gcd _ _ (by omega) (by omega) (by omega) (by omega), e2]

theorem f144_2 (a b : Int) (ha : a.natAbs ≤ 9223372036854775807) (hb : b.natAbs ≤ 9223372036854775807) : f144 ([a, b], ()) = some ((Int.gcd a b : Int), ()) := by
  rw [f144_eq [a, b] (by simp), show ([a, b] : List Int).length = 2 from rfl, dv2 a b ha hb]
  intro i hi
  match i, hi with
  | 0, _ => exact Nat.le_succ_of_le ha
  | 1, _ => exact Nat.le_succ_of_le hb

/-- A fraction in lowest terms. -/
def low (a b : Int) : Int × Int × Unit := (a.tdiv (Int.gcd a b), b.tdiv (Int.gcd a b), ())

theorem wrapI_id {n : Int} (h1 : -9223372036854775808 ≤ n) (h2 : n ≤ 9223372036854775807) : IntKind.wrap .i64 n = n := by rw [← wrap64_eq, wrap64_id h1 h2]

theorem low_wrap (a b : Int) (ha : a.natAbs ≤ 9223372036854775807) (hb : b.natAbs ≤ 9223372036854775807) : IntKind.wrap .i64 (a.tdiv (Int.gcd a b)) = (low a b).1 ∧ IntKind.wrap .i64 (b.tdiv (Int.gcd a b)) = (low a b).2.1 := by
  have h1 := tdiv_abs_le a (Int.gcd a b)
  have h2 := tdiv_abs_le b (Int.gcd a b)
  exact ⟨wrapI_id (by omega) (by omega), wrapI_id (by omega) (by omega)⟩

theorem l142 (a b : Int) (hb : b.natAbs ≤ 9223372036854775807) : l142_0 ((a, b, ()), ()) = some (.inl ((euc a b, ()), ())) := by
  refine itr_euc (fun a b => ((a, b, ()), ())) (fun a => ((a, ()), ())) ?_ ?_ rounds a b (lt_rounds hb)
  · intro a b hb
    simp [s142_0, t142_0, eqF_eq, hb]
  · intro a
    simp [s142_0, t142_0, eqF_eq]

theorem f142_eq (a b : Int) (ha : a.natAbs ≤ 9223372036854775807) (hb : b.natAbs ≤ 9223372036854775807) : f142 (a, b, ()) = some ((Int.gcd a b : Int), ()) := by
  simp only [f142, t142, b142_0, l142 a b hb, Tr.val_test, Tr.val_fin, isBrk, if_true, outB, g131, f131_eq, Option.isSome_some, Option.getD_some]
  rw [sz, ← wrap64_eq, Int.zero_sub, mx_max, euc_gcd _ _ (by omega) (by omega) (by omega) (by omega)]

/-- Less, of fractions. -/
def lessF (a b : Int × Int × Unit) : Bool := !leF (wrap64 (b.1 * a.2.1)) (wrap64 (a.1 * b.2.1))

theorem f135_eq (d : Tys.data as135) : f135 d = some (lessF d.1 d.2.1, ()) := rfl

theorem f82_eq (d : Tys.data as82) : f82 d = some (if lessF d.1 d.2.1 = true then (-1 : Int) else if lessF d.2.1 d.1 = true then 1 else 0, ()) := by
  cases h1 : lessF d.1 d.2.1 <;> cases h2 : lessF d.2.1 d.1 <;> simp only [lessF] at h1 h2 <;> simp [f82, t82, h1, h2]

theorem f47_in (a lo hi : Int) : f47 (a, lo, hi, ()) = some (decide (lo ≤ a) && decide (a ≤ hi), ()) := f47_eq (a, lo, hi, ())

/-- The least of three quotients. -/
def least (p0 p1 p2 a v d : Int) : Int × Int × Unit :=
  if lessF (low v p1) (low a p0) = true then (if lessF (low d p2) (low v p1) = true then low d p2 else low v p1)
  else (if lessF (low d p2) (low a p0) = true then low d p2 else low a p0)

theorem less_self (x : Int × Int × Unit) : lessF x x = false := by
  unfold lessF
  simp [leF_eq]

theorem low_eta (a b : Int) : ((low a b).1, (low a b).2.1, ()) = low a b := rfl

/-- What a fraction of that kind is. -/
structure LowOk (s : Int × Int × Unit) (a p : Int) : Prop where
  den : 0 < s.2.1
  num : 0 ≤ s.1
  den_le : s.2.1 ≤ 1000000
  num_le : s.1 ≤ 1000000
  cross : s.1 * p = a * s.2.1

theorem low_ok {a p : Int} (ha : 0 ≤ a ∧ a ≤ 1000000) (hp : 0 < p ∧ p ≤ 1000000) : LowOk (low a p) a p := by
  have h1 := tdiv_abs_le a (Int.gcd a p)
  have h2 := tdiv_abs_le p (Int.gcd a p)
  have h3 := low_pos (a := a) hp.1
  have h4 : 0 ≤ a.tdiv (Int.gcd a p) := Int.tdiv_nonneg ha.1 (Int.natCast_nonneg _)
  exact ⟨h3, h4, by show p.tdiv _ ≤ _; omega, by show a.tdiv _ ≤ _; omega, low_cross a p⟩

theorem small_mul {a b : Int} (ha : 0 ≤ a ∧ a ≤ 1000000) (hb : 0 ≤ b ∧ b ≤ 1000000) : 0 ≤ a * b ∧ a * b ≤ 1000000000000 :=
  ⟨Int.mul_nonneg ha.1 hb.1, Int.le_trans (Int.mul_le_mul ha.2 hb.2 hb.1 (by omega)) (by omega)⟩

theorem wrap_small {a b : Int} (ha : 0 ≤ a ∧ a ≤ 1000000) (hb : 0 ≤ b ∧ b ≤ 1000000) : wrap64 (a * b) = a * b := by
  have := small_mul ha hb
  exact wrap64_id (by omega) (by omega)

theorem less_iff {s t : Int × Int × Unit} {a p b q : Int} (hs : LowOk s a p) (ht : LowOk t b q) : lessF s t = true ↔ s.1 * t.2.1 < t.1 * s.2.1 := by
  have h1 := wrap_small ⟨ht.num, ht.num_le⟩ ⟨Int.le_of_lt hs.den, hs.den_le⟩
  have h2 := wrap_small ⟨hs.num, hs.num_le⟩ ⟨Int.le_of_lt ht.den, ht.den_le⟩
  unfold lessF
  rw [h1, h2, leF_eq]
  simp

/-- A fraction that is not greater than the quotient of b by q keeps b. -/
theorem below {s t : Int × Int × Unit} {a p b q : Int} (hs : LowOk s a p) (ht : LowOk t b q) (hq : 0 ≤ q) (h : s.1 * t.2.1 ≤ t.1 * s.2.1) : s.1 * q ≤ b * s.2.1 := by
  have h1 := Int.mul_le_mul_of_nonneg_right h hq
  have e1 : s.1 * t.2.1 * q = (s.1 * q) * t.2.1 := by rw [Int.mul_assoc, Int.mul_comm t.2.1 q, ← Int.mul_assoc]
  have e2 : t.1 * s.2.1 * q = (b * s.2.1) * t.2.1 := by
    rw [Int.mul_assoc, Int.mul_comm s.2.1 q, ← Int.mul_assoc, ht.cross, Int.mul_assoc, Int.mul_comm t.2.1 s.2.1, ← Int.mul_assoc]
  rw [e1, e2] at h1
  exact Int.le_of_mul_le_mul_right h1 ht.den

/-- The least quotient keeps all three, and reaches one. -/
theorem least_ok {p0 p1 p2 a v d : Int} (b0 : 0 < p0 ∧ p0 ≤ 1000000) (b1 : 0 < p1 ∧ p1 ≤ 1000000) (b2 : 0 < p2 ∧ p2 ≤ 1000000) (ha : 0 ≤ a ∧ a ≤ 1000000) (hv : 0 ≤ v ∧ v ≤ 1000000) (hd : 0 ≤ d ∧ d ≤ 1000000) :
    ∃ s : Int × Int × Unit, least p0 p1 p2 a v d = s ∧ (0 ≤ s.1 ∧ s.1 ≤ 1000000) ∧ (0 ≤ s.2.1 ∧ s.2.1 ≤ 1000000) ∧ s.1 * p0 ≤ a * s.2.1 ∧ s.1 * p1 ≤ v * s.2.1 ∧ s.1 * p2 ≤ d * s.2.1 ∧ (s.1 * p0 = a * s.2.1 ∨ s.1 * p1 = v * s.2.1 ∨ s.1 * p2 = d * s.2.1) := by
  have o0 := low_ok ha b0
  have o1 := low_ok hv b1
  have o2 := low_ok hd b2
  have z0 := Int.le_of_lt b0.1
  have z1 := Int.le_of_lt b1.1
  have z2 := Int.le_of_lt b2.1
  unfold least
  by_cases h1 : lessF (low v p1) (low a p0) = true
  · rw [if_pos h1]
    have k1 := (less_iff o1 o0).1 h1
    by_cases h2 : lessF (low d p2) (low v p1) = true
    · rw [if_pos h2]
      have k2 := (less_iff o2 o1).1 h2
      have m1 := below o2 o1 z1 (Int.le_of_lt k2)
      -- d / p2 < v / p1 < a / p0
      have k3 : (low d p2).1 * (low a p0).2.1 ≤ (low a p0).1 * (low d p2).2.1 := by
        have q1 := Int.mul_le_mul_of_nonneg_right (Int.le_of_lt k2) (Int.le_of_lt o0.den)
        have q2 := Int.mul_le_mul_of_nonneg_right (Int.le_of_lt k1) (Int.le_of_lt o2.den)
        have e1 : (low d p2).1 * (low v p1).2.1 * (low a p0).2.1 = (low d p2).1 * (low a p0).2.1 * (low v p1).2.1 := by rw [Int.mul_assoc, Int.mul_comm (low v p1).2.1, ← Int.mul_assoc]
        have e2 : (low v p1).1 * (low d p2).2.1 * (low a p0).2.1 = (low v p1).1 * (low a p0).2.1 * (low d p2).2.1 := by rw [Int.mul_assoc, Int.mul_comm (low d p2).2.1, ← Int.mul_assoc]
        have e3 : (low a p0).1 * (low v p1).2.1 * (low d p2).2.1 = (low a p0).1 * (low d p2).2.1 * (low v p1).2.1 := by rw [Int.mul_assoc, Int.mul_comm (low v p1).2.1, ← Int.mul_assoc]
        rw [e1, e2] at q1
        rw [e3] at q2
        exact Int.le_of_mul_le_mul_right (Int.le_trans q1 q2) o1.den
      exact ⟨_, rfl, ⟨o2.num, o2.num_le⟩, ⟨Int.le_of_lt o2.den, o2.den_le⟩, below o2 o0 z0 k3, m1, Int.le_of_eq o2.cross, .inr (.inr o2.cross)⟩
    · rw [if_neg h2]
      have k2 : (low v p1).1 * (low d p2).2.1 ≤ (low d p2).1 * (low v p1).2.1 := by
        have := mt (less_iff o2 o1).2 h2
        omega
      exact ⟨_, rfl, ⟨o1.num, o1.num_le⟩, ⟨Int.le_of_lt o1.den, o1.den_le⟩, below o1 o0 z0 (Int.le_of_lt k1), Int.le_of_eq o1.cross, below o1 o2 z2 k2, .inr (.inl o1.cross)⟩
  · rw [if_neg h1]
    have k1 : (low a p0).1 * (low v p1).2.1 ≤ (low v p1).1 * (low a p0).2.1 := by
      have := mt (less_iff o1 o0).2 h1
      omega
    by_cases h2 : lessF (low d p2) (low a p0) = true
    · rw [if_pos h2]
      have k2 := (less_iff o2 o0).1 h2
      have k3 : (low d p2).1 * (low v p1).2.1 ≤ (low v p1).1 * (low d p2).2.1 := by
        have q1 := Int.mul_le_mul_of_nonneg_right (Int.le_of_lt k2) (Int.le_of_lt o1.den)
        have q2 := Int.mul_le_mul_of_nonneg_right k1 (Int.le_of_lt o2.den)
        have e1 : (low d p2).1 * (low a p0).2.1 * (low v p1).2.1 = (low d p2).1 * (low v p1).2.1 * (low a p0).2.1 := by rw [Int.mul_assoc, Int.mul_comm (low a p0).2.1, ← Int.mul_assoc]
        have e2 : (low a p0).1 * (low d p2).2.1 * (low v p1).2.1 = (low a p0).1 * (low v p1).2.1 * (low d p2).2.1 := by rw [Int.mul_assoc, Int.mul_comm (low d p2).2.1, ← Int.mul_assoc]
        have e3 : (low v p1).1 * (low a p0).2.1 * (low d p2).2.1 = (low v p1).1 * (low d p2).2.1 * (low a p0).2.1 := by rw [Int.mul_assoc, Int.mul_comm (low a p0).2.1, ← Int.mul_assoc]
        rw [e1, e2] at q1
        rw [e3] at q2
        exact Int.le_of_mul_le_mul_right (Int.le_trans q1 q2) o0.den
      exact ⟨_, rfl, ⟨o2.num, o2.num_le⟩, ⟨Int.le_of_lt o2.den, o2.den_le⟩, below o2 o0 z0 (Int.le_of_lt k2), below o2 o1 z1 k3, Int.le_of_eq o2.cross, .inr (.inr o2.cross)⟩
    · rw [if_neg h2]
      have k2 : (low a p0).1 * (low d p2).2.1 ≤ (low d p2).1 * (low a p0).2.1 := by
        have := mt (less_iff o2 o0).2 h2
        omega
      exact ⟨_, rfl, ⟨o0.num, o0.num_le⟩, ⟨Int.le_of_lt o0.den, o0.den_le⟩, Int.le_of_eq o0.cross, below o0 o1 z1 k1, below o0 o2 z2 k2, .inl o0.cross⟩

/-- The peaks of samples that are checked. -/
theorem peaks_ok {x : Int} {l : List Int} (h : (chk x l).2 = 0) : (pk l l.length ≤ 1000000 ∧ pk (sumsL l l.length) l.length ≤ 1000000 ∧ pk (sumsL (sumsL l l.length) l.length) l.length ≤ 1000000) ∧
    (pk l l.length = 0 → pk (sumsL l l.length) l.length = 0 ∧ pk (sumsL (sumsL l l.length) l.length) l.length = 0) ∧ (pk l l.length ≠ 0 → 0 < pk l l.length ∧ 0 < pk (sumsL l l.length) l.length ∧ 0 < pk (sumsL (sumsL l l.length) l.length) l.length) := by
  obtain ⟨h1, h2, h3, _, _⟩ := chk_ok h
  have s1 := sums_bd (B := 1000) (by omega) h3 (by omega)
  have s1' : Bd (1000 * ((sumsL l l.length).length : Int)) (sumsL l l.length) := by rw [sumsL_len]; exact s1
  have s2 := sums_bd (B := 1000 * (l.length : Int)) (by omega) s1 (by rw [sumsL_len]; have : 1000 * (l.length : Int) * l.length ≤ 1000 * 24 * 24 := Int.mul_le_mul (by omega) (by omega) (by omega) (by omega); omega)
  rw [sumsL_len] at s2
  have hsq : 1000 * (l.length : Int) * l.length ≤ 1000 * 24 * 24 := Int.mul_le_mul (by omega) (by omega) (by omega) (by omega)
  have hsq0 : 0 ≤ 1000 * (l.length : Int) * l.length := Int.mul_nonneg (by omega) (by omega)
  refine ⟨⟨?_, ?_, ?_⟩, ?_, ?_⟩
  · have := pk_le (by omega) (by omega) h3 l.length (Nat.le_refl _); omega
  · have := pk_le (by omega) (by omega) s1 l.length (by rw [sumsL_len]; exact Nat.le_refl _); omega
  · have := pk_le hsq0 (by omega) s2 l.length (by rw [sumsL_len]; exact Nat.le_refl _); omega
  · intro h0
    have hz := pk_zero (by omega) h3 l.length (Nat.le_refl _) h0
    have a0 : ∀ i, i ≤ l.length → accW l i = 0 := by
      intro i
      induction i with
      | zero => intro _; rfl
      | succ i ih => intro hi; rw [accW, ih (by omega), hz i (by omega)]; rfl
    have z1 : ∀ i, i < l.length → (sumsL l l.length).getD i 0 = 0 := fun i hi => by rw [sumsL_get l hi]; exact a0 _ (by omega)
    have a1 : ∀ i, i ≤ l.length → accW (sumsL l l.length) i = 0 := by
      intro i
      induction i with
      | zero => intro _; rfl
      | succ i ih => intro hi; rw [accW, ih (by omega), z1 i (by omega)]; rfl
    exact ⟨pk_of_zero _ z1, pk_of_zero _ fun i hi => by rw [sumsL_get _ hi]; exact a1 _ (by omega)⟩
  · intro h0
    have p1 := pk_sums (by omega) h3 (by omega) (by omega) h0
    have p2 := pk_sums (l := sumsL l l.length) (B := 1000 * (l.length : Int)) (by omega) s1 (by rw [sumsL_len]; omega) (by omega) (by rw [sumsL_len]; exact p1)
    rw [sumsL_len] at p2
    have n0 := pk_nonneg l l.length
    have n1 := pk_nonneg (sumsL l l.length) l.length
    have n2 := pk_nonneg (sumsL (sumsL l l.length) l.length) l.length
    omega

/-- Whether a fraction is in lowest terms. -/
def isLow (n d : Int) : Bool := decide (0 < d) && decide (Int.gcd n d = 1)

theorem sz_abs {e : Int} (h : e.natAbs ≤ 9223372036854775807) : mx e (IntKind.wrap .i64 (0 - e)) = e.natAbs := sz_eq (by omega) (by omega)

theorem sz_abs2 {e : Int} (h : e.natAbs ≤ 9223372036854775808) : (mx e (IntKind.wrap .i64 (0 - e))).natAbs = e.natAbs := by
  by_cases h1 : e.natAbs ≤ 9223372036854775807
  · rw [sz_abs h1]; simp
  · have hc : e = -9223372036854775808 ∨ e = 9223372036854775808 := by omega
    rcases hc with rfl | rfl <;> decide

theorem f144_1 (n : Int) (h : n.natAbs ≤ 9223372036854775808) : ∃ g : Int, f144 ([n], ()) = some (g, ()) ∧ g.natAbs = n.natAbs := by
  have e1 : (euc 0 n).natAbs = n.natAbs := by rw [euc_abs]; simp
  refine ⟨_, f144_eq [n] (by simp) (fun i hi => ?_), ?_⟩
  · match i, hi with
    | 0, _ => exact h
  · show (mx (euc 0 n) (IntKind.wrap .i64 (0 - euc 0 n))).natAbs = _
    rw [sz_abs2 (by omega), e1]

theorem gcd_le {a b : Int} (hb : 0 < b) : Int.gcd a b ≤ b.natAbs := Nat.gcd_le_right _ (by omega)

theorem f145_eq (d n : Int) (hn : n.natAbs ≤ 9223372036854775808) (hd : d.natAbs ≤ 9223372036854775808) (hd2 : d ≤ 9223372036854775807) : f145 (d, [n], ()) = some (isLow n d, ()) := by
  obtain ⟨g, h1, h2⟩ := f144_1 n hn
  by_cases h0 : 0 < d
  · have e0 : dv [d, g] 2 = euc (euc 0 d) g := rfl
    have e1 : (euc 0 d).natAbs = d.natAbs := by rw [euc_abs]; simp
    have e2 : (euc (euc 0 d) g).natAbs = Int.gcd n d := by rw [euc_abs, e1, h2, Nat.gcd_comm]; rfl
    have e3 := gcd_le (a := n) h0
    have h3 : f144 ([d, g], ()) = some ((Int.gcd n d : Int), ()) := by
      rw [f144_eq [d, g] (by simp), show ([d, g] : List Int).length = 2 from rfl, e0, sz_abs (by omega), e2]
      intro i hi
      match i, hi with
      | 0, _ => exact hd
      | 1, _ => show g.natAbs ≤ _; omega
    have e4 : decide ((Int.gcd n d : Int) = 1) = decide (Int.gcd n d = 1) := decide_eq_decide.2 (by omega)
    simp only [f145, t145, g144, h1, h3, Tr.val_test, Tr.val_fin, leF_eq, eqF_eq, Option.isSome_some, Option.getD_some, if_true, isLow, h0, decide_true, Bool.true_and, e4]
    rw [if_pos (by simp; omega)]
  · simp only [f145, t145, Tr.val_test, Tr.val_fin, leF_eq, isLow, h0, decide_false, Bool.false_and]
    rw [if_neg (by simp; omega)]

theorem f142_pos (a b : Int) (hb : 0 < b) (hb2 : b ≤ 9223372036854775807) : f142 (a, b, ()) = some ((Int.gcd a b : Int), ()) := by
  have e3 := gcd_le (a := a) hb
  have e2 := euc_abs a b
  have e4 : Nat.gcd a.natAbs b.natAbs = Int.gcd a b := rfl
  simp only [f142, t142, b142_0, l142 a b (by omega), Tr.val_test, Tr.val_fin, isBrk, if_true, outB, g131, f131_eq, Option.isSome_some, Option.getD_some]
  rw [sz, sz_abs (by omega), e2, e4]

theorem f169_eq (n d : Int) (hd2 : d ≤ 9223372036854775807) : f169 ((n, d, ()), ()) = some (isLow n d, ()) := by
  by_cases h0 : 0 < d
  · have e4 : decide ((Int.gcd n d : Int) = 1) = decide (Int.gcd n d = 1) := decide_eq_decide.2 (by omega)
    simp only [f169, t169, g142, f142_pos n d h0 hd2, Tr.val_test, Tr.val_fin, leF_eq, eqF_eq, Option.isSome_some, Option.getD_some, if_true, isLow, h0, decide_true, Bool.true_and, e4]
    rw [if_pos (by simp; omega)]
  · simp only [f169, t169, Tr.val_test, Tr.val_fin, leF_eq, isLow, h0, decide_false, Bool.false_and]
    rw [if_neg (by simp; omega)]

/-- The error of a share. -/
def shE (n d : Int) : Int := if isLow n d = false then 3 else if (decide (0 ≤ n) && decide (n ≤ d)) = false then 2 else if d ≤ 1000 then 0 else 2

theorem f138_eq (n d : Int) (hd2 : d ≤ 9223372036854775807) : f138 ((n, d, ()), ()) = some (shE n d, ()) := by
  simp only [f138, t138, g169, f169_eq n d hd2, g47, f47_eq, Tr.val_test, Tr.val_fin, leF_eq, Option.isSome_some, Option.getD_some, if_true, shE]
  cases isLow n d <;> cases (decide ((0 : Int) ≤ n) && decide (n ≤ d)) <;> by_cases h : d ≤ 1000 <;> simp [h]

theorem f134_eq (n d : Int) (hn : n.natAbs ≤ 9223372036854775808) (hd : d.natAbs ≤ 9223372036854775808) (hd2 : d ≤ 9223372036854775807) : f134 ((n, d, ()), ()) = some (shE n d, ()) := by
  have e2 := fun a b : Int => f85_eq [a, b] (by simp)
  simp only [f134, t134, g145, f145_eq d n hn hd hd2, g94, f94_eq 0 d [n] (by simp), g86, f86_eq, g85, e2, Tr.val_test, Tr.val_fin, leF_eq, Option.isSome_some, Option.getD_some, if_true, inAll_cons, inAll_nil, Bool.and_true, shE, firstNZ]
  cases isLow n d <;> cases (decide ((0 : Int) ≤ n) && decide (n ≤ d)) <;> by_cases h : d ≤ 1000 <;> simp [h]

theorem less_asymm {a b : Int × Int × Unit} (h : lessF a b = true) : lessF b a = false := by
  unfold lessF at h ⊢
  simp only [leF_eq, Bool.not_eq_true', decide_eq_false_iff_not, Bool.not_eq_false', decide_eq_true_eq] at h ⊢
  omega

/-- The error of two shares. -/
def srE (n d n' d' : Int) : Int := if shE n d ≠ 0 then shE n d else if shE n' d' ≠ 0 then shE n' d' else if lessF (n', d', ()) (n, d, ()) = true then 9 else 0

theorem f80_eq (n d n' d' : Int) (hd : d ≤ 9223372036854775807) (hd' : d' ≤ 9223372036854775807) : f80 (((n, d, ()), (n', d', ()), ()), ()) = some (srE n d n' d', ()) := by
  simp only [f80, t80, g138, f138_eq n d hd, f138_eq n' d' hd', g82, f82_eq, Tr.val_test, Tr.val_fin, leF_eq, eqF_eq, Option.isSome_some, Option.getD_some, if_true, srE]
  by_cases h1 : shE n d = 0
  · by_cases h2 : shE n' d' = 0
    · cases h3 : lessF (n', d', ()) (n, d, ()) with
      | true =>
        have := less_asymm h3
        simp [h1, h2, this]
      | false => cases lessF (n, d, ()) (n', d', ()) <;> simp [h1, h2]
    · simp [h1, h2]
  · simp [h1]

/-! ### Energies -/

def sqL (l : List Int) (n : Nat) : List Int := (List.range n).map fun i => wrap64 (l.getD i 0 * l.getD i 0)

theorem sqL_len (l : List Int) (n : Nat) : (sqL l n).length = n := by simp [sqL]

theorem sqL_succ (l : List Int) (n : Nat) : sqL l (n + 1) = sqL l n ++ [wrap64 (l.getD n 0 * l.getD n 0)] := by simp [sqL, List.range_succ]

theorem sqL_get (l : List Int) {n i : Nat} (h : i < n) : (sqL l n).getD i 0 = wrap64 (l.getD i 0 * l.getD i 0) := by simp [sqL, List.getD, h]

def enW (l : List Int) : Nat → Int
  | 0 => 0
  | i + 1 => wrap64 (enW l i + wrap64 (l.getD i 0 * l.getD i 0))

theorem acc_sq (l : List Int) {n : Nat} : ∀ i, i ≤ n → accW (sqL l n) i = enW l i
  | 0, _ => rfl
  | i + 1, h => by rw [accW, enW, acc_sq l i (by omega), sqL_get l (by omega)]

theorem l136 (l : List Int) (h : l.length ≤ 1000000000) : l136_0 ((([] : List Int), l, (l.length : Int), (0 : Int), ()), ()) = some (.inl ((sqL l l.length, ()), ())) := by
  refine itr_brk (fun i => ((sqL l i, l, (l.length : Int), (i : Int), ()), ())) (n := l.length) ?_ ?_ (lt_rounds (by omega))
  · intro i hi
    simp only [s136_0, t136_0, Tr.val_test, Tr.val_fin, leF_eq]
    rw [if_pos (by simp; omega), if_pos (by simp; omega), if_pos (by simp [sqL_len]; omega)]
    simp only [Int.toNat_natCast, sqL_succ, wrap64_nat (show i ≤ 9223372036854775806 by omega)]
  · simp [s136_0, t136_0, leF_eq]

theorem f136_eq (l : List Int) (h : l.length ≤ 1000000000) : f136 (l, ()) = some (sumsL (sqL l l.length) l.length, ()) := by
  have e := f89_eq (sqL l l.length) (by rw [sqL_len]; exact h)
  rw [sqL_len] at e
  simp only [f136, t136, b136_0, l136 l h, g89, e, Tr.val_test, Tr.val_fin, isBrk, if_true, outB, Option.isSome_some, Option.getD_some]

/-- Where a share is reached. -/
def atE (l : List Int) (n d : Int) (i : Nat) : Bool := leF (wrap64 (enW l l.length * n)) (wrap64 (enW l (i + 1) * d))

theorem l167 (l : List Int) (e : List Int) (he : e.length ≤ 1000000000) (n d a : Int) : l167_0 ((e, (e.length : Int), (0 : Int), ()), (n, d, ()), (a, ()), ()) = match first (fun i => leF (wrap64 (a * n)) (wrap64 (e.getD i 0 * d))) e.length 0 with
    | some k => some (.inr (((k : Int), ()), (n, d, ()), (a, ()), ()))
    | none => some (.inl ((), (n, d, ()), (a, ()), ())) := by
  refine itr_search (fun i => ((e, (e.length : Int), (i : Int), ()), (n, d, ()), (a, ()), ())) (fun i => leF (wrap64 (a * n)) (wrap64 (e.getD i 0 * d))) (fun k => (((k : Int), ()), (n, d, ()), (a, ()), ())) (n := e.length) ?_ ?_ (lt_rounds (by omega))
  · intro i hi
    simp only [s167_0, t167_0, Tr.val_test, Tr.val_fin, Int.toNat_natCast]
    rw [if_pos (by simp [leF_eq]; omega), if_pos (by simp; omega)]
    simp only [wrap64_nat (show i ≤ 9223372036854775806 by omega)]
  · simp [s167_0, t167_0, leF_eq]

theorem f137_eq (l : List Int) (h0 : 0 < l.length) (h : l.length ≤ 1000000000) (n d : Int) : f137 (sumsL (sqL l l.length) l.length, (n, d, ()), ()) = some (match first (atE l n d) l.length 0 with
    | some k => (k : Int)
    | none => -1, ()) := by
  have hl := sumsL_len (sqL l l.length) l.length
  have hw : wrap64 ((l.length : Int) - 1) = ((l.length - 1 : Nat) : Int) := by rw [wrap64_id] <;> omega
  have hlast : (sumsL (sqL l l.length) l.length).getD (l.length - 1) 0 = enW l l.length := by
    rw [sumsL_get _ (by omega), Nat.sub_add_cancel h0, acc_sq l _ (Nat.le_refl _)]
  have hs := l167 l (sumsL (sqL l l.length) l.length) (by rw [hl]; exact h) n d (enW l l.length)
  rw [hl, first_congr (bad' := atE l n d) (fun j _ hj => by rw [sumsL_get _ (by omega), acc_sq l _ (by omega)]; rfl)] at hs
  simp only [f137, t137, hl, hw, Int.toNat_natCast, hlast, r167_0, hs, Tr.val_test, Tr.val_fin]
  rw [if_pos (by simp; omega)]
  cases first (atE l n d) l.length 0 <;> rfl

theorem l170 (l : List Int) (c : Nat) (hc : c ≤ l.length) (h : l.length ≤ 1000000000) : l170_0 ((l, (c : Int), (0 : Int), (0 : Int), ()), ()) = some (.inl ((enW l c, ()), ())) := by
  refine itr_brk (fun i => ((l, (c : Int), enW l i, (i : Int), ()), ())) (n := c) ?_ ?_ (lt_rounds (by omega))
  · intro i hi
    simp only [s170_0, t170_0, Tr.val_test, Tr.val_fin, leF_eq]
    rw [if_pos (by simp; omega), if_pos (by simp; omega)]
    simp only [Int.toNat_natCast, wrap64_nat (show i ≤ 9223372036854775806 by omega), enW]
  · simp [s170_0, t170_0, leF_eq]

theorem f170_eq (l : List Int) (c : Nat) (hc : c ≤ l.length) (h : l.length ≤ 1000000000) : f170 (l, (c : Int), ()) = some (enW l c, ()) := by
  simp only [f170, t170, b170_0, l170 l c hc h, Tr.val_test, isBrk, if_true, outB]; rfl

theorem l139 (l : List Int) (h : l.length ≤ 1000000000) (n d : Int) : l139_0 ((l, (0 : Int), ()), (n, d, ()), ()) = match first (atE l n d) l.length 0 with
    | some k => some (.inr (((k : Int), ()), (n, d, ()), ()))
    | none => some (.inl ((l, ()), (n, d, ()), ())) := by
  refine itr_search (fun i => ((l, (i : Int), ()), (n, d, ()), ())) (atE l n d) (fun k => (((k : Int), ()), (n, d, ()), ())) (n := l.length) ?_ ?_ (lt_rounds (by omega))
  · intro i hi
    have e1 := f170_eq l (i + 1) (by omega) h
    have e2 := f170_eq l l.length (Nat.le_refl _) h
    simp only [s139_0, t139_0, Tr.val_test, Tr.val_fin, wrap64_nat (show i ≤ 9223372036854775806 by omega), g170, e1, e2, Option.isSome_some, Option.getD_some, if_true]
    rw [if_pos (by simp [leF_eq]; omega)]
    rfl
  · simp [s139_0, t139_0, leF_eq]

theorem f139_eq (l : List Int) (h0 : 0 < l.length) (h : l.length ≤ 1000000000) (n d : Int) : f139 (l, (n, d, ()), ()) = some (match first (atE l n d) l.length 0 with
    | some k => (k : Int)
    | none => ((l.length - 1 : Nat) : Int), ()) := by
  have hw : wrap64 ((l.length : Int) - 1) = ((l.length - 1 : Nat) : Int) := by rw [wrap64_id] <;> omega
  simp only [f139, t139, r139_0, b139_0, l139 l h n d, Tr.val_test, Tr.val_fin]
  cases first (atE l n d) l.length 0 with
  | some k => rfl
  | none => simp [isRet, outB, hw]

/-- Energies, exact. -/
theorem en_bd {l : List Int} (h : Bd 1000 l) (hl : l.length ≤ 24) : ∀ i : Nat, i ≤ l.length → (0 ≤ enW l i ∧ enW l i ≤ 1000000 * i) ∧ ∀ j, j ≤ i → enW l j ≤ enW l i
  | 0, _ => ⟨⟨Int.le_refl 0, by simp [enW]⟩, fun j hj => by rw [Nat.le_zero.1 hj]; exact Int.le_refl _⟩
  | i + 1, hi => by
    obtain ⟨⟨h1, h2⟩, h3⟩ := en_bd h hl i (by omega)
    obtain ⟨b1, b2⟩ := h i (by omega)
    have q0 : 0 ≤ l.getD i 0 * l.getD i 0 := by
      rcases Int.le_total 0 (l.getD i 0) with q | q
      · exact Int.mul_nonneg q q
      · have := Int.mul_nonneg (Int.neg_nonneg.2 q) (Int.neg_nonneg.2 q); rwa [Int.neg_mul_neg] at this
    have q1 : l.getD i 0 * l.getD i 0 ≤ 1000 * 1000 := by
      rcases Int.le_total 0 (l.getD i 0) with q | q
      · exact Int.mul_le_mul b2 b2 q (by omega)
      · have := Int.mul_le_mul (show -(l.getD i 0) ≤ 1000 by omega) (show -(l.getD i 0) ≤ 1000 by omega) (Int.neg_nonneg.2 q) (by omega)
        rwa [Int.neg_mul_neg] at this
    have e : enW l (i + 1) = enW l i + l.getD i 0 * l.getD i 0 := by
      rw [enW, wrap64_id (n := l.getD i 0 * l.getD i 0) (by omega) (by omega), wrap64_id (by omega) (by omega)]
    refine ⟨⟨by omega, by omega⟩, fun j hj => ?_⟩
    rcases Nat.lt_or_ge j (i + 1) with hj' | hj'
    · have := h3 j (by omega); omega
    · rw [show j = i + 1 by omega]; exact Int.le_refl _

structure ShOk (n d : Int) : Prop where
  d1 : 0 < d
  d2 : d ≤ 1000
  n1 : 0 ≤ n
  n2 : n ≤ d

theorem shE_ok {n d : Int} (h : shE n d = 0) : ShOk n d := by
  unfold shE at h
  split at h
  · cases h
  · rename_i h1
    split at h
    · cases h
    · rename_i h2
      split at h
      · rename_i h3
        simp only [isLow, Bool.not_eq_false, Bool.and_eq_true, decide_eq_true_eq] at h1 h2
        exact ⟨h1.1, h3, h2.1, h2.2⟩
      · cases h

theorem en_mul {l : List Int} (h : Bd 1000 l) (hl : l.length ≤ 24) {i : Nat} (hi : i ≤ l.length) {n : Int} (h0 : 0 ≤ n) (h1 : n ≤ 1000) : wrap64 (enW l i * n) = enW l i * n := by
  obtain ⟨⟨b1, b2⟩, _⟩ := en_bd h hl i hi
  have m0 := Int.mul_nonneg b1 h0
  have m1 : enW l i * n ≤ 24000000 * 1000 := Int.mul_le_mul (by omega) h1 h0 (by omega)
  exact wrap64_id (by omega) (by omega)

theorem atE_iff {l : List Int} (h : Bd 1000 l) (hl : l.length ≤ 24) {n d : Int} (hs : ShOk n d) {i : Nat} (hi : i < l.length) : atE l n d i = true ↔ enW l l.length * n ≤ enW l (i + 1) * d := by
  have := hs.d1
  have := hs.d2
  have := hs.n1
  have := hs.n2
  unfold atE
  rw [en_mul h hl (Nat.le_refl _) (by omega) (by omega), en_mul h hl (show i + 1 ≤ l.length by omega) (by omega) (by omega), leF_eq, decide_eq_true_eq]

theorem first_mono {p q : Nat → Bool} : ∀ {n i k : Nat}, (∀ j, i ≤ j → j < i + n → q j = true → p j = true) → first q n i = some k → ∃ k', first p n i = some k' ∧ k' ≤ k
  | 0, _, _, _, h => by cases h
  | n + 1, i, k, hm, h => by
    simp only [first] at h ⊢
    by_cases hp : p i = true
    · rw [if_pos hp]
      refine ⟨i, rfl, ?_⟩
      split at h
      · cases h; exact Nat.le_refl _
      · exact Nat.le_of_succ_le (first_some h).1
    · rw [if_neg hp]
      have hq : ¬ q i = true := fun hq => hp (hm i (Nat.le_refl _) (by omega) hq)
      rw [if_neg hq] at h
      exact first_mono (fun j h1 h2 => hm j (by omega) (by omega)) h

/-- A share is reached. -/
theorem reach_some {l : List Int} (h : Bd 1000 l) (h0 : 0 < l.length) (hl : l.length ≤ 24) {n d : Int} (hs : ShOk n d) : ∃ k, first (atE l n d) l.length 0 = some k ∧ k < l.length := by
  cases e : first (atE l n d) l.length 0 with
  | none =>
    have := first_none e (l.length - 1) (by omega) (by omega)
    have hi : atE l n d (l.length - 1) = true := by
      rw [atE_iff h hl hs (by omega), Nat.sub_add_cancel h0]
      exact Int.mul_le_mul_of_nonneg_left hs.n2 (en_bd h hl _ (Nat.le_refl _)).1.1
    rw [this] at hi
    cases hi
  | some k =>
    have := first_some e
    exact ⟨k, rfl, by omega⟩

/-- A smaller share is reached no later. -/
theorem reach_mono {l : List Int} (h : Bd 1000 l) (hl : l.length ≤ 24) {n d n' d' : Int} (hs : ShOk n d) (hs' : ShOk n' d') (hle : n * d' ≤ n' * d) {k : Nat} (e : first (atE l n' d') l.length 0 = some k) : ∃ k', first (atE l n d) l.length 0 = some k' ∧ k' ≤ k := by
  refine first_mono (fun j _ hj hq => ?_) e
  rw [atE_iff h hl hs' (by omega)] at hq
  rw [atE_iff h hl hs (by omega)]
  have hE := (en_bd h hl l.length (Nat.le_refl _)).1.1
  have m1 := Int.mul_le_mul_of_nonneg_left hle hE
  have m2 := Int.mul_le_mul_of_nonneg_right hq (Int.le_of_lt hs.d1)
  have e1 : enW l l.length * (n * d') = enW l l.length * n * d' := by rw [Int.mul_assoc]
  have e2 : enW l l.length * (n' * d) = enW l l.length * n' * d := by rw [Int.mul_assoc]
  have e3 : enW l (j + 1) * d' * d = enW l (j + 1) * d * d' := by rw [Int.mul_assoc, Int.mul_comm d' d, ← Int.mul_assoc]
  rw [e1, e2] at m1
  rw [e3] at m2
  exact Int.le_of_mul_le_mul_right (Int.le_trans m1 m2) hs'.d1

theorem less_ok {n d n' d' : Int} (hs : ShOk n d) (hs' : ShOk n' d') : lessF (n, d, ()) (n', d', ()) = true ↔ n * d' < n' * d := by
  have := hs.d1
  have := hs.d2
  have := hs.n1
  have := hs.n2
  have := hs'.d1
  have := hs'.d2
  have := hs'.n1
  have := hs'.n2
  show (!leF (wrap64 (n' * d)) (wrap64 (n * d'))) = true ↔ _
  rw [wrap_small ⟨by omega, by omega⟩ ⟨by omega, by omega⟩, wrap_small ⟨by omega, by omega⟩ ⟨by omega, by omega⟩, leF_eq]
  simp

/-- The duration. -/
theorem f79_eq (x : Int) (l : List Int) (h : l.length ≤ 1000000000) (n d n' d' : Int) (hn : n.natAbs ≤ 9223372036854775808) (hd : d.natAbs ≤ 9223372036854775808) (hd2 : d ≤ 9223372036854775807)
    (hn' : n'.natAbs ≤ 9223372036854775808) (hd' : d'.natAbs ≤ 9223372036854775808) (hd2' : d' ≤ 9223372036854775807) :
    (((chk x l).2 ≠ 0 ∨ srE n d n' d' ≠ 0) → f79 ((x, l, ()), ((n, d, ()), (n', d', ()), ()), ()) = some ((0, 0, ()), (if (chk x l).2 ≠ 0 then (chk x l).2 else srE n d n' d'), ())) ∧
    ((chk x l).2 = 0 → srE n d n' d' = 0 → f79 ((x, l, ()), ((n, d, ()), (n', d', ()), ()), ()) = some (((match first (atE l n d) l.length 0 with | some k => (k : Int) | none => -1), (match first (atE l n' d') l.length 0 with | some k => (k : Int) | none => -1), ()), 0, ())) := by
  have e2 := fun a b : Int => f85_eq [a, b] (by simp)
  have e3 := fun a b c : Int => f85_eq [a, b, c] (by simp)
  constructor
  · intro hc
    simp only [f79, t79, g88, f88_eq x l h, g134, f134_eq n d hn hd hd2, f134_eq n' d' hn' hd' hd2', g85, e2, e3, g135, f135_eq, g86, f86_eq, Tr.val_test, Tr.val_fin, eqF_eq, Option.isSome_some, Option.getD_some, if_true, firstNZ]
    by_cases h0 : (chk x l).2 = 0
    · by_cases h1 : shE n d = 0
      · by_cases h2 : shE n' d' = 0
        · cases h3 : lessF (n', d', ()) (n, d, ()) with
          | true => simp [h0, h1, h2, srE, h3]
          | false => exact absurd hc (by simp [h0, h1, h2, srE, h3])
        · simp [h0, h1, h2, srE]
      · simp [h0, h1, srE]
    · simp [h0]
  · intro h0 hs
    have h1 : shE n d = 0 := by
      by_cases q : shE n d = 0
      · exact q
      · simp [srE, q] at hs
    have h2 : shE n' d' = 0 := by
      by_cases q : shE n' d' = 0
      · exact q
      · simp [srE, h1, q] at hs
    have h3 : lessF (n', d', ()) (n, d, ()) = false := by
      cases q : lessF (n', d', ()) (n, d, ()) with
      | false => rfl
      | true => simp [srE, h1, h2, q] at hs
    have hl := (chk_ok h0).1
    simp only [f79, t79, g88, f88_eq x l h, g134, f134_eq n d hn hd hd2, f134_eq n' d' hn' hd' hd2', g85, e2, e3, g135, f135_eq, g86, f86_eq, Tr.val_test, Tr.val_fin, eqF_eq, Option.isSome_some, Option.getD_some, if_true, firstNZ, h0, h1, h2, h3, decide_true, Bool.not_true, Bool.false_eq_true, if_false,
      g136, f136_eq l h, g137, f137_eq l (by omega) h n d, f137_eq l (by omega) h n' d']

theorem f81_eq (l : List Int) (h0 : 0 < l.length) (h : l.length ≤ 1000000000) (n d n' d' : Int) : f81 (l, ((n, d, ()), (n', d', ()), ()), ()) = some (((match first (atE l n d) l.length 0 with | some k => (k : Int) | none => ((l.length - 1 : Nat) : Int)), (match first (atE l n' d') l.length 0 with | some k => (k : Int) | none => ((l.length - 1 : Nat) : Int)), ()), ()) := by
  simp only [f81, t81, g139, f139_eq l h0 h n d, f139_eq l h0 h n' d', Tr.val_test, Tr.val_fin, Option.isSome_some, Option.getD_some, if_true]

theorem srE_ok {n d n' d' : Int} (h : srE n d n' d' = 0) : ShOk n d ∧ ShOk n' d' ∧ n * d' ≤ n' * d := by
  have h1 : shE n d = 0 := by
    by_cases q : shE n d = 0
    · exact q
    · simp [srE, q] at h
  have h2 : shE n' d' = 0 := by
    by_cases q : shE n' d' = 0
    · exact q
    · simp [srE, h1, q] at h
  have h3 : ¬ lessF (n', d', ()) (n, d, ()) = true := by
    intro q
    simp [srE, h1, h2, q] at h
  have o1 := shE_ok h1
  have o2 := shE_ok h2
  rw [less_ok o2 o1] at h3
  exact ⟨o1, o2, by omega⟩

theorem f14_eq (x : Int) (l : List Int) (n d n' d' m e m' e' : Int) (hn : n.natAbs ≤ 9223372036854775808) (hd : d.natAbs ≤ 9223372036854775808) (hd2 : d ≤ 9223372036854775807)
    (hn' : n'.natAbs ≤ 9223372036854775808) (hd' : d'.natAbs ≤ 9223372036854775808) (hd2' : d' ≤ 9223372036854775807)
    (hm : m.natAbs ≤ 9223372036854775808) (he : e.natAbs ≤ 9223372036854775808) (he2 : e ≤ 9223372036854775807)
    (hm' : m'.natAbs ≤ 9223372036854775808) (he' : e'.natAbs ≤ 9223372036854775808) (he2' : e' ≤ 9223372036854775807) :
    f14 ((x, l, ()), ((n, d, ()), (n', d', ()), ()), ((m, e, ()), (m', e', ()), ()), ()) = some (true, ()) := by
  simp only [f14, t14, Tr.val_test, g16, f16_eq x l, Option.isSome_some, Option.getD_some, if_true]
  by_cases h : l.length ≤ 26
  · rw [if_neg (by simp [h])]
    have h9 : l.length ≤ 1000000000 := by omega
    obtain ⟨a1, a2⟩ := f79_eq x l h9 n d n' d' hn hd hd2 hn' hd' hd2'
    obtain ⟨b1, b2⟩ := f79_eq x l h9 m e m' e' hm he he2 hm' he' he2'
    simp only [g18, f18_eq x l h9, g29, f29_eq x l h9, g80, f80_eq n d n' d' hd2 hd2', f80_eq m e m' e' he2 he2', eqF_eq, leF_eq, Option.isSome_some, Option.getD_some, if_true, Tr.val_fin]
    by_cases h0 : (chk x l).2 = 0
    · by_cases hs : srE n d n' d' = 0
      · obtain ⟨k2, k24, kb, _, _⟩ := chk_ok h0
        obtain ⟨o1, o2, o3⟩ := srE_ok hs
        obtain ⟨i2, r2, r2'⟩ := reach_some kb (by omega) k24 o2
        obtain ⟨i1, r1, r1'⟩ := reach_mono kb k24 o1 o2 o3 r2
        have a2 := a2 h0 hs
        have h81 := f81_eq l (by omega) h9 n d n' d'
        rw [r1, r2] at a2 h81
        have z1 : ¬ (l.length : Int) ≤ (i2 : Int) := by omega
        have z2 : (0 : Int) ≤ (i1 : Int) := by omega
        have z3 : (i1 : Int) ≤ (i2 : Int) := by omega
        simp only [h0, hs, g79, a2, g81, h81, g47, f47_eq, decide_true, Bool.not_true, Bool.false_eq_true, if_false, if_true, Option.isSome_some, Option.getD_some, beq_self_eq_true, Bool.and_self, z1, z2, z3, decide_false]
        by_cases ht : srE m e m' e' = 0
        · obtain ⟨p1, p2, p3⟩ := srE_ok ht
          obtain ⟨j2, s2, s2'⟩ := reach_some kb (by omega) k24 p2
          obtain ⟨j1, s1, s1'⟩ := reach_mono kb k24 p1 p2 p3 s2
          have b2 := b2 h0 ht
          rw [s1, s2] at b2
          simp only [ht, g82, f82_eq, decide_true, Bool.not_true, Bool.false_eq_true, if_false, if_true, Option.isSome_some, Option.getD_some]
          cases q1 : lessF (n, d, ()) (m, e, ()) with
          | true =>
            have := less_asymm q1
            simp [this]
          | false =>
            cases q2 : lessF (m', e', ()) (n', d', ()) with
            | true =>
              cases lessF (m, e, ()) (n, d, ()) <;> simp
            | false =>
              have w1 : ¬ lessF (n, d, ()) (m, e, ()) = true := by rw [q1]; simp
              have w2 : ¬ lessF (m', e', ()) (n', d', ()) = true := by rw [q2]; simp
              rw [less_ok o1 p1] at w1
              rw [less_ok p2 o2] at w2
              obtain ⟨y1, y1', y1''⟩ := reach_mono kb k24 p1 o1 (by omega) r1
              obtain ⟨y2, y2', y2''⟩ := reach_mono kb k24 o2 p2 (by omega) s2
              rw [s1] at y1'
              rw [r2] at y2'
              cases y1'
              cases y2'
              have v1 : (j1 : Int) ≤ (i1 : Int) := by omega
              have v2 : (i2 : Int) ≤ (j2 : Int) := by omega
              cases lessF (m, e, ()) (n, d, ()) <;> cases lessF (n', d', ()) (m', e', ()) <;> simp [b2, v1, v2, y1'', y2'']
        · simp [ht]
      · have a1 := a1 (.inr hs)
        simp [h0, hs, g79, a1]
    · have a1 := a1 (.inl h0)
      simp [h0, g79, a1]
  · rw [if_pos (by simp [h])]; rfl

theorem law14 (d : Tys.data as14) (hd : Tys.Wf as14 d) : Pure1 Go.Proofs.Try.prog 14 as14 [.bool] d (true, ()) := by
  obtain ⟨_, ⟨⟨n1, d1, _⟩, ⟨n2, d2, _⟩, _⟩, ⟨⟨n3, d3, _⟩, ⟨n4, d4, _⟩, _⟩, _⟩ := hd
  have hb : ∀ n : Int, ((IntKind.min .i64 : Int) ≤ n ∧ n ≤ (IntKind.max .i64 : Int)) → n.natAbs ≤ 9223372036854775808 ∧ n ≤ 9223372036854775807 := by
    intro n hn
    have e1 : (IntKind.min .i64 : Int) = -9223372036854775808 := by decide
    have e2 : (IntKind.max .i64 : Int) = 9223372036854775807 := by decide
    rw [e1, e2] at hn
    omega
  have h := f14_eq d.1.1 d.1.2.1 d.2.1.1.1 d.2.1.1.2.1 d.2.1.2.1.1 d.2.1.2.1.2.1 d.2.2.1.1.1 d.2.2.1.1.2.1 d.2.2.1.2.1.1 d.2.2.1.2.1.2.1 (hb _ n1).1 (hb _ d1).1 (hb _ d1).2 (hb _ n2).1 (hb _ d2).1 (hb _ d2).2 (hb _ n3).1 (hb _ d3).1 (hb _ d3).2 (hb _ n4).1 (hb _ d4).1 (hb _ d4).2
  have hp : p14.pre d = true := by
    show Option.isSome (f14 d) = true
    rw [show f14 d = some (true, ()) from h]; rfl
  have hg : p14.fn d = (true, ()) := by
    show (f14 d).getD _ = _
    rw [show f14 d = some (true, ()) from h]; rfl
  have := ok14.runs d hp
  rw [hg] at this
  exact this

end Go.Vm.Mo
