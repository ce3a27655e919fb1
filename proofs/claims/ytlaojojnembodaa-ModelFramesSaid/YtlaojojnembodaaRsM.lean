import Derived.Test.YtlaojojnembodaaRsFc
import Derived.Test.YtlaojojnembodaaA5
set_option linter.unusedVariables false
set_option linter.unusedSimpArgs false

namespace Go.Vm.Mo
open Go
set_option linter.unusedVariables false
set_option linter.unusedSimpArgs false

theorem dT {p : Prop} [Decidable p] (h : p) : decide p = true := decide_eq_true h
theorem dF {p : Prop} [Decidable p] (h : ¬ p) : decide p = false := decide_eq_false h
theorem nT {p : Prop} [Decidable p] (h : ¬ p) : (!decide p) = true := by rw [decide_eq_false h]; rfl
theorem nF {p : Prop} [Decidable p] (h : p) : (!decide p) = false := by rw [decide_eq_true h]; rfl
theorem dA {p q : Prop} [Decidable p] [Decidable q] (h : p) (k : q) : (decide p && decide q) = true := by rw [decide_eq_true h, decide_eq_true k]; rfl

theorem first_map (bad : Nat → Bool) : ∀ (n i : Nat), first bad n (i + 1) = (first (fun k => bad (k + 1)) n i).map (· + 1)
  | 0, _ => rfl
  | n + 1, i => by
    simp only [first]
    split
    · rfl
    · exact first_map bad n (i + 1)

def firstNZ : List Int → Int
  | [] => 0
  | a :: l => if a = 0 then firstNZ l else a

theorem firstNZ_eq : ∀ l : List Int, (match first (fun i => !decide (l.getD i 0 = 0)) l.length 0 with
    | some k => l.getD k 0
    | none => 0) = firstNZ l
  | [] => rfl
  | a :: l => by
    simp only [List.length, first, firstNZ]
    by_cases ha : a = 0
    · subst ha
      have e := firstNZ_eq l
      have hf : first (fun i => !decide (((0 : Int) :: l).getD i 0 = 0)) l.length (0 + 1) = (first (fun i => !decide (l.getD i 0 = 0)) l.length 0).map (· + 1) := by
        rw [first_map]; rfl
      simp only [hf, List.getD_cons_zero, decide_true, Bool.not_true, Bool.false_eq_true, if_false, if_true]
      rw [← e]
      cases first (fun i => !decide (l.getD i 0 = 0)) l.length 0 with
      | none => rfl
      | some k => rfl
    · simp [ha]

theorem l73 (l : List Int) (h : l.length ≤ 1000000000) : l73_0 ((l, (l.length : Int), (0 : Int), ()), ()) = match first (fun i => !decide (l.getD i 0 = 0)) l.length 0 with
    | some k => some (.inr ((l.getD k 0, ()), ()))
    | none => some (.inl ((), ())) := by
  refine itr_search (fun i => ((l, (l.length : Int), (i : Int), ()), ())) (fun i => !decide (l.getD i 0 = 0)) (fun k => ((l.getD k 0, ()), ())) (n := l.length) ?_ ?_ (lt_rounds (by omega))
  · intro i hi
    simp only [s73_0, t73_0, Tr.val_test, leF_eq, eqF_eq]
    rw [if_pos (by simp; omega), if_pos (by simp; omega)]
    simp only [Int.toNat_natCast, wrap64_nat (show i ≤ 9223372036854775806 by omega)]
    rfl
  · simp [s73_0, t73_0, leF_eq]

theorem f73_eq (l : List Int) (h : l.length ≤ 1000000000) : f73 (l, ()) = some (firstNZ l, ()) := by
  simp only [f73, t73, Tr.val_test, r73_0, l73 l h, ← firstNZ_eq l]
  cases first (fun i => !decide (l.getD i 0 = 0)) l.length 0 with
  | none => rfl
  | some k => rfl

theorem f74_eq (d : Tys.data as74) : f74 d = some (if d.1 = true then d.2.1 else (0 : Int), ()) := by
  simp only [f74, t74, Tr.val_test]
  split <;> rfl

def wi (lo hi x : Int) : Bool := decide (lo ≤ x) && decide (x ≤ hi)

theorem wi_iff {lo hi x : Int} : wi lo hi x = true ↔ lo ≤ x ∧ x ≤ hi := by simp [wi]

theorem f40_eq (d : Tys.data as40) : f40 d = some (wi d.2.1 d.2.2.1 d.1, ()) := by
  simp only [f40, t40, Tr.val_test, Tr.val_fin, leF_eq, decide_eq_true_eq, wi]
  split <;> simp [*]

theorem l72 (lo hi : Int) (l : List Int) (h : l.length ≤ 1000000000) : l72_0 ((lo, hi, l, (l.length : Int), (0 : Int), ()), ()) = match first (fun i => !wi lo hi (l.getD i 0)) l.length 0 with
    | some _ => some (.inr ((false, ()), ()))
    | none => some (.inl ((), ())) := by
  refine itr_search (fun i => ((lo, hi, l, (l.length : Int), (i : Int), ()), ())) (fun i => !wi lo hi (l.getD i 0)) (fun _ => ((false, ()), ())) (n := l.length) ?_ ?_ (lt_rounds (by omega))
  · intro i hi'
    simp only [s72_0, t72_0, Tr.val_test, Tr.val_fin, leF_eq, Int.toNat_natCast, wrap64_nat (show i ≤ 9223372036854775806 by omega)]
    rw [if_pos (by simp; omega), if_pos (by simp; omega)]
    by_cases a0 : lo ≤ l.getD i 0
    · by_cases a1 : l.getD i 0 ≤ hi
      · simp only [wi, a0, a1, decide_true, Bool.and_self, Bool.not_true, if_true, if_false, Bool.false_eq_true]
      · simp only [wi, a0, a1, decide_true, decide_false, Bool.and_false, Bool.not_false, Bool.not_true, if_true, if_false, Bool.false_eq_true]
    · simp only [wi, a0, decide_false, Bool.false_and, Bool.not_false, if_true, if_false, Bool.false_eq_true]
  · simp [s72_0, t72_0, leF_eq]

theorem f72_eq (lo hi : Int) (l : List Int) (h : l.length ≤ 1000000000) : f72 (lo, hi, l, ()) = some ((first (fun i => !wi lo hi (l.getD i 0)) l.length 0).isNone, ()) := by
  have hl := l72 lo hi l h
  cases hf : first (fun i => !wi lo hi (l.getD i 0)) l.length 0 with
  | none =>
    rw [hf] at hl
    simp only [f72, t72, Tr.val_test, Tr.val_fin, hl, isRet, Option.isSome_some, Option.isNone_none, if_true, Bool.false_eq_true, if_false]
  | some k =>
    rw [hf] at hl
    simp only [f72, t72, Tr.val_test, Tr.val_fin, hl, isRet, r72_0, outR, Option.isSome_some, Option.isNone_some, if_true]

theorem f72_one (lo hi a : Int) : f72 (lo, hi, [a], ()) = some (wi lo hi a, ()) := by
  rw [f72_eq lo hi _ (by simp)]
  simp only [first, List.length, List.getD_cons_zero]
  by_cases h1 : wi lo hi a = true
  · simp [h1]
  · simp [h1]

theorem f72_two (lo hi a b : Int) : f72 (lo, hi, [a, b], ()) = some (wi lo hi a && wi lo hi b, ()) := by
  rw [f72_eq lo hi _ (by simp)]
  simp only [first, List.length, List.getD_cons_zero, List.getD_cons_succ]
  by_cases h1 : wi lo hi a = true
  · by_cases h2 : wi lo hi b = true
    · simp [h1, h2]
    · simp [h1, h2]
  · simp [h1]

theorem q64_0 (l : List Int) (h : l.length ≤ 1000000) : l64_0 ((l, l, (0 : Int), ()), ()) = some (.inl ((), ())) := by
  refine itr_brk (fun i => ((l, l, (i : Int), ()), ())) (n := l.length) ?_ ?_ (lt_rounds (by omega))
  · intro i hi
    simp only [s64_0, t64_0, Tr.val_test, Tr.val_fin, Tr.val_stop, leF_eq, eqF_eq, Int.toNat_natCast, wrap64_nat (show i ≤ 9223372036854775806 by omega)]
    rw [if_pos (by simp; omega), if_pos (by simp; omega), if_pos (by simp; omega)]
    simp
  · simp [s64_0, t64_0, leF_eq]

theorem f64_self (l : List Int) (h : l.length ≤ 1000000) : f64 (l, l, ()) = some (true, ()) := by
  simp only [f64, t64, Tr.val_test, Tr.val_fin, Tr.val_stop, q64_0 l h, isRet, eqF_eq, decide_true, Bool.not_true, Bool.false_eq_true, if_false, Option.isSome_some, if_true]

theorem wn64 {x : Int} (h1 : -9223372036854775807 ≤ x) (h2 : x ≤ 9223372036854775807) : IntKind.wrap .i64 (0 - x) = -x := by
  rw [← wrap64_eq, wrap64_id (by omega) (by omega)]
  omega

theorem isSome_first {bad : Nat → Bool} {n : Nat} : (first bad n 0).isSome = true ↔ ∃ i, i < n ∧ bad i = true := by
  cases h : first bad n 0 with
  | none =>
    simp only [Option.isSome_none, Bool.false_eq_true, false_iff]
    rintro ⟨i, hi, hb⟩
    rw [first_none h i (by omega) (by omega)] at hb; cases hb
  | some k =>
    obtain ⟨_, h2, h3, _⟩ := first_some h
    simp only [Option.isSome_some, true_iff]
    exact ⟨k, by omega, h3⟩

theorem isNone_first {bad : Nat → Bool} {n : Nat} : (first bad n 0).isNone = true ↔ ∀ i, i < n → bad i = false := by
  cases h : first bad n 0 with
  | none =>
    simp only [Option.isNone_none, true_iff]
    exact fun i hi => first_none h i (by omega) (by omega)
  | some k =>
    obtain ⟨_, h2, h3, _⟩ := first_some h
    simp only [Option.isNone_some, Bool.false_eq_true, false_iff]
    intro hb
    rw [hb k (by omega)] at h3; cases h3

def firstE (e : Nat → Int) (n : Nat) : Int := match first (fun i => !decide (e i = 0)) n 0 with
  | some k => e k
  | none => 0

theorem firstE_zero {e : Nat → Int} {n : Nat} (h : firstE e n = 0) : ∀ i, i < n → e i = 0 := by
  intro i hi
  unfold firstE at h
  cases hf : first (fun i => !decide (e i = 0)) n 0 with
  | none => simpa using first_none hf i (by omega) (by omega)
  | some k =>
    rw [hf] at h
    obtain ⟨_, _, k3, _⟩ := first_some hf
    have h : e k = 0 := h
    simp [h] at k3

theorem firstE_of {e : Nat → Int} {n : Nat} (h : ∀ i, i < n → e i = 0) : firstE e n = 0 := by
  unfold firstE
  rw [first_of_none fun i _ hi => by simp [h i (by omega)]]

theorem f73_two (a b : Int) : f73 ([a, b], ()) = some (firstNZ [a, b], ()) := f73_eq _ (by simp)
theorem f73_three (a b c : Int) : f73 ([a, b, c], ()) = some (firstNZ [a, b, c], ()) := f73_eq _ (by simp)

theorem nz2 {a b : Int} (h : firstNZ [a, b] = 0) : a = 0 ∧ b = 0 := by
  simp only [firstNZ] at h
  by_cases ha : a = 0
  · rw [if_pos ha] at h
    by_cases hb : b = 0
    · exact ⟨ha, hb⟩
    · rw [if_neg hb] at h; exact absurd h hb
  · rw [if_neg ha] at h; exact absurd h ha

def acc (F : Nat → Int) : Nat → Int
  | 0 => 0
  | n + 1 => wrap64 (acc F n + F n)

theorem acc_congr {F G : Nat → Int} : ∀ {n : Nat}, (∀ i, i < n → F i = G i) → acc F n = acc G n
  | 0, _ => rfl
  | n + 1, h => by simp only [acc]; rw [acc_congr fun i hi => h i (by omega), h n (by omega)]

theorem acc_in (F : Nat → Int) : ∀ n, wrap64 (acc F n) = acc F n
  | 0 => by show wrap64 0 = 0; decide
  | n + 1 => wrap64_wrap64 _

theorem acc_zero {F : Nat → Int} {n : Nat} (h : F n = 0) : acc F (n + 1) = acc F n := by
  simp only [acc, h, Int.add_zero]; exact acc_in F n

def sz (x : Int) : Int := if x < -x then -x else x

theorem f86_eq (x : Int) (h : -9223372036854775807 ≤ x) (h2 : x ≤ 9223372036854775807) : f86 (x, ()) = some (sz x, ()) := by
  simp only [f86, t86, Tr.val_fin, wn64 h h2, sz]

theorem f119_eq (x : Int) (h : -9223372036854775807 ≤ x) (h2 : x ≤ 9223372036854775807) : f119 (x, ()) = some (sz x, ()) := by
  simp only [f119, t119, Tr.val_fin, wn64 h h2, sz]

theorem sz_gt {x y : Int} : (!leF (sz x) y) = !wi (-y) y x := by
  rw [leF_eq]
  unfold wi sz
  by_cases hx : x < -x
  · rw [if_pos hx]
    by_cases h1 : -x ≤ y
    · rw [dT h1, dT (show -y ≤ x by omega), dT (show x ≤ y by omega)]; rfl
    · rw [dF h1, dF (show ¬ -y ≤ x by omega)]; rfl
  · rw [if_neg hx]
    by_cases h1 : x ≤ y
    · rw [dT h1, dT (show -y ≤ x by omega)]; rfl
    · rw [dF h1, Bool.and_false]

theorem sz_le {x y : Int} : leF (sz x) y = wi (-y) y x := by
  have := sz_gt (x := x) (y := y)
  cases h1 : leF (sz x) y <;> cases h2 : wi (-y) y x <;> simp_all

theorem f126_one (b x : Int) (h0 : 0 ≤ b) (h1 : b ≤ 9223372036854775807) : f126 (b, [x], ()) = some (!wi (-b) b x, ()) := by
  have e := f72_one (-b) b x
  simp only [f126, t126, Tr.val_test, Tr.val_fin, g72, wn64 (show -9223372036854775807 ≤ b by omega) h1, e, Option.isSome_some, Option.getD_some, if_true]

theorem f74_if (b : Bool) (e : Int) : f74 (b, e, ()) = some (if b = true then e else 0, ()) := f74_eq _

def pE (x : Int) : Int := if wi (-10000) 10000 x = true then 0 else 2

theorem pE_if (x : Int) : (if (!wi (-10000) 10000 x) = true then (2 : Int) else 0) = pE x := by
  unfold pE
  cases wi (-10000) 10000 x <;> rfl

theorem f110_one (b x : Int) (h0 : 0 ≤ b) (h1 : b ≤ 9223372036854775807) : f110 (b, [x], ()) = some (if (!wi (-b) b x) = true then (2 : Int) else 0, ()) := by
  have e := f126_one b x h0 h1
  have e2 := f74_if (!wi (-b) b x) 2
  simp only [f110, t110, Tr.val_test, Tr.val_fin, g126, g74, e, e2, Option.isSome_some, Option.getD_some, if_true]

theorem f40_wi (lo hi x : Int) : f40 (x, lo, hi, ()) = some (wi lo hi x, ()) := f40_eq _

theorem f22_eq (l : List (Int × Int × Bool × Unit)) (h : l.length ≤ 100000) : f22 (l, ()) = some (l, ()) := by
  simp only [f22, t22, Tr.val_test, Tr.val_fin, List.nil_append]
  rw [if_pos (by simp only [Bool.and_eq_true, ble_eq_true']; omega)]

def el (l : List (Int × Int × Bool × Unit)) (i : Nat) : Int × Int × Bool × Unit := l.getD i (0, 0, false, ())
def sl (l : List (Int × Bool × Unit)) (i : Nat) : Int × Bool × Unit := l.getD i (0, false, ())

/-- The error of an element. -/
def eE (l : List (Int × Int × Bool × Unit)) (i : Nat) : Int := if (wi 1 1000 (el l i).1 && wi 1 1000 (el l i).2.1) = true then 0 else 2

theorem l89 (l : List (Int × Int × Bool × Unit)) (h : l.length ≤ 1000000) : l89_0 ((l, (l.length : Int), (0 : Int), ()), ()) = match first (fun i => !decide (eE l i = 0)) l.length 0 with
    | some k => some (.inr (((k : Int), eE l k, ()), ()))
    | none => some (.inl ((), ())) := by
  refine itr_search (fun i => ((l, (l.length : Int), (i : Int), ()), ())) (fun i => !decide (eE l i = 0)) (fun k => (((k : Int), eE l k, ()), ())) (n := l.length) ?_ ?_ (lt_rounds (by omega))
  · intro i hi
    have e1 := f72_two 1 1000 (el l i).1 (el l i).2.1
    have e2 := f74_if (!(wi 1 1000 (el l i).1 && wi 1 1000 (el l i).2.1)) 2
    simp only [el] at e1 e2
    simp only [s89_0, t89_0, Tr.val_test, leF_eq, eqF_eq, Int.toNat_natCast, g72, g74, e1, e2, Option.isSome_some, Option.getD_some, if_true, wrap64_nat (show i ≤ 9223372036854775806 by omega)]
    rw [if_pos (by simp; omega), if_pos (by simp; omega)]
    simp only [eE, el]
    rcases Bool.eq_false_or_eq_true (wi 1 1000 (l.getD i (0, 0, false, ())).1 && wi 1 1000 (l.getD i (0, 0, false, ())).2.1) with hb | hb <;> simp only [hb] <;> rfl
  · simp [s89_0, t89_0, leF_eq]

/-- The error of a list with so many items at most, by items. -/
def cE (most : Nat) (n : Nat) (e : Nat → Int) : Int × Int × Unit :=
  if n = 0 then (0, 10, ()) else if most < n then (0, 8, ()) else match first (fun i => !decide (e i = 0)) n 0 with
    | some k => ((k : Int), e k, ())
    | none => (0, 0, ())

def cS (l : List (Int × Int × Bool × Unit)) : Int × Int × Unit := cE 4 l.length (eE l)

theorem f88_eq (n m : Nat) : f88 ((n : Int), (m : Int), ()) = some (if n = 0 then 10 else if m < n then 8 else 0, ()) := by
  have e1 := f74_if (decide ((n : Int) = 0)) 10
  have e2 := f74_if (!decide ((n : Int) ≤ (m : Int))) 8
  have e3 := f73_two
  simp only [f88, t88, Tr.val_test, Tr.val_fin, eqF_eq, leF_eq, g74, g73, e1, e2, e3, Option.isSome_some, Option.getD_some, if_true]
  by_cases h0 : n = 0
  · subst h0; simp [firstNZ]
  · by_cases h1 : m < n
    · rw [if_neg h0, if_pos h1, dF (show ¬ (n : Int) = 0 by omega), dF (show ¬ (n : Int) ≤ (m : Int) by omega)]; simp [firstNZ]
    · rw [if_neg h0, if_neg h1, dF (show ¬ (n : Int) = 0 by omega), dT (show (n : Int) ≤ (m : Int) by omega)]; simp [firstNZ]

theorem f21_eq (l : List (Int × Int × Bool × Unit)) (h : l.length ≤ 1000000) : f21 (l, ()) = some (cS l) := by
  have e1 : f88 ((l.length : Int), (4 : Int), ()) = _ := f88_eq l.length 4
  have e2 := l89 l h
  simp only [f21, t21, Tr.val_test, Tr.val_fin, eqF_eq, g88, e1, e2, Option.isSome_some, Option.getD_some, if_true, cS, cE, r89_0]
  by_cases h0 : l.length = 0
  · simp only [if_pos h0]; rfl
  · simp only [if_neg h0]
    by_cases h1 : 4 < l.length
    · simp only [if_pos h1]; rfl
    · simp only [if_neg h1]
      cases first (fun i => !decide (eE l i = 0)) l.length 0 with
      | none => rfl
      | some k => rfl

theorem l30 (l : List (Int × Int × Bool × Unit)) (h : l.length ≤ 1000000) : l30_0 ((l, (0 : Int), ()), ()) = match first (fun i => !decide (eE l i = 0)) l.length 0 with
    | some k => some (.inr (((k : Int), eE l k, ()), ()))
    | none => some (.inl ((), ())) := by
  refine itr_search (fun i => ((l, (i : Int), ()), ())) (fun i => !decide (eE l i = 0)) (fun k => (((k : Int), eE l k, ()), ())) (n := l.length) ?_ ?_ (lt_rounds (by omega))
  · intro i hi
    have e1 := f40_wi 1 1000 (el l i).1
    have e2 := f40_wi 1 1000 (el l i).2.1
    simp only [el] at e1 e2
    simp only [s30_0, t30_0, Tr.val_test, leF_eq, eqF_eq, Int.toNat_natCast, g40, e1, e2, Option.isSome_some, Option.getD_some, if_true, wrap64_nat (show i ≤ 9223372036854775806 by omega)]
    rw [if_pos (by simp; omega), if_pos (by simp; omega)]
    simp only [eE, el]
    rcases Bool.eq_false_or_eq_true (wi 1 1000 (l.getD i (0, 0, false, ())).1) with hb | hb <;> rcases Bool.eq_false_or_eq_true (wi 1 1000 (l.getD i (0, 0, false, ())).2.1) with hc | hc <;> simp only [hb, hc] <;> rfl
  · simp [s30_0, t30_0, leF_eq]

theorem f30_eq (l : List (Int × Int × Bool × Unit)) (h : l.length ≤ 1000000) : f30 (l, ()) = some (cS l) := by
  have e2 := l30 l h
  simp only [f30, t30, Tr.val_test, Tr.val_fin, eqF_eq, leF_eq, e2, Option.isSome_some, Option.getD_some, if_true, cS, cE, r30_0]
  by_cases h0 : l.length = 0
  · rw [if_pos h0, if_pos (by simp [h0])]
  · rw [if_neg h0, if_neg (by simpa using h0)]
    by_cases h1 : 4 < l.length
    · rw [if_pos h1, if_pos (by simp; omega)]
    · rw [if_neg h1, if_neg (by simp; omega)]
      cases first (fun i => !decide (eE l i = 0)) l.length 0 with
      | none => rfl
      | some k => rfl

theorem cE_zero {m n : Nat} {e : Nat → Int} (h : (cE m n e).2.1 = 0) : 0 < n ∧ n ≤ m ∧ ∀ i, i < n → e i = 0 := by
  unfold cE at h
  split at h
  · cases h
  · split at h
    · cases h
    · refine ⟨by omega, by omega, fun i hi => ?_⟩
      cases hf : first (fun i => !decide (e i = 0)) n 0 with
      | none => simpa using first_none hf i (by omega) (by omega)
      | some k =>
        rw [hf] at h
        obtain ⟨_, _, k3, _⟩ := first_some hf
        have h : e k = 0 := h
        simp [h] at k3

theorem cS_zero {l : List (Int × Int × Bool × Unit)} (h : (cS l).2.1 = 0) : 0 < l.length ∧ l.length ≤ 4 ∧ ∀ i, i < l.length → 1 ≤ (el l i).1 ∧ (el l i).1 ≤ 1000 ∧ 1 ≤ (el l i).2.1 ∧ (el l i).2.1 ≤ 1000 := by
  obtain ⟨h1, h2, h3⟩ := cE_zero h
  refine ⟨h1, h2, fun i hi => ?_⟩
  have := h3 i hi
  unfold eE at this
  split at this
  · rename_i hw
    simp only [Bool.and_eq_true, wi_iff] at hw
    omega
  · cases this

end Go.Vm.Mo

namespace Go.Vm.Mo
open Go
set_option linter.unusedVariables false
set_option linter.unusedSimpArgs false

abbrev ELm := Int × Int × Bool × Unit
abbrev FLo := Int × Int × List (Int × Int × Bool × Unit) × Unit

def fl (l : List FLo) (i : Nat) : FLo := l.getD i (0, 0, [], ())

theorem take_fl (l : List FLo) {i : Nat} (h : i < l.length) : l.take i ++ [((fl l i).1, (fl l i).2.1, (fl l i).2.2.1, ())] = l.take (i + 1) := by
  rw [List.take_add_one, List.getElem?_eq_getElem h]
  unfold fl
  rw [List.getD_eq_getElem?_getD, List.getElem?_eq_getElem h]
  rfl

/-- A frame that does not have many more items than permitted. -/
def fewB (l : List FLo) : Bool := decide (l.length ≤ 7) && (first (fun i => !decide ((fl l i).2.2.1.length ≤ 6)) l.length 0).isNone

theorem l42 (l : List FLo) (h : l.length ≤ 7) : l42_0 (((0 : Int), ()), (l, ()), ()) = match first (fun i => !decide ((fl l i).2.2.1.length ≤ 6)) l.length 0 with
    | some _ => some (.inr ((false, ()), (l, ()), ()))
    | none => some (.inl ((), (l, ()), ())) := by
  refine itr_search (fun i => (((i : Int), ()), (l, ()), ())) (fun i => !decide ((fl l i).2.2.1.length ≤ 6)) (fun _ => ((false, ()), (l, ()), ())) (n := l.length) ?_ ?_ (lt_rounds (by omega))
  · intro i hi
    have hh : l.getD i (0, 0, [], ()) = fl l i := rfl
    simp only [s42_0, t42_0, Tr.val_test, Tr.val_fin, leF_eq, Int.toNat_natCast, wrap64_nat (show i ≤ 9223372036854775806 by omega), hh]
    rw [if_pos (by simp; omega), if_pos (by simp; omega)]
    by_cases h6 : (fl l i).2.2.1.length ≤ 6
    · rw [dT h6, dT (show (((fl l i).2.2.1.length : Nat) : Int) ≤ 6 by omega)]
    · rw [dF h6, dF (show ¬ (((fl l i).2.2.1.length : Nat) : Int) ≤ 6 by omega)]
  · simp [s42_0, t42_0, leF_eq]

theorem f42_eq (l : List FLo) : f42 ((l, ()), ()) = some (fewB l, ()) := by
  simp only [f42, t42, Tr.val_test, Tr.val_fin, leF_eq, fewB]
  by_cases h7 : l.length ≤ 7
  · rw [if_neg (by simp; omega), dT h7]
    have e := l42 l h7
    cases hf : first (fun i => !decide ((fl l i).2.2.1.length ≤ 6)) l.length 0 with
    | none => rw [hf] at e; simp only [e, isRet, Option.isSome_some, if_true, Bool.false_eq_true, if_false, Option.isNone_none, Bool.and_self]
    | some k => rw [hf] at e; simp only [e, r42_0, outR, isRet, Option.isSome_some, if_true, Option.isNone_some, Bool.and_false]
  · rw [if_pos (by simp; omega), dF h7]; rfl

theorem fewB_iff {l : List FLo} (h : fewB l = true) : l.length ≤ 7 ∧ ∀ i, i < l.length → (fl l i).2.2.1.length ≤ 6 := by
  simp only [fewB, Bool.and_eq_true, decide_eq_true_eq, isNone_first] at h
  exact ⟨h.1, fun i hi => by simpa using h.2 i hi⟩

theorem l44 (l : List FLo) (h : l.length ≤ 1000) (hs : ∀ i, i < l.length → (fl l i).2.2.1.length ≤ 1000) : l44_0 (((0 : Int), ()), (l, ()), (), ([], ()), ()) = some (.inl ((), (l, ()), (), (l, ()), ())) := by
  have key := itr_brk (step := s44_0) (st := fun i => (((i : Int), ()), (l, ()), (), (l.take i, ()), ())) (b := ((), (l, ()), (), (l.take l.length, ()), ())) (n := l.length) (m := rounds) ?_ ?_ (lt_rounds (by omega))
  · rw [List.take_length] at key; exact key
  · intro i hi
    have e1 := f22_eq (fl l i).2.2.1 (by have := hs i hi; omega)
    have e2 := take_fl l hi
    have hh : l.getD i (0, 0, [], ()) = fl l i := rfl
    simp only [s44_0, t44_0, Tr.val_test, Tr.val_fin, leF_eq, Int.toNat_natCast, hh, g22, e1, e2, Option.isSome_some, Option.getD_some, if_true, wrap64_nat (show i ≤ 9223372036854775806 by omega)]
    rw [if_pos (by simp; omega), if_pos (by simp; omega), if_pos (by simp only [Bool.and_eq_true, ble_eq_true', List.length_take]; omega)]
  · simp [s44_0, t44_0, leF_eq]

theorem f44_eq (l : List FLo) (h : l.length ≤ 1000) (hs : ∀ i, i < l.length → (fl l i).2.2.1.length ≤ 1000) : f44 ((l, ()), ()) = some ((l, ()), ()) := by
  simp only [f44, t44, Tr.val_test, Tr.val_fin, l44 l h hs, b44_0, isBrk, outB, if_true]

/-- The error of a floor. -/
def fE (l : List FLo) (i : Nat) : Int := firstNZ [if (wi 1 10000 (fl l i).1 && wi 1 1000 (fl l i).2.1) = true then 0 else 2, (cS (fl l i).2.2.1).2.1]

theorem l106 (l : List FLo) (h : l.length ≤ 1000) (hs : ∀ i, i < l.length → (fl l i).2.2.1.length ≤ 1000) : l106_0 ((l, (l.length : Int), (0 : Int), ()), ()) = match first (fun i => !decide (fE l i = 0)) l.length 0 with
    | some k => some (.inr (((k : Int), fE l k, ()), ()))
    | none => some (.inl ((), ())) := by
  refine itr_search (fun i => ((l, (l.length : Int), (i : Int), ()), ())) (fun i => !decide (fE l i = 0)) (fun k => (((k : Int), fE l k, ()), ())) (n := l.length) ?_ ?_ (lt_rounds (by omega))
  · intro i hi
    have e1 := f72_one 1 10000 (fl l i).1
    have e2 := f72_one 1 1000 (fl l i).2.1
    have e3 := f21_eq (fl l i).2.2.1 (by have := hs i hi; omega)
    have e4 : f74 (true, (2 : Int), ()) = some (2, ()) := f74_eq _
    have e5 := fun b => f74_if b 2
    have e6 := f73_two
    have hh : l.getD i (0, 0, [], ()) = fl l i := rfl
    simp only [s106_0, t106_0, Tr.val_test, hh, leF_eq, eqF_eq, Int.toNat_natCast, g72, g74, g73, g21, e1, e2, e3, e4, e5, e6, Option.isSome_some, Option.getD_some, if_true, wrap64_nat (show i ≤ 9223372036854775806 by omega)]
    rw [if_pos (by simp; omega), if_pos (by simp; omega)]
    simp only [fE]
    rcases Bool.eq_false_or_eq_true (wi 1 10000 (fl l i).1) with hb | hb <;> rcases Bool.eq_false_or_eq_true (wi 1 1000 (fl l i).2.1) with hc | hc <;> simp only [hb, hc, Bool.not_true, Bool.not_false, Bool.false_eq_true, if_true, if_false, Bool.and_self, Bool.and_false, Bool.false_and, Bool.and_true]
    all_goals split <;> simp_all
  · simp [s106_0, t106_0, leF_eq]

def cF (l : List FLo) : Int × Int × Unit := cE 5 l.length (fE l)

theorem f43_eq (l : List FLo) (h : l.length ≤ 1000) (hs : ∀ i, i < l.length → (fl l i).2.2.1.length ≤ 1000) : f43 ((l, ()), ()) = some (cF l) := by
  have e1 : f88 ((l.length : Int), (5 : Int), ()) = _ := f88_eq l.length 5
  have e2 := l106 l h hs
  simp only [f43, t43, Tr.val_test, Tr.val_fin, eqF_eq, g88, e1, e2, Option.isSome_some, Option.getD_some, if_true, cF, cE, r106_0]
  by_cases h0 : l.length = 0
  · simp only [if_pos h0]; rfl
  · simp only [if_neg h0]
    by_cases h1 : 5 < l.length
    · simp only [if_pos h1]; rfl
    · simp only [if_neg h1]
      cases first (fun i => !decide (fE l i = 0)) l.length 0 with
      | none => rfl
      | some k => rfl

theorem f39_eq (l : List ELm) (h : l.length ≤ 1000000) : f39 (l, ()) = some ((cS l).2.1, ()) := by
  simp only [f39, t39, Tr.val_test, Tr.val_fin, g30, f30_eq l h, Option.isSome_some, Option.getD_some, if_true]

theorem l49 (l : List FLo) (h : l.length ≤ 1000) (hs : ∀ i, i < l.length → (fl l i).2.2.1.length ≤ 1000) : l49_0 (((0 : Int), ()), (l, ()), ()) = match first (fun i => !decide (fE l i = 0)) l.length 0 with
    | some k => some (.inr (((k : Int), fE l k, ()), (l, ()), ()))
    | none => some (.inl ((), (l, ()), ())) := by
  refine itr_search (fun i => (((i : Int), ()), (l, ()), ())) (fun i => !decide (fE l i = 0)) (fun k => (((k : Int), fE l k, ()), (l, ()), ())) (n := l.length) ?_ ?_ (lt_rounds (by omega))
  · intro i hi
    have e1 := f40_wi 1 10000 (fl l i).1
    have e2 := f40_wi 1 1000 (fl l i).2.1
    have e3 := f39_eq (fl l i).2.2.1 (by have := hs i hi; omega)
    have hh : l.getD i (0, 0, [], ()) = fl l i := rfl
    simp only [s49_0, t49_0, Tr.val_test, Tr.val_fin, hh, leF_eq, eqF_eq, Int.toNat_natCast, g40, g39, e1, e2, e3, Option.isSome_some, Option.getD_some, if_true, wrap64_nat (show i ≤ 9223372036854775806 by omega)]
    rw [if_pos (by simp; omega), if_pos (by simp; omega)]
    simp only [fE]
    rcases Bool.eq_false_or_eq_true (wi 1 10000 (fl l i).1) with hb | hb <;> rcases Bool.eq_false_or_eq_true (wi 1 1000 (fl l i).2.1) with hc | hc <;> simp only [hb, hc, Bool.not_true, Bool.not_false, Bool.false_eq_true, if_true, if_false, Bool.and_self, Bool.and_false, Bool.false_and, Bool.and_true, firstNZ]
    all_goals split <;> simp_all
  · simp [s49_0, t49_0, leF_eq]

theorem f49_eq (l : List FLo) (h : l.length ≤ 1000) (hs : ∀ i, i < l.length → (fl l i).2.2.1.length ≤ 1000) : f49 ((l, ()), ()) = some (cF l) := by
  have e2 := l49 l h hs
  simp only [f49, t49, Tr.val_test, Tr.val_fin, eqF_eq, leF_eq, e2, Option.isSome_some, Option.getD_some, if_true, cF, cE, r49_0]
  by_cases h0 : l.length = 0
  · rw [if_pos h0, if_pos (by simp [h0])]
  · rw [if_neg h0, if_neg (by simpa using h0)]
    by_cases h1 : 5 < l.length
    · rw [if_pos h1, if_pos (by simp; omega)]
    · rw [if_neg h1, if_neg (by simp; omega)]
      cases first (fun i => !decide (fE l i = 0)) l.length 0 with
      | none => rfl
      | some k => rfl

theorem cF_zero {l : List FLo} (h : (cF l).2.1 = 0) : 0 < l.length ∧ l.length ≤ 5 ∧ ∀ i, i < l.length → (1 ≤ (fl l i).1 ∧ (fl l i).1 ≤ 10000 ∧ 1 ≤ (fl l i).2.1 ∧ (fl l i).2.1 ≤ 1000) ∧ (cS (fl l i).2.2.1).2.1 = 0 := by
  obtain ⟨h1, h2, h3⟩ := cE_zero h
  refine ⟨h1, h2, fun i hi => ?_⟩
  have := h3 i hi
  unfold fE at this
  obtain ⟨a, b⟩ := nz2 this
  refine ⟨?_, b⟩
  split at a
  · rename_i hw
    simp only [Bool.and_eq_true, wi_iff] at hw
    omega
  · cases a

theorem f108_eq (l : List FLo) (x : List Int) (h : l.length ≤ 1000) (hs : ∀ i, i < l.length → (fl l i).2.2.1.length ≤ 1000) (hx : x.length ≤ 1000) :
    f108 ((l, ()), x, ()) = some (if firstNZ [(cF l).2.1, firstNZ x] = 0 then (((l, ()), ()), 0, ()) else ((([], ()), ()), firstNZ [(cF l).2.1, firstNZ x], ())) := by
  have e1 := f43_eq l h hs
  have e2 := f73_eq x (by omega)
  have e3 := f73_two (cF l).2.1 (firstNZ x)
  simp only [f108, t108, Tr.val_test, Tr.val_fin, eqF_eq, g43, g73, e1, e2, e3, Option.isSome_some, Option.getD_some, if_true]
  by_cases h0 : firstNZ [(cF l).2.1, firstNZ x] = 0
  · rw [if_pos h0, if_neg (by simp [h0])]
  · rw [if_neg h0, if_pos (by simp [h0])]

end Go.Vm.Mo

namespace Go.Vm.Mo
open Go
set_option linter.unusedVariables false
set_option linter.unusedSimpArgs false

/-- The first values of a function. -/
def lst {α : Type} (F : Nat → α) (n : Nat) : List α := (List.range n).map F

theorem lst_succ {α : Type} (F : Nat → α) (n : Nat) : lst F (n + 1) = lst F n ++ [F n] := by simp [lst, List.range_succ]
theorem lst_len {α : Type} (F : Nat → α) (n : Nat) : (lst F n).length = n := by simp [lst]
theorem lst_get {α : Type} (F : Nat → α) {n i : Nat} (d : α) (h : i < n) : (lst F n).getD i d = F i := by simp [lst, List.getD, h]

theorem wrap64_pred {i : Nat} (h : 0 < i) (h2 : i ≤ 9223372036854775806) : wrap64 ((i : Int) - 1) = ((i - 1 : Nat) : Int) := by
  rw [wrap64_id (by omega) (by omega)]; omega

theorem mk_ok {n : Nat} (k : Int) (h : k * (n : Int) ≤ 281474976710656) (h2 : (n : Int) ≤ 281474976710656) : (decide ((0 : Int) ≤ (n : Int)) && decide ((n : Int) ≤ (n : Int)) && decide (k * (n : Int) ≤ (281474976710656 : Int)) && decide ((n : Int) ≤ (281474976710656 : Int))) = true := by
  simp only [Bool.and_eq_true, decide_eq_true_eq]; omega

theorem f105_eq (l : List ELm) (h : l.length ≤ 1000000) : f105 (l, ()) = some ((l, (0, List.replicate l.length ((0 : Int), false, ()), ()), ()), ()) := by
  simp only [f105, t105, Tr.val_test, Tr.val_fin, Int.toNat_natCast]
  rw [if_pos (mk_ok 16 (by omega) (by omega)), if_pos (by rw [beq_eq_true', List.length_replicate])]

theorem f35_eq (l : List ELm) (h : l.length ≤ 1000000) : f35 (l, ()) = some ((0, List.replicate l.length ((0 : Int), false, ()), ()), ()) := by
  simp only [f35, t35, Tr.val_test, Tr.val_fin, Int.toNat_natCast]
  rw [if_pos (mk_ok 16 (by omega) (by omega)), if_pos (by rw [beq_eq_true', List.length_replicate])]

/-- The sum of the stiffnesses of a spring. -/
def kS (l : List ELm) : Int := acc (fun j => (el l j).1) l.length

/-- The stiffness of a storey. -/
def K (fs : List FLo) (i : Nat) : Int := if i < fs.length then kS (fl fs i).2.2.1 else 0

theorem f131_eq (d : Tys.data as131) : f131 d = some (d.1.1.1, ()) := rfl

theorem l129 (l : List ELm) (x : List (Int × Bool × Unit)) (a : Int) (h : x.length ≤ l.length) (hl : l.length ≤ 1000000) :
    l129_0 ((x, (x.length : Int), (0 : Int), ()), (), (l, a, x, ()), (), ((0 : Int), ()), ()) = some (.inl ((), (), (l, a, x, ()), (), (acc (fun j => (el l j).1) x.length, ()), ())) := by
  refine itr_brk (fun i => ((x, (x.length : Int), (i : Int), ()), (), (l, a, x, ()), (), (acc (fun j => (el l j).1) i, ()), ())) (n := x.length) ?_ ?_ (lt_rounds (by omega))
  · intro i hi
    have hh : l.getD i (0, 0, false, ()) = el l i := rfl
    simp only [s129_0, t129_0, Tr.val_test, Tr.val_fin, leF_eq, Int.toNat_natCast, hh, g131, f131_eq, Option.isSome_some, Option.getD_some, if_true, wrap64_nat (show i ≤ 9223372036854775806 by omega), acc]
    rw [if_pos (by simp; omega), if_pos (by simp; omega), if_pos (by simp; omega)]
  · simp [s129_0, t129_0, leF_eq]

theorem f109_eq (fs : List FLo) (i : Nat) (h : fs.length ≤ 1000) (hi : i ≤ fs.length) (hs : ∀ i, i < fs.length → (fl fs i).2.2.1.length ≤ 1000) : f109 (((fs, ()), ()), (i : Int), ()) = some (K fs i, ()) := by
  have hh : fs.getD i (0, 0, [], ()) = fl fs i := rfl
  simp only [f109, t109, Tr.val_test, Tr.val_fin, eqF_eq, Int.toNat_natCast, hh, K]
  by_cases h0 : i < fs.length
  · have e1 := f105_eq (fl fs i).2.2.1 (by have := hs i h0; omega)
    have e2 := l129 (fl fs i).2.2.1 (List.replicate (fl fs i).2.2.1.length ((0 : Int), false, ())) 0 (by simp) (by have := hs i h0; omega)
    simp only [List.length_replicate] at e2
    rw [dF (show ¬ (i : Int) = (fs.length : Int) by omega), if_neg (by decide), if_pos (by simp; omega), if_pos h0]
    simp only [g105, e1, Option.isSome_some, Option.getD_some, if_true, e2, b129_0, isBrk, outB, List.length_replicate, kS]
  · rw [dT (show (i : Int) = (fs.length : Int) by omega), if_pos rfl, if_neg h0]

theorem l114 (fs : List FLo) (i : Nat) (h : fs.length ≤ 1000) (hi : i ≤ fs.length) (hs : ∀ i, i < fs.length → (fl fs i).2.2.1.length ≤ 1000) :
    l114_0 (((i : Int), (0 : Int), (0 : Int), ()), (fs, ()), ()) = some (.inl ((K fs i, ()), (fs, ()), ())) := by
  have hh : fs.getD i (0, 0, [], ()) = fl fs i := rfl
  by_cases h0 : i < fs.length
  · have key := itr_brk (step := s114_0) (st := fun j => (((i : Int), acc (fun j => (el (fl fs i).2.2.1 j).1) j, (j : Int), ()), (fs, ()), ())) (b := ((kS (fl fs i).2.2.1, ()), (fs, ()), ())) (n := (fl fs i).2.2.1.length) (m := rounds) ?_ ?_ (lt_rounds (by have := hs i h0; omega))
    · rw [K, if_pos h0]; exact key
    · intro j hj
      have hj2 := hs i h0
      have hh2 : (fl fs i).2.2.1.getD j (0, 0, false, ()) = el (fl fs i).2.2.1 j := rfl
      simp only [s114_0, t114_0, Tr.val_test, Tr.val_fin, leF_eq, Int.toNat_natCast, hh, hh2, wrap64_nat (show j ≤ 9223372036854775806 by omega), acc]
      rw [if_pos (by simp; omega), if_pos (by simp; omega), if_pos (by simp; omega), if_pos (by simp; omega)]
    · simp only [s114_0, t114_0, Tr.val_test, Tr.val_fin, leF_eq, Int.toNat_natCast, hh]
      rw [if_pos (by simp; omega), if_pos (by simp; omega), if_neg (by simp)]
      rfl
  · have key := itr_brk (step := s114_0) (st := fun j => (((i : Int), (0 : Int), (j : Int), ()), (fs, ()), ())) (b := (((0 : Int), ()), (fs, ()), ())) (n := 0) (m := rounds) (fun j hj => by omega) ?_ (lt_rounds (by omega))
    · rw [K, if_neg h0]; exact key
    · simp only [s114_0, t114_0, Tr.val_test, Tr.val_fin, leF_eq]
      rw [if_neg (by simp; omega)]

theorem f114_eq (fs : List FLo) (i : Nat) (h : fs.length ≤ 1000) (hi : i ≤ fs.length) (hs : ∀ i, i < fs.length → (fl fs i).2.2.1.length ≤ 1000) : f114 ((fs, ()), (i : Int), ()) = some (K fs i, ()) := by
  simp only [f114, t114, Tr.val_test, Tr.val_fin, l114 fs i h hi hs, b114_0, isBrk, outB, if_true]

/-- A row of the stiffness. -/
def rowOf (n i : Nat) (a b : Int) : List Int :=
  if 0 < i then
    if i + 1 < n then (((List.replicate n (0 : Int)).set i (wrap64 (a + b))).set (i - 1) (IntKind.wrap .i64 (0 - a))).set (i + 1) (IntKind.wrap .i64 (0 - b))
    else ((List.replicate n (0 : Int)).set i (wrap64 (a + b))).set (i - 1) (IntKind.wrap .i64 (0 - a))
  else
    if i + 1 < n then ((List.replicate n (0 : Int)).set i (wrap64 (a + b))).set (i + 1) (IntKind.wrap .i64 (0 - b))
    else (List.replicate n (0 : Int)).set i (wrap64 (a + b))

def row (fs : List FLo) (i : Nat) : List Int := rowOf fs.length i (K fs i) (K fs (i + 1))

theorem l45 (fs : List FLo) (h : fs.length ≤ 1000) (hs : ∀ i, i < fs.length → (fl fs i).2.2.1.length ≤ 1000) :
    l45_0 ((([] : List (List Int)), (fs.length : Int), (0 : Int), ()), (fs, ()), (fs, ()), ()) = some (.inl ((lst (row fs) fs.length, ()), (fs, ()), (fs, ()), ())) := by
  refine itr_brk (fun i => ((lst (row fs) i, (fs.length : Int), (i : Int), ()), (fs, ()), (fs, ()), ())) (n := fs.length) ?_ ?_ (lt_rounds (by omega))
  · intro i hi
    have e1 := f109_eq fs i h (by omega) hs
    have e2 := f109_eq fs (i + 1) h (by omega) hs
    have hr : row fs i = rowOf fs.length i (K fs i) (K fs (i + 1)) := rfl
    rw [lst_succ, hr]
    simp only [s45_0, t45_0, Tr.val_test, Tr.val_fin, leF_eq, Int.toNat_natCast, wrap64_nat (show i ≤ 9223372036854775806 by omega), g109, e1, e2, Option.isSome_some, Option.getD_some, if_true, Nat.zero_add, rowOf, lst_len, List.length_set, List.length_replicate]
    rw [if_pos (by simp; omega), if_pos (mk_ok 8 (by omega) (by omega)), if_pos (by simp; omega), if_pos (by rw [ble_eq_true']; omega)]
    have hsize : (Nat.ble ((2 * (i + 1) + 192) * 24) 281474976710656 && Nat.ble (i + 1) 281474976710656) = true := by
      simp only [Bool.and_eq_true, ble_eq_true']; omega
    by_cases h0 : 0 < i
    · simp only [wrap64_pred h0 (by omega), Int.toNat_natCast]
      rw [if_pos (by simp; omega), if_pos (by simp; omega), if_pos (by rw [ble_eq_true']; omega)]
      by_cases h1 : i + 1 < fs.length
      · rw [if_pos (by simp; omega), if_pos (by simp; omega), if_pos (by rw [ble_eq_true']; omega), if_pos (by rw [beq_eq_true']), if_pos hsize, if_pos h0, if_pos h1]
      · rw [if_neg (by simp; omega), if_pos (by rw [beq_eq_true']), if_pos hsize, if_pos h0, if_neg h1]
    · rw [if_neg (by simp; omega)]
      by_cases h1 : i + 1 < fs.length
      · rw [if_pos (by simp; omega), if_pos (by simp; omega), if_pos (by rw [ble_eq_true']; omega), if_pos (by rw [beq_eq_true']), if_pos hsize, if_neg h0, if_pos h1]
      · rw [if_neg (by simp; omega), if_pos (by rw [beq_eq_true']), if_pos hsize, if_neg h0, if_neg h1]
  · simp [s45_0, t45_0, leF_eq]

theorem l52 (fs : List FLo) (h : fs.length ≤ 1000) (hs : ∀ i, i < fs.length → (fl fs i).2.2.1.length ≤ 1000) :
    l52_0 ((([] : List (List Int)), (0 : Int), ()), (fs, ()), ()) = some (.inl ((lst (row fs) fs.length, ()), (fs, ()), ())) := by
  refine itr_brk (fun i => ((lst (row fs) i, (i : Int), ()), (fs, ()), ())) (n := fs.length) ?_ ?_ (lt_rounds (by omega))
  · intro i hi
    have e1 := f114_eq fs i h (by omega) hs
    have e2 := f114_eq fs (i + 1) h (by omega) hs
    have hr : row fs i = rowOf fs.length i (K fs i) (K fs (i + 1)) := rfl
    rw [lst_succ, hr]
    simp only [s52_0, t52_0, Tr.val_test, Tr.val_fin, leF_eq, Int.toNat_natCast, wrap64_nat (show i ≤ 9223372036854775806 by omega), g114, e1, e2, Option.isSome_some, Option.getD_some, if_true, Nat.zero_add, rowOf, lst_len, List.length_set, List.length_replicate]
    rw [if_pos (by simp; omega), if_pos (mk_ok 8 (by omega) (by omega)), if_pos (by simp; omega), if_pos (by rw [ble_eq_true']; omega)]
    have hsize : (Nat.ble ((2 * (i + 1) + 192) * 24) 281474976710656 && Nat.ble (i + 1) 281474976710656) = true := by
      simp only [Bool.and_eq_true, ble_eq_true']; omega
    by_cases h0 : 0 < i
    · simp only [wrap64_pred h0 (by omega), Int.toNat_natCast]
      rw [if_pos (by simp; omega), if_pos (by simp; omega), if_pos (by rw [ble_eq_true']; omega)]
      by_cases h1 : i + 1 < fs.length
      · rw [if_pos (by simp; omega), if_pos (by simp; omega), if_pos (by rw [ble_eq_true']; omega), if_pos (by rw [beq_eq_true']), if_pos hsize, if_pos h0, if_pos h1]
      · rw [if_neg (by simp; omega), if_pos (by rw [beq_eq_true']), if_pos hsize, if_pos h0, if_neg h1]
    · rw [if_neg (by simp; omega)]
      by_cases h1 : i + 1 < fs.length
      · rw [if_pos (by simp; omega), if_pos (by simp; omega), if_pos (by rw [ble_eq_true']; omega), if_pos (by rw [beq_eq_true']), if_pos hsize, if_neg h0, if_pos h1]
      · rw [if_neg (by simp; omega), if_pos (by rw [beq_eq_true']), if_pos hsize, if_neg h0, if_neg h1]
  · simp [s52_0, t52_0, leF_eq]

theorem f52_eq (fs : List FLo) (h : fs.length ≤ 1000) (hs : ∀ i, i < fs.length → (fl fs i).2.2.1.length ≤ 1000) : f52 ((fs, ()), ()) = some (lst (row fs) fs.length, ()) := by
  simp only [f52, t52, Tr.val_test, Tr.val_fin, l52 fs h hs, b52_0, isBrk, outB, if_true]

theorem nz_nil (a : Int) : firstNZ [a, firstNZ []] = a := by
  simp only [firstNZ]
  by_cases h : a = 0
  · rw [if_pos h]; exact h.symm
  · rw [if_neg h]

theorem f45_eq (fs : List FLo) (h : fs.length ≤ 1000) (hs : ∀ i, i < fs.length → (fl fs i).2.2.1.length ≤ 1000) : f45 ((fs, ()), ()) = some (if (cF fs).2.1 = 0 then (lst (row fs) fs.length, 0, ()) else ([], (cF fs).2.1, ())) := by
  have e1 := f108_eq fs [] h hs (by simp)
  rw [nz_nil] at e1
  simp only [f45, t45, Tr.val_test, Tr.val_fin, eqF_eq, g108, e1, Option.isSome_some, Option.getD_some, if_true]
  by_cases h0 : (cF fs).2.1 = 0
  · simp only [if_pos h0]
    simp only [l45 fs h hs, b45_0, isBrk, outB, if_true]
    rw [if_neg (by simp)]
  · simp only [if_neg h0]
    rw [if_pos (by simp [h0])]

theorem f51_self (l : List (List Int)) (h : l.length ≤ 1000) (hs : ∀ i, i < l.length → (l.getD i []).length ≤ 1000) : f51 (l, l, ()) = some (true, ()) := by
  have key : l51_0 ((l, l, (0 : Int), ()), ()) = some (.inl ((), ())) := by
    refine itr_brk (fun i => ((l, l, (i : Int), ()), ())) (n := l.length) ?_ ?_ (lt_rounds (by omega))
    · intro i hi
      have e := f64_self (l.getD i []) (by have := hs i hi; omega)
      simp only [s51_0, t51_0, Tr.val_test, Tr.val_fin, leF_eq, Int.toNat_natCast, g64, e, Option.isSome_some, Option.getD_some, if_true, wrap64_nat (show i ≤ 9223372036854775806 by omega)]
      rw [if_pos (by simp; omega), if_pos (by simp; omega), if_pos (by simp; omega)]
      rfl
    · simp [s51_0, t51_0, leF_eq]
  simp only [f51, t51, Tr.val_test, Tr.val_fin, key, isRet, eqF_eq, decide_true, Bool.not_true, Bool.false_eq_true, if_false, Option.isSome_some, if_true]

end Go.Vm.Mo

namespace Go.Vm.Mo
open Go
set_option linter.unusedVariables false
set_option linter.unusedSimpArgs false

abbrev HO := Int × List (Int × Bool × Unit) × Unit

/-- The hold of a spring at the beginning. -/
def bH (fs : List FLo) (i : Nat) : HO := (0, List.replicate (fl fs i).2.2.1.length ((0 : Int), false, ()), ())

theorem l113 (fs : List FLo) (h : fs.length ≤ 1000) (hs : ∀ i, i < fs.length → (fl fs i).2.2.1.length ≤ 1000) (n : Nat) (z : List Int) :
    l113_0 ((fs, (fs.length : Int), (0 : Int), ()), (fs, ()), (), ((n, n), (n, n), ([] : List HO), ()), z, z, ()) = some (.inl ((), (fs, ()), (), ((n, n), (n, n), lst (bH fs) fs.length, ()), z, z, ())) := by
  refine itr_brk (fun i => ((fs, (fs.length : Int), (i : Int), ()), (fs, ()), (), ((n, n), (n, n), lst (bH fs) i, ()), z, z, ())) (n := fs.length) ?_ ?_ (lt_rounds (by omega))
  · intro i hi
    have hh : fs.getD i (0, 0, [], ()) = fl fs i := rfl
    have e1 := f105_eq (fl fs i).2.2.1 (by have := hs i hi; omega)
    rw [lst_succ]
    simp only [s113_0, t113_0, Tr.val_test, Tr.val_fin, leF_eq, Int.toNat_natCast, hh, wrap64_nat (show i ≤ 9223372036854775806 by omega), g105, e1, Option.isSome_some, Option.getD_some, if_true, lst_len, bH]
    rw [if_pos (by simp; omega), if_pos (by simp; omega), if_pos (by simp only [Bool.and_eq_true, ble_eq_true']; omega)]
  · simp [s113_0, t113_0, leF_eq]

theorem l53 (fs : List FLo) (h : fs.length ≤ 1000) (hs : ∀ i, i < fs.length → (fl fs i).2.2.1.length ≤ 1000) (n : Nat) (z : List Int) :
    l53_0 (((fs.length : Int), (0 : Int), ()), (fs, ()), (), ((n, n), (n, n), ([] : List HO), ()), z, z, ()) = some (.inl ((), (fs, ()), (), ((n, n), (n, n), lst (bH fs) fs.length, ()), z, z, ())) := by
  refine itr_brk (fun i => (((fs.length : Int), (i : Int), ()), (fs, ()), (), ((n, n), (n, n), lst (bH fs) i, ()), z, z, ())) (n := fs.length) ?_ ?_ (lt_rounds (by omega))
  · intro i hi
    have hh : fs.getD i (0, 0, [], ()) = fl fs i := rfl
    have e1 := f35_eq (fl fs i).2.2.1 (by have := hs i hi; omega)
    rw [lst_succ]
    simp only [s53_0, t53_0, Tr.val_test, Tr.val_fin, leF_eq, Int.toNat_natCast, hh, wrap64_nat (show i ≤ 9223372036854775806 by omega), g35, e1, Option.isSome_some, Option.getD_some, if_true, lst_len, bH]
    rw [if_pos (by simp; omega), if_pos (by simp; omega), if_pos (by simp only [Bool.and_eq_true, ble_eq_true']; omega)]
  · simp [s53_0, t53_0, leF_eq]

/-- The state at the beginning. -/
def bS (fs : List FLo) : List Int × List Int × List HO × Unit := (List.replicate fs.length 0, List.replicate fs.length 0, lst (bH fs) fs.length, ())

theorem f113_eq (fs : List FLo) (h : fs.length ≤ 1000) (hs : ∀ i, i < fs.length → (fl fs i).2.2.1.length ≤ 1000) : f113 (((fs, ()), ()), ()) = some ((((fs, ()), ()), bS fs, ()), ()) := by
  simp only [f113, t113, Tr.val_test, Tr.val_fin, Int.toNat_natCast, l113 fs h hs, b113_0, isBrk, outB, if_true, List.length_replicate]
  rw [if_pos (mk_ok 8 (by omega) (by omega)), if_pos (by rw [beq_eq_true']), if_pos (by rw [beq_eq_true'])]
  rfl

theorem f53_eq (fs : List FLo) (h : fs.length ≤ 1000) (hs : ∀ i, i < fs.length → (fl fs i).2.2.1.length ≤ 1000) : f53 ((fs, ()), ()) = some (bS fs, ()) := by
  simp only [f53, t53, Tr.val_test, Tr.val_fin, Int.toNat_natCast, l53 fs h hs, b53_0, isBrk, outB, if_true, List.length_replicate]
  rw [if_pos (mk_ok 8 (by omega) (by omega)), if_pos (by rw [beq_eq_true']), if_pos (by rw [beq_eq_true'])]
  rfl

theorem f48_eq (fs : List FLo) (h : fs.length ≤ 1000) (hs : ∀ i, i < fs.length → (fl fs i).2.2.1.length ≤ 1000) : f48 ((fs, ()), ()) = some (if (cF fs).2.1 = 0 then (bS fs, 0, ()) else (([], [], [], ()), (cF fs).2.1, ())) := by
  have e1 := f108_eq fs [] h hs (by simp)
  rw [nz_nil] at e1
  simp only [f48, t48, Tr.val_test, Tr.val_fin, eqF_eq, g108, e1, Option.isSome_some, Option.getD_some, if_true]
  by_cases h0 : (cF fs).2.1 = 0
  · simp only [if_pos h0, g113, f113_eq fs h hs, Option.isSome_some, Option.getD_some, if_true]
    rw [if_neg (by simp)]
  · simp only [if_neg h0]
    rw [if_pos (by simp [h0])]

theorem f31_self (a : Int) (l : List (Int × Bool × Unit)) (h : l.length ≤ 1000000) : f31 ((a, l, ()), (a, l, ()), ()) = some (true, ()) := by
  have key : l31_0 (((0 : Int), ()), (a, l, ()), (a, l, ()), ()) = some (.inl ((), (a, l, ()), (a, l, ()), ())) := by
    refine itr_brk (fun i => (((i : Int), ()), (a, l, ()), (a, l, ()), ())) (n := l.length) ?_ ?_ (lt_rounds (by omega))
    · intro i hi
      simp only [s31_0, t31_0, Tr.val_test, Tr.val_fin, leF_eq, Int.toNat_natCast, beq_self_eq_true, Bool.and_self, Bool.not_true, Bool.false_eq_true, if_false, wrap64_nat (show i ≤ 9223372036854775806 by omega)]
      rw [if_pos (by simp; omega), if_pos (by simp; omega), if_pos (by simp; omega)]
    · simp [s31_0, t31_0, leF_eq]
  simp only [f31, t31, Tr.val_test, Tr.val_fin, key, isRet, eqF_eq, decide_true, Bool.not_true, Bool.false_eq_true, if_false, Option.isSome_some, if_true]

def hld (l : List HO) (i : Nat) : HO := l.getD i (0, [], ())

theorem f50_self (u v : List Int) (l : List HO) (h1 : u.length ≤ 1000) (h2 : v.length ≤ 1000) (h : l.length ≤ 1000) (hs : ∀ i, i < l.length → (hld l i).2.1.length ≤ 1000) : f50 ((u, v, l, ()), (u, v, l, ()), ()) = some (true, ()) := by
  have key : l50_0 (((0 : Int), ()), (u, v, l, ()), (u, v, l, ()), ()) = some (.inl ((), (u, v, l, ()), (u, v, l, ()), ())) := by
    refine itr_brk (fun i => (((i : Int), ()), (u, v, l, ()), (u, v, l, ()), ())) (n := l.length) ?_ ?_ (lt_rounds (by omega))
    · intro i hi
      have hh : l.getD i (0, [], ()) = hld l i := rfl
      have e := f31_self (hld l i).1 (hld l i).2.1 (by have := hs i hi; omega)
      simp only [s50_0, t50_0, Tr.val_test, Tr.val_fin, leF_eq, Int.toNat_natCast, hh, g31, e, Option.isSome_some, Option.getD_some, if_true, Bool.not_true, Bool.false_eq_true, if_false, wrap64_nat (show i ≤ 9223372036854775806 by omega)]
      rw [if_pos (by simp; omega), if_pos (by simp; omega), if_pos (by simp; omega)]
    · simp [s50_0, t50_0, leF_eq]
  have e1 := f64_self u (by omega)
  have e2 := f64_self v (by omega)
  simp only [f50, t50, Tr.val_test, Tr.val_fin, g64, e1, e2, key, isRet, eqF_eq, decide_true, Option.getD_some, Bool.not_true, Bool.false_eq_true, if_false, Option.isSome_some, if_true]

/-- The error of forces. -/
def pB (p : List Int) : Int := if (first (fun i => !wi (-1000000) 1000000 (p.getD i 0)) p.length 0).isNone = true then 0 else 2
def pErr (n : Nat) (p : List Int) : Int := firstNZ [if p.length = n then 0 else 10, pB p]

theorem f110_list (p : List Int) (h : p.length ≤ 1000000) : f110 (1000000, p, ()) = some (pB p, ()) := by
  have e := f72_eq (-1000000) 1000000 p (by omega)
  have e2 := f74_if (!(first (fun i => !wi (-1000000) 1000000 (p.getD i 0)) p.length 0).isNone) 2
  simp only [f110, t110, f126, t126, g126, Tr.val_test, Tr.val_fin, g72, g74, wn64 (show (-9223372036854775807 : Int) ≤ 1000000 by decide) (by decide), e, e2, Option.isSome_some, Option.getD_some, if_true, pB]
  cases (first (fun i => !wi (-1000000) 1000000 (p.getD i 0)) p.length 0).isNone <;> rfl

theorem l54 (p : List Int) (h : p.length ≤ 1000000) : l54_0 ((p, (0 : Int), ()), ()) = match first (fun i => !wi (-1000000) 1000000 (p.getD i 0)) p.length 0 with
    | some _ => some (.inr ((2, ()), ()))
    | none => some (.inl ((), ())) := by
  refine itr_search (fun i => ((p, (i : Int), ()), ())) (fun i => !wi (-1000000) 1000000 (p.getD i 0)) (fun _ => ((2, ()), ())) (n := p.length) ?_ ?_ (lt_rounds (by omega))
  · intro i hi
    have e1 := f40_wi (-1000000) 1000000 (p.getD i 0)
    simp only [s54_0, t54_0, Tr.val_test, Tr.val_fin, leF_eq, Int.toNat_natCast, g40, e1, Option.isSome_some, Option.getD_some, if_true, wrap64_nat (show i ≤ 9223372036854775806 by omega)]
    rw [if_pos (by simp; omega), if_pos (by simp; omega)]
  · simp [s54_0, t54_0, leF_eq]

theorem pB_none {p : List Int} (h : first (fun i => !wi (-1000000) 1000000 (p.getD i 0)) p.length 0 = none) : pB p = 0 := by
  unfold pB; rw [h]; rfl

theorem pB_some {p : List Int} {k : Nat} (h : first (fun i => !wi (-1000000) 1000000 (p.getD i 0)) p.length 0 = some k) : pB p = 2 := by
  unfold pB; rw [h]; rfl

theorem f54_eq (fs : List FLo) (p : List Int) (h : p.length ≤ 1000000) : f54 ((fs, ()), p, ()) = some (pErr fs.length p, ()) := by
  have e := l54 p h
  simp only [f54, t54, Tr.val_test, Tr.val_fin, eqF_eq, pErr, firstNZ]
  by_cases h0 : p.length = fs.length
  · rw [if_neg (by simp; omega), if_pos h0, if_pos rfl]
    cases hf : first (fun i => !wi (-1000000) 1000000 (p.getD i 0)) p.length 0 with
    | none => rw [hf] at e; simp only [pB_none hf, e, isRet, Option.isSome_some, if_true, Bool.false_eq_true, if_false]
    | some k => rw [hf] at e; simp only [pB_some hf, e, r54_0, outR, isRet, Option.isSome_some, if_true]; rfl
  · rw [if_pos (by simp; omega), if_neg h0]; rfl

end Go.Vm.Mo

namespace Go.Vm.Mo
open Go
set_option linter.unusedVariables false
set_option linter.unusedSimpArgs false

theorem wrapI_id {n : Int} (h1 : -9223372036854775808 ≤ n) (h2 : n ≤ 9223372036854775807) : IntKind.wrap .i64 n = n := by rw [← wrap64_eq, wrap64_id h1 h2]

/-- A fraction in lowest terms. -/
def low (a b : Int) : Int × Int × Unit := (a.tdiv (Int.gcd a b), b.tdiv (Int.gcd a b), ())

theorem low_wrap (a b : Int) (ha : a.natAbs ≤ 9223372036854775807) (hb : b.natAbs ≤ 9223372036854775807) : IntKind.wrap .i64 (a.tdiv (Int.gcd a b)) = (low a b).1 ∧ IntKind.wrap .i64 (b.tdiv (Int.gcd a b)) = (low a b).2.1 := by
  have h1 := tdiv_abs_le a (Int.gcd a b)
  have h2 := tdiv_abs_le b (Int.gcd a b)
  exact ⟨wrapI_id (by omega) (by omega), wrapI_id (by omega) (by omega)⟩

theorem sz_abs (x : Int) : sz x = (x.natAbs : Int) := by unfold sz; split <;> omega

theorem euc_bd {a b : Int} (ha : a.natAbs ≤ 9223372036854775807) (hb : b.natAbs ≤ 9223372036854775807) (h0 : b ≠ 0) : (euc a b).natAbs ≤ 9223372036854775807 := by
  rw [euc_abs]
  exact Nat.le_trans (Nat.gcd_le_right _ (by omega)) hb

theorem l123 (a b : Int) (hb : b.natAbs ≤ 9223372036854775807) : l123_0 ((a, b, ()), ()) = some (.inl ((euc a b, ()), ())) := by
  refine itr_euc (fun a b => ((a, b, ()), ())) (fun a => ((a, ()), ())) ?_ ?_ rounds a b (lt_rounds hb)
  · intro a b hb
    simp [s123_0, t123_0, eqF_eq, hb]
  · intro a
    simp [s123_0, t123_0, eqF_eq]

theorem f123_eq (a b : Int) (ha : a.natAbs ≤ 9223372036854775807) (hb : b.natAbs ≤ 9223372036854775807) (h0 : b ≠ 0) : f123 (a, b, ()) = some ((Int.gcd a b : Int), ()) := by
  have h1 := euc_bd ha hb h0
  have e := f119_eq (euc a b) (by omega) (by omega)
  simp only [f123, t123, b123_0, l123 a b hb, Tr.val_test, Tr.val_fin, isBrk, if_true, outB, g119, e, Option.isSome_some, Option.getD_some]
  rw [sz_abs, euc_abs]; rfl

theorem f112_eq (a b : Int) (ha : a.natAbs ≤ 9223372036854775807) (hb : b.natAbs ≤ 9223372036854775807) (h0 : b ≠ 0) : f112 (a, b, ()) = some (low a b, ()) := by
  obtain ⟨e1, e2⟩ := low_wrap a b ha hb
  simp only [f112, t112, g123, f123_eq a b ha hb h0, Tr.val_test, Tr.val_fin, Option.isSome_some, Option.getD_some, if_true, e1, e2]
  rw [if_neg (by simpa using gcd_pos_right h0)]

theorem l115 (a b : Int) (hb : b.natAbs ≤ 9223372036854775807) : l115_0 ((a, b, ()), ()) = some (.inl ((euc a b, ()), ())) := by
  refine itr_euc (fun a b => ((a, b, ()), ())) (fun a => ((a, ()), ())) ?_ ?_ rounds a b (lt_rounds hb)
  · intro a b hb
    simp [s115_0, t115_0, eqF_eq, hb]
  · intro a
    simp [s115_0, t115_0, eqF_eq]

theorem f115_eq (a b : Int) (ha : a.natAbs ≤ 9223372036854775807) (hb : b.natAbs ≤ 9223372036854775807) (h0 : b ≠ 0) : f115 (a, b, ()) = some ((Int.gcd a b : Int), ()) := by
  have h1 := euc_bd ha hb h0
  have e := f86_eq (euc a b) (by omega) (by omega)
  simp only [f115, t115, b115_0, l115 a b hb, Tr.val_test, Tr.val_fin, isBrk, if_true, outB, g86, e, Option.isSome_some, Option.getD_some]
  rw [sz_abs, euc_abs]; rfl

theorem f57_eq (a b : Int) (ha : a.natAbs ≤ 9223372036854775807) (hb : b.natAbs ≤ 9223372036854775807) (h0 : 0 < b) : f57 (a, b, ()) = some (low a b, ()) := by
  obtain ⟨e1, e2⟩ := low_wrap a b ha hb
  simp only [f57, t57, g115, f115_eq a b ha hb (by omega), Tr.val_test, Tr.val_fin, leF_eq, Option.isSome_some, Option.getD_some, if_true, e1, e2]
  rw [if_neg (by simp; omega), if_neg (by simpa using gcd_pos_right (show b ≠ 0 by omega))]

theorem low_den_pos {a b : Int} (h : 0 < b) : 0 < (low a b).2.1 := low_pos h

theorem low_den_le {a b : Int} (h : 0 < b) : (low a b).2.1 ≤ b := by
  have := tdiv_abs_le b (Int.gcd a b)
  have := low_den_pos (a := a) h
  unfold low at *
  dsimp only at *
  omega

theorem low_num_le (a b : Int) : (low a b).1.natAbs ≤ a.natAbs := tdiv_abs_le a (Int.gcd a b)

/-- What is divided by what it is a multiple of. -/
theorem low_mul {d : Int} (s : Int) (h : 0 < d) : low (d * s) d = (s, 1, ()) := by
  have hg : (Int.gcd (d * s) d : Int) = d := by
    have : Int.gcd (d * s) d = d.natAbs := by
      unfold Int.gcd
      rw [Int.natAbs_mul]
      exact Nat.gcd_eq_right (Nat.dvd_mul_right _ _)
    rw [this]; omega
  unfold low
  rw [hg, Int.mul_tdiv_cancel_left _ (by omega), Int.tdiv_self (by omega)]

/-- A fraction times its denominator is whole. -/
theorem low_whole {a b : Int} (h : 0 < b) : b * (low a b).1 = (low a b).2.1 * a := by
  have := low_cross a b
  unfold low
  dsimp only
  rw [Int.mul_comm b, this, Int.mul_comm]

/-- The sum of the forces from a floor on. -/
def suf (p : List Int) (i : Nat) : Int := (p.drop i).sum

theorem suf_step {p : List Int} {i : Nat} (h : i < p.length) : suf p i = p.getD i 0 + suf p (i + 1) := by
  unfold suf
  rw [List.drop_eq_getElem_cons h, List.sum_cons, List.getD_eq_getElem?_getD, List.getElem?_eq_getElem h]
  rfl

theorem suf_end (p : List Int) : suf p p.length = 0 := by unfold suf; rw [List.drop_length]; rfl

theorem suf_bd {p : List Int} (hp : ∀ i, i < p.length → -1000000 ≤ p.getD i 0 ∧ p.getD i 0 ≤ 1000000) : ∀ k i, i + k = p.length → -(1000000 * (k : Int)) ≤ suf p i ∧ suf p i ≤ 1000000 * (k : Int)
  | 0, i, h => by rw [show i = p.length by omega, suf_end]; omega
  | k + 1, i, h => by
    have a := hp i (by omega)
    have b := suf_bd hp k (i + 1) (by omega)
    rw [suf_step (show i < p.length by omega)]
    omega

/-- The drift of a storey. -/
def dr (fs : List FLo) (p : List Int) (i : Nat) : Int × Int × Unit := low (suf p i) (K fs i)

theorem set_lst {α : Type} (F : Nat → α) (n j : Nat) (v : α) : (lst F n).set j v = lst (fun i => if i = j then v else F i) n := by
  apply List.ext_getElem?
  intro i
  simp only [lst, List.getElem?_set, List.getElem?_map, List.length_map, List.length_range]
  by_cases hi : i < n
  · rw [List.getElem?_range hi]
    by_cases hj : j = i
    · subst hj; simp [hi]
    · rw [if_neg hj]; simp [Ne.symm hj]
  · rw [List.getElem?_eq_none (by simp; omega)]
    simp
    intro h1; omega

theorem lst_congr {α : Type} {F G : Nat → α} {n : Nat} (h : ∀ i, i < n → F i = G i) : lst F n = lst G n := by
  unfold lst
  exact List.map_congr_left fun i hi => h i (List.mem_range.1 hi)

end Go.Vm.Mo

namespace Go.Vm.Mo
open Go
set_option linter.unusedVariables false
set_option linter.unusedSimpArgs false

theorem acc_bd {F : Nat → Int} : ∀ {n : Nat}, n ≤ 1000 → (∀ i, i < n → 1 ≤ F i ∧ F i ≤ 1000) → (n : Int) ≤ acc F n ∧ acc F n ≤ 1000 * (n : Int)
  | 0, _, _ => by simp [acc]
  | n + 1, hn, h => by
    obtain ⟨a, b⟩ := acc_bd (n := n) (by omega) fun i hi => h i (by omega)
    obtain ⟨c, d⟩ := h n (by omega)
    simp only [acc]
    rw [wrap64_id (by omega) (by omega)]
    omega

theorem kS_bd {l : List ELm} (h : (cS l).2.1 = 0) : 1 ≤ kS l ∧ kS l ≤ 4000 := by
  obtain ⟨h1, h2, h3⟩ := cS_zero h
  have := acc_bd (F := fun j => (el l j).1) (n := l.length) (by omega) fun i hi => by have := h3 i hi; omega
  unfold kS
  omega

theorem K_bd {fs : List FLo} (h : (cF fs).2.1 = 0) {i : Nat} (hi : i < fs.length) : 1 ≤ K fs i ∧ K fs i ≤ 4000 := by
  rw [K, if_pos hi]
  exact kS_bd ((cF_zero h).2.2 i hi).2

theorem K_bd0 {fs : List FLo} (h : (cF fs).2.1 = 0) (i : Nat) : 0 ≤ K fs i ∧ K fs i ≤ 4000 := by
  by_cases hi : i < fs.length
  · have := K_bd h hi; omega
  · rw [K, if_neg hi]; omega

theorem pB_zero {p : List Int} (h : pB p = 0) : ∀ i, i < p.length → -1000000 ≤ p.getD i 0 ∧ p.getD i 0 ≤ 1000000 := by
  intro i hi
  cases hf : first (fun i => !wi (-1000000) 1000000 (p.getD i 0)) p.length 0 with
  | some k => rw [pB_some hf] at h; cases h
  | none =>
    have := first_none hf i (by omega) (by omega)
    rw [Bool.not_eq_false'] at this
    exact wi_iff.1 this

theorem pErr_zero {n : Nat} {p : List Int} (h : pErr n p = 0) : p.length = n ∧ pB p = 0 := by
  obtain ⟨a, b⟩ := nz2 h
  refine ⟨?_, b⟩
  by_cases h0 : p.length = n
  · exact h0
  · rw [if_neg h0] at a; cases a

theorem suf_bd5 {p : List Int} (hp : ∀ i, i < p.length → -1000000 ≤ p.getD i 0 ∧ p.getD i 0 ≤ 1000000) (hl : p.length ≤ 5) {i : Nat} (hi : i ≤ p.length) : -5000000 ≤ suf p i ∧ suf p i ≤ 5000000 := by
  have := suf_bd hp (p.length - i) i (by omega)
  omega

theorem l132 (fs : List FLo) (p : List Int) (hc : (cF fs).2.1 = 0) (hl : p.length = fs.length) (hp : pB p = 0) (hs : ∀ i, i < fs.length → (fl fs i).2.2.1.length ≤ 1000) :
    l132_0 (((p.length : Int) - 1, ()), (), (p, ()), (fs, ()), ((p.length, p.length), ()), ((0 : Int), ()), List.replicate p.length ((0 : Int), (0 : Int), ()), ()) = some (.inl ((), (), (p, ()), (fs, ()), ((p.length, p.length), ()), (suf p 0, ()), lst (dr fs p) p.length, ())) := by
  have hn := (cF_zero hc).2.1
  have key := itr_brk (step := s132_0) (st := fun t => (((p.length : Int) - 1 - (t : Int), ()), (), (p, ()), (fs, ()), ((p.length, p.length), ()), (suf p (p.length - t), ()), lst (fun i => if p.length - t ≤ i then dr fs p i else ((0 : Int), (0 : Int), ())) p.length, ())) (b := ((), (), (p, ()), (fs, ()), ((p.length, p.length), ()), (suf p 0, ()), lst (dr fs p) p.length, ())) (n := p.length) (m := rounds) ?_ ?_ (lt_rounds (by omega))
  · have e0 : lst (fun i => if p.length - 0 ≤ i then dr fs p i else ((0 : Int), (0 : Int), ())) p.length = List.replicate p.length ((0 : Int), (0 : Int), ()) := by
      rw [lst_congr (G := fun _ => ((0 : Int), (0 : Int), ())) fun i hi => if_neg (by omega)]
      unfold lst
      rw [List.map_const', List.length_range]
    simp only [Nat.sub_zero, suf_end, Int.natCast_zero, Int.sub_zero] at key e0
    rw [e0] at key
    exact key
  · intro t ht
    have hj : ∃ j, j = p.length - 1 - t := ⟨_, rfl⟩
    obtain ⟨j, hj⟩ := hj
    have hx : (p.length : Int) - 1 - (t : Int) = (j : Int) := by omega
    have hy : (p.length : Int) - 1 - ((t + 1 : Nat) : Int) = (j : Int) - 1 := by omega
    have h1 : p.length - t = j + 1 := by omega
    have h2 : p.length - (t + 1) = j := by omega
    have b1 := suf_bd5 (pB_zero hp) (by omega) (i := j) (by omega)
    have e0 : wrap64 (suf p (j + 1) + p.getD j 0) = suf p j := by
      rw [wrap64_id (by rw [Int.add_comm, ← suf_step (by omega)]; omega) (by rw [Int.add_comm, ← suf_step (by omega)]; omega), suf_step (show j < p.length by omega), Int.add_comm]
    have kb := K_bd hc (i := j) (by omega)
    have e1 := f109_eq fs j (by omega) (by omega) hs
    have e2 := f112_eq (suf p j) (K fs j) (by omega) (by omega) (by omega)
    rw [hx, hy, h1, h2]
    simp only [s132_0, t132_0, Tr.val_test, Tr.val_fin, leF_eq, Int.toNat_natCast, g109, e1, g112, e0, e2, Option.isSome_some, Option.getD_some, if_true, Nat.zero_add, lst_len]
    rw [if_pos (by simp), if_pos (by simp; omega), if_pos (by simp; omega), if_pos (by rw [ble_eq_true']; omega)]
    have e3 : (lst (fun i => if j + 1 ≤ i then dr fs p i else ((0 : Int), (0 : Int), ())) p.length).set j ((low (suf p j) (K fs j)).1, (low (suf p j) (K fs j)).2.1, ()) = lst (fun i => if j ≤ i then dr fs p i else ((0 : Int), (0 : Int), ())) p.length := by
      rw [set_lst]
      refine lst_congr fun i hi => ?_
      by_cases h3 : i = j
      · subst h3; rw [if_pos rfl, if_pos (Nat.le_refl _)]; rfl
      · rw [if_neg h3]
        by_cases h4 : j ≤ i
        · rw [if_pos h4, if_pos (by omega)]
        · rw [if_neg h4, if_neg (by omega)]
    rw [e3, wrap64_id (by omega) (by omega)]
  · have hx : (p.length : Int) - 1 - (p.length : Int) = -1 := by omega
    rw [hx]
    simp only [s132_0, t132_0, Tr.val_test, Tr.val_fin, leF_eq, Nat.sub_self, Nat.zero_le, if_true]
    rfl

theorem f46_eq (fs : List FLo) (p : List Int) (h : fs.length ≤ 1000) (h2 : p.length ≤ 1000) (hs : ∀ i, i < fs.length → (fl fs i).2.2.1.length ≤ 1000) :
    f46 ((fs, ()), p, ()) = some (if firstNZ [(cF fs).2.1, pErr fs.length p] = 0 then (lst (dr fs p) p.length, 0, ()) else ([], firstNZ [(cF fs).2.1, pErr fs.length p], ())) := by
  have e1 := f74_if (!decide ((p.length : Int) = (fs.length : Int))) 10
  have e1' : (if (!decide ((p.length : Int) = (fs.length : Int))) = true then (10 : Int) else 0) = if p.length = fs.length then 0 else 10 := by
    by_cases h0 : p.length = fs.length
    · rw [if_pos h0, if_neg (by simp; omega)]
    · rw [if_neg h0, if_pos (by simp; omega)]
  rw [e1'] at e1
  have e2 := f110_list p (by omega)
  have e3 := f108_eq fs [if p.length = fs.length then 0 else 10, pB p] h hs (by simp)
  rw [show firstNZ [if p.length = fs.length then (0 : Int) else 10, pB p] = pErr fs.length p from rfl] at e3
  simp only [f46, t46, Tr.val_test, Tr.val_fin, eqF_eq, g74, g110, g108, e1, e2, e3, Option.isSome_some, Option.getD_some, if_true]
  by_cases h0 : firstNZ [(cF fs).2.1, pErr fs.length p] = 0
  · obtain ⟨hc, hpe⟩ := nz2 h0
    obtain ⟨hl, hpb⟩ := pErr_zero hpe
    have hn := (cF_zero hc)
    have e4 := l132 fs p hc hl hpb hs
    simp only [if_pos h0, Int.toNat_natCast]
    rw [if_neg (by simp), if_pos (mk_ok 16 (by omega) (by omega)), wrap64_id (show -9223372036854775808 ≤ (p.length : Int) - 1 by omega) (by omega)]
    simp only [b132_0, e4, isBrk, outB, if_true, lst_len]
    rw [if_pos (by rw [beq_eq_true'])]
  · simp only [if_neg h0]
    rw [if_pos (by simp [h0])]

theorem l56i (fs : List FLo) (p : List Int) (xs : List (Int × Int × Unit)) (hl : p.length ≤ 5) (hp : pB p = 0) {i : Nat} (hi : i ≤ p.length) :
    l56_2_1 ((p, xs, (i : Int), (0 : Int), (i : Int), ()), (fs, ()), ()) = some (.inl ((p, xs, (i : Int), suf p i, ()), (fs, ()), ())) := by
  have key := itr_brk (step := s56_2_1) (st := fun t => ((p, xs, (i : Int), suf p i - suf p (i + t), ((i + t : Nat) : Int), ()), (fs, ()), ())) (b := ((p, xs, (i : Int), suf p i - suf p (i + (p.length - i)), ()), (fs, ()), ())) (n := p.length - i) (m := rounds) ?_ ?_ (lt_rounds (by omega))
  · simp only [Nat.add_zero, Int.sub_self] at key
    rw [show i + (p.length - i) = p.length by omega, suf_end, Int.sub_zero] at key
    exact key
  · intro t ht
    have b1 := suf_bd5 (pB_zero hp) hl (i := i) hi
    have b2 := suf_bd5 (pB_zero hp) hl (i := i + t + 1) (by omega)
    have s1 := suf_step (p := p) (i := i + t) (by omega)
    simp only [s56_2_1, t56_2_1, Tr.val_test, Tr.val_fin, leF_eq, Int.toNat_natCast, wrap64_nat (show i + t ≤ 9223372036854775806 by omega)]
    rw [if_pos (by simp; omega), if_pos (by simp; omega), wrap64_id (by omega) (by omega), show i + (t + 1) = i + t + 1 from by omega, show suf p i - suf p (i + t) + p.getD (i + t) 0 = suf p i - suf p (i + t + 1) by omega]
  · simp only [s56_2_1, t56_2_1, Tr.val_test, Tr.val_fin, leF_eq]
    rw [if_neg (by simp; omega)]

theorem l56 (fs : List FLo) (p : List Int) (hc : (cF fs).2.1 = 0) (hl : p.length = fs.length) (hp : pB p = 0) (hs : ∀ i, i < fs.length → (fl fs i).2.2.1.length ≤ 1000) :
    l56_0 ((p, ([] : List (Int × Int × Unit)), (0 : Int), ()), (fs, ()), ()) = some (.inl ((lst (dr fs p) p.length, ()), (fs, ()), ())) := by
  have hn := (cF_zero hc).2.1
  refine itr_brk (fun i => ((p, lst (dr fs p) i, (i : Int), ()), (fs, ()), ())) (n := p.length) ?_ ?_ (lt_rounds (by omega))
  · intro i hi
    have b1 := suf_bd5 (pB_zero hp) (by omega) (i := i) (by omega)
    have kb := K_bd hc (i := i) (by omega)
    have e0 := l56i fs p (lst (dr fs p) i) (by omega) hp (i := i) (by omega)
    have e1 := f114_eq fs i (by omega) (by omega) hs
    have e2 := f57_eq (suf p i) (K fs i) (by omega) (by omega) (by omega)
    rw [lst_succ, show dr fs p i = low (suf p i) (K fs i) from rfl]
    simp only [s56_0, t56_0, Tr.val_test, Tr.val_fin, leF_eq, e0, b56_2_1, isBrk, outB, g114, e1, g57, e2, Option.isSome_some, Option.getD_some, if_true, lst_len, wrap64_nat (show i ≤ 9223372036854775806 by omega)]
    rw [if_pos (by simp; omega), if_pos (by simp only [Bool.and_eq_true, ble_eq_true']; omega)]
  · simp [s56_0, t56_0, leF_eq]

theorem f56_eq (fs : List FLo) (p : List Int) (hc : (cF fs).2.1 = 0) (hl : p.length = fs.length) (hp : pB p = 0) (hs : ∀ i, i < fs.length → (fl fs i).2.2.1.length ≤ 1000) : f56 ((fs, ()), p, ()) = some (lst (dr fs p) p.length, ()) := by
  simp only [f56, t56, Tr.val_test, Tr.val_fin, l56 fs p hc hl hp hs, b56_0, isBrk, outB, if_true]

theorem f55_self (l : List (Int × Int × Unit)) (h : l.length ≤ 1000) : f55 (l, l, ()) = some (true, ()) := by
  have key : l55_0 ((l, l, (0 : Int), ()), ()) = some (.inl ((), ())) := by
    refine itr_brk (fun i => ((l, l, (i : Int), ()), ())) (n := l.length) ?_ ?_ (lt_rounds (by omega))
    · intro i hi
      simp only [s55_0, t55_0, Tr.val_test, Tr.val_fin, leF_eq, Int.toNat_natCast, beq_self_eq_true, Bool.and_self, Bool.not_true, Bool.false_eq_true, if_false, wrap64_nat (show i ≤ 9223372036854775806 by omega)]
      rw [if_pos (by simp; omega), if_pos (by simp; omega), if_pos (by simp; omega)]
    · simp [s55_0, t55_0, leF_eq]
  simp only [f55, t55, Tr.val_test, Tr.val_fin, key, isRet, eqF_eq, decide_true, Bool.not_true, Bool.false_eq_true, if_false, Option.isSome_some, if_true]

end Go.Vm.Mo

namespace Go.Vm.Mo
open Go
set_option linter.unusedVariables false
set_option linter.unusedSimpArgs false

theorem rowOf_len (n i : Nat) (a b : Int) : (rowOf n i a b).length = n := by
  unfold rowOf
  split <;> split <;> simp

theorem gset_same {l : List Int} {i : Nat} (v : Int) (h : i < l.length) : (l.set i v).getD i 0 = v := by
  simp [List.getD, h]

theorem gset_ne {l : List Int} {i j : Nat} (v : Int) (h : i ≠ j) : (l.set i v).getD j 0 = l.getD j 0 := by
  simp [List.getD, List.getElem?_set, h]

theorem row_own {fs : List FLo} (hc : (cF fs).2.1 = 0) {i : Nat} (hi : i < fs.length) : (row fs i).getD i 0 = K fs i + K fs (i + 1) := by
  have a := K_bd0 hc i
  have b := K_bd0 hc (i + 1)
  have w : wrap64 (K fs i + K fs (i + 1)) = K fs i + K fs (i + 1) := wrap64_id (by omega) (by omega)
  unfold row rowOf
  by_cases h0 : 0 < i
  · rw [if_pos h0]
    by_cases h1 : i + 1 < fs.length
    · rw [if_pos h1, gset_ne _ (by omega), gset_ne _ (by omega), gset_same _ (by simpa using hi), w]
    · rw [if_neg h1, gset_ne _ (by omega), gset_same _ (by simpa using hi), w]
  · rw [if_neg h0]
    by_cases h1 : i + 1 < fs.length
    · rw [if_pos h1, gset_ne _ (by omega), gset_same _ (by simpa using hi), w]
    · rw [if_neg h1, gset_same _ (by simpa using hi), w]

theorem row_next {fs : List FLo} (hc : (cF fs).2.1 = 0) {i : Nat} (hi : i + 1 < fs.length) : (row fs i).getD (i + 1) 0 = -K fs (i + 1) := by
  have b := K_bd0 hc (i + 1)
  have w : IntKind.wrap .i64 (0 - K fs (i + 1)) = -K fs (i + 1) := by rw [wrapI_id (by omega) (by omega)]; omega
  unfold row rowOf
  by_cases h0 : 0 < i
  · rw [if_pos h0, if_pos hi, gset_same _ (by simpa using hi), w]
  · rw [if_neg h0, if_pos hi, gset_same _ (by simpa using hi), w]

theorem f47_eq (l : List Int) (h : l.length ≤ 1000000) : f47 (l, ()) = some (l, ()) := by
  simp only [f47, t47, Tr.val_test, Tr.val_fin, List.nil_append]
  rw [if_pos (by simp only [Bool.and_eq_true, ble_eq_true']; omega)]

theorem l7 (fs : List FLo) (p : List Int) (hc : (cF fs).2.1 = 0) (hl : p.length = fs.length) (hp : pB p = 0) :
    l7_0 ((p, lst (row fs) fs.length, lst (dr fs p) p.length, (0 : Int), ()), ()) = some (.inl ((), ())) := by
  have hn := (cF_zero hc).2.1
  refine itr_brk (fun i => ((p, lst (row fs) fs.length, lst (dr fs p) p.length, (i : Int), ()), ())) (n := p.length) ?_ ?_ (lt_rounds (by omega))
  · intro i hi
    have kb := K_bd hc (i := i) (by omega)
    have kb1 := K_bd0 hc (i + 1)
    have sb := suf_bd5 (pB_zero hp) (by omega) (i := i) (by omega)
    have pb := pB_zero hp i hi
    have g1 : (lst (row fs) fs.length).getD i [] = row fs i := lst_get _ _ (by omega)
    have g2 : (lst (dr fs p) p.length).getD i (0, 0, ()) = dr fs p i := lst_get _ _ hi
    have hrow := row_own hc (i := i) (by omega)
    have rl : (row fs i).length = fs.length := rowOf_len _ _ _ _
    have d1 : 0 < (dr fs p i).2.1 := low_den_pos (by omega)
    have d2 : (dr fs p i).2.1 ≤ K fs i := low_den_le (by omega)
    have n1 : (dr fs p i).1.natAbs ≤ (suf p i).natAbs := low_num_le _ _
    have m1 : K fs i * (dr fs p i).1 = (dr fs p i).2.1 * suf p i := low_whole (by omega)
    have q1 : ∀ a : Int, -8000 ≤ a → a ≤ 8000 → (a * (dr fs p i).1).natAbs ≤ 40000000000 := by
      intro a h1 h2
      rw [Int.natAbs_mul]
      exact Nat.le_trans (Nat.mul_le_mul (show a.natAbs ≤ 8000 by omega) (show (dr fs p i).1.natAbs ≤ 5000000 by omega)) (by decide)
    have w1 : IntKind.wrap .i64 (0 - (K fs i + K fs (i + 1))) = -(K fs i + K fs (i + 1)) := by rw [wrapI_id (by omega) (by omega)]; omega
    have b1 := q1 (-(K fs i + K fs (i + 1))) (by omega) (by omega)
    have w2 : wrap64 (-(K fs i + K fs (i + 1)) * (dr fs p i).1) = -(K fs i + K fs (i + 1)) * (dr fs p i).1 := wrap64_id (by omega) (by omega)
    have e0 := f57_eq (-(K fs i + K fs (i + 1)) * (dr fs p i).1) (dr fs p i).2.1 (by omega) (by omega) d1
    have wp : IntKind.wrap .i64 (0 - p.getD i 0) = -p.getD i 0 := by rw [wrapI_id (by omega) (by omega)]; omega
    have ss := suf_step hi
    simp only [s7_0, t7_0, Tr.val_test, Tr.val_fin, leF_eq, eqF_eq, Int.toNat_natCast, wrap64_nat (show i ≤ 9223372036854775806 by omega), g1, g2, hrow, w1, w2, g57, e0, Option.isSome_some, Option.getD_some, if_true, lst_len, rl]
    rw [if_pos (by simp; omega), if_pos (by simp; omega), if_pos (by simp; omega), if_pos (by simp; omega)]
    by_cases h1 : i + 1 < p.length
    · have kb2 := K_bd hc (i := i + 1) (by omega)
      have sb2 := suf_bd5 (pB_zero hp) (by omega) (i := i + 1) (by omega)
      have g3 : (lst (dr fs p) p.length).getD (i + 1) (0, 0, ()) = dr fs p (i + 1) := lst_get _ _ h1
      have hrow2 := row_next hc (i := i) (by omega)
      have d3 : 0 < (dr fs p (i + 1)).2.1 := low_den_pos (by omega)
      have d4 : (dr fs p (i + 1)).2.1 ≤ K fs (i + 1) := low_den_le (by omega)
      have n2 : (dr fs p (i + 1)).1.natAbs ≤ (suf p (i + 1)).natAbs := low_num_le _ _
      have m2 : K fs (i + 1) * (dr fs p (i + 1)).1 = (dr fs p (i + 1)).2.1 * suf p (i + 1) := low_whole (by omega)
      have w3 : IntKind.wrap .i64 (0 - -K fs (i + 1)) = K fs (i + 1) := by rw [wrapI_id (by omega) (by omega)]; omega
      have w4 : wrap64 (K fs (i + 1) - (K fs i + K fs (i + 1))) = -K fs i := by rw [wrap64_id (by omega) (by omega)]; omega
      have b2 := q1 (-K fs i) (by omega) (by omega)
      have w5 : wrap64 (-K fs i * (dr fs p i).1) = (dr fs p i).2.1 * -suf p i := by
        rw [wrap64_id (by omega) (by omega), Int.neg_mul, m1, Int.mul_neg]
      have b3 : (K fs (i + 1) * (dr fs p (i + 1)).1).natAbs ≤ 40000000000 := by
        rw [Int.natAbs_mul]
        exact Nat.le_trans (Nat.mul_le_mul (show (K fs (i + 1)).natAbs ≤ 8000 by omega) (show (dr fs p (i + 1)).1.natAbs ≤ 5000000 by omega)) (by decide)
      have w6 : wrap64 (K fs (i + 1) * (dr fs p (i + 1)).1) = (dr fs p (i + 1)).2.1 * suf p (i + 1) := by
        rw [wrap64_id (by omega) (by omega), m2]
      have b4 : ((dr fs p i).2.1 * -suf p i).natAbs ≤ 9223372036854775807 := by
        rw [← w5]; have := wrap64_bounds (-K fs i * (dr fs p i).1); rw [wrap64_id (by omega) (by omega)]; omega
      have b5 : ((dr fs p (i + 1)).2.1 * suf p (i + 1)).natAbs ≤ 9223372036854775807 := by rw [← m2]; omega
      have e1 := f57_eq ((dr fs p i).2.1 * -suf p i) (dr fs p i).2.1 b4 (by omega) d1
      rw [low_mul _ d1] at e1
      have e2 := f57_eq ((dr fs p (i + 1)).2.1 * suf p (i + 1)) (dr fs p (i + 1)).2.1 b5 (by omega) d3
      rw [low_mul _ d3] at e2
      have w7 : wrap64 (-suf p i + suf p (i + 1)) = -p.getD i 0 := by rw [wrap64_id (by omega) (by omega)]; omega
      simp only [g3, hrow2, w3, w4, w5, w6, e1, e2, w7, wp, Option.isSome_some, Option.getD_some, if_true, decide_true, Bool.not_true, Bool.false_eq_true, if_false]
      rw [if_pos (by simp; omega), if_pos (by simp; omega), if_pos (by simp; omega), if_pos (by simp; omega)]
    · have hk0 : K fs (i + 1) = 0 := by rw [K, if_neg (by omega)]
      have hs0 : suf p (i + 1) = 0 := by rw [show i + 1 = p.length by omega]; exact suf_end p
      have e1 : low (-(K fs i + K fs (i + 1)) * (dr fs p i).1) (dr fs p i).2.1 = (-suf p i, 1, ()) := by
        rw [hk0, Int.add_zero, Int.neg_mul, m1, ← Int.mul_neg, low_mul _ d1]
      have hs1 : suf p i = p.getD i 0 := by omega
      rw [if_neg (by simp; omega)]
      simp only [e1, wp, hs1, decide_true, Bool.not_true, Bool.false_eq_true, if_false]
      rw [if_pos (by simp; omega)]
  · simp [s7_0, t7_0, leF_eq]

theorem bS_len (fs : List FLo) : (bS fs).1.length = fs.length ∧ (bS fs).2.1.length = fs.length ∧ (bS fs).2.2.1.length = fs.length := by
  simp [bS, lst_len]

theorem f50_bS (fs : List FLo) (h : fs.length ≤ 1000) (hs : ∀ i, i < fs.length → (fl fs i).2.2.1.length ≤ 1000) : f50 ((bS fs), (bS fs), ()) = some (true, ()) := by
  refine f50_self _ _ _ (by simpa using h) (by simpa using h) (by rw [lst_len]; exact h) fun i hi => ?_
  rw [lst_len] at hi
  unfold hld
  rw [lst_get _ _ hi]
  simp only [bH, List.length_replicate]
  exact hs i hi

theorem f7_all (fs : List FLo) (p : List Int) : f7 ((fs, ()), p, ()) = some (true, ()) := by
  have e42 := f42_eq fs
  simp only [f7, t7, Tr.val_test, Tr.val_fin, g42, e42, leF_eq, eqF_eq, Option.isSome_some, Option.getD_some, if_true]
  cases hf : fewB fs with
  | false => rfl
  | true =>
    obtain ⟨h7, h6⟩ := fewB_iff hf
    simp only [Bool.not_true, Bool.false_eq_true, if_false]
    by_cases hp7 : p.length ≤ 7
    · have hs : ∀ i, i < fs.length → (fl fs i).2.2.1.length ≤ 1000 := fun i hi => by have := h6 i hi; omega
      have e44 := f44_eq fs (by omega) hs
      have e43 := f43_eq fs (by omega) hs
      have e45 := f45_eq fs (by omega) hs
      have e47 := f47_eq p (by omega)
      have e46 := f46_eq fs p (by omega) (by omega) hs
      have e48 := f48_eq fs (by omega) hs
      have e49 := f49_eq fs (by omega) hs
      rw [dT (show (p.length : Int) ≤ 7 by omega)]
      simp only [Bool.not_true, Bool.false_eq_true, if_false, g44, e44, g43, e43, g45, e45, g47, e47, g46, e46, g48, e48, g49, e49, Option.isSome_some, Option.getD_some, if_true, decide_true]
      by_cases hc : (cF fs).2.1 = 0
      · have e52 := f52_eq fs (by omega) hs
        have e53 := f53_eq fs (by omega) hs
        have e54 := f54_eq fs p (by omega)
        have e51 := f51_self (lst (row fs) fs.length) (by rw [lst_len]; omega) (fun i hi => by
          rw [lst_len] at hi
          rw [lst_get _ _ hi]
          show (rowOf _ _ _ _).length ≤ 1000
          rw [rowOf_len]; omega)
        have e50 := f50_bS fs (by omega) hs
        have hz : firstNZ [0, pErr fs.length p] = pErr fs.length p := by
          simp only [firstNZ, if_true]
          by_cases hq : pErr fs.length p = 0
          · rw [if_pos hq, hq]
          · rw [if_neg hq]
        simp only [hc, hz, if_true, decide_true, Bool.not_true, Bool.false_eq_true, if_false, g52, e52, g51, e51, g53, e53, g54, e54, Option.isSome_some, Option.getD_some]
        have e50' : f50 (((bS fs).1, (bS fs).2.1, (bS fs).2.2.1, ()), ((bS fs).1, (bS fs).2.1, (bS fs).2.2.1, ()), ()) = some (true, ()) := e50
        simp only [g50, e50', Option.isSome_some, Option.getD_some, if_true, Bool.not_true, Bool.false_eq_true, if_false]
        by_cases hq : pErr fs.length p = 0
        · obtain ⟨hl, hpb⟩ := pErr_zero hq
          have e56 := f56_eq fs p hc hl hpb hs
          have e55 := f55_self (lst (dr fs p) p.length) (by rw [lst_len]; omega)
          have e7 := l7 fs p hc hl hpb
          simp only [hq, if_true, decide_true, Bool.not_true, Bool.false_eq_true, if_false, g56, e56, g55, e55, e7, isRet, Option.isSome_some, Option.getD_some]
        · simp only [if_neg hq, dF hq, Bool.not_false, if_true, decide_true]
          rfl
      · have hz : firstNZ [(cF fs).2.1, pErr fs.length p] = (cF fs).2.1 := by simp only [firstNZ]; rw [if_neg hc]
        have e50 := f50_self [] [] [] (by simp) (by simp) (by simp) (fun i hi => by simp at hi)
        simp only [hz, if_neg hc, dF hc, Bool.not_false, if_true, decide_true, List.length_nil]
        simp only [g50, e50, Option.isSome_some, Option.getD_some, if_true]
        rfl
    · rw [dF (show ¬ (p.length : Int) ≤ 7 by omega)]; rfl

theorem law7 (d : Tys.data as7) (hw : Tys.Wf as7 d) : Pure1 Go.Proofs.Try.prog 7 as7 [.bool] d (true, ()) := by
  have h := f7_all d.1.1 d.2.1
  have hp : p7.pre d = true := by
    show Option.isSome (f7 d) = true
    rw [show f7 d = some (true, ()) from h]; rfl
  have hg : p7.fn d = (true, ()) := by
    show (f7 d).getD _ = _
    rw [show f7 d = some (true, ()) from h]; rfl
  have := ok7.runs d hp
  rw [hg] at this
  exact this

end Go.Vm.Mo
