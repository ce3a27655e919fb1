import Derived.Test.YtlmcodagfhdncaaRsFc
import Derived.Test.YtlmcodagfhdncaaA4
set_option linter.unusedVariables false
set_option linter.unusedSimpArgs false

namespace Go.Vm.Mo
open Go
set_option linter.unusedVariables false
set_option linter.unusedSimpArgs false

theorem dT {p : Prop} [Decidable p] (h : p) : decide p = true := decide_eq_true h
theorem dF {p : Prop} [Decidable p] (h : ¬ p) : decide p = false := decide_eq_false h
theorem nT {p : Prop} [Decidable p] (h : ¬ p) : (!decide p) = true := by rw [decide_eq_false h]; rfl
theorem nF {p : Prop} [Decidable p] (h : p) : (!decide p) = false := by rw [decide_eq_true h]; rfl
theorem dA {p q : Prop} [Decidable p] [Decidable q] (h : p) (k : q) : (decide p && decide q) = true := by rw [decide_eq_true h, decide_eq_true k]; rfl

theorem first_map (bad : Nat → Bool) : ∀ (n i : Nat), first bad n (i + 1) = (first (fun k => bad (k + 1)) n i).map (· + 1)
  | 0, _ => rfl
  | n + 1, i => by
    simp only [first]
    split
    · rfl
    · exact first_map bad n (i + 1)

def firstNZ : List Int → Int
  | [] => 0
  | a :: l => if a = 0 then firstNZ l else a

theorem firstNZ_eq : ∀ l : List Int, (match first (fun i => !decide (l.getD i 0 = 0)) l.length 0 with
    | some k => l.getD k 0
    | none => 0) = firstNZ l
  | [] => rfl
  | a :: l => by
    simp only [List.length, first, firstNZ]
    by_cases ha : a = 0
    · subst ha
      have e := firstNZ_eq l
      have hf : first (fun i => !decide (((0 : Int) :: l).getD i 0 = 0)) l.length (0 + 1) = (first (fun i => !decide (l.getD i 0 = 0)) l.length 0).map (· + 1) := by
        rw [first_map]; rfl
      simp only [hf, List.getD_cons_zero, decide_true, Bool.not_true, Bool.false_eq_true, if_false, if_true]
      rw [← e]
      cases first (fun i => !decide (l.getD i 0 = 0)) l.length 0 with
      | none => rfl
      | some k => rfl
    · simp [ha]

theorem l59 (l : List Int) (h : l.length ≤ 1000000000) : l59_0 ((l, (l.length : Int), (0 : Int), ()), ()) = match first (fun i => !decide (l.getD i 0 = 0)) l.length 0 with
    | some k => some (.inr ((l.getD k 0, ()), ()))
    | none => some (.inl ((), ())) := by
  refine itr_search (fun i => ((l, (l.length : Int), (i : Int), ()), ())) (fun i => !decide (l.getD i 0 = 0)) (fun k => ((l.getD k 0, ()), ())) (n := l.length) ?_ ?_ (lt_rounds (by omega))
  · intro i hi
    simp only [s59_0, t59_0, Tr.val_test, leF_eq, eqF_eq]
    rw [if_pos (by simp; omega), if_pos (by simp; omega)]
    simp only [Int.toNat_natCast, wrap64_nat (show i ≤ 9223372036854775806 by omega)]
    rfl
  · simp [s59_0, t59_0, leF_eq]

theorem f59_eq (l : List Int) (h : l.length ≤ 1000000000) : f59 (l, ()) = some (firstNZ l, ()) := by
  simp only [f59, t59, Tr.val_test, r59_0, l59 l h, ← firstNZ_eq l]
  cases first (fun i => !decide (l.getD i 0 = 0)) l.length 0 with
  | none => rfl
  | some k => rfl

theorem f60_eq (d : Tys.data as60) : f60 d = some (if d.1 = true then d.2.1 else (0 : Int), ()) := by
  simp only [f60, t60, Tr.val_test]
  split <;> rfl

def wi (lo hi x : Int) : Bool := decide (lo ≤ x) && decide (x ≤ hi)

theorem wi_iff {lo hi x : Int} : wi lo hi x = true ↔ lo ≤ x ∧ x ≤ hi := by simp [wi]

theorem f39_eq (d : Tys.data as39) : f39 d = some (wi d.2.1 d.2.2.1 d.1, ()) := by
  simp only [f39, t39, Tr.val_test, Tr.val_fin, leF_eq, decide_eq_true_eq, wi]
  split <;> simp [*]

theorem l57 (lo hi : Int) (l : List Int) (h : l.length ≤ 1000000000) : l57_0 ((lo, hi, l, (l.length : Int), (0 : Int), ()), ()) = match first (fun i => !wi lo hi (l.getD i 0)) l.length 0 with
    | some _ => some (.inr ((false, ()), ()))
    | none => some (.inl ((), ())) := by
  refine itr_search (fun i => ((lo, hi, l, (l.length : Int), (i : Int), ()), ())) (fun i => !wi lo hi (l.getD i 0)) (fun _ => ((false, ()), ())) (n := l.length) ?_ ?_ (lt_rounds (by omega))
  · intro i hi'
    simp only [s57_0, t57_0, Tr.val_test, Tr.val_fin, leF_eq, Int.toNat_natCast, wrap64_nat (show i ≤ 9223372036854775806 by omega)]
    rw [if_pos (by simp; omega), if_pos (by simp; omega)]
    by_cases a0 : lo ≤ l.getD i 0
    · by_cases a1 : l.getD i 0 ≤ hi
      · simp only [wi, a0, a1, decide_true, Bool.and_self, Bool.not_true, if_true, if_false, Bool.false_eq_true]
      · simp only [wi, a0, a1, decide_true, decide_false, Bool.and_false, Bool.not_false, Bool.not_true, if_true, if_false, Bool.false_eq_true]
    · simp only [wi, a0, decide_false, Bool.false_and, Bool.not_false, if_true, if_false, Bool.false_eq_true]
  · simp [s57_0, t57_0, leF_eq]

theorem f57_eq (lo hi : Int) (l : List Int) (h : l.length ≤ 1000000000) : f57 (lo, hi, l, ()) = some ((first (fun i => !wi lo hi (l.getD i 0)) l.length 0).isNone, ()) := by
  have hl := l57 lo hi l h
  cases hf : first (fun i => !wi lo hi (l.getD i 0)) l.length 0 with
  | none =>
    rw [hf] at hl
    simp only [f57, t57, Tr.val_test, Tr.val_fin, hl, isRet, Option.isSome_some, Option.isNone_none, if_true, Bool.false_eq_true, if_false]
  | some k =>
    rw [hf] at hl
    simp only [f57, t57, Tr.val_test, Tr.val_fin, hl, isRet, r57_0, outR, Option.isSome_some, Option.isNone_some, if_true]

theorem f57_one (lo hi a : Int) : f57 (lo, hi, [a], ()) = some (wi lo hi a, ()) := by
  rw [f57_eq lo hi _ (by simp)]
  simp only [first, List.length, List.getD_cons_zero]
  by_cases h1 : wi lo hi a = true
  · simp [h1]
  · simp [h1]

abbrev Msg := Int × Int × Int × Unit
abbrev kdA (l : List Msg) (i : Nat) : Int := (l.getD i ((0 : Int), (0 : Int), (0 : Int), ())).1
abbrev stA (l : List Msg) (i : Nat) : Int := (l.getD i ((0 : Int), (0 : Int), (0 : Int), ())).2.1
abbrev atA (l : List Msg) (i : Nat) : Int := (l.getD i ((0 : Int), (0 : Int), (0 : Int), ())).2.2.1

def mE6 (a b c e f g : Bool) : Int := if !a then 15 else if !(b && c) then 2 else if e then 9 else if f && g then 0 else 14
def mE (l : List Msg) (i : Nat) : Int :=
  mE6 (wi 0 1 (kdA l i)) (wi 0 60 (stA l i)) (wi 0 1000000000000 (atA l i)) (decide (0 < i) && !decide (atA l (i - 1) ≤ atA l i)) (decide (kdA l i = ((i % 2 : Nat) : Int))) (decide (stA l i = ((i / 2 : Nat) : Int)))
def mF (l : List Msg) : Option Nat := first (fun i => !decide (mE l i = 0)) l.length 0
def mK (l : List Msg) : Int × Int := if 60 < l.length then (0, 8) else match mF l with
  | some k => ((k : Int), mE l k)
  | none => (0, 0)

theorem tm2 (i : Nat) : Int.tmod (i : Int) 2 = ((i % 2 : Nat) : Int) := by
  rw [Int.tmod_eq_emod_of_nonneg (by omega)]; rfl

theorem td2 (i : Nat) (h : i ≤ 1000000000000) : IntKind.wrap .i64 (Int.tdiv (i : Int) 2) = ((i / 2 : Nat) : Int) := by
  have : Int.tdiv (i : Int) 2 = ((i / 2 : Nat) : Int) := by rw [Int.tdiv_eq_ediv_of_nonneg (by omega)]; rfl
  rw [this, ← wrap64_eq, wrap64_id (by omega) (by omega)]

theorem pr1 (j : Nat) (h : j ≤ 1000000000000) : wrap64 (((j + 1 : Nat) : Int) - 1) = (j : Int) := by
  rw [wrap64_id (by omega) (by omega)]; omega

theorem f59_four (a b c e : Int) : f59 ([a, b, c, e], ()) = some (if a = 0 then if b = 0 then if c = 0 then e else c else b else a, ()) := by
  rw [f59_eq _ (by simp)]
  simp only [firstNZ]
  by_cases h0 : e = 0 <;> simp [h0]

theorem f59_three (a b c : Int) : f59 ([a, b, c], ()) = some (if a = 0 then if b = 0 then c else b else a, ()) := by
  rw [f59_eq _ (by simp)]
  simp only [firstNZ]
  by_cases h0 : c = 0 <;> simp [h0]

theorem l83 (l : List Msg) (h : l.length ≤ 1000000000) : l83_0 ((l, (l.length : Int), (0 : Int), ()), (l, ()), ()) = match mF l with
    | some k => some (.inr (((k : Int), mE l k, ()), (l, ()), ()))
    | none => some (.inl ((), (l, ()), ())) := by
  refine itr_search (fun i => ((l, (l.length : Int), (i : Int), ()), (l, ()), ())) (fun i => !decide (mE l i = 0)) (fun k => (((k : Int), mE l k, ()), (l, ()), ())) (n := l.length) ?_ ?_ (lt_rounds (by omega))
  · intro i hi
    have b0 : (!decide ((l.length : Int) ≤ (i : Int))) = true := nT (by omega)
    have b1 : (decide ((0 : Int) ≤ (i : Int)) && decide ((i : Int) < (l.length : Int))) = true := dA (by omega) (by omega)
    have c57 : ∀ a b x : Int, f57 (a, b, [x], ()) = some (wi a b x, ()) := f57_one
    have c59 : ∀ a b c e : Int, f59 ([a, b, c, e], ()) = some (if a = 0 then if b = 0 then if c = 0 then e else c else b else a, ()) := f59_four
    simp only [s83_0, t83_0, Tr.val_test, Tr.val_fin, Tr.val_stop, leF_eq, eqF_eq, b0, b1, if_true, g57, g60, g59, c57, f60_eq, c59, Option.isSome_some, Option.getD_some, Int.toNat_natCast, tm2, td2 i (by omega), wrap64_nat (show i ≤ 9223372036854775806 by omega), mE, kdA, stA, atA]
    cases i with
    | zero =>
      have b2 : (!decide (((0 : Nat) : Int) ≤ (0 : Int))) = false := by decide
      simp only [b2]
      rcases Bool.eq_false_or_eq_true (wi 0 1 (List.getD l 0 ((0 : Int), (0 : Int), (0 : Int), ())).1) with hA | hA <;>
        rcases Bool.eq_false_or_eq_true (wi 0 60 (List.getD l 0 ((0 : Int), (0 : Int), (0 : Int), ())).2.1) with hB | hB <;>
        rcases Bool.eq_false_or_eq_true (wi 0 1000000000000 (List.getD l 0 ((0 : Int), (0 : Int), (0 : Int), ())).2.2.1) with hC | hC <;>
        rcases Bool.eq_false_or_eq_true (decide ((List.getD l 0 ((0 : Int), (0 : Int), (0 : Int), ())).1 = (((0) % 2 : Nat) : Int))) with hF | hF <;>
        rcases Bool.eq_false_or_eq_true (decide ((List.getD l 0 ((0 : Int), (0 : Int), (0 : Int), ())).2.1 = (((0) / 2 : Nat) : Int))) with hG | hG <;>
        simp only [hA, hB, hC, hF, hG, mE6, Bool.not_true, Bool.not_false, Bool.and_true, Bool.true_and, Bool.and_false, Bool.false_and, Bool.and_self, Bool.false_eq_true, if_true, if_false] <;> rfl
    | succ j =>
      have b2 : (!decide (((j + 1 : Nat) : Int) ≤ (0 : Int))) = true := nT (by omega)
      have b3 : (decide ((0 : Int) ≤ (j : Int)) && decide ((j : Int) < (l.length : Int))) = true := dA (by omega) (by omega)
      have b4 : decide (0 < j + 1) = true := by simp
      simp only [b2, b3, b4, pr1 j (by omega), Int.toNat_natCast, if_true, Nat.add_sub_cancel, Bool.true_and]
      rcases Bool.eq_false_or_eq_true (wi 0 1 (List.getD l (j + 1) ((0 : Int), (0 : Int), (0 : Int), ())).1) with hA | hA <;>
        rcases Bool.eq_false_or_eq_true (wi 0 60 (List.getD l (j + 1) ((0 : Int), (0 : Int), (0 : Int), ())).2.1) with hB | hB <;>
        rcases Bool.eq_false_or_eq_true (wi 0 1000000000000 (List.getD l (j + 1) ((0 : Int), (0 : Int), (0 : Int), ())).2.2.1) with hC | hC <;>
        rcases Bool.eq_false_or_eq_true (decide ((List.getD l j ((0 : Int), (0 : Int), (0 : Int), ())).2.2.1 ≤ (List.getD l (j + 1) ((0 : Int), (0 : Int), (0 : Int), ())).2.2.1)) with hD | hD <;>
        rcases Bool.eq_false_or_eq_true (decide ((List.getD l (j + 1) ((0 : Int), (0 : Int), (0 : Int), ())).1 = (((j + 1) % 2 : Nat) : Int))) with hF | hF <;>
        rcases Bool.eq_false_or_eq_true (decide ((List.getD l (j + 1) ((0 : Int), (0 : Int), (0 : Int), ())).2.1 = (((j + 1) / 2 : Nat) : Int))) with hG | hG <;>
        simp only [hA, hB, hC, hD, hF, hG, mE6, Bool.not_true, Bool.not_false, Bool.and_true, Bool.true_and, Bool.and_false, Bool.false_and, Bool.and_self, Bool.false_eq_true, if_true, if_false] <;> rfl
  · simp [s83_0, t83_0, leF_eq]

theorem f40_eq (l : List Msg) : f40 (l, ()) = some ((mK l).1, (mK l).2, ()) := by
  simp only [f40, t40, Tr.val_test, Tr.val_fin, Tr.val_stop, leF_eq, mK]
  by_cases h2 : 60 < l.length
  · have e2 : ¬ (l.length : Int) ≤ 60 := by omega
    simp [h2, e2]
  · have e2 : (l.length : Int) ≤ 60 := by omega
    have hl := l83 l (by omega)
    simp only [h2, e2, if_false, decide_true, Bool.not_true, Bool.false_eq_true]
    cases hf : mF l with
    | none =>
      rw [hf] at hl
      simp only [hl, isRet, Option.isSome_some, if_true, Bool.false_eq_true, if_false]
    | some k =>
      rw [hf] at hl
      simp only [hl, isRet, r83_0, outR, Option.isSome_some, if_true]

theorem f88_eq (d : Tys.data as88) : f88 d = some (wi 0 1000000000000 d.1, ()) := by
  simp only [f88, t88, Tr.val_test, Tr.val_fin, Tr.val_stop, g39, f39_eq, Option.isSome_some, Option.getD_some, if_true]

theorem l45 (l : List Msg) (h : l.length ≤ 1000000000) : l45_0 ((l, (0 : Int), ()), ()) = match mF l with
    | some k => some (.inr (((k : Int), mE l k, ()), ()))
    | none => some (.inl ((), ())) := by
  refine itr_search (fun i => ((l, (i : Int), ()), ())) (fun i => !decide (mE l i = 0)) (fun k => (((k : Int), mE l k, ()), ())) (n := l.length) ?_ ?_ (lt_rounds (by omega))
  · intro i hi
    have b0 : (!decide ((l.length : Int) ≤ (i : Int))) = true := nT (by omega)
    have b1 : (decide ((0 : Int) ≤ (i : Int)) && decide ((i : Int) < (l.length : Int))) = true := dA (by omega) (by omega)
    simp only [s45_0, t45_0, Tr.val_test, Tr.val_fin, Tr.val_stop, leF_eq, eqF_eq, b0, b1, if_true, g39, g88, f39_eq, f88_eq, Option.isSome_some, Option.getD_some, Int.toNat_natCast, tm2, td2 i (by omega), wrap64_nat (show i ≤ 9223372036854775806 by omega), mE, kdA, stA, atA]
    have par : i % 2 = 0 ∨ i % 2 = 1 := by omega
    cases i with
    | zero =>
      have b2 : (!decide (((0 : Nat) : Int) ≤ (0 : Int))) = false := by decide
      have b5 : decide (((0 % 2 : Nat) : Int) = 1) = false := by decide
      have b6 : ((0 % 2 : Nat) : Int) = 0 := by decide
      simp only [b2, b5]
      simp only [b6]
      rcases Bool.eq_false_or_eq_true (wi 0 1 (List.getD l 0 ((0 : Int), (0 : Int), (0 : Int), ())).1) with hA | hA <;>
        rcases Bool.eq_false_or_eq_true (wi 0 60 (List.getD l 0 ((0 : Int), (0 : Int), (0 : Int), ())).2.1) with hB | hB <;>
        rcases Bool.eq_false_or_eq_true (wi 0 1000000000000 (List.getD l 0 ((0 : Int), (0 : Int), (0 : Int), ())).2.2.1) with hC | hC <;>
        rcases Bool.eq_false_or_eq_true (decide ((List.getD l 0 ((0 : Int), (0 : Int), (0 : Int), ())).1 = (0 : Int))) with hF | hF <;>
        rcases Bool.eq_false_or_eq_true (decide ((List.getD l 0 ((0 : Int), (0 : Int), (0 : Int), ())).2.1 = (0 : Int))) with hG | hG <;>
        simp only [hA, hB, hC, hF, hG, mE6, Bool.not_true, Bool.not_false, Bool.and_true, Bool.true_and, Bool.and_false, Bool.false_and, Bool.and_self, Bool.false_eq_true, if_true, if_false] <;> rfl
    | succ j =>
      have b2 : (!decide (((j + 1 : Nat) : Int) ≤ (0 : Int))) = true := nT (by omega)
      have b3 : (decide ((0 : Int) ≤ (j : Int)) && decide ((j : Int) < (l.length : Int))) = true := dA (by omega) (by omega)
      have b4 : decide (0 < j + 1) = true := by simp
      rcases par with par | par
      · simp only [b2, b3, b4, par, pr1 j (by omega), Int.toNat_natCast, if_true, Nat.add_sub_cancel, Bool.true_and]
        have b5 : decide (((0 : Nat) : Int) = 1) = false := by decide
        have b6 : ((0 : Nat) : Int) = 0 := by decide
        simp only [b5, b6]
        rcases Bool.eq_false_or_eq_true (wi 0 1 (List.getD l (j + 1) ((0 : Int), (0 : Int), (0 : Int), ())).1) with hA | hA <;>
          rcases Bool.eq_false_or_eq_true (wi 0 60 (List.getD l (j + 1) ((0 : Int), (0 : Int), (0 : Int), ())).2.1) with hB | hB <;>
          rcases Bool.eq_false_or_eq_true (wi 0 1000000000000 (List.getD l (j + 1) ((0 : Int), (0 : Int), (0 : Int), ())).2.2.1) with hC | hC <;>
          rcases Bool.eq_false_or_eq_true (decide ((List.getD l j ((0 : Int), (0 : Int), (0 : Int), ())).2.2.1 ≤ (List.getD l (j + 1) ((0 : Int), (0 : Int), (0 : Int), ())).2.2.1)) with hD | hD <;>
          rcases Bool.eq_false_or_eq_true (decide ((List.getD l (j + 1) ((0 : Int), (0 : Int), (0 : Int), ())).1 = (0 : Int))) with hF | hF <;>
          rcases Bool.eq_false_or_eq_true (decide ((List.getD l (j + 1) ((0 : Int), (0 : Int), (0 : Int), ())).2.1 = (((j + 1) / 2 : Nat) : Int))) with hG | hG <;>
          simp only [hA, hB, hC, hD, hF, hG, mE6, Bool.not_true, Bool.not_false, Bool.and_true, Bool.true_and, Bool.and_false, Bool.false_and, Bool.and_self, Bool.false_eq_true, if_true, if_false] <;> rfl
      · simp only [b2, b3, b4, par, pr1 j (by omega), Int.toNat_natCast, if_true, Nat.add_sub_cancel, Bool.true_and]
        have b5 : decide (((1 : Nat) : Int) = 1) = true := by decide
        have b6 : ((1 : Nat) : Int) = 1 := by decide
        simp only [b5, b6]
        rcases Bool.eq_false_or_eq_true (wi 0 1 (List.getD l (j + 1) ((0 : Int), (0 : Int), (0 : Int), ())).1) with hA | hA <;>
          rcases Bool.eq_false_or_eq_true (wi 0 60 (List.getD l (j + 1) ((0 : Int), (0 : Int), (0 : Int), ())).2.1) with hB | hB <;>
          rcases Bool.eq_false_or_eq_true (wi 0 1000000000000 (List.getD l (j + 1) ((0 : Int), (0 : Int), (0 : Int), ())).2.2.1) with hC | hC <;>
          rcases Bool.eq_false_or_eq_true (decide ((List.getD l j ((0 : Int), (0 : Int), (0 : Int), ())).2.2.1 ≤ (List.getD l (j + 1) ((0 : Int), (0 : Int), (0 : Int), ())).2.2.1)) with hD | hD <;>
          rcases Bool.eq_false_or_eq_true (decide ((List.getD l (j + 1) ((0 : Int), (0 : Int), (0 : Int), ())).1 = (1 : Int))) with hF | hF <;>
          rcases Bool.eq_false_or_eq_true (decide ((List.getD l (j + 1) ((0 : Int), (0 : Int), (0 : Int), ())).2.1 = (((j + 1) / 2 : Nat) : Int))) with hG | hG <;>
          simp only [hA, hB, hC, hD, hF, hG, mE6, Bool.not_true, Bool.not_false, Bool.and_true, Bool.true_and, Bool.and_false, Bool.false_and, Bool.and_self, Bool.false_eq_true, if_true, if_false] <;> rfl
  · simp [s45_0, t45_0, leF_eq]

theorem f45_eq (l : List Msg) : f45 (l, ()) = some ((mK l).1, (mK l).2, ()) := by
  simp only [f45, t45, Tr.val_test, Tr.val_fin, Tr.val_stop, leF_eq, mK]
  by_cases h2 : 60 < l.length
  · have e2 : ¬ (l.length : Int) ≤ 60 := by omega
    simp [h2, e2]
  · have e2 : (l.length : Int) ≤ 60 := by omega
    have hl := l45 l (by omega)
    simp only [h2, e2, if_false, decide_true, Bool.not_true, Bool.false_eq_true]
    cases hf : mF l with
    | none =>
      rw [hf] at hl
      simp only [hl, isRet, Option.isSome_some, if_true, Bool.false_eq_true, if_false]
    | some k =>
      rw [hf] at hl
      simp only [hl, isRet, r45_0, outR, Option.isSome_some, if_true]

theorem f50_eq (l : List Msg) : f50 (l, ()) = some ((mK l).2, ()) := by
  have e := f45_eq l
  simp only [f50, t50, Tr.val_test, Tr.val_fin, Tr.val_stop, g45, e, Option.isSome_some, Option.getD_some, if_true]

/-- What valid messages are. -/
structure VM (l : List Msg) : Prop where
  len : l.length ≤ 60
  kd : ∀ i, i < l.length → kdA l i = ((i % 2 : Nat) : Int)
  st : ∀ i, i < l.length → stA l i = ((i / 2 : Nat) : Int)
  a0 : ∀ i, i < l.length → 0 ≤ atA l i
  a1 : ∀ i, i < l.length → atA l i ≤ 1000000000000
  up : ∀ i, i + 1 < l.length → atA l i ≤ atA l (i + 1)

theorem mE_ok {l : List Msg} {i : Nat} (h : mE l i = 0) : kdA l i = ((i % 2 : Nat) : Int) ∧ stA l i = ((i / 2 : Nat) : Int) ∧ 0 ≤ atA l i ∧ atA l i ≤ 1000000000000 ∧ (0 < i → atA l (i - 1) ≤ atA l i) := by
  unfold mE mE6 at h
  split at h
  · cases h
  · split at h
    · cases h
    · rename_i h2
      split at h
      · cases h
      · rename_i h3
        split at h
        · rename_i h4
          simp only [Bool.not_eq_true', Bool.not_eq_false, Bool.and_eq_true, wi_iff, decide_eq_true_eq] at h2 h3 h4
          refine ⟨h4.1, h4.2, h2.2.1, h2.2.2, fun h0 => ?_⟩
          simp [h0] at h3
          omega
        · cases h

theorem vm_of {l : List Msg} (h : (mK l).2 = 0) : VM l := by
  unfold mK at h
  split at h
  · cases h
  · rename_i h1
    cases hf : mF l with
    | some k =>
      rw [hf] at h
      have := (first_some hf).2.2.1
      simp at this
      exact absurd h this
    | none =>
      have key : ∀ i, i < l.length → mE l i = 0 := fun i hi => by
        have := first_none hf i (Nat.zero_le _) (by omega)
        simpa using this
      refine ⟨by omega, fun i hi => (mE_ok (key i hi)).1, fun i hi => (mE_ok (key i hi)).2.1, fun i hi => (mE_ok (key i hi)).2.2.1, fun i hi => (mE_ok (key i hi)).2.2.2.1, fun i hi => ?_⟩
      have := (mE_ok (key (i + 1) hi)).2.2.2.2 (by omega)
      simpa using this

end Go.Vm.Mo

namespace Go.Vm.Mo
open Go
set_option linter.unusedVariables false
set_option linter.unusedSimpArgs false

theorem f103_eq (a u : Int) : f103 ((a, u, ()), ()) = some (if (wi 0 100000 a && wi 0 1000000000000 u) = true then (0 : Int) else 2, ()) := by
  have c57 : ∀ a b x : Int, f57 (a, b, [x], ()) = some (wi a b x, ()) := f57_one
  simp only [f103, t103, Tr.val_test, Tr.val_fin, Tr.val_stop, g57, g60, c57, f60_eq, Option.isSome_some, Option.getD_some, if_true]
  rcases Bool.eq_false_or_eq_true (wi 0 100000 a) with hA | hA <;> rcases Bool.eq_false_or_eq_true (wi 0 1000000000000 u) with hB | hB <;> simp only [hA, hB] <;> rfl

/-- The error of messages, and of their clock. -/
def exE (l : List Msg) (a u : Int) : Int :=
  if (mK l).2 = 0 then if (wi 0 100000 a && wi 0 1000000000000 u) = true then if (decide (0 < l.length) && !decide (atA l (l.length - 1) ≤ u)) = true then 22 else 0 else 2 else (mK l).2

theorem f85_eq (l : List Msg) (a u : Int) (h : l.length ≤ 1000000) : f85 (l, (a, u, ()), ()) = some (if exE l a u = 0 then (((a, u, ()), l, ()), (0 : Int), ()) else ((((0 : Int), (0 : Int), ()), [], ()), exE l a u, ())) := by
  have e1 := f40_eq l
  have e2 := f103_eq a u
  have c59 : ∀ a b c : Int, f59 ([a, b, c], ()) = some (if a = 0 then if b = 0 then c else b else a, ()) := f59_three
  simp only [f85, t85, Tr.val_test, Tr.val_fin, Tr.val_stop, g40, e1, g103, e2, g60, f60_eq, g59, c59, leF_eq, eqF_eq, Option.isSome_some, Option.getD_some, if_true]
  by_cases h0 : l.length = 0
  · have b1 : (!decide ((l.length : Int) ≤ 0)) = false := nF (by omega)
    have b2 : decide (0 < l.length) = false := dF (by omega)
    simp only [b1, b2, exE, Bool.false_and, Bool.false_eq_true, if_false]
    by_cases k1 : (mK l).2 = 0
    · by_cases k2 : (wi 0 100000 a && wi 0 1000000000000 u) = true
      · simp [k1, k2]
      · simp [k1, k2]
    · simp [k1]
  · have b1 : (!decide ((l.length : Int) ≤ 0)) = true := nT (by omega)
    have b2 : decide (0 < l.length) = true := dT (by omega)
    have w1 : wrap64 ((l.length : Int) - 1) = ((l.length - 1 : Nat) : Int) := by rw [wrap64_id (by omega) (by omega)]; omega
    have b3 : (decide ((0 : Int) ≤ ((l.length - 1 : Nat) : Int)) && decide (((l.length - 1 : Nat) : Int) < (l.length : Int))) = true := dA (by omega) (by omega)
    simp only [b1, b2, w1, b3, exE, atA, Int.toNat_natCast, Bool.true_and, if_true]
    by_cases k1 : (mK l).2 = 0
    · by_cases k2 : (wi 0 100000 a && wi 0 1000000000000 u) = true
      · by_cases k3 : (List.getD l (l.length - 1) ((0 : Int), (0 : Int), (0 : Int), ())).2.2.1 ≤ u
        · simp only [k1, k2, k3, decide_true, Bool.not_true, Bool.false_eq_true, if_false, if_true]
        · simp only [k1, k2, k3, decide_false, Bool.not_false, if_true]; rfl
      · simp only [k1, k2, if_false, if_true]; rfl
    · simp only [k1, if_false, decide_false, Bool.not_false, if_true]

theorem f46_eq (l : List Msg) (a u : Int) (h : l.length ≤ 1000000) (k1 : (mK l).2 = 0) : f46 (l, (a, u, ()), ()) = some (exE l a u, ()) := by
  simp only [f46, t46, Tr.val_test, Tr.val_fin, Tr.val_stop, g39, f39_eq, g88, f88_eq, leF_eq, Option.isSome_some, Option.getD_some, if_true, exE, k1]
  by_cases h0 : l.length = 0
  · have b1 : (!decide ((l.length : Int) ≤ 0)) = false := nF (by omega)
    have b2 : decide (0 < l.length) = false := dF (by omega)
    simp only [b1, b2]
    rcases Bool.eq_false_or_eq_true (wi 0 100000 a) with hA | hA <;> rcases Bool.eq_false_or_eq_true (wi 0 1000000000000 u) with hB | hB <;> simp only [hA, hB] <;> rfl
  · have b1 : (!decide ((l.length : Int) ≤ 0)) = true := nT (by omega)
    have b2 : decide (0 < l.length) = true := dT (by omega)
    have w1 : wrap64 ((l.length : Int) - 1) = ((l.length - 1 : Nat) : Int) := by rw [wrap64_id (by omega) (by omega)]; omega
    have b3 : (decide ((0 : Int) ≤ ((l.length - 1 : Nat) : Int)) && decide (((l.length - 1 : Nat) : Int) < (l.length : Int))) = true := dA (by omega) (by omega)
    simp only [b1, b2, w1, b3, atA, Int.toNat_natCast, Bool.true_and, if_true]
    rcases Bool.eq_false_or_eq_true (wi 0 100000 a) with hA | hA <;> rcases Bool.eq_false_or_eq_true (wi 0 1000000000000 u) with hB | hB <;>
      rcases Bool.eq_false_or_eq_true (decide ((List.getD l (l.length - 1) ((0 : Int), (0 : Int), (0 : Int), ())).2.2.1 ≤ u)) with hC | hC <;> simp only [hA, hB, hC] <;> rfl

theorem exE_ok {l : List Msg} {a u : Int} (h : exE l a u = 0) : (mK l).2 = 0 ∧ 0 ≤ a ∧ a ≤ 100000 ∧ 0 ≤ u ∧ u ≤ 1000000000000 ∧ (0 < l.length → atA l (l.length - 1) ≤ u) := by
  unfold exE at h
  split at h
  · rename_i k
    split at h
    · rename_i k2
      split at h
      · cases h
      · rename_i k3
        simp only [Bool.and_eq_true, wi_iff] at k2
        refine ⟨k, k2.1.1, k2.1.2, k2.2.1, k2.2.2, fun h0 => ?_⟩
        simp [h0] at k3
        exact k3
    · cases h
  · rename_i k; exact absurd h k

/-- Whether a step is late. -/
def lateA (l : List Msg) (a u : Int) (k : Nat) : Bool := !decide ((if 2 * k + 1 < l.length then atA l (2 * k + 1) else u) - atA l (2 * k) ≤ a)

def lateUp (p : Nat → Bool) : Nat → List Int
  | 0 => []
  | n + 1 => if p n = true then lateUp p n ++ [(n : Int)] else lateUp p n

theorem lateUp_len (p : Nat → Bool) : ∀ n, (lateUp p n).length ≤ n
  | 0 => Nat.le_refl _
  | n + 1 => by
    have := lateUp_len p n
    simp only [lateUp]
    split
    · simp; omega
    · omega

theorem f87_at (a u x y : Int) (l : List Msg) (b : Bool) : f87 (((a, u, ()), l, ()), (x, y, b, ()), ()) = some (!decide (wrap64 (y - x) ≤ a), ()) := by
  simp only [f87, t87, Tr.val_fin, leF_eq]

theorem room {n : Nat} (h : n ≤ 1000000) : (Nat.ble (((2 : Nat) * (n + (1 : Nat)) + (192 : Nat)) * (8 : Nat)) (281474976710656 : Nat) && Nat.ble (n + (1 : Nat)) (281474976710656 : Nat)) = true := by
  simp only [Bool.and_eq_true, ble_eq_true']; omega

theorem late_pr (l : List Msg) (v : VM l) (a u : Int) (hu : 0 ≤ u ∧ u ≤ 1000000000000) (k : Nat) (hk : 2 * k < l.length) :
    (if 2 * k + 1 < l.length then !decide (wrap64 (atA l (2 * k + 1) - atA l (2 * k)) ≤ a) else !decide (wrap64 (u - atA l (2 * k)) ≤ a)) = lateA l a u k := by
  have h0 := v.a0 (2 * k) hk
  have h1 := v.a1 (2 * k) hk
  unfold lateA
  split
  · rename_i h
    have h2 := v.a0 (2 * k + 1) h
    have h3 := v.a1 (2 * k + 1) h
    rw [wrap64_id (by omega) (by omega)]
  · rw [wrap64_id (by omega) (by omega)]

theorem l104a (l : List Msg) (v : VM l) (a u : Int) (hu : 0 ≤ u ∧ u ≤ 1000000000000) : l104_0 ((l, (l.length : Int), (0 : Int), ()), (), (a, u, l, ()), (a, u, l, ()), ([], ()), ()) =
    some (.inl ((), (), (a, u, l, ()), (a, u, l, ()), (lateUp (lateA l a u) ((l.length + 1) / 2), ()), ())) := by
  have hlen := v.len
  refine itr_brk (fun i => ((l, (l.length : Int), (i : Int), ()), (), (a, u, l, ()), (a, u, l, ()), (lateUp (lateA l a u) ((i + 1) / 2), ()), ())) (n := l.length) ?_ ?_ (lt_rounds (by omega))
  · intro i hi
    have b0 : (!decide ((l.length : Int) ≤ (i : Int))) = true := nT (by omega)
    have b1 : (decide ((0 : Int) ≤ (i : Int)) && decide ((i : Int) < (l.length : Int))) = true := dA (by omega) (by omega)
    have kd := v.kd i hi
    have st := v.st i hi
    have hr := lateUp_len (lateA l a u) ((i + 1) / 2)
    have c87 : ∀ (x y : Int) (b : Bool), f87 (((a, u, ()), l, ()), (x, y, b, ()), ()) = some (!decide (wrap64 (y - x) ≤ a), ()) := fun x y b => f87_at a u x y l b
    have c88 := room (n := (lateUp (lateA l a u) ((i + 1) / 2)).length) (by omega)
    simp only [s104_0, t104_0, Tr.val_test, Tr.val_fin, Tr.val_stop, leF_eq, eqF_eq, b0, b1, if_true, g87, c87, Option.isSome_some, Option.getD_some, Int.toNat_natCast, wrap64_nat (show i ≤ 9223372036854775806 by omega), c88]
    obtain ⟨k, rfl | rfl⟩ : ∃ k, i = 2 * k ∨ i = 2 * k + 1 := ⟨i / 2, by omega⟩
    · have kd' : (!decide ((List.getD l (2 * k) ((0 : Int), (0 : Int), (0 : Int), ())).1 = 0)) = false := by rw [show (List.getD l (2 * k) ((0 : Int), (0 : Int), (0 : Int), ())).1 = _ from kd]; simp
      have hp := late_pr l v a u hu k hi
      have q1 : (2 * k + 1) / 2 = k := by omega
      have q2 : (2 * k + 1 + 1) / 2 = k + 1 := by omega
      have st' : (List.getD l (2 * k) ((0 : Int), (0 : Int), (0 : Int), ())).2.1 = (k : Int) := by rw [show (List.getD l (2 * k) ((0 : Int), (0 : Int), (0 : Int), ())).2.1 = _ from st]; congr 1; omega
      simp only [kd', Bool.false_eq_true, if_false, q1, q2, lateUp, st']
      by_cases h1 : 2 * k + 1 < l.length
      · have b2 : (!decide ((l.length : Int) ≤ ((2 * k + 1 : Nat) : Int))) = true := nT (by omega)
        have b3 : (decide ((0 : Int) ≤ ((2 * k + 1 : Nat) : Int)) && decide (((2 * k + 1 : Nat) : Int) < (l.length : Int))) = true := dA (by omega) (by omega)
        rw [if_pos h1] at hp
        simp only [atA] at hp
        simp only [b2, b3, if_true, Int.toNat_natCast, hp]
        cases lateA l a u k <;> rfl
      · have b2 : (!decide ((l.length : Int) ≤ ((2 * k + 1 : Nat) : Int))) = false := nF (by omega)
        rw [if_neg h1] at hp
        simp only [atA] at hp
        simp only [b2, Bool.false_eq_true, if_false, hp]
        cases lateA l a u k <;> rfl
    · have kd' : (!decide ((List.getD l (2 * k + 1) ((0 : Int), (0 : Int), (0 : Int), ())).1 = 0)) = true := by
        rw [show (List.getD l (2 * k + 1) ((0 : Int), (0 : Int), (0 : Int), ())).1 = _ from kd, show (2 * k + 1) % 2 = 1 by omega]; rfl
      have q1 : (2 * k + 1 + 1) / 2 = k + 1 := by omega
      have q2 : (2 * k + 1 + 1 + 1) / 2 = k + 1 := by omega
      simp only [kd', if_true, q1, q2]
  · simp [s104_0, t104_0, leF_eq]

theorem f42_eq (l : List Msg) (a u : Int) (h : l.length ≤ 1000000) : f42 (l, (a, u, ()), ()) = some (if exE l a u = 0 then (lateUp (lateA l a u) ((l.length + 1) / 2), (0 : Int), ()) else ([], exE l a u, ())) := by
  have e1 := f85_eq l a u h
  simp only [f42, t42, Tr.val_test, Tr.val_fin, Tr.val_stop, g85, e1, eqF_eq, Option.isSome_some, Option.getD_some, if_true]
  by_cases k0 : exE l a u = 0
  · obtain ⟨k1, k2, k3, k4, k5, k6⟩ := exE_ok k0
    have e2 := l104a l (vm_of k1) a u ⟨k4, k5⟩
    simp only [k0, if_true, decide_true, Bool.not_true, Bool.false_eq_true, if_false, e2, isBrk, b104_0, outB]
  · simp only [k0, if_false, decide_false, Bool.not_false, if_true]

/-- Of steps, the first one. -/
theorem first_at {bad : Nat → Bool} {n k : Nat} (h1 : bad k = true) (h2 : k < n) (h3 : ∀ j, j < k → bad j = false) : first bad n 0 = some k := by
  cases h : first bad n 0 with
  | none => have := first_none h k (Nat.zero_le _) (by omega); rw [h1] at this; cases this
  | some j =>
    obtain ⟨_, a2, a3, a4⟩ := first_some h
    rcases Nat.lt_trichotomy j k with e | e | e
    · have := h3 j e; rw [a3] at this; cases this
    · subst e; rfl
    · have := a4 k (Nat.zero_le _) e; rw [h1] at this; cases this

theorem first_even (p : Nat → Bool) (n : Nat) : first (fun i => decide (i % 2 = 0) && p (i / 2)) n 0 = (first p ((n + 1) / 2) 0).map (2 * ·) := by
  cases h : first p ((n + 1) / 2) 0 with
  | none =>
    refine first_of_none fun j _ hj => ?_
    have := first_none h (j / 2) (Nat.zero_le _) (by omega)
    simp [this]
  | some k =>
    obtain ⟨_, a2, a3, a4⟩ := first_some h
    have e1 : 2 * k / 2 = k := by omega
    show _ = some (2 * k)
    refine first_at ?_ (by omega) fun j hj => ?_
    · simp [a3]
    · by_cases hj2 : j % 2 = 0
      · have := a4 (j / 2) (Nat.zero_le _) (by omega)
        simp [this]
      · simp [hj2]

theorem l104b (l : List Msg) (v : VM l) (a u : Int) (ha : 0 ≤ a ∧ a ≤ 100000) (hu : 0 ≤ u ∧ u ≤ 1000000000000) : l104_0_1 ((l, (l.length : Int), (0 : Int), ()), (), (a, u, l, ()), (a, u, ()), ((0 : Int), ()), ((0 : Int), ()), (a, u, l, ()), ()) =
    match first (lateA l a u) ((l.length + 1) / 2) 0 with
    | some k => some (.inr ((), (), (a, u, l, ()), (a, u, ()), (atA l (2 * k) + a + 1, ()), ((0 : Int), ()), (a, u, l, ()), ()))
    | none => some (.inl ((), (), (a, u, l, ()), (a, u, ()), ((0 : Int), ()), ((0 : Int), ()), (a, u, l, ()), ())) := by
  have hlen := v.len
  have key : l104_0_1 ((l, (l.length : Int), (0 : Int), ()), (), (a, u, l, ()), (a, u, ()), ((0 : Int), ()), ((0 : Int), ()), (a, u, l, ()), ()) =
      match first (fun i => decide (i % 2 = 0) && lateA l a u (i / 2)) l.length 0 with
      | some i => some (.inr ((), (), (a, u, l, ()), (a, u, ()), (atA l i + a + 1, ()), ((0 : Int), ()), (a, u, l, ()), ()))
      | none => some (.inl ((), (), (a, u, l, ()), (a, u, ()), ((0 : Int), ()), ((0 : Int), ()), (a, u, l, ()), ())) := by
    refine itr_search (fun i => ((l, (l.length : Int), (i : Int), ()), (), (a, u, l, ()), (a, u, ()), ((0 : Int), ()), ((0 : Int), ()), (a, u, l, ()), ())) _ (fun i => ((), (), (a, u, l, ()), (a, u, ()), (atA l i + a + 1, ()), ((0 : Int), ()), (a, u, l, ()), ())) (n := l.length) ?_ ?_ (lt_rounds (by omega))
    · intro i hi
      have b0 : (!decide ((l.length : Int) ≤ (i : Int))) = true := nT (by omega)
      have b1 : (decide ((0 : Int) ≤ (i : Int)) && decide ((i : Int) < (l.length : Int))) = true := dA (by omega) (by omega)
      have kd := v.kd i hi
      have c87 : ∀ (x y : Int) (b : Bool), f87 (((a, u, ()), l, ()), (x, y, b, ()), ()) = some (!decide (wrap64 (y - x) ≤ a), ()) := fun x y b => f87_at a u x y l b
      simp only [s104_0_1, t104_0_1, Tr.val_test, Tr.val_fin, Tr.val_stop, leF_eq, eqF_eq, b0, b1, if_true, g87, c87, Option.isSome_some, Option.getD_some, Int.toNat_natCast, wrap64_nat (show i ≤ 9223372036854775806 by omega)]
      obtain ⟨k, rfl | rfl⟩ : ∃ k, i = 2 * k ∨ i = 2 * k + 1 := ⟨i / 2, by omega⟩
      · have kd' : (!decide ((List.getD l (2 * k) ((0 : Int), (0 : Int), (0 : Int), ())).1 = 0)) = false := by rw [show (List.getD l (2 * k) ((0 : Int), (0 : Int), (0 : Int), ())).1 = _ from kd]; simp
        have hp := late_pr l v a u hu k hi
        have q1 : 2 * k / 2 = k := by omega
        have q2 : decide (2 * k % 2 = 0) = true := dT (by omega)
        have k1 := v.a0 (2 * k) hi
        have k2 := v.a1 (2 * k) hi
        have w1 : wrap64 (wrap64 ((List.getD l (2 * k) ((0 : Int), (0 : Int), (0 : Int), ())).2.2.1 + a) + 1) = atA l (2 * k) + a + 1 := by
          show wrap64 (wrap64 (atA l (2 * k) + a) + 1) = _
          rw [wrap64_id (n := atA l (2 * k) + a) (by omega) (by omega), wrap64_id (by omega) (by omega)]
        simp only [kd', Bool.false_eq_true, if_false, q1, q2, w1, Bool.true_and]
        by_cases h1 : 2 * k + 1 < l.length
        · have b2 : (!decide ((l.length : Int) ≤ ((2 * k + 1 : Nat) : Int))) = true := nT (by omega)
          have b3 : (decide ((0 : Int) ≤ ((2 * k + 1 : Nat) : Int)) && decide (((2 * k + 1 : Nat) : Int) < (l.length : Int))) = true := dA (by omega) (by omega)
          rw [if_pos h1] at hp
          simp only [atA] at hp
          simp only [b2, b3, if_true, Int.toNat_natCast, hp]
        · have b2 : (!decide ((l.length : Int) ≤ ((2 * k + 1 : Nat) : Int))) = false := nF (by omega)
          rw [if_neg h1] at hp
          simp only [atA] at hp
          simp only [b2, Bool.false_eq_true, if_false, hp]
      · have kd' : (!decide ((List.getD l (2 * k + 1) ((0 : Int), (0 : Int), (0 : Int), ())).1 = 0)) = true := by
          rw [show (List.getD l (2 * k + 1) ((0 : Int), (0 : Int), (0 : Int), ())).1 = _ from kd, show (2 * k + 1) % 2 = 1 by omega]; rfl
        have q2 : decide ((2 * k + 1) % 2 = 0) = false := dF (by omega)
        simp only [kd', if_true, q2, Bool.false_and, Bool.false_eq_true, if_false]
    · simp [s104_0_1, t104_0_1, leF_eq]
  rw [key, first_even]
  cases first (lateA l a u) ((l.length + 1) / 2) 0 <;> rfl

theorem f43_eq (l : List Msg) (a u : Int) (h : l.length ≤ 1000000) : f43 (l, (a, u, ()), ()) = some (if exE l a u = 0 then (match first (lateA l a u) ((l.length + 1) / 2) 0 with
    | some k => (atA l (2 * k) + a + 1, (0 : Int), ())
    | none => ((0 : Int), (12 : Int), ())) else ((0 : Int), exE l a u, ())) := by
  have e1 := f85_eq l a u h
  simp only [f43, t43, Tr.val_test, Tr.val_fin, Tr.val_stop, g85, e1, eqF_eq, Option.isSome_some, Option.getD_some, if_true]
  by_cases k0 : exE l a u = 0
  · obtain ⟨k1, k2, k3, k4, k5, k6⟩ := exE_ok k0
    have e2 := l104b l (vm_of k1) a u ⟨k2, k3⟩ ⟨k4, k5⟩
    simp only [k0, if_true, decide_true, Bool.not_true, Bool.false_eq_true, if_false]
    cases hf : first (lateA l a u) ((l.length + 1) / 2) 0 with
    | none =>
      rw [hf] at e2
      simp only [e2, isRet, Option.isSome_some, if_true, Bool.false_eq_true, if_false]
    | some k =>
      rw [hf] at e2
      simp only [e2, isRet, r104_0_1, outR, Option.isSome_some, if_true]
  · simp only [k0, if_false, decide_false, Bool.not_false, if_true]

/-- Where counting stops. -/
def stopA (l : List Msg) (a u : Int) (k : Nat) : Bool := lateA l a u k || !decide (2 * k + 1 < l.length)
def cntA (l : List Msg) (a u : Int) : Nat := (first (stopA l a u) ((l.length + 1) / 2) 0).getD ((l.length + 1) / 2)

theorem l104c (l : List Msg) (v : VM l) (a u : Int) (hu : 0 ≤ u ∧ u ≤ 1000000000000) : l104_0_2 ((l, (l.length : Int), (0 : Int), ()), (), (a, u, l, ()), (a, u, l, ()), ((0 : Int), ()), ()) =
    match first (stopA l a u) ((l.length + 1) / 2) 0 with
    | some k => some (.inr ((), (), (a, u, l, ()), (a, u, l, ()), ((k : Int), ()), ()))
    | none => some (.inl ((), (), (a, u, l, ()), (a, u, l, ()), ((((l.length + 1) / 2 : Nat) : Int), ()), ())) := by
  have hlen := v.len
  have key : l104_0_2 ((l, (l.length : Int), (0 : Int), ()), (), (a, u, l, ()), (a, u, l, ()), ((0 : Int), ()), ()) =
      match first (fun i => decide (i % 2 = 0) && stopA l a u (i / 2)) l.length 0 with
      | some i => some (.inr ((), (), (a, u, l, ()), (a, u, l, ()), ((((i + 1) / 2 : Nat) : Int), ()), ()))
      | none => some (.inl ((), (), (a, u, l, ()), (a, u, l, ()), ((((l.length + 1) / 2 : Nat) : Int), ()), ())) := by
    refine itr_search (fun i => ((l, (l.length : Int), (i : Int), ()), (), (a, u, l, ()), (a, u, l, ()), ((((i + 1) / 2 : Nat) : Int), ()), ())) _ (fun i => ((), (), (a, u, l, ()), (a, u, l, ()), ((((i + 1) / 2 : Nat) : Int), ()), ())) (n := l.length) ?_ ?_ (lt_rounds (by omega))
    · intro i hi
      have b0 : (!decide ((l.length : Int) ≤ (i : Int))) = true := nT (by omega)
      have b1 : (decide ((0 : Int) ≤ (i : Int)) && decide ((i : Int) < (l.length : Int))) = true := dA (by omega) (by omega)
      have kd := v.kd i hi
      have c87 : ∀ (x y : Int) (b : Bool), f87 (((a, u, ()), l, ()), (x, y, b, ()), ()) = some (!decide (wrap64 (y - x) ≤ a), ()) := fun x y b => f87_at a u x y l b
      have w1 : wrap64 ((((i + 1) / 2 : Nat) : Int) + 1) = (((i + 1) / 2 + 1 : Nat) : Int) := wrap64_nat (by omega)
      simp only [s104_0_2, t104_0_2, Tr.val_test, Tr.val_fin, Tr.val_stop, leF_eq, eqF_eq, b0, b1, if_true, g87, c87, Option.isSome_some, Option.getD_some, Int.toNat_natCast, wrap64_nat (show i ≤ 9223372036854775806 by omega), w1]
      obtain ⟨k, rfl | rfl⟩ : ∃ k, i = 2 * k ∨ i = 2 * k + 1 := ⟨i / 2, by omega⟩
      · have kd' : (!decide ((List.getD l (2 * k) ((0 : Int), (0 : Int), (0 : Int), ())).1 = 0)) = false := by rw [show (List.getD l (2 * k) ((0 : Int), (0 : Int), (0 : Int), ())).1 = _ from kd]; simp
        have hp := late_pr l v a u hu k hi
        have q1 : 2 * k / 2 = k := by omega
        have q2 : decide (2 * k % 2 = 0) = true := dT (by omega)
        have q3 : (2 * k + 1) / 2 = k := by omega
        have q4 : (2 * k + 1 + 1) / 2 = k + 1 := by omega
        simp only [kd', Bool.false_eq_true, if_false, q1, q2, q3, q4, Bool.true_and, stopA]
        by_cases h1 : 2 * k + 1 < l.length
        · have b2 : (!decide ((l.length : Int) ≤ ((2 * k + 1 : Nat) : Int))) = true := nT (by omega)
          have b3 : (decide ((0 : Int) ≤ ((2 * k + 1 : Nat) : Int)) && decide (((2 * k + 1 : Nat) : Int) < (l.length : Int))) = true := dA (by omega) (by omega)
          have b4 : (!decide (2 * k + 1 < l.length)) = false := nF h1
          rw [if_pos h1] at hp
          simp only [atA] at hp
          simp only [b2, b3, b4, if_true, Int.toNat_natCast, hp, Bool.or_false]
        · have b2 : (!decide ((l.length : Int) ≤ ((2 * k + 1 : Nat) : Int))) = false := nF (by omega)
          have b4 : (!decide (2 * k + 1 < l.length)) = true := nT h1
          rw [if_neg h1] at hp
          simp only [atA] at hp
          simp only [b2, b4, Bool.false_eq_true, if_false, hp, Bool.or_true, if_true]
          cases lateA l a u k <;> rfl
      · have kd' : (!decide ((List.getD l (2 * k + 1) ((0 : Int), (0 : Int), (0 : Int), ())).1 = 0)) = true := by
          rw [show (List.getD l (2 * k + 1) ((0 : Int), (0 : Int), (0 : Int), ())).1 = _ from kd, show (2 * k + 1) % 2 = 1 by omega]; rfl
        have q2 : decide ((2 * k + 1) % 2 = 0) = false := dF (by omega)
        have q3 : (2 * k + 1 + 1) / 2 = k + 1 := by omega
        have q4 : (2 * k + 1 + 1 + 1) / 2 = k + 1 := by omega
        simp only [kd', if_true, q2, q3, q4, Bool.false_and, Bool.false_eq_true, if_false]
    · simp [s104_0_2, t104_0_2, leF_eq]
  rw [key, first_even]
  cases first (stopA l a u) ((l.length + 1) / 2) 0 with
  | none => rfl
  | some k =>
    have : (2 * k + 1) / 2 = k := by omega
    simp only [Option.map_some, this]

theorem f44_eq (l : List Msg) (a u : Int) (h : l.length ≤ 1000000) : f44 (l, (a, u, ()), ()) = some (if exE l a u = 0 then ((cntA l a u : Int), (0 : Int), ()) else ((0 : Int), exE l a u, ())) := by
  have e1 := f85_eq l a u h
  simp only [f44, t44, Tr.val_test, Tr.val_fin, Tr.val_stop, g85, e1, eqF_eq, Option.isSome_some, Option.getD_some, if_true]
  by_cases k0 : exE l a u = 0
  · obtain ⟨k1, k2, k3, k4, k5, k6⟩ := exE_ok k0
    have e2 := l104c l (vm_of k1) a u ⟨k4, k5⟩
    simp only [k0, if_true, decide_true, Bool.not_true, Bool.false_eq_true, if_false, cntA]
    cases hf : first (stopA l a u) ((l.length + 1) / 2) 0 with
    | none =>
      rw [hf] at e2
      simp only [e2, isRet, b104_0_2, outB, Option.isSome_some, if_true, Bool.false_eq_true, if_false, Option.getD_none]
    | some k =>
      rw [hf] at e2
      simp only [e2, isRet, r104_0_2, outR, Option.isSome_some, if_true, Option.getD_some]
  · simp only [k0, if_false, decide_false, Bool.not_false, if_true]

end Go.Vm.Mo

namespace Go.Vm.Mo
open Go
set_option linter.unusedVariables false
set_option linter.unusedSimpArgs false

theorem f41_eq (l : List Msg) (h : l.length ≤ 1000) : f41 (l, ()) = some (l, ()) := by
  simp only [f41, t41, Tr.val_test, Tr.val_fin, Tr.val_stop, List.nil_append]
  by_cases h0 : l.length = 0
  · have : l = [] := List.eq_nil_of_length_eq_zero h0
    subst this; rfl
  · rw [if_neg (by rw [beq_eq_true']; exact h0), if_neg (by rw [ble_eq_true']; omega), if_pos (by simp only [Bool.and_eq_true, ble_eq_true']; omega), if_pos (by rw [beq_eq_true']; omega)]

theorem first_snoc (bad : Nat → Bool) : ∀ n i, first bad (n + 1) i = match first bad n i with
    | some k => some k
    | none => if bad (i + n) = true then some (i + n) else none
  | 0, i => by simp [first]
  | n + 1, i => by
    have e : ∀ m, first bad (m + 1) i = if bad i = true then some i else first bad m (i + 1) := fun m => rfl
    rw [e, e n]
    by_cases h : bad i = true
    · simp only [h, if_true]
    · rw [if_neg h, if_neg h, first_snoc bad n (i + 1), show i + 1 + n = i + (n + 1) by omega]

theorem lateUp_first (p : Nat → Bool) : ∀ n, match first p n 0 with
    | none => lateUp p n = []
    | some k => 0 < (lateUp p n).length ∧ (lateUp p n).getD 0 0 = (k : Int)
  | 0 => rfl
  | n + 1 => by
    have ih := lateUp_first p n
    rw [first_snoc, Nat.zero_add]
    simp only [lateUp]
    cases hf : first p n 0 with
    | none =>
      rw [hf] at ih
      simp only [ih, List.nil_append]
      cases p n with
      | true => simp
      | false => simp
    | some k =>
      rw [hf] at ih
      obtain ⟨h1, h2⟩ := ih
      simp only
      cases p n with
      | true =>
        refine ⟨by simp, ?_⟩
        rw [← h2]
        simp only [if_true, List.getD]
        rw [List.getElem?_append_left h1]
      | false => exact ⟨by simpa using h1, by simpa using h2⟩

theorem f51_eq (s : List Int) (x : Int) (h : s.length ≤ 1000000) : f51 (s, x, ()) = some (decide (x ∈ s), ()) := by
  have key : l51_0 ((s, x, (0 : Int), ()), ()) = match first (fun i => decide (s.getD i 0 = x)) s.length 0 with
      | some _ => some (.inr ((true, ()), ()))
      | none => some (.inl ((), ())) := by
    refine itr_search (fun i => ((s, x, (i : Int), ()), ())) (fun i => decide (s.getD i 0 = x)) (fun _ => ((true, ()), ())) (n := s.length) ?_ ?_ (lt_rounds (by omega))
    · intro i hi
      have b0 : (!decide ((s.length : Int) ≤ (i : Int))) = true := nT (by omega)
      have b1 : (decide ((0 : Int) ≤ (i : Int)) && decide ((i : Int) < (s.length : Int))) = true := dA (by omega) (by omega)
      simp only [s51_0, t51_0, Tr.val_test, Tr.val_fin, Tr.val_stop, leF_eq, eqF_eq, b0, b1, if_true, Int.toNat_natCast, wrap64_nat (show i ≤ 9223372036854775806 by omega)]
    · simp [s51_0, t51_0, leF_eq]
  simp only [f51, t51, Tr.val_test, Tr.val_fin, Tr.val_stop]
  cases hf : first (fun i => decide (s.getD i 0 = x)) s.length 0 with
  | none =>
    rw [hf] at key
    have hn : ¬ x ∈ s := by
      intro hx
      obtain ⟨i, hi, e⟩ := List.getElem_of_mem hx
      have := first_none hf i (Nat.zero_le _) (by omega)
      simp [List.getD, List.getElem?_eq_getElem hi, e] at this
    simp only [key, isRet, Option.isSome_some, if_true, Bool.false_eq_true, if_false, hn, decide_false]
  | some k =>
    rw [hf] at key
    have hn : x ∈ s := by
      obtain ⟨_, k2, k3, _⟩ := first_some hf
      have hk : k < s.length := by omega
      simp only [decide_eq_true_eq, List.getD, List.getElem?_eq_getElem hk, Option.getD_some] at k3
      rw [← k3]; exact List.getElem_mem _
    simp only [key, isRet, r51_0, outR, Option.isSome_some, if_true, hn, decide_true]

theorem lateUp_mem (p : Nat → Bool) (x : Int) : ∀ n, x ∈ lateUp p n ↔ ∃ k, k < n ∧ p k = true ∧ x = (k : Int)
  | 0 => by simp [lateUp]
  | n + 1 => by
    simp only [lateUp]
    have ih := lateUp_mem p x n
    by_cases h : p n = true
    · rw [if_pos h, List.mem_append, ih, List.mem_singleton]
      constructor
      · rintro (⟨k, h1, h2, h3⟩ | h1)
        · exact ⟨k, by omega, h2, h3⟩
        · exact ⟨n, by omega, h, h1⟩
      · rintro ⟨k, h1, h2, h3⟩
        by_cases e : k = n
        · right; rw [h3, e]
        · left; exact ⟨k, by omega, h2, h3⟩
    · rw [if_neg h, ih]
      constructor
      · rintro ⟨k, h1, h2, h3⟩; exact ⟨k, by omega, h2, h3⟩
      · rintro ⟨k, h1, h2, h3⟩
        have : k ≠ n := fun e => h (e ▸ h2)
        exact ⟨k, by omega, h2, h3⟩

theorem lateUp_has (p : Nat → Bool) {k n : Nat} (h : k < n) : decide ((k : Int) ∈ lateUp p n) = p k := by
  cases hp : p k with
  | true => exact dT ((lateUp_mem p k n).2 ⟨k, h, hp, rfl⟩)
  | false =>
    refine dF fun hm => ?_
    obtain ⟨j, _, h2, h3⟩ := (lateUp_mem p k n).1 hm
    have : j = k := by omega
    rw [this, hp] at h2; cases h2

theorem lateUp_sub (p q : Nat → Bool) (n : Nat) (h : ∀ k, k < n → p k = true → q k = true) (x : Int) (hx : x ∈ lateUp p n) : x ∈ lateUp q n := by
  obtain ⟨k, h1, h2, h3⟩ := (lateUp_mem p x n).1 hx
  exact (lateUp_mem q x n).2 ⟨k, h1, h k h1 h2, h3⟩

/-! What is counted. -/

theorem cntA_le (l : List Msg) (a u : Int) : cntA l a u ≤ (l.length + 1) / 2 := by
  unfold cntA
  cases h : first (stopA l a u) ((l.length + 1) / 2) 0 with
  | none => exact Nat.le_refl _
  | some k => have := (first_some h).2.1; simp only [Option.getD_some]; omega

theorem cntA_before (l : List Msg) (a u : Int) {k : Nat} (h : k < cntA l a u) : stopA l a u k = false := by
  unfold cntA at h
  cases hf : first (stopA l a u) ((l.length + 1) / 2) 0 with
  | none => rw [hf] at h; exact first_none hf k (Nat.zero_le _) (by simpa using h)
  | some j => rw [hf] at h; exact (first_some hf).2.2.2 k (Nat.zero_le _) (by simpa using h)

theorem cntA_half (l : List Msg) (a u : Int) : cntA l a u ≤ l.length / 2 := by
  rcases Nat.lt_or_ge (l.length / 2) (cntA l a u) with h | h
  · have h1 := cntA_le l a u
    have h2 := cntA_before l a u h
    unfold stopA at h2
    simp only [Bool.or_eq_false_iff, Bool.not_eq_false', decide_eq_true_eq] at h2
    omega
  · exact h

theorem cntA_none (l : List Msg) (a u : Int) (h : first (lateA l a u) ((l.length + 1) / 2) 0 = none) : cntA l a u = l.length / 2 := by
  refine Nat.le_antisymm (cntA_half l a u) ?_
  unfold cntA
  cases hf : first (stopA l a u) ((l.length + 1) / 2) 0 with
  | none => simp only [Option.getD_none]; omega
  | some k =>
    obtain ⟨_, k2, k3, _⟩ := first_some hf
    have h1 := first_none h k (Nat.zero_le _) k2
    unfold stopA at k3
    rw [h1, Bool.false_or, Bool.not_eq_true', decide_eq_false_iff_not] at k3
    simp only [Option.getD_some]
    omega

theorem cntA_some (l : List Msg) (a u : Int) {k : Nat} (h : first (lateA l a u) ((l.length + 1) / 2) 0 = some k) : cntA l a u = k := by
  obtain ⟨_, k2, k3, k4⟩ := first_some h
  have : first (stopA l a u) ((l.length + 1) / 2) 0 = some k := by
    refine first_at ?_ (by omega) fun j hj => ?_
    · unfold stopA; rw [k3]; rfl
    · unfold stopA
      rw [k4 j (Nat.zero_le _) hj, Bool.false_or, Bool.not_eq_false', decide_eq_true_eq]
      omega
  unfold cntA
  rw [this]; rfl

theorem lateA_longer (l : List Msg) (a u m : Int) (hm : 0 ≤ m) (k : Nat) (h : lateA l (a + m) u k = true) : lateA l a u k = true := by
  unfold lateA at h ⊢
  simp only [Bool.not_eq_true', decide_eq_false_iff_not] at h ⊢
  omega

theorem lateA_later (l : List Msg) (a u m : Int) (hm : 0 ≤ m) (k : Nat) (h : lateA l a u k = true) : lateA l a (u + m) k = true := by
  unfold lateA at h ⊢
  simp only [Bool.not_eq_true', decide_eq_false_iff_not] at h ⊢
  split at h
  · rename_i e; rw [if_pos e]; exact h
  · rename_i e; rw [if_neg e]; omega

theorem cntA_longer (l : List Msg) (a u m : Int) (hm : 0 ≤ m) : cntA l a u ≤ cntA l (a + m) u := by
  rcases Nat.lt_or_ge (cntA l (a + m) u) (cntA l a u) with h | h
  · exfalso
    have h1 := cntA_before l a u h
    have h2 := cntA_le l a u
    have h3 : stopA l (a + m) u (cntA l (a + m) u) = true := by
      have hc : cntA l (a + m) u < (l.length + 1) / 2 := by omega
      unfold cntA at hc ⊢
      cases hf : first (stopA l (a + m) u) ((l.length + 1) / 2) 0 with
      | none => rw [hf] at hc; simp at hc
      | some j => exact (first_some hf).2.2.1
    unfold stopA at h1 h3
    simp only [Bool.or_eq_false_iff, Bool.not_eq_false', decide_eq_true_eq] at h1
    simp only [Bool.or_eq_true, Bool.not_eq_true', decide_eq_false_iff_not] at h3
    rcases h3 with h3 | h3
    · have := lateA_longer l a u m hm _ h3
      rw [h1.1] at this; cases this
    · exact h3 h1.2
  · exact h

theorem exE_of {l : List Msg} {a u : Int} (h1 : (mK l).2 = 0) (h2 : 0 ≤ a) (h3 : a ≤ 100000) (h4 : 0 ≤ u) (h5 : u ≤ 1000000000000) (h6 : 0 < l.length → atA l (l.length - 1) ≤ u) : exE l a u = 0 := by
  unfold exE
  rw [if_pos h1, if_pos (by simp only [Bool.and_eq_true, wi_iff]; exact ⟨⟨h2, h3⟩, h4, h5⟩)]
  rw [if_neg]
  simp only [Bool.and_eq_true, decide_eq_true_eq, Bool.not_eq_true', decide_eq_false_iff_not]
  rintro ⟨h7, h8⟩
  exact h8 (h6 h7)

theorem l8_0_eq (l : List Msg) (v : VM l) (a u more t : Int) (ha : 0 ≤ a ∧ a ≤ 100000) (hu : 0 ≤ u ∧ u ≤ 1000000000000) :
    l8_0 ((l, more, lateUp (lateA l a u) ((l.length + 1) / 2), t, (cntA l a u : Int), (0 : Int), ()), (a, u, ()), ()) =
      some (.inl ((l, more, lateUp (lateA l a u) ((l.length + 1) / 2), t, (cntA l a u : Int), ()), (a, u, ()), ())) := by
  have hlen := v.len
  refine itr_brk (fun k => ((l, more, lateUp (lateA l a u) ((l.length + 1) / 2), t, (cntA l a u : Int), (k : Int), ()), (a, u, ()), ())) (n := (l.length + 1) / 2) ?_ ?_ (lt_rounds (by omega))
  · intro k hk
    have hi : 2 * k < l.length := by omega
    have w0 : wrap64 (2 * (k : Int)) = ((2 * k : Nat) : Int) := by rw [wrap64_id (by omega) (by omega)]; omega
    have w1 : wrap64 (((2 * k : Nat) : Int) + 1) = ((2 * k + 1 : Nat) : Int) := wrap64_nat (by omega)
    have b0 : (!decide ((l.length : Int) ≤ ((2 * k : Nat) : Int))) = true := nT (by omega)
    have b1 : (decide ((0 : Int) ≤ ((2 * k : Nat) : Int)) && decide (((2 * k : Nat) : Int) < (l.length : Int))) = true := dA (by omega) (by omega)
    have e51 := f51_eq (lateUp (lateA l a u) ((l.length + 1) / 2)) (k : Int) (by have := lateUp_len (lateA l a u) ((l.length + 1) / 2); omega)
    rw [lateUp_has _ hk] at e51
    have hp := late_pr l v a u hu k hi
    simp only [s8_0, t8_0, Tr.val_test, Tr.val_fin, Tr.val_stop, leF_eq, eqF_eq, w0, w1, b0, b1, if_true, g51, e51, Int.toNat_natCast, wrap64_nat (show k ≤ 9223372036854775806 by omega), Option.isSome_some, Option.getD_some]
    have x0 : ∀ b : Bool, (!b == b) = false := fun b => by cases b <;> rfl
    by_cases h1 : 2 * k + 1 < l.length
    · have b2 : (!decide ((l.length : Int) ≤ ((2 * k + 1 : Nat) : Int))) = true := nT (by omega)
      have b3 : (decide ((0 : Int) ≤ ((2 * k + 1 : Nat) : Int)) && decide (((2 * k + 1 : Nat) : Int) < (l.length : Int))) = true := dA (by omega) (by omega)
      rw [if_pos h1] at hp
      simp only [atA] at hp
      simp only [b2, b3, if_true, hp, x0, Bool.false_eq_true, if_false]
      by_cases hc : k < cntA l a u
      · have b4 : (!decide ((cntA l a u : Int) ≤ (k : Int))) = true := nT (by omega)
        have b5 := cntA_before l a u hc
        unfold stopA at b5
        simp only [Bool.or_eq_false_iff] at b5
        simp only [b4, b5.1, if_true, Bool.false_eq_true, if_false]
      · have b4 : (!decide ((cntA l a u : Int) ≤ (k : Int))) = false := nF (by omega)
        simp only [b4, Bool.false_eq_true, if_false]
    · have b2 : (!decide ((l.length : Int) ≤ ((2 * k + 1 : Nat) : Int))) = false := nF (by omega)
      rw [if_neg h1] at hp
      simp only [atA] at hp
      have hc : ¬ k < cntA l a u := fun hc => by
        have b5 := cntA_before l a u hc
        unfold stopA at b5
        simp only [Bool.or_eq_false_iff, Bool.not_eq_false', decide_eq_true_eq] at b5
        exact h1 b5.2
      have b4 : (!decide ((cntA l a u : Int) ≤ (k : Int))) = false := nF (by omega)
      simp only [b2, hp, x0, b4, Bool.false_eq_true, if_false]
  · have w0 : wrap64 (2 * (((l.length + 1) / 2 : Nat) : Int)) = ((2 * ((l.length + 1) / 2) : Nat) : Int) := by rw [wrap64_id (by omega) (by omega)]; omega
    have b0 : (!decide ((l.length : Int) ≤ ((2 * ((l.length + 1) / 2) : Nat) : Int))) = false := nF (by omega)
    simp only [s8_0, t8_0, Tr.val_test, Tr.val_fin, leF_eq, w0, b0, Bool.false_eq_true, if_false]

theorem l8_2_eq (s q r : List Int) (hs : s.length ≤ 1000000) (hq : q.length ≤ 1000000) (h : ∀ x, x ∈ q → x ∈ s) : l8_2 ((s, q, r, (0 : Int), ()), ()) = some (.inl ((s, r, ()), ())) := by
  refine itr_brk (fun k => ((s, q, r, (k : Int), ()), ())) (n := q.length) ?_ ?_ (lt_rounds (by omega))
  · intro k hk
    have b0 : (!decide ((q.length : Int) ≤ (k : Int))) = true := nT (by omega)
    have b1 : (decide ((0 : Int) ≤ (k : Int)) && decide ((k : Int) < (q.length : Int))) = true := dA (by omega) (by omega)
    have e51 := f51_eq s (q.getD k 0) hs
    have hm : decide (q.getD k 0 ∈ s) = true := dT (h _ (by simp only [List.getD, List.getElem?_eq_getElem hk, Option.getD_some]; exact List.getElem_mem _))
    simp only [s8_2, t8_2, Tr.val_test, Tr.val_fin, Tr.val_stop, leF_eq, eqF_eq, b0, b1, if_true, g51, e51, hm, Int.toNat_natCast, wrap64_nat (show k ≤ 9223372036854775806 by omega), Option.isSome_some, Option.getD_some, Bool.not_true, Bool.false_eq_true, if_false]
  · simp [s8_2, t8_2, leF_eq]

theorem l8_4_eq (s q : List Int) (hs : s.length ≤ 1000000) (hq : q.length ≤ 1000000) (h : ∀ x, x ∈ q → x ∈ s) : l8_4 ((q, s, (0 : Int), ()), ()) = some (.inl ((), ())) := by
  refine itr_brk (fun k => ((q, s, (k : Int), ()), ())) (n := q.length) ?_ ?_ (lt_rounds (by omega))
  · intro k hk
    have b0 : (!decide ((q.length : Int) ≤ (k : Int))) = true := nT (by omega)
    have b1 : (decide ((0 : Int) ≤ (k : Int)) && decide ((k : Int) < (q.length : Int))) = true := dA (by omega) (by omega)
    have e51 := f51_eq s (q.getD k 0) hs
    have hm : decide (q.getD k 0 ∈ s) = true := dT (h _ (by simp only [List.getD, List.getElem?_eq_getElem hk, Option.getD_some]; exact List.getElem_mem _))
    simp only [s8_4, t8_4, Tr.val_test, Tr.val_fin, Tr.val_stop, leF_eq, eqF_eq, b0, b1, if_true, g51, e51, hm, Int.toNat_natCast, wrap64_nat (show k ≤ 9223372036854775806 by omega), Option.isSome_some, Option.getD_some, Bool.not_true, Bool.false_eq_true, if_false]
  · simp [s8_4, t8_4, leF_eq]

end Go.Vm.Mo

namespace Go.Vm.Mo
open Go
set_option linter.unusedVariables false
set_option linter.unusedSimpArgs false

theorem f8_eq (l : List Msg) (a u more : Int) (h64 : l.length ≤ 9223372036854775807) : f8 (l, (a, u, ()), more, ()) = some (true, ()) := by
  by_cases h60 : 60 < l.length
  · have b0 : (!decide ((l.length : Int) ≤ 60)) = true := nT (by omega)
    simp only [f8, t8, Tr.val_test, Tr.val_fin, leF_eq, b0, if_true]
  · have b0 : (!decide ((l.length : Int) ≤ 60)) = false := nF (by omega)
    have e50 := f50_eq l
    by_cases k1 : (mK l).2 = 0
    · have e46 := f46_eq l a u (by omega) k1
      have b1 : (!decide ((mK l).2 = 0)) = false := nF k1
      by_cases k0 : exE l a u = 0
      · have b2 : (!decide (exE l a u = 0)) = false := nF k0
        rcases Bool.eq_false_or_eq_true (wi 0 1000 more) with hw | hw
        · have hw' := wi_iff.1 hw
          by_cases hu9 : u ≤ 999999999000
          · by_cases ha9 : a ≤ 99000
            · obtain ⟨_, k2, k3, k4, k5, k6⟩ := exE_ok k0
              have v := vm_of k1
              have b3 : (!decide (u ≤ 999999999000)) = false := nF hu9
              have b4 : (!decide (a ≤ 99000)) = false := nF ha9
              have e41 := f41_eq l (by omega)
              have e42 := f42_eq l a u (by omega)
              have e43 := f43_eq l a u (by omega)
              have e44 := f44_eq l a u (by omega)
              have w1 : IntKind.wrap .i64 (a + more) = a + more := by rw [← wrap64_eq, wrap64_id (by omega) (by omega)]
              have w2 : IntKind.wrap .i64 (u + more) = u + more := by rw [← wrap64_eq, wrap64_id (by omega) (by omega)]
              have x1 : exE l (a + more) u = 0 := exE_of k1 (by omega) (by omega) k4 k5 k6
              have x2 : exE l a (u + more) = 0 := exE_of k1 k2 k3 (by omega) (by omega) (fun h => by have := k6 h; omega)
              have e42a := f42_eq l (a + more) u (by omega)
              have e44a := f44_eq l (a + more) u (by omega)
              have e42b := f42_eq l a (u + more) (by omega)
              rw [if_pos k0] at e42 e43 e44
              rw [if_pos x1] at e42a e44a
              rw [if_pos x2] at e42b
              have l0 := lateUp_len (lateA l a u) ((l.length + 1) / 2)
              have l1 := lateUp_len (lateA l (a + more) u) ((l.length + 1) / 2)
              have l2 := lateUp_len (lateA l a (u + more)) ((l.length + 1) / 2)
              have q0 := fun t => l8_0_eq l v a u more t ⟨k2, k3⟩ ⟨k4, k5⟩
              have q1 := l8_2_eq (lateUp (lateA l a u) ((l.length + 1) / 2)) (lateUp (lateA l (a + more) u) ((l.length + 1) / 2)) (lateUp (lateA l a (u + more)) ((l.length + 1) / 2)) (by omega) (by omega)
                (lateUp_sub _ _ _ (fun k _ h => lateA_longer l a u more hw'.1 k h))
              have q2 := l8_4_eq (lateUp (lateA l a (u + more)) ((l.length + 1) / 2)) (lateUp (lateA l a u) ((l.length + 1) / 2)) (by omega) (by omega)
                (lateUp_sub _ _ _ (fun k _ h => lateA_later l a u more hw'.1 k h))
              have c1 := cntA_half l a u
              have c2 : wi 0 ((l.length / 2 : Nat) : Int) (cntA l a u : Int) = true := wi_iff.2 ⟨by omega, by omega⟩
              have c3 : (!decide ((cntA l a u : Int) ≤ (cntA l (a + more) u : Int))) = false := nF (by have := cntA_longer l a u more hw'.1; omega)
              have hh := td2 l.length (by omega)
              have hf := lateUp_first (lateA l a u) ((l.length + 1) / 2)
              simp only [f8, t8, Tr.val_test, Tr.val_fin, Tr.val_stop, leF_eq, eqF_eq, b0, g50, e50, b1, g46, e46, b2, g39, f39_eq, hw, b3, b4, g41, e41, g42, e42, g43, e43, g44, e44, hh, c2,
                Option.isSome_some, Option.getD_some, if_true, if_false, Bool.false_eq_true, Bool.not_true, decide_true]
              cases hfi : first (lateA l a u) ((l.length + 1) / 2) 0 with
              | none =>
                rw [hfi] at hf
                have cn := cntA_none l a u hfi
                simp only [hf] at q0 q1 q2 ⊢
                have y0 : (!decide ((12 : Int) = 0)) = true := by decide
                have y1 : (!decide ((([] : List Int).length : Int) ≤ 0)) = false := by decide
                have y2 : ((true : Bool) == false) = false := rfl
                have y3 : (!decide ((cntA l a u : Int) = ((l.length / 2 : Nat) : Int))) = false := nF (by rw [cn])
                simp only [y0, y1, y2, q0 0, isRet, b8_0, outB, hh, y3, w1, w2, e42a, e44a, e42b, q1, q2, c3, b8_2, e41,
                  Option.isSome_some, Option.getD_some, if_true, if_false, Bool.false_eq_true, Bool.not_true, decide_true]
                rfl
              | some k =>
                rw [hfi] at hf
                obtain ⟨h1, h2⟩ := hf
                obtain ⟨_, k7, _, _⟩ := first_some hfi
                have cs := cntA_some l a u hfi
                have a0 := v.a0 (2 * k) (by omega)
                have a1 := v.a1 (2 * k) (by omega)
                have y1 : (!decide (((lateUp (lateA l a u) ((l.length + 1) / 2)).length : Int) ≤ 0)) = true := nT (by omega)
                have y0 : (!decide ((0 : Int) = 0)) = false := by decide
                have y2 : ((false : Bool) == true) = false := rfl
                have y3 : decide ((0 : Int) < ((lateUp (lateA l a u) ((l.length + 1) / 2)).length : Int)) = true := dT (by omega)
                have w3 : wrap64 ((l.length : Int) - 1) = ((l.length - 1 : Nat) : Int) := by rw [wrap64_id (by omega) (by omega)]; omega
                have hh2 := td2 (l.length - 1) (by omega)
                have y4 : wi (cntA l a u : Int) (((l.length - 1) / 2 : Nat) : Int) (k : Int) = true := wi_iff.2 ⟨by omega, by omega⟩
                have y5 : (!decide ((cntA l a u : Int) = (k : Int))) = false := nF (by rw [cs])
                have w4 : wrap64 (2 * (k : Int)) = ((2 * k : Nat) : Int) := by rw [wrap64_id (by omega) (by omega)]; omega
                have y6 : (decide ((0 : Int) ≤ ((2 * k : Nat) : Int)) && decide (((2 * k : Nat) : Int) < (l.length : Int))) = true := dA (by omega) (by omega)
                have w5 : wrap64 (wrap64 ((List.getD l (2 * k) ((0 : Int), (0 : Int), (0 : Int), ())).2.2.1 + a) + 1) = atA l (2 * k) + a + 1 := by
                  show wrap64 (wrap64 (atA l (2 * k) + a) + 1) = _
                  rw [wrap64_id (n := atA l (2 * k) + a) (by omega) (by omega), wrap64_id (by omega) (by omega)]
                have q0' := q0 (atA l (2 * k) + a + 1)
                simp only [y0, y1, y2, q0', isRet, b8_0, outB, y3, h2, w3, hh2, y4, y5, w4, y6, w5, w1, w2, e42a, e44a, e42b, q1, q2, c3, b8_2, e41, Int.toNat_natCast, Bool.true_and,
                  Option.isSome_some, Option.getD_some, if_true, if_false, Bool.false_eq_true, Bool.not_true, decide_true]
                rfl
            · have b3 : (!decide (u ≤ 999999999000)) = false := nF hu9
              have b4 : (!decide (a ≤ 99000)) = true := nT ha9
              simp only [f8, t8, Tr.val_test, Tr.val_fin, Tr.val_stop, leF_eq, eqF_eq, b0, g50, e50, b1, g46, e46, b2, g39, f39_eq, hw, b3, b4, Option.isSome_some, Option.getD_some, if_true, if_false, Bool.false_eq_true, Bool.not_true]
          · have b3 : (!decide (u ≤ 999999999000)) = true := nT hu9
            simp only [f8, t8, Tr.val_test, Tr.val_fin, Tr.val_stop, leF_eq, eqF_eq, b0, g50, e50, b1, g46, e46, b2, g39, f39_eq, hw, b3, Option.isSome_some, Option.getD_some, if_true, if_false, Bool.false_eq_true, Bool.not_true]
        · simp only [f8, t8, Tr.val_test, Tr.val_fin, Tr.val_stop, leF_eq, eqF_eq, b0, g50, e50, b1, g46, e46, b2, g39, f39_eq, hw, Option.isSome_some, Option.getD_some, if_true, if_false, Bool.false_eq_true, Bool.not_false]
      · have b2 : (!decide (exE l a u = 0)) = true := nT k0
        simp only [f8, t8, Tr.val_test, Tr.val_fin, Tr.val_stop, leF_eq, eqF_eq, b0, g50, e50, b1, g46, e46, b2, Option.isSome_some, Option.getD_some, if_true, if_false, Bool.false_eq_true]
    · have b1 : (!decide ((mK l).2 = 0)) = true := nT k1
      simp only [f8, t8, Tr.val_test, Tr.val_fin, Tr.val_stop, leF_eq, eqF_eq, b0, g50, e50, b1, Option.isSome_some, Option.getD_some, if_true, if_false, Bool.false_eq_true]

theorem law8 (d : Tys.data as8) (hw : Tys.Wf as8 d) : Pure1 Go.Proofs.Try.prog 8 as8 [.bool] d (true, ()) := by
  have hl : List.length d.1 ≤ 9223372036854775807 := hw.1.1
  have h := f8_eq d.1 d.2.1.1 d.2.1.2.1 d.2.2.1 hl
  have hp : p8.pre d = true := by
    show Option.isSome (f8 d) = true
    rw [show f8 d = some (true, ()) from h]; rfl
  have hg : p8.fn d = (true, ()) := by
    show (f8 d).getD _ = _
    rw [show f8 d = some (true, ()) from h]; rfl
  have := ok8.runs d hp
  rw [hg] at this
  exact this

end Go.Vm.Mo
