import Derived.Test.YtiodahganfihkaaGreatRsFb
import Derived.Test.YtiodahganfihkaaGreatA5
set_option linter.unusedVariables false
set_option linter.unusedSimpArgs false

namespace Go.Vm.Mo
open Go
set_option linter.unusedVariables false
set_option linter.unusedSimpArgs false

theorem dT {p : Prop} [Decidable p] (h : p) : decide p = true := decide_eq_true h
theorem dF {p : Prop} [Decidable p] (h : ¬ p) : decide p = false := decide_eq_false h
theorem nT {p : Prop} [Decidable p] (h : ¬ p) : (!decide p) = true := by rw [decide_eq_false h]; rfl
theorem nF {p : Prop} [Decidable p] (h : p) : (!decide p) = false := by rw [decide_eq_true h]; rfl
theorem dA {p q : Prop} [Decidable p] [Decidable q] (h : p) (k : q) : (decide p && decide q) = true := by rw [decide_eq_true h, decide_eq_true k]; rfl

theorem first_map (bad : Nat → Bool) : ∀ (n i : Nat), first bad n (i + 1) = (first (fun k => bad (k + 1)) n i).map (· + 1)
  | 0, _ => rfl
  | n + 1, i => by
    simp only [first]
    split
    · rfl
    · exact first_map bad n (i + 1)

def firstNZ : List Int → Int
  | [] => 0
  | a :: l => if a = 0 then firstNZ l else a

theorem firstNZ_eq : ∀ l : List Int, (match first (fun i => !decide (l.getD i 0 = 0)) l.length 0 with
    | some k => l.getD k 0
    | none => 0) = firstNZ l
  | [] => rfl
  | a :: l => by
    simp only [List.length, first, firstNZ]
    by_cases ha : a = 0
    · subst ha
      have e := firstNZ_eq l
      have hf : first (fun i => !decide (((0 : Int) :: l).getD i 0 = 0)) l.length (0 + 1) = (first (fun i => !decide (l.getD i 0 = 0)) l.length 0).map (· + 1) := by
        rw [first_map]; rfl
      simp only [hf, List.getD_cons_zero, decide_true, Bool.not_true, Bool.false_eq_true, if_false, if_true]
      rw [← e]
      cases first (fun i => !decide (l.getD i 0 = 0)) l.length 0 with
      | none => rfl
      | some k => rfl
    · simp [ha]

theorem l79 (l : List Int) (h : l.length ≤ 1000000000) : l79_0 ((l, (l.length : Int), (0 : Int), ()), ()) = match first (fun i => !decide (l.getD i 0 = 0)) l.length 0 with
    | some k => some (.inr ((l.getD k 0, ()), ()))
    | none => some (.inl ((), ())) := by
  refine itr_search (fun i => ((l, (l.length : Int), (i : Int), ()), ())) (fun i => !decide (l.getD i 0 = 0)) (fun k => ((l.getD k 0, ()), ())) (n := l.length) ?_ ?_ (lt_rounds (by omega))
  · intro i hi
    simp only [s79_0, t79_0, Tr.val_test, leF_eq, eqF_eq]
    rw [if_pos (by simp; omega), if_pos (by simp; omega)]
    simp only [Int.toNat_natCast, wrap64_nat (show i ≤ 9223372036854775806 by omega)]
    rfl
  · simp [s79_0, t79_0, leF_eq]

theorem f79_eq (l : List Int) (h : l.length ≤ 1000000000) : f79 (l, ()) = some (firstNZ l, ()) := by
  simp only [f79, t79, Tr.val_test, r79_0, l79 l h, ← firstNZ_eq l]
  cases first (fun i => !decide (l.getD i 0 = 0)) l.length 0 with
  | none => rfl
  | some k => rfl

theorem f80_eq (d : Tys.data as80) : f80 d = some (if d.1 = true then d.2.1 else (0 : Int), ()) := by
  simp only [f80, t80, Tr.val_test]
  split <;> rfl

def wi (lo hi x : Int) : Bool := decide (lo ≤ x) && decide (x ≤ hi)

theorem wi_iff {lo hi x : Int} : wi lo hi x = true ↔ lo ≤ x ∧ x ≤ hi := by simp [wi]

theorem f25_eq (d : Tys.data as25) : f25 d = some (wi d.2.1 d.2.2.1 d.1, ()) := by
  simp only [f25, t25, Tr.val_test, Tr.val_fin, leF_eq, decide_eq_true_eq, wi]
  split <;> simp [*]

theorem l94 (lo hi : Int) (l : List Int) (h : l.length ≤ 1000000000) : l94_0 ((lo, hi, l, (l.length : Int), (0 : Int), ()), ()) = match first (fun i => !wi lo hi (l.getD i 0)) l.length 0 with
    | some _ => some (.inr ((false, ()), ()))
    | none => some (.inl ((), ())) := by
  refine itr_search (fun i => ((lo, hi, l, (l.length : Int), (i : Int), ()), ())) (fun i => !wi lo hi (l.getD i 0)) (fun _ => ((false, ()), ())) (n := l.length) ?_ ?_ (lt_rounds (by omega))
  · intro i hi'
    simp only [s94_0, t94_0, Tr.val_test, Tr.val_fin, leF_eq, Int.toNat_natCast, wrap64_nat (show i ≤ 9223372036854775806 by omega)]
    rw [if_pos (by simp; omega), if_pos (by simp; omega)]
    by_cases a0 : lo ≤ l.getD i 0
    · by_cases a1 : l.getD i 0 ≤ hi
      · simp only [wi, a0, a1, decide_true, Bool.and_self, Bool.not_true, if_true, if_false, Bool.false_eq_true]
      · simp only [wi, a0, a1, decide_true, decide_false, Bool.and_false, Bool.not_false, Bool.not_true, if_true, if_false, Bool.false_eq_true]
    · simp only [wi, a0, decide_false, Bool.false_and, Bool.not_false, if_true, if_false, Bool.false_eq_true]
  · simp [s94_0, t94_0, leF_eq]

theorem f94_eq (lo hi : Int) (l : List Int) (h : l.length ≤ 1000000000) : f94 (lo, hi, l, ()) = some ((first (fun i => !wi lo hi (l.getD i 0)) l.length 0).isNone, ()) := by
  have hl := l94 lo hi l h
  cases hf : first (fun i => !wi lo hi (l.getD i 0)) l.length 0 with
  | none =>
    rw [hf] at hl
    simp only [f94, t94, Tr.val_test, Tr.val_fin, hl, isRet, Option.isSome_some, Option.isNone_none, if_true, Bool.false_eq_true, if_false]
  | some k =>
    rw [hf] at hl
    simp only [f94, t94, Tr.val_test, Tr.val_fin, hl, isRet, r94_0, outR, Option.isSome_some, Option.isNone_some, if_true]

theorem f94_one (lo hi a : Int) : f94 (lo, hi, [a], ()) = some (wi lo hi a, ()) := by
  rw [f94_eq lo hi _ (by simp)]
  simp only [first, List.length, List.getD_cons_zero]
  by_cases h1 : wi lo hi a = true
  · simp [h1]
  · simp [h1]

theorem f94_two (lo hi a b : Int) : f94 (lo, hi, [a, b], ()) = some (wi lo hi a && wi lo hi b, ()) := by
  rw [f94_eq lo hi _ (by simp)]
  simp only [first, List.length, List.getD_cons_zero, List.getD_cons_succ]
  by_cases h1 : wi lo hi a = true
  · by_cases h2 : wi lo hi b = true
    · simp [h1, h2]
    · simp [h1, h2]
  · simp [h1]

theorem wn64 {x : Int} (h1 : -9223372036854775807 ≤ x) (h2 : x ≤ 9223372036854775807) : IntKind.wrap .i64 (0 - x) = -x := by
  rw [← wrap64_eq, wrap64_id (by omega) (by omega)]
  omega

theorem f117_eq (m : Int) (l : List Int) (h1 : -9223372036854775807 ≤ m) (h2 : m ≤ 9223372036854775807) (h : l.length ≤ 1000000000) : f117 (m, l, ()) = some (!(first (fun i => !wi (-m) m (l.getD i 0)) l.length 0).isNone, ()) := by
  simp only [f117, t117, Tr.val_test, Tr.val_fin, wn64 h1 h2, f94_eq _ _ _ h, g94, Option.isSome_some, Option.getD_some, if_true]

theorem f117_one (m a : Int) (h1 : -9223372036854775807 ≤ m) (h2 : m ≤ 9223372036854775807) : f117 (m, [a], ()) = some (!wi (-m) m a, ()) := by
  have c94 : f94 (-m, m, [a], ()) = some (wi (-m) m a, ()) := f94_one _ _ _
  simp only [f117, t117, Tr.val_test, Tr.val_fin, wn64 h1 h2, c94, g94, Option.isSome_some, Option.getD_some, if_true]

theorem f117_two (m a b : Int) (h1 : -9223372036854775807 ≤ m) (h2 : m ≤ 9223372036854775807) : f117 (m, [a, b], ()) = some (!(wi (-m) m a && wi (-m) m b), ()) := by
  have c94 : f94 (-m, m, [a, b], ()) = some (wi (-m) m a && wi (-m) m b, ()) := f94_two _ _ _ _
  simp only [f117, t117, Tr.val_test, Tr.val_fin, wn64 h1 h2, c94, g94, Option.isSome_some, Option.getD_some, if_true]

theorem f79_two (a b : Int) : f79 ([a, b], ()) = some (firstNZ [a, b], ()) := f79_eq _ (by simp)
theorem f79_three (a b c : Int) : f79 ([a, b, c], ()) = some (firstNZ [a, b, c], ()) := f79_eq _ (by simp)

abbrev RD := Int × Int × Unit
def rd (l : List RD) (i : Nat) : RD := l.getD i ((0 : Int), (0 : Int), ())
def okM (x : Int) : Bool := wi (-1000000) 1000000 x
def rdE (p : RD) : Int := firstNZ [if (!(okM p.1 && okM p.2.1)) = true then 2 else 0, if (!decide (p.1 ≤ p.2.1)) = true then 9 else 0]

theorem rdE_eq (p : RD) : rdE p = if okM p.1 = true then (if okM p.2.1 = true then (if p.1 ≤ p.2.1 then 0 else 9) else 2) else 2 := by
  unfold rdE firstNZ
  cases okM p.1 <;> cases okM p.2.1 <;> by_cases h : p.1 ≤ p.2.1 <;> simp [h, firstNZ]

theorem l163 (l : List RD) (h : l.length ≤ 1000000000) : l163_0 ((l, (l.length : Int), (0 : Int), ()), ()) = match first (fun i => !decide (rdE (rd l i) = 0)) l.length 0 with
    | some k => some (.inr (((k : Int), rdE (rd l k), ()), ()))
    | none => some (.inl ((), ())) := by
  refine itr_search (fun i => ((l, (l.length : Int), (i : Int), ()), ())) (fun i => !decide (rdE (rd l i) = 0)) (fun k => (((k : Int), rdE (rd l k), ()), ())) (n := l.length) ?_ ?_ (lt_rounds (by omega))
  · intro i hi
    have b0 : (!decide ((l.length : Int) ≤ (i : Int))) = true := nT (by omega)
    have b1 : (decide ((0 : Int) ≤ (i : Int)) && decide ((i : Int) < (l.length : Int))) = true := dA (by omega) (by omega)
    have e1 : f117 ((1000000 : Int), [(rd l i).1, (rd l i).2.1], ()) = some (!(okM (rd l i).1 && okM (rd l i).2.1), ()) := f117_two _ _ _ (by omega) (by omega)
    unfold rd at e1
    have c79 : ∀ a b : Int, f79 ([a, b], ()) = some (firstNZ [a, b], ()) := f79_two
    simp only [s163_0, t163_0, Tr.val_test, Tr.val_fin, Tr.val_stop, leF_eq, eqF_eq, b0, b1, if_true, Int.toNat_natCast, wrap64_nat (show i ≤ 9223372036854775806 by omega), e1, g117, f80_eq, g80, c79, g79, Option.isSome_some, Option.getD_some]
    rfl
  · simp [s163_0, t163_0, leF_eq]

/-- The error of readings. -/
def rdsE (l : List RD) : Int := match first (fun i => !decide (rdE (rd l i) = 0)) l.length 0 with
  | some k => rdE (rd l k)
  | none => 0

theorem f127_eq (l : List RD) (h : l.length ≤ 1000000000) : f127 (l, ()) = some (if 8 < l.length then 8 else rdsE l, ()) := by
  have hl := l163 l h
  by_cases h8 : 8 < l.length
  · have b0 : (!decide ((l.length : Int) ≤ 8)) = true := nT (by omega)
    simp only [f127, t127, Tr.val_test, Tr.val_fin, leF_eq, b0, if_true, if_pos h8]
  · have b0 : (!decide ((l.length : Int) ≤ 8)) = false := nF (by omega)
    unfold rdsE
    rw [if_neg h8]
    cases hf : first (fun i => !decide (rdE (rd l i) = 0)) l.length 0 with
    | none =>
      rw [hf] at hl
      simp only [f127, t127, Tr.val_test, Tr.val_fin, leF_eq, b0, hl, isRet, Option.isSome_some, if_true, Bool.false_eq_true, if_false]
    | some k =>
      rw [hf] at hl
      simp only [f127, t127, Tr.val_test, Tr.val_fin, leF_eq, b0, hl, isRet, r163_0, outR, Option.isSome_some, if_true, Bool.false_eq_true, if_false]

/-- The error of a watch. -/
def wE (m n : Int) : Int := if okM m = true then (if wi 1 8 n = true then 0 else 2) else 2

theorem f126_eq (m n : Int) : f126 ((m, n, ()), ()) = some (wE m n, ()) := by
  have e1 : f117 ((1000000 : Int), [m], ()) = some (!okM m, ()) := f117_one _ _ (by omega) (by omega)
  have c94 : f94 ((1 : Int), (8 : Int), [n], ()) = some (wi 1 8 n, ()) := f94_one _ _ _
  simp only [f126, t126, Tr.val_test, Tr.val_fin, e1, g117, f80_eq, g80, c94, g94, Option.isSome_some, Option.getD_some, if_true, wE]
  cases okM m <;> cases wi 1 8 n <;> rfl

/-- How many of the first n places are so. -/
def cnt (p : Nat → Bool) : Nat → Nat
  | 0 => 0
  | n + 1 => if p n = true then cnt p n + 1 else cnt p n

theorem cnt_le (p : Nat → Bool) : ∀ n, cnt p n ≤ n
  | 0 => Nat.le_refl _
  | n + 1 => by have := cnt_le p n; simp only [cnt]; split <;> omega

theorem cnt_mono {p q : Nat → Bool} : ∀ n, (∀ i, i < n → p i = true → q i = true) → cnt p n ≤ cnt q n
  | 0, _ => Nat.le_refl _
  | n + 1, h => by
    have ih := cnt_mono n fun i hi => h i (by omega)
    simp only [cnt]
    by_cases hp : p n = true
    · rw [if_pos hp, if_pos (h n (by omega) hp)]; omega
    · rw [if_neg hp]; split <;> omega

def loA (l : List RD) (m : Int) (i : Nat) : Bool := !decide ((rd l i).1 ≤ m)
def hiA (l : List RD) (m : Int) (i : Nat) : Bool := !decide ((rd l i).2.1 ≤ m)

theorem cnt_wrap (p : Nat → Bool) {i : Nat} (h : i ≤ 1000000000) : wrap64 ((cnt p i : Int) + 1) = ((cnt p i + 1 : Nat) : Int) := wrap64_nat (by have := cnt_le p i; omega)

theorem l52 (l : List RD) (m n : Int) (h : l.length ≤ 1000000000) : l52_0 (((0 : Int), (0 : Int), l, (l.length : Int), (0 : Int), ()), (m, n, ()), ()) = some (.inl (((cnt (loA l m) l.length : Int), (cnt (hiA l m) l.length : Int), ()), (m, n, ()), ())) := by
  refine itr_brk (fun i => (((cnt (loA l m) i : Int), (cnt (hiA l m) i : Int), l, (l.length : Int), (i : Int), ()), (m, n, ()), ())) (n := l.length) ?_ ?_ (lt_rounds (by omega))
  · intro i hi
    have b0 : (!decide ((l.length : Int) ≤ (i : Int))) = true := nT (by omega)
    have b1 : (decide ((0 : Int) ≤ (i : Int)) && decide ((i : Int) < (l.length : Int))) = true := dA (by omega) (by omega)
    have hd : List.getD l i ((0 : Int), (0 : Int), ()) = rd l i := rfl
    simp only [s52_0, t52_0, Tr.val_test, Tr.val_fin, Tr.val_stop, leF_eq, b0, b1, if_true, Int.toNat_natCast, wrap64_nat (show i ≤ 9223372036854775806 by omega), cnt_wrap _ (show i ≤ 1000000000 by omega), cnt, loA, hiA, hd]
    rcases Bool.eq_false_or_eq_true (decide ((rd l i).1 ≤ m)) with h1 | h1 <;> rcases Bool.eq_false_or_eq_true (decide ((rd l i).2.1 ≤ m)) with h2 | h2 <;> simp only [h1, h2, Bool.not_true, Bool.not_false, if_true, if_false, Bool.false_eq_true]
  · simp [s52_0, t52_0, leF_eq]

/-- The trip of a watch. -/
def tripV (l : List RD) (m n : Int) : Int := if n ≤ (cnt (loA l m) l.length : Int) then 2 else if n ≤ (cnt (hiA l m) l.length : Int) then 1 else 0
def wE2 (l : List RD) (m n : Int) : Int := firstNZ [wE m n, if 8 < l.length then 8 else rdsE l]

theorem f52_eq (l : List RD) (m n : Int) (h : l.length ≤ 1000000000) : f52 ((m, n, ()), l, ()) = some (if wE2 l m n = 0 then (tripV l m n, 0, ()) else (0, wE2 l m n, ())) := by
  have hl := l52 l m n h
  have c79 : ∀ a b : Int, f79 ([a, b], ()) = some (firstNZ [a, b], ()) := f79_two
  have c126 : f126 ((m, n, ()), ()) = some (wE m n, ()) := f126_eq m n
  simp only [f52, t52, Tr.val_test, Tr.val_fin, Tr.val_stop, leF_eq, eqF_eq, c126, g126, f127_eq l h, g127, c79, g79, hl, isBrk, b52_0, outB, Option.isSome_some, Option.getD_some, if_true]
  rw [show firstNZ [wE m n, if 8 < l.length then 8 else rdsE l] = wE2 l m n from rfl]
  by_cases h0 : wE2 l m n = 0
  · have c0 : (!decide (wE2 l m n = 0)) = false := nF h0
    simp only [c0, if_pos h0, if_true, if_false, Bool.false_eq_true, tripV]
    by_cases h1 : n ≤ (cnt (loA l m) l.length : Int)
    · simp only [h1, decide_true, if_true]
    · by_cases h2 : n ≤ (cnt (hiA l m) l.length : Int)
      · simp only [h1, h2, decide_true, decide_false, Bool.not_true, if_true, if_false, Bool.false_eq_true]
      · simp only [h1, h2, decide_false, Bool.not_false, if_true, if_false, Bool.false_eq_true]
  · have c0 : (!decide (wE2 l m n = 0)) = true := nT h0
    simp only [c0, if_true, if_neg h0]

theorem f53_eq (l : List RD) (h : l.length ≤ 1000) : f53 (l, ()) = some (l, ()) := by
  simp only [f53, t53, Tr.val_test, Tr.val_fin, Tr.val_stop, List.nil_append]
  by_cases h0 : l.length = 0
  · have : l = [] := List.eq_nil_of_length_eq_zero h0
    subst this; rfl
  · rw [if_neg (by rw [beq_eq_true']; exact h0), if_neg (by rw [ble_eq_true']; omega), if_pos (by simp only [Bool.and_eq_true, ble_eq_true']; omega), if_pos (by rw [beq_eq_true']; omega)]

end Go.Vm.Mo

namespace Go.Vm.Mo
open Go
set_option linter.unusedVariables false
set_option linter.unusedSimpArgs false

theorem f128_eq (d : Tys.data as128) : f128 d = some (okM d.1, ()) := by
  simp only [f128, t128, Tr.val_test, Tr.val_fin, f25_eq, g25, Option.isSome_some, Option.getD_some, if_true]
  rfl

theorem l54 (l : List RD) (h : l.length ≤ 1000000000) : l54_0 ((l, (0 : Int), ()), ()) = match first (fun i => !decide (rdE (rd l i) = 0)) l.length 0 with
    | some k => some (.inr ((rdE (rd l k), ()), ()))
    | none => some (.inl ((), ())) := by
  refine itr_search (fun i => ((l, (i : Int), ()), ())) (fun i => !decide (rdE (rd l i) = 0)) (fun k => ((rdE (rd l k), ()), ())) (n := l.length) ?_ ?_ (lt_rounds (by omega))
  · intro i hi
    have b0 : (!decide ((l.length : Int) ≤ (i : Int))) = true := nT (by omega)
    have b1 : (decide ((0 : Int) ≤ (i : Int)) && decide ((i : Int) < (l.length : Int))) = true := dA (by omega) (by omega)
    have hd : List.getD l i ((0 : Int), (0 : Int), ()) = rd l i := rfl
    simp only [s54_0, t54_0, Tr.val_test, Tr.val_fin, Tr.val_stop, leF_eq, eqF_eq, b0, b1, if_true, Int.toNat_natCast, wrap64_nat (show i ≤ 9223372036854775806 by omega), hd, f128_eq, g128, Option.isSome_some, Option.getD_some, rdE_eq]
    rcases Bool.eq_false_or_eq_true (okM (rd l i).1) with h1 | h1 <;> rcases Bool.eq_false_or_eq_true (okM (rd l i).2.1) with h2 | h2 <;> by_cases h3 : (rd l i).1 ≤ (rd l i).2.1 <;>
      simp only [h1, h2, h3, decide_true, decide_false, Bool.not_true, Bool.not_false, if_true, if_false, Bool.false_eq_true] <;> rfl
  · simp [s54_0, t54_0, leF_eq]

theorem f54_eq (l : List RD) (m n : Int) (h : l.length ≤ 1000000000) : f54 ((m, n, ()), l, ()) = some (wE2 l m n, ()) := by
  have hl := l54 l h
  have e := f25_eq (n, (1 : Int), (8 : Int), ())
  have e : f25 (n, (1 : Int), (8 : Int), ()) = some (wi 1 8 n, ()) := e
  unfold wE2 wE rdsE
  simp only [f54, t54, Tr.val_test, Tr.val_fin, Tr.val_stop, leF_eq, eqF_eq, f128_eq, g128, e, g25, Option.isSome_some, Option.getD_some, if_true, firstNZ]
  rcases Bool.eq_false_or_eq_true (okM m) with h1 | h1
  · rcases Bool.eq_false_or_eq_true (wi 1 8 n) with h2 | h2
    · by_cases h8 : 8 < l.length
      · have b0 : (!decide ((l.length : Int) ≤ 8)) = true := nT (by omega)
        simp only [h1, h2, h8, b0, Bool.not_true, if_true, if_false, Bool.false_eq_true]
        rfl
      · have b0 : (!decide ((l.length : Int) ≤ 8)) = false := nF (by omega)
        cases hf : first (fun i => !decide (rdE (rd l i) = 0)) l.length 0 with
        | none =>
          rw [hf] at hl
          simp only [h1, h2, h8, b0, hl, isRet, Option.isSome_some, Bool.not_true, if_true, if_false, Bool.false_eq_true]
        | some k =>
          obtain ⟨_, _, k3, _⟩ := first_some hf
          have k3 : ¬ rdE (rd l k) = 0 := by simpa using k3
          rw [hf] at hl
          simp only [h1, h2, h8, b0, hl, isRet, r54_0, outR, Option.isSome_some, Bool.not_true, if_true, if_false, Bool.false_eq_true, if_neg k3]
    · simp only [h1, h2, Bool.not_true, Bool.not_false, if_true, if_false, Bool.false_eq_true]
      rfl
  · simp only [h1, Bool.not_false, if_true, if_false, Bool.false_eq_true]
    rfl

theorem l55 (l : List RD) (m n : Int) (h : l.length ≤ 1000000000) : l55_0 ((l, (0 : Int), (0 : Int), (0 : Int), ()), (m, n, ()), ()) = some (.inl (((cnt (loA l m) l.length : Int), (cnt (hiA l m) l.length : Int), ()), (m, n, ()), ())) := by
  refine itr_brk (fun i => ((l, (cnt (loA l m) i : Int), (cnt (hiA l m) i : Int), (i : Int), ()), (m, n, ()), ())) (n := l.length) ?_ ?_ (lt_rounds (by omega))
  · intro i hi
    have b0 : (!decide ((l.length : Int) ≤ (i : Int))) = true := nT (by omega)
    have b1 : (decide ((0 : Int) ≤ (i : Int)) && decide ((i : Int) < (l.length : Int))) = true := dA (by omega) (by omega)
    have hd : List.getD l i ((0 : Int), (0 : Int), ()) = rd l i := rfl
    simp only [s55_0, t55_0, Tr.val_test, Tr.val_fin, Tr.val_stop, leF_eq, b0, b1, if_true, Int.toNat_natCast, wrap64_nat (show i ≤ 9223372036854775806 by omega), cnt_wrap _ (show i ≤ 1000000000 by omega), cnt, loA, hiA, hd]
    rcases Bool.eq_false_or_eq_true (decide ((rd l i).1 ≤ m)) with h1 | h1 <;> rcases Bool.eq_false_or_eq_true (decide ((rd l i).2.1 ≤ m)) with h2 | h2 <;> simp only [h1, h2, Bool.not_true, Bool.not_false, if_true, if_false, Bool.false_eq_true]
  · simp [s55_0, t55_0, leF_eq]

theorem f55_eq (l : List RD) (m n : Int) (h : l.length ≤ 1000000000) : f55 ((m, n, ()), l, ()) = some (tripV l m n, ()) := by
  have hl := l55 l m n h
  simp only [f55, t55, Tr.val_test, Tr.val_fin, Tr.val_stop, leF_eq, hl, isBrk, b55_0, outB, Option.isSome_some, if_true, tripV]
  by_cases h1 : n ≤ (cnt (loA l m) l.length : Int)
  · simp only [h1, decide_true, if_true]
  · by_cases h2 : n ≤ (cnt (hiA l m) l.length : Int)
    · simp only [h1, h2, decide_true, decide_false, Bool.not_true, if_true, if_false, Bool.false_eq_true]
    · simp only [h1, h2, decide_false, Bool.not_false, if_true, if_false, Bool.false_eq_true]

/-- The floored remainder. -/
def modF (a b : Int) : Int := if Int.tmod a b < 0 then wrap64 (Int.tmod a b + b) else Int.tmod a b

theorem f56_eq (a b : Int) (h : b ≠ 0) : f56 (a, b, ()) = some (modF a b, ()) := by
  have h0 : (b == (0 : Int)) = false := by simpa using h
  simp only [f56, t56, Tr.val_test, Tr.val_fin, Tr.val_stop, leF_eq, h0, Bool.false_eq_true, if_false, modF]
  by_cases h1 : Int.tmod a b < 0
  · have b1 : (!decide (0 ≤ Int.tmod a b)) = true := nT (by omega)
    simp only [b1, h1, if_true]
  · have b1 : (!decide (0 ≤ Int.tmod a b)) = false := nF (by omega)
    simp only [b1, h1, if_false, Bool.false_eq_true]

theorem modF_range {a b : Int} (h : 0 < b) (h2 : b ≤ 1000000000000) : 0 ≤ modF a b ∧ modF a b < b := by
  have h3 := Int.tmod_lt_of_pos a h
  have h4 := Int.lt_tmod_of_pos a h
  unfold modF
  split
  · rw [wrap64_id (by omega) (by omega)]; omega
  · omega

end Go.Vm.Mo

namespace Go.Vm.Mo
open Go
set_option linter.unusedVariables false
set_option linter.unusedSimpArgs false

/-- A true reading. -/
def trueR (l : List RD) (ps : List Int) (i : Nat) : Int := (rd l i).1 + modF (ps.getD (i % ps.length) 0) ((rd l i).2.1 - (rd l i).1 + 1)
def trA (l : List RD) (ps : List Int) (m : Int) (i : Nat) : Bool := !decide (trueR l ps i ≤ m)

theorem okM_iff {x : Int} : okM x = true ↔ -1000000 ≤ x ∧ x ≤ 1000000 := wi_iff

theorem l10 (l : List RD) (ps : List Int) (v m n : Int) (h : l.length ≤ 8) (hp : 0 < ps.length) (hp2 : ps.length ≤ 9223372036854775807) (hr : ∀ i, i < l.length → -1000000 ≤ (rd l i).1 ∧ (rd l i).1 ≤ (rd l i).2.1 ∧ (rd l i).2.1 ≤ 1000000) :
    l10_0 ((l, ps, v, (0 : Int), (0 : Int), ()), (m, n, ()), ()) = some (.inl ((v, (cnt (trA l ps m) l.length : Int), ()), (m, n, ()), ())) := by
  refine itr_brk (fun i => ((l, ps, v, (cnt (trA l ps m) i : Int), (i : Int), ()), (m, n, ()), ())) (n := l.length) ?_ ?_ (lt_rounds (by omega))
  · intro i hi
    obtain ⟨r1, r2, r3⟩ := hr i hi
    have b0 : (!decide ((l.length : Int) ≤ (i : Int))) = true := nT (by omega)
    have b1 : (decide ((0 : Int) ≤ (i : Int)) && decide ((i : Int) < (l.length : Int))) = true := dA (by omega) (by omega)
    have b2 : ((ps.length : Int) == 0) = false := by rw [beq_eq_false_iff_ne]; omega
    have hm : Int.tmod (i : Int) (ps.length : Int) = ((i % ps.length : Nat) : Int) := rfl
    have hlt := Nat.mod_lt i hp
    have b3 : (decide ((0 : Int) ≤ ((i % ps.length : Nat) : Int)) && decide (((i % ps.length : Nat) : Int) < (ps.length : Int))) = true := dA (by omega) (by omega)
    have hd : List.getD l i ((0 : Int), (0 : Int), ()) = rd l i := rfl
    have w1 : wrap64 (wrap64 ((rd l i).2.1 - (rd l i).1) + 1) = (rd l i).2.1 - (rd l i).1 + 1 := by
      rw [wrap64_id (n := (rd l i).2.1 - (rd l i).1) (by omega) (by omega), wrap64_id (by omega) (by omega)]
    have e1 := f56_eq (ps.getD (i % ps.length) 0) ((rd l i).2.1 - (rd l i).1 + 1) (by omega)
    obtain ⟨m1, m2⟩ := modF_range (a := ps.getD (i % ps.length) 0) (b := (rd l i).2.1 - (rd l i).1 + 1) (by omega) (by omega)
    have w2 : wrap64 ((rd l i).1 + modF (ps.getD (i % ps.length) 0) ((rd l i).2.1 - (rd l i).1 + 1)) = trueR l ps i := by
      rw [wrap64_id (by omega) (by omega)]; rfl
    simp only [s10_0, t10_0, Tr.val_test, Tr.val_fin, Tr.val_stop, leF_eq, b0, b1, b2, hm, b3, if_true, if_false, Bool.false_eq_true, Int.toNat_natCast, hd, w1, e1, g56, w2, Option.isSome_some, Option.getD_some, wrap64_nat (show i ≤ 9223372036854775806 by omega), cnt_wrap _ (show i ≤ 1000000000 by omega), cnt, trA]
    rcases Bool.eq_false_or_eq_true (decide (trueR l ps i ≤ m)) with h1 | h1 <;> simp only [h1, Bool.not_true, Bool.not_false, if_true, if_false, Bool.false_eq_true]
  · simp [s10_0, t10_0, leF_eq]

theorem nz2 {a b : Int} (h : firstNZ [a, b] = 0) : a = 0 ∧ b = 0 := by
  simp only [firstNZ] at h
  by_cases ha : a = 0
  · rw [if_pos ha] at h
    by_cases hb : b = 0
    · exact ⟨ha, hb⟩
    · rw [if_neg hb] at h; exact absurd h hb
  · rw [if_neg ha] at h; exact absurd h ha

theorem rdE_zero {p : RD} (h : rdE p = 0) : -1000000 ≤ p.1 ∧ p.1 ≤ p.2.1 ∧ p.2.1 ≤ 1000000 := by
  rw [rdE_eq] at h
  by_cases a1 : okM p.1 = true
  · by_cases a2 : okM p.2.1 = true
    · by_cases a3 : p.1 ≤ p.2.1
      · exact ⟨(okM_iff.1 a1).1, a3, (okM_iff.1 a2).2⟩
      · simp [a1, a2, a3] at h
    · simp [a1, a2] at h
  · simp [a1] at h

theorem rdsE_zero {l : List RD} (h : rdsE l = 0) : ∀ i, i < l.length → rdE (rd l i) = 0 := by
  intro i hi
  unfold rdsE at h
  cases hf : first (fun i => !decide (rdE (rd l i) = 0)) l.length 0 with
  | none => simpa using first_none hf i (by omega) (by omega)
  | some k =>
    rw [hf] at h
    obtain ⟨_, _, k3, _⟩ := first_some hf
    have h : rdE (rd l k) = 0 := h
    simp [h] at k3

theorem wE_zero {m n : Int} (h : wE m n = 0) : -1000000 ≤ m ∧ m ≤ 1000000 ∧ 1 ≤ n ∧ n ≤ 8 := by
  unfold wE at h
  by_cases a1 : okM m = true
  · by_cases a2 : wi 1 8 n = true
    · exact ⟨(okM_iff.1 a1).1, (okM_iff.1 a1).2, (wi_iff.1 a2).1, (wi_iff.1 a2).2⟩
    · simp [a1, a2] at h
  · simp [a1] at h

theorem valid_rd {l : List RD} {m n : Int} (h : wE2 l m n = 0) : -1000000 ≤ m ∧ m ≤ 1000000 ∧ 1 ≤ n ∧ n ≤ 8 ∧ l.length ≤ 8 ∧ ∀ i, i < l.length → -1000000 ≤ (rd l i).1 ∧ (rd l i).1 ≤ (rd l i).2.1 ∧ (rd l i).2.1 ≤ 1000000 := by
  obtain ⟨h1, h2⟩ := nz2 h
  obtain ⟨a1, a2, a3, a4⟩ := wE_zero h1
  by_cases h8 : 8 < l.length
  · rw [if_pos h8] at h2; cases h2
  · rw [if_neg h8] at h2
    exact ⟨a1, a2, a3, a4, by omega, fun i hi => rdE_zero (rdsE_zero h2 i hi)⟩

theorem wE2_lower {l : List RD} {m n m' n' : Int} (h : wE2 l m n = 0) (h1 : -1000000 ≤ m') (h2 : m' ≤ 1000000) (h3 : 1 ≤ n') (h4 : n' ≤ 8) : wE2 l m' n' = 0 := by
  have e1 : wE m' n' = 0 := by
    unfold wE
    rw [if_pos (okM_iff.2 ⟨h1, h2⟩), if_pos (wi_iff.2 ⟨h3, h4⟩)]
  have e2 := (nz2 h).2
  unfold wE2
  rw [e1, e2]; rfl

theorem tripV_mono {l : List RD} {m n m' n' : Int} (h1 : m' ≤ m) (h2 : n' ≤ n) : tripV l m n ≤ tripV l m' n' := by
  have c1 : cnt (loA l m) l.length ≤ cnt (loA l m') l.length := cnt_mono _ fun i _ h => by
    simp only [loA, Bool.not_eq_true', decide_eq_false_iff_not] at h ⊢; omega
  have c2 : cnt (hiA l m) l.length ≤ cnt (hiA l m') l.length := cnt_mono _ fun i _ h => by
    simp only [hiA, Bool.not_eq_true', decide_eq_false_iff_not] at h ⊢; omega
  unfold tripV
  split
  · rw [if_pos (by omega)]; exact Int.le_refl _
  · split
    · split
      · decide
      · rw [if_pos (by omega)]; exact Int.le_refl _
    · split
      · decide
      · split <;> decide

theorem f10_eq (m n : Int) (l : List RD) (ps : List Int) (hl : l.length ≤ 9223372036854775807) (hp : ps.length ≤ 9223372036854775807) : f10 ((m, n, ()), l, ps, ()) = some (true, ()) := by
  by_cases k0 : 10 < l.length
  · have b0 : (!decide ((l.length : Int) ≤ 10)) = true := nT (by omega)
    simp only [f10, t10, Tr.val_test, Tr.val_fin, leF_eq, b0, if_true]
  · have b0 : (!decide ((l.length : Int) ≤ 10)) = false := nF (by omega)
    have e53 := f53_eq l (by omega)
    have e52 := fun m n => f52_eq l m n (by omega)
    have e54 := f54_eq l m n (by omega)
    have e55 := f55_eq l m n (by omega)
    by_cases k1 : wE2 l m n = 0
    · obtain ⟨v1, v2, v3, v4, v5, v6⟩ := valid_rd k1
      have w1 : wrap64 (m - 1) = m - 1 := wrap64_id (by omega) (by omega)
      have w2 : wrap64 (n - 1) = n - 1 := wrap64_id (by omega) (by omega)
      have hm1 : (if (-1000000 : Int) < m - 1 then m - 1 else -1000000) ≤ m ∧ -1000000 ≤ (if (-1000000 : Int) < m - 1 then m - 1 else -1000000) := by split <;> omega
      have hn1 : (if (1 : Int) < n - 1 then n - 1 else 1) ≤ n ∧ 1 ≤ (if (1 : Int) < n - 1 then n - 1 else 1) := by split <;> omega
      have k2 := wE2_lower k1 hm1.2 (by omega) hn1.2 (by omega)
      have k3 := tripV_mono (l := l) hm1.1 hn1.1
      have c0 : (!decide ((0 : Int) = 0)) = false := by decide
      have c1 : ∀ x : Int, (!decide (x = x)) = false := fun x => nF rfl
      have c2 : (!decide (tripV l m n ≤ tripV l (if (-1000000 : Int) < m - 1 then m - 1 else -1000000) (if (1 : Int) < n - 1 then n - 1 else 1))) = false := nF k3
      by_cases k4 : ps.length = 0
      · have c3 : decide ((ps.length : Int) = 0) = true := dT (by omega)
        simp only [f10, t10, Tr.val_test, Tr.val_fin, Tr.val_stop, leF_eq, eqF_eq, b0, e53, g53, e52, g52, e54, g54, e55, g55, k1, k2, decide_true, Bool.not_true, w1, w2, c2, c3, Option.isSome_some, Option.getD_some, if_true, if_false, Bool.false_eq_true]
      · have c3 : decide ((ps.length : Int) = 0) = false := dF (by omega)
        have q := l10 l ps (tripV l m n) m n v5 (by omega) hp v6
        have t1 : cnt (loA l m) l.length ≤ cnt (trA l ps m) l.length := cnt_mono _ fun i hi h => by
          obtain ⟨r1, r2, r3⟩ := v6 i hi
          obtain ⟨m1, m2⟩ := modF_range (a := ps.getD (i % ps.length) 0) (b := (rd l i).2.1 - (rd l i).1 + 1) (by omega) (by omega)
          simp only [loA, trA, Bool.not_eq_true', decide_eq_false_iff_not] at h ⊢
          have ht : trueR l ps i = (rd l i).1 + modF (ps.getD (i % ps.length) 0) ((rd l i).2.1 - (rd l i).1 + 1) := rfl
          omega
        have t2 : cnt (trA l ps m) l.length ≤ cnt (hiA l m) l.length := cnt_mono _ fun i hi h => by
          obtain ⟨r1, r2, r3⟩ := v6 i hi
          obtain ⟨m1, m2⟩ := modF_range (a := ps.getD (i % ps.length) 0) (b := (rd l i).2.1 - (rd l i).1 + 1) (by omega) (by omega)
          simp only [hiA, trA, Bool.not_eq_true', decide_eq_false_iff_not] at h ⊢
          have ht : trueR l ps i = (rd l i).1 + modF (ps.getD (i % ps.length) 0) ((rd l i).2.1 - (rd l i).1 + 1) := rfl
          omega
        simp only [f10, t10, Tr.val_test, Tr.val_fin, Tr.val_stop, leF_eq, eqF_eq, b0, e53, g53, e52, g52, e54, g54, e55, g55, k1, k2, decide_true, Bool.not_true, w1, w2, c2, c3, q, isBrk, b10_0, outB, Option.isSome_some, Option.getD_some, if_true, if_false, Bool.false_eq_true]
        by_cases h1 : n ≤ (cnt (loA l m) l.length : Int)
        · have d1 : tripV l m n = 2 := by unfold tripV; rw [if_pos h1]
          have d2 : decide (n ≤ (cnt (trA l ps m) l.length : Int)) = true := dT (by omega)
          simp [d1, d2]
        · by_cases h2 : n ≤ (cnt (hiA l m) l.length : Int)
          · have d1 : tripV l m n = 1 := by unfold tripV; rw [if_neg h1, if_pos h2]
            simp [d1]
          · have d1 : tripV l m n = 0 := by unfold tripV; rw [if_neg h1, if_neg h2]
            have d2 : ¬ n ≤ (cnt (trA l ps m) l.length : Int) := by omega
            simp [d1, d2]
    · have c0 : (!decide (wE2 l m n = 0)) = true := nT k1
      have c1 : decide (wE2 l m n = wE2 l m n) = true := dT rfl
      simp only [f10, t10, Tr.val_test, Tr.val_fin, Tr.val_stop, leF_eq, eqF_eq, b0, e53, g53, e52, g52, e54, g54, c0, c1, if_neg k1, Option.isSome_some, Option.getD_some, if_true, if_false, Bool.false_eq_true]
      rfl

theorem law10 (d : Tys.data as10) (hw : Tys.Wf as10 d) : Pure1 Go.Proofs.Tryz.prog 10 as10 [.bool] d (true, ()) := by
  have hl : List.length d.2.1 ≤ 9223372036854775807 := hw.2.1.1
  have hp : List.length d.2.2.1 ≤ 9223372036854775807 := hw.2.2.1.1
  have h := f10_eq d.1.1 d.1.2.1 d.2.1 d.2.2.1 hl hp
  have hp : p10.pre d = true := by
    show Option.isSome (f10 d) = true
    rw [show f10 d = some (true, ()) from h]; rfl
  have hg : p10.fn d = (true, ()) := by
    show (f10 d).getD _ = _
    rw [show f10 d = some (true, ()) from h]; rfl
  have := ok10.runs d hp
  rw [hg] at this
  exact this

end Go.Vm.Mo
