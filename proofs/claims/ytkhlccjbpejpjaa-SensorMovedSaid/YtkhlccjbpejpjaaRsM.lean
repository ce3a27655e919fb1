import Derived.Test.YtkhlccjbpejpjaaRsFb
import Derived.Test.YtkhlccjbpejpjaaA4
set_option linter.unusedVariables false
set_option linter.unusedSimpArgs false

namespace Go.Vm.Mo
open Go
set_option linter.unusedVariables false
set_option linter.unusedSimpArgs false

theorem first_map (bad : Nat → Bool) : ∀ (n i : Nat), first bad n (i + 1) = (first (fun k => bad (k + 1)) n i).map (· + 1)
  | 0, _ => rfl
  | n + 1, i => by
    simp only [first]
    split
    · rfl
    · exact first_map bad n (i + 1)

/-- The first that is not 0. -/
def firstNZ : List Int → Int
  | [] => 0
  | a :: l => if a = 0 then firstNZ l else a

theorem firstNZ_eq : ∀ l : List Int, (match first (fun i => !decide (l.getD i 0 = 0)) l.length 0 with
    | some k => l.getD k 0
    | none => 0) = firstNZ l
  | [] => rfl
  | a :: l => by
    simp only [List.length, first, firstNZ]
    by_cases ha : a = 0
    · subst ha
      have e := firstNZ_eq l
      have hf : first (fun i => !decide (((0 : Int) :: l).getD i 0 = 0)) l.length (0 + 1) = (first (fun i => !decide (l.getD i 0 = 0)) l.length 0).map (· + 1) := by
        rw [first_map]; rfl
      simp only [hf, List.getD_cons_zero, decide_true, Bool.not_true, Bool.false_eq_true, if_false, if_true]
      rw [← e]
      cases first (fun i => !decide (l.getD i 0 = 0)) l.length 0 with
      | none => rfl
      | some k => rfl
    · simp [ha]

theorem l88 (l : List Int) (h : l.length ≤ 1000000000) : l88_0 ((l, (l.length : Int), (0 : Int), ()), ()) = match first (fun i => !decide (l.getD i 0 = 0)) l.length 0 with
    | some k => some (.inr ((l.getD k 0, ()), ()))
    | none => some (.inl ((), ())) := by
  refine itr_search (fun i => ((l, (l.length : Int), (i : Int), ()), ())) (fun i => !decide (l.getD i 0 = 0)) (fun k => ((l.getD k 0, ()), ())) (n := l.length) ?_ ?_ (lt_rounds (by omega))
  · intro i hi
    simp only [s88_0, t88_0, Tr.val_test, leF_eq, eqF_eq]
    rw [if_pos (by simp; omega), if_pos (by simp; omega)]
    simp only [Int.toNat_natCast, wrap64_nat (show i ≤ 9223372036854775806 by omega)]
    rfl
  · simp [s88_0, t88_0, leF_eq]

theorem f88_eq (l : List Int) (h : l.length ≤ 1000000000) : f88 (l, ()) = some (firstNZ l, ()) := by
  simp only [f88, t88, Tr.val_test, r88_0, l88 l h, ← firstNZ_eq l]
  cases first (fun i => !decide (l.getD i 0 = 0)) l.length 0 with
  | none => rfl
  | some k => rfl

theorem f86_eq (d : Tys.data as86) : f86 d = some (if d.1 = true then d.2.1 else (0 : Int), ()) := by
  simp only [f86, t86, Tr.val_test]
  split <;> rfl

def wi (lo hi x : Int) : Bool := decide (lo ≤ x) && decide (x ≤ hi)

theorem wi_iff {lo hi x : Int} : wi lo hi x = true ↔ lo ≤ x ∧ x ≤ hi := by simp [wi]

theorem f22_eq (d : Tys.data as22) : f22 d = some (wi d.2.1 d.2.2.1 d.1, ()) := by
  simp only [f22, t22, Tr.val_test, Tr.val_fin, leF_eq, decide_eq_true_eq, wi]
  split <;> simp [*]

theorem l100 (lo hi : Int) (l : List Int) (h : l.length ≤ 1000000000) : l100_0 ((lo, hi, l, (l.length : Int), (0 : Int), ()), ()) = match first (fun i => !wi lo hi (l.getD i 0)) l.length 0 with
    | some _ => some (.inr ((false, ()), ()))
    | none => some (.inl ((), ())) := by
  refine itr_search (fun i => ((lo, hi, l, (l.length : Int), (i : Int), ()), ())) (fun i => !wi lo hi (l.getD i 0)) (fun _ => ((false, ()), ())) (n := l.length) ?_ ?_ (lt_rounds (by omega))
  · intro i hi'
    simp only [s100_0, t100_0, Tr.val_test, Tr.val_fin, leF_eq, Int.toNat_natCast, wrap64_nat (show i ≤ 9223372036854775806 by omega)]
    rw [if_pos (by simp; omega), if_pos (by simp; omega)]
    by_cases a0 : lo ≤ l.getD i 0
    · by_cases a1 : l.getD i 0 ≤ hi
      · simp only [wi, a0, a1, decide_true, Bool.and_self, Bool.not_true, if_true, if_false, Bool.false_eq_true]
      · simp only [wi, a0, a1, decide_true, decide_false, Bool.and_false, Bool.not_false, Bool.not_true, if_true, if_false, Bool.false_eq_true]
    · simp only [wi, a0, decide_false, Bool.false_and, Bool.not_false, if_true, if_false, Bool.false_eq_true]
  · simp [s100_0, t100_0, leF_eq]

theorem f100_eq (lo hi : Int) (l : List Int) (h : l.length ≤ 1000000000) : f100 (lo, hi, l, ()) = some ((first (fun i => !wi lo hi (l.getD i 0)) l.length 0).isNone, ()) := by
  have hl := l100 lo hi l h
  cases hf : first (fun i => !wi lo hi (l.getD i 0)) l.length 0 with
  | none =>
    rw [hf] at hl
    simp only [f100, t100, Tr.val_test, Tr.val_fin, hl, isRet, Option.isSome_some, Option.isNone_none, if_true, Bool.false_eq_true, if_false]
  | some k =>
    rw [hf] at hl
    simp only [f100, t100, Tr.val_test, Tr.val_fin, hl, isRet, r100_0, outR, Option.isSome_some, Option.isNone_some, if_true]

theorem f100_one (lo hi a : Int) : f100 (lo, hi, [a], ()) = some (wi lo hi a, ()) := by
  rw [f100_eq lo hi _ (by simp)]
  simp only [first, List.length, List.getD_cons_zero]
  by_cases h1 : wi lo hi a = true
  · simp [h1]
  · simp [h1]

theorem f83_eq (n m : Int) : f83 (n, m, ()) = some (if n = 0 then 10 else if ¬ n ≤ m then 8 else 0, ()) := by
  simp only [f83, t83, Tr.val_test, Tr.val_fin, g86, g88, f86_eq, Option.isSome_some, Option.getD_some, if_true]
  rw [f88_eq _ (by simp)]
  simp only [Option.isSome_some, Option.getD_some, if_true, eqF_eq, leF_eq, decide_eq_true_eq, Bool.not_eq_true', decide_eq_false_iff_not, firstNZ]
  by_cases h1 : n = 0
  · simp [h1]
  · by_cases h2 : n ≤ m
    · simp [h1, h2]
    · simp [h1, h2]

theorem f14_eq (l : List Int) (h : l.length ≤ 1000) : f14 (l, ()) = some (l, ()) := by
  simp only [f14, t14, Tr.val_test, Tr.val_fin, Tr.val_stop, List.nil_append]
  by_cases h0 : l.length = 0
  · have : l = [] := List.eq_nil_of_length_eq_zero h0
    subst this; rfl
  · rw [if_neg (by rw [beq_eq_true']; exact h0), if_neg (by rw [ble_eq_true']; omega), if_pos (by simp only [Bool.and_eq_true, ble_eq_true']; omega), if_pos (by rw [beq_eq_true']; omega)]

def rawF (l : List Int) : Option Nat := first (fun i => !wi (-100000) 100000 (l.getD i 0)) l.length 0
def rawK (l : List Int) : Int × Int := if l.length = 0 then (0, 10) else if 60 < l.length then (0, 8) else match rawF l with
  | some k => ((k : Int), 2)
  | none => (0, 0)
def rawE (l : List Int) : Int := (rawK l).2

theorem wn64 {x : Int} (h1 : -9223372036854775807 ≤ x) (h2 : x ≤ 9223372036854775807) : IntKind.wrap .i64 (0 - x) = -x := by
  rw [← wrap64_eq, wrap64_id (by omega) (by omega)]
  omega

theorem f87_one (b x : Int) (h0 : 0 ≤ b) (h1 : b ≤ 9223372036854775807) : f87 (b, [x], ()) = some (!wi (-b) b x, ()) := by
  have e := f100_one (-b) b x
  simp only [f87, t87, Tr.val_test, Tr.val_fin, g100, wn64 (show -9223372036854775807 ≤ b by omega) h1, e, Option.isSome_some, Option.getD_some, if_true]

theorem l84 (l : List Int) (h : l.length ≤ 1000000000) : l84_0 ((l, (l.length : Int), (0 : Int), ()), ()) = match rawF l with
    | some k => some (.inr (((k : Int), (2 : Int), ()), ()))
    | none => some (.inl ((), ())) := by
  refine itr_search (fun i => ((l, (l.length : Int), (i : Int), ()), ())) (fun i => !wi (-100000) 100000 (l.getD i 0)) (fun k => (((k : Int), (2 : Int), ()), ())) (n := l.length) ?_ ?_ (lt_rounds (by omega))
  · intro i hi
    simp only [s84_0, t84_0, Tr.val_test, Tr.val_fin, Tr.val_stop, leF_eq, eqF_eq, Int.toNat_natCast, wrap64_nat (show i ≤ 9223372036854775806 by omega)]
    rw [if_pos (by simp; omega), if_pos (by simp; omega)]
    have e := f87_one 100000 (l.getD i 0) (by omega) (by omega)
    simp only [g87, g86, e, f86_eq, Option.isSome_some, Option.getD_some, if_true]
    cases wi (-100000) 100000 (l.getD i 0) <;> simp
  · simp [s84_0, t84_0, leF_eq]

theorem f13_eq (l : List Int) : f13 (l, ()) = some ((rawK l).1, (rawK l).2, ()) := by
  have e0 := f83_eq (l.length : Int) 60
  simp only [f13, t13, Tr.val_test, Tr.val_fin, Tr.val_stop, g83, e0, Option.isSome_some, Option.getD_some, if_true, eqF_eq, rawK]
  by_cases h1 : l.length = 0
  · simp [h1]
  · by_cases h2 : 60 < l.length
    · have e1 : ¬ (l.length : Int) = 0 := by omega
      have e2 : ¬ (l.length : Int) ≤ 60 := by omega
      simp [h1, h2, e1, e2]
    · have e1 : ¬ (l.length : Int) = 0 := by omega
      have e2 : (l.length : Int) ≤ 60 := by omega
      have hl := l84 l (by omega)
      simp only [h1, h2, e1, e2, not_true_eq_false, if_false, decide_true, Bool.not_true, Bool.false_eq_true]
      cases hf : rawF l with
      | none =>
        rw [hf] at hl
        simp only [hl, isRet, Option.isSome_some, if_true, Bool.false_eq_true, if_false]
      | some k =>
        rw [hf] at hl
        simp only [hl, isRet, r84_0, outR, Option.isSome_some, if_true]

theorem f90_eq (l : List Int) : f90 (l, ()) = some (rawE l, ()) := by
  have e := f13_eq l
  simp only [f90, t90, Tr.val_test, Tr.val_fin, Tr.val_stop, g13, e, Option.isSome_some, Option.getD_some, if_true, rawE]

theorem l19 (l : List Int) (h : l.length ≤ 1000000000) : l19_0 ((l, (0 : Int), ()), ()) = match rawF l with
    | some k => some (.inr (((k : Int), (2 : Int), ()), ()))
    | none => some (.inl ((), ())) := by
  refine itr_search (fun i => ((l, (i : Int), ()), ())) (fun i => !wi (-100000) 100000 (l.getD i 0)) (fun k => (((k : Int), (2 : Int), ()), ())) (n := l.length) ?_ ?_ (lt_rounds (by omega))
  · intro i hi
    simp only [s19_0, t19_0, Tr.val_test, Tr.val_fin, Tr.val_stop, leF_eq, eqF_eq, Int.toNat_natCast, wrap64_nat (show i ≤ 9223372036854775806 by omega)]
    rw [if_pos (by simp; omega), if_pos (by simp; omega)]
    simp only [g22, f22_eq, Option.isSome_some, Option.getD_some, if_true]
  · simp [s19_0, t19_0, leF_eq]

theorem f19_eq (l : List Int) : f19 (l, ()) = some ((rawK l).1, (rawK l).2, ()) := by
  simp only [f19, t19, Tr.val_test, Tr.val_fin, Tr.val_stop, eqF_eq, leF_eq, rawK]
  by_cases h1 : l.length = 0
  · simp [h1]
  · by_cases h2 : 60 < l.length
    · have e1 : ¬ (l.length : Int) = 0 := by omega
      have e2 : ¬ (l.length : Int) ≤ 60 := by omega
      simp [h1, h2, e1, e2]
    · have e1 : ¬ (l.length : Int) = 0 := by omega
      have e2 : (l.length : Int) ≤ 60 := by omega
      have hl := l19 l (by omega)
      simp only [h1, h2, e1, e2, if_false, decide_true, decide_false, Bool.not_true, Bool.false_eq_true]
      cases hf : rawF l with
      | none =>
        rw [hf] at hl
        simp only [hl, isRet, Option.isSome_some, if_true, Bool.false_eq_true, if_false]
      | some k =>
        rw [hf] at hl
        simp only [hl, isRet, r19_0, outR, Option.isSome_some, if_true]

theorem f34_eq (l : List Int) : f34 (l, ()) = some (rawE l, ()) := by
  have e := f19_eq l
  simp only [f34, t34, Tr.val_test, Tr.val_fin, Tr.val_stop, g19, e, Option.isSome_some, Option.getD_some, if_true, rawE]

theorem rawE_ok {l : List Int} (h : rawE l = 0) : 0 < l.length ∧ l.length ≤ 60 ∧ ∀ i, -100000 ≤ l.getD i 0 ∧ l.getD i 0 ≤ 100000 := by
  unfold rawE rawK at h
  split at h
  · cases h
  · split at h
    · cases h
    · refine ⟨by omega, by omega, fun i => ?_⟩
      cases hf : rawF l with
      | some k => rw [hf] at h; cases h
      | none =>
        by_cases hi : i < l.length
        · have := first_none hf i (Nat.zero_le _) (by omega)
          have : wi (-100000) 100000 (l.getD i 0) = true := by simpa using this
          rwa [wi_iff] at this
        · have : l.getD i 0 = 0 := by simp [List.getD, List.getElem?_eq_none (Nat.le_of_not_lt hi)]
          omega

/-! Channels. -/

abbrev ch (c : List (List Int)) (i : Nat) : List Int := c.getD i []

theorem f88_two (a b : Int) : f88 ([a, b], ()) = some (if a = 0 then b else a, ()) := by
  rw [f88_eq _ (by simp)]
  simp only [firstNZ]
  by_cases h : a = 0
  · by_cases h2 : b = 0
    · simp [h, h2]
    · simp [h, h2]
  · simp [h]

/-! Copies; how many samples. -/

theorem f12_eq (l : List Int) : f12 (l, ()) = some (decide ((l.length : Int) ≤ 62), ()) := by
  simp only [f12, t12, Tr.val_fin, leF_eq]

def fitF (c : List (List Int)) : Option Nat := first (fun i => !decide (((ch c i).length : Int) ≤ 62)) c.length 0

def fits (c : List (List Int)) : Bool := (fitF c).isNone && decide ((c.length : Int) ≤ 9)

end Go.Vm.Mo

namespace Go.Vm.Mo
open Go
set_option linter.unusedVariables false
set_option linter.unusedSimpArgs false

/-- The voters among the first channels. -/
def vote (c : List (List Int)) (b : Int) (s : Nat) : Nat → List Int
  | 0 => []
  | i + 1 => if wi (-b) b ((ch c i).getD s 0) = true then vote c b s i else vote c b s i ++ [(i : Int)]

def run (g : Nat → Bool) : Nat → Nat
  | 0 => 0
  | s + 1 => if g s = true then run g s + 1 else 0

abbrev at0 (l : List Int) (i : Nat) : Int := l.getD i 0

def Bs (l : List Int) : Prop := l.length ≤ 60 ∧ ∀ i, -100000 ≤ at0 l i ∧ at0 l i ≤ 100000

theorem rawE_bs {l : List Int} (h : rawE l = 0) : Bs l := by
  obtain ⟨_, h2, h3⟩ := rawE_ok h
  exact ⟨h2, h3⟩

theorem mul_bd {x y : Int} (hx : -100000 ≤ x ∧ x ≤ 100000) (hy : -100000 ≤ y ∧ y ≤ 100000) : -10000000000 ≤ x * y ∧ x * y ≤ 10000000000 := by
  have h : (x * y).natAbs ≤ 100000 * 100000 := by
    rw [Int.natAbs_mul]
    exact Nat.mul_le_mul (by omega) (by omega)
  omega

def inB (b : List Int) (k : Int) : Bool := wi 0 ((b.length : Int) - 1) k

def sumN (a b : List Int) (s : Int) : Nat → Int
  | 0 => 0
  | i + 1 => if inB b ((i : Int) + s) = true then sumN a b s i + at0 a i * at0 b ((i : Int) + s).toNat else sumN a b s i

theorem sumN_bd {a b : List Int} (ha : Bs a) (hb : Bs b) (s : Int) : ∀ i : Nat, -(10000000000 * (i : Int)) ≤ sumN a b s i ∧ sumN a b s i ≤ 10000000000 * (i : Int)
  | 0 => by simp [sumN]
  | i + 1 => by
    have ih := sumN_bd ha hb s i
    have := mul_bd (ha.2 i) (hb.2 ((i : Int) + s).toNat)
    simp only [sumN]
    split <;> omega

theorem l106 (a b : List Int) (s : Int) (ha : Bs a) (hb : Bs b) (hs : -1000 ≤ s ∧ s ≤ 1000) : l106_0 ((b, s, (0 : Int), a, (a.length : Int), (0 : Int), ()), ()) = some (.inl ((sumN a b s a.length, ()), ())) := by
  have hla := ha.1
  have hlb := hb.1
  have := itr_brk (step := s106_0) (fun i => ((b, s, sumN a b s i, a, (a.length : Int), (i : Int), ()), ())) (n := a.length) (m := rounds) (b := ((sumN a b s a.length, ()), ())) ?_ ?_ (lt_rounds (by omega))
  · exact this
  · intro i hi
    have h1 := sumN_bd ha hb s i
    have h2 := mul_bd (ha.2 i) (hb.2 ((i : Int) + s).toNat)
    have w1 : wrap64 ((b.length : Int) - 1) = (b.length : Int) - 1 := wrap64_id (by omega) (by omega)
    have w2 : wrap64 ((i : Int) + s) = (i : Int) + s := wrap64_id (by omega) (by omega)
    have w3 : wrap64 (at0 a i * at0 b ((i : Int) + s).toNat) = at0 a i * at0 b ((i : Int) + s).toNat := wrap64_id (by omega) (by omega)
    have w4 : wrap64 (sumN a b s i + at0 a i * at0 b ((i : Int) + s).toNat) = sumN a b s i + at0 a i * at0 b ((i : Int) + s).toNat := wrap64_id (by omega) (by omega)
    have e1 := f100_one 0 ((b.length : Int) - 1) ((i : Int) + s)
    simp only [at0] at w3 w4
    simp only [s106_0, t106_0, Tr.val_test, Tr.val_fin, Tr.val_stop, leF_eq, Int.toNat_natCast, wrap64_nat (show i ≤ 9223372036854775806 by omega), w1, w2, w3, w4]
    rw [if_pos (by simp; omega), if_pos (by simp; omega)]
    simp only [g100, e1, Option.isSome_some, Option.getD_some, if_true, sumN, inB, at0]
    by_cases hm : wi 0 ((b.length : Int) - 1) ((i : Int) + s) = true
    · have hm2 := wi_iff.1 hm
      simp only [hm, if_true]
      rw [if_pos (by simp only [Bool.and_eq_true, decide_eq_true_eq]; omega)]
    · simp only [hm, if_false, Bool.false_eq_true]
  · simp [s106_0, t106_0, leF_eq]

theorem f106_eq (a b : List Int) (s : Int) (ha : Bs a) (hb : Bs b) (hs : -1000 ≤ s ∧ s ≤ 1000) : f106 (a, b, s, ()) = some (sumN a b s a.length, ()) := by
  simp only [f106, t106, Tr.val_test, Tr.val_fin, Tr.val_stop, l106 a b s ha hb hs, isBrk, b106_0, outB, if_true]

theorem l40 (a b : List Int) (s : Int) (ha : Bs a) (hb : Bs b) (hs : -1000 ≤ s ∧ s ≤ 1000) : l40_0 ((a, b, s, (0 : Int), (0 : Int), ()), ()) = some (.inl ((sumN a b s a.length, ()), ())) := by
  have hla := ha.1
  have hlb := hb.1
  have := itr_brk (step := s40_0) (fun i => ((a, b, s, sumN a b s i, (i : Int), ()), ())) (n := a.length) (m := rounds) (b := ((sumN a b s a.length, ()), ())) ?_ ?_ (lt_rounds (by omega))
  · exact this
  · intro i hi
    have h1 := sumN_bd ha hb s i
    have h2 := mul_bd (ha.2 i) (hb.2 ((i : Int) + s).toNat)
    have w1 : wrap64 ((b.length : Int) - 1) = (b.length : Int) - 1 := wrap64_id (by omega) (by omega)
    have w2 : wrap64 ((i : Int) + s) = (i : Int) + s := wrap64_id (by omega) (by omega)
    have w3 : wrap64 (at0 a i * at0 b ((i : Int) + s).toNat) = at0 a i * at0 b ((i : Int) + s).toNat := wrap64_id (by omega) (by omega)
    have w4 : wrap64 (sumN a b s i + at0 a i * at0 b ((i : Int) + s).toNat) = sumN a b s i + at0 a i * at0 b ((i : Int) + s).toNat := wrap64_id (by omega) (by omega)
    simp only [at0] at w3 w4
    simp only [s40_0, t40_0, Tr.val_test, Tr.val_fin, Tr.val_stop, leF_eq, Int.toNat_natCast, wrap64_nat (show i ≤ 9223372036854775806 by omega), w1, w2, w3, w4]
    rw [if_pos (by simp; omega)]
    simp only [g22, f22_eq, Option.isSome_some, Option.getD_some, if_true, sumN, inB, at0]
    by_cases hm : wi 0 ((b.length : Int) - 1) ((i : Int) + s) = true
    · have hm2 := wi_iff.1 hm
      simp only [hm, if_true]
      rw [if_pos (by simp only [Bool.and_eq_true, decide_eq_true_eq]; omega), if_pos (by simp only [Bool.and_eq_true, decide_eq_true_eq]; omega)]
    · simp only [hm, if_false, Bool.false_eq_true]
  · simp [s40_0, t40_0, leF_eq]

theorem f40_eq (a b : List Int) (s : Int) (ha : Bs a) (hb : Bs b) (hs : -1000 ≤ s ∧ s ≤ 1000) : f40 (a, b, s, ()) = some (sumN a b s a.length, ()) := by
  simp only [f40, t40, Tr.val_test, Tr.val_fin, Tr.val_stop, l40 a b s ha hb hs, isBrk, b40_0, outB, if_true]

/-! The shift. -/

/-- A shift's rank: its sum first, then its size, then its sign. -/
def tie (s : Int) : Int := 2 * (s.natAbs : Int) + (if 0 < s then 1 else 0)
def rank (S : Int → Int) (s : Int) : Int := S s * 100 - tie s

def stepB (S : Int → Int) (best s : Int) : Int := if S best < S s then s else best
def pickB (S : Int → Int) : Nat → Int
  | 0 => 0
  | k + 1 => stepB S (stepB S (pickB S k) (-((k : Int) + 1))) ((k : Int) + 1)

theorem stepB_rank {S : Int → Int} {best s : Int} (h1 : tie best < tie s) (h2 : tie s < 100) (h3 : 0 ≤ tie best) : rank S best ≤ rank S (stepB S best s) ∧ rank S s ≤ rank S (stepB S best s) ∧ (stepB S best s = best ∨ stepB S best s = s) := by
  unfold stepB rank
  by_cases h : S best < S s
  · rw [if_pos h]; exact ⟨by omega, by omega, .inr rfl⟩
  · rw [if_neg h]; exact ⟨by omega, by omega, .inl rfl⟩

theorem tie_lt {s t : Int} (h : s.natAbs < t.natAbs) : tie s < tie t := by unfold tie; split <;> split <;> omega
theorem tie_neg {k : Nat} : tie (-((k : Int) + 1)) < tie ((k : Int) + 1) := by unfold tie; split <;> split <;> omega
theorem tie_nn (s : Int) : 0 ≤ tie s := by unfold tie; split <;> omega
theorem tie_le {s : Int} {n : Nat} (h : s.natAbs ≤ n) : tie s ≤ 2 * (n : Int) + 1 := by unfold tie; split <;> omega

theorem pickB_best (S : Int → Int) : ∀ k : Nat, k ≤ 20 → (pickB S k).natAbs ≤ k ∧ ∀ s : Int, s.natAbs ≤ k → rank S s ≤ rank S (pickB S k)
  | 0, _ => ⟨by simp [pickB], fun s hs => by
    have : s = 0 := by omega
    subst this; exact Int.le_refl _⟩
  | k + 1, hk => by
    obtain ⟨h1, h2⟩ := pickB_best S k (by omega)
    have t1 : tie (pickB S k) < tie (-((k : Int) + 1)) := tie_lt (by omega)
    have t2 : tie (-((k : Int) + 1)) < 100 := by have := tie_le (s := -((k : Int) + 1)) (n := 21) (by omega); omega
    obtain ⟨a1, a2, a3⟩ := stepB_rank (S := S) t1 t2 (tie_nn _)
    have t3 : tie (stepB S (pickB S k) (-((k : Int) + 1))) < tie ((k : Int) + 1) := by
      have := tie_neg (k := k)
      rcases a3 with e | e <;> rw [e] <;> omega
    have t4 : tie ((k : Int) + 1) < 100 := by have := tie_le (s := (k : Int) + 1) (n := 21) (by omega); omega
    obtain ⟨b1, b2, b3⟩ := stepB_rank (S := S) t3 t4 (tie_nn _)
    simp only [pickB]
    constructor
    · rcases b3 with e | e
      · rw [e]; rcases a3 with e | e <;> rw [e] <;> omega
      · rw [e]; omega
    · intro s hs
      by_cases c1 : s = (k : Int) + 1
      · subst c1; exact b2
      · by_cases c2 : s = -((k : Int) + 1)
        · subst c2; exact Int.le_trans a2 b1
        · exact Int.le_trans (h2 s (by omega)) (Int.le_trans a1 b1)

theorem rank_sum {S : Int → Int} {s t : Int} (hs : s.natAbs ≤ 20) (ht : t.natAbs ≤ 20) (h : rank S s ≤ rank S t) : S s ≤ S t := by
  have h1 := tie_le hs
  have h2 := tie_le ht
  have h3 := tie_nn s
  have h4 := tie_nn t
  unfold rank at h
  omega

abbrev S2 (a b : List Int) (s : Int) : Int := sumN a b s a.length

theorem l31in (a b : List Int) (m best x : Int) (k : Nat) (ha : Bs a) (hb : Bs b) (hk : k ≤ 20) (hx : x = S2 a b best) :
    l31_2 ((a, b, m, best, x, ((k + 1 : Nat) : Int), ((2 : Nat), (2 : Nat)), (2 : Int), (0 : Int), ()), [-((k : Int) + 1), (k : Int) + 1], ()) = some (.inl ((a, b, m, stepB (S2 a b) (stepB (S2 a b) best (-((k : Int) + 1))) ((k : Int) + 1), S2 a b (stepB (S2 a b) (stepB (S2 a b) best (-((k : Int) + 1))) ((k : Int) + 1)), ((k + 1 : Nat) : Int), ()), [-((k : Int) + 1), (k : Int) + 1], ())) := by
  subst hx
  let B : Nat → Int := fun i => match i with
    | 0 => best
    | 1 => stepB (S2 a b) best (-((k : Int) + 1))
    | _ => stepB (S2 a b) (stepB (S2 a b) best (-((k : Int) + 1))) ((k : Int) + 1)
  have e1 := f106_eq a b (-((k : Int) + 1)) ha hb (by omega)
  have e2 := f106_eq a b ((k : Int) + 1) ha hb (by omega)
  refine itr_brk (fun i => ((a, b, m, B i, S2 a b (B i), ((k + 1 : Nat) : Int), ((2 : Nat), (2 : Nat)), (2 : Int), (i : Int), ()), [-((k : Int) + 1), (k : Int) + 1], ())) (n := 2) ?_ ?_ (lt_rounds (by omega))
  · intro i hi
    simp only [s31_2, t31_2, Tr.val_test, Tr.val_fin, Tr.val_stop, leF_eq, Int.toNat_natCast, wrap64_nat (show i ≤ 9223372036854775806 by omega)]
    rw [if_pos (by simp; omega), if_pos (by simp; omega), if_pos (by simp only [ble_eq_true', List.length]; omega)]
    match i, hi with
    | 0, _ =>
      simp only [Nat.zero_add, List.getD_cons_zero, g106, e1, Option.isSome_some, Option.getD_some, if_true, B, stepB]
      by_cases h : sumN a b best a.length < sumN a b (-((k : Int) + 1)) a.length
      · have h' : ¬ sumN a b (-((k : Int) + 1)) a.length ≤ sumN a b best a.length := by omega
        simp only [h, h', S2, decide_false, Bool.not_false, if_true]
      · have h' : sumN a b (-((k : Int) + 1)) a.length ≤ sumN a b best a.length := by omega
        simp only [h, h', S2, decide_true, Bool.not_true, if_false, Bool.false_eq_true]
    | 1, _ =>
      simp only [Nat.zero_add, List.getD_cons_zero, List.getD_cons_succ, g106, e2, Option.isSome_some, Option.getD_some, if_true, B]
      generalize stepB (S2 a b) best (-((k : Int) + 1)) = q
      simp only [stepB]
      by_cases h : sumN a b q a.length < sumN a b ((k : Int) + 1) a.length
      · have h' : ¬ sumN a b ((k : Int) + 1) a.length ≤ sumN a b q a.length := by omega
        simp only [h, h', S2, decide_false, Bool.not_false, if_true]
      · have h' : sumN a b ((k : Int) + 1) a.length ≤ sumN a b q a.length := by omega
        simp only [h, h', S2, decide_true, Bool.not_true, if_false, Bool.false_eq_true]
  · simp only [s31_2, t31_2, Tr.val_test, Tr.val_fin, Tr.val_stop, leF_eq]
    rw [if_neg (by simp)]
    rfl

theorem l31 (a b : List Int) (m : Nat) (ha : Bs a) (hb : Bs b) (hm : m ≤ 20) :
    l31_0 ((a, b, (m : Int), (0 : Int), S2 a b 0, (1 : Int), ()), ()) = some (.inl ((pickB (S2 a b) m, ()), ())) := by
  refine itr_brk (fun i => ((a, b, (m : Int), pickB (S2 a b) i, S2 a b (pickB (S2 a b) i), ((i + 1 : Nat) : Int), ()), ())) (n := m) ?_ ?_ (lt_rounds (by omega))
  · intro i hi
    have e := l31in a b (m : Int) (pickB (S2 a b) i) _ i ha hb (by omega) rfl
    have hw : wrap64 (((i + 1 : Nat) : Int) + 1) = ((i + 1 + 1 : Nat) : Int) := wrap64_nat (by omega)
    have hn : IntKind.wrap .i64 (0 - ((i + 1 : Nat) : Int)) = -((i : Int) + 1) := by rw [wn64 (by omega) (by omega)]; omega
    have hc : ((i + 1 : Nat) : Int) = (i : Int) + 1 := by omega
    simp only [hc] at e
    simp only [s31_0, t31_0, Tr.val_test, Tr.val_fin, Tr.val_stop, leF_eq, hn]
    rw [if_pos (by simp; omega)]
    simp only [hc, e, isBrk, b31_2, outB, if_true, pickB]
    have hw2 : wrap64 ((i : Int) + 1 + 1) = ((i + 1 + 1 : Nat) : Int) := by rw [← hw, hc]
    simp only [hw2]
  · have : ¬ ((m + 1 : Nat) : Int) ≤ (m : Int) := by omega
    simp only [s31_0, t31_0, Tr.val_test, Tr.val_fin, Tr.val_stop, leF_eq, this, decide_false, if_false, Bool.false_eq_true]

/-! Errors of two channels. -/

def boE (a b : List Int) : Int := if rawE a ≠ 0 then rawE a else if rawE b ≠ 0 then rawE b else if (a.length : Int) = (b.length : Int) then 0 else 13
def shE (a b : List Int) (n m : Int) : Int := if boE a b ≠ 0 then boE a b else if wi 0 m n = true then 0 else 2

theorem f88_three (a b c : Int) : f88 ([a, b, c], ()) = some (if a ≠ 0 then a else if b ≠ 0 then b else c, ()) := by
  rw [f88_eq _ (by simp)]
  simp only [firstNZ]
  by_cases h : a = 0
  · by_cases h2 : b = 0
    · by_cases h3 : c = 0
      · simp [h, h2, h3]
      · simp [h, h2, h3]
    · simp [h, h2]
  · simp [h]

theorem f105_eq (a b : List Int) : f105 (a, b, ()) = some (boE a b, ()) := by
  have e1 := f90_eq a
  have e2 := f90_eq b
  have e3 := f88_three (rawE a) (rawE b) (if (!decide ((a.length : Int) = (b.length : Int))) = true then (13 : Int) else 0)
  simp only [f105, t105, Tr.val_test, Tr.val_fin, Tr.val_stop, g90, g86, g88, e1, e2, e3, f86_eq, eqF_eq, Option.isSome_some, Option.getD_some, if_true, boE]
  by_cases h : (a.length : Int) = (b.length : Int)
  · simp only [h, decide_true, Bool.not_true, Bool.false_eq_true, if_false, if_true]
  · simp only [h, decide_false, Bool.not_false, if_false, if_true]

theorem f37_eq (a b : List Int) (n m : Int) : f37 (a, b, n, m, ()) = some (shE a b n m, ()) := by
  have e1 := f34_eq a
  have e2 := f34_eq b
  simp only [f37, t37, Tr.val_test, Tr.val_fin, Tr.val_stop, g34, g22, e1, e2, f22_eq, eqF_eq, Option.isSome_some, Option.getD_some, if_true, shE, boE]
  by_cases h1 : rawE a = 0
  · by_cases h2 : rawE b = 0
    · by_cases h : (a.length : Int) = (b.length : Int)
      · simp only [h1, h2, h, decide_true, Bool.not_true, Bool.false_eq_true, if_false, if_true, ne_eq, not_true_eq_false]
        cases wi 0 m n <;> rfl
      · simp only [h1, h2, h, decide_true, decide_false, Bool.not_true, Bool.not_false, Bool.false_eq_true, if_false, if_true, ne_eq, not_true_eq_false]
        rfl
    · simp only [h1, h2, decide_true, decide_false, Bool.not_true, Bool.not_false, Bool.false_eq_true, if_false, if_true, ne_eq, not_true_eq_false, not_false_eq_true]
  · simp only [h1, decide_false, Bool.not_false, if_true, ne_eq, not_false_eq_true]

theorem boE_ok {a b : List Int} (h : boE a b = 0) : rawE a = 0 ∧ rawE b = 0 ∧ a.length = b.length := by
  unfold boE at h
  split at h
  · exact absurd h (by assumption)
  · split at h
    · exact absurd h (by assumption)
    · rename_i h1 h2
      split at h
      · rename_i h3; exact ⟨by simpa using h1, by simpa using h2, by omega⟩
      · cases h

theorem shE_ok {a b : List Int} {n m : Int} (h : shE a b n m = 0) : (rawE a = 0 ∧ rawE b = 0 ∧ a.length = b.length) ∧ 0 ≤ n ∧ n ≤ m := by
  unfold shE at h
  split at h
  · exact absurd h (by assumption)
  · rename_i h1
    split at h
    · rename_i h2; exact ⟨boE_ok (by simpa using h1), wi_iff.1 h2⟩
    · cases h

theorem f31_eq (a b : List Int) (m : Int) : f31 (a, b, m, ()) = some (if shE a b m 20 ≠ 0 then ((0 : Int), shE a b m 20, ()) else (pickB (S2 a b) m.toNat, (0 : Int), ())) := by
  have e1 := f100_one 0 20 m
  have e2 := f105_eq a b
  have e3 := f88_two (boE a b) (if (!wi 0 20 m) = true then (2 : Int) else 0)
  have es : (if boE a b = 0 then (if (!wi 0 20 m) = true then (2 : Int) else 0) else boE a b) = shE a b m 20 := by
    unfold shE
    by_cases h : boE a b = 0
    · simp only [h, if_true, ne_eq, not_true_eq_false, if_false]
      cases wi 0 20 m <;> rfl
    · simp only [h, if_false, ne_eq, not_false_eq_true, if_true]
  rw [es] at e3
  simp only [f31, t31, Tr.val_test, Tr.val_fin, Tr.val_stop, g100, g105, g86, g88, e1, e2, e3, f86_eq, eqF_eq, Option.isSome_some, Option.getD_some, if_true]
  by_cases h : shE a b m 20 = 0
  · obtain ⟨⟨r1, r2, r3⟩, r4, r5⟩ := shE_ok h
    obtain ⟨M, rfl⟩ : ∃ M : Nat, m = (M : Int) := ⟨m.toNat, by omega⟩
    have e4 := f106_eq a b 0 (rawE_bs r1) (rawE_bs r2) (by omega)
    have e5 := l31 a b M (rawE_bs r1) (rawE_bs r2) (by omega)
    simp only [S2] at e5
    simp only [h, decide_true, Bool.not_true, Bool.false_eq_true, if_false, ne_eq, not_true_eq_false, g106, e4, e5, Option.isSome_some, Option.getD_some, if_true, isBrk, b31_0, outB, Int.toNat_natCast]
  · simp only [h, decide_false, Bool.not_false, if_true, ne_eq, not_false_eq_true]

/-! Curves, and strange samples. -/

def crv (l : List Int) : Nat → List Int
  | 0 => []
  | i + 1 => crv l i ++ [wrap64 (wrap64 (at0 l i - wrap64 (2 * at0 l (i + 1))) + at0 l (i + 2))]

theorem crv_len (l : List Int) : ∀ n, (crv l n).length = n
  | 0 => rfl
  | n + 1 => by simp [crv, crv_len l n]

theorem crv_get (l : List Int) : ∀ {n i : Nat}, i < n → at0 (crv l n) i = wrap64 (wrap64 (at0 l i - wrap64 (2 * at0 l (i + 1))) + at0 l (i + 2))
  | n + 1, i, hi => by
    simp only [crv]
    by_cases h : i < n
    · have := crv_get l h
      rw [← this]
      simp only [at0, List.getD, List.getElem?_append_left (show i < (crv l n).length by rw [crv_len]; exact h)]
    · have : i = n := by omega
      subst this
      simp only [at0, List.getD]
      rw [List.getElem?_append_right (by rw [crv_len]; exact Nat.le_refl _), crv_len]
      simp

theorem crv_at {l : List Int} (hl : Bs l) {n i : Nat} (h : i < n) : at0 (crv l n) i = at0 l i - 2 * at0 l (i + 1) + at0 l (i + 2) := by
  have h1 := hl.2 i
  have h2 := hl.2 (i + 1)
  have h3 := hl.2 (i + 2)
  rw [crv_get l h, wrap64_id (n := 2 * at0 l (i + 1)) (by omega) (by omega), wrap64_id (n := at0 l i - 2 * at0 l (i + 1)) (by omega) (by omega), wrap64_id (by omega) (by omega)]

theorem l107 (l : List Int) (h : l.length ≤ 1000) : l107_0 ((l, [], (1 : Int), ()), ()) = some (.inl ((crv l (l.length - 2), ()), ())) := by
  refine itr_brk (fun i => ((l, crv l i, ((i + 1 : Nat) : Int), ()), ())) (n := l.length - 2) ?_ ?_ (lt_rounds (by omega))
  · intro i hi
    have w0 : wrap64 ((l.length : Int) - 1) = (l.length : Int) - 1 := wrap64_id (by omega) (by omega)
    have w1 : wrap64 (((i + 1 : Nat) : Int) - 1) = (i : Int) := by rw [wrap64_id (by omega) (by omega)]; omega
    have w2 : wrap64 (((i + 1 : Nat) : Int) + 1) = ((i + 1 + 1 : Nat) : Int) := wrap64_nat (by omega)
    have hc := crv_len l i
    simp only [s107_0, t107_0, Tr.val_test, Tr.val_fin, Tr.val_stop, leF_eq, w0, w1, w2, Int.toNat_natCast]
    rw [if_pos (by simp; omega), if_pos (by simp; omega), if_pos (by simp; omega), if_pos (by simp; omega), if_pos (by simp only [Bool.and_eq_true, ble_eq_true']; omega)]
    rfl
  · have w0 : wrap64 ((l.length : Int) - 1) = (l.length : Int) - 1 := wrap64_id (by omega) (by omega)
    simp only [s107_0, t107_0, Tr.val_test, Tr.val_fin, Tr.val_stop, leF_eq, w0]
    rw [if_neg (by simp; omega)]

theorem f107_eq (l : List Int) (h : l.length ≤ 1000) : f107 (l, ()) = some (crv l (l.length - 2), ()) := by
  simp only [f107, t107, Tr.val_test, Tr.val_fin, Tr.val_stop, l107 l h, isBrk, b107_0, outB, if_true]

def cuE (l : List Int) : Int := if rawE l ≠ 0 then rawE l else if l.length < 3 then 12 else 0

theorem f32_eq (l : List Int) (h : l.length ≤ 1000) : f32 (l, ()) = some (if cuE l ≠ 0 then (([] : List Int), cuE l, ()) else (crv l (l.length - 2), (0 : Int), ())) := by
  have e1 := f107_eq l h
  have e2 := f90_eq l
  have e3 := f88_two (rawE l) (if decide (((crv l (l.length - 2)).length : Int) = 0) = true then (12 : Int) else 0)
  have hc := crv_len l (l.length - 2)
  have ec : (if rawE l = 0 then (if decide (((crv l (l.length - 2)).length : Int) = 0) = true then (12 : Int) else 0) else rawE l) = cuE l := by
    unfold cuE
    by_cases h1 : rawE l = 0
    · simp only [h1, if_true, ne_eq, not_true_eq_false, if_false, decide_eq_true_eq]
      by_cases h2 : l.length < 3
      · rw [if_pos (by omega), if_pos h2]
      · rw [if_neg (by omega), if_neg h2]
    · simp only [h1, if_false, ne_eq, not_false_eq_true, if_true]
  rw [ec] at e3
  simp only [f32, t32, Tr.val_test, Tr.val_fin, Tr.val_stop, g107, g90, g86, g88, e1, e2, e3, f86_eq, eqF_eq, Option.isSome_some, Option.getD_some, if_true]
  by_cases h1 : cuE l = 0
  · simp only [h1, decide_true, Bool.not_true, Bool.false_eq_true, if_false, ne_eq, not_true_eq_false]
  · simp only [h1, decide_false, Bool.not_false, if_true, ne_eq, not_false_eq_true]

/-- Strange samples among the first ones. -/
def strg (c b : List Int) (o : Int) : Nat → List Int
  | 0 => []
  | i + 1 => if wi (-o) o (at0 c i - at0 b (i + 1)) = true then strg c b o i else strg c b o i ++ [(i : Int) + 1]

theorem strg_len (c b : List Int) (o : Int) : ∀ i, (strg c b o i).length ≤ i
  | 0 => Nat.le_refl _
  | i + 1 => by
    have := strg_len c b o i
    simp only [strg]
    split
    · omega
    · simp; omega

def Cs (c : List Int) : Prop := ∀ i, -400000 ≤ at0 c i ∧ at0 c i ≤ 400000

theorem crv_cs {l : List Int} (hl : Bs l) (n : Nat) : Cs (crv l n) := by
  intro i
  by_cases h : i < n
  · rw [crv_at hl h]
    have h1 := hl.2 i
    have h2 := hl.2 (i + 1)
    have h3 := hl.2 (i + 2)
    omega
  · have : at0 (crv l n) i = 0 := by simp [at0, List.getD, List.getElem?_eq_none (show (crv l n).length ≤ i by rw [crv_len]; omega)]
    omega

theorem l33 (c b : List Int) (o : Int) (hc : c.length ≤ 1000) (hC : Cs c) (hb : Bs b) (hbl : c.length + 1 ≤ b.length ∨ c.length = 0) (h0 : 0 ≤ o) (h1 : o ≤ 1000000) :
    l33_0 ((b, o, [], c, (c.length : Int), (0 : Int), ()), ()) = some (.inl ((strg c b o c.length, ()), ())) := by
  refine itr_brk (fun i => ((b, o, strg c b o i, c, (c.length : Int), (i : Int), ()), ())) (n := c.length) ?_ ?_ (lt_rounds (by omega))
  · intro i hi
    have k1 := hC i
    have k2 := hb.2 (i + 1)
    have w1 : wrap64 ((i : Int) + 1) = ((i + 1 : Nat) : Int) := wrap64_nat (by omega)
    have w2 : wrap64 (at0 c i - at0 b (i + 1)) = at0 c i - at0 b (i + 1) := wrap64_id (by omega) (by omega)
    have e1 := f87_one o (at0 c i - at0 b (i + 1)) h0 (by omega)
    have hl := strg_len c b o i
    simp only [at0] at w2 e1
    simp only [s33_0, t33_0, Tr.val_test, Tr.val_fin, Tr.val_stop, leF_eq, w1, Int.toNat_natCast, w2]
    rw [if_pos (by simp; omega), if_pos (by simp; omega), if_pos (by simp; omega)]
    simp only [g87, e1, Option.isSome_some, Option.getD_some, if_true, strg, at0]
    by_cases hm : wi (-o) o (c.getD i 0 - b.getD (i + 1) 0) = true
    · simp only [hm, Bool.not_true, Bool.false_eq_true, if_false, if_true]
    · simp only [hm, Bool.not_false, if_false, if_true, Bool.false_eq_true]
      rw [if_pos (by simp only [Bool.and_eq_true, ble_eq_true']; omega)]
      rfl
  · simp [s33_0, t33_0, leF_eq]

theorem f33_eq (a b : List Int) (o : Int) : f33 (a, b, o, ()) = some (if shE a b o 100000 ≠ 0 then (([] : List Int), shE a b o 100000, ()) else (strg (crv a (a.length - 2)) b o (a.length - 2), (0 : Int), ())) := by
  have e1 := f100_one 0 100000 o
  have e2 := f105_eq a b
  have e3 := f88_two (boE a b) (if (!wi 0 100000 o) = true then (2 : Int) else 0)
  have es : (if boE a b = 0 then (if (!wi 0 100000 o) = true then (2 : Int) else 0) else boE a b) = shE a b o 100000 := by
    unfold shE
    by_cases h : boE a b = 0
    · simp only [h, if_true, ne_eq, not_true_eq_false, if_false]
      cases wi 0 100000 o <;> rfl
    · simp only [h, if_false, ne_eq, not_false_eq_true, if_true]
  rw [es] at e3
  simp only [f33, t33, Tr.val_test, Tr.val_fin, Tr.val_stop, g100, g105, g86, g88, e1, e2, e3, f86_eq, eqF_eq, Option.isSome_some, Option.getD_some, if_true]
  by_cases h : shE a b o 100000 = 0
  · obtain ⟨⟨r1, r2, r3⟩, r4, r5⟩ := shE_ok h
    have b1 := rawE_bs r1
    have b2 := rawE_bs r2
    have e4 := f107_eq a (by have := b1.1; omega)
    have hc := crv_len a (a.length - 2)
    have e5 := l33 (crv a (a.length - 2)) b o (by have := b1.1; omega) (crv_cs b1 _) b2 (by omega) r4 (by omega)
    rw [hc] at e5
    simp only [h, decide_true, Bool.not_true, Bool.false_eq_true, if_false, ne_eq, not_true_eq_false, g107, e4, Option.isSome_some, Option.getD_some, if_true, hc, e5, isBrk, b33_0, outB]
  · simp only [h, decide_false, Bool.not_false, if_true, ne_eq, not_false_eq_true]

end Go.Vm.Mo

namespace Go.Vm.Mo
open Go
set_option linter.unusedVariables false
set_option linter.unusedSimpArgs false

def sm (f : Nat → Int) : Nat → Int
  | 0 => 0
  | k + 1 => sm f k + f k

theorem sm_congr {f g : Nat → Int} : ∀ n, (∀ i, i < n → f i = g i) → sm f n = sm g n
  | 0, _ => rfl
  | n + 1, h => by simp only [sm]; rw [sm_congr n fun i hi => h i (by omega), h n (by omega)]

theorem sm_add (f g : Nat → Int) : ∀ n, sm (fun i => f i + g i) n = sm f n + sm g n
  | 0 => rfl
  | n + 1 => by simp only [sm]; rw [sm_add f g n]; omega

theorem sm_zero : ∀ n, sm (fun _ => 0) n = 0
  | 0 => rfl
  | n + 1 => by simp only [sm]; rw [sm_zero n]; rfl

theorem sm_swap (f : Nat → Nat → Int) (L : Nat) : ∀ M, sm (fun i => sm (fun j => f i j) L) M = sm (fun j => sm (fun i => f i j) M) L
  | 0 => by simp only [sm]; exact (sm_zero L).symm
  | M + 1 => by
    simp only [sm]
    rw [sm_swap f L M, ← sm_add]

theorem sm_single (g : Nat → Int) (k : Int) : ∀ L : Nat, sm (fun j => if (j : Int) = k then g j else 0) L = if 0 ≤ k ∧ k ≤ (L : Int) - 1 then g k.toNat else 0
  | 0 => by rw [if_neg (by omega)]; rfl
  | L + 1 => by
    simp only [sm]
    rw [sm_single g k L]
    by_cases h : (L : Int) = k
    · rw [if_neg (by omega), if_pos h, if_pos (by omega)]
      rw [← h, Int.toNat_natCast]; omega
    · rw [if_neg h]
      by_cases h2 : 0 ≤ k ∧ k ≤ (L : Int) - 1
      · rw [if_pos h2, if_pos (by omega)]; omega
      · rw [if_neg h2, if_neg (by omega)]; rfl

theorem sumN_sm (a b : List Int) (s : Int) : ∀ n, sumN a b s n = sm (fun i => sm (fun j => if (j : Int) = (i : Int) + s then at0 a i * at0 b j else 0) b.length) n
  | 0 => rfl
  | n + 1 => by
    simp only [sumN, sm]
    rw [← sumN_sm a b s n, sm_single (fun j => at0 a n * at0 b j)]
    by_cases h : 0 ≤ (n : Int) + s ∧ (n : Int) + s ≤ (b.length : Int) - 1
    · have : inB b ((n : Int) + s) = true := wi_iff.2 h
      rw [if_pos this, if_pos h]
    · have : ¬ inB b ((n : Int) + s) = true := fun e => h (wi_iff.1 e)
      rw [if_neg this, if_neg h]; omega

theorem sumN_swap (a b : List Int) (s : Int) : sumN a b s a.length = sumN b a (-s) b.length := by
  rw [sumN_sm, sumN_sm, sm_swap]
  refine sm_congr _ fun j _ => sm_congr _ fun i _ => ?_
  by_cases h : (j : Int) = (i : Int) + s
  · rw [if_pos h, if_pos (by omega), Int.mul_comm]
  · rw [if_neg h, if_neg (by omega)]

/-! Small channels. -/

def smallF (a b : List Int) : Option Nat := first (fun i => !wi (-1000) 1000 (a.getD i 0) || !wi (-1000) 1000 (b.getD i 0)) a.length 0

theorem l5a (a b : List Int) (m o : Int) (h : a.length ≤ 1000) (hl : a.length = b.length) : l5_0 ((a, b, (0 : Int), ()), (m, o, ()), ()) = match smallF a b with
    | some _ => some (.inr ((true, ()), (m, o, ()), ()))
    | none => some (.inl ((a, b, ()), (m, o, ()), ())) := by
  refine itr_search (fun i => ((a, b, (i : Int), ()), (m, o, ()), ())) (fun i => !wi (-1000) 1000 (a.getD i 0) || !wi (-1000) 1000 (b.getD i 0)) (fun k => ((true, ()), (m, o, ()), ())) (n := a.length) ?_ ?_ (lt_rounds (by omega))
  · intro i hi
    simp only [s5_0, t5_0, Tr.val_test, Tr.val_fin, Tr.val_stop, leF_eq, Int.toNat_natCast, wrap64_nat (show i ≤ 9223372036854775806 by omega)]
    rw [if_pos (by simp; omega), if_pos (by simp; omega)]
    simp only [g22, f22_eq, Option.isSome_some, Option.getD_some, if_true]
    by_cases c1 : wi (-1000) 1000 (a.getD i 0) = true
    · simp only [c1, Bool.not_true, Bool.false_eq_true, if_false, Bool.false_or]
      rw [if_pos (by simp; omega)]
    · have c1' : wi (-1000) 1000 (a.getD i 0) = false := by simpa using c1
      simp only [c1', Bool.not_false, if_true, Bool.true_or]
  · simp [s5_0, t5_0, leF_eq]

theorem small_ok {a b : List Int} (h : smallF a b = none) : ∀ i, -1000 ≤ at0 a i ∧ at0 a i ≤ 1000 := by
  intro i
  by_cases hi : i < a.length
  · have := first_none h i (Nat.zero_le _) (by omega)
    simp only [Bool.or_eq_false_iff, Bool.not_eq_false', wi_iff] at this
    exact this.1
  · have : at0 a i = 0 := by simp [at0, List.getD, List.getElem?_eq_none (Nat.le_of_not_lt hi)]
    omega

theorem l5b (a b : List Int) (m : Nat) (o s : Int) (ha : Bs a) (hb : Bs b) (hm : m ≤ 20) (hs : s.natAbs ≤ 20) (hbest : ∀ x : Int, x.natAbs ≤ m → S2 a b x ≤ S2 a b s) :
    l5_2 ((a, b, s, -(m : Int), ()), ((m : Int), o, ()), ()) = some (.inl ((a, b, s, ()), ((m : Int), o, ()), ())) := by
  have := itr_brk (step := s5_2) (fun i => ((a, b, s, (i : Int) - (m : Int), ()), ((m : Int), o, ()), ())) (n := 2 * m + 1) (m := rounds) (b := ((a, b, s, ()), ((m : Int), o, ()), ())) ?_ ?_ (lt_rounds (by omega))
  · have e0 : ((0 : Nat) : Int) - (m : Int) = -(m : Int) := by omega
    rw [← e0]
    exact this
  · intro i hi
    have e1 := f40_eq a b ((i : Int) - (m : Int)) ha hb (by omega)
    have e2 := f40_eq a b s ha hb (by omega)
    have e3 := f40_eq b a (-((i : Int) - (m : Int))) hb ha (by omega)
    have w : wrap64 ((i : Int) - (m : Int) + 1) = ((i + 1 : Nat) : Int) - (m : Int) := by rw [wrap64_id (by omega) (by omega)]; omega
    have wn : IntKind.wrap .i64 (0 - ((i : Int) - (m : Int))) = -((i : Int) - (m : Int)) := wn64 (by omega) (by omega)
    have hle := hbest ((i : Int) - (m : Int)) (by omega)
    have hsw := sumN_swap a b ((i : Int) - (m : Int))
    simp only [S2] at hle
    rw [hsw] at hle
    simp only [s5_2, t5_2, Tr.val_test, Tr.val_fin, Tr.val_stop, leF_eq, eqF_eq, w, wn]
    rw [if_pos (by simp only [decide_eq_true_eq]; omega)]
    simp only [g40, e1, e2, e3, Option.isSome_some, Option.getD_some, if_true, hle, decide_true, Bool.not_true, Bool.false_eq_true, if_false, hsw]
  · have : ¬ ((2 * m + 1 : Nat) : Int) - (m : Int) ≤ (m : Int) := by omega
    simp only [s5_2, t5_2, Tr.val_test, Tr.val_fin, Tr.val_stop, leF_eq, this, decide_false, if_false, Bool.false_eq_true]

/-! Fewer strange samples. -/

theorem strg_fewer (c b : List Int) {o o' : Int} (ho : o ≤ o') : ∀ i, (strg c b o' i).length ≤ (strg c b o i).length ∧ ∀ x, x ∈ strg c b o' i → x ∈ strg c b o i
  | 0 => ⟨Nat.le_refl _, fun x h => h⟩
  | i + 1 => by
    obtain ⟨h1, h2⟩ := strg_fewer c b ho i
    simp only [strg]
    by_cases c1 : wi (-o) o (at0 c i - at0 b (i + 1)) = true
    · have c2 : wi (-o') o' (at0 c i - at0 b (i + 1)) = true := by rw [wi_iff] at c1 ⊢; omega
      rw [if_pos c1, if_pos c2]; exact ⟨h1, h2⟩
    · rw [if_neg c1]
      split
      · exact ⟨by simp; omega, fun x hx => List.mem_append_left _ (h2 x hx)⟩
      · refine ⟨by simp; omega, fun x hx => ?_⟩
        rcases List.mem_append.1 hx with hx | hx
        · exact List.mem_append_left _ (h2 x hx)
        · exact List.mem_append_right _ hx

theorem l41 (l : List Int) (x : Int) (h : l.length ≤ 1000000) : l41_0 ((l, x, (0 : Int), ()), ()) = match first (fun i => decide (l.getD i 0 = x)) l.length 0 with
    | some _ => some (.inr ((true, ()), ()))
    | none => some (.inl ((), ())) := by
  refine itr_search (fun i => ((l, x, (i : Int), ()), ())) (fun i => decide (l.getD i 0 = x)) (fun _ => ((true, ()), ())) (n := l.length) ?_ ?_ (lt_rounds (by omega))
  · intro i hi
    simp only [s41_0, t41_0, Tr.val_test, Tr.val_fin, Tr.val_stop, leF_eq, eqF_eq, Int.toNat_natCast, wrap64_nat (show i ≤ 9223372036854775806 by omega)]
    rw [if_pos (by simp; omega), if_pos (by simp; omega)]
  · simp [s41_0, t41_0, leF_eq]

theorem f41_mem (l : List Int) (x : Int) (h : l.length ≤ 1000000) (hx : x ∈ l) : f41 (l, x, ()) = some (true, ()) := by
  have hl := l41 l x h
  obtain ⟨i, hi, e⟩ := List.mem_iff_getElem.1 hx
  cases hf : first (fun i => decide (l.getD i 0 = x)) l.length 0 with
  | none =>
    have := first_none hf i (Nat.zero_le _) (by omega)
    simp [List.getD, hi, e] at this
  | some k =>
    rw [hf] at hl
    simp only [f41, t41, Tr.val_test, Tr.val_fin, Tr.val_stop, hl, isRet, r41_0, outR, Option.isSome_some, if_true]

theorem l5c (a l r : List Int) (hl : l.length ≤ 1000000) (hr : r.length ≤ 1000000) (hm : ∀ x, x ∈ r → x ∈ l) : l5_4 ((a, l, r, (0 : Int), ()), ()) = some (.inl ((a, ()), ())) := by
  refine itr_brk (fun i => ((a, l, r, (i : Int), ()), ())) (n := r.length) ?_ ?_ (lt_rounds (by omega))
  · intro i hi
    have e := f41_mem l (r.getD i 0) hl (hm _ (by simp [List.getD, hi]))
    simp only [s5_4, t5_4, Tr.val_test, Tr.val_fin, Tr.val_stop, leF_eq, eqF_eq, Int.toNat_natCast, wrap64_nat (show i ≤ 9223372036854775806 by omega)]
    rw [if_pos (by simp; omega), if_pos (by simp; omega)]
    simp only [g41, e, Option.isSome_some, Option.getD_some, if_true, Bool.not_true, Bool.false_eq_true, if_false]
  · simp [s5_4, t5_4, leF_eq]

/-! Accelerations that are the curves. -/

theorem rawE_of {l : List Int} (h0 : 0 < l.length) (h1 : l.length ≤ 60) (h : ∀ i, -100000 ≤ at0 l i ∧ at0 l i ≤ 100000) : rawE l = 0 := by
  unfold rawE rawK
  rw [if_neg (by omega), if_neg (by omega)]
  have : rawF l = none := first_of_none fun i _ _ => by
    have := wi_iff.2 (h i)
    simp only [at0] at this
    rw [this]; rfl
  rw [this]

def ownL (c : List Int) : List Int := [(0 : Int)] ++ c ++ [(0 : Int)]

theorem ownL_len (c : List Int) : (ownL c).length = c.length + 2 := by simp [ownL]

theorem ownL_at (c : List Int) {i : Nat} (h : i < c.length) : at0 (ownL c) (i + 1) = at0 c i := by
  simp only [at0, ownL, List.getD, List.cons_append, List.nil_append, List.getElem?_cons_succ]
  rw [List.getElem?_append_left h]

theorem ownL_bd {c : List Int} (h : ∀ i, i < c.length → -100000 ≤ at0 c i ∧ at0 c i ≤ 100000) (i : Nat) : -100000 ≤ at0 (ownL c) i ∧ at0 (ownL c) i ≤ 100000 := by
  cases i with
  | zero => simp [ownL, at0]
  | succ i =>
    by_cases hi : i < c.length
    · rw [ownL_at c hi]; exact h i hi
    · have : at0 (ownL c) (i + 1) = 0 := by
        simp only [at0, ownL, List.getD, List.cons_append, List.nil_append, List.getElem?_cons_succ]
        rw [List.getElem?_append_right (by omega)]
        by_cases h2 : i - c.length = 0
        · rw [h2]; rfl
        · rw [List.getElem?_eq_none (by simp; omega)]; rfl
      omega

theorem strg_own (c : List Int) : ∀ i, i ≤ c.length → strg c (ownL c) 0 i = []
  | 0, _ => rfl
  | i + 1, h => by
    simp only [strg]
    rw [ownL_at c (by omega), strg_own c i (by omega), if_pos (wi_iff.2 (by omega))]

theorem shE_of {a b : List Int} {n m : Int} (ha : rawE a = 0) (hb : rawE b = 0) (hl : a.length = b.length) (h0 : 0 ≤ n) (h1 : n ≤ m) : shE a b n m = 0 := by
  have h2 : boE a b = 0 := by
    unfold boE
    rw [if_neg (by simpa using ha), if_neg (by simpa using hb), if_pos (by omega)]
  unfold shE
  rw [if_neg (by simpa using h2), if_pos (wi_iff.2 ⟨h0, h1⟩)]

theorem f5_eq (a b : List Int) (m o : Int) : f5 (a, b, (m, o, ()), ()) = some (true, ()) := by
  have e1 := f12_eq a
  have e2 := f12_eq b
  have e3 := f37_eq a b m 20
  have e4 := f22_eq (o, (0 : Int), (3000 : Int), ())
  by_cases ha : (a.length : Int) ≤ 62
  rotate_left
  · simp only [ha, decide_false] at e1
    simp only [f5, t5, Tr.val_test, Tr.val_fin, Tr.val_stop, g12, e1, Option.isSome_some, Option.getD_some, Bool.not_false, ↓reduceIte]
  by_cases hb : (b.length : Int) ≤ 62
  rotate_left
  · simp only [ha, hb, decide_false, decide_true] at e1 e2
    simp only [f5, t5, Tr.val_test, Tr.val_fin, Tr.val_stop, g12, e1, e2, Option.isSome_some, Option.getD_some, Bool.not_false, Bool.not_true, Bool.false_eq_true, ↓reduceIte]
  simp only [ha, hb, decide_true] at e1 e2
  by_cases hm : shE a b m 20 = 0
  rotate_left
  · have nm : decide (shE a b m 20 = 0) = false := by simpa using hm
    simp only [f5, t5, Tr.val_test, Tr.val_fin, Tr.val_stop, g12, e1, e2, g37, e3, eqF_eq, nm, Option.isSome_some, Option.getD_some, Bool.not_false, Bool.not_true, Bool.false_eq_true, ↓reduceIte]
  rw [hm] at e3
  by_cases ho : wi 0 3000 o = true
  rotate_left
  · have ho' : wi 0 3000 o = false := by simpa using ho
    simp only [ho'] at e4
    simp only [f5, t5, Tr.val_test, Tr.val_fin, Tr.val_stop, g12, e1, e2, g37, e3, g22, e4, eqF_eq, decide_true, Option.isSome_some, Option.getD_some, Bool.not_false, Bool.not_true, Bool.false_eq_true, ↓reduceIte]
  simp only [ho] at e4
  have ho2 := wi_iff.1 ho
  obtain ⟨⟨r1, r2, r3⟩, r4, r5⟩ := shE_ok hm
  obtain ⟨M, rfl⟩ : ∃ M : Nat, m = (M : Int) := ⟨m.toNat, by omega⟩
  have ba := rawE_bs r1
  have bb := rawE_bs r2
  have e5 := l5a a b (M : Int) o (by omega) r3
  cases hsm : smallF a b with
  | some k =>
    rw [hsm] at e5
    simp only [f5, t5, Tr.val_test, Tr.val_fin, Tr.val_stop, g12, e1, e2, g37, e3, g22, e4, e5, isRet, r5_0, outR, eqF_eq, decide_true, Option.isSome_some, Option.getD_some, Bool.not_false, Bool.not_true, Bool.false_eq_true, ↓reduceIte]
  | none =>
    rw [hsm] at e5
    have hk := small_ok hsm
    have e6 := f14_eq a (by omega)
    have e7 := f14_eq b (by omega)
    have e8 := f31_eq a b (M : Int)
    rw [if_neg (by simpa using hm), Int.toNat_natCast] at e8
    have hm' : shE b a (M : Int) 20 = 0 := shE_of r2 r1 r3.symm r4 r5
    have e9 := f31_eq b a (M : Int)
    rw [if_neg (by simpa using hm'), Int.toNat_natCast] at e9
    obtain ⟨p1, p2⟩ := pickB_best (S2 a b) M (by omega)
    obtain ⟨q1, q2⟩ := pickB_best (S2 b a) M (by omega)
    have best : ∀ x : Int, x.natAbs ≤ M → S2 a b x ≤ S2 a b (pickB (S2 a b) M) := fun x hx => rank_sum (by omega) (by omega) (p2 x hx)
    have best' : ∀ x : Int, x.natAbs ≤ M → S2 b a x ≤ S2 b a (pickB (S2 b a) M) := fun x hx => rank_sum (by omega) (by omega) (q2 x hx)
    have wM : IntKind.wrap .i64 (0 - (M : Int)) = -(M : Int) := wn64 (by omega) (by omega)
    have e10 := f22_eq (pickB (S2 a b) M, -(M : Int), (M : Int), ())
    have i10 : wi (-(M : Int)) (M : Int) (pickB (S2 a b) M) = true := wi_iff.2 (by omega)
    have e11 := f22_eq (pickB (S2 b a) M, -(M : Int), (M : Int), ())
    have i11 : wi (-(M : Int)) (M : Int) (pickB (S2 b a) M) = true := wi_iff.2 (by omega)
    simp only [i10] at e10
    simp only [i11] at e11
    have e12 := l5b a b M o (pickB (S2 a b) M) ba bb (by omega) (by omega) best
    have e13 := f40_eq b a (pickB (S2 b a) M) bb ba (by omega)
    have e14 := f40_eq a b (pickB (S2 a b) M) ba bb (by omega)
    have same : sumN b a (pickB (S2 b a) M) b.length = sumN a b (pickB (S2 a b) M) a.length := by
      have h1 := best (-(pickB (S2 b a) M)) (by omega)
      have h2 := best' (-(pickB (S2 a b) M)) (by omega)
      simp only [S2] at h1 h2
      rw [sumN_swap a b, Int.neg_neg] at h1
      rw [← sumN_swap a b] at h2
      exact Int.le_antisymm h1 h2
    rw [same] at e13
    have w1 : wrap64 (o + 1) = o + 1 := wrap64_id (by omega) (by omega)
    have s1 : shE a b o 100000 = 0 := shE_of r1 r2 r3 (by omega) (by omega)
    have s2 : shE a b (o + 1) 100000 = 0 := shE_of r1 r2 r3 (by omega) (by omega)
    have e15 := f33_eq a b o
    have e16 := f33_eq a b (o + 1)
    rw [if_neg (by simpa using s1)] at e15
    rw [if_neg (by simpa using s2)] at e16
    obtain ⟨fl, fm⟩ := strg_fewer (crv a (a.length - 2)) b (show o ≤ o + 1 by omega) (a.length - 2)
    have sl1 := strg_len (crv a (a.length - 2)) b o (a.length - 2)
    have sl2 := strg_len (crv a (a.length - 2)) b (o + 1) (a.length - 2)
    have x1 : leF ((strg (crv a (a.length - 2)) b (o + 1) (a.length - 2)).length : Int) ((strg (crv a (a.length - 2)) b o (a.length - 2)).length : Int) = true := by rw [leF_eq]; simp only [decide_eq_true_eq]; omega
    have x2 : leF ((strg (crv a (a.length - 2)) b o (a.length - 2)).length : Int) (a.length : Int) = true := by rw [leF_eq]; simp only [decide_eq_true_eq]; omega
    have e17 := l5c a _ _ (by omega) (by omega) fm
    by_cases h3 : 3 ≤ a.length
    rotate_left
    · have x3 : leF (3 : Int) (a.length : Int) = false := by rw [leF_eq]; simp only [decide_eq_false_iff_not]; omega
      simp only [f5, t5, Tr.val_test, Tr.val_fin, Tr.val_stop, g12, e1, e2, g37, e3, g22, e4, e5, isRet, b5_0, b5_2, b5_4, outB, g14, e6, e7, g31, e8, e9, wM, e10, e11, e12, g40, e13, e14, g33, e15, w1, e16, x1, x2, e17, x3, eqF_eq, decide_true, Option.isSome_some, Option.getD_some, Bool.not_false, Bool.not_true, Bool.false_eq_true, ↓reduceIte]
    have x3 : leF (3 : Int) (a.length : Int) = true := by rw [leF_eq]; simp only [decide_eq_true_eq]; omega
    have hcu : cuE a = 0 := by
      unfold cuE
      rw [if_neg (by simpa using r1), if_neg (by omega)]
    have e18 := f32_eq a (by omega)
    rw [if_neg (by simpa using hcu)] at e18
    have hc := crv_len a (a.length - 2)
    have w2 : wrap64 ((a.length : Int) - 2) = (((crv a (a.length - 2)).length : Nat) : Int) := by rw [wrap64_id (by omega) (by omega)]; omega
    have ol := ownL_len (crv a (a.length - 2))
    have cb : ∀ i, i < (crv a (a.length - 2)).length → -100000 ≤ at0 (crv a (a.length - 2)) i ∧ at0 (crv a (a.length - 2)) i ≤ 100000 := by
      intro i hi
      rw [crv_at ba (by omega)]
      have k1 := hk i
      have k2 := hk (i + 1)
      have k3 := hk (i + 2)
      omega
    have ro : rawE (ownL (crv a (a.length - 2))) = 0 := rawE_of (by omega) (by have := ba.1; omega) (ownL_bd cb)
    have so : shE a (ownL (crv a (a.length - 2))) 0 100000 = 0 := shE_of r1 ro (by omega) (by omega) (by omega)
    have e19 := f33_eq a (ownL (crv a (a.length - 2))) 0
    rw [if_neg (by simpa using so), strg_own _ _ (by omega)] at e19
    have y1 : Nat.beq (crv a (a.length - 2)).length 0 = false := by
      cases h : Nat.beq (crv a (a.length - 2)).length 0 with
      | false => rfl
      | true => rw [beq_eq_true'] at h; omega
    have y2 : Nat.ble (1 + (crv a (a.length - 2)).length) 1 = false := by
      cases h : Nat.ble (1 + (crv a (a.length - 2)).length) 1 with
      | false => rfl
      | true => rw [ble_eq_true'] at h; omega
    have y3 : (Nat.ble ((2 * (1 + (crv a (a.length - 2)).length) + 192) * 8) 281474976710656 && Nat.ble (1 + (crv a (a.length - 2)).length) 281474976710656) = true := by simp only [Bool.and_eq_true, ble_eq_true']; omega
    have y4 : (Nat.ble ((2 * (1 + (crv a (a.length - 2)).length + 1) + 192) * 8) 281474976710656 && Nat.ble (1 + (crv a (a.length - 2)).length + 1) 281474976710656) = true := by simp only [Bool.and_eq_true, ble_eq_true']; omega
    have y5 : Nat.beq (1 + (crv a (a.length - 2)).length) ([(0 : Int)] ++ crv a (a.length - 2)).length = true := by rw [beq_eq_true']; simp; omega
    have y6 : Nat.beq (1 + (crv a (a.length - 2)).length + 1) ([(0 : Int)] ++ crv a (a.length - 2) ++ [(0 : Int)]).length = true := by rw [beq_eq_true']; simp; omega
    simp only [ownL] at e19
    simp only [f5, t5, Tr.val_test, Tr.val_fin, Tr.val_stop, g12, e1, e2, g37, e3, g22, e4, e5, isRet, b5_0, b5_2, b5_4, outB, g14, e6, e7, g31, e8, e9, wM, e10, e11, e12, g40, e13, e14, g33, e15, w1, e16, x1, x2, e17, x3, g32, e18, w2, y1, y2, y3, y4, y5, y6, e19, eqF_eq, decide_true, Option.isSome_some, Option.getD_some, Bool.not_false, Bool.not_true, Bool.false_eq_true, List.length_nil, Int.natCast_zero, ↓reduceIte]

theorem law5 (d : Tys.data as5) : Pure1 Go.Proofs.Try.prog 5 as5 [.bool] d (true, ()) := by
  have h := f5_eq d.1 d.2.1 d.2.2.1.1 d.2.2.1.2.1
  have hp : p5.pre d = true := by
    show Option.isSome (f5 d) = true
    rw [show f5 d = some (true, ()) from h]; rfl
  have hg : p5.fn d = (true, ()) := by
    show (f5 d).getD _ = _
    rw [show f5 d = some (true, ()) from h]; rfl
  have := ok5.runs d hp
  rw [hg] at this
  exact this

end Go.Vm.Mo
