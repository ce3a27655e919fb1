import Derived.Test.YtlmcodagfhdncaaRsFd
import Derived.Test.YtlmcodagfhdncaaA4
set_option linter.unusedVariables false
set_option linter.unusedSimpArgs false

namespace Go.Vm.Mo
open Go
set_option linter.unusedVariables false
set_option linter.unusedSimpArgs false

theorem dT {p : Prop} [Decidable p] (h : p) : decide p = true := decide_eq_true h
theorem dF {p : Prop} [Decidable p] (h : ¬ p) : decide p = false := decide_eq_false h
theorem nT {p : Prop} [Decidable p] (h : ¬ p) : (!decide p) = true := by rw [decide_eq_false h]; rfl
theorem nF {p : Prop} [Decidable p] (h : p) : (!decide p) = false := by rw [decide_eq_true h]; rfl
theorem dA {p q : Prop} [Decidable p] [Decidable q] (h : p) (k : q) : (decide p && decide q) = true := by rw [decide_eq_true h, decide_eq_true k]; rfl

theorem first_map (bad : Nat → Bool) : ∀ (n i : Nat), first bad n (i + 1) = (first (fun k => bad (k + 1)) n i).map (· + 1)
  | 0, _ => rfl
  | n + 1, i => by
    simp only [first]
    split
    · rfl
    · exact first_map bad n (i + 1)

def firstNZ : List Int → Int
  | [] => 0
  | a :: l => if a = 0 then firstNZ l else a

theorem firstNZ_eq : ∀ l : List Int, (match first (fun i => !decide (l.getD i 0 = 0)) l.length 0 with
    | some k => l.getD k 0
    | none => 0) = firstNZ l
  | [] => rfl
  | a :: l => by
    simp only [List.length, first, firstNZ]
    by_cases ha : a = 0
    · subst ha
      have e := firstNZ_eq l
      have hf : first (fun i => !decide (((0 : Int) :: l).getD i 0 = 0)) l.length (0 + 1) = (first (fun i => !decide (l.getD i 0 = 0)) l.length 0).map (· + 1) := by
        rw [first_map]; rfl
      simp only [hf, List.getD_cons_zero, decide_true, Bool.not_true, Bool.false_eq_true, if_false, if_true]
      rw [← e]
      cases first (fun i => !decide (l.getD i 0 = 0)) l.length 0 with
      | none => rfl
      | some k => rfl
    · simp [ha]

theorem l59 (l : List Int) (h : l.length ≤ 1000000000) : l59_0 ((l, (l.length : Int), (0 : Int), ()), ()) = match first (fun i => !decide (l.getD i 0 = 0)) l.length 0 with
    | some k => some (.inr ((l.getD k 0, ()), ()))
    | none => some (.inl ((), ())) := by
  refine itr_search (fun i => ((l, (l.length : Int), (i : Int), ()), ())) (fun i => !decide (l.getD i 0 = 0)) (fun k => ((l.getD k 0, ()), ())) (n := l.length) ?_ ?_ (lt_rounds (by omega))
  · intro i hi
    simp only [s59_0, t59_0, Tr.val_test, leF_eq, eqF_eq]
    rw [if_pos (by simp; omega), if_pos (by simp; omega)]
    simp only [Int.toNat_natCast, wrap64_nat (show i ≤ 9223372036854775806 by omega)]
    rfl
  · simp [s59_0, t59_0, leF_eq]

theorem f59_eq (l : List Int) (h : l.length ≤ 1000000000) : f59 (l, ()) = some (firstNZ l, ()) := by
  simp only [f59, t59, Tr.val_test, r59_0, l59 l h, ← firstNZ_eq l]
  cases first (fun i => !decide (l.getD i 0 = 0)) l.length 0 with
  | none => rfl
  | some k => rfl

theorem f60_eq (d : Tys.data as60) : f60 d = some (if d.1 = true then d.2.1 else (0 : Int), ()) := by
  simp only [f60, t60, Tr.val_test]
  split <;> rfl

def wi (lo hi x : Int) : Bool := decide (lo ≤ x) && decide (x ≤ hi)

theorem wi_iff {lo hi x : Int} : wi lo hi x = true ↔ lo ≤ x ∧ x ≤ hi := by simp [wi]

theorem f39_eq (d : Tys.data as39) : f39 d = some (wi d.2.1 d.2.2.1 d.1, ()) := by
  simp only [f39, t39, Tr.val_test, Tr.val_fin, leF_eq, decide_eq_true_eq, wi]
  split <;> simp [*]

theorem l57 (lo hi : Int) (l : List Int) (h : l.length ≤ 1000000000) : l57_0 ((lo, hi, l, (l.length : Int), (0 : Int), ()), ()) = match first (fun i => !wi lo hi (l.getD i 0)) l.length 0 with
    | some _ => some (.inr ((false, ()), ()))
    | none => some (.inl ((), ())) := by
  refine itr_search (fun i => ((lo, hi, l, (l.length : Int), (i : Int), ()), ())) (fun i => !wi lo hi (l.getD i 0)) (fun _ => ((false, ()), ())) (n := l.length) ?_ ?_ (lt_rounds (by omega))
  · intro i hi'
    simp only [s57_0, t57_0, Tr.val_test, Tr.val_fin, leF_eq, Int.toNat_natCast, wrap64_nat (show i ≤ 9223372036854775806 by omega)]
    rw [if_pos (by simp; omega), if_pos (by simp; omega)]
    by_cases a0 : lo ≤ l.getD i 0
    · by_cases a1 : l.getD i 0 ≤ hi
      · simp only [wi, a0, a1, decide_true, Bool.and_self, Bool.not_true, if_true, if_false, Bool.false_eq_true]
      · simp only [wi, a0, a1, decide_true, decide_false, Bool.and_false, Bool.not_false, Bool.not_true, if_true, if_false, Bool.false_eq_true]
    · simp only [wi, a0, decide_false, Bool.false_and, Bool.not_false, if_true, if_false, Bool.false_eq_true]
  · simp [s57_0, t57_0, leF_eq]

theorem f57_eq (lo hi : Int) (l : List Int) (h : l.length ≤ 1000000000) : f57 (lo, hi, l, ()) = some ((first (fun i => !wi lo hi (l.getD i 0)) l.length 0).isNone, ()) := by
  have hl := l57 lo hi l h
  cases hf : first (fun i => !wi lo hi (l.getD i 0)) l.length 0 with
  | none =>
    rw [hf] at hl
    simp only [f57, t57, Tr.val_test, Tr.val_fin, hl, isRet, Option.isSome_some, Option.isNone_none, if_true, Bool.false_eq_true, if_false]
  | some k =>
    rw [hf] at hl
    simp only [f57, t57, Tr.val_test, Tr.val_fin, hl, isRet, r57_0, outR, Option.isSome_some, Option.isNone_some, if_true]

theorem f57_one (lo hi a : Int) : f57 (lo, hi, [a], ()) = some (wi lo hi a, ()) := by
  rw [f57_eq lo hi _ (by simp)]
  simp only [first, List.length, List.getD_cons_zero]
  by_cases h1 : wi lo hi a = true
  · simp [h1]
  · simp [h1]

theorem f57_two (lo hi a b : Int) : f57 (lo, hi, [a, b], ()) = some (wi lo hi a && wi lo hi b, ()) := by
  rw [f57_eq lo hi _ (by simp)]
  simp only [first, List.length, List.getD_cons_zero, List.getD_cons_succ]
  by_cases h1 : wi lo hi a = true
  · by_cases h2 : wi lo hi b = true
    · simp [h1, h2]
    · simp [h1, h2]
  · simp [h1]

theorem q24_0 (l : List Int) (h : l.length ≤ 1000000) : l24_0 ((l, l, (0 : Int), ()), ()) = some (.inl ((), ())) := by
  refine itr_brk (fun i => ((l, l, (i : Int), ()), ())) (n := l.length) ?_ ?_ (lt_rounds (by omega))
  · intro i hi
    simp only [s24_0, t24_0, Tr.val_test, Tr.val_fin, Tr.val_stop, leF_eq, eqF_eq, Int.toNat_natCast, wrap64_nat (show i ≤ 9223372036854775806 by omega)]
    rw [if_pos (by simp; omega), if_pos (by simp; omega), if_pos (by simp; omega)]
    simp
  · simp [s24_0, t24_0, leF_eq]

theorem f24_self (l : List Int) (h : l.length ≤ 1000000) : f24 (l, l, ()) = some (true, ()) := by
  simp only [f24, t24, Tr.val_test, Tr.val_fin, Tr.val_stop, q24_0 l h, isRet, eqF_eq, decide_true, Bool.not_true, Bool.false_eq_true, if_false, Option.isSome_some, if_true]

theorem f12_eq (l : List Int) (h : l.length ≤ 1000) : f12 (l, ()) = some (l, ()) := by
  simp only [f12, t12, Tr.val_test, Tr.val_fin, Tr.val_stop, List.nil_append]
  by_cases h0 : l.length = 0
  · have : l = [] := List.eq_nil_of_length_eq_zero h0
    subst this; rfl
  · rw [if_neg (by rw [beq_eq_true']; exact h0), if_neg (by rw [ble_eq_true']; omega), if_pos (by simp only [Bool.and_eq_true, ble_eq_true']; omega), if_pos (by rw [beq_eq_true']; omega)]

theorem wn64 {x : Int} (h1 : -9223372036854775807 ≤ x) (h2 : x ≤ 9223372036854775807) : IntKind.wrap .i64 (0 - x) = -x := by
  rw [← wrap64_eq, wrap64_id (by omega) (by omega)]
  omega

theorem f58_one (b x : Int) (h0 : 0 ≤ b) (h1 : b ≤ 9223372036854775807) : f58 (b, [x], ()) = some (!wi (-b) b x, ()) := by
  have e := f57_one (-b) b x
  simp only [f58, t58, Tr.val_test, Tr.val_fin, g57, wn64 (show -9223372036854775807 ≤ b by omega) h1, e, Option.isSome_some, Option.getD_some, if_true]

theorem room {n : Nat} (h : n ≤ 1000000) : (Nat.ble (((2 : Nat) * (n + (1 : Nat)) + (192 : Nat)) * (8 : Nat)) (281474976710656 : Nat) && Nat.ble (n + (1 : Nat)) (281474976710656 : Nat)) = true := by
  simp only [Bool.and_eq_true, ble_eq_true']; omega

theorem td2 (i : Nat) (h : i ≤ 1000000000000) : IntKind.wrap .i64 (Int.tdiv (i : Int) 2) = ((i / 2 : Nat) : Int) := by
  have : Int.tdiv (i : Int) 2 = ((i / 2 : Nat) : Int) := by rw [Int.tdiv_eq_ediv_of_nonneg (by omega)]; rfl
  rw [this, ← wrap64_eq, wrap64_id (by omega) (by omega)]

theorem pr1 (j : Nat) (h : j ≤ 1000000000000) : wrap64 (((j + 1 : Nat) : Int) - 1) = (j : Int) := by
  rw [wrap64_id (by omega) (by omega)]; omega

theorem first_at {bad : Nat → Bool} {n k : Nat} (h1 : bad k = true) (h2 : k < n) (h3 : ∀ j, j < k → bad j = false) : first bad n 0 = some k := by
  cases h : first bad n 0 with
  | none => have := first_none h k (Nat.zero_le _) (by omega); rw [h1] at this; cases this
  | some j =>
    obtain ⟨_, a2, a3, a4⟩ := first_some h
    rcases Nat.lt_trichotomy j k with e | e | e
    · have := h3 j e; rw [a3] at this; cases this
    · subst e; rfl
    · have := a4 k (Nat.zero_le _) e; rw [h1] at this; cases this

theorem f57_three (lo hi a b c : Int) : f57 (lo, hi, [a, b, c], ()) = some (wi lo hi a && (wi lo hi b && wi lo hi c), ()) := by
  rw [f57_eq lo hi _ (by simp)]
  simp only [first, List.length, List.getD_cons_zero, List.getD_cons_succ]
  by_cases h1 : wi lo hi a = true
  · by_cases h2 : wi lo hi b = true
    · by_cases h3 : wi lo hi c = true
      · simp [h1, h2, h3]
      · simp [h1, h2, h3]
    · simp [h1, h2]
  · simp [h1]

theorem f58_two (b x y : Int) (h0 : 0 ≤ b) (h1 : b ≤ 9223372036854775807) : f58 (b, [x, y], ()) = some (!(wi (-b) b x && wi (-b) b y), ()) := by
  have e := f57_two (-b) b x y
  simp only [f58, t58, Tr.val_test, Tr.val_fin, Tr.val_stop, g57, wn64 (show -9223372036854775807 ≤ b by omega) h1, e, Option.isSome_some, Option.getD_some, if_true]

theorem f59_ab (a b : Int) : f59 ([a, b], ()) = some (if a = 0 then b else a, ()) := by
  rw [f59_eq _ (by simp)]
  simp only [firstNZ]
  by_cases h0 : b = 0 <;> simp [h0]

theorem f59_abc (a b c : Int) : f59 ([a, b, c], ()) = some (if a = 0 then if b = 0 then c else b else a, ()) := by
  rw [f59_eq _ (by simp)]
  simp only [firstNZ]
  by_cases h0 : c = 0 <;> simp [h0]

def tI (m c p s e b lo hi : Int) : Bool := wi 1 1000 m && ((wi 0 1000 c && (wi 0 1000 p && wi 0 1000 s)) && (wi 0 2 e && (wi 0 3 b && (wi (-1000) 1000 lo && wi (-1000) 1000 hi))))
def tE (m c p s e b lo hi : Int) : Int := if tI m c p s e b lo hi = true then if lo ≤ hi then if hi - lo ≤ 8 then 0 else 8 else 9 else 2

structure TV (m c p s e b lo hi : Int) : Prop where
  m : 1 ≤ m ∧ m ≤ 1000
  c : 0 ≤ c ∧ c ≤ 1000
  p : 0 ≤ p ∧ p ≤ 1000
  s : 0 ≤ s ∧ s ≤ 1000
  e : 0 ≤ e ∧ e ≤ 2
  b : 0 ≤ b ∧ b ≤ 3
  lo : -1000 ≤ lo ∧ lo ≤ 1000
  hi : -1000 ≤ hi ∧ hi ≤ 1000

theorem tI_ok {m c p s e b lo hi : Int} (h : tI m c p s e b lo hi = true) : TV m c p s e b lo hi := by
  simp only [tI, Bool.and_eq_true, wi_iff] at h
  exact ⟨h.1, h.2.1.1, h.2.1.2.1, h.2.1.2.2, h.2.2.1, h.2.2.2.1, h.2.2.2.2.1, h.2.2.2.2.2⟩

theorem tE_ok {m c p s e b lo hi : Int} (h : tE m c p s e b lo hi = 0) : TV m c p s e b lo hi ∧ lo ≤ hi ∧ hi - lo ≤ 8 := by
  unfold tE at h
  split at h
  · rename_i hI
    split at h
    · split at h
      · rename_i h1 h2; exact ⟨tI_ok hI, h1, h2⟩
      · cases h
    · cases h
  · cases h

theorem f10_eq (m c p s e : Int) (q : Bool) (b lo hi : Int) : f10 ((m, c, p, s, e, q, b, (lo, hi, ()), ()), ()) = some (tE m c p s e b lo hi, ()) := by
  have c57 : ∀ a b x : Int, f57 (a, b, [x], ()) = some (wi a b x, ()) := f57_one
  have d57 : ∀ a b x y z : Int, f57 (a, b, [x, y, z], ()) = some (wi a b x && (wi a b y && wi a b z), ()) := f57_three
  have c58 := f58_two 1000 lo hi (by omega) (by omega)
  have c59 : ∀ a b c : Int, f59 ([a, b, c], ()) = some (if a = 0 then if b = 0 then c else b else a, ()) := f59_abc
  simp only [f10, t10, Tr.val_test, Tr.val_fin, Tr.val_stop, g57, g58, g60, g59, c57, d57, c58, f60_eq, c59, leF_eq, Option.isSome_some, Option.getD_some, if_true, tE, Bool.not_not]
  by_cases hI : tI m c p s e b lo hi = true
  · have v := tI_ok hI
    have hI' := hI
    simp only [tI, Bool.and_eq_true] at hI'
    obtain ⟨i1, ⟨i2, i3, i4⟩, i5, i6, i7, i8⟩ := hI'
    have w1 : wrap64 (wrap64 (hi - lo) + 1) = hi - lo + 1 := by
      have h1 := v.lo; have h2 := v.hi
      rw [wrap64_id (n := hi - lo) (by omega) (by omega), wrap64_id (by omega) (by omega)]
    simp only [i1, i2, i3, i4, i5, i6, i7, i8, hI, w1, Bool.and_self, Bool.not_true, Bool.false_eq_true, if_false, if_true]
    by_cases h1 : lo ≤ hi
    · by_cases h2 : hi - lo ≤ 8
      · have h3 : hi - lo + 1 ≤ 9 := by omega
        simp [h1, h2, h3]
      · have h3 : ¬ hi - lo + 1 ≤ 9 := by omega
        simp [h1, h2, h3]
    · simp [h1]
  · simp only [hI, Bool.false_eq_true, if_false]
    rcases Bool.eq_false_or_eq_true (wi 1 1000 m) with hA | hA
    · rcases Bool.eq_false_or_eq_true (wi 0 1000 c && (wi 0 1000 p && wi 0 1000 s)) with hB | hB
      · rcases Bool.eq_false_or_eq_true (wi 0 2 e) with hC | hC
        · rcases Bool.eq_false_or_eq_true (wi 0 3 b) with hD | hD
          · rcases Bool.eq_false_or_eq_true (wi (-1000) 1000 lo && wi (-1000) 1000 hi) with hF | hF
            · exact absurd (by simp only [tI, hA, hB, hC, hD, hF, Bool.and_self]) hI
            · simp only [hA, hB, hC, hD, hF, if_true, Bool.not_false]; rfl
          · simp only [hA, hB, hC, hD, if_true, Bool.false_eq_true, if_false]; rfl
        · simp only [hA, hB, hC, if_true, Bool.false_eq_true, if_false]; rfl
      · simp only [hA, hB, if_true, Bool.false_eq_true, if_false]; rfl
    · simp only [hA, if_true, Bool.false_eq_true, if_false]; rfl

theorem f17_eq (m c p s e : Int) (q : Bool) (b lo hi : Int) : f17 ((m, c, p, s, e, q, b, (lo, hi, ()), ()), ()) = some (tE m c p s e b lo hi, ()) := by
  simp only [f17, t17, Tr.val_test, Tr.val_fin, Tr.val_stop, g39, f39_eq, leF_eq, Option.isSome_some, Option.getD_some, if_true, tE]
  by_cases hI : tI m c p s e b lo hi = true
  · have v := tI_ok hI
    have hI' := hI
    simp only [tI, Bool.and_eq_true] at hI'
    obtain ⟨i1, ⟨i2, i3, i4⟩, i5, i6, i7, i8⟩ := hI'
    have w1 : wrap64 (hi - lo) = hi - lo := by
      have h1 := v.lo; have h2 := v.hi
      rw [wrap64_id (by omega) (by omega)]
    simp only [i1, i2, i3, i4, i5, i6, i7, i8, hI, w1, Bool.not_true, Bool.false_eq_true, if_false, if_true]
    by_cases h1 : lo ≤ hi
    · by_cases h2 : hi - lo ≤ 8
      · have h3 : ¬ 9 ≤ hi - lo := by omega
        simp [h1, h2, h3]
      · have h3 : 9 ≤ hi - lo := by omega
        simp [h1, h2, h3]
    · simp [h1]
  · simp only [hI, Bool.false_eq_true, if_false]
    rcases Bool.eq_false_or_eq_true (wi 1 1000 m) with hA | hA
    · rcases Bool.eq_false_or_eq_true (wi 0 1000 c) with hB | hB
      · rcases Bool.eq_false_or_eq_true (wi 0 1000 p) with hC | hC
        · rcases Bool.eq_false_or_eq_true (wi 0 1000 s) with hD | hD
          · rcases Bool.eq_false_or_eq_true (wi 0 2 e) with hE | hE
            · rcases Bool.eq_false_or_eq_true (wi 0 3 b) with hF | hF
              · rcases Bool.eq_false_or_eq_true (wi (-1000) 1000 lo) with hG | hG
                · rcases Bool.eq_false_or_eq_true (wi (-1000) 1000 hi) with hH | hH
                  · exact absurd (by simp only [tI, hA, hB, hC, hD, hE, hF, hG, hH, Bool.and_self]) hI
                  · simp [hA, hB, hC, hD, hE, hF, hG, hH]
                · simp [hA, hB, hC, hD, hE, hF, hG]
              · simp [hA, hB, hC, hD, hE, hF]
            · simp [hA, hB, hC, hD, hE]
          · simp [hA, hB, hC, hD]
        · simp [hA, hB, hC]
      · simp [hA, hB]
    · simp [hA]

theorem f61_eq (m c p s e : Int) (q : Bool) (b lo hi : Int) : f61 ((m, c, p, s, e, q, b, (lo, hi, ()), ()), ()) = some (if tE m c p s e b lo hi = 0 then (((m, c, p, s, e, q, b, (lo, hi, ()), ()), ()), (0 : Int), ()) else ((((0 : Int), (0 : Int), (0 : Int), (0 : Int), (0 : Int), false, (0 : Int), ((0 : Int), (0 : Int), ()), ()), ()), tE m c p s e b lo hi, ())) := by
  have e0 := f10_eq m c p s e q b lo hi
  simp only [f61, t61, Tr.val_test, Tr.val_fin, Tr.val_stop, g10, e0, eqF_eq, Option.isSome_some, Option.getD_some, if_true]
  by_cases h : tE m c p s e b lo hi = 0
  · simp [h]
  · simp [h]

theorem f92_eq (d : Tys.data as92) : f92 d = some (wrap64 (d.1.1.2.2.2.2.1 + 2), ()) := rfl

/-! Steps. -/

abbrev at4 (a0 a1 a2 a3 : Int) (i : Nat) : Int := [a0, a1, a2, a3].getD i 0
def cmdV (q : Bool) (e x y : Int) : Int := if q = true then x + e * (x - y) else x
def actV (q : Bool) (e a0 a1 a2 a3 : Int) : Int := cmdV q e (at4 a0 a1 a2 a3 e.toNat) (at4 a0 a1 a2 a3 (e.toNat + 1))
def pullV (c p s : Int) (a0 a1 act f : Int) : Int := f - c * (a0 - a1) - p * a0 - s * act
def nextV (m c p s e : Int) (q : Bool) (a0 a1 a2 a3 f : Int) : Int := a0 + (a0 - a1) + pullV c p s a0 a1 (actV q e a0 a1 a2 a3) f / m

theorem mbd {x y A B : Int} (h1 : 0 ≤ x) (h2 : x ≤ A) (h3 : -B ≤ y) (h4 : y ≤ B) : -(A * B) ≤ x * y ∧ x * y ≤ A * B := by
  have k1 : x * y ≤ x * B := Int.mul_le_mul_of_nonneg_left h4 h1
  have k2 : x * (-B) ≤ x * y := Int.mul_le_mul_of_nonneg_left h3 h1
  have k3 : x * B ≤ A * B := Int.mul_le_mul_of_nonneg_right h2 (by omega)
  rw [Int.mul_neg] at k2
  omega

def b3 (x : Int) : Prop := -3 ≤ x ∧ x ≤ 3

theorem cmdV_b {q : Bool} {e x y : Int} (he : 0 ≤ e ∧ e ≤ 2) (hx : b3 x) (hy : b3 y) : -15 ≤ cmdV q e x y ∧ cmdV q e x y ≤ 15 := by
  unfold b3 at hx hy
  unfold cmdV
  split
  · have := mbd (x := e) (y := x - y) (A := 2) (B := 6) he.1 he.2 (by omega) (by omega)
    omega
  · omega

theorem at4_b {a0 a1 a2 a3 : Int} (h0 : b3 a0) (h1 : b3 a1) (h2 : b3 a2) (h3 : b3 a3) (i : Nat) : b3 (at4 a0 a1 a2 a3 i) := by
  match i with
  | 0 => exact h0
  | 1 => exact h1
  | 2 => exact h2
  | 3 => exact h3
  | n + 4 => exact ⟨by show -3 ≤ (0 : Int); omega, by show (0 : Int) ≤ 3; omega⟩

theorem f63_eq (m c p s e : Int) (q : Bool) (b lo hi : Int) (a0 a1 a2 a3 : Int) (h0 : b3 a0) (h1 : b3 a1) (h2 : b3 a2) (h3 : b3 a3) (he : 0 ≤ e ∧ e ≤ 2) (g : Nat) (hg : g ≤ 2) :
    f63 (((m, c, p, s, e, q, b, (lo, hi, ()), ()), ()), (a0, a1, a2, a3, ()), (g : Int), ()) = some (cmdV q e (at4 a0 a1 a2 a3 g) (at4 a0 a1 a2 a3 (g + 1)), ()) := by
  have y0 := at4_b h0 h1 h2 h3 g
  have y1 := at4_b h0 h1 h2 h3 (g + 1)
  have w0 : wrap64 ((g : Int) + 1) = ((g + 1 : Nat) : Int) := wrap64_nat (by omega)
  have b1 : (decide ((0 : Int) ≤ (g : Int)) && decide ((g : Int) < 4)) = true := dA (by omega) (by omega)
  have b2 : (decide ((0 : Int) ≤ ((g + 1 : Nat) : Int)) && decide (((g + 1 : Nat) : Int) < 4)) = true := dA (by omega) (by omega)
  have b5 : Nat.ble (0 + g * 1 + 1) 4 = true := ble_eq_true'.2 (by omega)
  have b6 : Nat.ble (0 + (g + 1) * 1 + 1) 4 = true := ble_eq_true'.2 (by omega)
  have b7 : Nat.ble (g + 1) 4 = true := ble_eq_true'.2 (by omega)
  have b8 : Nat.ble (g + 1 + 1) 4 = true := ble_eq_true'.2 (by omega)
  have z0 : 0 + g * 1 = g := by omega
  have z1 : 0 + (g + 1) * 1 = g + 1 := by omega
  unfold b3 at y0 y1
  simp only [f63, t63, Tr.val_test, Tr.val_fin, Tr.val_stop, w0, b1, b2, Int.toNat_natCast, b5, b6, b7, b8, z0, z1, g93, g94, f93, t93, f94, t94, Option.isSome_some, Option.getD_some, if_true]
  show (if q = true then _ else _) = _
  unfold cmdV
  have y2 := mbd (x := e) (y := at4 a0 a1 a2 a3 g - at4 a0 a1 a2 a3 (g + 1)) (A := 2) (B := 6) he.1 he.2 (by omega) (by omega)
  have w1 : wrap64 (at4 a0 a1 a2 a3 g + wrap64 (e * wrap64 (at4 a0 a1 a2 a3 g - at4 a0 a1 a2 a3 (g + 1)))) = at4 a0 a1 a2 a3 g + e * (at4 a0 a1 a2 a3 g - at4 a0 a1 a2 a3 (g + 1)) := by
    rw [wrap64_id (n := at4 a0 a1 a2 a3 g - at4 a0 a1 a2 a3 (g + 1)) (by omega) (by omega), wrap64_id (n := e * _) (by omega) (by omega), wrap64_id (by omega) (by omega)]
  cases q with
  | true => simp only [if_true]; rw [show wrap64 (List.getD [a0, a1, a2, a3] g 0 + wrap64 (e * wrap64 (List.getD [a0, a1, a2, a3] g 0 - List.getD [a0, a1, a2, a3] (g + 1) 0))) = _ from w1]
  | false => rfl

theorem f65_eq (m c p s e : Int) (q : Bool) (b lo hi : Int) (a0 a1 a2 a3 : Int) (h0 : b3 a0) (h1 : b3 a1) (h2 : b3 a2) (h3 : b3 a3) (he : 0 ≤ e ∧ e ≤ 2) :
    f65 (((m, c, p, s, e, q, b, (lo, hi, ()), ()), ()), (a0, a1, a2, a3, ()), ()) = some (actV q e a0 a1 a2 a3, ()) := by
  have e0 := f63_eq m c p s e q b lo hi a0 a1 a2 a3 h0 h1 h2 h3 he e.toNat (by omega)
  rw [show ((e.toNat : Nat) : Int) = e by omega] at e0
  simp only [f65, t65, Tr.val_test, Tr.val_fin, Tr.val_stop, g63, e0, Option.isSome_some, Option.getD_some, if_true, actV]

theorem floor_div (x m : Int) (hm : 1 ≤ m) : x / m = if x.tmod m < 0 then x.tdiv m - 1 else x.tdiv m := by
  have h1 := Int.tmod_lt_of_pos x (show (0 : Int) < m by omega)
  have h2 := Int.lt_tmod_of_pos x (show (0 : Int) < m by omega)
  have h3 := Int.mul_tdiv_add_tmod x m
  split
  · refine ((Int.ediv_emod_unique (show (0 : Int) < m by omega) (r := x.tmod m + m)).2 ⟨?_, by omega, by omega⟩).1
    rw [Int.mul_sub]; omega
  · refine ((Int.ediv_emod_unique (show (0 : Int) < m by omega) (r := x.tmod m)).2 ⟨by omega, by omega, by omega⟩).1

theorem div_b {x m A : Int} (hm : 1 ≤ m) (h1 : -A ≤ x) (h2 : x ≤ A) : -A ≤ x / m ∧ x / m ≤ A := by
  refine ⟨(Int.le_ediv_iff_mul_le (show 0 < m by omega)).2 ?_, ?_⟩
  · have : A * 1 ≤ A * m := Int.mul_le_mul_of_nonneg_left hm (by omega)
    rw [Int.neg_mul]; omega
  · have := Int.ediv_le_ediv (show 0 < m by omega) h2
    have h3 : A / m ≤ A := Int.ediv_le_self m (show 0 ≤ A by omega)
    omega

theorem tdiv_b {x m A : Int} (hm : 1 ≤ m) (h1 : -A ≤ x) (h2 : x ≤ A) : -A - 1 ≤ x.tdiv m ∧ x.tdiv m ≤ A + 1 := by
  have h3 := div_b hm h1 h2
  rw [floor_div x m hm] at h3
  split at h3 <;> omega

theorem f95_eq (x m : Int) (hm : 1 ≤ m) (h1 : -1000000000000 ≤ x) (h2 : x ≤ 1000000000000) : f95 (x, m, ()) = some (x / m, ()) := by
  have h3 := tdiv_b hm h1 h2
  have w0 : IntKind.wrap .i64 (x.tdiv m) = x.tdiv m := by rw [← wrap64_eq, wrap64_id (by omega) (by omega)]
  have w1 : wrap64 (x.tdiv m - 1) = x.tdiv m - 1 := wrap64_id (by omega) (by omega)
  have e0 : (m == 0) = false := by simp; omega
  simp only [f95, t95, Tr.val_test, Tr.val_fin, Tr.val_stop, e0, w0, w1, leF_eq, Bool.false_eq_true, if_false]
  rw [floor_div x m hm]
  by_cases h : x.tmod m < 0
  · simp [h, show ¬ 0 ≤ x.tmod m by omega]
  · simp [h, show 0 ≤ x.tmod m by omega]

/-- What is pulled, without overflow. -/
theorem pull_w {m c p s e b lo hi : Int} (v : TV m c p s e b lo hi) {a0 a1 u f : Int} (h0 : b3 a0) (h1 : b3 a1) (hu : -15 ≤ u ∧ u ≤ 15) (hf : -1000 ≤ f ∧ f ≤ 1000) :
    wrap64 (wrap64 (wrap64 (f - wrap64 (c * wrap64 (a0 - a1))) - wrap64 (p * a0)) - wrap64 (s * u)) = pullV c p s a0 a1 u f ∧ -100000 ≤ pullV c p s a0 a1 u f ∧ pullV c p s a0 a1 u f ≤ 100000 := by
  unfold b3 at h0 h1
  have k1 := mbd (x := c) (y := a0 - a1) (A := 1000) (B := 6) v.c.1 v.c.2 (by omega) (by omega)
  have k2 := mbd (x := p) (y := a0) (A := 1000) (B := 3) v.p.1 v.p.2 (by omega) (by omega)
  have k3 := mbd (x := s) (y := u) (A := 1000) (B := 15) v.s.1 v.s.2 hu.1 hu.2
  unfold pullV
  rw [wrap64_id (n := a0 - a1) (by omega) (by omega), wrap64_id (n := c * (a0 - a1)) (by omega) (by omega), wrap64_id (n := p * a0) (by omega) (by omega), wrap64_id (n := s * u) (by omega) (by omega),
    wrap64_id (n := f - c * (a0 - a1)) (by omega) (by omega), wrap64_id (n := f - c * (a0 - a1) - p * a0) (by omega) (by omega), wrap64_id (by omega) (by omega)]
  exact ⟨rfl, by omega, by omega⟩

theorem f66_eq (m c p s e : Int) (q : Bool) (b lo hi : Int) (v : TV m c p s e b lo hi) (a0 a1 a2 a3 f : Int) (h0 : b3 a0) (h1 : b3 a1) (h2 : b3 a2) (h3 : b3 a3) (hf : -1000 ≤ f ∧ f ≤ 1000) :
    f66 (((m, c, p, s, e, q, b, (lo, hi, ()), ()), ()), (a0, a1, a2, a3, ()), f, ()) = some (nextV m c p s e q a0 a1 a2 a3 f, ()) := by
  have e0 := f65_eq m c p s e q b lo hi a0 a1 a2 a3 h0 h1 h2 h3 v.e
  have hu : -15 ≤ actV q e a0 a1 a2 a3 ∧ actV q e a0 a1 a2 a3 ≤ 15 := cmdV_b v.e (at4_b h0 h1 h2 h3 _) (at4_b h0 h1 h2 h3 _)
  obtain ⟨w0, k1, k2⟩ := pull_w v h0 h1 hu hf
  have e1 := f95_eq (pullV c p s a0 a1 (actV q e a0 a1 a2 a3) f) m v.m.1 (by omega) (by omega)
  have k3 := div_b v.m.1 k1 k2
  unfold b3 at h0 h1
  have w1 : wrap64 (wrap64 (a0 + wrap64 (a0 - a1)) + pullV c p s a0 a1 (actV q e a0 a1 a2 a3) f / m) = nextV m c p s e q a0 a1 a2 a3 f := by
    rw [wrap64_id (n := a0 - a1) (by omega) (by omega), wrap64_id (n := a0 + (a0 - a1)) (by omega) (by omega), wrap64_id (by omega) (by omega)]
    rfl
  simp only [f66, t66, Tr.val_test, Tr.val_fin, Tr.val_stop, g65, e0, w0, g95, e1, w1, Option.isSome_some, Option.getD_some, if_true]

theorem f67_eq (m c p s e : Int) (q : Bool) (b lo hi : Int) (hb : 0 ≤ b ∧ b ≤ 3) (x : Int) : f67 (((m, c, p, s, e, q, b, (lo, hi, ()), ()), ()), x, ()) = some (!wi (-b) b x, ()) := by
  have e0 := f58_one b x hb.1 (by omega)
  simp only [f67, t67, Tr.val_test, Tr.val_fin, Tr.val_stop, g58, e0, Option.isSome_some, Option.getD_some, if_true]

def aft (e a0 a1 a2 x : Int) : Int × Int × Int × Int × Unit := (x, a0, if 1 ≤ e then a1 else 0, if 2 ≤ e then a2 else 0, ())

theorem f69_eq (m c p s e : Int) (q : Bool) (b lo hi : Int) (he : 0 ≤ e ∧ e ≤ 2) (a0 a1 a2 a3 x : Int) : f69 (((m, c, p, s, e, q, b, (lo, hi, ()), ()), ()), (a0, a1, a2, a3, ()), x, ()) = some (aft e a0 a1 a2 x, ()) := by
  have hc : e = 0 ∨ e = 1 ∨ e = 2 := by omega
  simp only [f69, t69, Tr.val_test, Tr.val_fin, Tr.val_stop, g92, f92_eq, Option.isSome_some, Option.getD_some, if_true]
  rcases hc with rfl | rfl | rfl <;> rfl

def lst (e a0 a1 a2 a3 : Int) : List Int := [a0, a1, a2, a3].take (e + 2).toNat

end Go.Vm.Mo

namespace Go.Vm.Mo
open Go
set_option linter.unusedVariables false
set_option linter.unusedSimpArgs false

theorem b3_0 : b3 0 := ⟨by omega, by omega⟩

/-- A state's list as an array. -/
structure Arr (e : Int) (l : List Int) (a0 a1 a2 a3 : Int) : Prop where
  h0 : b3 a0
  h1 : b3 a1
  h2 : b3 a2
  h3 : b3 a3
  hl : l = lst e a0 a1 a2 a3
  g : ∀ i : Nat, i < l.length → l.getD i 0 = at4 a0 a1 a2 a3 i

theorem next_b {m c p s e b lo hi : Int} (v : TV m c p s e b lo hi) (q : Bool) {a0 a1 a2 a3 f : Int} (h0 : b3 a0) (h1 : b3 a1) (h2 : b3 a2) (h3 : b3 a3) (hf : -1000 ≤ f ∧ f ≤ 1000) :
    -1000000 ≤ nextV m c p s e q a0 a1 a2 a3 f ∧ nextV m c p s e q a0 a1 a2 a3 f ≤ 1000000 := by
  have hu : -15 ≤ actV q e a0 a1 a2 a3 ∧ actV q e a0 a1 a2 a3 ≤ 15 := cmdV_b v.e (at4_b h0 h1 h2 h3 _) (at4_b h0 h1 h2 h3 _)
  obtain ⟨_, k1, k2⟩ := pull_w v h0 h1 hu hf
  have k3 := div_b v.m.1 k1 k2
  unfold b3 at h0 h1
  unfold nextV
  omega

def wE (m c p s e b lo hi : Int) : Int := if tE m c p s e b lo hi = 0 then if p + s ≤ 1000 then 0 else 8 else tE m c p s e b lo hi

theorem wE_ok {m c p s e b lo hi : Int} (h : wE m c p s e b lo hi = 0) : tE m c p s e b lo hi = 0 ∧ p + s ≤ 1000 := by
  unfold wE at h
  split at h
  · rename_i h0
    split at h
    · rename_i h1; exact ⟨h0, h1⟩
    · cases h
  · rename_i h0; exact absurd h h0

theorem f16_eq (m c p s e : Int) (q : Bool) (b lo hi : Int) : f16 ((m, c, p, s, e, q, b, (lo, hi, ()), ()), ()) = some (if wE m c p s e b lo hi = 0 then ((m, c, p + s, (0 : Int), (0 : Int), q, b, (lo, hi, ()), ()), (0 : Int), ()) else (((0 : Int), (0 : Int), (0 : Int), (0 : Int), (0 : Int), false, (0 : Int), ((0 : Int), (0 : Int), ()), ()), wE m c p s e b lo hi, ())) := by
  have e0 := f10_eq m c p s e q b lo hi
  have c59 : ∀ a b : Int, f59 ([a, b], ()) = some (if a = 0 then b else a, ()) := f59_ab
  simp only [f16, t16, Tr.val_test, Tr.val_fin, Tr.val_stop, g10, e0, g60, f60_eq, g59, c59, eqF_eq, leF_eq, Option.isSome_some, Option.getD_some, if_true, wE]
  by_cases h0 : tE m c p s e b lo hi = 0
  · obtain ⟨v, _, _⟩ := tE_ok h0
    have hp := v.p
    have hs := v.s
    rw [wrap64_id (n := p + s) (by omega) (by omega)]
    by_cases h1 : p + s ≤ 1000
    · simp [h0, h1]
    · simp [h0, h1]
  · simp [h0]

abbrev A4 := Int × Int × Int × Int × Unit
def sq (m c p s e : Int) (q : Bool) (l : List Int) : Nat → A4
  | 0 => ((0 : Int), (0 : Int), (0 : Int), (0 : Int), ())
  | i + 1 => aft e (sq m c p s e q l i).1 (sq m c p s e q l i).2.1 (sq m c p s e q l i).2.2.1
      (nextV m c p s e q (sq m c p s e q l i).1 (sq m c p s e q l i).2.1 (sq m c p s e q l i).2.2.1 (sq m c p s e q l i).2.2.2.1 (l.getD i 0))
def nq (m c p s e : Int) (q : Bool) (l : List Int) (i : Nat) : Int :=
  nextV m c p s e q (sq m c p s e q l i).1 (sq m c p s e q l i).2.1 (sq m c p s e q l i).2.2.1 (sq m c p s e q l i).2.2.2.1 (l.getD i 0)

structure Gd (a : A4) : Prop where
  h0 : b3 a.1
  h1 : b3 a.2.1
  h2 : b3 a.2.2.1
  h3 : b3 a.2.2.2.1

theorem sq_gd (m c p s e : Int) (q : Bool) (l : List Int) (b : Int) (hb : b ≤ 3) : ∀ i, (∀ j, j < i → wi (-b) b (nq m c p s e q l j) = true) → Gd (sq m c p s e q l i)
  | 0, _ => ⟨b3_0, b3_0, b3_0, b3_0⟩
  | i + 1, h => by
    have ih := sq_gd m c p s e q l b hb i (fun j hj => h j (by omega))
    have hn := wi_iff.1 (h i (by omega))
    refine ⟨?_, ih.h0, ?_, ?_⟩
    · show b3 (nq m c p s e q l i)
      exact ⟨by omega, by omega⟩
    · show b3 (if 1 ≤ e then (sq m c p s e q l i).2.1 else 0)
      split
      · exact ih.h1
      · exact b3_0
    · show b3 (if 2 ≤ e then (sq m c p s e q l i).2.2.1 else 0)
      split
      · exact ih.h2
      · exact b3_0

def fIn (lo hi : Int) (l : List Int) : Bool := (first (fun i => !wi lo hi (l.getD i 0)) l.length 0).isNone
def feE (lo hi : Int) (l : List Int) : Int := if 60 < l.length then 8 else if fIn lo hi l = true then 0 else 2

theorem feE_ok {lo hi : Int} {l : List Int} (h : feE lo hi l = 0) : l.length ≤ 60 ∧ ∀ i, i < l.length → lo ≤ l.getD i 0 ∧ l.getD i 0 ≤ hi := by
  unfold feE at h
  split at h
  · cases h
  · split at h
    · rename_i h1 h2
      refine ⟨by omega, fun i hj => ?_⟩
      have := first_none (Option.isNone_iff_eq_none.1 h2) i (Nat.zero_le _) (by omega)
      have h3 : wi lo hi (l.getD i 0) = true := by simpa using this
      exact wi_iff.1 h3
    · cases h

theorem f71_eq (m c p s e : Int) (q : Bool) (b lo hi : Int) (l : List Int) (h : l.length ≤ 1000000) : f71 (((m, c, p, s, e, q, b, (lo, hi, ()), ()), ()), l, ()) = some (feE lo hi l, ()) := by
  have c57 := f57_eq lo hi l (by omega)
  have c59 : ∀ a b : Int, f59 ([a, b], ()) = some (if a = 0 then b else a, ()) := f59_ab
  simp only [f71, t71, Tr.val_test, Tr.val_fin, Tr.val_stop, g57, c57, g60, f60_eq, g59, c59, leF_eq, Option.isSome_some, Option.getD_some, if_true, feE, fIn]
  by_cases h1 : 60 < l.length
  · have b0 : (!decide ((l.length : Int) ≤ 60)) = true := nT (by omega)
    simp only [b0, h1, if_true]; rfl
  · have b0 : (!decide ((l.length : Int) ≤ 60)) = false := nF (by omega)
    rcases Bool.eq_false_or_eq_true (first (fun i => !wi lo hi (l.getD i 0)) l.length 0).isNone with hN | hN <;> simp only [b0, h1, hN] <;> rfl

theorem l27_eq (l : List Int) (h : l.length ≤ 1000000) (m c p s e : Int) (q : Bool) (b lo hi : Int) : l27_0 ((l, (0 : Int), ()), (m, c, p, s, e, q, b, lo, hi, ()), ()) = match first (fun i => !wi lo hi (l.getD i 0)) l.length 0 with
    | some _ => some (.inr (((2 : Int), ()), (m, c, p, s, e, q, b, lo, hi, ()), ()))
    | none => some (.inl ((), (m, c, p, s, e, q, b, lo, hi, ()), ())) := by
  refine itr_search (fun i => ((l, (i : Int), ()), (m, c, p, s, e, q, b, lo, hi, ()), ())) (fun i => !wi lo hi (l.getD i 0)) (fun _ => (((2 : Int), ()), (m, c, p, s, e, q, b, lo, hi, ()), ())) (n := l.length) ?_ ?_ (lt_rounds (by omega))
  · intro i hi'
    have b0 : (!decide ((l.length : Int) ≤ (i : Int))) = true := nT (by omega)
    have b1 : (decide ((0 : Int) ≤ (i : Int)) && decide ((i : Int) < (l.length : Int))) = true := dA (by omega) (by omega)
    simp only [s27_0, t27_0, Tr.val_test, Tr.val_fin, Tr.val_stop, leF_eq, b0, b1, g39, f39_eq, Option.isSome_some, Option.getD_some, if_true, Int.toNat_natCast, wrap64_nat (show i ≤ 9223372036854775806 by omega)]
  · simp [s27_0, t27_0, leF_eq]

theorem f27_eq (m c p s e : Int) (q : Bool) (b lo hi : Int) (l : List Int) (h : l.length ≤ 1000000) : f27 ((m, c, p, s, e, q, b, (lo, hi, ()), ()), l, ()) = some (feE lo hi l, ()) := by
  have e0 := l27_eq l h m c p s e q b lo hi
  simp only [f27, t27, Tr.val_test, Tr.val_fin, Tr.val_stop, leF_eq, feE]
  by_cases h1 : 60 < l.length
  · have b0 : (!decide ((l.length : Int) ≤ 60)) = true := nT (by omega)
    simp only [b0, h1, if_true]
  · have b0 : (!decide ((l.length : Int) ≤ 60)) = false := nF (by omega)
    simp only [b0, h1, Bool.false_eq_true, if_false]
    rcases Bool.eq_false_or_eq_true (fIn lo hi l) with hN | hN
    · have hf : first (fun i => !wi lo hi (l.getD i 0)) l.length 0 = none := Option.isNone_iff_eq_none.1 hN
      rw [hf] at e0
      simp only [e0, hN, isRet, Option.isSome_some, if_true, Bool.false_eq_true, if_false]
    · obtain ⟨k, hf⟩ : ∃ k, first (fun i => !wi lo hi (l.getD i 0)) l.length 0 = some k := by
        unfold fIn at hN
        cases hf : first (fun i => !wi lo hi (l.getD i 0)) l.length 0 with
        | none => rw [hf] at hN; cases hN
        | some k => exact ⟨k, rfl⟩
      rw [hf] at e0
      simp only [e0, hN, isRet, r27_0, outR, Option.isSome_some, if_true, Bool.false_eq_true, if_false]

def runUp (N : Nat → Int) : Nat → List Int
  | 0 => [0]
  | i + 1 => runUp N i ++ [N i]

theorem runUp_len (N : Nat → Int) : ∀ i, (runUp N i).length = i + 1
  | 0 => rfl
  | i + 1 => by simp [runUp, runUp_len N i]

/-- The step from which on a run goes no further. -/
def offA (m c p s e : Int) (q : Bool) (b : Int) (l : List Int) (n : Nat) : Option Nat := first (fun i => !wi (-b) b (nq m c p s e q l i)) n 0
def lenA (m c p s e : Int) (q : Bool) (b : Int) (l : List Int) (n : Nat) : Nat := match offA m c p s e q b l n with
  | some k => k + 1
  | none => n

theorem frc {lo hi : Int} {l : List Int} (h : feE lo hi l = 0) (h1 : -1000 ≤ lo ∧ lo ≤ 1000) (h2 : -1000 ≤ hi ∧ hi ≤ 1000) {i : Nat} (hi' : i < l.length) : -1000 ≤ l.getD i 0 ∧ l.getD i 0 ≤ 1000 := by
  have := (feE_ok h).2 i hi'
  omega

theorem l97a (m c p s e : Int) (q : Bool) (b lo hi : Int) (v : TV m c p s e b lo hi) (l : List Int) (hf : feE lo hi l = 0) :
    l97_0 ((l, (l.length : Int), (0 : Int), ()), (), (m, c, p, s, e, q, b, lo, hi, ()), ((0 : Int), (0 : Int), (0 : Int), (0 : Int), ()), ([0], ()), ()) =
      match offA m c p s e q b l l.length with
      | some k => some (.inr ((), (), (m, c, p, s, e, q, b, lo, hi, ()), sq m c p s e q l k, (runUp (nq m c p s e q l) (k + 1), ()), ()))
      | none => some (.inl ((), (), (m, c, p, s, e, q, b, lo, hi, ()), sq m c p s e q l l.length, (runUp (nq m c p s e q l) l.length, ()), ())) := by
  obtain ⟨hlen, _⟩ := feE_ok hf
  have step : ∀ i, i < l.length → Gd (sq m c p s e q l i) → s97_0 ((l, (l.length : Int), (i : Int), ()), (), (m, c, p, s, e, q, b, lo, hi, ()), sq m c p s e q l i, (runUp (nq m c p s e q l) i, ()), ()) =
      if wi (-b) b (nq m c p s e q l i) = true then some (.again ((l, (l.length : Int), ((i + 1 : Nat) : Int), ()), (), (m, c, p, s, e, q, b, lo, hi, ()), sq m c p s e q l (i + 1), (runUp (nq m c p s e q l) (i + 1), ()), ()))
      else some (.ret ((), (), (m, c, p, s, e, q, b, lo, hi, ()), sq m c p s e q l i, (runUp (nq m c p s e q l) (i + 1), ()), ())) := by
    intro i hi' g
    have b0 : (!decide ((l.length : Int) ≤ (i : Int))) = true := nT (by omega)
    have b1 : (decide ((0 : Int) ≤ (i : Int)) && decide ((i : Int) < (l.length : Int))) = true := dA (by omega) (by omega)
    have e66 := f66_eq m c p s e q b lo hi v _ _ _ _ (l.getD i 0) g.h0 g.h1 g.h2 g.h3 (frc hf v.lo v.hi hi')
    have e67 := f67_eq m c p s e q b lo hi v.b (nq m c p s e q l i)
    have e69 := f69_eq m c p s e q b lo hi v.e (sq m c p s e q l i).1 (sq m c p s e q l i).2.1 (sq m c p s e q l i).2.2.1 (sq m c p s e q l i).2.2.2.1 (nq m c p s e q l i)
    have c88 := room (n := (runUp (nq m c p s e q l) i).length) (by rw [runUp_len]; omega)
    simp only [s97_0, t97_0, Tr.val_test, Tr.val_fin, Tr.val_stop, leF_eq, b0, b1, g66, e66, if_true, Int.toNat_natCast, wrap64_nat (show i ≤ 9223372036854775806 by omega), c88, Option.isSome_some, Option.getD_some]
    have e67' := e67
    have e69' := e69
    unfold nq at e67' e69'
    simp only [g67, e67', g69, e69', Option.isSome_some, Option.getD_some, if_true]
    rcases Bool.eq_false_or_eq_true (wi (-b) b (nq m c p s e q l i)) with hk | hk
    · have hk' := hk
      unfold nq at hk'
      simp only [hk, hk', Bool.not_true, Bool.false_eq_true, if_true, if_false]
      rfl
    · have hk' := hk
      unfold nq at hk'
      simp only [hk, hk', Bool.not_false, Bool.false_eq_true, if_true, if_false]
      rfl
  cases ho : offA m c p s e q b l l.length with
  | none =>
    have hn : ∀ j, j < l.length → wi (-b) b (nq m c p s e q l j) = true := fun j hj => by
      have := first_none ho j (Nat.zero_le _) (by omega)
      simpa using this
    refine itr_brk (fun i => ((l, (l.length : Int), (i : Int), ()), (), (m, c, p, s, e, q, b, lo, hi, ()), sq m c p s e q l i, (runUp (nq m c p s e q l) i, ()), ())) (n := l.length) ?_ ?_ (lt_rounds (by omega))
    · intro i hi'
      rw [step i hi' (sq_gd m c p s e q l b v.b.2 i (fun j hj => hn j (by omega))), if_pos (hn i hi')]
    · simp [s97_0, t97_0, leF_eq]
  | some k =>
    obtain ⟨_, k2, k3, k4⟩ := first_some ho
    have hn : ∀ j, j < k → wi (-b) b (nq m c p s e q l j) = true := fun j hj => by
      have := k4 j (Nat.zero_le _) hj
      simpa using this
    have hk : ¬ wi (-b) b (nq m c p s e q l k) = true := by simpa using k3
    refine itr_ret (fun i => ((l, (l.length : Int), (i : Int), ()), (), (m, c, p, s, e, q, b, lo, hi, ()), sq m c p s e q l i, (runUp (nq m c p s e q l) i, ()), ())) (n := k) ?_ ?_ (lt_rounds (by omega))
    · intro i hi'
      rw [step i (by omega) (sq_gd m c p s e q l b v.b.2 i (fun j hj => hn j (by omega))), if_pos (hn i hi')]
    · rw [step k (by omega) (sq_gd m c p s e q l b v.b.2 k hn), if_neg hk]

/-- The error of a test and of forces. -/
def rE (m c p s e b lo hi : Int) (l : List Int) : Int := if tE m c p s e b lo hi = 0 then feE lo hi l else tE m c p s e b lo hi

theorem f25_eq (m c p s e : Int) (q : Bool) (b lo hi : Int) (l : List Int) (h : l.length ≤ 1000000) : f25 ((m, c, p, s, e, q, b, (lo, hi, ()), ()), l, ()) = some (if rE m c p s e b lo hi l = 0 then (runUp (nq m c p s e q l) (lenA m c p s e q b l l.length), (0 : Int), ()) else ([], rE m c p s e b lo hi l, ())) := by
  have e61 := f61_eq m c p s e q b lo hi
  have c59 : ∀ a b : Int, f59 ([a, b], ()) = some (if a = 0 then b else a, ()) := f59_ab
  by_cases h0 : tE m c p s e b lo hi = 0
  · obtain ⟨v, _, _⟩ := tE_ok h0
    have e71 := f71_eq m c p s e q b lo hi l h
    rw [if_pos h0] at e61
    have hr : rE m c p s e b lo hi l = feE lo hi l := by unfold rE; rw [if_pos h0]
    rw [hr]
    simp only [f25, t25, Tr.val_test, Tr.val_fin, Tr.val_stop, g61, e61, g71, e71, g59, c59, eqF_eq, Option.isSome_some, Option.getD_some, if_true]
    by_cases hf : feE lo hi l = 0
    · have e97 := l97a m c p s e q b lo hi v l hf
      simp only [hf, decide_true, Bool.not_true, Bool.false_eq_true, if_false, if_true, lenA]
      cases ho : offA m c p s e q b l l.length with
      | none =>
        rw [ho] at e97
        simp only [e97, isRet, b97_0, outB, Option.isSome_some, if_true, Bool.false_eq_true, if_false]
      | some k =>
        rw [ho] at e97
        simp only [e97, isRet, r97_0, outR, Option.isSome_some, if_true]
    · simp only [hf, decide_false, Bool.not_false, if_true, if_false]
  · have e71 := f71_eq 0 0 0 0 0 false 0 0 0 l h
    rw [if_neg h0] at e61
    have hr : rE m c p s e b lo hi l = tE m c p s e b lo hi := by unfold rE; rw [if_neg h0]
    rw [hr]
    simp only [f25, t25, Tr.val_test, Tr.val_fin, Tr.val_stop, g61, e61, g71, e71, g59, c59, eqF_eq, Option.isSome_some, Option.getD_some, if_true, h0, if_false, decide_false, Bool.not_false]

/-! The error of energy. -/

def szI (x : Int) : Int := if x < -x then -x else x
def wyA (m c p s e : Int) (q : Bool) (l : List Int) (i : Nat) : Int := nq m c p s e q l i - (sq m c p s e q l i).2.1
def exA (m c p s e : Int) (q : Bool) (l : List Int) (i : Nat) : Int := s * (actV q e (sq m c p s e q l i).1 (sq m c p s e q l i).2.1 (sq m c p s e q l i).2.2.1 (sq m c p s e q l i).2.2.2.1 - (sq m c p s e q l i).1) * wyA m c p s e q l i
def eLo (m c p s e : Int) (q : Bool) (l : List Int) (o : Int) : Nat → Int
  | 0 => 0
  | i + 1 => wrap64 (eLo m c p s e q l o i + (exA m c p s e q l i - o * szI (wyA m c p s e q l i)))
def eHi (m c p s e : Int) (q : Bool) (l : List Int) (o : Int) : Nat → Int
  | 0 => 0
  | i + 1 => wrap64 (eHi m c p s e q l o i + (exA m c p s e q l i + o * szI (wyA m c p s e q l i)))

theorem way_b {m c p s e b lo hi : Int} (v : TV m c p s e b lo hi) (q : Bool) (l : List Int) {i : Nat} (g : Gd (sq m c p s e q l i)) (hf : -1000 ≤ l.getD i 0 ∧ l.getD i 0 ≤ 1000) : -2000000 ≤ wyA m c p s e q l i ∧ wyA m c p s e q l i ≤ 2000000 := by
  have h1 := next_b v q g.h0 g.h1 g.h2 g.h3 hf
  have h2 := g.h1
  unfold b3 at h2
  unfold wyA nq
  omega

theorem way_w {m c p s e b lo hi : Int} (v : TV m c p s e b lo hi) (q : Bool) (l : List Int) {i : Nat} (g : Gd (sq m c p s e q l i)) (hf : -1000 ≤ l.getD i 0 ∧ l.getD i 0 ≤ 1000) :
    wrap64 (nextV m c p s e q (sq m c p s e q l i).1 (sq m c p s e q l i).2.1 (sq m c p s e q l i).2.2.1 (sq m c p s e q l i).2.2.2.1 (l.getD i 0) - (sq m c p s e q l i).2.1) = wyA m c p s e q l i ∧ IntKind.wrap .i64 (0 - wyA m c p s e q l i) = - wyA m c p s e q l i := by
  have h1 := way_b v q l g hf
  refine ⟨?_, wn64 (by omega) (by omega)⟩
  show wrap64 (wyA m c p s e q l i) = _
  exact wrap64_id (by omega) (by omega)

theorem l97b (m c p s e : Int) (q : Bool) (b lo hi : Int) (v : TV m c p s e b lo hi) (l : List Int) (hf : feE lo hi l = 0) (o : Int) :
    l97_0_1 ((l, (l.length : Int), (0 : Int), ()), (), (m, c, p, s, e, q, b, lo, hi, ()), ((0 : Int), (0 : Int), (0 : Int), (0 : Int), ()), (m, c, p, s, e, q, b, lo, hi, ()), (o, ()), (m, c, p, s, e, q, b, lo, hi, ()), ((0 : Int), (0 : Int), ()), ()) =
      match offA m c p s e q b l l.length with
      | some k => some (.inr ((), (), (m, c, p, s, e, q, b, lo, hi, ()), sq m c p s e q l k, (m, c, p, s, e, q, b, lo, hi, ()), (o, ()), (m, c, p, s, e, q, b, lo, hi, ()), (eLo m c p s e q l o (k + 1), eHi m c p s e q l o (k + 1), ()), ()))
      | none => some (.inl ((), (), (m, c, p, s, e, q, b, lo, hi, ()), sq m c p s e q l l.length, (m, c, p, s, e, q, b, lo, hi, ()), (o, ()), (m, c, p, s, e, q, b, lo, hi, ()), (eLo m c p s e q l o l.length, eHi m c p s e q l o l.length, ()), ())) := by
  obtain ⟨hlen, _⟩ := feE_ok hf
  have step : ∀ i, i < l.length → Gd (sq m c p s e q l i) → s97_0_1 ((l, (l.length : Int), (i : Int), ()), (), (m, c, p, s, e, q, b, lo, hi, ()), sq m c p s e q l i, (m, c, p, s, e, q, b, lo, hi, ()), (o, ()), (m, c, p, s, e, q, b, lo, hi, ()), (eLo m c p s e q l o i, eHi m c p s e q l o i, ()), ()) =
      if wi (-b) b (nq m c p s e q l i) = true then some (.again ((l, (l.length : Int), ((i + 1 : Nat) : Int), ()), (), (m, c, p, s, e, q, b, lo, hi, ()), sq m c p s e q l (i + 1), (m, c, p, s, e, q, b, lo, hi, ()), (o, ()), (m, c, p, s, e, q, b, lo, hi, ()), (eLo m c p s e q l o (i + 1), eHi m c p s e q l o (i + 1), ()), ()))
      else some (.ret ((), (), (m, c, p, s, e, q, b, lo, hi, ()), sq m c p s e q l i, (m, c, p, s, e, q, b, lo, hi, ()), (o, ()), (m, c, p, s, e, q, b, lo, hi, ()), (eLo m c p s e q l o (i + 1), eHi m c p s e q l o (i + 1), ()), ())) := by
    intro i hi' g
    have b0 : (!decide ((l.length : Int) ≤ (i : Int))) = true := nT (by omega)
    have b1 : (decide ((0 : Int) ≤ (i : Int)) && decide ((i : Int) < (l.length : Int))) = true := dA (by omega) (by omega)
    have hfr := frc hf v.lo v.hi hi'
    have e66 := f66_eq m c p s e q b lo hi v _ _ _ _ (l.getD i 0) g.h0 g.h1 g.h2 g.h3 hfr
    have e65 := f65_eq m c p s e q b lo hi _ _ _ _ g.h0 g.h1 g.h2 g.h3 v.e
    have e67 := f67_eq m c p s e q b lo hi v.b (nq m c p s e q l i)
    have e69 := f69_eq m c p s e q b lo hi v.e (sq m c p s e q l i).1 (sq m c p s e q l i).2.1 (sq m c p s e q l i).2.2.1 (sq m c p s e q l i).2.2.2.1 (nq m c p s e q l i)
    obtain ⟨w1, w2⟩ := way_w v q l g hfr
    have x1 : wrap64 (eLo m c p s e q l o i + wrap64 (wrap64 (wrap64 (s * wrap64 (actV q e (sq m c p s e q l i).1 (sq m c p s e q l i).2.1 (sq m c p s e q l i).2.2.1 (sq m c p s e q l i).2.2.2.1 - (sq m c p s e q l i).1)) * wyA m c p s e q l i) - wrap64 (o * if wyA m c p s e q l i < - wyA m c p s e q l i then - wyA m c p s e q l i else wyA m c p s e q l i))) = eLo m c p s e q l o (i + 1) := by
      simp only [wrap64_add_l, wrap64_add_r, wrap64_sub_l, wrap64_sub_r, wrap64_mul_l, wrap64_mul_r]; rfl
    have x2 : wrap64 (eHi m c p s e q l o i + wrap64 (wrap64 (wrap64 (s * wrap64 (actV q e (sq m c p s e q l i).1 (sq m c p s e q l i).2.1 (sq m c p s e q l i).2.2.1 (sq m c p s e q l i).2.2.2.1 - (sq m c p s e q l i).1)) * wyA m c p s e q l i) + wrap64 (o * if wyA m c p s e q l i < - wyA m c p s e q l i then - wyA m c p s e q l i else wyA m c p s e q l i))) = eHi m c p s e q l o (i + 1) := by
      simp only [wrap64_add_l, wrap64_add_r, wrap64_sub_l, wrap64_sub_r, wrap64_mul_l, wrap64_mul_r]; rfl
    simp only [s97_0_1, t97_0_1, Tr.val_test, Tr.val_fin, Tr.val_stop, leF_eq, b0, b1, g66, e66, g65, e65, if_true, Int.toNat_natCast, wrap64_nat (show i ≤ 9223372036854775806 by omega), w1, w2, x1, x2, Option.isSome_some, Option.getD_some]
    have e67' := e67
    have e69' := e69
    unfold nq at e67' e69'
    simp only [g67, e67', g69, e69', Option.isSome_some, Option.getD_some, if_true]
    rcases Bool.eq_false_or_eq_true (wi (-b) b (nq m c p s e q l i)) with hk | hk
    · have hk' := hk
      unfold nq at hk'
      simp only [hk, hk', Bool.not_true, Bool.false_eq_true, if_true, if_false]
      rfl
    · have hk' := hk
      unfold nq at hk'
      simp only [hk, hk', Bool.not_false, Bool.false_eq_true, if_true, if_false]
  cases ho : offA m c p s e q b l l.length with
  | none =>
    have hn : ∀ j, j < l.length → wi (-b) b (nq m c p s e q l j) = true := fun j hj => by
      have := first_none ho j (Nat.zero_le _) (by omega)
      simpa using this
    refine itr_brk (fun i => ((l, (l.length : Int), (i : Int), ()), (), (m, c, p, s, e, q, b, lo, hi, ()), sq m c p s e q l i, (m, c, p, s, e, q, b, lo, hi, ()), (o, ()), (m, c, p, s, e, q, b, lo, hi, ()), (eLo m c p s e q l o i, eHi m c p s e q l o i, ()), ())) (n := l.length) ?_ ?_ (lt_rounds (by omega))
    · intro i hi'
      rw [step i hi' (sq_gd m c p s e q l b v.b.2 i (fun j hj => hn j (by omega))), if_pos (hn i hi')]
    · simp [s97_0_1, t97_0_1, leF_eq]
  | some k =>
    obtain ⟨_, k2, k3, k4⟩ := first_some ho
    have hn : ∀ j, j < k → wi (-b) b (nq m c p s e q l j) = true := fun j hj => by
      have := k4 j (Nat.zero_le _) hj
      simpa using this
    have hk : ¬ wi (-b) b (nq m c p s e q l k) = true := by simpa using k3
    refine itr_ret (fun i => ((l, (l.length : Int), (i : Int), ()), (), (m, c, p, s, e, q, b, lo, hi, ()), sq m c p s e q l i, (m, c, p, s, e, q, b, lo, hi, ()), (o, ()), (m, c, p, s, e, q, b, lo, hi, ()), (eLo m c p s e q l o i, eHi m c p s e q l o i, ()), ())) (n := k) ?_ ?_ (lt_rounds (by omega))
    · intro i hi'
      rw [step i (by omega) (sq_gd m c p s e q l b v.b.2 i (fun j hj => hn j (by omega))), if_pos (hn i hi')]
    · rw [step k (by omega) (sq_gd m c p s e q l b v.b.2 k hn), if_neg hk]

def oE (m c p s e b lo hi : Int) (l : List Int) (o : Int) : Int := if rE m c p s e b lo hi l = 0 then if wi 0 1000 o = true then 0 else 2 else rE m c p s e b lo hi l

theorem f26_eq (m c p s e : Int) (q : Bool) (b lo hi : Int) (l : List Int) (o : Int) (h : l.length ≤ 1000000) : f26 ((m, c, p, s, e, q, b, (lo, hi, ()), ()), l, o, ()) = some (if oE m c p s e b lo hi l o = 0 then ((eLo m c p s e q l o (lenA m c p s e q b l l.length), eHi m c p s e q l o (lenA m c p s e q b l l.length), ()), (0 : Int), ()) else (((0 : Int), (0 : Int), ()), oE m c p s e b lo hi l o, ())) := by
  have e61 := f61_eq m c p s e q b lo hi
  have c57 : ∀ a b x : Int, f57 (a, b, [x], ()) = some (wi a b x, ()) := f57_one
  have c59 : ∀ a b c : Int, f59 ([a, b, c], ()) = some (if a = 0 then if b = 0 then c else b else a, ()) := f59_abc
  by_cases h0 : tE m c p s e b lo hi = 0
  · obtain ⟨v, _, _⟩ := tE_ok h0
    have e71 := f71_eq m c p s e q b lo hi l h
    rw [if_pos h0] at e61
    have hr : rE m c p s e b lo hi l = feE lo hi l := by unfold rE; rw [if_pos h0]
    simp only [f26, t26, Tr.val_test, Tr.val_fin, Tr.val_stop, g61, e61, g71, e71, g57, c57, g60, f60_eq, g59, c59, eqF_eq, Option.isSome_some, Option.getD_some, if_true, oE, hr]
    by_cases hf : feE lo hi l = 0
    · rcases Bool.eq_false_or_eq_true (wi 0 1000 o) with ho' | ho'
      · have e97 := l97b m c p s e q b lo hi v l hf o
        simp only [hf, ho', decide_true, Bool.not_true, Bool.false_eq_true, if_false, if_true, lenA]
        cases ho : offA m c p s e q b l l.length with
        | none =>
          rw [ho] at e97
          simp only [e97, isRet, b97_0_1, outB, Option.isSome_some, if_true, Bool.false_eq_true, if_false]
        | some k =>
          rw [ho] at e97
          simp only [e97, isRet, r97_0_1, outR, Option.isSome_some, if_true]
      · simp only [hf, ho', Bool.not_false, Bool.false_eq_true, if_false, if_true]; rfl
    · simp only [hf, decide_false, Bool.not_false, if_true, if_false]
  · have e71 := f71_eq 0 0 0 0 0 false 0 0 0 l h
    rw [if_neg h0] at e61
    have hr : rE m c p s e b lo hi l = tE m c p s e b lo hi := by unfold rE; rw [if_neg h0]
    simp only [f26, t26, Tr.val_test, Tr.val_fin, Tr.val_stop, g61, e61, g71, e71, g57, c57, g60, f60_eq, g59, c59, eqF_eq, Option.isSome_some, Option.getD_some, if_true, h0, oE, hr, if_false, decide_false, Bool.not_false]

/-! The references. -/

abbrev ls (m c p s e : Int) (q : Bool) (l : List Int) (i : Nat) : List Int := lst e (sq m c p s e q l i).1 (sq m c p s e q l i).2.1 (sq m c p s e q l i).2.2.1 (sq m c p s e q l i).2.2.2.1

theorem f31_eq (x : Int) (h1 : -9223372036854775807 ≤ x) (h2 : x ≤ 9223372036854775807) : f31 (x, ()) = some (szI x, ()) := by
  simp only [f31, t31, Tr.val_fin, wn64 h1 h2, szI]

theorem f29_eq (d : Tys.data as29) : f29 d = some (if wi 0 1000 d.1 = true then (0 : Int) else 2, ()) := by
  simp only [f29, t29, Tr.val_test, Tr.val_fin, Tr.val_stop, g39, f39_eq, Option.isSome_some, Option.getD_some, if_true]
  cases wi 0 1000 d.1 <;> rfl

theorem lenA_le (m c p s e : Int) (q : Bool) (b : Int) (l : List Int) (n : Nat) : lenA m c p s e q b l n ≤ n := by
  unfold lenA
  cases h : offA m c p s e q b l n with
  | none => exact Nat.le_refl _
  | some k => have := (first_some h).2.1; simp only; omega

end Go.Vm.Mo

namespace Go.Vm.Mo
open Go
set_option linter.unusedVariables false
set_option linter.unusedSimpArgs false

theorem tI_still {m c p s e b lo hi : Int} (h : tI m c p s e b lo hi = true) : tI m c p s 0 b lo hi = true := by
  simp only [tI, Bool.and_eq_true] at h ⊢
  exact ⟨h.1, h.2.1, by decide, h.2.2.2⟩

theorem tE_still {m c p s e b lo hi : Int} (h : tE m c p s e b lo hi = 0) : tE m c p s 0 b lo hi = 0 := by
  obtain ⟨v, h1, h2⟩ := tE_ok h
  have hI : tI m c p s e b lo hi = true := by
    unfold tE at h
    split at h
    · rename_i hI; exact hI
    · cases h
  unfold tE
  rw [if_pos (tI_still hI), if_pos h1, if_pos h2]

theorem tE_whole {m c p s b lo hi : Int} (h : tE m c p s 0 b lo hi = 0) (hs : p + s ≤ 1000) : tE m c (p + s) 0 0 b lo hi = 0 := by
  obtain ⟨v, h1, h2⟩ := tE_ok h
  have hp := v.p
  have hs' := v.s
  have hI : tI m c (p + s) 0 0 b lo hi = true := by
    simp only [tI, Bool.and_eq_true, wi_iff]
    exact ⟨v.m, ⟨v.c, ⟨by omega, hs⟩, by omega⟩, by omega, v.b, v.lo, v.hi⟩
  unfold tE
  rw [if_pos hI, if_pos h1, if_pos h2]

theorem act_still (q : Bool) (a0 a1 a2 a3 : Int) : actV q 0 a0 a1 a2 a3 = a0 := by
  show cmdV q 0 a0 a1 = a0
  unfold cmdV
  split
  · omega
  · rfl

theorem next_still (m c p s : Int) (q : Bool) (a0 a1 a2 a3 f : Int) : nextV m c p s 0 q a0 a1 a2 a3 f = a0 + (a0 - a1) + (f - c * (a0 - a1) - (p + s) * a0) / m := by
  unfold nextV pullV
  rw [act_still, Int.add_mul]
  congr 2; omega

theorem next_whole (m c p s : Int) (q : Bool) (a0 a1 a2 a3 f : Int) : nextV m c (p + s) 0 0 q a0 a1 a2 a3 f = nextV m c p s 0 q a0 a1 a2 a3 f := by
  rw [next_still, next_still, Int.add_zero]

theorem sq_whole (m c p s : Int) (q : Bool) (l : List Int) : ∀ i, sq m c (p + s) 0 0 q l i = sq m c p s 0 q l i
  | 0 => rfl
  | i + 1 => by
    simp only [sq]
    rw [sq_whole m c p s q l i, next_whole]

theorem nq_whole (m c p s : Int) (q : Bool) (l : List Int) : nq m c (p + s) 0 0 q l = nq m c p s 0 q l := by
  funext i
  unfold nq
  rw [sq_whole, next_whole]

theorem lenA_whole (m c p s : Int) (q : Bool) (b : Int) (l : List Int) (n : Nat) : lenA m c (p + s) 0 0 q b l n = lenA m c p s 0 q b l n := by
  unfold lenA offA
  rw [nq_whole]

theorem ex_still (m c p s : Int) (q : Bool) (l : List Int) (i : Nat) : exA m c p s 0 q l i = 0 := by
  unfold exA
  rw [act_still, Int.sub_self, Int.mul_zero, Int.zero_mul]

theorem e0_still (m c p s : Int) (q : Bool) (l : List Int) : ∀ i, eLo m c p s 0 q l 0 i = 0 ∧ eHi m c p s 0 q l 0 i = 0
  | 0 => ⟨rfl, rfl⟩
  | i + 1 => by
    obtain ⟨h1, h2⟩ := e0_still m c p s q l i
    simp only [eLo, eHi, h1, h2, ex_still, Int.zero_mul]
    exact ⟨wrap64_id (by omega) (by omega), wrap64_id (by omega) (by omega)⟩

/-! The list of a run. -/

theorem runUp_zero (N : Nat → Int) (n : Nat) : (runUp N n).getD 0 0 = 0 := by
  induction n with
  | zero => rfl
  | succ n ih =>
    have hl := runUp_len N n
    simp only [runUp, List.getD] at ih ⊢
    rw [List.getElem?_append_left (by omega)]
    exact ih

theorem runUp_get (N : Nat → Int) : ∀ (n j : Nat), j < n → (runUp N n).getD (j + 1) 0 = N j
  | 0, j, h => by omega
  | n + 1, j, h => by
    have hl := runUp_len N n
    by_cases e : j = n
    · subst e
      simp only [runUp, List.getD]
      rw [List.getElem?_append_right (by omega), hl]
      simp
    · have ih := runUp_get N n j (by omega)
      simp only [runUp, List.getD] at ih ⊢
      rw [List.getElem?_append_left (by omega)]
      exact ih

theorem runUp_take (N : Nat → Int) : ∀ (n k : Nat), k ≤ n → (runUp N n).take (k + 1) = runUp N k
  | 0, k, h => by
    have : k = 0 := by omega
    subst this; rfl
  | n + 1, k, h => by
    have hl := runUp_len N n
    by_cases e : k = n + 1
    · subst e
      exact List.take_of_length_le (by rw [runUp_len]; omega)
    · rw [runUp, List.take_append_of_le_length (by omega)]
      exact runUp_take N n k (by omega)

theorem sq_before (m c p s e : Int) (q : Bool) (l : List Int) (i : Nat) : (sq m c p s e q l (i + 1)).2.1 = (sq m c p s e q l i).1 := rfl

theorem run_now (m c p s e : Int) (q : Bool) (l : List Int) (n j : Nat) (h : j ≤ n) : (runUp (nq m c p s e q l) n).getD j 0 = (sq m c p s e q l j).1 := by
  cases j with
  | zero => exact runUp_zero _ _
  | succ j => rw [runUp_get _ _ _ (by omega)]; rfl

theorem sq_take (m c p s e : Int) (q : Bool) (l l' : List Int) : ∀ i, (∀ j, j < i → l.getD j 0 = l'.getD j 0) → sq m c p s e q l i = sq m c p s e q l' i
  | 0, _ => rfl
  | i + 1, h => by
    have ih := sq_take m c p s e q l l' i (fun j hj => h j (by omega))
    simp only [sq, ih, h i (by omega)]

theorem nq_take (m c p s e : Int) (q : Bool) (l l' : List Int) (i : Nat) (h : ∀ j, j ≤ i → l.getD j 0 = l'.getD j 0) : nq m c p s e q l i = nq m c p s e q l' i := by
  unfold nq
  rw [sq_take m c p s e q l l' i (fun j hj => h j (by omega)), h i (Nat.le_refl _)]

theorem runUp_congr {N M : Nat → Int} : ∀ n, (∀ j, j < n → N j = M j) → runUp N n = runUp M n
  | 0, _ => rfl
  | n + 1, h => by
    rw [runUp, runUp, runUp_congr n (fun j hj => h j (by omega)), h n (by omega)]

theorem half_get (l : List Int) (h j : Nat) (hj : j < h) : l.getD j 0 = (l.take h).getD j 0 := by
  simp only [List.getD, List.getElem?_take, if_pos hj]

theorem half_run (m c p s e : Int) (q : Bool) (b : Int) (l : List Int) (h n : Nat) (hn : h ≤ n) :
    lenA m c p s e q b (l.take h) h ≤ lenA m c p s e q b l n ∧ runUp (nq m c p s e q (l.take h)) (lenA m c p s e q b (l.take h) h) = runUp (nq m c p s e q l) (lenA m c p s e q b (l.take h) h) := by
  have hN : ∀ i, i < h → nq m c p s e q (l.take h) i = nq m c p s e q l i := fun i hi =>
    (nq_take m c p s e q l (l.take h) i (fun j hj => half_get l h j (by omega))).symm
  refine ⟨?_, runUp_congr _ fun j hj => hN j (by have := lenA_le m c p s e q b (l.take h) h; omega)⟩
  have e1 : offA m c p s e q b (l.take h) h = offA m c p s e q b l h := by
    unfold offA
    exact first_congr fun j _ hj => by rw [hN j (by omega)]
  unfold lenA
  rw [e1]
  cases ho : offA m c p s e q b l h with
  | some k =>
    obtain ⟨_, k2, k3, k4⟩ := first_some ho
    have : offA m c p s e q b l n = some k := first_at k3 (by omega) (fun j hj => k4 j (Nat.zero_le _) hj)
    rw [this]; exact Nat.le_refl _
  | none =>
    simp only
    cases hq : offA m c p s e q b l n with
    | none => exact hn
    | some k =>
      obtain ⟨_, k2, k3, _⟩ := first_some hq
      rcases Nat.lt_or_ge k h with e | e
      · have := first_none ho k (Nat.zero_le _) (by omega)
        rw [k3] at this; cases this
      · simp only; omega

theorem feE_take {lo hi : Int} {l : List Int} (h : feE lo hi l = 0) (k : Nat) : feE lo hi (l.take k) = 0 := by
  obtain ⟨h1, h2⟩ := feE_ok h
  have hl : (l.take k).length ≤ l.length := by simp; omega
  unfold feE
  rw [if_neg (by omega), if_pos]
  unfold fIn
  rw [Option.isNone_iff_eq_none]
  refine first_of_none fun j _ hj => ?_
  have hj' : j < k := by simp at hj; omega
  rw [← half_get l k j hj']
  have := h2 j (by simp at hj; omega)
  simp only [Bool.not_eq_false']
  exact wi_iff.2 this

/-! The equation of motion. -/

theorem rest_w {m c p s e b lo hi : Int} (v : TV m c p s e b lo hi) {a0 a1 f x : Int} (h0 : b3 a0) (h1 : b3 a1) (hf : -1000 ≤ f ∧ f ≤ 1000) (hx : x = a0 + (a0 - a1) + (f - c * (a0 - a1) - (p + s) * a0) / m) :
    0 ≤ wrap64 (wrap64 (wrap64 (f - wrap64 (c * wrap64 (a0 - a1))) - wrap64 (wrap64 (p + s) * a0)) - wrap64 (m * wrap64 (wrap64 (x - wrap64 (2 * a0)) + a1))) ∧
      wrap64 (wrap64 (wrap64 (f - wrap64 (c * wrap64 (a0 - a1))) - wrap64 (wrap64 (p + s) * a0)) - wrap64 (m * wrap64 (wrap64 (x - wrap64 (2 * a0)) + a1))) < m := by
  unfold b3 at h0 h1
  have hp := v.p
  have hs := v.s
  have hm := v.m
  have k1 := mbd (x := c) (y := a0 - a1) (A := 1000) (B := 6) v.c.1 v.c.2 (by omega) (by omega)
  have k2 := mbd (x := p + s) (y := a0) (A := 2000) (B := 3) (by omega) (by omega) (by omega) (by omega)
  have hP : -100000 ≤ f - c * (a0 - a1) - (p + s) * a0 ∧ f - c * (a0 - a1) - (p + s) * a0 ≤ 100000 := by omega
  have k3 := div_b hm.1 hP.1 hP.2
  have k4 := Int.mul_ediv_add_emod (f - c * (a0 - a1) - (p + s) * a0) m
  have k5 := Int.emod_nonneg (f - c * (a0 - a1) - (p + s) * a0) (show m ≠ 0 by omega)
  have k6 := Int.emod_lt_of_pos (f - c * (a0 - a1) - (p + s) * a0) (show 0 < m by omega)
  rw [wrap64_id (n := a0 - a1) (by omega) (by omega), wrap64_id (n := c * (a0 - a1)) (by omega) (by omega), wrap64_id (n := p + s) (by omega) (by omega), wrap64_id (n := (p + s) * a0) (by omega) (by omega),
    wrap64_id (n := f - c * (a0 - a1)) (by omega) (by omega), wrap64_id (n := f - c * (a0 - a1) - (p + s) * a0) (by omega) (by omega), wrap64_id (n := 2 * a0) (by omega) (by omega), wrap64_id (n := x - 2 * a0) (by omega) (by omega), wrap64_id (n := x - 2 * a0 + a1) (by omega) (by omega)]
  have hx2 : x - 2 * a0 + a1 = (f - c * (a0 - a1) - (p + s) * a0) / m := by omega
  rw [hx2, wrap64_id (n := m * _) (by omega) (by omega), wrap64_id (by omega) (by omega)]
  omega

theorem lenA_in (m c p s e : Int) (q : Bool) (b : Int) (l : List Int) (n : Nat) {j : Nat} (h : j + 1 < lenA m c p s e q b l n) : wi (-b) b (nq m c p s e q l j) = true := by
  unfold lenA at h
  cases ho : offA m c p s e q b l n with
  | none =>
    rw [ho] at h
    have := first_none ho j (Nat.zero_le _) (by simp only at h; omega)
    simpa using this
  | some k =>
    rw [ho] at h
    have := (first_some ho).2.2.2 j (Nat.zero_le _) (by simp only at h; omega)
    simpa using this

theorem lenA_gd (m c p s e : Int) (q : Bool) (b : Int) (hb : b ≤ 3) (l : List Int) (n : Nat) {j : Nat} (h : j < lenA m c p s e q b l n) : Gd (sq m c p s e q l j) :=
  sq_gd m c p s e q l b hb j (fun i hi => lenA_in m c p s e q b l n (by omega))

theorem szI_b {x b : Int} (h : wi (-b) b x = true) : szI x ≤ b := by
  have := wi_iff.1 h
  unfold szI
  split <;> omega

theorem l5a (m c p s e : Int) (q : Bool) (b lo hi : Int) (v : TV m c p s e b lo hi) (l : List Int) (hf : feE lo hi l = 0) (o : Int) :
    l5_0 ((l, o, runUp (nq m c p s 0 q l) (lenA m c p s 0 q b l l.length), (1 : Int), ()), (m, c, p, s, e, q, b, lo, hi, ()), ()) = some (.inl ((l, o, ()), (m, c, p, s, e, q, b, lo, hi, ()), ())) := by
  obtain ⟨hlen, _⟩ := feE_ok hf
  have hK := lenA_le m c p s 0 q b l l.length
  refine itr_brk (fun j => ((l, o, runUp (nq m c p s 0 q l) (lenA m c p s 0 q b l l.length), ((j + 1 : Nat) : Int), ()), (m, c, p, s, e, q, b, lo, hi, ()), ())) (n := lenA m c p s 0 q b l l.length) ?_ ?_ (lt_rounds (by omega))
  · intro j hj
    have g := lenA_gd m c p s 0 q b v.b.2 l l.length hj
    have hR := runUp_len (nq m c p s 0 q l) (lenA m c p s 0 q b l l.length)
    have hfr := frc hf v.lo v.hi (i := j) (by omega)
    have r0 := run_now m c p s 0 q l (lenA m c p s 0 q b l l.length) j (by omega)
    have r1 := runUp_get (nq m c p s 0 q l) (lenA m c p s 0 q b l l.length) j hj
    have hr := rest_w v (a0 := (sq m c p s 0 q l j).1) (a1 := (sq m c p s 0 q l j).2.1) (f := l.getD j 0) (x := nq m c p s 0 q l j) g.h0 g.h1 hfr (next_still _ _ _ _ _ _ _ _ _ _)
    have b0 : (!decide (((lenA m c p s 0 q b l l.length + 1 : Nat) : Int) ≤ ((j + 1 : Nat) : Int))) = true := nT (by omega)
    have w1 : wrap64 (((j + 1 : Nat) : Int) - 1) = (j : Int) := pr1 j (by omega)
    have b1 : (decide ((0 : Int) ≤ (j : Int)) && decide ((j : Int) < (l.length : Int))) = true := dA (by omega) (by omega)
    have b2 : (decide ((0 : Int) ≤ (j : Int)) && decide ((j : Int) < ((lenA m c p s 0 q b l l.length + 1 : Nat) : Int))) = true := dA (by omega) (by omega)
    have b3' : (decide ((0 : Int) ≤ ((j + 1 : Nat) : Int)) && decide (((j + 1 : Nat) : Int) < ((lenA m c p s 0 q b l l.length + 1 : Nat) : Int))) = true := dA (by omega) (by omega)
    have w2 : wrap64 (((lenA m c p s 0 q b l l.length + 1 : Nat) : Int) - 1) = (lenA m c p s 0 q b l l.length : Int) := pr1 _ (by omega)
    have hnb := next_b v q g.h0 g.h1 g.h2 g.h3 hfr
    have e31 : f31 (nq m c p s 0 q l j, ()) = some (szI (nq m c p s 0 q l j), ()) := by
      have hw : -1000000 ≤ nq m c p s 0 q l j ∧ nq m c p s 0 q l j ≤ 1000000 := next_b (v := (⟨v.m, v.c, v.p, v.s, ⟨by omega, by omega⟩, v.b, v.lo, v.hi⟩ : TV m c p s 0 b lo hi)) q g.h0 g.h1 g.h2 g.h3 hfr
      exact f31_eq _ (by omega) (by omega)
    cases j with
    | zero =>
      have b4 : (!decide (((0 + 1 : Nat) : Int) ≤ 1)) = false := by decide
      have z0 : (sq m c p s 0 q l 0).1 = 0 := rfl
      have z1 : (sq m c p s 0 q l 0).2.1 = 0 := rfl
      rw [z0] at r0
      rw [z0, z1] at hr
      have d0 := nF hr.1
      have d1 := dF (Int.not_le.2 hr.2)
      simp only [s5_0, t5_0, Tr.val_test, Tr.val_fin, Tr.val_stop, leF_eq, hR, b0, b4, w1, b1, b2, b3', w2, r0, r1, Int.toNat_natCast, Int.toNat_zero, d0, d1, g31, e31, wrap64_nat (show 0 + 1 ≤ 9223372036854775806 by omega), Option.isSome_some, Option.getD_some, if_true, if_false, Bool.false_eq_true, Bool.not_true, Bool.not_false, decide_true, beq_self_eq_true, Bool.and_self, Bool.and_true, Bool.true_and]
      by_cases hl : 0 + 1 < lenA m c p s 0 q b l l.length
      · have b5 : (!decide ((lenA m c p s 0 q b l l.length : Int) ≤ ((0 + 1 : Nat) : Int))) = true := nT (by omega)
        have b6 : (!decide (szI (nq m c p s 0 q l 0) ≤ b)) = false := nF (szI_b (lenA_in m c p s 0 q b l l.length hl))
        simp only [b5, b6, Option.isSome_some, Option.getD_some, if_true, if_false, Bool.false_eq_true, Bool.not_true, Bool.not_false, decide_true, beq_self_eq_true, Bool.and_self, Bool.and_true, Bool.true_and]
      · have b5 : (!decide ((lenA m c p s 0 q b l l.length : Int) ≤ ((0 + 1 : Nat) : Int))) = false := nF (by omega)
        simp only [b5, Option.isSome_some, Option.getD_some, if_true, if_false, Bool.false_eq_true, Bool.not_true, Bool.not_false, decide_true, beq_self_eq_true, Bool.and_self, Bool.and_true, Bool.true_and]
    | succ i =>
      have b4 : (!decide (((i + 1 + 1 : Nat) : Int) ≤ 1)) = true := nT (by omega)
      have w3 : wrap64 (((i + 1 + 1 : Nat) : Int) - 2) = (i : Int) := by rw [wrap64_id (by omega) (by omega)]; omega
      have b7 : (decide ((0 : Int) ≤ (i : Int)) && decide ((i : Int) < ((lenA m c p s 0 q b l l.length + 1 : Nat) : Int))) = true := dA (by omega) (by omega)
      have r2 := run_now m c p s 0 q l (lenA m c p s 0 q b l l.length) i (by omega)
      rw [sq_before] at hr
      have d0 := nF hr.1
      have d1 := dF (Int.not_le.2 hr.2)
      simp only [s5_0, t5_0, Tr.val_test, Tr.val_fin, Tr.val_stop, leF_eq, hR, b0, b4, w1, w3, b1, b2, b3', b7, w2, r0, r1, r2, Int.toNat_natCast, d0, d1, g31, e31, wrap64_nat (show i + 1 + 1 ≤ 9223372036854775806 by omega), Option.isSome_some, Option.getD_some, if_true, if_false, Bool.false_eq_true, Bool.not_true, Bool.not_false, decide_true, beq_self_eq_true, Bool.and_self, Bool.and_true, Bool.true_and]
      by_cases hl : i + 1 + 1 < lenA m c p s 0 q b l l.length
      · have b5 : (!decide ((lenA m c p s 0 q b l l.length : Int) ≤ ((i + 1 + 1 : Nat) : Int))) = true := nT (by omega)
        have b6 : (!decide (szI (nq m c p s 0 q l (i + 1)) ≤ b)) = false := nF (szI_b (lenA_in m c p s 0 q b l l.length hl))
        simp only [b5, b6, Option.isSome_some, Option.getD_some, if_true, if_false, Bool.false_eq_true, Bool.not_true, Bool.not_false, decide_true, beq_self_eq_true, Bool.and_self, Bool.and_true, Bool.true_and]
      · have b5 : (!decide ((lenA m c p s 0 q b l l.length : Int) ≤ ((i + 1 + 1 : Nat) : Int))) = false := nF (by omega)
        simp only [b5, Option.isSome_some, Option.getD_some, if_true, if_false, Bool.false_eq_true, Bool.not_true, Bool.not_false, decide_true, beq_self_eq_true, Bool.and_self, Bool.and_true, Bool.true_and]
  · have hR := runUp_len (nq m c p s 0 q l) (lenA m c p s 0 q b l l.length)
    have b0 : (!decide (((lenA m c p s 0 q b l l.length + 1 : Nat) : Int) ≤ ((lenA m c p s 0 q b l l.length + 1 : Nat) : Int))) = false := nF (by omega)
    simp only [s5_0, t5_0, Tr.val_test, Tr.val_fin, leF_eq, hR, b0, Bool.false_eq_true, if_false]

/-! Ways. -/

def wW (m c p s e : Int) (q : Bool) (l : List Int) : Nat → Int
  | 0 => 0
  | i + 1 => wrap64 (wW m c p s e q l i + szI (wyA m c p s e q l i))

theorem e_off (m c p s e : Int) (q : Bool) (l : List Int) (o : Int) : ∀ i, eLo m c p s e q l 0 i = eHi m c p s e q l 0 i ∧ eLo m c p s e q l o i = wrap64 (eLo m c p s e q l 0 i - wrap64 (o * wW m c p s e q l i)) ∧ eHi m c p s e q l o i = wrap64 (eHi m c p s e q l 0 i + wrap64 (o * wW m c p s e q l i))
  | 0 => by
    have : wrap64 0 = 0 := wrap64_id (by omega) (by omega)
    refine ⟨rfl, ?_, ?_⟩
    · show (0 : Int) = wrap64 (0 - wrap64 (o * 0))
      rw [Int.mul_zero, this, Int.sub_zero, this]
    · show (0 : Int) = wrap64 (0 + wrap64 (o * 0))
      rw [Int.mul_zero, this, Int.add_zero, this]
  | i + 1 => by
    obtain ⟨h1, h2, h3⟩ := e_off m c p s e q l o i
    refine ⟨?_, ?_, ?_⟩
    · simp only [eLo, eHi, h1, Int.zero_mul, Int.sub_zero, Int.add_zero]
    · simp only [eLo, wW, h2, Int.zero_mul, Int.sub_zero, wrap64_add_l, wrap64_add_r, wrap64_sub_l, wrap64_sub_r, wrap64_mul_l, wrap64_mul_r, Int.mul_add]
      congr 1; omega
    · simp only [eHi, wW, h3, Int.zero_mul, Int.add_zero, wrap64_add_l, wrap64_add_r, wrap64_sub_l, wrap64_sub_r, wrap64_mul_l, wrap64_mul_r, Int.mul_add]
      congr 1; omega

theorem l5b (m c p s e : Int) (q : Bool) (b lo hi : Int) (v : TV m c p s e b lo hi) (l : List Int) (hf : feE lo hi l = 0) (o x y : Int) (r1 r2 : Int × Int × Unit) :
    l5_2 ((o, runUp (nq m c p s e q l) (lenA m c p s e q b l l.length), x, y, (0 : Int), (1 : Int), ()), r1, r2, ()) = some (.inl ((o, x, y, wW m c p s e q l (lenA m c p s e q b l l.length), ()), r1, r2, ())) := by
  obtain ⟨hlen, _⟩ := feE_ok hf
  have hK := lenA_le m c p s e q b l l.length
  refine itr_brk (fun j => ((o, runUp (nq m c p s e q l) (lenA m c p s e q b l l.length), x, y, wW m c p s e q l j, ((j + 1 : Nat) : Int), ()), r1, r2, ())) (n := lenA m c p s e q b l l.length) ?_ ?_ (lt_rounds (by omega))
  · intro j hj
    have g := lenA_gd m c p s e q b v.b.2 l l.length hj
    have hR := runUp_len (nq m c p s e q l) (lenA m c p s e q b l l.length)
    have hfr := frc hf v.lo v.hi (i := j) (by omega)
    have r1' := runUp_get (nq m c p s e q l) (lenA m c p s e q b l l.length) j hj
    have hwb := way_b v q l g hfr
    have e31 := f31_eq (wyA m c p s e q l j) (by omega) (by omega)
    have hww := (way_w v q l g hfr).1
    have b0 : (!decide (((lenA m c p s e q b l l.length + 1 : Nat) : Int) ≤ ((j + 1 : Nat) : Int))) = true := nT (by omega)
    have b3' : (decide ((0 : Int) ≤ ((j + 1 : Nat) : Int)) && decide (((j + 1 : Nat) : Int) < ((lenA m c p s e q b l l.length + 1 : Nat) : Int))) = true := dA (by omega) (by omega)
    cases j with
    | zero =>
      have b4 : (!decide (((0 + 1 : Nat) : Int) ≤ 1)) = false := by decide
      have hw0 : wrap64 (nq m c p s e q l 0 - 0) = wyA m c p s e q l 0 := hww
      simp only [s5_2, t5_2, Tr.val_test, Tr.val_fin, Tr.val_stop, leF_eq, hR, b0, b4, b3', r1', Int.toNat_natCast, hw0, g31, e31, wrap64_nat (show 0 + 1 ≤ 9223372036854775806 by omega), Option.isSome_some, Option.getD_some, if_true, if_false, Bool.false_eq_true, Bool.not_true, Bool.not_false, decide_true, beq_self_eq_true, Bool.and_self, Bool.and_true, Bool.true_and]
      rfl
    | succ i =>
      have b4 : (!decide (((i + 1 + 1 : Nat) : Int) ≤ 1)) = true := nT (by omega)
      have w3 : wrap64 (((i + 1 + 1 : Nat) : Int) - 2) = (i : Int) := by rw [wrap64_id (by omega) (by omega)]; omega
      have b7 : (decide ((0 : Int) ≤ (i : Int)) && decide ((i : Int) < ((lenA m c p s e q b l l.length + 1 : Nat) : Int))) = true := dA (by omega) (by omega)
      have r2' := run_now m c p s e q l (lenA m c p s e q b l l.length) i (by omega)
      have hw0 : wrap64 (nq m c p s e q l (i + 1) - (sq m c p s e q l i).1) = wyA m c p s e q l (i + 1) := hww
      simp only [s5_2, t5_2, Tr.val_test, Tr.val_fin, Tr.val_stop, leF_eq, hR, b0, b4, w3, b3', b7, r1', r2', Int.toNat_natCast, hw0, g31, e31, wrap64_nat (show i + 1 + 1 ≤ 9223372036854775806 by omega), Option.isSome_some, Option.getD_some, if_true, if_false, Bool.false_eq_true, Bool.not_true, Bool.not_false, decide_true, beq_self_eq_true, Bool.and_self, Bool.and_true, Bool.true_and]
      rfl
  · have hR := runUp_len (nq m c p s e q l) (lenA m c p s e q b l l.length)
    have b0 : (!decide (((lenA m c p s e q b l l.length + 1 : Nat) : Int) ≤ ((lenA m c p s e q b l l.length + 1 : Nat) : Int))) = false := nF (by omega)
    simp only [s5_2, t5_2, Tr.val_test, Tr.val_fin, leF_eq, hR, b0, Bool.false_eq_true, if_false]

end Go.Vm.Mo

namespace Go.Vm.Mo
open Go
set_option linter.unusedVariables false
set_option linter.unusedSimpArgs false

theorem f5_eq (m c p s e : Int) (q : Bool) (b lo hi : Int) (l : List Int) (o : Int) (h64 : l.length ≤ 9223372036854775807) : f5 ((m, c, p, s, e, q, b, (lo, hi, ()), ()), l, o, ()) = some (true, ()) := by
  by_cases h40 : 40 < l.length
  · have b0 : (!decide ((l.length : Int) ≤ 40)) = true := nT (by omega)
    simp only [f5, t5, Tr.val_test, Tr.val_fin, leF_eq, b0, if_true]
  · have b0 : (!decide ((l.length : Int) ≤ 40)) = false := nF (by omega)
    have e17 := f17_eq m c p s e q b lo hi
    by_cases h0 : tE m c p s e b lo hi = 0
    · obtain ⟨v, _, _⟩ := tE_ok h0
      have e27 := f27_eq m c p s e q b lo hi l (by omega)
      have q0 : (!decide (tE m c p s e b lo hi = 0)) = false := nF h0
      by_cases hf : feE lo hi l = 0
      · have q1 : (!decide (feE lo hi l = 0)) = false := nF hf
        have e29 := f29_eq (o, ())
        rcases Bool.eq_false_or_eq_true (wi 0 1000 o) with ho | ho
        · simp only [ho, if_true] at e29
          have e12 := f12_eq l (by omega)
          have hs0 := tE_still h0
          have hr0 : rE m c p s 0 b lo hi l = 0 := by unfold rE; rw [if_pos hs0]; exact hf
          have hr : rE m c p s e b lo hi l = 0 := by unfold rE; rw [if_pos h0]; exact hf
          have e25s := f25_eq m c p s 0 q b lo hi l (by omega)
          rw [if_pos hr0] at e25s
          have e25 := f25_eq m c p s e q b lo hi l (by omega)
          rw [if_pos hr] at e25
          have hh : (l.take (l.length / 2)).length = l.length / 2 := by simp; omega
          have hrh : rE m c p s e b lo hi (l.take (l.length / 2)) = 0 := by unfold rE; rw [if_pos h0]; exact feE_take hf _
          have e25h := f25_eq m c p s e q b lo hi (l.take (l.length / 2)) (by omega)
          rw [if_pos hrh, hh] at e25h
          obtain ⟨hk, hrun⟩ := half_run m c p s e q b l (l.length / 2) l.length (by omega)
          rw [hrun] at e25h
          have e12h := f12_eq (l.take (l.length / 2)) (by omega)
          have hw0 : wi 0 1000 0 = true := by decide
          have e26s := f26_eq m c p s 0 q b lo hi l 0 (by omega)
          rw [if_pos (show oE m c p s 0 b lo hi l 0 = 0 by unfold oE; rw [if_pos hr0, if_pos hw0]), (e0_still m c p s q l _).1, (e0_still m c p s q l _).2] at e26s
          have e26z := f26_eq m c p s e q b lo hi l 0 (by omega)
          rw [if_pos (show oE m c p s e b lo hi l 0 = 0 by unfold oE; rw [if_pos hr, if_pos hw0])] at e26z
          have e26o := f26_eq m c p s e q b lo hi l o (by omega)
          rw [if_pos (show oE m c p s e b lo hi l o = 0 by unfold oE; rw [if_pos hr, if_pos ho])] at e26o
          have e16 := f16_eq m c p s 0 q b lo hi
          have n0 := runUp_len (nq m c p s 0 q l) (lenA m c p s 0 q b l l.length)
          have n1 := runUp_len (nq m c p s e q l) (lenA m c p s e q b l l.length)
          have n2 := runUp_len (nq m c p s e q l) (lenA m c p s e q b (l.take (l.length / 2)) (l.length / 2))
          have k0 := lenA_le m c p s 0 q b l l.length
          have k1 := lenA_le m c p s e q b l l.length
          have k2 := lenA_le m c p s e q b (l.take (l.length / 2)) (l.length / 2)
          have z0 := runUp_zero (nq m c p s 0 q l) (lenA m c p s 0 q b l l.length)
          have z1 := l5a m c p s e q b lo hi v l hf o
          obtain ⟨z2, z3, z4⟩ := e_off m c p s e q l o (lenA m c p s e q b l l.length)
          have z5 := l5b m c p s e q b lo hi v l hf o 0 0 (eLo m c p s e q l 0 (lenA m c p s e q b l l.length), eHi m c p s e q l 0 (lenA m c p s e q b l l.length), ()) (eLo m c p s e q l o (lenA m c p s e q b l l.length), eHi m c p s e q l o (lenA m c p s e q b l l.length), ())
          have w0 : wrap64 ((l.length : Int) + 1) = ((l.length + 1 : Nat) : Int) := wrap64_nat (by omega)
          have w1 := td2 l.length (by omega)
          have d0 : decide ((((lenA m c p s 0 q b l l.length) + 1 : Nat) : Int) = 0) = false := dF (by omega)
          have d1 : (!decide ((((lenA m c p s 0 q b l l.length) + 1 : Nat) : Int) ≤ ((l.length + 1 : Nat) : Int))) = false := nF (by omega)
          have d2 : decide ((0 : Int) < (((lenA m c p s 0 q b l l.length) + 1 : Nat) : Int)) = true := dT (by omega)
          have d3 : decide ((((lenA m c p s e q b l l.length) + 1 : Nat) : Int) = 0) = false := dF (by omega)
          have d4 : (!decide ((((lenA m c p s e q b l l.length) + 1 : Nat) : Int) ≤ ((l.length + 1 : Nat) : Int))) = false := nF (by omega)
          have d5 : (!decide ((((lenA m c p s e q b (l.take (l.length / 2)) (l.length / 2)) + 1 : Nat) : Int) ≤ (((lenA m c p s e q b l l.length) + 1 : Nat) : Int))) = false := nF (by omega)
          have d6 : (decide ((0 : Int) ≤ (((lenA m c p s e q b (l.take (l.length / 2)) (l.length / 2)) + 1 : Nat) : Int)) && decide ((((lenA m c p s e q b (l.take (l.length / 2)) (l.length / 2)) + 1 : Nat) : Int) ≤ (((lenA m c p s e q b l l.length) + 1 : Nat) : Int))) = true := dA (by omega) (by omega)
          have d7 : (decide ((0 : Int) ≤ ((l.length / 2 : Nat) : Int)) && decide (((l.length / 2 : Nat) : Int) ≤ (l.length : Int))) = true := dA (by omega) (by omega)
          have z6 := runUp_take (nq m c p s e q l) (lenA m c p s e q b l l.length) (lenA m c p s e q b (l.take (l.length / 2)) (l.length / 2)) hk
          have e24h := f24_self (runUp (nq m c p s e q l) (lenA m c p s e q b (l.take (l.length / 2)) (l.length / 2))) (by omega)
          by_cases hw : wE m c p s 0 b lo hi = 0
          · rw [if_pos hw] at e16
            have hps := (wE_ok hw).2
            have hrw : rE m c (p + s) 0 0 b lo hi l = 0 := by unfold rE; rw [if_pos (tE_whole hs0 hps)]; exact hf
            have e25w := f25_eq m c (p + s) 0 0 q b lo hi l (by omega)
            rw [if_pos hrw, nq_whole, lenA_whole] at e25w
            have e24 := f24_self (runUp (nq m c p s 0 q l) (lenA m c p s 0 q b l l.length)) (by omega)
            simp only [f5, t5, Tr.val_test, Tr.val_fin, Tr.val_stop, leF_eq, eqF_eq, b0, g17, e17, q0, g27, e27, q1, g29, e29, g12, e12, g25, e25s, e25w, e25, e12h, e25h, g26, e26s, e26z, e26o, g16, e16, n0, n1, n2, z0, w0, w1, d0, d1, d2, d3, d4, d5, d6, d7, g24, e24, z1, isRet, b5_0, outB, Int.toNat_natCast, z6, e24h, z5, isBrk, b5_2, Option.isSome_some, Option.getD_some, if_true, if_false, Bool.false_eq_true, Bool.not_true, Bool.not_false, decide_true, beq_self_eq_true, Bool.and_self, Bool.and_true, Bool.true_and]
            simp only [z2, z3, z4, decide_true, beq_self_eq_true, Bool.and_self, if_true, Bool.and_true]
          · have hw8 : wE m c p s 0 b lo hi = 8 := by
              unfold wE at hw ⊢
              rw [if_pos hs0] at hw ⊢
              split at hw
              · exact absurd rfl hw
              · rename_i h; rw [if_neg h]
            rw [if_neg hw, hw8] at e16
            have d8 : decide ((8 : Int) = 0) = false := by decide
            simp only [f5, t5, Tr.val_test, Tr.val_fin, Tr.val_stop, leF_eq, eqF_eq, b0, g17, e17, q0, g27, e27, q1, g29, e29, g12, e12, g25, e25s, e25, e12h, e25h, g26, e26s, e26z, e26o, g16, e16, d8, n0, n1, n2, z0, w0, w1, d0, d1, d2, d3, d4, d5, d6, d7, g24, z1, isRet, b5_0, outB, Int.toNat_natCast, z6, e24h, z5, isBrk, b5_2, Option.isSome_some, Option.getD_some, if_true, if_false, Bool.false_eq_true, Bool.not_true, Bool.not_false, decide_true, beq_self_eq_true, Bool.and_self, Bool.and_true, Bool.true_and]
            simp only [z2, z3, z4, decide_true, beq_self_eq_true, Bool.and_self, if_true, Bool.and_true]
        · simp only [ho, Bool.false_eq_true, if_false] at e29
          have q2 : (!decide ((2 : Int) = 0)) = true := by decide
          simp only [f5, t5, Tr.val_test, Tr.val_fin, Tr.val_stop, leF_eq, eqF_eq, b0, g17, e17, q0, g27, e27, q1, g29, e29, q2, Option.isSome_some, Option.getD_some, if_true, if_false, Bool.false_eq_true]
      · have q1 : (!decide (feE lo hi l = 0)) = true := nT hf
        simp only [f5, t5, Tr.val_test, Tr.val_fin, Tr.val_stop, leF_eq, eqF_eq, b0, g17, e17, q0, g27, e27, q1, Option.isSome_some, Option.getD_some, if_true, if_false, Bool.false_eq_true]
    · have q0 : (!decide (tE m c p s e b lo hi = 0)) = true := nT h0
      simp only [f5, t5, Tr.val_test, Tr.val_fin, Tr.val_stop, leF_eq, eqF_eq, b0, g17, e17, q0, Option.isSome_some, Option.getD_some, if_true, if_false, Bool.false_eq_true]

theorem law5 (d : Tys.data as5) (hw : Tys.Wf as5 d) : Pure1 Go.Proofs.Try.prog 5 as5 [.bool] d (true, ()) := by
  have hl : List.length d.2.1 ≤ 9223372036854775807 := hw.2.1.1
  have h := f5_eq d.1.1 d.1.2.1 d.1.2.2.1 d.1.2.2.2.1 d.1.2.2.2.2.1 d.1.2.2.2.2.2.1 d.1.2.2.2.2.2.2.1 d.1.2.2.2.2.2.2.2.1.1 d.1.2.2.2.2.2.2.2.1.2.1 d.2.1 d.2.2.1 hl
  have hp : p5.pre d = true := by
    show Option.isSome (f5 d) = true
    rw [show f5 d = some (true, ()) from h]; rfl
  have hg : p5.fn d = (true, ()) := by
    show (f5 d).getD _ = _
    rw [show f5 d = some (true, ()) from h]; rfl
  have := ok5.runs d hp
  rw [hg] at this
  exact this

end Go.Vm.Mo
