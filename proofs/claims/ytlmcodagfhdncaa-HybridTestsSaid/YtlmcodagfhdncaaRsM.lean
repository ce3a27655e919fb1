import Derived.Test.YtlmcodagfhdncaaRsFd
import Derived.Test.YtlmcodagfhdncaaA4
set_option linter.unusedVariables false
set_option linter.unusedSimpArgs false

namespace Go.Vm.Mo
open Go
set_option linter.unusedVariables false
set_option linter.unusedSimpArgs false

theorem dT {p : Prop} [Decidable p] (h : p) : decide p = true := decide_eq_true h
theorem nT {p : Prop} [Decidable p] (h : ¬ p) : (!decide p) = true := by rw [decide_eq_false h]; rfl
theorem nF {p : Prop} [Decidable p] (h : p) : (!decide p) = false := by rw [decide_eq_true h]; rfl
theorem dA {p q : Prop} [Decidable p] [Decidable q] (h : p) (k : q) : (decide p && decide q) = true := by rw [decide_eq_true h, decide_eq_true k]; rfl

theorem first_map (bad : Nat → Bool) : ∀ (n i : Nat), first bad n (i + 1) = (first (fun k => bad (k + 1)) n i).map (· + 1)
  | 0, _ => rfl
  | n + 1, i => by
    simp only [first]
    split
    · rfl
    · exact first_map bad n (i + 1)

def firstNZ : List Int → Int
  | [] => 0
  | a :: l => if a = 0 then firstNZ l else a

theorem firstNZ_eq : ∀ l : List Int, (match first (fun i => !decide (l.getD i 0 = 0)) l.length 0 with
    | some k => l.getD k 0
    | none => 0) = firstNZ l
  | [] => rfl
  | a :: l => by
    simp only [List.length, first, firstNZ]
    by_cases ha : a = 0
    · subst ha
      have e := firstNZ_eq l
      have hf : first (fun i => !decide (((0 : Int) :: l).getD i 0 = 0)) l.length (0 + 1) = (first (fun i => !decide (l.getD i 0 = 0)) l.length 0).map (· + 1) := by
        rw [first_map]; rfl
      simp only [hf, List.getD_cons_zero, decide_true, Bool.not_true, Bool.false_eq_true, if_false, if_true]
      rw [← e]
      cases first (fun i => !decide (l.getD i 0 = 0)) l.length 0 with
      | none => rfl
      | some k => rfl
    · simp [ha]

theorem l59 (l : List Int) (h : l.length ≤ 1000000000) : l59_0 ((l, (l.length : Int), (0 : Int), ()), ()) = match first (fun i => !decide (l.getD i 0 = 0)) l.length 0 with
    | some k => some (.inr ((l.getD k 0, ()), ()))
    | none => some (.inl ((), ())) := by
  refine itr_search (fun i => ((l, (l.length : Int), (i : Int), ()), ())) (fun i => !decide (l.getD i 0 = 0)) (fun k => ((l.getD k 0, ()), ())) (n := l.length) ?_ ?_ (lt_rounds (by omega))
  · intro i hi
    simp only [s59_0, t59_0, Tr.val_test, leF_eq, eqF_eq]
    rw [if_pos (by simp; omega), if_pos (by simp; omega)]
    simp only [Int.toNat_natCast, wrap64_nat (show i ≤ 9223372036854775806 by omega)]
    rfl
  · simp [s59_0, t59_0, leF_eq]

theorem f59_eq (l : List Int) (h : l.length ≤ 1000000000) : f59 (l, ()) = some (firstNZ l, ()) := by
  simp only [f59, t59, Tr.val_test, r59_0, l59 l h, ← firstNZ_eq l]
  cases first (fun i => !decide (l.getD i 0 = 0)) l.length 0 with
  | none => rfl
  | some k => rfl

theorem f60_eq (d : Tys.data as60) : f60 d = some (if d.1 = true then d.2.1 else (0 : Int), ()) := by
  simp only [f60, t60, Tr.val_test]
  split <;> rfl

def wi (lo hi x : Int) : Bool := decide (lo ≤ x) && decide (x ≤ hi)

theorem wi_iff {lo hi x : Int} : wi lo hi x = true ↔ lo ≤ x ∧ x ≤ hi := by simp [wi]

theorem f39_eq (d : Tys.data as39) : f39 d = some (wi d.2.1 d.2.2.1 d.1, ()) := by
  simp only [f39, t39, Tr.val_test, Tr.val_fin, leF_eq, decide_eq_true_eq, wi]
  split <;> simp [*]

theorem l57 (lo hi : Int) (l : List Int) (h : l.length ≤ 1000000000) : l57_0 ((lo, hi, l, (l.length : Int), (0 : Int), ()), ()) = match first (fun i => !wi lo hi (l.getD i 0)) l.length 0 with
    | some _ => some (.inr ((false, ()), ()))
    | none => some (.inl ((), ())) := by
  refine itr_search (fun i => ((lo, hi, l, (l.length : Int), (i : Int), ()), ())) (fun i => !wi lo hi (l.getD i 0)) (fun _ => ((false, ()), ())) (n := l.length) ?_ ?_ (lt_rounds (by omega))
  · intro i hi'
    simp only [s57_0, t57_0, Tr.val_test, Tr.val_fin, leF_eq, Int.toNat_natCast, wrap64_nat (show i ≤ 9223372036854775806 by omega)]
    rw [if_pos (by simp; omega), if_pos (by simp; omega)]
    by_cases a0 : lo ≤ l.getD i 0
    · by_cases a1 : l.getD i 0 ≤ hi
      · simp only [wi, a0, a1, decide_true, Bool.and_self, Bool.not_true, if_true, if_false, Bool.false_eq_true]
      · simp only [wi, a0, a1, decide_true, decide_false, Bool.and_false, Bool.not_false, Bool.not_true, if_true, if_false, Bool.false_eq_true]
    · simp only [wi, a0, decide_false, Bool.false_and, Bool.not_false, if_true, if_false, Bool.false_eq_true]
  · simp [s57_0, t57_0, leF_eq]

theorem f57_eq (lo hi : Int) (l : List Int) (h : l.length ≤ 1000000000) : f57 (lo, hi, l, ()) = some ((first (fun i => !wi lo hi (l.getD i 0)) l.length 0).isNone, ()) := by
  have hl := l57 lo hi l h
  cases hf : first (fun i => !wi lo hi (l.getD i 0)) l.length 0 with
  | none =>
    rw [hf] at hl
    simp only [f57, t57, Tr.val_test, Tr.val_fin, hl, isRet, Option.isSome_some, Option.isNone_none, if_true, Bool.false_eq_true, if_false]
  | some k =>
    rw [hf] at hl
    simp only [f57, t57, Tr.val_test, Tr.val_fin, hl, isRet, r57_0, outR, Option.isSome_some, Option.isNone_some, if_true]

theorem f57_one (lo hi a : Int) : f57 (lo, hi, [a], ()) = some (wi lo hi a, ()) := by
  rw [f57_eq lo hi _ (by simp)]
  simp only [first, List.length, List.getD_cons_zero]
  by_cases h1 : wi lo hi a = true
  · simp [h1]
  · simp [h1]

theorem f57_two (lo hi a b : Int) : f57 (lo, hi, [a, b], ()) = some (wi lo hi a && wi lo hi b, ()) := by
  rw [f57_eq lo hi _ (by simp)]
  simp only [first, List.length, List.getD_cons_zero, List.getD_cons_succ]
  by_cases h1 : wi lo hi a = true
  · by_cases h2 : wi lo hi b = true
    · simp [h1, h2]
    · simp [h1, h2]
  · simp [h1]

theorem q24_0 (l : List Int) (h : l.length ≤ 1000000) : l24_0 ((l, l, (0 : Int), ()), ()) = some (.inl ((), ())) := by
  refine itr_brk (fun i => ((l, l, (i : Int), ()), ())) (n := l.length) ?_ ?_ (lt_rounds (by omega))
  · intro i hi
    simp only [s24_0, t24_0, Tr.val_test, Tr.val_fin, Tr.val_stop, leF_eq, eqF_eq, Int.toNat_natCast, wrap64_nat (show i ≤ 9223372036854775806 by omega)]
    rw [if_pos (by simp; omega), if_pos (by simp; omega), if_pos (by simp; omega)]
    simp
  · simp [s24_0, t24_0, leF_eq]

theorem f24_self (l : List Int) (h : l.length ≤ 1000000) : f24 (l, l, ()) = some (true, ()) := by
  simp only [f24, t24, Tr.val_test, Tr.val_fin, Tr.val_stop, q24_0 l h, isRet, eqF_eq, decide_true, Bool.not_true, Bool.false_eq_true, if_false, Option.isSome_some, if_true]

theorem f12_eq (l : List Int) (h : l.length ≤ 1000) : f12 (l, ()) = some (l, ()) := by
  simp only [f12, t12, Tr.val_test, Tr.val_fin, Tr.val_stop, List.nil_append]
  by_cases h0 : l.length = 0
  · have : l = [] := List.eq_nil_of_length_eq_zero h0
    subst this; rfl
  · rw [if_neg (by rw [beq_eq_true']; exact h0), if_neg (by rw [ble_eq_true']; omega), if_pos (by simp only [Bool.and_eq_true, ble_eq_true']; omega), if_pos (by rw [beq_eq_true']; omega)]

theorem wn64 {x : Int} (h1 : -9223372036854775807 ≤ x) (h2 : x ≤ 9223372036854775807) : IntKind.wrap .i64 (0 - x) = -x := by
  rw [← wrap64_eq, wrap64_id (by omega) (by omega)]
  omega

theorem f58_one (b x : Int) (h0 : 0 ≤ b) (h1 : b ≤ 9223372036854775807) : f58 (b, [x], ()) = some (!wi (-b) b x, ()) := by
  have e := f57_one (-b) b x
  simp only [f58, t58, Tr.val_test, Tr.val_fin, g57, wn64 (show -9223372036854775807 ≤ b by omega) h1, e, Option.isSome_some, Option.getD_some, if_true]

theorem f57_three (lo hi a b c : Int) : f57 (lo, hi, [a, b, c], ()) = some (wi lo hi a && (wi lo hi b && wi lo hi c), ()) := by
  rw [f57_eq lo hi _ (by simp)]
  simp only [first, List.length, List.getD_cons_zero, List.getD_cons_succ]
  by_cases h1 : wi lo hi a = true
  · by_cases h2 : wi lo hi b = true
    · by_cases h3 : wi lo hi c = true
      · simp [h1, h2, h3]
      · simp [h1, h2, h3]
    · simp [h1, h2]
  · simp [h1]

theorem f58_list (b : Int) (l : List Int) (h0 : 0 ≤ b) (h1 : b ≤ 9223372036854775807) (h : l.length ≤ 1000000000) : f58 (b, l, ()) = some (!(first (fun i => !wi (-b) b (l.getD i 0)) l.length 0).isNone, ()) := by
  have e := f57_eq (-b) b l h
  simp only [f58, t58, Tr.val_test, Tr.val_fin, Tr.val_stop, g57, wn64 (show -9223372036854775807 ≤ b by omega) h1, e, Option.isSome_some, Option.getD_some, if_true]

theorem f58_two (b x y : Int) (h0 : 0 ≤ b) (h1 : b ≤ 9223372036854775807) : f58 (b, [x, y], ()) = some (!(wi (-b) b x && wi (-b) b y), ()) := by
  have e := f57_two (-b) b x y
  simp only [f58, t58, Tr.val_test, Tr.val_fin, Tr.val_stop, g57, wn64 (show -9223372036854775807 ≤ b by omega) h1, e, Option.isSome_some, Option.getD_some, if_true]

theorem f59_ab (a b : Int) : f59 ([a, b], ()) = some (if a = 0 then b else a, ()) := by
  rw [f59_eq _ (by simp)]
  simp only [firstNZ]
  by_cases h0 : b = 0 <;> simp [h0]

theorem f59_abc (a b c : Int) : f59 ([a, b, c], ()) = some (if a = 0 then if b = 0 then c else b else a, ()) := by
  rw [f59_eq _ (by simp)]
  simp only [firstNZ]
  by_cases h0 : c = 0 <;> simp [h0]

def tI (m c p s e b lo hi : Int) : Bool := wi 1 1000 m && ((wi 0 1000 c && (wi 0 1000 p && wi 0 1000 s)) && (wi 0 2 e && (wi 0 3 b && (wi (-1000) 1000 lo && wi (-1000) 1000 hi))))
def tE (m c p s e b lo hi : Int) : Int := if tI m c p s e b lo hi = true then if lo ≤ hi then if hi - lo ≤ 8 then 0 else 8 else 9 else 2

structure TV (m c p s e b lo hi : Int) : Prop where
  m : 1 ≤ m ∧ m ≤ 1000
  c : 0 ≤ c ∧ c ≤ 1000
  p : 0 ≤ p ∧ p ≤ 1000
  s : 0 ≤ s ∧ s ≤ 1000
  e : 0 ≤ e ∧ e ≤ 2
  b : 0 ≤ b ∧ b ≤ 3
  lo : -1000 ≤ lo ∧ lo ≤ 1000
  hi : -1000 ≤ hi ∧ hi ≤ 1000

theorem tI_ok {m c p s e b lo hi : Int} (h : tI m c p s e b lo hi = true) : TV m c p s e b lo hi := by
  simp only [tI, Bool.and_eq_true, wi_iff] at h
  exact ⟨h.1, h.2.1.1, h.2.1.2.1, h.2.1.2.2, h.2.2.1, h.2.2.2.1, h.2.2.2.2.1, h.2.2.2.2.2⟩

theorem tE_ok {m c p s e b lo hi : Int} (h : tE m c p s e b lo hi = 0) : TV m c p s e b lo hi ∧ lo ≤ hi ∧ hi - lo ≤ 8 := by
  unfold tE at h
  split at h
  · rename_i hI
    split at h
    · split at h
      · rename_i h1 h2; exact ⟨tI_ok hI, h1, h2⟩
      · cases h
    · cases h
  · cases h

theorem f10_eq (m c p s e : Int) (q : Bool) (b lo hi : Int) : f10 ((m, c, p, s, e, q, b, (lo, hi, ()), ()), ()) = some (tE m c p s e b lo hi, ()) := by
  have c57 : ∀ a b x : Int, f57 (a, b, [x], ()) = some (wi a b x, ()) := f57_one
  have d57 : ∀ a b x y z : Int, f57 (a, b, [x, y, z], ()) = some (wi a b x && (wi a b y && wi a b z), ()) := f57_three
  have c58 := f58_two 1000 lo hi (by omega) (by omega)
  have c59 : ∀ a b c : Int, f59 ([a, b, c], ()) = some (if a = 0 then if b = 0 then c else b else a, ()) := f59_abc
  simp only [f10, t10, Tr.val_test, Tr.val_fin, Tr.val_stop, g57, g58, g60, g59, c57, d57, c58, f60_eq, c59, leF_eq, Option.isSome_some, Option.getD_some, if_true, tE, Bool.not_not]
  by_cases hI : tI m c p s e b lo hi = true
  · have v := tI_ok hI
    have hI' := hI
    simp only [tI, Bool.and_eq_true] at hI'
    obtain ⟨i1, ⟨i2, i3, i4⟩, i5, i6, i7, i8⟩ := hI'
    have w1 : wrap64 (wrap64 (hi - lo) + 1) = hi - lo + 1 := by
      have h1 := v.lo; have h2 := v.hi
      rw [wrap64_id (n := hi - lo) (by omega) (by omega), wrap64_id (by omega) (by omega)]
    simp only [i1, i2, i3, i4, i5, i6, i7, i8, hI, w1, Bool.and_self, Bool.not_true, Bool.false_eq_true, if_false, if_true]
    by_cases h1 : lo ≤ hi
    · by_cases h2 : hi - lo ≤ 8
      · have h3 : hi - lo + 1 ≤ 9 := by omega
        simp [h1, h2, h3]
      · have h3 : ¬ hi - lo + 1 ≤ 9 := by omega
        simp [h1, h2, h3]
    · simp [h1]
  · simp only [hI, Bool.false_eq_true, if_false]
    rcases Bool.eq_false_or_eq_true (wi 1 1000 m) with hA | hA
    · rcases Bool.eq_false_or_eq_true (wi 0 1000 c && (wi 0 1000 p && wi 0 1000 s)) with hB | hB
      · rcases Bool.eq_false_or_eq_true (wi 0 2 e) with hC | hC
        · rcases Bool.eq_false_or_eq_true (wi 0 3 b) with hD | hD
          · rcases Bool.eq_false_or_eq_true (wi (-1000) 1000 lo && wi (-1000) 1000 hi) with hF | hF
            · exact absurd (by simp only [tI, hA, hB, hC, hD, hF, Bool.and_self]) hI
            · simp only [hA, hB, hC, hD, hF, if_true, Bool.not_false]; rfl
          · simp only [hA, hB, hC, hD, if_true, Bool.false_eq_true, if_false]; rfl
        · simp only [hA, hB, hC, if_true, Bool.false_eq_true, if_false]; rfl
      · simp only [hA, hB, if_true, Bool.false_eq_true, if_false]; rfl
    · simp only [hA, if_true, Bool.false_eq_true, if_false]; rfl

theorem f17_eq (m c p s e : Int) (q : Bool) (b lo hi : Int) : f17 ((m, c, p, s, e, q, b, (lo, hi, ()), ()), ()) = some (tE m c p s e b lo hi, ()) := by
  simp only [f17, t17, Tr.val_test, Tr.val_fin, Tr.val_stop, g39, f39_eq, leF_eq, Option.isSome_some, Option.getD_some, if_true, tE]
  by_cases hI : tI m c p s e b lo hi = true
  · have v := tI_ok hI
    have hI' := hI
    simp only [tI, Bool.and_eq_true] at hI'
    obtain ⟨i1, ⟨i2, i3, i4⟩, i5, i6, i7, i8⟩ := hI'
    have w1 : wrap64 (hi - lo) = hi - lo := by
      have h1 := v.lo; have h2 := v.hi
      rw [wrap64_id (by omega) (by omega)]
    simp only [i1, i2, i3, i4, i5, i6, i7, i8, hI, w1, Bool.not_true, Bool.false_eq_true, if_false, if_true]
    by_cases h1 : lo ≤ hi
    · by_cases h2 : hi - lo ≤ 8
      · have h3 : ¬ 9 ≤ hi - lo := by omega
        simp [h1, h2, h3]
      · have h3 : 9 ≤ hi - lo := by omega
        simp [h1, h2, h3]
    · simp [h1]
  · simp only [hI, Bool.false_eq_true, if_false]
    rcases Bool.eq_false_or_eq_true (wi 1 1000 m) with hA | hA
    · rcases Bool.eq_false_or_eq_true (wi 0 1000 c) with hB | hB
      · rcases Bool.eq_false_or_eq_true (wi 0 1000 p) with hC | hC
        · rcases Bool.eq_false_or_eq_true (wi 0 1000 s) with hD | hD
          · rcases Bool.eq_false_or_eq_true (wi 0 2 e) with hE | hE
            · rcases Bool.eq_false_or_eq_true (wi 0 3 b) with hF | hF
              · rcases Bool.eq_false_or_eq_true (wi (-1000) 1000 lo) with hG | hG
                · rcases Bool.eq_false_or_eq_true (wi (-1000) 1000 hi) with hH | hH
                  · exact absurd (by simp only [tI, hA, hB, hC, hD, hE, hF, hG, hH, Bool.and_self]) hI
                  · simp [hA, hB, hC, hD, hE, hF, hG, hH]
                · simp [hA, hB, hC, hD, hE, hF, hG]
              · simp [hA, hB, hC, hD, hE, hF]
            · simp [hA, hB, hC, hD, hE]
          · simp [hA, hB, hC, hD]
        · simp [hA, hB, hC]
      · simp [hA, hB]
    · simp [hA]

theorem f61_eq (m c p s e : Int) (q : Bool) (b lo hi : Int) : f61 ((m, c, p, s, e, q, b, (lo, hi, ()), ()), ()) = some (if tE m c p s e b lo hi = 0 then (((m, c, p, s, e, q, b, (lo, hi, ()), ()), ()), (0 : Int), ()) else ((((0 : Int), (0 : Int), (0 : Int), (0 : Int), (0 : Int), false, (0 : Int), ((0 : Int), (0 : Int), ()), ()), ()), tE m c p s e b lo hi, ())) := by
  have e0 := f10_eq m c p s e q b lo hi
  simp only [f61, t61, Tr.val_test, Tr.val_fin, Tr.val_stop, g10, e0, eqF_eq, Option.isSome_some, Option.getD_some, if_true]
  by_cases h : tE m c p s e b lo hi = 0
  · simp [h]
  · simp [h]

theorem f92_eq (d : Tys.data as92) : f92 d = some (wrap64 (d.1.1.2.2.2.2.1 + 2), ()) := rfl

def inB (b : Int) (l : List Int) : Bool := (first (fun i => !wi (-b) b (l.getD i 0)) l.length 0).isNone
def stE (e b : Int) (l : List Int) : Int := if (l.length : Int) = e + 2 then if inB b l = true then 0 else 2 else 10

theorem f62_eq (m c p s e : Int) (q : Bool) (b lo hi : Int) (l : List Int) (h : l.length ≤ 1000000) (he : 0 ≤ e ∧ e ≤ 2) (hb : 0 ≤ b ∧ b ≤ 3) : f62 (((m, c, p, s, e, q, b, (lo, hi, ()), ()), ()), l, ()) = some (stE e b l, ()) := by
  have c58 := f58_list b l hb.1 (by omega) (by omega)
  have c59 : ∀ a b : Int, f59 ([a, b], ()) = some (if a = 0 then b else a, ()) := f59_ab
  have w1 : wrap64 (e + 2) = e + 2 := wrap64_id (by omega) (by omega)
  simp only [f62, t62, Tr.val_test, Tr.val_fin, Tr.val_stop, g92, f92_eq, g58, c58, g60, f60_eq, g59, c59, w1, eqF_eq, Option.isSome_some, Option.getD_some, if_true, stE, inB]
  by_cases h1 : (l.length : Int) = e + 2
  · simp only [h1, decide_true, Bool.not_true, Bool.false_eq_true, if_false, if_true]
    rcases Bool.eq_false_or_eq_true (first (fun i => !wi (-b) b (l.getD i 0)) l.length 0).isNone with hN | hN <;> simp only [hN] <;> rfl
  · simp only [h1, decide_false, Bool.not_false, if_true, if_false]; rfl

theorem f11_eq (m c p s e : Int) (q : Bool) (b lo hi : Int) (l : List Int) (h : l.length ≤ 1000000) : f11 ((m, c, p, s, e, q, b, (lo, hi, ()), ()), l, ()) = some (if tE m c p s e b lo hi = 0 then stE e b l else tE m c p s e b lo hi, ()) := by
  have e0 := f61_eq m c p s e q b lo hi
  have c59 : ∀ a b : Int, f59 ([a, b], ()) = some (if a = 0 then b else a, ()) := f59_ab
  by_cases h0 : tE m c p s e b lo hi = 0
  · obtain ⟨v, _, _⟩ := tE_ok h0
    have e1 := f62_eq m c p s e q b lo hi l h v.e v.b
    rw [if_pos h0] at e0
    simp only [f11, t11, Tr.val_test, Tr.val_fin, Tr.val_stop, g61, e0, g62, e1, g59, c59, Option.isSome_some, Option.getD_some, if_true, h0]
  · have e1 := f62_eq 0 0 0 0 0 false 0 0 0 l h ⟨by omega, by omega⟩ ⟨by omega, by omega⟩
    rw [if_neg h0] at e0
    simp only [f11, t11, Tr.val_test, Tr.val_fin, Tr.val_stop, g61, e0, g62, e1, g59, c59, Option.isSome_some, Option.getD_some, if_true, h0, if_false]

theorem l20_eq (l : List Int) (h : l.length ≤ 1000000) (m c p s e : Int) (q : Bool) (b lo hi : Int) (hb : 0 ≤ b ∧ b ≤ 3) : l20_0 ((l, (0 : Int), ()), (m, c, p, s, e, q, b, lo, hi, ()), ()) = match first (fun i => !wi (-b) b (l.getD i 0)) l.length 0 with
    | some _ => some (.inr (((2 : Int), ()), (m, c, p, s, e, q, b, lo, hi, ()), ()))
    | none => some (.inl ((), (m, c, p, s, e, q, b, lo, hi, ()), ())) := by
  refine itr_search (fun i => ((l, (i : Int), ()), (m, c, p, s, e, q, b, lo, hi, ()), ())) (fun i => !wi (-b) b (l.getD i 0)) (fun _ => (((2 : Int), ()), (m, c, p, s, e, q, b, lo, hi, ()), ())) (n := l.length) ?_ ?_ (lt_rounds (by omega))
  · intro i hi'
    have b0 : (!decide ((l.length : Int) ≤ (i : Int))) = true := nT (by omega)
    have b1 : (decide ((0 : Int) ≤ (i : Int)) && decide ((i : Int) < (l.length : Int))) = true := dA (by omega) (by omega)
    simp only [s20_0, t20_0, Tr.val_test, Tr.val_fin, Tr.val_stop, leF_eq, b0, b1, g39, f39_eq, wn64 (show -9223372036854775807 ≤ b by omega) (by omega), Option.isSome_some, Option.getD_some, if_true, Int.toNat_natCast, wrap64_nat (show i ≤ 9223372036854775806 by omega)]
  · simp [s20_0, t20_0, leF_eq]

theorem f20_eq (m c p s e : Int) (q : Bool) (b lo hi : Int) (l : List Int) (h : l.length ≤ 1000000) (he : 0 ≤ e ∧ e ≤ 2) (hb : 0 ≤ b ∧ b ≤ 3) : f20 ((m, c, p, s, e, q, b, (lo, hi, ()), ()), l, ()) = some (stE e b l, ()) := by
  have e0 := l20_eq l h m c p s e q b lo hi hb
  have w1 : wrap64 (e + 2) = e + 2 := wrap64_id (by omega) (by omega)
  simp only [f20, t20, Tr.val_test, Tr.val_fin, Tr.val_stop, w1, eqF_eq, stE]
  by_cases h1 : (l.length : Int) = e + 2
  · simp only [h1, decide_true, Bool.not_true, Bool.false_eq_true, if_false, if_true]
    rcases Bool.eq_false_or_eq_true (inB b l) with hN | hN
    · have hf : first (fun i => !wi (-b) b (l.getD i 0)) l.length 0 = none := Option.isNone_iff_eq_none.1 hN
      rw [hf] at e0
      simp only [e0, hN, isRet, Option.isSome_some, if_true, Bool.false_eq_true, if_false]
    · obtain ⟨k, hf⟩ : ∃ k, first (fun i => !wi (-b) b (l.getD i 0)) l.length 0 = some k := by
        unfold inB at hN
        cases hf : first (fun i => !wi (-b) b (l.getD i 0)) l.length 0 with
        | none => rw [hf] at hN; cases hN
        | some k => exact ⟨k, rfl⟩
      rw [hf] at e0
      simp only [e0, hN, isRet, r20_0, outR, Option.isSome_some, if_true, Bool.false_eq_true, if_false]
  · simp only [h1, decide_false, Bool.not_false, if_true, if_false]

theorem inB_ok {b : Int} {l : List Int} (h : inB b l = true) : ∀ i, i < l.length → -b ≤ l.getD i 0 ∧ l.getD i 0 ≤ b := by
  intro i hi
  unfold inB at h
  have := first_none (Option.isNone_iff_eq_none.1 h) i (Nat.zero_le _) (by omega)
  have h2 : wi (-b) b (l.getD i 0) = true := by simpa using this
  exact wi_iff.1 h2

/-! Steps. -/

abbrev at4 (a0 a1 a2 a3 : Int) (i : Nat) : Int := [a0, a1, a2, a3].getD i 0
def cmdV (q : Bool) (e x y : Int) : Int := if q = true then x + e * (x - y) else x
def actV (q : Bool) (e a0 a1 a2 a3 : Int) : Int := cmdV q e (at4 a0 a1 a2 a3 e.toNat) (at4 a0 a1 a2 a3 (e.toNat + 1))
def pullV (c p s : Int) (a0 a1 act f : Int) : Int := f - c * (a0 - a1) - p * a0 - s * act
def nextV (m c p s e : Int) (q : Bool) (a0 a1 a2 a3 f : Int) : Int := a0 + (a0 - a1) + pullV c p s a0 a1 (actV q e a0 a1 a2 a3) f / m

theorem mbd {x y A B : Int} (h1 : 0 ≤ x) (h2 : x ≤ A) (h3 : -B ≤ y) (h4 : y ≤ B) : -(A * B) ≤ x * y ∧ x * y ≤ A * B := by
  have k1 : x * y ≤ x * B := Int.mul_le_mul_of_nonneg_left h4 h1
  have k2 : x * (-B) ≤ x * y := Int.mul_le_mul_of_nonneg_left h3 h1
  have k3 : x * B ≤ A * B := Int.mul_le_mul_of_nonneg_right h2 (by omega)
  rw [Int.mul_neg] at k2
  omega

def b3 (x : Int) : Prop := -3 ≤ x ∧ x ≤ 3

theorem cmdV_b {q : Bool} {e x y : Int} (he : 0 ≤ e ∧ e ≤ 2) (hx : b3 x) (hy : b3 y) : -15 ≤ cmdV q e x y ∧ cmdV q e x y ≤ 15 := by
  unfold b3 at hx hy
  unfold cmdV
  split
  · have := mbd (x := e) (y := x - y) (A := 2) (B := 6) he.1 he.2 (by omega) (by omega)
    omega
  · omega

theorem at4_b {a0 a1 a2 a3 : Int} (h0 : b3 a0) (h1 : b3 a1) (h2 : b3 a2) (h3 : b3 a3) (i : Nat) : b3 (at4 a0 a1 a2 a3 i) := by
  match i with
  | 0 => exact h0
  | 1 => exact h1
  | 2 => exact h2
  | 3 => exact h3
  | n + 4 => exact ⟨by show -3 ≤ (0 : Int); omega, by show (0 : Int) ≤ 3; omega⟩

theorem f63_eq (m c p s e : Int) (q : Bool) (b lo hi : Int) (a0 a1 a2 a3 : Int) (h0 : b3 a0) (h1 : b3 a1) (h2 : b3 a2) (h3 : b3 a3) (he : 0 ≤ e ∧ e ≤ 2) (g : Nat) (hg : g ≤ 2) :
    f63 (((m, c, p, s, e, q, b, (lo, hi, ()), ()), ()), (a0, a1, a2, a3, ()), (g : Int), ()) = some (cmdV q e (at4 a0 a1 a2 a3 g) (at4 a0 a1 a2 a3 (g + 1)), ()) := by
  have y0 := at4_b h0 h1 h2 h3 g
  have y1 := at4_b h0 h1 h2 h3 (g + 1)
  have w0 : wrap64 ((g : Int) + 1) = ((g + 1 : Nat) : Int) := wrap64_nat (by omega)
  have b1 : (decide ((0 : Int) ≤ (g : Int)) && decide ((g : Int) < 4)) = true := dA (by omega) (by omega)
  have b2 : (decide ((0 : Int) ≤ ((g + 1 : Nat) : Int)) && decide (((g + 1 : Nat) : Int) < 4)) = true := dA (by omega) (by omega)
  have b5 : Nat.ble (0 + g * 1 + 1) 4 = true := ble_eq_true'.2 (by omega)
  have b6 : Nat.ble (0 + (g + 1) * 1 + 1) 4 = true := ble_eq_true'.2 (by omega)
  have b7 : Nat.ble (g + 1) 4 = true := ble_eq_true'.2 (by omega)
  have b8 : Nat.ble (g + 1 + 1) 4 = true := ble_eq_true'.2 (by omega)
  have z0 : 0 + g * 1 = g := by omega
  have z1 : 0 + (g + 1) * 1 = g + 1 := by omega
  unfold b3 at y0 y1
  simp only [f63, t63, Tr.val_test, Tr.val_fin, Tr.val_stop, w0, b1, b2, Int.toNat_natCast, b5, b6, b7, b8, z0, z1, g93, g94, f93, t93, f94, t94, Option.isSome_some, Option.getD_some, if_true]
  show (if q = true then _ else _) = _
  unfold cmdV
  have y2 := mbd (x := e) (y := at4 a0 a1 a2 a3 g - at4 a0 a1 a2 a3 (g + 1)) (A := 2) (B := 6) he.1 he.2 (by omega) (by omega)
  have w1 : wrap64 (at4 a0 a1 a2 a3 g + wrap64 (e * wrap64 (at4 a0 a1 a2 a3 g - at4 a0 a1 a2 a3 (g + 1)))) = at4 a0 a1 a2 a3 g + e * (at4 a0 a1 a2 a3 g - at4 a0 a1 a2 a3 (g + 1)) := by
    rw [wrap64_id (n := at4 a0 a1 a2 a3 g - at4 a0 a1 a2 a3 (g + 1)) (by omega) (by omega), wrap64_id (n := e * _) (by omega) (by omega), wrap64_id (by omega) (by omega)]
  cases q with
  | true => simp only [if_true]; rw [show wrap64 (List.getD [a0, a1, a2, a3] g 0 + wrap64 (e * wrap64 (List.getD [a0, a1, a2, a3] g 0 - List.getD [a0, a1, a2, a3] (g + 1) 0))) = _ from w1]
  | false => rfl

theorem f65_eq (m c p s e : Int) (q : Bool) (b lo hi : Int) (a0 a1 a2 a3 : Int) (h0 : b3 a0) (h1 : b3 a1) (h2 : b3 a2) (h3 : b3 a3) (he : 0 ≤ e ∧ e ≤ 2) :
    f65 (((m, c, p, s, e, q, b, (lo, hi, ()), ()), ()), (a0, a1, a2, a3, ()), ()) = some (actV q e a0 a1 a2 a3, ()) := by
  have e0 := f63_eq m c p s e q b lo hi a0 a1 a2 a3 h0 h1 h2 h3 he e.toNat (by omega)
  rw [show ((e.toNat : Nat) : Int) = e by omega] at e0
  simp only [f65, t65, Tr.val_test, Tr.val_fin, Tr.val_stop, g63, e0, Option.isSome_some, Option.getD_some, if_true, actV]

theorem floor_div (x m : Int) (hm : 1 ≤ m) : x / m = if x.tmod m < 0 then x.tdiv m - 1 else x.tdiv m := by
  have h1 := Int.tmod_lt_of_pos x (show (0 : Int) < m by omega)
  have h2 := Int.lt_tmod_of_pos x (show (0 : Int) < m by omega)
  have h3 := Int.mul_tdiv_add_tmod x m
  split
  · refine ((Int.ediv_emod_unique (show (0 : Int) < m by omega) (r := x.tmod m + m)).2 ⟨?_, by omega, by omega⟩).1
    rw [Int.mul_sub]; omega
  · refine ((Int.ediv_emod_unique (show (0 : Int) < m by omega) (r := x.tmod m)).2 ⟨by omega, by omega, by omega⟩).1

theorem div_b {x m A : Int} (hm : 1 ≤ m) (h1 : -A ≤ x) (h2 : x ≤ A) : -A ≤ x / m ∧ x / m ≤ A := by
  refine ⟨(Int.le_ediv_iff_mul_le (show 0 < m by omega)).2 ?_, ?_⟩
  · have : A * 1 ≤ A * m := Int.mul_le_mul_of_nonneg_left hm (by omega)
    rw [Int.neg_mul]; omega
  · have := Int.ediv_le_ediv (show 0 < m by omega) h2
    have h3 : A / m ≤ A := Int.ediv_le_self m (show 0 ≤ A by omega)
    omega

theorem tdiv_b {x m A : Int} (hm : 1 ≤ m) (h1 : -A ≤ x) (h2 : x ≤ A) : -A - 1 ≤ x.tdiv m ∧ x.tdiv m ≤ A + 1 := by
  have h3 := div_b hm h1 h2
  rw [floor_div x m hm] at h3
  split at h3 <;> omega

theorem f95_eq (x m : Int) (hm : 1 ≤ m) (h1 : -1000000000000 ≤ x) (h2 : x ≤ 1000000000000) : f95 (x, m, ()) = some (x / m, ()) := by
  have h3 := tdiv_b hm h1 h2
  have w0 : IntKind.wrap .i64 (x.tdiv m) = x.tdiv m := by rw [← wrap64_eq, wrap64_id (by omega) (by omega)]
  have w1 : wrap64 (x.tdiv m - 1) = x.tdiv m - 1 := wrap64_id (by omega) (by omega)
  have e0 : (m == 0) = false := by simp; omega
  simp only [f95, t95, Tr.val_test, Tr.val_fin, Tr.val_stop, e0, w0, w1, leF_eq, Bool.false_eq_true, if_false]
  rw [floor_div x m hm]
  by_cases h : x.tmod m < 0
  · simp [h, show ¬ 0 ≤ x.tmod m by omega]
  · simp [h, show 0 ≤ x.tmod m by omega]

theorem f96_eq (x m : Int) (hm : 1 ≤ m) (h1 : -1000000000000 ≤ x) (h2 : x ≤ 1000000000000) : f96 (x, m, ()) = some (x / m, ()) := by
  have h3 := tdiv_b hm h1 h2
  have w0 : IntKind.wrap .i64 (x.tdiv m) = x.tdiv m := by rw [← wrap64_eq, wrap64_id (by omega) (by omega)]
  have w1 : wrap64 (x.tdiv m - 1) = x.tdiv m - 1 := wrap64_id (by omega) (by omega)
  have e0 : (m == 0) = false := by simp; omega
  simp only [f96, t96, Tr.val_test, Tr.val_fin, Tr.val_stop, e0, w0, w1, leF_eq, Bool.false_eq_true, if_false]
  rw [floor_div x m hm]
  by_cases h : x.tmod m < 0
  · simp [h, show ¬ 0 ≤ x.tmod m by omega]
  · simp [h, show 0 ≤ x.tmod m by omega]

/-- What is pulled, without overflow. -/
theorem pull_w {m c p s e b lo hi : Int} (v : TV m c p s e b lo hi) {a0 a1 u f : Int} (h0 : b3 a0) (h1 : b3 a1) (hu : -15 ≤ u ∧ u ≤ 15) (hf : -1000 ≤ f ∧ f ≤ 1000) :
    wrap64 (wrap64 (wrap64 (f - wrap64 (c * wrap64 (a0 - a1))) - wrap64 (p * a0)) - wrap64 (s * u)) = pullV c p s a0 a1 u f ∧ -100000 ≤ pullV c p s a0 a1 u f ∧ pullV c p s a0 a1 u f ≤ 100000 := by
  unfold b3 at h0 h1
  have k1 := mbd (x := c) (y := a0 - a1) (A := 1000) (B := 6) v.c.1 v.c.2 (by omega) (by omega)
  have k2 := mbd (x := p) (y := a0) (A := 1000) (B := 3) v.p.1 v.p.2 (by omega) (by omega)
  have k3 := mbd (x := s) (y := u) (A := 1000) (B := 15) v.s.1 v.s.2 hu.1 hu.2
  unfold pullV
  rw [wrap64_id (n := a0 - a1) (by omega) (by omega), wrap64_id (n := c * (a0 - a1)) (by omega) (by omega), wrap64_id (n := p * a0) (by omega) (by omega), wrap64_id (n := s * u) (by omega) (by omega),
    wrap64_id (n := f - c * (a0 - a1)) (by omega) (by omega), wrap64_id (n := f - c * (a0 - a1) - p * a0) (by omega) (by omega), wrap64_id (by omega) (by omega)]
  exact ⟨rfl, by omega, by omega⟩

theorem f66_eq (m c p s e : Int) (q : Bool) (b lo hi : Int) (v : TV m c p s e b lo hi) (a0 a1 a2 a3 f : Int) (h0 : b3 a0) (h1 : b3 a1) (h2 : b3 a2) (h3 : b3 a3) (hf : -1000 ≤ f ∧ f ≤ 1000) :
    f66 (((m, c, p, s, e, q, b, (lo, hi, ()), ()), ()), (a0, a1, a2, a3, ()), f, ()) = some (nextV m c p s e q a0 a1 a2 a3 f, ()) := by
  have e0 := f65_eq m c p s e q b lo hi a0 a1 a2 a3 h0 h1 h2 h3 v.e
  have hu : -15 ≤ actV q e a0 a1 a2 a3 ∧ actV q e a0 a1 a2 a3 ≤ 15 := cmdV_b v.e (at4_b h0 h1 h2 h3 _) (at4_b h0 h1 h2 h3 _)
  obtain ⟨w0, k1, k2⟩ := pull_w v h0 h1 hu hf
  have e1 := f95_eq (pullV c p s a0 a1 (actV q e a0 a1 a2 a3) f) m v.m.1 (by omega) (by omega)
  have k3 := div_b v.m.1 k1 k2
  unfold b3 at h0 h1
  have w1 : wrap64 (wrap64 (a0 + wrap64 (a0 - a1)) + pullV c p s a0 a1 (actV q e a0 a1 a2 a3) f / m) = nextV m c p s e q a0 a1 a2 a3 f := by
    rw [wrap64_id (n := a0 - a1) (by omega) (by omega), wrap64_id (n := a0 + (a0 - a1)) (by omega) (by omega), wrap64_id (by omega) (by omega)]
    rfl
  simp only [f66, t66, Tr.val_test, Tr.val_fin, Tr.val_stop, g65, e0, w0, g95, e1, w1, Option.isSome_some, Option.getD_some, if_true]

theorem f67_eq (m c p s e : Int) (q : Bool) (b lo hi : Int) (hb : 0 ≤ b ∧ b ≤ 3) (x : Int) : f67 (((m, c, p, s, e, q, b, (lo, hi, ()), ()), ()), x, ()) = some (!wi (-b) b x, ()) := by
  have e0 := f58_one b x hb.1 (by omega)
  simp only [f67, t67, Tr.val_test, Tr.val_fin, Tr.val_stop, g58, e0, Option.isSome_some, Option.getD_some, if_true]

def aft (e a0 a1 a2 x : Int) : Int × Int × Int × Int × Unit := (x, a0, if 1 ≤ e then a1 else 0, if 2 ≤ e then a2 else 0, ())

theorem f69_eq (m c p s e : Int) (q : Bool) (b lo hi : Int) (he : 0 ≤ e ∧ e ≤ 2) (a0 a1 a2 a3 x : Int) : f69 (((m, c, p, s, e, q, b, (lo, hi, ()), ()), ()), (a0, a1, a2, a3, ()), x, ()) = some (aft e a0 a1 a2 x, ()) := by
  have hc : e = 0 ∨ e = 1 ∨ e = 2 := by omega
  simp only [f69, t69, Tr.val_test, Tr.val_fin, Tr.val_stop, g92, f92_eq, Option.isSome_some, Option.getD_some, if_true]
  rcases hc with rfl | rfl | rfl <;> rfl

def lst (e a0 a1 a2 a3 : Int) : List Int := [a0, a1, a2, a3].take (e + 2).toNat

theorem f68_eq (m c p s e : Int) (q : Bool) (b lo hi : Int) (he : 0 ≤ e ∧ e ≤ 2) (a0 a1 a2 a3 : Int) : f68 (((m, c, p, s, e, q, b, (lo, hi, ()), ()), ()), (a0, a1, a2, a3, ()), ()) = some (lst e a0 a1 a2 a3, ()) := by
  have hc : e = 0 ∨ e = 1 ∨ e = 2 := by omega
  simp only [f68, t68, Tr.val_test, Tr.val_fin, Tr.val_stop, g92, f92_eq, Option.isSome_some, Option.getD_some, if_true]
  rcases hc with rfl | rfl | rfl <;> rfl

end Go.Vm.Mo

namespace Go.Vm.Mo
open Go
set_option linter.unusedVariables false
set_option linter.unusedSimpArgs false

/-- The displacements of a valid state. -/
theorem st_cases {e b : Int} {l : List Int} (he : 0 ≤ e ∧ e ≤ 2) (hb : b ≤ 3) (h : stE e b l = 0) :
    inB b l = true ∧ (l.length : Int) = e + 2 ∧ ((e = 0 ∧ ∃ x y, l = [x, y] ∧ b3 x ∧ b3 y) ∨ (e = 1 ∧ ∃ x y z, l = [x, y, z] ∧ b3 x ∧ b3 y ∧ b3 z) ∨ (e = 2 ∧ ∃ x y z w, l = [x, y, z, w] ∧ b3 x ∧ b3 y ∧ b3 z ∧ b3 w)) := by
  unfold stE at h
  split at h
  · rename_i hl
    split at h
    · rename_i hB
      refine ⟨hB, hl, ?_⟩
      have hk := inB_ok hB
      have hc : e = 0 ∨ e = 1 ∨ e = 2 := by omega
      rcases hc with rfl | rfl | rfl
      · left
        match l, hl, hk with
        | [x, y], _, hk => have k0 := hk 0 (by simp); have k1 := hk 1 (by simp); simp at k0 k1; exact ⟨rfl, x, y, rfl, ⟨by omega, by omega⟩, ⟨by omega, by omega⟩⟩
        | [], hl, _ => simp at hl
        | [_], hl, _ => simp at hl
        | _ :: _ :: _ :: _, hl, _ => simp at hl; omega
      · right; left
        match l, hl, hk with
        | [x, y, z], _, hk => have k0 := hk 0 (by simp); have k1 := hk 1 (by simp); have k2 := hk 2 (by simp); simp at k0 k1 k2; exact ⟨rfl, x, y, z, rfl, ⟨by omega, by omega⟩, ⟨by omega, by omega⟩, ⟨by omega, by omega⟩⟩
        | [], hl, _ => simp at hl
        | [_], hl, _ => simp at hl
        | [_, _], hl, _ => simp at hl
        | _ :: _ :: _ :: _ :: _, hl, _ => simp at hl; omega
      · right; right
        match l, hl, hk with
        | [x, y, z, w], _, hk => have k0 := hk 0 (by simp); have k1 := hk 1 (by simp); have k2 := hk 2 (by simp); have k3 := hk 3 (by simp); simp at k0 k1 k2 k3; exact ⟨rfl, x, y, z, w, rfl, ⟨by omega, by omega⟩, ⟨by omega, by omega⟩, ⟨by omega, by omega⟩, ⟨by omega, by omega⟩⟩
        | [], hl, _ => simp at hl
        | [_], hl, _ => simp at hl
        | [_, _], hl, _ => simp at hl
        | [_, _, _], hl, _ => simp at hl
        | _ :: _ :: _ :: _ :: _ :: _, hl, _ => simp at hl; omega
    · cases h
  · cases h

theorem b3_0 : b3 0 := ⟨by omega, by omega⟩

/-- A state's list as an array. -/
structure Arr (e : Int) (l : List Int) (a0 a1 a2 a3 : Int) : Prop where
  h0 : b3 a0
  h1 : b3 a1
  h2 : b3 a2
  h3 : b3 a3
  hl : l = lst e a0 a1 a2 a3
  g : ∀ i : Nat, i < l.length → l.getD i 0 = at4 a0 a1 a2 a3 i
  f : f64 (l, ()) = some ((a0, a1, a2, a3, ()), ())

theorem arr_of {e b : Int} {l : List Int} (he : 0 ≤ e ∧ e ≤ 2) (hb : b ≤ 3) (h : stE e b l = 0) : ∃ a0 a1 a2 a3, Arr e l a0 a1 a2 a3 := by
  obtain ⟨_, _, h1⟩ := st_cases he hb h
  rcases h1 with ⟨rfl, x, y, rfl, hx, hy⟩ | ⟨rfl, x, y, z, rfl, hx, hy, hz⟩ | ⟨rfl, x, y, z, w, rfl, hx, hy, hz, hw⟩
  · refine ⟨x, y, 0, 0, hx, hy, b3_0, b3_0, rfl, fun i hi => ?_, rfl⟩
    match i, hi with
    | 0, _ => rfl
    | 1, _ => rfl
  · refine ⟨x, y, z, 0, hx, hy, hz, b3_0, rfl, fun i hi => ?_, rfl⟩
    match i, hi with
    | 0, _ => rfl
    | 1, _ => rfl
    | 2, _ => rfl
  · refine ⟨x, y, z, w, hx, hy, hz, hw, rfl, fun i hi => ?_, rfl⟩
    match i, hi with
    | 0, _ => rfl
    | 1, _ => rfl
    | 2, _ => rfl
    | 3, _ => rfl

theorem f22_at (m c p s e : Int) (q : Bool) (b lo hi : Int) (l : List Int) (a0 a1 a2 a3 : Int) (A : Arr e l a0 a1 a2 a3) (he : 0 ≤ e ∧ e ≤ 2) (hl : (l.length : Int) = e + 2) (g : Nat) (hg : g + 1 < l.length) :
    f22 ((m, c, p, s, e, q, b, (lo, hi, ()), ()), l, (g : Int), ()) = some (cmdV q e (at4 a0 a1 a2 a3 g) (at4 a0 a1 a2 a3 (g + 1)), ()) := by
  have y0 := at4_b A.h0 A.h1 A.h2 A.h3 g
  have y1 := at4_b A.h0 A.h1 A.h2 A.h3 (g + 1)
  have g0 := A.g g (by omega)
  have g1 := A.g (g + 1) hg
  have w0 : wrap64 ((g : Int) + 1) = ((g + 1 : Nat) : Int) := wrap64_nat (by omega)
  have b1 : (decide ((0 : Int) ≤ (g : Int)) && decide ((g : Int) < (l.length : Int))) = true := dA (by omega) (by omega)
  have b2 : (decide ((0 : Int) ≤ ((g + 1 : Nat) : Int)) && decide (((g + 1 : Nat) : Int) < (l.length : Int))) = true := dA (by omega) (by omega)
  unfold b3 at y0 y1
  have y2 := mbd (x := e) (y := at4 a0 a1 a2 a3 g - at4 a0 a1 a2 a3 (g + 1)) (A := 2) (B := 6) he.1 he.2 (by omega) (by omega)
  have w1 : wrap64 (at4 a0 a1 a2 a3 g + wrap64 (e * wrap64 (at4 a0 a1 a2 a3 g - at4 a0 a1 a2 a3 (g + 1)))) = at4 a0 a1 a2 a3 g + e * (at4 a0 a1 a2 a3 g - at4 a0 a1 a2 a3 (g + 1)) := by
    rw [wrap64_id (n := at4 a0 a1 a2 a3 g - at4 a0 a1 a2 a3 (g + 1)) (by omega) (by omega), wrap64_id (n := e * _) (by omega) (by omega), wrap64_id (by omega) (by omega)]
  simp only [f22, t22, Tr.val_test, Tr.val_fin, Tr.val_stop, w0, b1, b2, Int.toNat_natCast, g0, g1, w1, cmdV, if_true]
  cases q <;> rfl

theorem f23_at (m c p s e : Int) (q : Bool) (b lo hi : Int) (l : List Int) (a0 a1 a2 a3 : Int) (A : Arr e l a0 a1 a2 a3) (he : 0 ≤ e ∧ e ≤ 2) (hl : (l.length : Int) = e + 2) :
    f23 ((m, c, p, s, e, q, b, (lo, hi, ()), ()), l, ()) = some (actV q e a0 a1 a2 a3, ()) := by
  have e0 := f22_at m c p s e q b lo hi l a0 a1 a2 a3 A he hl e.toNat (by omega)
  rw [show ((e.toNat : Nat) : Int) = e by omega] at e0
  simp only [f23, t23, Tr.val_test, Tr.val_fin, Tr.val_stop, g22, e0, Option.isSome_some, Option.getD_some, if_true, actV]

theorem f70_at (m c p s e : Int) (q : Bool) (b lo hi : Int) (v : TV m c p s e b lo hi) (l : List Int) (a0 a1 a2 a3 : Int) (A : Arr e l a0 a1 a2 a3) (hl : (l.length : Int) = e + 2) (f : Int) (hf : -1000 ≤ f ∧ f ≤ 1000) :
    f70 ((m, c, p, s, e, q, b, (lo, hi, ()), ()), l, f, ()) = some (nextV m c p s e q a0 a1 a2 a3 f :: l.take (l.length - 1), wi (-b) b (nextV m c p s e q a0 a1 a2 a3 f), ()) := by
  have e0 := f23_at m c p s e q b lo hi l a0 a1 a2 a3 A v.e hl
  have hu : -15 ≤ actV q e a0 a1 a2 a3 ∧ actV q e a0 a1 a2 a3 ≤ 15 := cmdV_b v.e (at4_b A.h0 A.h1 A.h2 A.h3 _) (at4_b A.h0 A.h1 A.h2 A.h3 _)
  obtain ⟨w0, k1, k2⟩ := pull_w v A.h0 A.h1 hu hf
  have e1 := f96_eq (pullV c p s a0 a1 (actV q e a0 a1 a2 a3) f) m v.m.1 (by omega) (by omega)
  have k3 := div_b v.m.1 k1 k2
  have he := v.e
  have hb := v.b
  have g0 : l.getD 0 0 = a0 := A.g 0 (by omega)
  have g1 : l.getD 1 0 = a1 := A.g 1 (by omega)
  have h0 := A.h0
  have h1 := A.h1
  unfold b3 at h0 h1
  have w1 : wrap64 (wrap64 (wrap64 (2 * a0) - a1) + pullV c p s a0 a1 (actV q e a0 a1 a2 a3) f / m) = nextV m c p s e q a0 a1 a2 a3 f := by
    rw [wrap64_id (n := 2 * a0) (by omega) (by omega), wrap64_id (n := 2 * a0 - a1) (by omega) (by omega), wrap64_id (by omega) (by omega)]
    unfold nextV; omega
  have w2 : wrap64 ((l.length : Int) - 1) = ((l.length - 1 : Nat) : Int) := by rw [wrap64_id (by omega) (by omega)]; omega
  have b0 : decide ((0 : Int) < (l.length : Int)) = true := dT (by omega)
  have b1 : decide ((1 : Int) < (l.length : Int)) = true := dT (by omega)
  have b2 : (decide ((0 : Int) ≤ ((l.length - 1 : Nat) : Int)) && decide (((l.length - 1 : Nat) : Int) ≤ (l.length : Int))) = true := dA (by omega) (by omega)
  have n0 : (l.take (l.length - 1)).length = l.length - 1 := by simp
  have b4 : Nat.beq (l.length - 1) 0 = false := by
    cases hq : Nat.beq (l.length - 1) 0 with
    | false => rfl
    | true => have := beq_eq_true'.1 hq; omega
  have b5 : (Nat.ble ((2 * (1 + (l.length - 1)) + 192) * 8) 281474976710656 && Nat.ble (1 + (l.length - 1)) 281474976710656) = true := by simp only [Bool.and_eq_true, ble_eq_true']; omega
  simp only [f70, t70, Tr.val_test, Tr.val_fin, Tr.val_stop, g0, g1, b0, b1, g23, e0, w0, g96, e1, w1, w2, b2, Int.toNat_natCast, n0, b4, b5, g39, f39_eq, wn64 (show -9223372036854775807 ≤ b by omega) (by omega), Bool.true_and, Option.isSome_some, Option.getD_some, Bool.false_eq_true, if_true, if_false]
  rfl

theorem f21_at (m c p s e : Int) (q : Bool) (b lo hi : Int) (v : TV m c p s e b lo hi) (l : List Int) (a0 a1 a2 a3 : Int) (A : Arr e l a0 a1 a2 a3) (hl : (l.length : Int) = e + 2) (f : Int) :
    f21 ((m, c, p, s, e, q, b, (lo, hi, ()), ()), l, f, ()) = some (if wi lo hi f = true then if wi (-b) b (nextV m c p s e q a0 a1 a2 a3 f) = true then (nextV m c p s e q a0 a1 a2 a3 f :: l.take (l.length - 1), (0 : Int), ()) else ([], (22 : Int), ()) else ([], (6 : Int), ())) := by
  simp only [f21, t21, Tr.val_test, Tr.val_fin, Tr.val_stop, g39, f39_eq, Option.isSome_some, Option.getD_some, if_true]
  rcases Bool.eq_false_or_eq_true (wi lo hi f) with hf | hf
  · have hf' := wi_iff.1 hf
    have hlo := v.lo
    have hhi := v.hi
    have e0 := f70_at m c p s e q b lo hi v l a0 a1 a2 a3 A hl f ⟨by omega, by omega⟩
    simp only [hf, g70, e0, Bool.not_true, Bool.false_eq_true, Option.isSome_some, Option.getD_some, if_true, if_false]
    rcases Bool.eq_false_or_eq_true (wi (-b) b (nextV m c p s e q a0 a1 a2 a3 f)) with hk | hk <;> simp only [hk] <;> rfl
  · simp only [hf, Bool.not_false, Bool.false_eq_true, if_true, if_false]

theorem lst_after (e : Int) (l : List Int) (a0 a1 a2 a3 x : Int) (he : 0 ≤ e ∧ e ≤ 2) (A : Arr e l a0 a1 a2 a3) (hl : (l.length : Int) = e + 2) :
    lst e (aft e a0 a1 a2 x).1 (aft e a0 a1 a2 x).2.1 (aft e a0 a1 a2 x).2.2.1 (aft e a0 a1 a2 x).2.2.2.1 = x :: l.take (l.length - 1) := by
  have hA := A.hl
  have hc : e = 0 ∨ e = 1 ∨ e = 2 := by omega
  rcases hc with rfl | rfl | rfl <;> rw [hA] <;> rfl

theorem f15_at (m c p s e : Int) (q : Bool) (b lo hi : Int) (l : List Int) (f : Int) (h : l.length ≤ 1000000) (h0 : tE m c p s e b lo hi = 0) (h1 : stE e b l = 0) (a0 a1 a2 a3 : Int) (A : Arr e l a0 a1 a2 a3) :
    f15 ((m, c, p, s, e, q, b, (lo, hi, ()), ()), l, f, ()) = some (if wi lo hi f = true then if wi (-b) b (nextV m c p s e q a0 a1 a2 a3 f) = true then (nextV m c p s e q a0 a1 a2 a3 f :: l.take (l.length - 1), (0 : Int), ()) else ([], (22 : Int), ()) else ([], (6 : Int), ())) := by
  obtain ⟨v, _, _⟩ := tE_ok h0
  obtain ⟨_, hl, _⟩ := st_cases v.e v.b.2 h1
  have c57 := f57_one lo hi f
  have e0 := f11_eq m c p s e q b lo hi l h
  rw [if_pos h0, h1] at e0
  have c59 : ∀ a b : Int, f59 ([a, b], ()) = some (if a = 0 then b else a, ()) := f59_ab
  simp only [f15, t15, Tr.val_test, Tr.val_fin, Tr.val_stop, g57, c57, g11, e0, g60, f60_eq, g59, c59, eqF_eq, Option.isSome_some, Option.getD_some, if_true]
  rcases Bool.eq_false_or_eq_true (wi lo hi f) with hf | hf
  · have hf' := wi_iff.1 hf
    have hlo := v.lo
    have hhi := v.hi
    have e1 := A.f
    have e2 := f66_eq m c p s e q b lo hi v a0 a1 a2 a3 f A.h0 A.h1 A.h2 A.h3 ⟨by omega, by omega⟩
    have e3 := f67_eq m c p s e q b lo hi v.b (nextV m c p s e q a0 a1 a2 a3 f)
    have e4 := f69_eq m c p s e q b lo hi v.e a0 a1 a2 a3 (nextV m c p s e q a0 a1 a2 a3 f)
    have e5 := f68_eq m c p s e q b lo hi v.e (aft e a0 a1 a2 (nextV m c p s e q a0 a1 a2 a3 f)).1 (aft e a0 a1 a2 (nextV m c p s e q a0 a1 a2 a3 f)).2.1 (aft e a0 a1 a2 (nextV m c p s e q a0 a1 a2 a3 f)).2.2.1 (aft e a0 a1 a2 (nextV m c p s e q a0 a1 a2 a3 f)).2.2.2.1
    rw [lst_after e l a0 a1 a2 a3 _ v.e A hl] at e5
    simp only [hf, g64, e1, g66, e2, g67, e3, g69, e4, g68, e5, decide_true, Bool.not_true, Bool.false_eq_true, Option.isSome_some, Option.getD_some, if_true, if_false]
    rcases Bool.eq_false_or_eq_true (wi (-b) b (nextV m c p s e q a0 a1 a2 a3 f)) with hk | hk <;> simp only [hk] <;> rfl
  · simp only [hf, Bool.not_false, Bool.false_eq_true, if_true, if_false]; rfl

/-- The errors ahead. -/
theorem f15_err (m c p s e : Int) (q : Bool) (b lo hi : Int) (l : List Int) (f : Int) (h : l.length ≤ 1000000) (x : Int) (hx : x ≠ 0) (h0 : f11 ((m, c, p, s, e, q, b, (lo, hi, ()), ()), l, ()) = some (x, ())) : f15 ((m, c, p, s, e, q, b, (lo, hi, ()), ()), l, f, ()) = some ([], x, ()) := by
  have c57 := f57_one lo hi f
  have c59 : ∀ a b : Int, f59 ([a, b], ()) = some (if a = 0 then b else a, ()) := f59_ab
  simp only [f15, t15, Tr.val_test, Tr.val_fin, Tr.val_stop, g57, c57, g11, h0, g60, f60_eq, g59, c59, eqF_eq, Option.isSome_some, Option.getD_some, if_true, hx, if_false, decide_false, Bool.not_false]

theorem f13_err (m c p s e : Int) (q : Bool) (b lo hi : Int) (l : List Int) (x : Int) (hx : x ≠ 0) (h0 : f11 ((m, c, p, s, e, q, b, (lo, hi, ()), ()), l, ()) = some (x, ())) : f13 ((m, c, p, s, e, q, b, (lo, hi, ()), ()), l, ()) = some ((0 : Int), x, ()) := by
  simp only [f13, t13, Tr.val_test, Tr.val_fin, Tr.val_stop, g11, h0, eqF_eq, Option.isSome_some, Option.getD_some, if_true, hx, decide_false, Bool.not_false]

theorem f14_err (m c p s e : Int) (q : Bool) (b lo hi : Int) (l : List Int) (x : Int) (hx : x ≠ 0) (h0 : f11 ((m, c, p, s, e, q, b, (lo, hi, ()), ()), l, ()) = some (x, ())) : f14 ((m, c, p, s, e, q, b, (lo, hi, ()), ()), l, ()) = some ((0 : Int), x, ()) := by
  simp only [f14, t14, Tr.val_test, Tr.val_fin, Tr.val_stop, g11, h0, eqF_eq, Option.isSome_some, Option.getD_some, if_true, hx, decide_false, Bool.not_false]

theorem f13_at (m c p s e : Int) (q : Bool) (b lo hi : Int) (l : List Int) (a0 a1 a2 a3 : Int) (A : Arr e l a0 a1 a2 a3) (he : 0 ≤ e ∧ e ≤ 2) (h0 : f11 ((m, c, p, s, e, q, b, (lo, hi, ()), ()), l, ()) = some ((0 : Int), ())) : f13 ((m, c, p, s, e, q, b, (lo, hi, ()), ()), l, ()) = some (cmdV q e a0 a1, (0 : Int), ()) := by
  have e1 := A.f
  have e2 := f63_eq m c p s e q b lo hi a0 a1 a2 a3 A.h0 A.h1 A.h2 A.h3 he 0 (by omega)
  rw [show ((0 : Nat) : Int) = 0 from rfl] at e2
  simp only [f13, t13, Tr.val_test, Tr.val_fin, Tr.val_stop, g11, h0, g64, e1, g63, e2, eqF_eq, Option.isSome_some, Option.getD_some, if_true, decide_true, Bool.not_true, Bool.false_eq_true, if_false]
  rfl

theorem f14_at (m c p s e : Int) (q : Bool) (b lo hi : Int) (l : List Int) (a0 a1 a2 a3 : Int) (A : Arr e l a0 a1 a2 a3) (he : 0 ≤ e ∧ e ≤ 2) (h0 : f11 ((m, c, p, s, e, q, b, (lo, hi, ()), ()), l, ()) = some ((0 : Int), ())) : f14 ((m, c, p, s, e, q, b, (lo, hi, ()), ()), l, ()) = some (actV q e a0 a1 a2 a3, (0 : Int), ()) := by
  have e1 := A.f
  have e2 := f65_eq m c p s e q b lo hi a0 a1 a2 a3 A.h0 A.h1 A.h2 A.h3 he
  simp only [f14, t14, Tr.val_test, Tr.val_fin, Tr.val_stop, g11, h0, g64, e1, g65, e2, eqF_eq, Option.isSome_some, Option.getD_some, if_true, decide_true, Bool.not_true, Bool.false_eq_true, if_false]

/-! The whole. -/

def wE (m c p s e b lo hi : Int) : Int := if tE m c p s e b lo hi = 0 then if p + s ≤ 1000 then 0 else 8 else tE m c p s e b lo hi

theorem f18_eq (m c p s e : Int) (q : Bool) (b lo hi : Int) : f18 ((m, c, p, s, e, q, b, (lo, hi, ()), ()), ()) = some (wE m c p s e b lo hi, ()) := by
  have e0 := f17_eq m c p s e q b lo hi
  simp only [f18, t18, Tr.val_test, Tr.val_fin, Tr.val_stop, g17, e0, eqF_eq, leF_eq, Option.isSome_some, Option.getD_some, if_true, wE]
  by_cases h0 : tE m c p s e b lo hi = 0
  · obtain ⟨v, _, _⟩ := tE_ok h0
    have hp := v.p
    have hs := v.s
    rw [wrap64_id (n := p + s) (by omega) (by omega)]
    by_cases h1 : p + s ≤ 1000
    · simp [h0, h1]
    · simp [h0, h1]
  · simp [h0]

theorem f16_eq (m c p s e : Int) (q : Bool) (b lo hi : Int) : f16 ((m, c, p, s, e, q, b, (lo, hi, ()), ()), ()) = some (if wE m c p s e b lo hi = 0 then ((m, c, p + s, (0 : Int), (0 : Int), q, b, (lo, hi, ()), ()), (0 : Int), ()) else (((0 : Int), (0 : Int), (0 : Int), (0 : Int), (0 : Int), false, (0 : Int), ((0 : Int), (0 : Int), ()), ()), wE m c p s e b lo hi, ())) := by
  have e0 := f10_eq m c p s e q b lo hi
  have c59 : ∀ a b : Int, f59 ([a, b], ()) = some (if a = 0 then b else a, ()) := f59_ab
  simp only [f16, t16, Tr.val_test, Tr.val_fin, Tr.val_stop, g10, e0, g60, f60_eq, g59, c59, eqF_eq, leF_eq, Option.isSome_some, Option.getD_some, if_true, wE]
  by_cases h0 : tE m c p s e b lo hi = 0
  · obtain ⟨v, _, _⟩ := tE_ok h0
    have hp := v.p
    have hs := v.s
    rw [wrap64_id (n := p + s) (by omega) (by omega)]
    by_cases h1 : p + s ≤ 1000
    · simp [h0, h1]
    · simp [h0, h1]
  · simp [h0]

theorem f19_eq (m c p s e : Int) (q : Bool) (b lo hi : Int) (hp : 0 ≤ p ∧ p ≤ 1000) (hs : 0 ≤ s ∧ s ≤ 1000) : f19 ((m, c, p, s, e, q, b, (lo, hi, ()), ()), ()) = some ((m, c, p + s, (0 : Int), (0 : Int), q, b, (lo, hi, ()), ()), ()) := by
  simp only [f19, t19, Tr.val_fin, wrap64_id (show -9223372036854775808 ≤ p + s by omega) (by omega)]

end Go.Vm.Mo

namespace Go.Vm.Mo
open Go
set_option linter.unusedVariables false
set_option linter.unusedSimpArgs false

theorem f3_eq (m c p s e : Int) (q : Bool) (b lo hi : Int) (l : List Int) (f : Int) (h64 : l.length ≤ 9223372036854775807) : f3 ((m, c, p, s, e, q, b, (lo, hi, ()), ()), l, f, ()) = some (true, ()) := by
  by_cases h6 : 6 < l.length
  · have b0 : (!decide ((l.length : Int) ≤ 6)) = true := nT (by omega)
    simp only [f3, t3, Tr.val_test, Tr.val_fin, leF_eq, b0, if_true]
  · have b0 : (!decide ((l.length : Int) ≤ 6)) = false := nF (by omega)
    have e12 := f12_eq l (by omega)
    have e10 := f10_eq m c p s e q b lo hi
    have e11 := f11_eq m c p s e q b lo hi l (by omega)
    have e16 := f16_eq m c p s e q b lo hi
    have e17 := f17_eq m c p s e q b lo hi
    have e18 := f18_eq m c p s e q b lo hi
    by_cases h0 : tE m c p s e b lo hi = 0
    · obtain ⟨v, _, _⟩ := tE_ok h0
      have e19 := f19_eq m c p s e q b lo hi v.p v.s
      have e20 := f20_eq m c p s e q b lo hi l (by omega) v.e v.b
      rw [if_pos h0] at e11
      by_cases h1 : stE e b l = 0
      · obtain ⟨a0, a1, a2, a3, A⟩ := arr_of v.e v.b.2 h1
        obtain ⟨_, hl, _⟩ := st_cases v.e v.b.2 h1
        have e15 := f15_at m c p s e q b lo hi l f (by omega) h0 h1 a0 a1 a2 a3 A
        have e21 := f21_at m c p s e q b lo hi v l a0 a1 a2 a3 A hl f
        rw [h1] at e11 e20
        have e13 := f13_at m c p s e q b lo hi l a0 a1 a2 a3 A v.e e11
        have e14 := f14_at m c p s e q b lo hi l a0 a1 a2 a3 A v.e e11
        have he := v.e
        have e22 := f22_at m c p s e q b lo hi l a0 a1 a2 a3 A v.e hl 0 (by omega)
        rw [show ((0 : Nat) : Int) = 0 from rfl] at e22
        have e22' : f22 ((m, c, p, s, e, q, b, (lo, hi, ()), ()), l, (0 : Int), ()) = some (cmdV q e a0 a1, ()) := e22
        have e23 := f23_at m c p s e q b lo hi l a0 a1 a2 a3 A v.e hl
        obtain ⟨r, er, hr⟩ : ∃ r : List Int × Int, (if wi lo hi f = true then if wi (-b) b (nextV m c p s e q a0 a1 a2 a3 f) = true then (nextV m c p s e q a0 a1 a2 a3 f :: l.take (l.length - 1), (0 : Int), ()) else ([], (22 : Int), ()) else ([], (6 : Int), ())) = (r.1, r.2, ()) ∧ r.1.length ≤ 1000000 := by
          split
          · split
            · exact ⟨(_, _), rfl, by simp; omega⟩
            · exact ⟨(_, _), rfl, by simp⟩
          · exact ⟨(_, _), rfl, by simp⟩
        rw [er] at e15 e21
        have e24 := f24_self r.1 hr
        by_cases hw : wE m c p s e b lo hi = 0
        · rw [if_pos hw] at e16
          simp only [f3, t3, Tr.val_test, Tr.val_fin, Tr.val_stop, leF_eq, eqF_eq, b0, g10, e10, g12, e12, g11, e11, g13, e13, g14, e14, g15, e15, g16, e16, g17, e17, g18, e18, g19, e19, g20, e20, g21, e21, g22, e22', g23, e23, g24, e24, h0, hw, Option.isSome_some, Option.getD_some, if_true, if_false, Bool.false_eq_true, Bool.not_true, Bool.not_false, decide_true, beq_self_eq_true, Bool.and_self, Bool.and_true]
        · rw [if_neg hw] at e16
          simp only [f3, t3, Tr.val_test, Tr.val_fin, Tr.val_stop, leF_eq, eqF_eq, b0, g10, e10, g12, e12, g11, e11, g13, e13, g14, e14, g15, e15, g16, e16, g17, e17, g18, e18, g19, e19, g20, e20, g21, e21, g22, e22', g23, e23, g24, e24, h0, hw, decide_false, Option.isSome_some, Option.getD_some, if_true, if_false, Bool.false_eq_true, Bool.not_true, Bool.not_false, decide_true, beq_self_eq_true, Bool.and_self, Bool.and_true]
      · have e13 := f13_err m c p s e q b lo hi l _ h1 e11
        have e14 := f14_err m c p s e q b lo hi l _ h1 e11
        have e15 := f15_err m c p s e q b lo hi l f (by omega) _ h1 e11
        by_cases hw : wE m c p s e b lo hi = 0
        · rw [if_pos hw] at e16
          simp only [f3, t3, Tr.val_test, Tr.val_fin, Tr.val_stop, leF_eq, eqF_eq, b0, g10, e10, g12, e12, g11, e11, g13, e13, g14, e14, g15, e15, g16, e16, g17, e17, g18, e18, g19, e19, g20, e20, h0, h1, hw, decide_false, Option.isSome_some, Option.getD_some, if_true, if_false, Bool.false_eq_true, Bool.not_true, Bool.not_false, decide_true, beq_self_eq_true, Bool.and_self, Bool.and_true]
          rfl
        · rw [if_neg hw] at e16
          simp only [f3, t3, Tr.val_test, Tr.val_fin, Tr.val_stop, leF_eq, eqF_eq, b0, g10, e10, g12, e12, g11, e11, g13, e13, g14, e14, g15, e15, g16, e16, g17, e17, g18, e18, g19, e19, g20, e20, h0, h1, hw, decide_false, Option.isSome_some, Option.getD_some, if_true, if_false, Bool.false_eq_true, Bool.not_true, Bool.not_false, decide_true, beq_self_eq_true, Bool.and_self, Bool.and_true]
          rfl
    · rw [if_neg h0] at e11
      have e13 := f13_err m c p s e q b lo hi l _ h0 e11
      have e14 := f14_err m c p s e q b lo hi l _ h0 e11
      have e15 := f15_err m c p s e q b lo hi l f (by omega) _ h0 e11
      have hw : wE m c p s e b lo hi = tE m c p s e b lo hi := by unfold wE; rw [if_neg h0]
      rw [hw, if_neg h0] at e16
      rw [hw] at e18
      simp only [f3, t3, Tr.val_test, Tr.val_fin, Tr.val_stop, leF_eq, eqF_eq, b0, g10, e10, g12, e12, g11, e11, g13, e13, g14, e14, g15, e15, g16, e16, g17, e17, g18, e18, h0, decide_false, Option.isSome_some, Option.getD_some, if_true, if_false, Bool.false_eq_true, Bool.not_true, Bool.not_false, decide_true, beq_self_eq_true, Bool.and_self, Bool.and_true]
      rfl

theorem law3 (d : Tys.data as3) (hw : Tys.Wf as3 d) : Pure1 Go.Proofs.Try.prog 3 as3 [.bool] d (true, ()) := by
  have hl : List.length d.2.1 ≤ 9223372036854775807 := hw.2.1.1
  have h := f3_eq d.1.1 d.1.2.1 d.1.2.2.1 d.1.2.2.2.1 d.1.2.2.2.2.1 d.1.2.2.2.2.2.1 d.1.2.2.2.2.2.2.1 d.1.2.2.2.2.2.2.2.1.1 d.1.2.2.2.2.2.2.2.1.2.1 d.2.1 d.2.2.1 hl
  have hp : p3.pre d = true := by
    show Option.isSome (f3 d) = true
    rw [show f3 d = some (true, ()) from h]; rfl
  have hg : p3.fn d = (true, ()) := by
    show (f3 d).getD _ = _
    rw [show f3 d = some (true, ()) from h]; rfl
  have := ok3.runs d hp
  rw [hg] at this
  exact this

end Go.Vm.Mo
