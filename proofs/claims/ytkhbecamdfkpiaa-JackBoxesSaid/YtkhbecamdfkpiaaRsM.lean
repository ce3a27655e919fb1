import Derived.Test.YtkhbecamdfkpiaaRsFc
import Derived.Test.YtkhbecamdfkpiaaA4
set_option linter.unusedVariables false
set_option linter.unusedSimpArgs false

namespace Go.Vm.Mo
open Go
set_option linter.unusedVariables false
set_option linter.unusedSimpArgs false

abbrev Jk := (Int × Int × Int × Int × Int × Int × PUnit.{1}) × (Int × Int × PUnit.{1}) × PUnit.{1}
abbrev Lm := (Int × Int × PUnit.{1}) × (Int × Int × PUnit.{1}) × (Int × Int × PUnit.{1}) × (Int × Int × PUnit.{1}) × (Int × Int × PUnit.{1}) × (Int × Int × PUnit.{1}) × PUnit.{1}
abbrev W := Int × Int × Int × Int × Int × Int × PUnit.{1}

def jAt (J : List Jk) (i : Nat) : Jk := J.getD i ((0, 0, 0, 0, 0, 0, ()), (0, 0, ()), ())

theorem first_map (bad : Nat → Bool) : ∀ (n i : Nat), first bad n (i + 1) = (first (fun k => bad (k + 1)) n i).map (· + 1)
  | 0, _ => rfl
  | n + 1, i => by
    simp only [first]
    split
    · rfl
    · exact first_map bad n (i + 1)

/-- The first that is not 0. -/
def firstNZ : List Int → Int
  | [] => 0
  | a :: l => if a = 0 then firstNZ l else a

theorem firstNZ_eq : ∀ l : List Int, (match first (fun i => !decide (l.getD i 0 = 0)) l.length 0 with
    | some k => l.getD k 0
    | none => 0) = firstNZ l
  | [] => rfl
  | a :: l => by
    simp only [List.length, first, firstNZ]
    by_cases ha : a = 0
    · subst ha
      have e := firstNZ_eq l
      have hf : first (fun i => !decide (((0 : Int) :: l).getD i 0 = 0)) l.length (0 + 1) = (first (fun i => !decide (l.getD i 0 = 0)) l.length 0).map (· + 1) := by
        rw [first_map]; rfl
      simp only [hf, List.getD_cons_zero, decide_true, Bool.not_true, Bool.false_eq_true, if_false, if_true]
      rw [← e]
      cases first (fun i => !decide (l.getD i 0 = 0)) l.length 0 with
      | none => rfl
      | some k => rfl
    · simp [ha]

theorem l31 (l : List Int) (h : l.length ≤ 1000000000) : l31_0 ((l, (l.length : Int), (0 : Int), ()), ()) = match first (fun i => !decide (l.getD i 0 = 0)) l.length 0 with
    | some k => some (.inr ((l.getD k 0, ()), ()))
    | none => some (.inl ((), ())) := by
  refine itr_search (fun i => ((l, (l.length : Int), (i : Int), ()), ())) (fun i => !decide (l.getD i 0 = 0)) (fun k => ((l.getD k 0, ()), ())) (n := l.length) ?_ ?_ (lt_rounds (by omega))
  · intro i hi
    simp only [s31_0, t31_0, Tr.val_test, leF_eq, eqF_eq]
    rw [if_pos (by simp; omega), if_pos (by simp; omega)]
    simp only [Int.toNat_natCast, wrap64_nat (show i ≤ 9223372036854775806 by omega)]
    rfl
  · simp [s31_0, t31_0, leF_eq]

theorem f31_eq (l : List Int) (h : l.length ≤ 1000000000) : f31 (l, ()) = some (firstNZ l, ()) := by
  simp only [f31, t31, Tr.val_test, r31_0, l31 l h, ← firstNZ_eq l]
  cases first (fun i => !decide (l.getD i 0 = 0)) l.length 0 with
  | none => rfl
  | some k => rfl

theorem f35_eq (d : Tys.data as35) : f35 d = some (if d.1 = true then d.2.1 else (0 : Int), ()) := by
  simp only [f35, t35, Tr.val_test]
  split <;> rfl

theorem f18_eq (d : Tys.data as18) : f18 d = some (decide ((d.2.1 : Int) ≤ d.1) && decide ((d.1 : Int) ≤ d.2.2.1), ()) := by
  simp only [f18, t18, Tr.val_test, leF_eq, decide_eq_true_eq]
  split <;> simp [*]

def wi (lo hi x : Int) : Bool := decide (lo ≤ x) && decide (x ≤ hi)

theorem wi_iff {lo hi x : Int} : wi lo hi x = true ↔ lo ≤ x ∧ x ≤ hi := by simp [wi]

def szB (j : Jk) : Bool := wi (-2) 2 j.1.1 && (wi (-2) 2 j.1.2.1 && (wi (-2) 2 j.1.2.2.1 && (wi (-2) 2 j.1.2.2.2.1 && (wi (-2) 2 j.1.2.2.2.2.1 && wi (-2) 2 j.1.2.2.2.2.2.1))))

theorem f62_eq (j : Jk) : f62 ((j.1.1, j.1.2.1, j.1.2.2.1, j.1.2.2.2.1, j.1.2.2.2.2.1, j.1.2.2.2.2.2.1, ()), (2 : Int), ()) = some (szB j, ()) := by
  have w : IntKind.wrap .i64 (0 - 2) = -2 := by decide
  have q : ∀ x : Int, f18 (x, (-2 : Int), (2 : Int), ()) = some (wi (-2) 2 x, ()) := fun x => f18_eq _
  simp only [f62, t62, g18, w, q j.1.1, q j.1.2.1, q j.1.2.2.1, q j.1.2.2.2.1, q j.1.2.2.2.2.1, q j.1.2.2.2.2.2.1, Option.isSome_some, Option.getD_some, Tr.val_test, Tr.val_fin, if_true, szB]
  by_cases a0 : wi (-2) 2 j.1.1 = true
  · by_cases a1 : wi (-2) 2 j.1.2.1 = true
    · by_cases a2 : wi (-2) 2 j.1.2.2.1 = true
      · by_cases a3 : wi (-2) 2 j.1.2.2.2.1 = true
        · by_cases a4 : wi (-2) 2 j.1.2.2.2.2.1 = true
          · by_cases a5 : wi (-2) 2 j.1.2.2.2.2.2.1 = true
            · simp [a0, a1, a2, a3, a4, a5]
            · simp [a0, a1, a2, a3, a4, a5]
          · simp [a0, a1, a2, a3, a4]
        · simp [a0, a1, a2, a3]
      · simp [a0, a1, a2]
    · simp [a0, a1]
  · simp [a0]

def zrB (j : Jk) : Bool := j.1.1 == 0 && (j.1.2.1 == 0 && (j.1.2.2.1 == 0 && (j.1.2.2.2.1 == 0 && (j.1.2.2.2.2.1 == 0 && (j.1.2.2.2.2.2.1 == 0 && true)))))

/-- What is wrong with a jack. -/
def jE (j : Jk) : Int := if szB j = false then 2 else if wi (-200) 200 j.2.1.1 = false then 2 else if wi (-200) 200 j.2.1.2.1 = false then 2 else if ¬ (j.2.1.1 ≤ j.2.1.2.1) then 9 else if zrB j = true then 11 else 0

theorem l38 (J : List Jk) (b : Tys.data [.int .i64, .int .i64, .int .i64, .int .i64, .int .i64, .int .i64, .int .i64, .int .i64, .int .i64, .int .i64, .int .i64, .int .i64]) (h : J.length ≤ 8) :
    l38_0 (((0 : Int), ()), (J, b), ()) = match first (fun i => !decide (jE (jAt J i) = 0)) J.length 0 with
      | some k => some (.inr (((k : Int), jE (jAt J k), ()), (J, b), ()))
      | none => some (.inl ((), (J, b), ())) := by
  refine itr_search (fun i => (((i : Int), ()), (J, b), ())) (fun i => !decide (jE (jAt J i) = 0)) (fun k => (((k : Int), jE (jAt J k), ()), (J, b), ())) (n := J.length) ?_ ?_ (lt_rounds (by omega))
  · intro i hi
    have e4 : wrap64 ((i : Int) + 1) = ((i + 1 : Nat) : Int) := wrap64_nat (by omega)
    have hj : J.getD i ((0, 0, 0, 0, 0, 0, ()), (0, 0, ()), ()) = jAt J i := rfl
    simp only [s38_0, t38_0, Tr.val_test, Tr.val_fin, leF_eq, Int.toNat_natCast, hj]
    rw [if_pos (by simp; omega), if_pos (by simp; omega)]
    generalize jAt J i = j
    have e45 := f62_eq j
    have w1 : f18 (j.2.1.1, (-200 : Int), (200 : Int), ()) = some (wi (-200) 200 j.2.1.1, ()) := f18_eq _
    have w2 : f18 (j.2.1.2.1, (-200 : Int), (200 : Int), ()) = some (wi (-200) 200 j.2.1.2.1, ()) := f18_eq _
    have hz : (j.1.1 == 0 && (j.1.2.1 == 0 && (j.1.2.2.1 == 0 && (j.1.2.2.2.1 == 0 && (j.1.2.2.2.2.1 == 0 && (j.1.2.2.2.2.2.1 == 0 && true)))))) = zrB j := rfl
    simp only [g62, e45, g18, w1, w2, hz, Option.isSome_some, Option.getD_some, Tr.val_test, Tr.val_fin, if_true, e4, jE]
    by_cases a0 : szB j = true
    · by_cases a1 : wi (-200) 200 j.2.1.1 = true
      · by_cases a2 : wi (-200) 200 j.2.1.2.1 = true
        · by_cases a3 : j.2.1.1 ≤ j.2.1.2.1
          · by_cases a4 : zrB j = true
            · simp [a0, a1, a2, a3, a4]
            · simp [a0, a1, a2, a3, a4]
          · simp [a0, a1, a2, a3]
        · simp [a0, a1, a2]
      · simp [a0, a1]
    · simp [a0]
  · simp [s38_0, t38_0, leF_eq]

def rE (lo hi : Int) : Int := if wi (-1000) 1000 lo = false then 2 else if wi (-1000) 1000 hi = false then 2 else if ¬ (lo ≤ hi) then 9 else 0

theorem f39_eq (lo hi : Int) : f39 ((lo, hi, ()), ()) = some (rE lo hi, ()) := by
  have w1 : f18 (lo, (-1000 : Int), (1000 : Int), ()) = some (wi (-1000) 1000 lo, ()) := f18_eq _
  have w2 : f18 (hi, (-1000 : Int), (1000 : Int), ()) = some (wi (-1000) 1000 hi, ()) := f18_eq _
  simp only [f39, t39, g18, w1, w2, Option.isSome_some, Option.getD_some, Tr.val_test, Tr.val_fin, leF_eq, if_true, rE]
  by_cases a1 : wi (-1000) 1000 lo = true
  · by_cases a2 : wi (-1000) 1000 hi = true
    · by_cases a3 : lo ≤ hi
      · simp [a1, a2, a3]
      · simp [a1, a2, a3]
    · simp [a1, a2]
  · simp [a1]

def lE (L : Lm) : Int := firstNZ [rE L.1.1 L.1.2.1, rE L.2.1.1 L.2.1.2.1, rE L.2.2.1.1 L.2.2.1.2.1, rE L.2.2.2.1.1 L.2.2.2.1.2.1, rE L.2.2.2.2.1.1 L.2.2.2.2.1.2.1, rE L.2.2.2.2.2.1.1 L.2.2.2.2.2.1.2.1]

def rigE (J : List Jk) (L : Lm) : Int := if J.length = 0 then 10 else if 8 < J.length then 8 else match first (fun i => !decide (jE (jAt J i) = 0)) J.length 0 with
  | some k => jE (jAt J k)
  | none => lE L

theorem f9_eq (J : List Jk) (L : Lm) : f9 ((J, L, ()), ()) = some (rigE J L, ()) := by
  have h22 : ∃ k : Int, f38 ((J, L, ()), ()) = some (k, rigE J L, ()) := by
    unfold rigE
    by_cases h0 : J.length = 0
    · refine ⟨0, ?_⟩
      simp only [f38, t38, Tr.val_test, Tr.val_fin, leF_eq, eqF_eq]
      rw [if_pos (by simp [h0]), if_pos h0]
    by_cases h8 : 8 < J.length
    · refine ⟨0, ?_⟩
      have n0 : decide ((J.length : Int) = 0) = false := decide_eq_false (by omega)
      have n8 : decide ((J.length : Int) ≤ 8) = false := decide_eq_false (by omega)
      simp only [f38, t38, Tr.val_test, Tr.val_fin, leF_eq, eqF_eq, n0, n8, Bool.false_eq_true, if_false, Bool.not_false, if_true]
      rw [if_neg h0, if_pos h8]
    have hl := l38 J (L.1.1, L.1.2.1, L.2.1.1, L.2.1.2.1, L.2.2.1.1, L.2.2.1.2.1, L.2.2.2.1.1, L.2.2.2.1.2.1, L.2.2.2.2.1.1, L.2.2.2.2.1.2.1, L.2.2.2.2.2.1.1, L.2.2.2.2.2.1.2.1, ()) (by omega)
    rw [if_neg h0, if_neg h8]
    have n0 : decide ((J.length : Int) = 0) = false := decide_eq_false (by omega)
    have n8 : decide ((J.length : Int) ≤ 8) = true := decide_eq_true (by omega)
    cases hf : first (fun i => !decide (jE (jAt J i) = 0)) J.length 0 with
    | some k =>
      rw [hf] at hl
      refine ⟨k, ?_⟩
      simp only [f38, t38, Tr.val_test, Tr.val_fin, leF_eq, eqF_eq, hl, isRet, r38_0, outR, Option.isSome_some, if_true, n0, n8, Bool.false_eq_true, if_false, Bool.not_true]
    | none =>
      rw [hf] at hl
      simp only [f38, t38, Tr.val_test, Tr.val_fin, leF_eq, eqF_eq, n0, n8, Bool.not_true, hl, isRet, b38_0, outB, Option.isSome_some, Option.getD_some, if_true, Bool.false_eq_true, if_false, g39, f39_eq L.1.1 L.1.2.1, f39_eq L.2.1.1 L.2.1.2.1, f39_eq L.2.2.1.1 L.2.2.1.2.1, f39_eq L.2.2.2.1.1 L.2.2.2.1.2.1, f39_eq L.2.2.2.2.1.1 L.2.2.2.2.1.2.1, f39_eq L.2.2.2.2.2.1.1 L.2.2.2.2.2.1.2.1, lE, firstNZ]
      by_cases c0 : rE L.1.1 L.1.2.1 = 0
      · by_cases c1 : rE L.2.1.1 L.2.1.2.1 = 0
        · by_cases c2 : rE L.2.2.1.1 L.2.2.1.2.1 = 0
          · by_cases c3 : rE L.2.2.2.1.1 L.2.2.2.1.2.1 = 0
            · by_cases c4 : rE L.2.2.2.2.1.1 L.2.2.2.2.1.2.1 = 0
              · by_cases c5 : rE L.2.2.2.2.2.1.1 L.2.2.2.2.2.1.2.1 = 0
                · exact ⟨0, by simp [c0, c1, c2, c3, c4, c5]⟩
                · exact ⟨5, by simp [c0, c1, c2, c3, c4, c5]⟩
              · exact ⟨4, by simp [c0, c1, c2, c3, c4]⟩
            · exact ⟨3, by simp [c0, c1, c2, c3]⟩
          · exact ⟨2, by simp [c0, c1, c2]⟩
        · exact ⟨1, by simp [c0, c1]⟩
      · exact ⟨0, by simp [c0]⟩
  obtain ⟨k, e⟩ := h22
  have e' : f38 ((J, ((L.1.1, L.1.2.1, ()), (L.2.1.1, L.2.1.2.1, ()), (L.2.2.1.1, L.2.2.1.2.1, ()), (L.2.2.2.1.1, L.2.2.2.1.2.1, ()), (L.2.2.2.2.1.1, L.2.2.2.2.1.2.1, ()), (L.2.2.2.2.2.1.1, L.2.2.2.2.2.1.2.1, ()), ()), ()), ()) = some (k, rigE J L, ()) := e
  simp only [f9, t9, g38, e', Option.isSome_some, Option.getD_some, Tr.val_test, Tr.val_fin, if_true]

structure VR (J : List Jk) (L : Lm) : Prop where
  one : 1 ≤ J.length
  eight : J.length ≤ 8
  jacks : ∀ i, i < J.length → jE (jAt J i) = 0
  lim : lE L = 0

theorem VR.of {J : List Jk} {L : Lm} (h : rigE J L = 0) : VR J L := by
  unfold rigE at h
  split at h
  · cases h
  · split at h
    · cases h
    · rename_i h0 h8
      cases hf : first (fun i => !decide (jE (jAt J i) = 0)) J.length 0 with
      | some k =>
        rw [hf] at h
        have := (first_some hf).2.2.1
        simp [h] at this
      | none =>
        rw [hf] at h
        exact ⟨by omega, by omega, fun i hi => by have := first_none hf i (Nat.zero_le _) (by omega); simpa using this, h⟩
theorem l33 (x : Int) (l : List Int) (h : l.length ≤ 1000000000) : l33_0 ((x, l, (l.length : Int), (0 : Int), ()), ()) = match first (fun i => !wi (IntKind.wrap .i64 (0 - x)) x (l.getD i 0)) l.length 0 with
    | some _ => some (.inr ((true, ()), ()))
    | none => some (.inl ((), ())) := by
  refine itr_search (fun i => ((x, l, (l.length : Int), (i : Int), ()), ())) (fun i => !wi (IntKind.wrap .i64 (0 - x)) x (l.getD i 0)) (fun _ => ((true, ()), ())) (n := l.length) ?_ ?_ (lt_rounds (by omega))
  · intro i hi
    simp only [s33_0, t33_0, Tr.val_test, Tr.val_fin, leF_eq, Int.toNat_natCast, wrap64_nat (show i ≤ 9223372036854775806 by omega)]
    rw [if_pos (by simp; omega), if_pos (by simp; omega)]
    by_cases a0 : IntKind.wrap .i64 (0 - x) ≤ l.getD i 0
    · by_cases a1 : l.getD i 0 ≤ x
      · simp only [wi, a0, a1, decide_true, Bool.and_self, Bool.not_true, if_true, if_false, Bool.false_eq_true]
      · simp only [wi, a0, a1, decide_true, decide_false, Bool.and_false, Bool.not_false, Bool.not_true, if_true, if_false, Bool.false_eq_true]
    · simp only [wi, a0, decide_false, Bool.false_and, Bool.not_false, if_true, if_false, Bool.false_eq_true]
  · simp [s33_0, t33_0, leF_eq]

theorem jE_zero {j : Jk} (h : jE j = 0) : szB j = true ∧ wi (-200) 200 j.2.1.1 = true ∧ wi (-200) 200 j.2.1.2.1 = true ∧ j.2.1.1 ≤ j.2.1.2.1 ∧ zrB j = false := by
  unfold jE at h
  split at h
  · cases h
  · split at h
    · cases h
    · split at h
      · cases h
      · split at h
        · cases h
        · split at h
          · cases h
          · rename_i a b c d e
            exact ⟨by simpa using a, by simpa using b, by simpa using c, by simpa using d, by simpa using e⟩

theorem rE_zero {lo hi : Int} (h : rE lo hi = 0) : wi (-1000) 1000 lo = true ∧ wi (-1000) 1000 hi = true ∧ lo ≤ hi := by
  unfold rE at h
  split at h
  · cases h
  · split at h
    · cases h
    · split at h
      · cases h
      · rename_i a b c
        exact ⟨by simpa using a, by simpa using b, by simpa using c⟩

theorem lE_zero {L : Lm} (h : lE L = 0) : rE L.1.1 L.1.2.1 = 0 ∧ rE L.2.1.1 L.2.1.2.1 = 0 ∧ rE L.2.2.1.1 L.2.2.1.2.1 = 0 ∧ rE L.2.2.2.1.1 L.2.2.2.1.2.1 = 0 ∧ rE L.2.2.2.2.1.1 L.2.2.2.2.1.2.1 = 0 ∧ rE L.2.2.2.2.2.1.1 L.2.2.2.2.2.1.2.1 = 0 := by
  unfold lE at h
  simp only [firstNZ] at h
  split at h
  · split at h
    · split at h
      · split at h
        · split at h
          · split at h
            · exact ⟨‹_›, ‹_›, ‹_›, ‹_›, ‹_›, ‹_›⟩
            · exact absurd h ‹_›
          · exact absurd h ‹_›
        · exact absurd h ‹_›
      · exact absurd h ‹_›
    · exact absurd h ‹_›
  · exact absurd h ‹_›

/-! The checks of the program, whatever is checked. -/

theorem f33_eq (x : Int) (l : List Int) (h : l.length ≤ 1000000000) : f33 (x, l, ()) = some ((first (fun i => !wi (IntKind.wrap .i64 (0 - x)) x (l.getD i 0)) l.length 0).isSome, ()) := by
  have hl := l33 x l h
  cases hf : first (fun i => !wi (IntKind.wrap .i64 (0 - x)) x (l.getD i 0)) l.length 0 with
  | none =>
    rw [hf] at hl
    simp only [f33, t33, Tr.val_test, Tr.val_fin, hl, isRet, Option.isSome_some, Option.isSome_none, if_true, Bool.false_eq_true, if_false]
  | some k =>
    rw [hf] at hl
    simp only [f33, t33, Tr.val_test, Tr.val_fin, hl, isRet, r33_0, outR, Option.isSome_some, if_true]

theorem f33_two (x lo a b : Int) (hx : IntKind.wrap .i64 (0 - x) = lo) : f33 (x, [a, b], ()) = some (!(wi lo x a && wi lo x b), ()) := by
  rw [f33_eq x _ (by simp), hx]
  simp only [first, List.length, List.getD_cons_zero, List.getD_cons_succ]
  by_cases h1 : wi lo x a = true
  · by_cases h2 : wi lo x b = true
    · simp [h1, h2]
    · simp [h1, h2]
  · simp [h1]

theorem f33_six (x lo a b c d e g : Int) (hx : IntKind.wrap .i64 (0 - x) = lo) : f33 (x, [a, b, c, d, e, g], ()) = some (!(wi lo x a && (wi lo x b && (wi lo x c && (wi lo x d && (wi lo x e && wi lo x g))))), ()) := by
  rw [f33_eq x _ (by simp), hx]
  simp only [first, List.length, List.getD_cons_zero, List.getD_cons_succ]
  by_cases h1 : wi lo x a = true
  · by_cases h2 : wi lo x b = true
    · by_cases h3 : wi lo x c = true
      · by_cases h4 : wi lo x d = true
        · by_cases h5 : wi lo x e = true
          · by_cases h6 : wi lo x g = true
            · simp [h1, h2, h3, h4, h5, h6]
            · simp [h1, h2, h3, h4, h5, h6]
          · simp [h1, h2, h3, h4, h5]
        · simp [h1, h2, h3, h4]
      · simp [h1, h2, h3]
    · simp [h1, h2]
  · simp [h1]

def rx (l x lo hi : Int) : Int := if wi l x lo = false then 2 else if wi l x hi = false then 2 else if ¬ (lo ≤ hi) then 9 else 0

theorem f59_eq (x l lo hi : Int) (hx : IntKind.wrap .i64 (0 - x) = l) : f59 (x, (lo, hi, ()), ()) = some (rx l x lo hi, ()) := by
  have e33 := f33_two x l lo hi hx
  have e31 : ∀ a b : Int, f31 ([a, b], ()) = some (firstNZ [a, b], ()) := fun a b => f31_eq _ (by simp)
  simp only [f59, t59, g33, e33, g35, f35_eq, leF_eq, g31, e31, Option.isSome_some, Option.getD_some, Tr.val_test, Tr.val_fin, if_true, rx, firstNZ]
  by_cases h1 : wi l x lo = true
  · by_cases h2 : wi l x hi = true
    · by_cases h3 : lo ≤ hi
      · simp [h1, h2, h3]
      · simp [h1, h2, h3]
    · simp [h1, h2]
  · simp [h1]

theorem f83_eq (i : Int) (j : Jk) : f83 (i, j, ()) = some (jE j, ()) := by
  have w : IntKind.wrap .i64 (0 - 2) = -2 := by decide
  have w2 : IntKind.wrap .i64 (0 - 200) = -200 := by decide
  have e33 := f33_six 2 (-2) j.1.1 j.1.2.1 j.1.2.2.1 j.1.2.2.2.1 j.1.2.2.2.2.1 j.1.2.2.2.2.2.1 w
  have e59 := f59_eq 200 (-200) j.2.1.1 j.2.1.2.1 w2
  have e31 : ∀ a b c : Int, f31 ([a, b, c], ()) = some (firstNZ [a, b, c], ()) := fun a b c => f31_eq _ (by simp)
  have hz : (j.1.1 == 0 && (j.1.2.1 == 0 && (j.1.2.2.1 == 0 && (j.1.2.2.2.1 == 0 && (j.1.2.2.2.2.1 == 0 && (j.1.2.2.2.2.2.1 == 0 && true)))))) = zrB j := rfl
  have hs : (wi (-2) 2 j.1.1 && (wi (-2) 2 j.1.2.1 && (wi (-2) 2 j.1.2.2.1 && (wi (-2) 2 j.1.2.2.2.1 && (wi (-2) 2 j.1.2.2.2.2.1 && wi (-2) 2 j.1.2.2.2.2.2.1))))) = szB j := rfl
  rw [hs] at e33
  have tk : List.take 6 [j.1.1, j.1.2.1, j.1.2.2.1, j.1.2.2.2.1, j.1.2.2.2.2.1, j.1.2.2.2.2.2.1, j.2.1.1, j.2.1.2.1] = [j.1.1, j.1.2.1, j.1.2.2.1, j.1.2.2.2.1, j.1.2.2.2.2.1, j.1.2.2.2.2.2.1] := rfl
  simp only [f83, t83, tk, g33, e33, g35, f35_eq, g59, e59, hz, g31, e31, Option.isSome_some, Option.getD_some, Tr.val_test, Tr.val_fin, if_true, rx, jE, firstNZ]
  by_cases h1 : szB j = true
  · by_cases h2 : wi (-200) 200 j.2.1.1 = true
    · by_cases h3 : wi (-200) 200 j.2.1.2.1 = true
      · by_cases h4 : j.2.1.1 ≤ j.2.1.2.1
        · by_cases h5 : zrB j = true
          · simp [h1, h2, h3, h4, h5]
          · simp [h1, h2, h3, h4, h5]
        · simp [h1, h2, h3, h4]
      · simp [h1, h2, h3]
    · simp [h1, h2]
  · simp [h1]

theorem l82 (J : List Jk) (h : J.length ≤ 8) : l82_0 ((J, (J.length : Int), (0 : Int), ()), ()) = match first (fun i => !decide (jE (jAt J i) = 0)) J.length 0 with
    | some k => some (.inr (((k : Int), jE (jAt J k), ()), ()))
    | none => some (.inl ((), ())) := by
  refine itr_search (fun i => ((J, (J.length : Int), (i : Int), ()), ())) (fun i => !decide (jE (jAt J i) = 0)) (fun k => (((k : Int), jE (jAt J k), ()), ())) (n := J.length) ?_ ?_ (lt_rounds (by omega))
  · intro i hi
    have e4 : wrap64 ((i : Int) + 1) = ((i + 1 : Nat) : Int) := wrap64_nat (by omega)
    have hjj : J.getD i ((0, 0, 0, 0, 0, 0, ()), (0, 0, ()), ()) = jAt J i := rfl
    have e83 := f83_eq (i : Int) (jAt J i)
    generalize jAt J i = j at *
    have e83' : f83 ((i : Int), ((j.1.1, j.1.2.1, j.1.2.2.1, j.1.2.2.2.1, j.1.2.2.2.2.1, j.1.2.2.2.2.2.1, ()), (j.2.1.1, j.2.1.2.1, ()), ()), ()) = some (jE j, ()) := e83
    simp only [s82_0, t82_0, Tr.val_test, Tr.val_fin, leF_eq, eqF_eq, Int.toNat_natCast, hjj, g83, e83', e4, Option.isSome_some, Option.getD_some, if_true]
    rw [if_pos (by simp; omega), if_pos (by simp; omega)]
  · simp [s82_0, t82_0, leF_eq]

theorem f58_eq (i lo hi : Int) : f58 (i, (lo, hi, ()), ()) = some (rE lo hi, ()) := by
  have w : IntKind.wrap .i64 (0 - 1000) = -1000 := by decide
  have e := f59_eq 1000 (-1000) lo hi w
  simp only [f58, t58, g59, e, Option.isSome_some, Option.getD_some, Tr.val_test, Tr.val_fin, if_true]
  rfl

theorem f30_eq (L : Lm) : ∃ k : Int, f30 (L, ()) = some (k, lE L, ()) := by
  have h : ∃ k : Int, f30 (((L.1.1, L.1.2.1, ()), (L.2.1.1, L.2.1.2.1, ()), (L.2.2.1.1, L.2.2.1.2.1, ()), (L.2.2.2.1.1, L.2.2.2.1.2.1, ()), (L.2.2.2.2.1.1, L.2.2.2.2.1.2.1, ()), (L.2.2.2.2.2.1.1, L.2.2.2.2.2.1.2.1, ()), ()), ()) = some (k, lE L, ()) := by
    simp only [f30, t30, g58, f58_eq 0 L.1.1 L.1.2.1, f58_eq 1 L.2.1.1 L.2.1.2.1, f58_eq 2 L.2.2.1.1 L.2.2.1.2.1, f58_eq 3 L.2.2.2.1.1 L.2.2.2.1.2.1, f58_eq 4 L.2.2.2.2.1.1 L.2.2.2.2.1.2.1, f58_eq 5 L.2.2.2.2.2.1.1 L.2.2.2.2.2.1.2.1, eqF_eq, Option.isSome_some, Option.getD_some, Tr.val_test, Tr.val_fin, if_true, lE, firstNZ]
    by_cases c0 : rE L.1.1 L.1.2.1 = 0
    · by_cases c1 : rE L.2.1.1 L.2.1.2.1 = 0
      · by_cases c2 : rE L.2.2.1.1 L.2.2.1.2.1 = 0
        · by_cases c3 : rE L.2.2.2.1.1 L.2.2.2.1.2.1 = 0
          · by_cases c4 : rE L.2.2.2.2.1.1 L.2.2.2.2.1.2.1 = 0
            · by_cases c5 : rE L.2.2.2.2.2.1.1 L.2.2.2.2.2.1.2.1 = 0
              · exact ⟨0, by simp [c0, c1, c2, c3, c4, c5]⟩
              · exact ⟨5, by simp [c0, c1, c2, c3, c4, c5]⟩
            · exact ⟨4, by simp [c0, c1, c2, c3, c4]⟩
          · exact ⟨3, by simp [c0, c1, c2, c3]⟩
        · exact ⟨2, by simp [c0, c1, c2]⟩
      · exact ⟨1, by simp [c0, c1]⟩
    · exact ⟨0, by simp [c0]⟩
  exact h

theorem f56_eq (J : List Jk) (L : Lm) : ∃ k : Int, f56 ((J, L, ()), ()) = some (k, rigE J L, ()) := by
  have e31 : ∀ a b : Int, f31 ([a, b], ()) = some (firstNZ [a, b], ()) := fun a b => f31_eq _ (by simp)
  have e74 : f74 ((J.length : Int), (8 : Int), ()) = some (if J.length = 0 then 10 else if 8 < J.length then 8 else 0, ()) := by
    simp only [f74, t74, g35, f35_eq, eqF_eq, leF_eq, g31, e31, Option.isSome_some, Option.getD_some, Tr.val_test, Tr.val_fin, if_true, firstNZ]
    by_cases h0 : J.length = 0
    · simp [h0]
    · by_cases h8 : 8 < J.length
      · have n0 : ¬ ((J.length : Int) = 0) := by omega
        have n8 : ¬ ((J.length : Int) ≤ 8) := by omega
        simp [h0, h8, n0, n8]
      · have n0 : ¬ ((J.length : Int) = 0) := by omega
        have n8 : (J.length : Int) ≤ 8 := by omega
        simp [h0, h8, n0, n8]
  obtain ⟨k, e30⟩ := f30_eq L
  have e30' : f30 (((L.1.1, L.1.2.1, ()), (L.2.1.1, L.2.1.2.1, ()), (L.2.2.1.1, L.2.2.1.2.1, ()), (L.2.2.2.1.1, L.2.2.2.1.2.1, ()), (L.2.2.2.2.1.1, L.2.2.2.2.1.2.1, ()), (L.2.2.2.2.2.1.1, L.2.2.2.2.2.1.2.1, ()), ()), ()) = some (k, lE L, ()) := e30
  unfold rigE
  by_cases h0 : J.length = 0
  · refine ⟨0, ?_⟩
    rw [if_pos h0] at e74
    simp only [f56, t56, g74, e74, eqF_eq, Option.isSome_some, Option.getD_some, Tr.val_test, Tr.val_fin, if_true]
    rw [if_pos h0]
    simp
  · by_cases h8 : 8 < J.length
    · refine ⟨0, ?_⟩
      rw [if_neg h0, if_pos h8] at e74
      simp only [f56, t56, g74, e74, eqF_eq, Option.isSome_some, Option.getD_some, Tr.val_test, Tr.val_fin, if_true]
      rw [if_neg h0, if_pos h8]
      simp
    · rw [if_neg h0, if_neg h8] at e74
      rw [if_neg h0, if_neg h8]
      have hl := l82 J (by omega)
      cases hf : first (fun i => !decide (jE (jAt J i) = 0)) J.length 0 with
      | some q =>
        rw [hf] at hl
        have hne : ¬ (jE (jAt J q) = 0) := by simpa using (first_some hf).2.2.1
        refine ⟨q, ?_⟩
        simp only [f56, t56, g74, e74, hl, isRet, r82_0, outR, eqF_eq, Option.isSome_some, Option.getD_some, Tr.val_test, Tr.val_fin, if_true, decide_true, Bool.not_true, Bool.false_eq_true, if_false]
        simp [hne]
      | none =>
        rw [hf] at hl
        refine ⟨k, ?_⟩
        simp only [f56, t56, g74, e74, hl, isRet, g30, e30', eqF_eq, Option.isSome_some, Option.getD_some, Tr.val_test, Tr.val_fin, if_true, decide_true, Bool.not_true, Bool.false_eq_true, if_false]

/-- No rig. -/
def noRig : List Jk × Lm × PUnit.{1} := ([], ((0, 0, ()), (0, 0, ()), (0, 0, ()), (0, 0, ()), (0, 0, ()), (0, 0, ()), ()), ())

theorem f29_eq (J : List Jk) (L : Lm) : f29 ((J, L, ()), ()) = some (if rigE J L = 0 then ((J, L, ()), ()) else (noRig, ()), rigE J L, ()) := by
  obtain ⟨k, e⟩ := f56_eq J L
  have e' : f56 ((J, ((L.1.1, L.1.2.1, ()), (L.2.1.1, L.2.1.2.1, ()), (L.2.2.1.1, L.2.2.1.2.1, ()), (L.2.2.2.1.1, L.2.2.2.1.2.1, ()), (L.2.2.2.2.1.1, L.2.2.2.2.1.2.1, ()), (L.2.2.2.2.2.1.1, L.2.2.2.2.2.1.2.1, ()), ()), ()), ()) = some (k, rigE J L, ()) := e
  simp only [f29, t29, g56, e', eqF_eq, Option.isSome_some, Option.getD_some, Tr.val_test, Tr.val_fin, if_true]
  by_cases h : rigE J L = 0
  · simp [h]
  · simp [h, noRig]

/-! Sums of six products. -/

def dot (x y : W) : Int := x.1 * y.1 + x.2.1 * y.2.1 + x.2.2.1 * y.2.2.1 + x.2.2.2.1 * y.2.2.2.1 + x.2.2.2.2.1 * y.2.2.2.2.1 + x.2.2.2.2.2.1 * y.2.2.2.2.2.1

theorem dot_comm (x y : W) : dot x y = dot y x := by
  simp only [dot, Int.mul_comm]

/-- All six are small. -/
structure Sm (b : Nat) (x : W) : Prop where
  a0 : x.1.natAbs ≤ b
  a1 : x.2.1.natAbs ≤ b
  a2 : x.2.2.1.natAbs ≤ b
  a3 : x.2.2.2.1.natAbs ≤ b
  a4 : x.2.2.2.2.1.natAbs ≤ b
  a5 : x.2.2.2.2.2.1.natAbs ≤ b

theorem Sm.mono {a b : Nat} {x : W} (h : Sm a x) (k : a ≤ b) : Sm b x := ⟨Nat.le_trans h.a0 k, Nat.le_trans h.a1 k, Nat.le_trans h.a2 k, Nat.le_trans h.a3 k, Nat.le_trans h.a4 k, Nat.le_trans h.a5 k⟩

theorem mulB {a b : Int} {A B : Nat} (ha : a.natAbs ≤ A) (hb : b.natAbs ≤ B) : (a * b).natAbs ≤ A * B := by
  rw [Int.natAbs_mul]; exact Nat.mul_le_mul ha hb

theorem wsum6 {p0 p1 p2 p3 p4 p5 : Int} {M : Nat} (hM : M ≤ 1000000000000000) (h0 : p0.natAbs ≤ M) (h1 : p1.natAbs ≤ M) (h2 : p2.natAbs ≤ M) (h3 : p3.natAbs ≤ M) (h4 : p4.natAbs ≤ M) (h5 : p5.natAbs ≤ M) :
    wrap64 (wrap64 (wrap64 (wrap64 (wrap64 (wrap64 (0 + wrap64 p0) + wrap64 p1) + wrap64 p2) + wrap64 p3) + wrap64 p4) + wrap64 p5) = p0 + p1 + p2 + p3 + p4 + p5 := by
  rw [wrap64_id (n := p0) (by omega) (by omega), wrap64_id (n := p1) (by omega) (by omega), wrap64_id (n := p2) (by omega) (by omega), wrap64_id (n := p3) (by omega) (by omega), wrap64_id (n := p4) (by omega) (by omega), wrap64_id (n := p5) (by omega) (by omega)]
  rw [Int.zero_add, wrap64_id (n := p0) (by omega) (by omega), wrap64_id (n := p0 + p1) (by omega) (by omega), wrap64_id (n := p0 + p1 + p2) (by omega) (by omega), wrap64_id (n := p0 + p1 + p2 + p3) (by omega) (by omega), wrap64_id (n := p0 + p1 + p2 + p3 + p4) (by omega) (by omega), wrap64_id (n := p0 + p1 + p2 + p3 + p4 + p5) (by omega) (by omega)]

theorem f45_eq {x y : W} (hx : Sm 1000000 x) (hy : Sm 1000000 y) : f45 (x, y, ()) = some (dot x y, ()) := by
  have e := wsum6 (M := 1000000000000) (by omega) (mulB hx.a0 hy.a0) (mulB hx.a1 hy.a1) (mulB hx.a2 hy.a2) (mulB hx.a3 hy.a3) (mulB hx.a4 hy.a4) (mulB hx.a5 hy.a5)
  simp only [f45, t45, Tr.val_fin]
  rw [e]
  rfl

theorem f94_eq {x y : W} (hx : Sm 1000000 x) (hy : Sm 1000000 y) : f94 (x, y, ()) = some (dot x y, ()) := by
  have e := wsum6 (M := 1000000000000) (by omega) (mulB hx.a0 hy.a0) (mulB hx.a1 hy.a1) (mulB hx.a2 hy.a2) (mulB hx.a3 hy.a3) (mulB hx.a4 hy.a4) (mulB hx.a5 hy.a5)
  simp only [f94, t94, Tr.val_fin]
  rw [e]
  rfl

theorem dot_bound {x y : W} {A B : Nat} (hx : Sm A x) (hy : Sm B y) : (dot x y).natAbs ≤ 6 * (A * B) := by
  have h0 := mulB hx.a0 hy.a0
  have h1 := mulB hx.a1 hy.a1
  have h2 := mulB hx.a2 hy.a2
  have h3 := mulB hx.a3 hy.a3
  have h4 := mulB hx.a4 hy.a4
  have h5 := mulB hx.a5 hy.a5
  unfold dot
  generalize A * B = M at *
  omega

/-- Valid jacks are small. -/
theorem jack_small {j : Jk} (h : jE j = 0) : Sm 2 j.1 ∧ (-200 ≤ j.2.1.1 ∧ j.2.1.1 ≤ 200) ∧ (-200 ≤ j.2.1.2.1 ∧ j.2.1.2.1 ≤ 200) ∧ j.2.1.1 ≤ j.2.1.2.1 := by
  obtain ⟨h1, h2, h3, h4, h5⟩ := jE_zero h
  simp only [szB, Bool.and_eq_true, wi_iff] at h1
  obtain ⟨a0, a1, a2, a3, a4, a5⟩ := h1
  rw [wi_iff] at h2 h3
  exact ⟨⟨by omega, by omega, by omega, by omega, by omega, by omega⟩, h2, h3, h4⟩

/-- The parts of a way. -/
def pk (p : W) (k : Nat) : Int := List.getD [p.1, p.2.1, p.2.2.1, p.2.2.2.1, p.2.2.2.2.1, p.2.2.2.2.2.1] k 0

theorem Sm.pk {b : Nat} {p : W} (h : Sm b p) (k : Nat) : (pk p k).natAbs ≤ b := by
  match k with
  | 0 => exact h.a0
  | 1 => exact h.a1
  | 2 => exact h.a2
  | 3 => exact h.a3
  | 4 => exact h.a4
  | 5 => exact h.a5
  | n + 6 => simp [Mo.pk]

def unitW : Nat → W
  | 0 => (1, 0, 0, 0, 0, 0, ())
  | 1 => (0, 1, 0, 0, 0, 0, ())
  | 2 => (0, 0, 1, 0, 0, 0, ())
  | 3 => (0, 0, 0, 1, 0, 0, ())
  | 4 => (0, 0, 0, 0, 1, 0, ())
  | _ => (0, 0, 0, 0, 0, 1, ())

theorem unitW_small (k : Nat) : Sm 1 (unitW k) := by
  match k with
  | 0 => exact ⟨by decide, by decide, by decide, by decide, by decide, by decide⟩
  | 1 => exact ⟨by decide, by decide, by decide, by decide, by decide, by decide⟩
  | 2 => exact ⟨by decide, by decide, by decide, by decide, by decide, by decide⟩
  | 3 => exact ⟨by decide, by decide, by decide, by decide, by decide, by decide⟩
  | 4 => exact ⟨by decide, by decide, by decide, by decide, by decide, by decide⟩
  | n + 5 => exact ⟨Nat.zero_le 1, Nat.zero_le 1, Nat.zero_le 1, Nat.zero_le 1, Nat.zero_le 1, Nat.le_refl 1⟩

theorem f71_eq {k : Nat} (h : k < 6) : f71 ((k : Int), ()) = some (unitW k, ()) := by
  match k, h with
  | 0, _ => rfl
  | 1, _ => rfl
  | 2, _ => rfl
  | 3, _ => rfl
  | 4, _ => rfl
  | 5, _ => rfl

theorem dot_unit (p : W) {k : Nat} (h : k < 6) : dot p (unitW k) = pk p k := by
  match k, h with
  | 0, _ => simp [dot, unitW, pk]
  | 1, _ => simp [dot, unitW, pk]
  | 2, _ => simp [dot, unitW, pk]
  | 3, _ => simp [dot, unitW, pk]
  | 4, _ => simp [dot, unitW, pk]
  | 5, _ => simp [dot, unitW, pk]

def iabs (n : Int) : Int := if n < 0 - n then 0 - n else n

theorem iabs_nat (n : Int) : iabs n = (n.natAbs : Int) := by unfold iabs; split <;> omega

def absW (x : W) : W := (iabs x.1, iabs x.2.1, iabs x.2.2.1, iabs x.2.2.2.1, iabs x.2.2.2.2.1, iabs x.2.2.2.2.2.1, ())

theorem absW_small {b : Nat} {x : W} (h : Sm b x) : Sm b (absW x) := by
  refine ⟨?_, ?_, ?_, ?_, ?_, ?_⟩ <;> simp only [absW, iabs_nat, Int.natAbs_natCast]
  · exact h.a0
  · exact h.a1
  · exact h.a2
  · exact h.a3
  · exact h.a4
  · exact h.a5

theorem wneg {n : Int} (h : n.natAbs ≤ 1000000000000000) : IntKind.wrap .i64 (0 - n) = 0 - n := by
  rw [← wrap64_eq]; exact wrap64_id (by omega) (by omega)

theorem f61_eq {x : W} (h : Sm 1000000 x) : f61 (x, ()) = some (absW x, ()) := by
  have h0 := h.a0
  have h1 := h.a1
  have h2 := h.a2
  have h3 := h.a3
  have h4 := h.a4
  have h5 := h.a5
  simp only [f61, t61, Tr.val_fin, wneg (n := x.1) (by omega), wneg (n := x.2.1) (by omega), wneg (n := x.2.2.1) (by omega), wneg (n := x.2.2.2.1) (by omega), wneg (n := x.2.2.2.2.1) (by omega), wneg (n := x.2.2.2.2.2.1) (by omega)]
  rfl

/-! Whether a pose is permitted. -/

theorem jAt_getD (J : List Jk) (i : Nat) : J.getD i ((0, 0, 0, 0, 0, 0, ()), (0, 0, ()), ()) = jAt J i := rfl

def okJ (p : W) (j : Jk) : Bool := wi j.2.1.1 j.2.1.2.1 (dot p j.1)

abbrev Bx := List Jk × Int × Int × Int × Int × Int × Int × Int × Int × Int × Int × Int × Int × PUnit.{1}

theorem l84 (J : List Jk) (bx : Bx) (p : W) (b : Bool) (h : J.length ≤ 8) (hj : ∀ i, i < J.length → jE (jAt J i) = 0) (hp : Sm 1000000 p) :
    l84_0 ((J, (J.length : Int), (0 : Int), ()), (), bx, p, (b, ()), ()) = match first (fun i => !okJ p (jAt J i)) J.length 0 with
      | some _ => some (.inr ((), (), bx, p, (false, ()), ()))
      | none => some (.inl ((), (), bx, p, (b, ()), ())) := by
  refine itr_search (fun i => ((J, (J.length : Int), (i : Int), ()), (), bx, p, (b, ()), ())) (fun i => !okJ p (jAt J i)) (fun _ => ((), (), bx, p, (false, ()), ())) (n := J.length) ?_ ?_ (lt_rounds (by omega))
  · intro i hi
    have e4 : wrap64 ((i : Int) + 1) = ((i + 1 : Nat) : Int) := wrap64_nat (by omega)
    have hs := (jack_small (hj i hi)).1
    simp only [s84_0, t84_0, Tr.val_test, Tr.val_fin, leF_eq, Int.toNat_natCast, jAt_getD]
    rw [if_pos (by simp; omega), if_pos (by simp; omega)]
    generalize jAt J i = j at *
    have e45 : f45 ((p.1, p.2.1, p.2.2.1, p.2.2.2.1, p.2.2.2.2.1, p.2.2.2.2.2.1, ()), (j.1.1, j.1.2.1, j.1.2.2.1, j.1.2.2.2.1, j.1.2.2.2.2.1, j.1.2.2.2.2.2.1, ()), ()) = some (dot p j.1, ()) := f45_eq hp (hs.mono (by omega))
    simp only [g45, e45, e4, Option.isSome_some, Option.getD_some, if_true, okJ, wi]
    by_cases a1 : j.2.1.1 ≤ dot p j.1
    · by_cases a2 : dot p j.1 ≤ j.2.1.2.1
      · simp [a1, a2]
      · simp [a1, a2]
    · simp [a1]
  · simp [s84_0, t84_0, leF_eq]

/-- The ends of the limits, one after another. -/
def ends12 (L : Lm) : List Int := [L.1.1, L.1.2.1, L.2.1.1, L.2.1.2.1, L.2.2.1.1, L.2.2.1.2.1, L.2.2.2.1.1, L.2.2.2.1.2.1, L.2.2.2.2.1.1, L.2.2.2.2.1.2.1, L.2.2.2.2.2.1.1, L.2.2.2.2.2.1.2.1]
def lo6 (L : Lm) (k : Nat) : Int := (ends12 L).getD (k * 2 + 0) 0
def hi6 (L : Lm) (k : Nat) : Int := (ends12 L).getD (k * 2 + 1) 0
def okL (p : W) (L : Lm) (k : Nat) : Bool := wi (lo6 L k) (hi6 L k) (pk p k)

theorem l84b (L : Lm) (p : W) (b : Bool) (hp : Sm 1000000 p) :
    l84_2 (((L.1.1, L.1.2.1, L.2.1.1, L.2.1.2.1, L.2.2.1.1, L.2.2.1.2.1, L.2.2.2.1.1, L.2.2.2.1.2.1, L.2.2.2.2.1.1, L.2.2.2.2.1.2.1, L.2.2.2.2.2.1.1, L.2.2.2.2.2.1.2.1, ()), (0 : Int), ()), (), p, (b, ()), ()) = match first (fun k => !okL p L k) 6 0 with
      | some _ => some (.inr ((), (), p, (false, ()), ()))
      | none => some (.inl ((), (), p, (b, ()), ())) := by
  refine itr_search (fun i => (((L.1.1, L.1.2.1, L.2.1.1, L.2.1.2.1, L.2.2.1.1, L.2.2.1.2.1, L.2.2.2.1.1, L.2.2.2.1.2.1, L.2.2.2.2.1.1, L.2.2.2.2.1.2.1, L.2.2.2.2.2.1.1, L.2.2.2.2.2.1.2.1, ()), (i : Int), ()), (), p, (b, ()), ())) (fun k => !okL p L k) (fun _ => ((), (), p, (false, ()), ())) (n := 6) ?_ ?_ (lt_rounds (by omega))
  · intro k hk
    have e4 : wrap64 ((k : Int) + 1) = ((k + 1 : Nat) : Int) := wrap64_nat (by omega)
    have e71 := f71_eq hk
    have hd := dot_unit p hk
    have hu := unitW_small k
    simp only [s84_2, t84_2, Tr.val_test, Tr.val_fin, leF_eq, Int.toNat_natCast]
    rw [if_pos (by simp; omega), if_pos (by simp; omega), if_pos (by simp; omega)]
    generalize hq : unitW k = q at *
    have e45 : f45 ((p.1, p.2.1, p.2.2.1, p.2.2.2.1, p.2.2.2.2.1, p.2.2.2.2.2.1, ()), (q.1, q.2.1, q.2.2.1, q.2.2.2.1, q.2.2.2.2.1, q.2.2.2.2.2.1, ()), ()) = some (dot p q, ()) := f45_eq hp (hu.mono (by omega))
    have h1 : List.getD [L.1.1, L.1.2.1, L.2.1.1, L.2.1.2.1, L.2.2.1.1, L.2.2.1.2.1, L.2.2.2.1.1, L.2.2.2.1.2.1, L.2.2.2.2.1.1, L.2.2.2.2.1.2.1, L.2.2.2.2.2.1.1, L.2.2.2.2.2.1.2.1] (k * 2 + 0) 0 = lo6 L k := rfl
    have h2 : List.getD [L.1.1, L.1.2.1, L.2.1.1, L.2.1.2.1, L.2.2.1.1, L.2.2.1.2.1, L.2.2.2.1.1, L.2.2.2.1.2.1, L.2.2.2.2.1.1, L.2.2.2.2.1.2.1, L.2.2.2.2.2.1.1, L.2.2.2.2.2.1.2.1] (k * 2 + 1) 0 = hi6 L k := rfl
    simp only [g71, e71, g45, Option.isSome_some, Option.getD_some, if_true, e45, hd, h1, h2, e4, okL, wi]
    by_cases a1 : lo6 L k ≤ pk p k
    · by_cases a2 : pk p k ≤ hi6 L k
      · simp [a1, a2]
      · simp [a1, a2]
    · simp [a1]
  · simp [s84_2, t84_2, leF_eq]

def permB (J : List Jk) (L : Lm) (p : W) : Bool := (first (fun i => !okJ p (jAt J i)) J.length 0).isNone && (first (fun k => !okL p L k) 6 0).isNone

theorem f36_eq (J : List Jk) (L : Lm) (p : W) (h : VR J L) (hp : Sm 1000000 p) : f36 (((J, L, ()), ()), p, ()) = some (permB J L p, ()) := by
  have e1 := l84 J (J, L.1.1, L.1.2.1, L.2.1.1, L.2.1.2.1, L.2.2.1.1, L.2.2.1.2.1, L.2.2.2.1.1, L.2.2.2.1.2.1, L.2.2.2.2.1.1, L.2.2.2.2.1.2.1, L.2.2.2.2.2.1.1, L.2.2.2.2.2.1.2.1, ()) p false h.eight h.jacks hp
  have e1' : l84_0 ((J, (J.length : Int), (0 : Int), ()), (), (J, L.1.1, L.1.2.1, L.2.1.1, L.2.1.2.1, L.2.2.1.1, L.2.2.1.2.1, L.2.2.2.1.1, L.2.2.2.1.2.1, L.2.2.2.2.1.1, L.2.2.2.2.1.2.1, L.2.2.2.2.2.1.1, L.2.2.2.2.2.1.2.1, ()), (p.1, p.2.1, p.2.2.1, p.2.2.2.1, p.2.2.2.2.1, p.2.2.2.2.2.1, ()), (false, ()), ()) = _ := e1
  have e2 := l84b L p false hp
  unfold permB
  cases hf : first (fun i => !okJ p (jAt J i)) J.length 0 with
  | some k =>
    rw [hf] at e1'
    simp only [f36, t36, e1', isRet, r84_0, outR, Option.isSome_some, Option.isNone_some, Tr.val_test, Tr.val_fin, if_true, Bool.false_and]
  | none =>
    rw [hf] at e1'
    cases hf2 : first (fun k => !okL p L k) 6 0 with
    | some k =>
      rw [hf2] at e2
      have e2' : l84_2 (((L.1.1, L.1.2.1, L.2.1.1, L.2.1.2.1, L.2.2.1.1, L.2.2.1.2.1, L.2.2.2.1.1, L.2.2.2.1.2.1, L.2.2.2.2.1.1, L.2.2.2.2.1.2.1, L.2.2.2.2.2.1.1, L.2.2.2.2.2.1.2.1, ()), (0 : Int), ()), (), (p.1, p.2.1, p.2.2.1, p.2.2.2.1, p.2.2.2.2.1, p.2.2.2.2.2.1, ()), (false, ()), ()) = _ := e2
      simp only [f36, t36, e1', isRet, b84_0, outB, e2', r84_2, outR, Option.isSome_some, Option.isNone_none, Option.isNone_some, Tr.val_test, Tr.val_fin, if_true, Bool.false_eq_true, if_false, Bool.and_false]
    | none =>
      rw [hf2] at e2
      have e2' : l84_2 (((L.1.1, L.1.2.1, L.2.1.1, L.2.1.2.1, L.2.2.1.1, L.2.2.1.2.1, L.2.2.2.1.1, L.2.2.2.1.2.1, L.2.2.2.2.1.1, L.2.2.2.2.1.2.1, L.2.2.2.2.2.1.1, L.2.2.2.2.2.1.2.1, ()), (0 : Int), ()), (), (p.1, p.2.1, p.2.2.1, p.2.2.2.1, p.2.2.2.2.1, p.2.2.2.2.2.1, ()), (false, ()), ()) = _ := e2
      simp only [f36, t36, e1', isRet, b84_0, outB, e2', b84_2, Option.isSome_some, Option.isNone_none, Tr.val_test, Tr.val_fin, if_true, Bool.false_eq_true, if_false, Bool.and_self]

theorem permB_iff (J : List Jk) (L : Lm) (p : W) : permB J L p = true ↔ (∀ i, i < J.length → okJ p (jAt J i) = true) ∧ (∀ k, k < 6 → okL p L k = true) := by
  unfold permB
  rw [Bool.and_eq_true]
  constructor
  · rintro ⟨h1, h2⟩
    rw [Option.isNone_iff_eq_none] at h1 h2
    refine ⟨fun i hi => ?_, fun k hk => ?_⟩
    · have := first_none h1 i (Nat.zero_le _) (by omega); simpa using this
    · have := first_none h2 k (Nat.zero_le _) (by omega); simpa using this
  · rintro ⟨h1, h2⟩
    rw [Option.isNone_iff_eq_none, Option.isNone_iff_eq_none]
    exact ⟨first_of_none fun i _ hi => by simp [h1 i (by omega)], first_of_none fun k _ hk => by simp [h2 k (by omega)]⟩

/-! Margins. -/

def exts (J : List Jk) (p : W) (n : Nat) : List Int := (List.range n).map fun k => dot (jAt J k).1 p

theorem exts_len (J : List Jk) (p : W) (n : Nat) : (exts J p n).length = n := by simp [exts]
theorem exts_succ (J : List Jk) (p : W) (n : Nat) : exts J p (n + 1) = exts J p n ++ [dot (jAt J n).1 p] := by simp [exts, List.range_succ]
theorem exts_get (J : List Jk) (p : W) {n i : Nat} (h : i < n) : (exts J p n).getD i 0 = dot (jAt J i).1 p := by simp [exts, List.getD, h]

theorem l85 (J : List Jk) (y : Tys.data [.int .i64, .int .i64, .int .i64, .int .i64, .int .i64, .int .i64, .int .i64, .int .i64, .int .i64, .int .i64, .int .i64, .int .i64]) (p : W) (h : J.length ≤ 8) (hj : ∀ i, i < J.length → jE (jAt J i) = 0) (hp : Sm 1000000 p) :
    l85_0 (([], (0 : Int), ()), (J, y), p, ()) = some (.inl ((exts J p J.length, ()), (J, y), p, ())) := by
  refine itr_brk (fun i => ((exts J p i, (i : Int), ()), (J, y), p, ())) (n := J.length) ?_ ?_ (lt_rounds (by omega))
  · intro i hi
    have e4 : wrap64 ((i : Int) + 1) = ((i + 1 : Nat) : Int) := wrap64_nat (by omega)
    have hs := (jack_small (hj i hi)).1
    have hex := exts_succ J p i
    simp only [s85_0, t85_0, Tr.val_test, Tr.val_fin, leF_eq, Int.toNat_natCast, jAt_getD, exts_len]
    rw [if_pos (by simp; omega), if_pos (by simp; omega)]
    generalize jAt J i = j at *
    have e94 : f94 ((j.1.1, j.1.2.1, j.1.2.2.1, j.1.2.2.2.1, j.1.2.2.2.2.1, j.1.2.2.2.2.2.1, ()), (p.1, p.2.1, p.2.2.1, p.2.2.2.1, p.2.2.2.2.1, p.2.2.2.2.2.1, ()), ()) = some (dot j.1 p, ()) := f94_eq (hs.mono (by omega)) hp
    simp only [g94, e94, e4, Option.isSome_some, Option.getD_some, if_true, hex]
    rw [if_pos (by simp; omega)]
  · simp [s85_0, t85_0, leF_eq]

theorem f85_eq (J : List Jk) (L : Lm) (p : W) (h : VR J L) (hp : Sm 1000000 p) : f85 ((J, L, ()), p, ()) = some (exts J p J.length, ()) := by
  have e := l85 J (L.1.1, L.1.2.1, L.2.1.1, L.2.1.2.1, L.2.2.1.1, L.2.2.1.2.1, L.2.2.2.1.1, L.2.2.2.1.2.1, L.2.2.2.2.1.1, L.2.2.2.2.1.2.1, L.2.2.2.2.2.1.1, L.2.2.2.2.2.1.2.1, ()) p h.eight h.jacks hp
  have e' : l85_0 (([], (0 : Int), ()), (J, L.1.1, L.1.2.1, L.2.1.1, L.2.1.2.1, L.2.2.1.1, L.2.2.1.2.1, L.2.2.2.1.1, L.2.2.2.1.2.1, L.2.2.2.2.1.1, L.2.2.2.2.1.2.1, L.2.2.2.2.2.1.1, L.2.2.2.2.2.1.2.1, ()), (p.1, p.2.1, p.2.2.1, p.2.2.2.1, p.2.2.2.2.1, p.2.2.2.2.2.1, ()), ()) = _ := e
  simp only [f85, t85, e', isBrk, b85_0, outB, Tr.val_test, Tr.val_fin, if_true]

/-- How near a jack is to an end. -/
def mg (J : List Jk) (p : W) (i : Nat) : Int :=
  if (jAt J i).2.1.2.1 - dot (jAt J i).1 p < dot (jAt J i).1 p - (jAt J i).2.1.1 then (jAt J i).2.1.2.1 - dot (jAt J i).1 p else dot (jAt J i).1 p - (jAt J i).2.1.1

def lst (J : List Jk) (p : W) : Nat → Int × Int
  | 0 => (0, 0)
  | i + 1 => if i = 0 then ((i : Int), mg J p i) else if mg J p i < (lst J p i).2 then ((i : Int), mg J p i) else lst J p i

theorem l63 (J : List Jk) (y : Tys.data [.int .i64, .int .i64, .int .i64, .int .i64, .int .i64, .int .i64, .int .i64, .int .i64, .int .i64, .int .i64, .int .i64, .int .i64]) (p : W) (h : J.length ≤ 8) (hj : ∀ i, i < J.length → jE (jAt J i) = 0) (hp : Sm 1000000 p) :
    l63_0 (((0 : Int), (0 : Int), exts J p J.length, (0 : Int), ()), (J, y), ()) = some (.inl (((lst J p J.length).1, (lst J p J.length).2, ()), (J, y), ())) := by
  refine itr_brk (fun i => (((lst J p i).1, (lst J p i).2, exts J p J.length, (i : Int), ()), (J, y), ())) (n := J.length) ?_ ?_ (lt_rounds (by omega))
  · intro i hi
    have e4 : wrap64 ((i : Int) + 1) = ((i + 1 : Nat) : Int) := wrap64_nat (by omega)
    obtain ⟨hs, h1, h2, h3⟩ := jack_small (hj i hi)
    have hb := dot_bound hs hp
    have hm : mg J p i = _ := rfl
    unfold mg at hm
    simp only [s63_0, t63_0, Tr.val_test, Tr.val_fin, leF_eq, eqF_eq, Int.toNat_natCast, jAt_getD, exts_len, exts_get J p hi, e4, lst]
    rw [if_pos (by simp; omega), if_pos (by simp; omega), if_pos (by simp; omega)]
    rw [wrap64_id (n := (jAt J i).2.1.2.1 - dot (jAt J i).1 p) (by omega) (by omega), wrap64_id (n := dot (jAt J i).1 p - (jAt J i).2.1.1) (by omega) (by omega)]
    by_cases h0 : i = 0
    · subst h0; simp [mg]
    · have n0 : ¬ ((i : Int) = 0) := by omega
      simp only [n0, h0, decide_false, Bool.false_eq_true, if_false]
      rw [← mg.eq_1 J p i]
      by_cases hl : mg J p i < (lst J p i).2
      · have : ¬ ((lst J p i).2 ≤ mg J p i) := by omega
        simp [hl, this]
      · have : (lst J p i).2 ≤ mg J p i := by omega
        simp [hl, this]
  · simp [s63_0, t63_0, leF_eq, exts_len]

theorem f63_eq (J : List Jk) (L : Lm) (p : W) (h : VR J L) (hp : Sm 1000000 p) : f63 ((J, L, ()), p, ()) = some ((lst J p J.length).1, (lst J p J.length).2, ()) := by
  have e85 := f85_eq J L p h hp
  have e85' : f85 ((J, ((L.1.1, L.1.2.1, ()), (L.2.1.1, L.2.1.2.1, ()), (L.2.2.1.1, L.2.2.1.2.1, ()), (L.2.2.2.1.1, L.2.2.2.1.2.1, ()), (L.2.2.2.2.1.1, L.2.2.2.2.1.2.1, ()), (L.2.2.2.2.2.1.1, L.2.2.2.2.2.1.2.1, ()), ()), ()), (p.1, p.2.1, p.2.2.1, p.2.2.2.1, p.2.2.2.2.1, p.2.2.2.2.2.1, ()), ()) = some (exts J p J.length, ()) := e85
  have e := l63 J (L.1.1, L.1.2.1, L.2.1.1, L.2.1.2.1, L.2.2.1.1, L.2.2.1.2.1, L.2.2.2.1.1, L.2.2.2.1.2.1, L.2.2.2.2.1.1, L.2.2.2.2.1.2.1, L.2.2.2.2.2.1.1, L.2.2.2.2.2.1.2.1, ()) p h.eight h.jacks hp
  simp only [f63, t63, g85, e85', e, isBrk, b63_0, outB, Option.isSome_some, Option.getD_some, Tr.val_test, Tr.val_fin, if_true]

theorem mg_ok (J : List Jk) (p : W) (i : Nat) : 0 ≤ mg J p i ↔ okJ p (jAt J i) = true := by
  rw [okJ, wi_iff, dot_comm p, mg]
  split <;> omega

theorem lst_ok (J : List Jk) (p : W) : ∀ n, 0 ≤ (lst J p n).2 ↔ ∀ i, i < n → 0 ≤ mg J p i
  | 0 => by simp [lst]
  | n + 1 => by
    have ih := lst_ok J p n
    have key : (∀ i, i < n + 1 → 0 ≤ mg J p i) ↔ (∀ i, i < n → 0 ≤ mg J p i) ∧ 0 ≤ mg J p n := by
      constructor
      · intro h; exact ⟨fun i hi => h i (by omega), h n (by omega)⟩
      · rintro ⟨h1, h2⟩ i hi
        rcases Nat.lt_or_ge i n with h | h
        · exact h1 i h
        · rw [show i = n by omega]; exact h2
    rw [key, ← ih]
    simp only [lst]
    split
    · rename_i h0; subst h0; simp [lst]
    · split
      · constructor
        · intro h; simp only at h; constructor <;> omega
        · rintro ⟨_, h⟩; exact h
      · constructor
        · intro h; constructor <;> omega
        · rintro ⟨h, _⟩; exact h

/-! Scales. -/

def rch (way : W) (j : Jk) : Int := dot way (absW j.1)

def mn3 (s a b : Int) : Int := if b < (if a < s then a else s) then b else (if a < s then a else s)

def nx (lo hi r s : Int) : Int := if 0 < r then mn3 s (Int.tdiv (0 - lo) r) (Int.tdiv hi r) else s

theorem tdiv_abs (a b : Int) : (Int.tdiv a b).natAbs ≤ a.natAbs := by
  rw [Int.natAbs_tdiv]; exact Nat.div_le_self _ _

theorem wtdiv {a b : Int} (h : a.natAbs ≤ 1000000000) : IntKind.wrap .i64 (Int.tdiv a b) = Int.tdiv a b := by
  have := tdiv_abs a b
  rw [← wrap64_eq]; exact wrap64_id (by omega) (by omega)

theorem le_tdiv {n a r : Int} (ha : 0 ≤ a) (hr : 0 < r) : n ≤ Int.tdiv a r ↔ n * r ≤ a := by
  rw [Int.tdiv_eq_ediv_of_nonneg ha]
  exact Int.le_ediv_iff_mul_le hr

theorem mn3_le {n s a b : Int} : n ≤ mn3 s a b ↔ n ≤ s ∧ n ≤ a ∧ n ≤ b := by
  unfold mn3
  split <;> split <;> omega

theorem nx_le {n lo hi r s : Int} (hl : lo ≤ 0) (hh : 0 ≤ hi) (hr : 0 ≤ r) : n ≤ nx lo hi r s ↔ n ≤ s ∧ (n * r ≤ 0 - lo ∧ n * r ≤ hi) := by
  unfold nx
  split
  · rename_i h
    rw [mn3_le, le_tdiv (by omega) h, le_tdiv hh h]
  · have : r = 0 := by omega
    subst this
    simp only [Int.mul_zero]
    constructor
    · intro h; exact ⟨h, by omega, by omega⟩
    · rintro ⟨h, _⟩; exact h

def sJ (J : List Jk) (way : W) (s : Int) : Nat → Int
  | 0 => s
  | i + 1 => nx (jAt J i).2.1.1 (jAt J i).2.1.2.1 (rch way (jAt J i)) (sJ J way s i)

theorem l84c (J : List Jk) (bx : Bx) (way : W) (s : Int) (h : J.length ≤ 8) (hj : ∀ i, i < J.length → jE (jAt J i) = 0) (hp : Sm 1000000 way) :
    l84_0_1 ((J, (J.length : Int), (0 : Int), ()), (), bx, way, (s, ()), ()) = some (.inl ((), (), bx, way, (sJ J way s J.length, ()), ())) := by
  refine itr_brk (fun i => ((J, (J.length : Int), (i : Int), ()), (), bx, way, (sJ J way s i, ()), ())) (n := J.length) ?_ ?_ (lt_rounds (by omega))
  · intro i hi
    have e4 : wrap64 ((i : Int) + 1) = ((i + 1 : Nat) : Int) := wrap64_nat (by omega)
    obtain ⟨hs, h1, h2, h3⟩ := jack_small (hj i hi)
    simp only [s84_0_1, t84_0_1, Tr.val_test, Tr.val_fin, leF_eq, Int.toNat_natCast, jAt_getD, sJ, rch]
    rw [if_pos (by simp; omega), if_pos (by simp; omega)]
    have ha := absW_small hs
    have e61 : f61 (((jAt J i).1.1, (jAt J i).1.2.1, (jAt J i).1.2.2.1, (jAt J i).1.2.2.2.1, (jAt J i).1.2.2.2.2.1, (jAt J i).1.2.2.2.2.2.1, ()), ()) = some (absW (jAt J i).1, ()) := f61_eq (hs.mono (by omega))
    have e45 : f45 ((way.1, way.2.1, way.2.2.1, way.2.2.2.1, way.2.2.2.2.1, way.2.2.2.2.2.1, ()), ((absW (jAt J i).1).1, (absW (jAt J i).1).2.1, (absW (jAt J i).1).2.2.1, (absW (jAt J i).1).2.2.2.1, (absW (jAt J i).1).2.2.2.2.1, (absW (jAt J i).1).2.2.2.2.2.1, ()), ()) = some (dot way (absW (jAt J i).1), ()) := f45_eq hp (ha.mono (by omega))
    simp only [g61, e61, g45, e45, e4, Option.isSome_some, Option.getD_some, if_true]
    rw [wneg (n := (jAt J i).2.1.1) (by omega), wtdiv (a := 0 - (jAt J i).2.1.1) (by omega), wtdiv (a := (jAt J i).2.1.2.1) (by omega)]
    unfold nx mn3
    by_cases hr : 0 < dot way (absW (jAt J i).1)
    · have n1 : ¬ (dot way (absW (jAt J i).1) ≤ 0) := by omega
      have n2 : (dot way (absW (jAt J i).1) == 0) = false := by simp; omega
      simp [hr, n1, n2]
    · have n1 : dot way (absW (jAt J i).1) ≤ 0 := by omega
      simp [hr, n1]
  · simp [s84_0_1, t84_0_1, leF_eq]

def sL (L : Lm) (way : W) (s : Int) : Nat → Int
  | 0 => s
  | k + 1 => nx (lo6 L k) (hi6 L k) (pk way k) (sL L way s k)

theorem absW_unit {k : Nat} : absW (unitW k) = unitW k := by
  match k with
  | 0 => rfl
  | 1 => rfl
  | 2 => rfl
  | 3 => rfl
  | 4 => rfl
  | n + 5 => rfl

/-- Valid limits are small. -/
theorem lim_small {L : Lm} (h : lE L = 0) {k : Nat} (hk : k < 6) : (-1000 ≤ lo6 L k ∧ lo6 L k ≤ 1000) ∧ (-1000 ≤ hi6 L k ∧ hi6 L k ≤ 1000) ∧ lo6 L k ≤ hi6 L k := by
  obtain ⟨r0, r1, r2, r3, r4, r5⟩ := lE_zero h
  have key : ∀ {lo hi : Int}, rE lo hi = 0 → (-1000 ≤ lo ∧ lo ≤ 1000) ∧ (-1000 ≤ hi ∧ hi ≤ 1000) ∧ lo ≤ hi := fun e => by
    obtain ⟨h1, h2, h3⟩ := rE_zero e
    rw [wi_iff] at h1 h2
    exact ⟨h1, h2, h3⟩
  match k, hk with
  | 0, _ => exact key r0
  | 1, _ => exact key r1
  | 2, _ => exact key r2
  | 3, _ => exact key r3
  | 4, _ => exact key r4
  | 5, _ => exact key r5

theorem l84d (L : Lm) (way : W) (s : Int) (hL : lE L = 0) (hp : Sm 1000000 way) :
    l84_2_1 (((L.1.1, L.1.2.1, L.2.1.1, L.2.1.2.1, L.2.2.1.1, L.2.2.1.2.1, L.2.2.2.1.1, L.2.2.2.1.2.1, L.2.2.2.2.1.1, L.2.2.2.2.1.2.1, L.2.2.2.2.2.1.1, L.2.2.2.2.2.1.2.1, ()), (0 : Int), ()), (), way, (s, ()), ()) = some (.inl ((), (), way, (sL L way s 6, ()), ())) := by
  refine itr_brk (fun i => (((L.1.1, L.1.2.1, L.2.1.1, L.2.1.2.1, L.2.2.1.1, L.2.2.1.2.1, L.2.2.2.1.1, L.2.2.2.1.2.1, L.2.2.2.2.1.1, L.2.2.2.2.1.2.1, L.2.2.2.2.2.1.1, L.2.2.2.2.2.1.2.1, ()), (i : Int), ()), (), way, (sL L way s i, ()), ())) (n := 6) ?_ ?_ (lt_rounds (by omega))
  · intro k hk
    have e4 : wrap64 ((k : Int) + 1) = ((k + 1 : Nat) : Int) := wrap64_nat (by omega)
    obtain ⟨b1, b2, b3⟩ := lim_small hL hk
    have e71 := f71_eq hk
    have hd := dot_unit way hk
    have hu := unitW_small k
    have ha := absW_unit (k := k)
    simp only [s84_2_1, t84_2_1, Tr.val_test, Tr.val_fin, leF_eq, Int.toNat_natCast, sL]
    rw [if_pos (by simp; omega), if_pos (by simp; omega), if_pos (by simp; omega)]
    have e61 : f61 (((unitW k).1, (unitW k).2.1, (unitW k).2.2.1, (unitW k).2.2.2.1, (unitW k).2.2.2.2.1, (unitW k).2.2.2.2.2.1, ()), ()) = some (unitW k, ()) := by
      have := f61_eq (hu.mono (b := 1000000) (by omega)); rw [ha] at this; exact this
    have e45 : f45 ((way.1, way.2.1, way.2.2.1, way.2.2.2.1, way.2.2.2.2.1, way.2.2.2.2.2.1, ()), ((unitW k).1, (unitW k).2.1, (unitW k).2.2.1, (unitW k).2.2.2.1, (unitW k).2.2.2.2.1, (unitW k).2.2.2.2.2.1, ()), ()) = some (dot way (unitW k), ()) := f45_eq hp (hu.mono (by omega))
    have h1 : List.getD [L.1.1, L.1.2.1, L.2.1.1, L.2.1.2.1, L.2.2.1.1, L.2.2.1.2.1, L.2.2.2.1.1, L.2.2.2.1.2.1, L.2.2.2.2.1.1, L.2.2.2.2.1.2.1, L.2.2.2.2.2.1.1, L.2.2.2.2.2.1.2.1] (k * 2 + 0) 0 = lo6 L k := rfl
    have h2 : List.getD [L.1.1, L.1.2.1, L.2.1.1, L.2.1.2.1, L.2.2.1.1, L.2.2.1.2.1, L.2.2.2.1.1, L.2.2.2.1.2.1, L.2.2.2.2.1.1, L.2.2.2.2.1.2.1, L.2.2.2.2.2.1.1, L.2.2.2.2.2.1.2.1] (k * 2 + 1) 0 = hi6 L k := rfl
    simp only [g71, e71, g61, e61, g45, Option.isSome_some, Option.getD_some, if_true, e45, hd, h1, h2, e4]
    rw [wneg (n := lo6 L k) (by omega), wtdiv (a := 0 - lo6 L k) (by omega), wtdiv (a := hi6 L k) (by omega)]
    unfold nx mn3
    by_cases hr : 0 < pk way k
    · have n1 : ¬ (pk way k ≤ 0) := by omega
      have n2 : (pk way k == 0) = false := by simp; omega
      simp [hr, n1, n2]
    · have n1 : pk way k ≤ 0 := by omega
      simp [hr, n1]
  · simp [s84_2_1, t84_2_1, leF_eq]

def scl (J : List Jk) (L : Lm) (way : W) : Int := sL L way (sJ J way 1000 J.length) 6

theorem f37_eq (J : List Jk) (L : Lm) (way : W) (h : VR J L) (hp : Sm 1000000 way) : f37 (((J, L, ()), ()), way, ()) = some (scl J L way, ()) := by
  have e1 := l84c J (J, L.1.1, L.1.2.1, L.2.1.1, L.2.1.2.1, L.2.2.1.1, L.2.2.1.2.1, L.2.2.2.1.1, L.2.2.2.1.2.1, L.2.2.2.2.1.1, L.2.2.2.2.1.2.1, L.2.2.2.2.2.1.1, L.2.2.2.2.2.1.2.1, ()) way 1000 h.eight h.jacks hp
  have e1' : l84_0_1 ((J, (J.length : Int), (0 : Int), ()), (), (J, L.1.1, L.1.2.1, L.2.1.1, L.2.1.2.1, L.2.2.1.1, L.2.2.1.2.1, L.2.2.2.1.1, L.2.2.2.1.2.1, L.2.2.2.2.1.1, L.2.2.2.2.1.2.1, L.2.2.2.2.2.1.1, L.2.2.2.2.2.1.2.1, ()), (way.1, way.2.1, way.2.2.1, way.2.2.2.1, way.2.2.2.2.1, way.2.2.2.2.2.1, ()), ((1000 : Int), ()), ()) = _ := e1
  have e2 := l84d L way (sJ J way 1000 J.length) h.lim hp
  have e2' : l84_2_1 (((L.1.1, L.1.2.1, L.2.1.1, L.2.1.2.1, L.2.2.1.1, L.2.2.1.2.1, L.2.2.2.1.1, L.2.2.2.1.2.1, L.2.2.2.2.1.1, L.2.2.2.2.1.2.1, L.2.2.2.2.2.1.1, L.2.2.2.2.2.1.2.1, ()), (0 : Int), ()), (), (way.1, way.2.1, way.2.2.1, way.2.2.2.1, way.2.2.2.2.1, way.2.2.2.2.2.1, ()), (sJ J way 1000 J.length, ()), ()) = _ := e2
  simp only [f37, t37, e1', isBrk, b84_0_1, outB, e2', b84_2_1, Tr.val_test, Tr.val_fin, if_true, scl]

theorem sJ_le {J : List Jk} {way : W} {n s : Int} (hz : ∀ i, i < J.length → (jAt J i).2.1.1 ≤ 0 ∧ 0 ≤ (jAt J i).2.1.2.1) (hr : ∀ i, 0 ≤ rch way (jAt J i)) : ∀ m, m ≤ J.length → (n ≤ sJ J way s m ↔ n ≤ s ∧ ∀ i, i < m → n * rch way (jAt J i) ≤ 0 - (jAt J i).2.1.1 ∧ n * rch way (jAt J i) ≤ (jAt J i).2.1.2.1)
  | 0, _ => by simp [sJ]
  | m + 1, hm => by
    have ih := sJ_le (n := n) (s := s) hz hr m (by omega)
    obtain ⟨z1, z2⟩ := hz m (by omega)
    rw [sJ, nx_le z1 z2 (hr m), ih]
    constructor
    · rintro ⟨⟨h1, h2⟩, h3⟩
      refine ⟨h1, fun i hi => ?_⟩
      rcases Nat.lt_or_ge i m with h | h
      · exact h2 i h
      · rw [show i = m by omega]; exact h3
    · rintro ⟨h1, h2⟩
      exact ⟨⟨h1, fun i hi => h2 i (by omega)⟩, h2 m (by omega)⟩

theorem sL_le {L : Lm} {way : W} {n s : Int} (hz : ∀ k, k < 6 → lo6 L k ≤ 0 ∧ 0 ≤ hi6 L k) (hr : ∀ k, 0 ≤ pk way k) : ∀ m, m ≤ 6 → (n ≤ sL L way s m ↔ n ≤ s ∧ ∀ k, k < m → n * pk way k ≤ 0 - lo6 L k ∧ n * pk way k ≤ hi6 L k)
  | 0, _ => by simp [sL]
  | m + 1, hm => by
    have ih := sL_le (n := n) (s := s) hz hr m (by omega)
    obtain ⟨z1, z2⟩ := hz m (by omega)
    rw [sL, nx_le z1 z2 (hr m), ih]
    constructor
    · rintro ⟨⟨h1, h2⟩, h3⟩
      refine ⟨h1, fun i hi => ?_⟩
      rcases Nat.lt_or_ge i m with h | h
      · exact h2 i h
      · rw [show i = m by omega]; exact h3
    · rintro ⟨h1, h2⟩
      exact ⟨⟨h1, fun i hi => h2 i (by omega)⟩, h2 m (by omega)⟩

/-- A number that a way may be multiplied by. -/
def Wd (J : List Jk) (L : Lm) (way : W) (n : Int) : Prop :=
  (∀ i, i < J.length → n * rch way (jAt J i) ≤ 0 - (jAt J i).2.1.1 ∧ n * rch way (jAt J i) ≤ (jAt J i).2.1.2.1) ∧ ∀ k, k < 6 → n * pk way k ≤ 0 - lo6 L k ∧ n * pk way k ≤ hi6 L k

/-- No part is below 0. -/
structure Nn (x : W) : Prop where
  a0 : 0 ≤ x.1
  a1 : 0 ≤ x.2.1
  a2 : 0 ≤ x.2.2.1
  a3 : 0 ≤ x.2.2.2.1
  a4 : 0 ≤ x.2.2.2.2.1
  a5 : 0 ≤ x.2.2.2.2.2.1

theorem Nn.pk {p : W} (h : Nn p) (k : Nat) : 0 ≤ pk p k := by
  match k with
  | 0 => exact h.a0
  | 1 => exact h.a1
  | 2 => exact h.a2
  | 3 => exact h.a3
  | 4 => exact h.a4
  | 5 => exact h.a5
  | n + 6 => simp [Mo.pk]

theorem dot_nonneg {x y : W} (hx : Nn x) (hy : Nn y) : 0 ≤ dot x y := by
  have h0 := Int.mul_nonneg hx.a0 hy.a0
  have h1 := Int.mul_nonneg hx.a1 hy.a1
  have h2 := Int.mul_nonneg hx.a2 hy.a2
  have h3 := Int.mul_nonneg hx.a3 hy.a3
  have h4 := Int.mul_nonneg hx.a4 hy.a4
  have h5 := Int.mul_nonneg hx.a5 hy.a5
  unfold dot
  omega

theorem absW_nn (x : W) : Nn (absW x) := by
  refine ⟨?_, ?_, ?_, ?_, ?_, ?_⟩ <;> simp only [absW, iabs_nat] <;> exact Int.natCast_nonneg _

theorem pk_zero (k : Nat) : pk ((0, 0, 0, 0, 0, 0, ()) : W) k = 0 := by
  match k with
  | 0 => rfl
  | 1 => rfl
  | 2 => rfl
  | 3 => rfl
  | 4 => rfl
  | 5 => rfl
  | n + 6 => simp [pk]

theorem dot_zero (x : W) : dot ((0, 0, 0, 0, 0, 0, ()) : W) x = 0 := by simp [dot]

theorem scl_le {J : List Jk} {L : Lm} {way : W} (h0 : permB J L (0, 0, 0, 0, 0, 0, ()) = true) (hw : Nn way) (n : Int) : n ≤ scl J L way ↔ n ≤ 1000 ∧ Wd J L way n := by
  obtain ⟨p1, p2⟩ := (permB_iff J L _).1 h0
  have z1 : ∀ i, i < J.length → (jAt J i).2.1.1 ≤ 0 ∧ 0 ≤ (jAt J i).2.1.2.1 := fun i hi => by
    have := p1 i hi
    rw [okJ, wi_iff, dot_zero] at this
    exact this
  have z2 : ∀ k, k < 6 → lo6 L k ≤ 0 ∧ 0 ≤ hi6 L k := fun k hk => by
    have := p2 k hk
    rw [okL, wi_iff, pk_zero] at this
    exact this
  have hr : ∀ i, 0 ≤ rch way (jAt J i) := fun i => dot_nonneg hw (absW_nn _)
  rw [scl, sL_le z2 hw.pk 6 (by omega), sJ_le z1 hr J.length (by omega), Wd]
  constructor
  · rintro ⟨⟨a, b⟩, c⟩; exact ⟨a, b, c⟩
  · rintro ⟨a, b, c⟩; exact ⟨⟨a, b⟩, c⟩

theorem scl_range {J : List Jk} {L : Lm} {way : W} (h0 : permB J L (0, 0, 0, 0, 0, 0, ()) = true) (hw : Nn way) : 0 ≤ scl J L way ∧ scl J L way ≤ 1000 := by
  obtain ⟨p1, p2⟩ := (permB_iff J L _).1 h0
  refine ⟨(scl_le h0 hw 0).2 ⟨by omega, fun i hi => ?_, fun k hk => ?_⟩, ((scl_le h0 hw _).1 (Int.le_refl _)).1⟩
  · have := p1 i hi
    rw [okJ, wi_iff, dot_zero] at this
    rw [Int.zero_mul]; omega
  · have := p2 k hk
    rw [okL, wi_iff, pk_zero] at this
    rw [Int.zero_mul]; omega

/-! Ways, boxes, poses. -/

theorem f10_eq (L : Lm) : f10 (L, ()) = some (lE L, ()) := by
  have h : f10 (((L.1.1, L.1.2.1, ()), (L.2.1.1, L.2.1.2.1, ()), (L.2.2.1.1, L.2.2.1.2.1, ()), (L.2.2.2.1.1, L.2.2.2.1.2.1, ()), (L.2.2.2.2.1.1, L.2.2.2.2.1.2.1, ()), (L.2.2.2.2.2.1.1, L.2.2.2.2.2.1.2.1, ()), ()), ()) = some (lE L, ()) := by
    simp only [f10, t10, g39, f39_eq L.1.1 L.1.2.1, f39_eq L.2.1.1 L.2.1.2.1, f39_eq L.2.2.1.1 L.2.2.1.2.1, f39_eq L.2.2.2.1.1 L.2.2.2.1.2.1, f39_eq L.2.2.2.2.1.1 L.2.2.2.2.1.2.1, f39_eq L.2.2.2.2.2.1.1 L.2.2.2.2.2.1.2.1, eqF_eq, Option.isSome_some, Option.getD_some, Tr.val_test, Tr.val_fin, if_true, lE, firstNZ]
    by_cases c0 : rE L.1.1 L.1.2.1 = 0
    · by_cases c1 : rE L.2.1.1 L.2.1.2.1 = 0
      · by_cases c2 : rE L.2.2.1.1 L.2.2.1.2.1 = 0
        · by_cases c3 : rE L.2.2.2.1.1 L.2.2.2.1.2.1 = 0
          · by_cases c4 : rE L.2.2.2.2.1.1 L.2.2.2.2.1.2.1 = 0
            · by_cases c5 : rE L.2.2.2.2.2.1.1 L.2.2.2.2.2.1.2.1 = 0
              · simp [c0, c1, c2, c3, c4, c5]
              · simp [c0, c1, c2, c3, c4, c5]
            · simp [c0, c1, c2, c3, c4]
          · simp [c0, c1, c2, c3]
        · simp [c0, c1, c2]
      · simp [c0, c1]
    · simp [c0]
  exact h

/-- All parts lie in a range. -/
def wB (lo hi : Int) (w : W) : Bool := wi lo hi w.1 && (wi lo hi w.2.1 && (wi lo hi w.2.2.1 && (wi lo hi w.2.2.2.1 && (wi lo hi w.2.2.2.2.1 && wi lo hi w.2.2.2.2.2.1))))

theorem f11_eq (w : W) : f11 (w, ()) = some (if wB 0 1000 w = true then 0 else 2, ()) := by
  have q : ∀ x : Int, f18 (x, (0 : Int), (1000 : Int), ()) = some (wi 0 1000 x, ()) := fun x => f18_eq _
  have h : f11 ((w.1, w.2.1, w.2.2.1, w.2.2.2.1, w.2.2.2.2.1, w.2.2.2.2.2.1, ()), ()) = some (if wB 0 1000 w = true then 0 else 2, ()) := by
    simp only [f11, t11, g18, q, Option.isSome_some, Option.getD_some, Tr.val_test, Tr.val_fin, if_true, wB]
    by_cases a0 : wi 0 1000 w.1 = true
    · by_cases a1 : wi 0 1000 w.2.1 = true
      · by_cases a2 : wi 0 1000 w.2.2.1 = true
        · by_cases a3 : wi 0 1000 w.2.2.2.1 = true
          · by_cases a4 : wi 0 1000 w.2.2.2.2.1 = true
            · by_cases a5 : wi 0 1000 w.2.2.2.2.2.1 = true
              · simp [a0, a1, a2, a3, a4, a5]
              · simp [a0, a1, a2, a3, a4, a5]
            · simp [a0, a1, a2, a3, a4]
          · simp [a0, a1, a2, a3]
        · simp [a0, a1, a2]
      · simp [a0, a1]
    · simp [a0]
  exact h

theorem f33_way (w : W) : f33 ((1000 : Int), [w.1, w.2.1, w.2.2.1, w.2.2.2.1, w.2.2.2.2.1, w.2.2.2.2.2.1], ()) = some (!wB (-1000) 1000 w, ()) :=
  f33_six 1000 (-1000) _ _ _ _ _ _ (by decide)

theorem f42_eq (w : W) : f42 (w, ()) = some (if wB (-1000) 1000 w = true then 0 else 2, ()) := by
  have h : f42 ((w.1, w.2.1, w.2.2.1, w.2.2.2.1, w.2.2.2.2.1, w.2.2.2.2.2.1, ()), ()) = some (if wB (-1000) 1000 w = true then 0 else 2, ()) := by
    have e33 := f33_way w
    simp only [f42, t42, g33, e33, g35, f35_eq, Option.isSome_some, Option.getD_some, Tr.val_test, Tr.val_fin, if_true]
    cases wB (-1000) 1000 w <;> simp
  exact h

theorem wB_iff {lo hi : Int} {w : W} : wB lo hi w = true ↔ ∀ k, k < 6 → lo ≤ pk w k ∧ pk w k ≤ hi := by
  simp only [wB, Bool.and_eq_true, wi_iff]
  constructor
  · rintro ⟨a0, a1, a2, a3, a4, a5⟩ k hk
    match k, hk with
    | 0, _ => exact a0
    | 1, _ => exact a1
    | 2, _ => exact a2
    | 3, _ => exact a3
    | 4, _ => exact a4
    | 5, _ => exact a5
  · intro h
    exact ⟨h 0 (by omega), h 1 (by omega), h 2 (by omega), h 3 (by omega), h 4 (by omega), h 5 (by omega)⟩

theorem Sm.of {b : Nat} {w : W} (h : ∀ k, k < 6 → (Mo.pk w k).natAbs ≤ b) : Sm b w := ⟨h 0 (by omega), h 1 (by omega), h 2 (by omega), h 3 (by omega), h 4 (by omega), h 5 (by omega)⟩
theorem Nn.of {w : W} (h : ∀ k, k < 6 → 0 ≤ Mo.pk w k) : Nn w := ⟨h 0 (by omega), h 1 (by omega), h 2 (by omega), h 3 (by omega), h 4 (by omega), h 5 (by omega)⟩

theorem wB_sm {w : W} (h : wB (-1000) 1000 w = true) : Sm 1000 w := Sm.of fun k hk => by have := wB_iff.1 h k hk; omega
theorem wB_nn {w : W} (h : wB 0 1000 w = true) : Nn w ∧ Sm 1000 w := ⟨Nn.of fun k hk => (wB_iff.1 h k hk).1, Sm.of fun k hk => by have := wB_iff.1 h k hk; omega⟩

/-- The least of some numbers. -/
def mnL (l : List Int) : Nat → Int
  | 0 => l.getD 0 0
  | i + 1 => if l.getD (i + 1) 0 < mnL l i then l.getD (i + 1) 0 else mnL l i

theorem mnL_neg (l : List Int) : ∀ n, mnL l n < 0 ↔ ∃ i, i ≤ n ∧ l.getD i 0 < 0
  | 0 => by
    constructor
    · intro h; exact ⟨0, Nat.le_refl _, h⟩
    · rintro ⟨i, hi, h⟩; rw [show i = 0 by omega] at h; exact h
  | n + 1 => by
    have ih := mnL_neg l n
    simp only [mnL]
    constructor
    · intro h
      split at h
      · exact ⟨n + 1, Nat.le_refl _, h⟩
      · obtain ⟨i, hi, hl⟩ := ih.1 h
        exact ⟨i, by omega, hl⟩
    · rintro ⟨i, hi, hl⟩
      rcases Nat.lt_or_ge i (n + 1) with h | h
      · have := ih.2 ⟨i, by omega, hl⟩
        split <;> omega
      · rw [show i = n + 1 by omega] at hl
        split <;> omega

theorem l34 (l : List Int) {n : Nat} (h : l.length = n + 1) (hn : n ≤ 1000000) : l34_0 ((l, l.getD 0 0, (1 : Int), ()), ()) = some (.inl ((mnL l n, ()), ())) := by
  refine itr_brk (fun i => ((l, mnL l i, ((i + 1 : Nat) : Int), ()), ())) (n := n) ?_ ?_ (lt_rounds (by omega))
  · intro i hi
    have e4 : wrap64 (((i + 1 : Nat) : Int) + 1) = ((i + 1 + 1 : Nat) : Int) := wrap64_nat (by omega)
    simp only [s34_0, t34_0, Tr.val_test, Tr.val_fin, leF_eq, Int.toNat_natCast, e4, mnL, h]
    rw [if_pos (by simp; omega), if_pos (by simp; omega)]
  · simp [s34_0, t34_0, leF_eq, h]

theorem f34_eq (l : List Int) {n : Nat} (h : l.length = n + 1) (hn : n ≤ 1000000) : f34 (l, ()) = some (mnL l n, ()) := by
  have e := l34 l h hn
  have n1 : ((n + 1 : Nat) : Int) = (l.length : Int) := by rw [h]
  simp only [f34, t34, leF_eq, h, e, isBrk, b34_0, outB, Tr.val_test, Tr.val_fin, if_true]
  rw [if_neg (by first | (simp; done) | (simp; omega)), if_pos (by first | (simp; done) | (simp; omega))]

theorem f14_eq (J : List Jk) (L : Lm) (p : W) (h : VR J L) (hr : rigE J L = 0) (hp : wB (-1000) 1000 p = true) : f14 ((J, L, ()), p, ()) = some (permB J L p, (0 : Int), ()) := by
  have e29 := f29_eq J L
  rw [if_pos hr, hr] at e29
  have e29' : f29 ((J, ((L.1.1, L.1.2.1, ()), (L.2.1.1, L.2.1.2.1, ()), (L.2.2.1.1, L.2.2.1.2.1, ()), (L.2.2.2.1.1, L.2.2.2.1.2.1, ()), (L.2.2.2.2.1.1, L.2.2.2.2.1.2.1, ()), (L.2.2.2.2.2.1.1, L.2.2.2.2.2.1.2.1, ()), ()), ()), ()) = some (((J, L, ()), ()), (0 : Int), ()) := e29
  have e42 := f42_eq p
  rw [if_pos hp] at e42
  have e42' : f42 ((p.1, p.2.1, p.2.2.1, p.2.2.2.1, p.2.2.2.2.1, p.2.2.2.2.2.1, ()), ()) = some ((0 : Int), ()) := e42
  have e31 : f31 ([(0 : Int), 0], ()) = some ((0 : Int), ()) := f31_eq _ (by simp)
  have e36 := f36_eq J L p h ((wB_sm hp).mono (by omega))
  have e36' : f36 (((J, ((L.1.1, L.1.2.1, ()), (L.2.1.1, L.2.1.2.1, ()), (L.2.2.1.1, L.2.2.1.2.1, ()), (L.2.2.2.1.1, L.2.2.2.1.2.1, ()), (L.2.2.2.2.1.1, L.2.2.2.2.1.2.1, ()), (L.2.2.2.2.2.1.1, L.2.2.2.2.2.1.2.1, ()), ()), ()), ()), (p.1, p.2.1, p.2.2.1, p.2.2.2.1, p.2.2.2.2.1, p.2.2.2.2.2.1, ()), ()) = some (permB J L p, ()) := e36
  simp only [f14, t14, g29, e29', g42, e42', g31, e31, g36, e36', eqF_eq, decide_true, Bool.not_true, Bool.false_eq_true, if_false, Option.isSome_some, Option.getD_some, Tr.val_test, Tr.val_fin, if_true]

/-- The error of a way. -/
def wayE (w : W) : Int := if wB 0 1000 w = true then 0 else 2

theorem f8_eq (J : List Jk) (L : Lm) (w : W) :
    f8 ((J, L, ()), w, ()) = some (if firstNZ [rigE J L, wayE w] ≠ 0 then (0, firstNZ [rigE J L, wayE w], ()) else if permB J L (0, 0, 0, 0, 0, 0, ()) = false then ((0 : Int), (12 : Int), ()) else (scl J L w, (0 : Int), ())) := by
  have e29 := f29_eq J L
  have e29' : f29 ((J, ((L.1.1, L.1.2.1, ()), (L.2.1.1, L.2.1.2.1, ()), (L.2.2.1.1, L.2.2.1.2.1, ()), (L.2.2.2.1.1, L.2.2.2.1.2.1, ()), (L.2.2.2.2.1.1, L.2.2.2.2.1.2.1, ()), (L.2.2.2.2.2.1.1, L.2.2.2.2.2.1.2.1, ()), ()), ()), ()) = _ := e29
  have e33 := f33_way w
  have e31 : ∀ a b : Int, f31 ([a, b], ()) = some (firstNZ [a, b], ()) := fun a b => f31_eq _ (by simp)
  have e34 := f34_eq [w.1, w.2.1, w.2.2.1, w.2.2.2.1, w.2.2.2.2.1, w.2.2.2.2.2.1] (n := 5) rfl (by omega)
  have hw : wB 0 1000 w = (wB (-1000) 1000 w && !decide (mnL [w.1, w.2.1, w.2.2.1, w.2.2.2.1, w.2.2.2.2.1, w.2.2.2.2.2.1] 5 < 0)) := by
    rw [Bool.eq_iff_iff, Bool.and_eq_true, wB_iff, wB_iff, Bool.not_eq_true', decide_eq_false_iff_not, mnL_neg]
    constructor
    · intro h
      refine ⟨fun k hk => by have := h k hk; omega, ?_⟩
      rintro ⟨i, hi, hl⟩
      have := (h i (by omega)).1
      exact absurd hl (by show ¬ (pk w i < 0); omega)
    · rintro ⟨h1, h2⟩ k hk
      refine ⟨?_, (h1 k hk).2⟩
      by_cases h : pk w k < 0
      · exact absurd ⟨k, by omega, h⟩ h2
      · omega
  have nz : ∀ a : Int, firstNZ [a, 2] ≠ 0 := fun a => by
    simp only [firstNZ]; split <;> simp; assumption
  have out2 : ∀ e : Int, e = 2 → e = wayE w → some ((0 : Int), firstNZ [rigE J L, e], ()) = some (if firstNZ [rigE J L, wayE w] ≠ 0 then ((0 : Int), firstNZ [rigE J L, wayE w], ()) else if permB J L (0, 0, 0, 0, 0, 0, ()) = false then ((0 : Int), (12 : Int), ()) else (scl J L w, (0 : Int), ())) := by
    intro e h1 h2
    rw [← h2, h1, if_pos (nz _)]
  cases hb : wB (-1000) 1000 w with
  | false =>
    rw [hb] at hw
    have h2 : (2 : Int) = wayE w := by unfold wayE; rw [hw]; rfl
    have n2 := nz (rigE J L)
    simp only [f8, t8, g29, e29', g33, e33, hb, g35, f35_eq, g31, e31, eqF_eq, Bool.not_false, Option.isSome_some, Option.getD_some, Tr.val_test, Tr.val_fin, if_true, decide_eq_false n2]
    exact out2 2 rfl h2
  | true =>
    rw [hb] at hw
    by_cases hm : mnL [w.1, w.2.1, w.2.2.1, w.2.2.2.1, w.2.2.2.2.1, w.2.2.2.2.2.1] 5 < 0
    · have h2 : (2 : Int) = wayE w := by unfold wayE; rw [hw, decide_eq_true hm]; rfl
      have n2 := nz (rigE J L)
      have hm' : decide ((0 : Int) ≤ mnL [w.1, w.2.1, w.2.2.1, w.2.2.2.1, w.2.2.2.2.1, w.2.2.2.2.2.1] 5) = false := decide_eq_false (by omega)
      simp only [f8, t8, g29, e29', g33, e33, hb, g34, e34, leF_eq, hm', g35, f35_eq, g31, e31, eqF_eq, Bool.not_false, Bool.not_true, Bool.false_eq_true, if_false, Option.isSome_some, Option.getD_some, Tr.val_test, Tr.val_fin, if_true, decide_eq_false n2]
      exact out2 2 rfl h2
    · have h0 : wayE w = 0 := by unfold wayE; rw [hw, decide_eq_false hm]; rfl
      have hm' : decide ((0 : Int) ≤ mnL [w.1, w.2.1, w.2.2.1, w.2.2.2.1, w.2.2.2.2.1, w.2.2.2.2.2.1] 5) = true := decide_eq_true (by omega)
      rw [h0]
      by_cases hr : rigE J L = 0
      · have hv := VR.of hr
        have e36 := f36_eq J L (0, 0, 0, 0, 0, 0, ()) hv ⟨by decide, by decide, by decide, by decide, by decide, by decide⟩
        have e37 := f37_eq J L w hv ((wB_sm hb).mono (by omega))
        have e36' : f36 (((J, ((L.1.1, L.1.2.1, ()), (L.2.1.1, L.2.1.2.1, ()), (L.2.2.1.1, L.2.2.1.2.1, ()), (L.2.2.2.1.1, L.2.2.2.1.2.1, ()), (L.2.2.2.2.1.1, L.2.2.2.2.1.2.1, ()), (L.2.2.2.2.2.1.1, L.2.2.2.2.2.1.2.1, ()), ()), ()), ()), ((0 : Int), (0 : Int), (0 : Int), (0 : Int), (0 : Int), (0 : Int), ()), ()) = some (permB J L (0, 0, 0, 0, 0, 0, ()), ()) := e36
        have e37' : f37 (((J, ((L.1.1, L.1.2.1, ()), (L.2.1.1, L.2.1.2.1, ()), (L.2.2.1.1, L.2.2.1.2.1, ()), (L.2.2.2.1.1, L.2.2.2.1.2.1, ()), (L.2.2.2.2.1.1, L.2.2.2.2.1.2.1, ()), (L.2.2.2.2.2.1.1, L.2.2.2.2.2.1.2.1, ()), ()), ()), ()), (w.1, w.2.1, w.2.2.1, w.2.2.2.1, w.2.2.2.2.1, w.2.2.2.2.2.1, ()), ()) = some (scl J L w, ()) := e37
        rw [if_pos hr, hr] at e29'
        have z : firstNZ [(0 : Int), 0] = 0 := rfl
        simp only [f8, t8, g29, e29', g33, e33, hb, g34, e34, leF_eq, hm', g35, f35_eq, g31, e31, hr, z, g36, e36', g37, e37', eqF_eq, decide_true, Bool.not_false, Bool.not_true, Bool.false_eq_true, if_false, Option.isSome_some, Option.getD_some, Tr.val_test, Tr.val_fin, if_true]
        cases permB J L (0, 0, 0, 0, 0, 0, ()) <;> simp
      · have n2 : firstNZ [rigE J L, 0] ≠ 0 := by simp only [firstNZ, hr, if_false]; exact hr
        simp only [f8, t8, g29, e29', g33, e33, hb, g34, e34, leF_eq, hm', g35, f35_eq, g31, e31, eqF_eq, Bool.not_false, Bool.not_true, Bool.false_eq_true, if_false, Option.isSome_some, Option.getD_some, Tr.val_test, Tr.val_fin, if_true, decide_eq_false n2]
        rw [if_pos n2]

/-! Extensions in an array. -/

abbrev W8 := Int × Int × Int × Int × Int × Int × Int × Int × PUnit.{1}

def t8of (l : List Int) : W8 := (l.getD 0 0, l.getD 1 0, l.getD 2 0, l.getD 3 0, l.getD 4 0, l.getD 5 0, l.getD 6 0, l.getD 7 0, ())

theorem eight {l : List Int} (h : l.length = 8) : [l.getD 0 0, l.getD 1 0, l.getD 2 0, l.getD 3 0, l.getD 4 0, l.getD 5 0, l.getD 6 0, l.getD 7 0] = l := by
  match l, h with
  | [a, b, c, d, e, f, g, i], _ => rfl

/-- What the array holds behind i jacks. -/
def arr (J : List Jk) (p : W) : Nat → List Int
  | 0 => [0, 0, 0, 0, 0, 0, 0, 0]
  | i + 1 => (arr J p i).set i (dot p (jAt J i).1)

theorem arr_len (J : List Jk) (p : W) : ∀ i, (arr J p i).length = 8
  | 0 => rfl
  | i + 1 => by simp [arr, arr_len J p i]

theorem arr_take (J : List Jk) (p : W) : ∀ i, i ≤ 8 → (arr J p i).take i = exts J p i
  | 0, _ => by simp [exts]
  | i + 1, h => by
    have ih := arr_take J p i (by omega)
    have hl := arr_len J p i
    rw [exts_succ, ← ih, arr, List.take_add_one, List.take_set, List.getElem?_set]
    rw [if_pos rfl, if_pos (by omega), dot_comm]
    congr 1
    rw [List.set_eq_of_length_le (by simp; omega)]

theorem l43 (J : List Jk) (p : W) (z : W8) (h : J.length ≤ 8) (hj : ∀ i, i < J.length → jE (jAt J i) = 0) (hp : Sm 1000000 p) :
    l43_0 ((J, (J.length : Int), (0 : Int), ()), p, z, t8of (arr J p 0), ()) = some (.inl ((), p, z, t8of (arr J p J.length), ())) := by
  refine itr_brk (fun i => ((J, (J.length : Int), (i : Int), ()), p, z, t8of (arr J p i), ())) (n := J.length) ?_ ?_ (lt_rounds (by omega))
  · intro i hi
    have e4 : wrap64 ((i : Int) + 1) = ((i + 1 : Nat) : Int) := wrap64_nat (by omega)
    have hs := (jack_small (hj i hi)).1
    have h8 := eight (arr_len J p i)
    have e45 : f45 ((p.1, p.2.1, p.2.2.1, p.2.2.2.1, p.2.2.2.2.1, p.2.2.2.2.2.1, ()), ((jAt J i).1.1, (jAt J i).1.2.1, (jAt J i).1.2.2.1, (jAt J i).1.2.2.2.1, (jAt J i).1.2.2.2.2.1, (jAt J i).1.2.2.2.2.2.1, ()), ()) = some (dot p (jAt J i).1, ()) := f45_eq hp (hs.mono (by omega))
    have n0 : 0 + i * 1 = i := by omega
    simp only [s43_0, t43_0, Tr.val_test, Tr.val_fin, leF_eq, Int.toNat_natCast, jAt_getD, g45, e45, e4, Option.isSome_some, Option.getD_some, if_true, n0, t8of, h8]
    rw [if_pos (by simp; omega), if_pos (by simp; omega), if_pos (by simp; omega), if_pos (by simp; omega)]
    simp only [arr]
  · simp [s43_0, t43_0, leF_eq]

theorem f43_eq (J : List Jk) (L : Lm) (p : W) (h : VR J L) (hp : Sm 1000000 p) : f43 (((J, L, ()), ()), p, ()) = some (t8of (arr J p J.length), ()) := by
  have e := l43 J p (0, 0, 0, 0, 0, 0, 0, 0, ()) h.eight h.jacks hp
  have e' : l43_0 ((J, (J.length : Int), (0 : Int), ()), (p.1, p.2.1, p.2.2.1, p.2.2.2.1, p.2.2.2.2.1, p.2.2.2.2.2.1, ()), ((0 : Int), (0 : Int), (0 : Int), (0 : Int), (0 : Int), (0 : Int), (0 : Int), (0 : Int), ()), ((0 : Int), (0 : Int), (0 : Int), (0 : Int), (0 : Int), (0 : Int), (0 : Int), (0 : Int), ()), ()) = _ := e
  simp only [f43, t43, e', isBrk, b43_0, outB, Tr.val_test, Tr.val_fin, if_true]

theorem f44_eq {l : List Int} (h : l.length = 8) {n : Nat} (hn : n ≤ 8) : f44 (t8of l, (n : Int), ()) = some (l.take n, ()) := by
  have h8 := eight h
  have n0 : 0 + (n - 0) = n := by omega
  have n1 : n - 0 = n := by omega
  simp only [f44, t44, Tr.val_test, Tr.val_fin, Int.toNat_natCast, t8of, h8, n0, n1, List.nil_append]
  rw [if_pos (by simp; omega)]
  by_cases hz : n = 0
  · subst hz; simp
  · rw [if_neg (by simp; omega), if_neg (by simp; omega), if_pos (by simp; omega), if_pos (by simp; omega)]
    by_cases h88 : n = 8
    · subst h88
      rw [if_pos (by simp), if_pos (by simp), ← h, List.take_length]
    · rw [if_neg (by simp; omega), if_pos (by simp; omega)]

theorem f17_eq (J : List Jk) (L : Lm) (p : W) (h : VR J L) (hr : rigE J L = 0) (hp : wB (-1000) 1000 p = true) : f17 ((J, L, ()), p, ()) = some (exts J p J.length, (0 : Int), ()) := by
  have e29 := f29_eq J L
  rw [if_pos hr, hr] at e29
  have e29' : f29 ((J, ((L.1.1, L.1.2.1, ()), (L.2.1.1, L.2.1.2.1, ()), (L.2.2.1.1, L.2.2.1.2.1, ()), (L.2.2.2.1.1, L.2.2.2.1.2.1, ()), (L.2.2.2.2.1.1, L.2.2.2.2.1.2.1, ()), (L.2.2.2.2.2.1.1, L.2.2.2.2.2.1.2.1, ()), ()), ()), ()) = some (((J, L, ()), ()), (0 : Int), ()) := e29
  have e42 := f42_eq p
  rw [if_pos hp] at e42
  have e42' : f42 ((p.1, p.2.1, p.2.2.1, p.2.2.2.1, p.2.2.2.2.1, p.2.2.2.2.2.1, ()), ()) = some ((0 : Int), ()) := e42
  have e31 : f31 ([(0 : Int), 0], ()) = some ((0 : Int), ()) := f31_eq _ (by simp)
  have e43 := f43_eq J L p h ((wB_sm hp).mono (by omega))
  have e43' : f43 (((J, ((L.1.1, L.1.2.1, ()), (L.2.1.1, L.2.1.2.1, ()), (L.2.2.1.1, L.2.2.1.2.1, ()), (L.2.2.2.1.1, L.2.2.2.1.2.1, ()), (L.2.2.2.2.1.1, L.2.2.2.2.1.2.1, ()), (L.2.2.2.2.2.1.1, L.2.2.2.2.2.1.2.1, ()), ()), ()), ()), (p.1, p.2.1, p.2.2.1, p.2.2.2.1, p.2.2.2.2.1, p.2.2.2.2.2.1, ()), ()) = some (t8of (arr J p J.length), ()) := e43
  have e44 := f44_eq (arr_len J p J.length) h.eight
  rw [arr_take J p J.length h.eight] at e44
  have e44' : f44 (((arr J p J.length).getD 0 0, (arr J p J.length).getD 1 0, (arr J p J.length).getD 2 0, (arr J p J.length).getD 3 0, (arr J p J.length).getD 4 0, (arr J p J.length).getD 5 0, (arr J p J.length).getD 6 0, (arr J p J.length).getD 7 0, ()), (J.length : Int), ()) = some (exts J p J.length, ()) := e44
  simp only [f17, t17, g29, e29', g42, e42', g31, e31, g43, e43', g44, t8of, e44', eqF_eq, decide_true, Bool.not_true, Bool.false_eq_true, if_false, Option.isSome_some, Option.getD_some, Tr.val_test, Tr.val_fin, if_true]

/-! Ranges over a box. -/

def mnm (a b : Int) : Int := if b < a then b else a
def mxm (a b : Int) : Int := if a < b then b else a

def rlo (b : Lm) (d : W) : Int := mnm (d.1 * b.1.1) (d.1 * b.1.2.1) + mnm (d.2.1 * b.2.1.1) (d.2.1 * b.2.1.2.1) + mnm (d.2.2.1 * b.2.2.1.1) (d.2.2.1 * b.2.2.1.2.1) + mnm (d.2.2.2.1 * b.2.2.2.1.1) (d.2.2.2.1 * b.2.2.2.1.2.1) + mnm (d.2.2.2.2.1 * b.2.2.2.2.1.1) (d.2.2.2.2.1 * b.2.2.2.2.1.2.1) + mnm (d.2.2.2.2.2.1 * b.2.2.2.2.2.1.1) (d.2.2.2.2.2.1 * b.2.2.2.2.2.1.2.1)
def rhi (b : Lm) (d : W) : Int := mxm (d.1 * b.1.1) (d.1 * b.1.2.1) + mxm (d.2.1 * b.2.1.1) (d.2.1 * b.2.1.2.1) + mxm (d.2.2.1 * b.2.2.1.1) (d.2.2.1 * b.2.2.1.2.1) + mxm (d.2.2.2.1 * b.2.2.2.1.1) (d.2.2.2.1 * b.2.2.2.1.2.1) + mxm (d.2.2.2.2.1 * b.2.2.2.2.1.1) (d.2.2.2.2.1 * b.2.2.2.2.1.2.1) + mxm (d.2.2.2.2.2.1 * b.2.2.2.2.2.1.1) (d.2.2.2.2.2.1 * b.2.2.2.2.2.1.2.1)

theorem w6s {p0 p1 p2 p3 p4 p5 : Int} {M : Nat} (hM : M ≤ 1000000000000000) (h0 : p0.natAbs ≤ M) (h1 : p1.natAbs ≤ M) (h2 : p2.natAbs ≤ M) (h3 : p3.natAbs ≤ M) (h4 : p4.natAbs ≤ M) (h5 : p5.natAbs ≤ M) :
    wrap64 (wrap64 (wrap64 (wrap64 (wrap64 (wrap64 (0 + p0) + p1) + p2) + p3) + p4) + p5) = p0 + p1 + p2 + p3 + p4 + p5 := by
  rw [Int.zero_add, wrap64_id (n := p0) (by omega) (by omega), wrap64_id (n := p0 + p1) (by omega) (by omega), wrap64_id (n := p0 + p1 + p2) (by omega) (by omega), wrap64_id (n := p0 + p1 + p2 + p3) (by omega) (by omega), wrap64_id (n := p0 + p1 + p2 + p3 + p4) (by omega) (by omega), wrap64_id (n := p0 + p1 + p2 + p3 + p4 + p5) (by omega) (by omega)]

theorem mnm_abs {a b : Int} {M : Nat} (h : a.natAbs ≤ M) (k : b.natAbs ≤ M) : (mnm a b).natAbs ≤ M := by unfold mnm; split <;> assumption
theorem mxm_abs {a b : Int} {M : Nat} (h : a.natAbs ≤ M) (k : b.natAbs ≤ M) : (mxm a b).natAbs ≤ M := by unfold mxm; split <;> assumption

/-- All ends of a box are small. -/
structure Bs (b : Lm) : Prop where
  a0 : b.1.1.natAbs ≤ 1000
  c0 : b.1.2.1.natAbs ≤ 1000
  a1 : b.2.1.1.natAbs ≤ 1000
  c1 : b.2.1.2.1.natAbs ≤ 1000
  a2 : b.2.2.1.1.natAbs ≤ 1000
  c2 : b.2.2.1.2.1.natAbs ≤ 1000
  a3 : b.2.2.2.1.1.natAbs ≤ 1000
  c3 : b.2.2.2.1.2.1.natAbs ≤ 1000
  a4 : b.2.2.2.2.1.1.natAbs ≤ 1000
  c4 : b.2.2.2.2.1.2.1.natAbs ≤ 1000
  a5 : b.2.2.2.2.2.1.1.natAbs ≤ 1000
  c5 : b.2.2.2.2.2.1.2.1.natAbs ≤ 1000

theorem Bs.of {b : Lm} (h : lE b = 0) : Bs b := by
  have k : ∀ {k : Nat}, k < 6 → (lo6 b k).natAbs ≤ 1000 ∧ (hi6 b k).natAbs ≤ 1000 := fun hk => by
    obtain ⟨h1, h2, _⟩ := lim_small h hk; omega
  exact ⟨(k (k := 0) (by omega)).1, (k (k := 0) (by omega)).2, (k (k := 1) (by omega)).1, (k (k := 1) (by omega)).2, (k (k := 2) (by omega)).1, (k (k := 2) (by omega)).2, (k (k := 3) (by omega)).1, (k (k := 3) (by omega)).2, (k (k := 4) (by omega)).1, (k (k := 4) (by omega)).2, (k (k := 5) (by omega)).1, (k (k := 5) (by omega)).2⟩

theorem wpr {a b : Int} (ha : a.natAbs ≤ 1000000) (hb : b.natAbs ≤ 1000) : wrap64 (a * b) = a * b := by
  have := mulB ha hb
  exact wrap64_id (by omega) (by omega)

/-- Both sums as the program forms them. -/
theorem sums_eq {b : Lm} {d : W} (hb : Bs b) (hd : Sm 1000000 d) :
    wrap64 (wrap64 (wrap64 (wrap64 (wrap64 (wrap64 (0 + (if wrap64 (d.1 * b.1.2.1) < wrap64 (d.1 * b.1.1) then wrap64 (d.1 * b.1.2.1) else wrap64 (d.1 * b.1.1))) + (if wrap64 (d.2.1 * b.2.1.2.1) < wrap64 (d.2.1 * b.2.1.1) then wrap64 (d.2.1 * b.2.1.2.1) else wrap64 (d.2.1 * b.2.1.1))) + (if wrap64 (d.2.2.1 * b.2.2.1.2.1) < wrap64 (d.2.2.1 * b.2.2.1.1) then wrap64 (d.2.2.1 * b.2.2.1.2.1) else wrap64 (d.2.2.1 * b.2.2.1.1))) + (if wrap64 (d.2.2.2.1 * b.2.2.2.1.2.1) < wrap64 (d.2.2.2.1 * b.2.2.2.1.1) then wrap64 (d.2.2.2.1 * b.2.2.2.1.2.1) else wrap64 (d.2.2.2.1 * b.2.2.2.1.1))) + (if wrap64 (d.2.2.2.2.1 * b.2.2.2.2.1.2.1) < wrap64 (d.2.2.2.2.1 * b.2.2.2.2.1.1) then wrap64 (d.2.2.2.2.1 * b.2.2.2.2.1.2.1) else wrap64 (d.2.2.2.2.1 * b.2.2.2.2.1.1))) + (if wrap64 (d.2.2.2.2.2.1 * b.2.2.2.2.2.1.2.1) < wrap64 (d.2.2.2.2.2.1 * b.2.2.2.2.2.1.1) then wrap64 (d.2.2.2.2.2.1 * b.2.2.2.2.2.1.2.1) else wrap64 (d.2.2.2.2.2.1 * b.2.2.2.2.2.1.1))) = rlo b d ∧
    wrap64 (wrap64 (wrap64 (wrap64 (wrap64 (wrap64 (0 + (if wrap64 (d.1 * b.1.1) < wrap64 (d.1 * b.1.2.1) then wrap64 (d.1 * b.1.2.1) else wrap64 (d.1 * b.1.1))) + (if wrap64 (d.2.1 * b.2.1.1) < wrap64 (d.2.1 * b.2.1.2.1) then wrap64 (d.2.1 * b.2.1.2.1) else wrap64 (d.2.1 * b.2.1.1))) + (if wrap64 (d.2.2.1 * b.2.2.1.1) < wrap64 (d.2.2.1 * b.2.2.1.2.1) then wrap64 (d.2.2.1 * b.2.2.1.2.1) else wrap64 (d.2.2.1 * b.2.2.1.1))) + (if wrap64 (d.2.2.2.1 * b.2.2.2.1.1) < wrap64 (d.2.2.2.1 * b.2.2.2.1.2.1) then wrap64 (d.2.2.2.1 * b.2.2.2.1.2.1) else wrap64 (d.2.2.2.1 * b.2.2.2.1.1))) + (if wrap64 (d.2.2.2.2.1 * b.2.2.2.2.1.1) < wrap64 (d.2.2.2.2.1 * b.2.2.2.2.1.2.1) then wrap64 (d.2.2.2.2.1 * b.2.2.2.2.1.2.1) else wrap64 (d.2.2.2.2.1 * b.2.2.2.2.1.1))) + (if wrap64 (d.2.2.2.2.2.1 * b.2.2.2.2.2.1.1) < wrap64 (d.2.2.2.2.2.1 * b.2.2.2.2.2.1.2.1) then wrap64 (d.2.2.2.2.2.1 * b.2.2.2.2.2.1.2.1) else wrap64 (d.2.2.2.2.2.1 * b.2.2.2.2.2.1.1))) = rhi b d := by
  rw [wpr hd.a0 hb.a0, wpr hd.a0 hb.c0, wpr hd.a1 hb.a1, wpr hd.a1 hb.c1, wpr hd.a2 hb.a2, wpr hd.a2 hb.c2, wpr hd.a3 hb.a3, wpr hd.a3 hb.c3, wpr hd.a4 hb.a4, wpr hd.a4 hb.c4, wpr hd.a5 hb.a5, wpr hd.a5 hb.c5]
  have x0 := mulB hd.a0 hb.a0
  have y0 := mulB hd.a0 hb.c0
  have x1 := mulB hd.a1 hb.a1
  have y1 := mulB hd.a1 hb.c1
  have x2 := mulB hd.a2 hb.a2
  have y2 := mulB hd.a2 hb.c2
  have x3 := mulB hd.a3 hb.a3
  have y3 := mulB hd.a3 hb.c3
  have x4 := mulB hd.a4 hb.a4
  have y4 := mulB hd.a4 hb.c4
  have x5 := mulB hd.a5 hb.a5
  have y5 := mulB hd.a5 hb.c5
  exact ⟨w6s (M := 1000000000) (by omega) (mnm_abs x0 y0) (mnm_abs x1 y1) (mnm_abs x2 y2) (mnm_abs x3 y3) (mnm_abs x4 y4) (mnm_abs x5 y5), w6s (M := 1000000000) (by omega) (mxm_abs x0 y0) (mxm_abs x1 y1) (mxm_abs x2 y2) (mxm_abs x3 y3) (mxm_abs x4 y4) (mxm_abs x5 y5)⟩

theorem f32_eq {b : Lm} {d : W} (hb : Bs b) (hd : Sm 1000000 d) : f32 (b, d, ()) = some ((rlo b d, rhi b d, ()), ()) := by
  obtain ⟨e1, e2⟩ := sums_eq hb hd
  simp only [f32, t32, Tr.val_fin]
  rw [e1, e2]

def rngs (J : List Jk) (b : Lm) (n : Nat) : List (Int × Int × PUnit.{1}) := (List.range n).map fun k => (rlo b (jAt J k).1, rhi b (jAt J k).1, ())

theorem rngs_len (J : List Jk) (b : Lm) (n : Nat) : (rngs J b n).length = n := by simp [rngs]
theorem rngs_succ (J : List Jk) (b : Lm) (n : Nat) : rngs J b (n + 1) = rngs J b n ++ [(rlo b (jAt J n).1, rhi b (jAt J n).1, ())] := by simp [rngs, List.range_succ]
theorem rngs_get (J : List Jk) (b : Lm) {n i : Nat} (h : i < n) : (rngs J b n).getD i (0, 0, ()) = (rlo b (jAt J i).1, rhi b (jAt J i).1, ()) := by simp [rngs, List.getD, h]

theorem l6 (J : List Jk) (b : Lm) (h : J.length ≤ 8) (hj : ∀ i, i < J.length → jE (jAt J i) = 0) (hb : Bs b) :
    l6_0 (([], J, (J.length : Int), (0 : Int), ()), (b.1.1, b.1.2.1, b.2.1.1, b.2.1.2.1, b.2.2.1.1, b.2.2.1.2.1, b.2.2.2.1.1, b.2.2.2.1.2.1, b.2.2.2.2.1.1, b.2.2.2.2.1.2.1, b.2.2.2.2.2.1.1, b.2.2.2.2.2.1.2.1, ()), ()) = some (.inl ((rngs J b J.length, ()), (b.1.1, b.1.2.1, b.2.1.1, b.2.1.2.1, b.2.2.1.1, b.2.2.1.2.1, b.2.2.2.1.1, b.2.2.2.1.2.1, b.2.2.2.2.1.1, b.2.2.2.2.1.2.1, b.2.2.2.2.2.1.1, b.2.2.2.2.2.1.2.1, ()), ())) := by
  refine itr_brk (fun i => ((rngs J b i, J, (J.length : Int), (i : Int), ()), (b.1.1, b.1.2.1, b.2.1.1, b.2.1.2.1, b.2.2.1.1, b.2.2.1.2.1, b.2.2.2.1.1, b.2.2.2.1.2.1, b.2.2.2.2.1.1, b.2.2.2.2.1.2.1, b.2.2.2.2.2.1.1, b.2.2.2.2.2.1.2.1, ()), ())) (n := J.length) ?_ ?_ (lt_rounds (by omega))
  · intro i hi
    have e4 : wrap64 ((i : Int) + 1) = ((i + 1 : Nat) : Int) := wrap64_nat (by omega)
    have hs := (jack_small (hj i hi)).1
    have e32 : f32 (((b.1.1, b.1.2.1, ()), (b.2.1.1, b.2.1.2.1, ()), (b.2.2.1.1, b.2.2.1.2.1, ()), (b.2.2.2.1.1, b.2.2.2.1.2.1, ()), (b.2.2.2.2.1.1, b.2.2.2.2.1.2.1, ()), (b.2.2.2.2.2.1.1, b.2.2.2.2.2.1.2.1, ()), ()), ((jAt J i).1.1, (jAt J i).1.2.1, (jAt J i).1.2.2.1, (jAt J i).1.2.2.2.1, (jAt J i).1.2.2.2.2.1, (jAt J i).1.2.2.2.2.2.1, ()), ()) = some ((rlo b (jAt J i).1, rhi b (jAt J i).1, ()), ()) := f32_eq hb (hs.mono (by omega))
    simp only [s6_0, t6_0, Tr.val_test, Tr.val_fin, leF_eq, Int.toNat_natCast, jAt_getD, rngs_len, g32, e32, e4, Option.isSome_some, Option.getD_some, if_true, rngs_succ]
    rw [if_pos (by simp; omega), if_pos (by simp; omega), if_pos (by simp; omega)]
  · simp [s6_0, t6_0, leF_eq]

theorem f6_eq (J : List Jk) (L b : Lm) : f6 ((J, L, ()), b, ()) = some (if firstNZ [rigE J L, lE b] ≠ 0 then ([], firstNZ [rigE J L, lE b], ()) else (rngs J b J.length, (0 : Int), ())) := by
  have e29 := f29_eq J L
  have e29' : f29 ((J, ((L.1.1, L.1.2.1, ()), (L.2.1.1, L.2.1.2.1, ()), (L.2.2.1.1, L.2.2.1.2.1, ()), (L.2.2.2.1.1, L.2.2.2.1.2.1, ()), (L.2.2.2.2.1.1, L.2.2.2.2.1.2.1, ()), (L.2.2.2.2.2.1.1, L.2.2.2.2.2.1.2.1, ()), ()), ()), ()) = _ := e29
  obtain ⟨k, e30⟩ := f30_eq b
  have e30' : f30 (((b.1.1, b.1.2.1, ()), (b.2.1.1, b.2.1.2.1, ()), (b.2.2.1.1, b.2.2.1.2.1, ()), (b.2.2.2.1.1, b.2.2.2.1.2.1, ()), (b.2.2.2.2.1.1, b.2.2.2.2.1.2.1, ()), (b.2.2.2.2.2.1.1, b.2.2.2.2.2.1.2.1, ()), ()), ()) = some (k, lE b, ()) := e30
  have e31 : ∀ a b : Int, f31 ([a, b], ()) = some (firstNZ [a, b], ()) := fun a b => f31_eq _ (by simp)
  by_cases hz : firstNZ [rigE J L, lE b] = 0
  · have hr : rigE J L = 0 := by
      simp only [firstNZ] at hz
      split at hz
      · assumption
      · rename_i h; exact absurd hz h
    have hbz : lE b = 0 := by
      simp only [firstNZ, hr, if_true] at hz
      split at hz
      · assumption
      · exact hz
    have hv := VR.of hr
    have hl := l6 J b hv.eight hv.jacks (Bs.of hbz)
    rw [if_pos hr, hr] at e29'
    have z : firstNZ [(0 : Int), 0] = 0 := rfl
    simp only [f6, t6, g29, e29', g30, e30', g31, e31, hr, hbz, z, hl, isBrk, b6_0, outB, eqF_eq, decide_true, Bool.not_true, Bool.false_eq_true, if_false, Option.isSome_some, Option.getD_some, Tr.val_test, Tr.val_fin, if_true]
    simp
  · simp only [f6, t6, g29, e29', g30, e30', g31, e31, eqF_eq, decide_eq_false hz, Bool.not_false, Option.isSome_some, Option.getD_some, Tr.val_test, Tr.val_fin, if_true]
    rw [if_pos hz]

theorem l16 (J : List Jk) (y : Tys.data [.int .i64, .int .i64, .int .i64, .int .i64, .int .i64, .int .i64, .int .i64, .int .i64, .int .i64, .int .i64, .int .i64, .int .i64]) (b : Lm) (h : J.length ≤ 8) (hj : ∀ i, i < J.length → jE (jAt J i) = 0) (hb : Bs b) :
    l16_0 (([], (0 : Int), ()), (J, y), (b.1.1, b.1.2.1, b.2.1.1, b.2.1.2.1, b.2.2.1.1, b.2.2.1.2.1, b.2.2.2.1.1, b.2.2.2.1.2.1, b.2.2.2.2.1.1, b.2.2.2.2.1.2.1, b.2.2.2.2.2.1.1, b.2.2.2.2.2.1.2.1, ()), ()) = some (.inl ((rngs J b J.length, ()), (J, y), (b.1.1, b.1.2.1, b.2.1.1, b.2.1.2.1, b.2.2.1.1, b.2.2.1.2.1, b.2.2.2.1.1, b.2.2.2.1.2.1, b.2.2.2.2.1.1, b.2.2.2.2.1.2.1, b.2.2.2.2.2.1.1, b.2.2.2.2.2.1.2.1, ()), ())) := by
  refine itr_brk (fun i => ((rngs J b i, (i : Int), ()), (J, y), (b.1.1, b.1.2.1, b.2.1.1, b.2.1.2.1, b.2.2.1.1, b.2.2.1.2.1, b.2.2.2.1.1, b.2.2.2.1.2.1, b.2.2.2.2.1.1, b.2.2.2.2.1.2.1, b.2.2.2.2.2.1.1, b.2.2.2.2.2.1.2.1, ()), ())) (n := J.length) ?_ ?_ (lt_rounds (by omega))
  · intro i hi
    have e4 : wrap64 ((i : Int) + 1) = ((i + 1 : Nat) : Int) := wrap64_nat (by omega)
    have hs := (jack_small (hj i hi)).1
    obtain ⟨e1, e2⟩ := sums_eq hb (hs.mono (b := 1000000) (by omega))
    simp only [s16_0, t16_0, Tr.val_test, Tr.val_fin, leF_eq, Int.toNat_natCast, jAt_getD, rngs_len, e4, rngs_succ]
    rw [if_pos (by simp; omega), if_pos (by simp; omega), if_pos (by simp; omega), ← e1, ← e2]
    rfl
  · simp [s16_0, t16_0, leF_eq]

theorem f16_eq (J : List Jk) (L b : Lm) (h : VR J L) (hb : Bs b) : f16 ((J, L, ()), b, ()) = some (rngs J b J.length, ()) := by
  have e := l16 J (L.1.1, L.1.2.1, L.2.1.1, L.2.1.2.1, L.2.2.1.1, L.2.2.1.2.1, L.2.2.2.1.1, L.2.2.2.1.2.1, L.2.2.2.2.1.1, L.2.2.2.2.1.2.1, L.2.2.2.2.2.1.1, L.2.2.2.2.2.1.2.1, ()) b h.eight h.jacks hb
  simp only [f16, t16, e, isBrk, b16_0, outB, Tr.val_test, Tr.val_fin, if_true]

theorem l15 (l : List (Int × Int × PUnit.{1})) (h : l.length ≤ 1000000) : l15_0 ((l, l, (0 : Int), ()), ()) = some (.inl ((), ())) := by
  refine itr_brk (fun i => ((l, l, (i : Int), ()), ())) (n := l.length) ?_ ?_ (lt_rounds (by omega))
  · intro i hi
    have e4 : wrap64 ((i : Int) + 1) = ((i + 1 : Nat) : Int) := wrap64_nat (by omega)
    simp only [s15_0, t15_0, Tr.val_test, Tr.val_fin, leF_eq, Int.toNat_natCast, e4, beq_self_eq_true, Bool.and_self, Bool.not_true, Bool.false_eq_true, if_false]
    rw [if_pos (by simp; omega), if_pos (by simp; omega), if_pos (by simp; omega)]
  · simp [s15_0, t15_0, leF_eq]

theorem f15_self (l : List (Int × Int × PUnit.{1})) (h : l.length ≤ 1000000) : f15 (l, l, ()) = some (true, ()) := by
  have e := l15 l h
  simp only [f15, t15, e, isRet, leF_eq, eqF_eq, Option.isSome_some, Tr.val_test, Tr.val_fin, if_true, decide_true, Bool.not_true, Bool.false_eq_true, if_false]

/-! Numbers that a way may be multiplied by. -/

theorem f64_eq {x : Int} (h : x.natAbs ≤ 1000000) : f64 (x, ()) = some (iabs x, ()) := by
  simp only [f64, t64, Tr.val_fin, wneg (n := x) (by omega)]
  rfl

def nW (n : Int) (w : W) : W := (n * w.1, n * w.2.1, n * w.2.2.1, n * w.2.2.2.1, n * w.2.2.2.2.1, n * w.2.2.2.2.2.1, ())

theorem dot_nW (n : Int) (w q : W) : dot (nW n w) q = n * dot w q := by
  simp only [dot, nW, Int.mul_add, Int.mul_assoc]

theorem nW_small {n : Int} {w : W} (hn : n.natAbs ≤ 1000) (h : Sm 1000 w) : Sm 1000000 (nW n w) :=
  ⟨mulB hn h.a0, mulB hn h.a1, mulB hn h.a2, mulB hn h.a3, mulB hn h.a4, mulB hn h.a5⟩

def wJ (w : W) (n : Int) (j : Jk) : Bool := decide (j.2.1.1 ≤ 0 - n * rch w j) && decide (n * rch w j ≤ j.2.1.2.1)

theorem l41b (J : List Jk) (y : Tys.data [.int .i64, .int .i64, .int .i64, .int .i64, .int .i64, .int .i64, .int .i64, .int .i64, .int .i64, .int .i64, .int .i64, .int .i64]) (w : W) (n : Int) (h : J.length ≤ 8) (hj : ∀ i, i < J.length → jE (jAt J i) = 0) (hw : Sm 1000 w) (hn : n.natAbs ≤ 1000) :
    l41_2 ((n, (0 : Int), ()), (J, y), w, ()) = match first (fun i => !wJ w n (jAt J i)) J.length 0 with
      | some _ => some (.inr ((false, ()), (J, y), w, ()))
      | none => some (.inl ((), (J, y), w, ())) := by
  refine itr_search (fun i => ((n, (i : Int), ()), (J, y), w, ())) (fun i => !wJ w n (jAt J i)) (fun _ => ((false, ()), (J, y), w, ())) (n := J.length) ?_ ?_ (lt_rounds (by omega))
  · intro i hi
    have e4 : wrap64 ((i : Int) + 1) = ((i + 1 : Nat) : Int) := wrap64_nat (by omega)
    have hs := (jack_small (hj i hi)).1
    have ha := absW_small hs
    have hN := nW_small hn hw
    have s0 : f64 ((jAt J i).1.1, ()) = some ((absW (jAt J i).1).1, ()) := f64_eq (by have := hs.a0; omega)
    have s1 : f64 ((jAt J i).1.2.1, ()) = some ((absW (jAt J i).1).2.1, ()) := f64_eq (by have := hs.a1; omega)
    have s2 : f64 ((jAt J i).1.2.2.1, ()) = some ((absW (jAt J i).1).2.2.1, ()) := f64_eq (by have := hs.a2; omega)
    have s3 : f64 ((jAt J i).1.2.2.2.1, ()) = some ((absW (jAt J i).1).2.2.2.1, ()) := f64_eq (by have := hs.a3; omega)
    have s4 : f64 ((jAt J i).1.2.2.2.2.1, ()) = some ((absW (jAt J i).1).2.2.2.2.1, ()) := f64_eq (by have := hs.a4; omega)
    have s5 : f64 ((jAt J i).1.2.2.2.2.2.1, ()) = some ((absW (jAt J i).1).2.2.2.2.2.1, ()) := f64_eq (by have := hs.a5; omega)
    have m0 : wrap64 (n * w.1) = (nW n w).1 := wrap64_id (by have := hN.a0; simp only [nW] at this; omega) (by have := hN.a0; simp only [nW] at this; omega)
    have m1 : wrap64 (n * w.2.1) = (nW n w).2.1 := wrap64_id (by have := hN.a1; simp only [nW] at this; omega) (by have := hN.a1; simp only [nW] at this; omega)
    have m2 : wrap64 (n * w.2.2.1) = (nW n w).2.2.1 := wrap64_id (by have := hN.a2; simp only [nW] at this; omega) (by have := hN.a2; simp only [nW] at this; omega)
    have m3 : wrap64 (n * w.2.2.2.1) = (nW n w).2.2.2.1 := wrap64_id (by have := hN.a3; simp only [nW] at this; omega) (by have := hN.a3; simp only [nW] at this; omega)
    have m4 : wrap64 (n * w.2.2.2.2.1) = (nW n w).2.2.2.2.1 := wrap64_id (by have := hN.a4; simp only [nW] at this; omega) (by have := hN.a4; simp only [nW] at this; omega)
    have m5 : wrap64 (n * w.2.2.2.2.2.1) = (nW n w).2.2.2.2.2.1 := wrap64_id (by have := hN.a5; simp only [nW] at this; omega) (by have := hN.a5; simp only [nW] at this; omega)
    have e6 := wsum6 (M := 2000000) (by omega) (mulB hN.a0 ha.a0) (mulB hN.a1 ha.a1) (mulB hN.a2 ha.a2) (mulB hN.a3 ha.a3) (mulB hN.a4 ha.a4) (mulB hN.a5 ha.a5)
    have e7 : (nW n w).1 * (absW (jAt J i).1).1 + (nW n w).2.1 * (absW (jAt J i).1).2.1 + (nW n w).2.2.1 * (absW (jAt J i).1).2.2.1 + (nW n w).2.2.2.1 * (absW (jAt J i).1).2.2.2.1 + (nW n w).2.2.2.2.1 * (absW (jAt J i).1).2.2.2.2.1 + (nW n w).2.2.2.2.2.1 * (absW (jAt J i).1).2.2.2.2.2.1 = n * rch w (jAt J i) := dot_nW n w (absW (jAt J i).1)
    rw [e7] at e6
    have hB : (n * rch w (jAt J i)).natAbs ≤ 12000000 := by
      have := dot_bound hN ha
      rw [dot_nW] at this
      exact this
    simp only [s41_2, t41_2, Tr.val_test, Tr.val_fin, leF_eq, Int.toNat_natCast, jAt_getD, g64, s0, s1, s2, s3, s4, s5, m0, m1, m2, m3, m4, m5, e6, e4, Option.isSome_some, Option.getD_some, if_true, wneg (n := n * rch w (jAt J i)) (by omega)]
    rw [if_pos (by simp; omega), if_pos (by simp; omega)]
    unfold wJ
    by_cases a1 : (jAt J i).2.1.1 ≤ 0 - n * rch w (jAt J i)
    · by_cases a2 : n * rch w (jAt J i) ≤ (jAt J i).2.1.2.1
      · simp [a1, a2]
      · simp [a1, a2]
    · simp only [a1, decide_false, Bool.false_and, Bool.not_false, if_true]
  · simp [s41_2, t41_2, leF_eq]

theorem wJ_iff {w : W} {n : Int} {j : Jk} : wJ w n j = true ↔ n * rch w j ≤ 0 - j.2.1.1 ∧ n * rch w j ≤ j.2.1.2.1 := by
  simp only [wJ, Bool.and_eq_true, decide_eq_true_eq]
  omega

def wL (w : W) (n : Int) (L : Lm) (k : Nat) : Bool := decide (lo6 L k ≤ 0 - n * pk w k) && decide (n * pk w k ≤ hi6 L k)

theorem wL_iff {w : W} {n : Int} {L : Lm} {k : Nat} : wL w n L k = true ↔ n * pk w k ≤ 0 - lo6 L k ∧ n * pk w k ≤ hi6 L k := by
  simp only [wL, Bool.and_eq_true, decide_eq_true_eq]
  omega

def wdB (J : List Jk) (L : Lm) (w : W) (n : Int) : Bool := (first (fun k => !wL w n L k) 6 0).isNone && (first (fun i => !wJ w n (jAt J i)) J.length 0).isNone

theorem wdB_iff (J : List Jk) (L : Lm) (w : W) (n : Int) : wdB J L w n = true ↔ Wd J L w n := by
  unfold wdB Wd
  rw [Bool.and_eq_true]
  constructor
  · rintro ⟨h1, h2⟩
    rw [Option.isNone_iff_eq_none] at h1 h2
    refine ⟨fun i hi => ?_, fun k hk => ?_⟩
    · have := first_none h2 i (Nat.zero_le _) (by omega); exact wJ_iff.1 (by simpa using this)
    · have := first_none h1 k (Nat.zero_le _) (by omega); exact wL_iff.1 (by simpa using this)
  · rintro ⟨h1, h2⟩
    rw [Option.isNone_iff_eq_none, Option.isNone_iff_eq_none]
    exact ⟨first_of_none fun k _ hk => by simp [wL_iff.2 (h2 k (by omega))], first_of_none fun i _ hi => by simp [wJ_iff.2 (h1 i (by omega))]⟩

/-! Poses within a scale, and within a box. -/

theorem mulA {x y d : Int} (h1 : -y ≤ x) (h2 : x ≤ y) : -(y * iabs d) ≤ x * d ∧ x * d ≤ y * iabs d := by
  have hy : y = (y.natAbs : Int) := by omega
  have hx : x.natAbs ≤ y.natAbs := by omega
  have hm : (x * d).natAbs ≤ y.natAbs * d.natAbs := by rw [Int.natAbs_mul]; exact Nat.mul_le_mul_right _ hx
  have he : y * iabs d = ((y.natAbs * d.natAbs : Nat) : Int) := by
    rw [iabs_nat, Int.natCast_mul, ← hy]
  rw [he]
  omega

theorem dot_abs {x y : W} (d : W) (h : ∀ k, k < 6 → -pk y k ≤ pk x k ∧ pk x k ≤ pk y k) : -dot y (absW d) ≤ dot x d ∧ dot x d ≤ dot y (absW d) := by
  have q0 := mulA (d := d.1) (h 0 (by omega)).1 (h 0 (by omega)).2
  have q1 := mulA (d := d.2.1) (h 1 (by omega)).1 (h 1 (by omega)).2
  have q2 := mulA (d := d.2.2.1) (h 2 (by omega)).1 (h 2 (by omega)).2
  have q3 := mulA (d := d.2.2.2.1) (h 3 (by omega)).1 (h 3 (by omega)).2
  have q4 := mulA (d := d.2.2.2.2.1) (h 4 (by omega)).1 (h 4 (by omega)).2
  have q5 := mulA (d := d.2.2.2.2.2.1) (h 5 (by omega)).1 (h 5 (by omega)).2
  simp only [pk, List.getD_cons_zero, List.getD_cons_succ] at q0 q1 q2 q3 q4 q5
  simp only [dot, absW]
  omega

def md (x m : Int) : Int := if Int.tmod x m < 0 then Int.tmod x m + m else Int.tmod x m

theorem md_range (x : Int) {m : Int} (h : 0 < m) : 0 ≤ md x m ∧ md x m < m := by
  have h1 := Int.tmod_lt_of_pos x h
  have h2 := Int.lt_tmod_of_pos x h
  unfold md
  split <;> omega

theorem f13_eq (x : Int) {m : Int} (h : 0 < m) (hm : m ≤ 1000000000) : f13 (x, m, ()) = some (md x m, ()) := by
  have h1 := Int.tmod_lt_of_pos x h
  have h2 := Int.lt_tmod_of_pos x h
  have n0 : (m == 0) = false := by simp; omega
  simp only [f13, t13, Tr.val_test, Tr.val_fin, leF_eq, n0, Bool.false_eq_true, if_false, md]
  by_cases hn : Int.tmod x m < 0
  · have n1 : ¬ (0 ≤ Int.tmod x m) := by omega
    rw [wrap64_id (by omega) (by omega)]
    simp [hn, n1]
  · have n1 : 0 ≤ Int.tmod x m := by omega
    simp [hn, n1]

def mkW (f : Nat → Int) : W := (f 0, f 1, f 2, f 3, f 4, f 5, ())

theorem pk_mkW (f : Nat → Int) {k : Nat} (h : k < 6) : pk (mkW f) k = f k := by
  match k, h with
  | 0, _ => rfl
  | 1, _ => rfl
  | 2, _ => rfl
  | 3, _ => rfl
  | 4, _ => rfl
  | 5, _ => rfl

/-- Numbers laid one after another. -/
def setN (v : Nat → Int) : Nat → List Int
  | 0 => [0, 0, 0, 0, 0, 0]
  | i + 1 => (setN v i).set i (v i)

theorem setN_len (v : Nat → Int) : ∀ i, (setN v i).length = 6
  | 0 => rfl
  | i + 1 => by simp [setN, setN_len v i]

def t6of (l : List Int) : W := (l.getD 0 0, l.getD 1 0, l.getD 2 0, l.getD 3 0, l.getD 4 0, l.getD 5 0, ())

theorem six {l : List Int} (h : l.length = 6) : [l.getD 0 0, l.getD 1 0, l.getD 2 0, l.getD 3 0, l.getD 4 0, l.getD 5 0] = l := by
  match l, h with
  | [a, b, c, d, e, f], _ => rfl

/-- The pose that is chosen within a scale. -/
def poseS (n : Int) (w at_ : W) (k : Nat) : Int := md (pk at_ k) (2 * n * pk w k + 1) - n * pk w k

theorem poseS_range {n : Int} {w at_ : W} (hn : 0 ≤ n) (hw : Nn w) (k : Nat) : -(n * pk w k) ≤ poseS n w at_ k ∧ poseS n w at_ k ≤ n * pk w k := by
  have h0 := Int.mul_nonneg hn (hw.pk k)
  have h1 : 2 * n * pk w k = 2 * (n * pk w k) := by rw [Int.mul_assoc]
  have := md_range (pk at_ k) (m := 2 * n * pk w k + 1) (by omega)
  unfold poseS
  omega

theorem pk_nW (n : Int) (w : W) {k : Nat} (h : k < 6) : pk (nW n w) k = n * pk w k := by
  match k, h with
  | 0, _ => rfl
  | 1, _ => rfl
  | 2, _ => rfl
  | 3, _ => rfl
  | 4, _ => rfl
  | 5, _ => rfl

theorem poseS_ok {J : List Jk} {L : Lm} {w at_ : W} {n : Int} (hv : VR J L) (hw : Nn w) (hn : 0 ≤ n) (hd : Wd J L w n) : permB J L (mkW (poseS n w at_)) = true ∧ wB (-1000) 1000 (mkW (poseS n w at_)) = true := by
  obtain ⟨h1, h2⟩ := hd
  refine ⟨(permB_iff J L _).2 ⟨fun i hi => ?_, fun k hk => ?_⟩, wB_iff.2 fun k hk => ?_⟩
  · have := dot_abs (x := mkW (poseS n w at_)) (y := nW n w) (jAt J i).1 (fun k hk => by rw [pk_mkW _ hk, pk_nW n w hk]; exact poseS_range hn hw k)
    rw [dot_nW] at this
    have h3 := h1 i hi
    unfold rch at h3
    rw [okJ, wi_iff]
    omega
  · have := poseS_range (at_ := at_) hn hw k
    have h3 := h2 k hk
    rw [okL, wi_iff, pk_mkW _ hk]
    omega
  · have := poseS_range (at_ := at_) hn hw k
    have h3 := h2 k hk
    have h4 := lim_small hv.lim hk
    rw [pk_mkW _ hk]
    omega

/-- The pose that is chosen within a box. -/
def poseB (b : Lm) (at_ : W) (k : Nat) : Int := lo6 b k + md (pk at_ k) (hi6 b k - lo6 b k + 1)

theorem poseB_range {b : Lm} (h : lE b = 0) (at_ : W) {k : Nat} (hk : k < 6) : lo6 b k ≤ poseB b at_ k ∧ poseB b at_ k ≤ hi6 b k := by
  obtain ⟨h1, h2, h3⟩ := lim_small h hk
  have := md_range (pk at_ k) (m := hi6 b k - lo6 b k + 1) (by omega)
  unfold poseB
  omega

theorem poseB_ok {b : Lm} (h : lE b = 0) (at_ : W) : wB (-1000) 1000 (mkW (poseB b at_)) = true := wB_iff.2 fun k hk => by
  have h1 := poseB_range h at_ hk
  obtain ⟨h2, h3, h4⟩ := lim_small h hk
  rw [pk_mkW _ hk]
  omega

theorem between {d lo hi p : Int} (h1 : lo ≤ p) (h2 : p ≤ hi) : mnm (d * lo) (d * hi) ≤ d * p ∧ d * p ≤ mxm (d * lo) (d * hi) := by
  unfold mnm mxm
  by_cases hd : 0 ≤ d
  · have a := Int.mul_le_mul_of_nonneg_left h1 hd
    have b := Int.mul_le_mul_of_nonneg_left h2 hd
    split <;> split <;> omega
  · have a := Int.mul_le_mul_of_nonpos_left (a := d) (by omega) h1
    have b := Int.mul_le_mul_of_nonpos_left (a := d) (by omega) h2
    split <;> split <;> omega

theorem poseB_in {b : Lm} (h : lE b = 0) (at_ d : W) : rlo b d ≤ dot d (mkW (poseB b at_)) ∧ dot d (mkW (poseB b at_)) ≤ rhi b d := by
  have q : ∀ (k : Nat) (hk : k < 6) (d : Int), mnm (d * lo6 b k) (d * hi6 b k) ≤ d * poseB b at_ k ∧ d * poseB b at_ k ≤ mxm (d * lo6 b k) (d * hi6 b k) := fun k hk d => between (poseB_range h at_ hk).1 (poseB_range h at_ hk).2
  have q0 := q 0 (by omega) d.1
  have q1 := q 1 (by omega) d.2.1
  have q2 := q 2 (by omega) d.2.2.1
  have q3 := q 3 (by omega) d.2.2.2.1
  have q4 := q 4 (by omega) d.2.2.2.2.1
  have q5 := q 5 (by omega) d.2.2.2.2.2.1
  have e : rlo b d = mnm (d.1 * lo6 b 0) (d.1 * hi6 b 0) + mnm (d.2.1 * lo6 b 1) (d.2.1 * hi6 b 1) + mnm (d.2.2.1 * lo6 b 2) (d.2.2.1 * hi6 b 2) + mnm (d.2.2.2.1 * lo6 b 3) (d.2.2.2.1 * hi6 b 3) + mnm (d.2.2.2.2.1 * lo6 b 4) (d.2.2.2.2.1 * hi6 b 4) + mnm (d.2.2.2.2.2.1 * lo6 b 5) (d.2.2.2.2.2.1 * hi6 b 5) := rfl
  have e2 : rhi b d = mxm (d.1 * lo6 b 0) (d.1 * hi6 b 0) + mxm (d.2.1 * lo6 b 1) (d.2.1 * hi6 b 1) + mxm (d.2.2.1 * lo6 b 2) (d.2.2.1 * hi6 b 2) + mxm (d.2.2.2.1 * lo6 b 3) (d.2.2.2.1 * hi6 b 3) + mxm (d.2.2.2.2.1 * lo6 b 4) (d.2.2.2.2.1 * hi6 b 4) + mxm (d.2.2.2.2.2.1 * lo6 b 5) (d.2.2.2.2.2.1 * hi6 b 5) := rfl
  rw [e, e2]
  simp only [dot, mkW]
  omega

theorem f5_eq (J : List Jk) (L : Lm) : f5 ((J, L, ()), ()) = some (decide ((J.length : Int) ≤ 10), ()) := by
  simp only [f5, t5, Tr.val_fin, leF_eq]

theorem f7_eq (J : List Jk) (L : Lm) (h : J.length ≤ 1000000000) : f7 ((J, L, ()), ()) = some ((J, L, ()), ()) := by
  simp only [f7, t7, Tr.val_test, Tr.val_fin, List.nil_append, Nat.zero_add, List.take_length]
  by_cases hz : J.length = 0
  · rw [if_pos (by simp [hz])]
    rw [List.eq_nil_of_length_eq_zero hz]
  · rw [if_neg (fun e => hz (Nat.eq_of_beq_eq_true e)), if_neg (fun e => by have := Nat.le_of_ble_eq_true e; omega), if_pos (by simp; omega), if_pos (by simp)]

theorem pkD (w : W) (k : Nat) : List.getD [w.1, w.2.1, w.2.2.1, w.2.2.2.1, w.2.2.2.2.1, w.2.2.2.2.2.1] (0 + k * 1) 0 = pk w k := by
  rw [Nat.zero_add, Nat.mul_one]; rfl

theorem loD (L : Lm) (k : Nat) : List.getD [L.1.1, L.1.2.1, L.2.1.1, L.2.1.2.1, L.2.2.1.1, L.2.2.1.2.1, L.2.2.2.1.1, L.2.2.2.1.2.1, L.2.2.2.2.1.1, L.2.2.2.2.1.2.1, L.2.2.2.2.2.1.1, L.2.2.2.2.2.1.2.1] (1 + k * 2 + 0 - 1) 0 = lo6 L k := by
  rw [show 1 + k * 2 + 0 - 1 = k * 2 + 0 by omega]; rfl

theorem hiD (L : Lm) (k : Nat) : List.getD [L.1.1, L.1.2.1, L.2.1.1, L.2.1.2.1, L.2.2.1.1, L.2.2.1.2.1, L.2.2.2.1.1, L.2.2.2.1.2.1, L.2.2.2.2.1.1, L.2.2.2.2.1.2.1, L.2.2.2.2.2.1.1, L.2.2.2.2.2.1.2.1] (1 + k * 2 + 1 - 1) 0 = hi6 L k := by
  rw [show 1 + k * 2 + 1 - 1 = k * 2 + 1 by omega]; rfl

abbrev bx13 (J : List Jk) (L : Lm) : Bx := (J, L.1.1, L.1.2.1, L.2.1.1, L.2.1.2.1, L.2.2.1.1, L.2.2.1.2.1, L.2.2.2.1.1, L.2.2.2.1.2.1, L.2.2.2.2.1.1, L.2.2.2.2.1.2.1, L.2.2.2.2.2.1.1, L.2.2.2.2.2.1.2.1, ())

theorem l40 (J : List Jk) (L : Lm) (p : W) : l40_0 (((0 : Int), ()), bx13 J L, p, ()) = match first (fun k => !okL p L k) 6 0 with
    | some _ => some (.inr ((false, ()), bx13 J L, p, ()))
    | none => some (.inl ((), bx13 J L, p, ())) := by
  refine itr_search (fun i => (((i : Int), ()), bx13 J L, p, ())) (fun k => !okL p L k) (fun _ => ((false, ()), bx13 J L, p, ())) (n := 6) ?_ ?_ (lt_rounds (by omega))
  · intro k hk
    have e4 : wrap64 ((k : Int) + 1) = ((k + 1 : Nat) : Int) := wrap64_nat (by omega)
    have e18 : f18 (pk p k, lo6 L k, hi6 L k, ()) = some (wi (lo6 L k) (hi6 L k) (pk p k), ()) := f18_eq _
    simp only [s40_0, t40_0, Tr.val_test, Tr.val_fin, leF_eq, Int.toNat_natCast, pkD, loD, hiD, g18, e18, e4, okL, Option.isSome_some, Option.getD_some, if_true]
    rw [if_pos (by simp <;> omega), if_pos (by simp <;> omega), if_pos (by simp <;> omega), if_pos (by simp <;> omega), if_pos (by simp <;> omega), if_pos (by simp <;> omega), if_pos (by simp <;> omega)]
    rfl
  · simp [s40_0, t40_0, leF_eq]

theorem f40_eq (J : List Jk) (L : Lm) (p : W) (h : VR J L) (hp : Sm 1000000 p) : f40 ((J, L, ()), p, ()) = some (permB J L p, ()) := by
  have e := l40 J L p
  have e' : l40_0 (((0 : Int), ()), (J, L.1.1, L.1.2.1, L.2.1.1, L.2.1.2.1, L.2.2.1.1, L.2.2.1.2.1, L.2.2.2.1.1, L.2.2.2.1.2.1, L.2.2.2.2.1.1, L.2.2.2.2.1.2.1, L.2.2.2.2.2.1.1, L.2.2.2.2.2.1.2.1, ()), (p.1, p.2.1, p.2.2.1, p.2.2.2.1, p.2.2.2.2.1, p.2.2.2.2.2.1, ()), ()) = _ := e
  have e63 := f63_eq J L p h hp
  have e63' : f63 ((J, ((L.1.1, L.1.2.1, ()), (L.2.1.1, L.2.1.2.1, ()), (L.2.2.1.1, L.2.2.1.2.1, ()), (L.2.2.2.1.1, L.2.2.2.1.2.1, ()), (L.2.2.2.2.1.1, L.2.2.2.2.1.2.1, ()), (L.2.2.2.2.2.1.1, L.2.2.2.2.2.1.2.1, ()), ()), ()), (p.1, p.2.1, p.2.2.1, p.2.2.2.1, p.2.2.2.2.1, p.2.2.2.2.2.1, ()), ()) = some ((lst J p J.length).1, (lst J p J.length).2, ()) := e63
  have hm : (first (fun i => !okJ p (jAt J i)) J.length 0).isNone = decide ((0 : Int) ≤ (lst J p J.length).2) := by
    rw [Bool.eq_iff_iff, decide_eq_true_eq, lst_ok, Option.isNone_iff_eq_none]
    constructor
    · intro h i hi
      have := first_none h i (Nat.zero_le _) (by omega)
      exact (mg_ok J p i).2 (by simpa using this)
    · intro h
      exact first_of_none fun i _ hi => by simp [(mg_ok J p i).1 (h i (by omega))]
  unfold permB
  rw [hm]
  cases hf : first (fun k => !okL p L k) 6 0 with
  | some k =>
    rw [hf] at e'
    simp only [f40, t40, e', isRet, r40_0, outR, Option.isSome_some, Option.isNone_some, Tr.val_test, Tr.val_fin, if_true, Bool.and_false]
  | none =>
    rw [hf] at e'
    simp only [f40, t40, e', isRet, b40_0, outB, g63, e63', leF_eq, Option.isSome_some, Option.isNone_none, Option.getD_some, Tr.val_test, Tr.val_fin, if_true, Bool.false_eq_true, if_false, Bool.and_true]

theorem l41a (J : List Jk) (L : Lm) (w : W) (n : Int) (hw : Sm 1000 w) (hn : n.natAbs ≤ 1000) : l41_0 ((n, (0 : Int), ()), bx13 J L, w, ()) = match first (fun k => !wL w n L k) 6 0 with
    | some _ => some (.inr ((false, ()), bx13 J L, w, ()))
    | none => some (.inl ((n, ()), bx13 J L, w, ())) := by
  refine itr_search (fun i => ((n, (i : Int), ()), bx13 J L, w, ())) (fun k => !wL w n L k) (fun _ => ((false, ()), bx13 J L, w, ())) (n := 6) ?_ ?_ (lt_rounds (by omega))
  · intro k hk
    have e4 : wrap64 ((k : Int) + 1) = ((k + 1 : Nat) : Int) := wrap64_nat (by omega)
    have hb := mulB hn (hw.pk k)
    have e1 : wrap64 (n * pk w k) = n * pk w k := wrap64_id (by omega) (by omega)
    have e2 : wrap64 (IntKind.wrap .i64 (0 - n) * pk w k) = 0 - n * pk w k := by
      rw [wneg (by omega), Int.zero_sub, Int.neg_mul, wrap64_id (by omega) (by omega), Int.zero_sub]
    simp only [s41_0, t41_0, Tr.val_test, Tr.val_fin, leF_eq, Int.toNat_natCast, pkD, loD, hiD, e1, e2, e4, wL]
    rw [if_pos (by simp <;> omega), if_pos (by simp <;> omega), if_pos (by simp <;> omega), if_pos (by simp <;> omega), if_pos (by simp <;> omega)]
    by_cases a1 : lo6 L k ≤ 0 - n * pk w k
    · by_cases a2 : n * pk w k ≤ hi6 L k
      · simp only [a1, a2, decide_true, Bool.not_true, Bool.and_self, Bool.false_eq_true, if_false]
        rw [if_pos (by simp <;> omega), if_pos (by simp <;> omega)]
      · simp only [a1, a2, decide_true, decide_false, Bool.not_true, Bool.not_false, Bool.and_false, Bool.false_eq_true, if_false, if_true]
        rw [if_pos (by simp <;> omega), if_pos (by simp <;> omega)]
    · simp only [a1, decide_false, Bool.not_false, Bool.false_and, if_true]
  · simp [s41_0, t41_0, leF_eq]

theorem f41_eq (J : List Jk) (L : Lm) (w : W) (n : Int) (h : VR J L) (hw : Sm 1000 w) (hn : n.natAbs ≤ 1000) : f41 ((J, L, ()), w, n, ()) = some (wdB J L w n, ()) := by
  have e := l41a J L w n hw hn
  have e' : l41_0 ((n, (0 : Int), ()), (J, L.1.1, L.1.2.1, L.2.1.1, L.2.1.2.1, L.2.2.1.1, L.2.2.1.2.1, L.2.2.2.1.1, L.2.2.2.1.2.1, L.2.2.2.2.1.1, L.2.2.2.2.1.2.1, L.2.2.2.2.2.1.1, L.2.2.2.2.2.1.2.1, ()), (w.1, w.2.1, w.2.2.1, w.2.2.2.1, w.2.2.2.2.1, w.2.2.2.2.2.1, ()), ()) = _ := e
  have e2 := l41b J (L.1.1, L.1.2.1, L.2.1.1, L.2.1.2.1, L.2.2.1.1, L.2.2.1.2.1, L.2.2.2.1.1, L.2.2.2.1.2.1, L.2.2.2.2.1.1, L.2.2.2.2.1.2.1, L.2.2.2.2.2.1.1, L.2.2.2.2.2.1.2.1, ()) w n h.eight h.jacks hw hn
  have e2' : l41_2 ((n, (0 : Int), ()), (J, L.1.1, L.1.2.1, L.2.1.1, L.2.1.2.1, L.2.2.1.1, L.2.2.1.2.1, L.2.2.2.1.1, L.2.2.2.1.2.1, L.2.2.2.2.1.1, L.2.2.2.2.1.2.1, L.2.2.2.2.2.1.1, L.2.2.2.2.2.1.2.1, ()), (w.1, w.2.1, w.2.2.1, w.2.2.2.1, w.2.2.2.2.1, w.2.2.2.2.2.1, ()), ()) = _ := e2
  unfold wdB
  cases hf : first (fun k => !wL w n L k) 6 0 with
  | some k =>
    rw [hf] at e'
    simp only [f41, t41, e', isRet, r41_0, outR, Option.isSome_some, Option.isNone_some, Tr.val_test, Tr.val_fin, if_true, Bool.false_and]
  | none =>
    rw [hf] at e'
    cases hf2 : first (fun i => !wJ w n (jAt J i)) J.length 0 with
    | some k =>
      rw [hf2] at e2'
      simp only [f41, t41, e', isRet, b41_0, outB, e2', r41_2, outR, Option.isSome_some, Option.isNone_some, Option.isNone_none, Tr.val_test, Tr.val_fin, if_true, Bool.false_eq_true, if_false, Bool.and_false]
    | none =>
      rw [hf2] at e2'
      simp only [f41, t41, e', isRet, b41_0, outB, e2', Option.isSome_some, Option.isNone_none, Tr.val_test, Tr.val_fin, if_true, Bool.false_eq_true, if_false, Bool.and_self]

theorem l12 (J : List Jk) (L : Lm) (w : W) (h : VR J L) (hw : Sm 1000 w) :
    l12_0 (((1 : Int), ()), (J, L.1.1, L.1.2.1, L.2.1.1, L.2.1.2.1, L.2.2.1.1, L.2.2.1.2.1, L.2.2.2.1.1, L.2.2.2.1.2.1, L.2.2.2.2.1.1, L.2.2.2.2.1.2.1, L.2.2.2.2.2.1.1, L.2.2.2.2.2.1.2.1, ()), w, ()) = match first (fun i => !wdB J L w ((i + 1 : Nat) : Int)) 1000 0 with
      | some k => some (.inr (((k : Int), true, ()), (J, L.1.1, L.1.2.1, L.2.1.1, L.2.1.2.1, L.2.2.1.1, L.2.2.1.2.1, L.2.2.2.1.1, L.2.2.2.1.2.1, L.2.2.2.2.1.1, L.2.2.2.2.1.2.1, L.2.2.2.2.2.1.1, L.2.2.2.2.2.1.2.1, ()), w, ()))
      | none => some (.inl ((), (J, L.1.1, L.1.2.1, L.2.1.1, L.2.1.2.1, L.2.2.1.1, L.2.2.1.2.1, L.2.2.2.1.1, L.2.2.2.1.2.1, L.2.2.2.2.1.1, L.2.2.2.2.1.2.1, L.2.2.2.2.2.1.1, L.2.2.2.2.2.1.2.1, ()), w, ())) := by
  refine itr_search (fun i => ((((i + 1 : Nat) : Int), ()), (J, L.1.1, L.1.2.1, L.2.1.1, L.2.1.2.1, L.2.2.1.1, L.2.2.1.2.1, L.2.2.2.1.1, L.2.2.2.1.2.1, L.2.2.2.2.1.1, L.2.2.2.2.1.2.1, L.2.2.2.2.2.1.1, L.2.2.2.2.2.1.2.1, ()), w, ())) (fun i => !wdB J L w ((i + 1 : Nat) : Int)) (fun k => (((k : Int), true, ()), (J, L.1.1, L.1.2.1, L.2.1.1, L.2.1.2.1, L.2.2.1.1, L.2.2.1.2.1, L.2.2.2.1.1, L.2.2.2.1.2.1, L.2.2.2.2.1.1, L.2.2.2.2.1.2.1, L.2.2.2.2.2.1.1, L.2.2.2.2.2.1.2.1, ()), w, ())) (n := 1000) ?_ ?_ (lt_rounds (by omega))
  · intro i hi
    have e4 : wrap64 (((i + 1 : Nat) : Int) + 1) = ((i + 1 + 1 : Nat) : Int) := wrap64_nat (by omega)
    have e5 : wrap64 (((i + 1 : Nat) : Int) - 1) = (i : Int) := by
      rw [wrap64_id (by omega) (by omega)]; omega
    have e41 := f41_eq J L w ((i + 1 : Nat) : Int) h hw (by omega)
    have e41' : f41 ((J, ((L.1.1, L.1.2.1, ()), (L.2.1.1, L.2.1.2.1, ()), (L.2.2.1.1, L.2.2.1.2.1, ()), (L.2.2.2.1.1, L.2.2.2.1.2.1, ()), (L.2.2.2.2.1.1, L.2.2.2.2.1.2.1, ()), (L.2.2.2.2.2.1.1, L.2.2.2.2.2.1.2.1, ()), ()), ()), (w.1, w.2.1, w.2.2.1, w.2.2.2.1, w.2.2.2.2.1, w.2.2.2.2.2.1, ()), ((i + 1 : Nat) : Int), ()) = some (wdB J L w ((i + 1 : Nat) : Int), ()) := e41
    have n1 : decide (((i + 1 : Nat) : Int) ≤ 1000) = true := decide_eq_true (by omega)
    simp only [s12_0, t12_0, Tr.val_test, Tr.val_fin, leF_eq, n1, g41, e41', e4, e5, Option.isSome_some, Option.getD_some, if_true]
  · simp [s12_0, t12_0, leF_eq]

theorem f12_eq (J : List Jk) (L : Lm) (w : W) (h : VR J L) (hw : Sm 1000 w) (hn : Nn w) :
    f12 ((J, L, ()), w, ()) = some (if permB J L (0, 0, 0, 0, 0, 0, ()) = false then ((0 : Int), false, ()) else (scl J L w, true, ())) := by
  have e40 := f40_eq J L (0, 0, 0, 0, 0, 0, ()) h ⟨by decide, by decide, by decide, by decide, by decide, by decide⟩
  have e40' : f40 ((J, ((L.1.1, L.1.2.1, ()), (L.2.1.1, L.2.1.2.1, ()), (L.2.2.1.1, L.2.2.1.2.1, ()), (L.2.2.2.1.1, L.2.2.2.1.2.1, ()), (L.2.2.2.2.1.1, L.2.2.2.2.1.2.1, ()), (L.2.2.2.2.2.1.1, L.2.2.2.2.2.1.2.1, ()), ()), ()), ((0 : Int), (0 : Int), (0 : Int), (0 : Int), (0 : Int), (0 : Int), ()), ()) = some (permB J L (0, 0, 0, 0, 0, 0, ()), ()) := e40
  cases hp : permB J L (0, 0, 0, 0, 0, 0, ()) with
  | false =>
    rw [hp] at e40'
    simp only [f12, t12, g40, e40', Option.isSome_some, Option.getD_some, Tr.val_test, Tr.val_fin, if_true, Bool.not_false]
  | true =>
    rw [hp] at e40'
    have hl := l12 J L w h hw
    have hl' : l12_0 (((1 : Int), ()), (J, L.1.1, L.1.2.1, L.2.1.1, L.2.1.2.1, L.2.2.1.1, L.2.2.1.2.1, L.2.2.2.1.1, L.2.2.2.1.2.1, L.2.2.2.2.1.1, L.2.2.2.2.1.2.1, L.2.2.2.2.2.1.1, L.2.2.2.2.2.1.2.1, ()), (w.1, w.2.1, w.2.2.1, w.2.2.2.1, w.2.2.2.2.1, w.2.2.2.2.2.1, ()), ()) = _ := hl
    obtain ⟨r1, r2⟩ := scl_range hp hn
    have key : ∀ n : Int, 1 ≤ n → n ≤ 1000 → (wdB J L w n = true ↔ n ≤ scl J L w) := fun n h1 h2 => by
      rw [wdB_iff, scl_le hp hn]
      constructor
      · intro h; exact ⟨h2, h⟩
      · rintro ⟨_, h⟩; exact h
    cases hf : first (fun i => !wdB J L w ((i + 1 : Nat) : Int)) 1000 0 with
    | some k =>
      rw [hf] at hl'
      obtain ⟨k1, k2, k3, k4⟩ := first_some hf
      have hk : (k : Int) = scl J L w := by
        have a1 : ¬ (((k + 1 : Nat) : Int) ≤ scl J L w) := fun e => by
          have := (key ((k + 1 : Nat) : Int) (by omega) (by omega)).2 e
          rw [this] at k3; simp at k3
        have a2 : (k : Int) ≤ scl J L w := by
          rcases Nat.eq_zero_or_pos k with h0 | h0
          · rw [h0]; exact r1
          · have := k4 (k - 1) (by omega) (by omega)
            rw [show k - 1 + 1 = k by omega] at this
            exact (key (k : Int) (by omega) (by omega)).1 (by simpa using this)
        omega
      simp only [f12, t12, g40, e40', hl', isRet, r12_0, outR, Option.isSome_some, Option.getD_some, Tr.val_test, Tr.val_fin, if_true, Bool.not_true, Bool.false_eq_true, if_false, hk, reduceCtorEq]
    | none =>
      rw [hf] at hl'
      have hk : scl J L w = 1000 := by
        have := first_none hf 999 (by omega) (by omega)
        have := (key ((999 + 1 : Nat) : Int) (by omega) (by omega)).1 (by simpa using this)
        omega
      simp only [f12, t12, g40, e40', hl', isRet, Option.isSome_some, Option.getD_some, Tr.val_test, Tr.val_fin, if_true, Bool.not_true, Bool.false_eq_true, if_false, hk, reduceCtorEq]

/-! The loops of the law. -/

abbrev Y12 := Tys.data [.int .i64, .int .i64, .int .i64, .int .i64, .int .i64, .int .i64, .int .i64, .int .i64, .int .i64, .int .i64, .int .i64, .int .i64]

abbrev xw (w a : W) : Y12 := (w.1, w.2.1, w.2.2.1, w.2.2.2.1, w.2.2.2.2.1, w.2.2.2.2.2.1, a.1, a.2.1, a.2.2.1, a.2.2.2.1, a.2.2.2.2.1, a.2.2.2.2.2.1, ())

abbrev bx12 (b : Lm) : Y12 := (b.1.1, b.1.2.1, b.2.1.1, b.2.1.2.1, b.2.2.1.1, b.2.2.1.2.1, b.2.2.2.1.1, b.2.2.2.1.2.1, b.2.2.2.2.1.1, b.2.2.2.2.1.2.1, b.2.2.2.2.2.1.1, b.2.2.2.2.2.1.2.1, ())

theorem xw0 (w a : W) {i : Nat} (h : i < 6) : List.getD [w.1, w.2.1, w.2.2.1, w.2.2.2.1, w.2.2.2.2.1, w.2.2.2.2.2.1, a.1, a.2.1, a.2.2.1, a.2.2.2.1, a.2.2.2.2.1, a.2.2.2.2.2.1] i 0 = pk w i := by
  match i, h with
  | 0, _ => rfl
  | 1, _ => rfl
  | 2, _ => rfl
  | 3, _ => rfl
  | 4, _ => rfl
  | 5, _ => rfl

theorem xw1 (w a : W) {i : Nat} (h : i < 6) : List.getD [w.1, w.2.1, w.2.2.1, w.2.2.2.1, w.2.2.2.2.1, w.2.2.2.2.2.1, a.1, a.2.1, a.2.2.1, a.2.2.2.1, a.2.2.2.2.1, a.2.2.2.2.2.1] (6 + i) 0 = pk a i := by
  match i, h with
  | 0, _ => rfl
  | 1, _ => rfl
  | 2, _ => rfl
  | 3, _ => rfl
  | 4, _ => rfl
  | 5, _ => rfl

theorem bx0 (L : Lm) (k : Nat) : List.getD [L.1.1, L.1.2.1, L.2.1.1, L.2.1.2.1, L.2.2.1.1, L.2.2.1.2.1, L.2.2.2.1.1, L.2.2.2.1.2.1, L.2.2.2.2.1.1, L.2.2.2.2.1.2.1, L.2.2.2.2.2.1.1, L.2.2.2.2.2.1.2.1] (k * 2) 0 = lo6 L k := rfl

theorem bx1 (L : Lm) (k : Nat) : List.getD [L.1.1, L.1.2.1, L.2.1.1, L.2.1.2.1, L.2.2.1.1, L.2.2.1.2.1, L.2.2.2.1.1, L.2.2.2.1.2.1, L.2.2.2.2.1.1, L.2.2.2.2.1.2.1, L.2.2.2.2.2.1.1, L.2.2.2.2.2.1.2.1] (k * 2 + 1) 0 = hi6 L k := rfl

theorem l3a (B : Bx) (y : Y12) (w a : W) (l : List (Int × Int × PUnit.{1})) (c n e : Int) (h0 : 0 ≤ n) (h1 : n ≤ 1000) (hw : Nn w) (hs : Sm 1000 w) :
    l3_0 ((l, c, n, e, (0 : Int), ()), B, y, xw w a, t6of (setN (poseS n w a) 0), ()) = some (.inl ((l, c, e, ()), B, y, xw w a, t6of (setN (poseS n w a) 6), ())) := by
  refine itr_brk (fun i => ((l, c, n, e, (i : Int), ()), B, y, xw w a, t6of (setN (poseS n w a) i), ())) (n := 6) ?_ ?_ (lt_rounds (by omega))
  · intro i hi
    have e4 : wrap64 ((i : Int) + 1) = ((i + 1 : Nat) : Int) := wrap64_nat (by omega)
    have h8 := six (setN_len (poseS n w a) i)
    have hp := hs.pk i
    have hq := hw.pk i
    have q0 := Int.mul_nonneg h0 hq
    have q1 : n * pk w i ≤ 1000000 := by
      have := mulB (a := n) (b := pk w i) (A := 1000) (B := 1000) (by omega) hp
      omega
    have q2 : 2 * n * pk w i = 2 * (n * pk w i) := by rw [Int.mul_assoc]
    have w1 : wrap64 (2 * n) = 2 * n := wrap64_id (by omega) (by omega)
    have w2 : wrap64 (2 * n * pk w i) = 2 * n * pk w i := wrap64_id (by omega) (by omega)
    have w3 : wrap64 (2 * n * pk w i + 1) = 2 * n * pk w i + 1 := wrap64_id (by omega) (by omega)
    have w4 : wrap64 (n * pk w i) = n * pk w i := wrap64_id (by omega) (by omega)
    have e13 := f13_eq (pk a i) (m := 2 * n * pk w i + 1) (by omega) (by omega)
    have hr := md_range (pk a i) (m := 2 * n * pk w i + 1) (by omega)
    have w5 : wrap64 (md (pk a i) (2 * n * pk w i + 1) - n * pk w i) = poseS n w a i := wrap64_id (by omega) (by omega)
    simp only [s3_0, t3_0, Tr.val_test, Tr.val_fin, leF_eq, Int.toNat_natCast, Nat.mul_one, Nat.zero_add, xw0 w a hi, xw1 w a hi, w1, w2, w3, w4, g13, e13, w5, e4, Option.isSome_some, Option.getD_some, if_true, t6of, h8]
    rw [if_pos (by simp; omega), if_pos (by simp; omega), if_pos (by simp; omega), if_pos (by simp; omega), if_pos (by simp; omega)]
    simp only [setN]
  · simp [s3_0, t3_0, leF_eq]

theorem l3b (B : Bx) (b : Lm) (w a : W) (l : List (Int × Int × PUnit.{1})) (h : lE b = 0) :
    l3_2 ((l, (0 : Int), ()), B, bx12 b, xw w a, t6of (setN (poseB b a) 0), ()) = some (.inl ((l, ()), B, bx12 b, xw w a, t6of (setN (poseB b a) 6), ())) := by
  refine itr_brk (fun i => ((l, (i : Int), ()), B, bx12 b, xw w a, t6of (setN (poseB b a) i), ())) (n := 6) ?_ ?_ (lt_rounds (by omega))
  · intro i hi
    have e4 : wrap64 ((i : Int) + 1) = ((i + 1 : Nat) : Int) := wrap64_nat (by omega)
    have h8 := six (setN_len (poseB b a) i)
    obtain ⟨h1, h2, h3⟩ := lim_small h hi
    have w1 : wrap64 (hi6 b i - lo6 b i) = hi6 b i - lo6 b i := wrap64_id (by omega) (by omega)
    have w2 : wrap64 (hi6 b i - lo6 b i + 1) = hi6 b i - lo6 b i + 1 := wrap64_id (by omega) (by omega)
    have e13 := f13_eq (pk a i) (m := hi6 b i - lo6 b i + 1) (by omega) (by omega)
    have hr := md_range (pk a i) (m := hi6 b i - lo6 b i + 1) (by omega)
    have w5 : wrap64 (lo6 b i + md (pk a i) (hi6 b i - lo6 b i + 1)) = poseB b a i := wrap64_id (by omega) (by omega)
    simp only [s3_2, t3_2, Tr.val_test, Tr.val_fin, leF_eq, Int.toNat_natCast, Nat.mul_one, Nat.zero_add, Nat.add_zero, xw0 w a hi, xw1 w a hi, bx0, bx1, w1, w2, g13, e13, w5, e4, Option.isSome_some, Option.getD_some, if_true, t6of, h8]
    rw [if_pos (by simp; omega), if_pos (by simp; omega), if_pos (by simp; omega), if_pos (by simp; omega), if_pos (by simp; omega), if_pos (by simp; omega)]
    simp only [setN]
  · simp [s3_2, t3_2, leF_eq]

theorem l3c (l : List (Int × Int × PUnit.{1})) (own : List Int) (hl : own.length = l.length) (hb : l.length ≤ 1000) (h : ∀ i, i < l.length → (l.getD i (0, 0, ())).1 ≤ own.getD i 0 ∧ own.getD i 0 ≤ (l.getD i (0, 0, ())).2.1) :
    l3_4 ((l, own, (0 : Int), ()), ()) = some (.inl ((), ())) := by
  refine itr_brk (fun i => ((l, own, (i : Int), ()), ())) (n := l.length) ?_ ?_ (lt_rounds (by omega))
  · intro i hi
    have e4 : wrap64 ((i : Int) + 1) = ((i + 1 : Nat) : Int) := wrap64_nat (by omega)
    have e18 := f18_eq (own.getD i 0, (l.getD i (0, 0, ())).1, (l.getD i (0, 0, ())).2.1, ())
    obtain ⟨a1, a2⟩ := h i hi
    rw [show (decide (((own.getD i 0, (l.getD i (0, 0, ())).1, (l.getD i (0, 0, ())).2.1, ()) : Tys.data as18).2.1 ≤ ((own.getD i 0, (l.getD i (0, 0, ())).1, (l.getD i (0, 0, ())).2.1, ()) : Tys.data as18).1) && decide (((own.getD i 0, (l.getD i (0, 0, ())).1, (l.getD i (0, 0, ())).2.1, ()) : Tys.data as18).1 ≤ ((own.getD i 0, (l.getD i (0, 0, ())).1, (l.getD i (0, 0, ())).2.1, ()) : Tys.data as18).2.2.1)) = true from by simp only [decide_eq_true a1, decide_eq_true a2, Bool.and_self]] at e18
    simp only [s3_4, t3_4, Tr.val_test, Tr.val_fin, leF_eq, Int.toNat_natCast, g18, e18, e4, Option.isSome_some, Option.getD_some, if_true, Bool.not_true, Bool.false_eq_true, if_false]
    rw [if_pos (by simp; omega), if_pos (by simp; omega), if_pos (by simp; omega)]
  · simp [s3_4, t3_4, leF_eq]

/-! The law. -/

theorem box_stage {J : List Jk} {L b : Lm} (w a : W) (hv : VR J L) (hr : rigE J L = 0) (hb : lE b = 0) :
    f16 ((J, ((L.1.1, L.1.2.1, ()), (L.2.1.1, L.2.1.2.1, ()), (L.2.2.1.1, L.2.2.1.2.1, ()), (L.2.2.2.1.1, L.2.2.2.1.2.1, ()), (L.2.2.2.2.1.1, L.2.2.2.2.1.2.1, ()), (L.2.2.2.2.2.1.1, L.2.2.2.2.2.1.2.1, ()), ()), ()), ((b.1.1, b.1.2.1, ()), (b.2.1.1, b.2.1.2.1, ()), (b.2.2.1.1, b.2.2.1.2.1, ()), (b.2.2.2.1.1, b.2.2.2.1.2.1, ()), (b.2.2.2.2.1.1, b.2.2.2.2.1.2.1, ()), (b.2.2.2.2.2.1.1, b.2.2.2.2.2.1.2.1, ()), ()), ()) = some (rngs J b J.length, ()) ∧ f15 (rngs J b J.length, rngs J b J.length, ()) = some (true, ()) ∧
    l3_2 ((rngs J b J.length, (0 : Int), ()), (J, L.1.1, L.1.2.1, L.2.1.1, L.2.1.2.1, L.2.2.1.1, L.2.2.1.2.1, L.2.2.2.1.1, L.2.2.2.1.2.1, L.2.2.2.2.1.1, L.2.2.2.2.1.2.1, L.2.2.2.2.2.1.1, L.2.2.2.2.2.1.2.1, ()), (b.1.1, b.1.2.1, b.2.1.1, b.2.1.2.1, b.2.2.1.1, b.2.2.1.2.1, b.2.2.2.1.1, b.2.2.2.1.2.1, b.2.2.2.2.1.1, b.2.2.2.2.1.2.1, b.2.2.2.2.2.1.1, b.2.2.2.2.2.1.2.1, ()), (w.1, w.2.1, w.2.2.1, w.2.2.2.1, w.2.2.2.2.1, w.2.2.2.2.2.1, a.1, a.2.1, a.2.2.1, a.2.2.2.1, a.2.2.2.2.1, a.2.2.2.2.2.1, ()), ((0 : Int), (0 : Int), (0 : Int), (0 : Int), (0 : Int), (0 : Int), ()), ()) = some (.inl ((rngs J b J.length, ()), (J, L.1.1, L.1.2.1, L.2.1.1, L.2.1.2.1, L.2.2.1.1, L.2.2.1.2.1, L.2.2.2.1.1, L.2.2.2.1.2.1, L.2.2.2.2.1.1, L.2.2.2.2.1.2.1, L.2.2.2.2.2.1.1, L.2.2.2.2.2.1.2.1, ()), (b.1.1, b.1.2.1, b.2.1.1, b.2.1.2.1, b.2.2.1.1, b.2.2.1.2.1, b.2.2.2.1.1, b.2.2.2.1.2.1, b.2.2.2.2.1.1, b.2.2.2.2.1.2.1, b.2.2.2.2.2.1.1, b.2.2.2.2.2.1.2.1, ()), (w.1, w.2.1, w.2.2.1, w.2.2.2.1, w.2.2.2.2.1, w.2.2.2.2.2.1, a.1, a.2.1, a.2.2.1, a.2.2.2.1, a.2.2.2.2.1, a.2.2.2.2.2.1, ()), (poseB b a 0, poseB b a 1, poseB b a 2, poseB b a 3, poseB b a 4, poseB b a 5, ()), ())) ∧
    f17 ((J, ((L.1.1, L.1.2.1, ()), (L.2.1.1, L.2.1.2.1, ()), (L.2.2.1.1, L.2.2.1.2.1, ()), (L.2.2.2.1.1, L.2.2.2.1.2.1, ()), (L.2.2.2.2.1.1, L.2.2.2.2.1.2.1, ()), (L.2.2.2.2.2.1.1, L.2.2.2.2.2.1.2.1, ()), ()), ()), (poseB b a 0, poseB b a 1, poseB b a 2, poseB b a 3, poseB b a 4, poseB b a 5, ()), ()) = some (exts J (mkW (poseB b a)) J.length, (0 : Int), ()) ∧
    l3_4 ((rngs J b J.length, exts J (mkW (poseB b a)) J.length, (0 : Int), ()), ()) = some (.inl ((), ())) := by
  have h8 := hv.eight
  refine ⟨f16_eq J L b hv (Bs.of hb), f15_self _ (by rw [rngs_len]; omega), l3b (bx13 J L) b w a _ hb, f17_eq J L (mkW (poseB b a)) hv hr (poseB_ok hb a), l3c _ _ (by rw [exts_len, rngs_len]) (by rw [rngs_len]; omega) ?_⟩
  intro i hi
  rw [rngs_len] at hi
  rw [rngs_get J b hi, exts_get J _ hi]
  exact poseB_in hb a (jAt J i).1

theorem scale_stage {J : List Jk} {L : Lm} (b : Lm) {w : W} (a : W) (l : List (Int × Int × PUnit.{1})) (c e : Int) (hv : VR J L) (hr : rigE J L = 0) (hw : wB 0 1000 w = true) (hp : permB J L (0, 0, 0, 0, 0, 0, ()) = true) :
    l3_0 ((l, c, scl J L w, e, (0 : Int), ()), (J, L.1.1, L.1.2.1, L.2.1.1, L.2.1.2.1, L.2.2.1.1, L.2.2.1.2.1, L.2.2.2.1.1, L.2.2.2.1.2.1, L.2.2.2.2.1.1, L.2.2.2.2.1.2.1, L.2.2.2.2.2.1.1, L.2.2.2.2.2.1.2.1, ()), (b.1.1, b.1.2.1, b.2.1.1, b.2.1.2.1, b.2.2.1.1, b.2.2.1.2.1, b.2.2.2.1.1, b.2.2.2.1.2.1, b.2.2.2.2.1.1, b.2.2.2.2.1.2.1, b.2.2.2.2.2.1.1, b.2.2.2.2.2.1.2.1, ()), (w.1, w.2.1, w.2.2.1, w.2.2.2.1, w.2.2.2.2.1, w.2.2.2.2.2.1, a.1, a.2.1, a.2.2.1, a.2.2.2.1, a.2.2.2.2.1, a.2.2.2.2.2.1, ()), ((0 : Int), (0 : Int), (0 : Int), (0 : Int), (0 : Int), (0 : Int), ()), ()) = some (.inl ((l, c, e, ()), (J, L.1.1, L.1.2.1, L.2.1.1, L.2.1.2.1, L.2.2.1.1, L.2.2.1.2.1, L.2.2.2.1.1, L.2.2.2.1.2.1, L.2.2.2.2.1.1, L.2.2.2.2.1.2.1, L.2.2.2.2.2.1.1, L.2.2.2.2.2.1.2.1, ()), (b.1.1, b.1.2.1, b.2.1.1, b.2.1.2.1, b.2.2.1.1, b.2.2.1.2.1, b.2.2.2.1.1, b.2.2.2.1.2.1, b.2.2.2.2.1.1, b.2.2.2.2.1.2.1, b.2.2.2.2.2.1.1, b.2.2.2.2.2.1.2.1, ()), (w.1, w.2.1, w.2.2.1, w.2.2.2.1, w.2.2.2.2.1, w.2.2.2.2.2.1, a.1, a.2.1, a.2.2.1, a.2.2.2.1, a.2.2.2.2.1, a.2.2.2.2.2.1, ()), (poseS (scl J L w) w a 0, poseS (scl J L w) w a 1, poseS (scl J L w) w a 2, poseS (scl J L w) w a 3, poseS (scl J L w) w a 4, poseS (scl J L w) w a 5, ()), ())) ∧
    f14 ((J, ((L.1.1, L.1.2.1, ()), (L.2.1.1, L.2.1.2.1, ()), (L.2.2.1.1, L.2.2.1.2.1, ()), (L.2.2.2.1.1, L.2.2.2.1.2.1, ()), (L.2.2.2.2.1.1, L.2.2.2.2.1.2.1, ()), (L.2.2.2.2.2.1.1, L.2.2.2.2.2.1.2.1, ()), ()), ()), (poseS (scl J L w) w a 0, poseS (scl J L w) w a 1, poseS (scl J L w) w a 2, poseS (scl J L w) w a 3, poseS (scl J L w) w a 4, poseS (scl J L w) w a 5, ()), ()) = some (true, (0 : Int), ()) := by
  obtain ⟨hn, hs⟩ := wB_nn hw
  obtain ⟨r0, r1⟩ := scl_range hp hn
  obtain ⟨k1, k2⟩ := poseS_ok (at_ := a) hv hn r0 ((scl_le hp hn (scl J L w)).1 (Int.le_refl _)).2
  have e14 := f14_eq J L _ hv hr k2
  rw [k1] at e14
  exact ⟨l3a (bx13 J L) (bx12 b) w a l c (scl J L w) e r0 r1 hn hs, e14⟩

theorem f3_eq (J : List Jk) (L b : Lm) (w a : W) : f3 ((J, L, ()), b, (w, a, ()), ()) = some (true, ()) := by
  have e5 : f5 ((J, ((L.1.1, L.1.2.1, ()), (L.2.1.1, L.2.1.2.1, ()), (L.2.2.1.1, L.2.2.1.2.1, ()), (L.2.2.2.1.1, L.2.2.2.1.2.1, ()), (L.2.2.2.2.1.1, L.2.2.2.2.1.2.1, ()), (L.2.2.2.2.2.1.1, L.2.2.2.2.2.1.2.1, ()), ()), ()), ()) = some (decide ((J.length : Int) ≤ 10), ()) := f5_eq J L
  by_cases h10 : (J.length : Int) ≤ 10
  · rw [decide_eq_true h10] at e5
    have e7 : f7 ((J, ((L.1.1, L.1.2.1, ()), (L.2.1.1, L.2.1.2.1, ()), (L.2.2.1.1, L.2.2.1.2.1, ()), (L.2.2.2.1.1, L.2.2.2.1.2.1, ()), (L.2.2.2.2.1.1, L.2.2.2.2.1.2.1, ()), (L.2.2.2.2.2.1.1, L.2.2.2.2.2.1.2.1, ()), ()), ()), ()) = some ((J, ((L.1.1, L.1.2.1, ()), (L.2.1.1, L.2.1.2.1, ()), (L.2.2.1.1, L.2.2.1.2.1, ()), (L.2.2.2.1.1, L.2.2.2.1.2.1, ()), (L.2.2.2.2.1.1, L.2.2.2.2.1.2.1, ()), (L.2.2.2.2.2.1.1, L.2.2.2.2.2.1.2.1, ()), ()), ()), ()) := f7_eq J L (by omega)
    have e9 : f9 ((J, ((L.1.1, L.1.2.1, ()), (L.2.1.1, L.2.1.2.1, ()), (L.2.2.1.1, L.2.2.1.2.1, ()), (L.2.2.2.1.1, L.2.2.2.1.2.1, ()), (L.2.2.2.2.1.1, L.2.2.2.2.1.2.1, ()), (L.2.2.2.2.2.1.1, L.2.2.2.2.2.1.2.1, ()), ()), ()), ()) = some (rigE J L, ()) := f9_eq J L
    have e10 : f10 (((b.1.1, b.1.2.1, ()), (b.2.1.1, b.2.1.2.1, ()), (b.2.2.1.1, b.2.2.1.2.1, ()), (b.2.2.2.1.1, b.2.2.2.1.2.1, ()), (b.2.2.2.2.1.1, b.2.2.2.2.1.2.1, ()), (b.2.2.2.2.2.1.1, b.2.2.2.2.2.1.2.1, ()), ()), ()) = some (lE b, ()) := f10_eq b
    have e11 : f11 ((w.1, w.2.1, w.2.2.1, w.2.2.2.1, w.2.2.2.2.1, w.2.2.2.2.2.1, ()), ()) = some (wayE w, ()) := f11_eq w
    have e6 : f6 ((J, ((L.1.1, L.1.2.1, ()), (L.2.1.1, L.2.1.2.1, ()), (L.2.2.1.1, L.2.2.1.2.1, ()), (L.2.2.2.1.1, L.2.2.2.1.2.1, ()), (L.2.2.2.2.1.1, L.2.2.2.2.1.2.1, ()), (L.2.2.2.2.2.1.1, L.2.2.2.2.2.1.2.1, ()), ()), ()), ((b.1.1, b.1.2.1, ()), (b.2.1.1, b.2.1.2.1, ()), (b.2.2.1.1, b.2.2.1.2.1, ()), (b.2.2.2.1.1, b.2.2.2.1.2.1, ()), (b.2.2.2.2.1.1, b.2.2.2.2.1.2.1, ()), (b.2.2.2.2.2.1.1, b.2.2.2.2.2.1.2.1, ()), ()), ()) = _ := f6_eq J L b
    have e8 : f8 ((J, ((L.1.1, L.1.2.1, ()), (L.2.1.1, L.2.1.2.1, ()), (L.2.2.1.1, L.2.2.1.2.1, ()), (L.2.2.2.1.1, L.2.2.2.1.2.1, ()), (L.2.2.2.2.1.1, L.2.2.2.2.1.2.1, ()), (L.2.2.2.2.2.1.1, L.2.2.2.2.2.1.2.1, ()), ()), ()), (w.1, w.2.1, w.2.2.1, w.2.2.2.1, w.2.2.2.2.1, w.2.2.2.2.2.1, ()), ()) = _ := f8_eq J L w
    by_cases hr : rigE J L = 0
    · have hv := VR.of hr
      rw [hr] at e9
      have q6 : firstNZ [rigE J L, lE b] = lE b := by rw [hr]; simp [firstNZ]; intro h; exact h.symm
      have q8 : firstNZ [rigE J L, wayE w] = wayE w := by rw [hr]; simp [firstNZ]; intro h; exact h.symm
      rw [q6] at e6
      rw [q8] at e8
      by_cases hb : lE b = 0
      · obtain ⟨b1, b2, b3, b4, b5⟩ := box_stage w a hv hr hb
        rw [if_neg (fun h => h hb)] at e6
        rw [hb] at e10
        by_cases hw : wB 0 1000 w = true
        · obtain ⟨hn, hs⟩ := wB_nn hw
          have hwe : wayE w = 0 := if_pos hw
          have e12 : f12 ((J, ((L.1.1, L.1.2.1, ()), (L.2.1.1, L.2.1.2.1, ()), (L.2.2.1.1, L.2.2.1.2.1, ()), (L.2.2.2.1.1, L.2.2.2.1.2.1, ()), (L.2.2.2.2.1.1, L.2.2.2.2.1.2.1, ()), (L.2.2.2.2.2.1.1, L.2.2.2.2.2.1.2.1, ()), ()), ()), (w.1, w.2.1, w.2.2.1, w.2.2.2.1, w.2.2.2.2.1, w.2.2.2.2.2.1, ()), ()) = _ := f12_eq J L w hv hs hn
          rw [hwe] at e11
          rw [if_neg (fun h => h hwe)] at e8
          cases hp : permB J L (0, 0, 0, 0, 0, 0, ()) with
          | false =>
            rw [if_pos hp] at e8 e12
            simp only [f3, t3, Tr.val_test, Tr.val_fin, ↓reduceIte, g5, g6, g7, g8, g9, g10, g11, g12, g14, g15, g16, g17, isBrk, isRet, outB, outR, b3_0, b3_2, r3_4, leF_eq, eqF_eq, Option.isSome_some, Option.getD_some, Bool.not_true, Bool.not_false, Bool.false_eq_true, decide_true, decide_false, List.length_nil, Int.natCast_zero, exts_len, rngs_len, e5, e6, e7, e8, e9, e10, e11, e12, b1, b2, b3, b4, b5]
          | true =>
            rw [if_neg (by rw [hp]; exact fun h => Bool.noConfusion h)] at e8 e12
            obtain ⟨c1, c2⟩ := scale_stage b a (rngs J b J.length) 0 0 hv hr hw hp
            simp only [f3, t3, Tr.val_test, Tr.val_fin, ↓reduceIte, g5, g6, g7, g8, g9, g10, g11, g12, g14, g15, g16, g17, isBrk, isRet, outB, outR, b3_0, b3_2, r3_4, leF_eq, eqF_eq, Option.isSome_some, Option.getD_some, Bool.not_true, Bool.not_false, Bool.false_eq_true, decide_true, decide_false, List.length_nil, Int.natCast_zero, exts_len, rngs_len, e5, e6, e7, e8, e9, e10, e11, e12, b1, b2, b3, b4, b5, c1, c2]
        · have hwe : wayE w = 2 := if_neg hw
          rw [hwe] at e11 e8
          rw [if_pos (by decide)] at e8
          have n2 : decide ((2 : Int) = 0) = false := rfl
          simp only [f3, t3, Tr.val_test, Tr.val_fin, ↓reduceIte, g5, g6, g7, g8, g9, g10, g11, g12, g14, g15, g16, g17, isBrk, isRet, outB, outR, b3_0, b3_2, r3_4, leF_eq, eqF_eq, Option.isSome_some, Option.getD_some, Bool.not_true, Bool.not_false, Bool.false_eq_true, decide_true, decide_false, List.length_nil, Int.natCast_zero, exts_len, rngs_len, e5, e6, e7, e8, e9, e10, e11, b1, b2, b3, b4, b5, n2]
      · rw [if_pos hb] at e6
        have nb : decide (lE b = 0) = false := decide_eq_false hb
        by_cases hw : wB 0 1000 w = true
        · obtain ⟨hn, hs⟩ := wB_nn hw
          have hwe : wayE w = 0 := if_pos hw
          have e12 : f12 ((J, ((L.1.1, L.1.2.1, ()), (L.2.1.1, L.2.1.2.1, ()), (L.2.2.1.1, L.2.2.1.2.1, ()), (L.2.2.2.1.1, L.2.2.2.1.2.1, ()), (L.2.2.2.2.1.1, L.2.2.2.2.1.2.1, ()), (L.2.2.2.2.2.1.1, L.2.2.2.2.2.1.2.1, ()), ()), ()), (w.1, w.2.1, w.2.2.1, w.2.2.2.1, w.2.2.2.2.1, w.2.2.2.2.2.1, ()), ()) = _ := f12_eq J L w hv hs hn
          rw [hwe] at e11
          rw [if_neg (fun h => h hwe)] at e8
          cases hp : permB J L (0, 0, 0, 0, 0, 0, ()) with
          | false =>
            rw [if_pos hp] at e8 e12
            simp only [f3, t3, Tr.val_test, Tr.val_fin, ↓reduceIte, g5, g6, g7, g8, g9, g10, g11, g12, g14, g15, g16, g17, isBrk, isRet, outB, outR, b3_0, b3_2, r3_4, leF_eq, eqF_eq, Option.isSome_some, Option.getD_some, Bool.not_true, Bool.not_false, Bool.false_eq_true, decide_true, decide_false, List.length_nil, Int.natCast_zero, exts_len, rngs_len, e5, e6, e7, e8, e9, e10, e11, e12, nb]
          | true =>
            rw [if_neg (by rw [hp]; exact fun h => Bool.noConfusion h)] at e8 e12
            obtain ⟨c1, c2⟩ := scale_stage b a ([]) (lE b) (lE b) hv hr hw hp
            simp only [f3, t3, Tr.val_test, Tr.val_fin, ↓reduceIte, g5, g6, g7, g8, g9, g10, g11, g12, g14, g15, g16, g17, isBrk, isRet, outB, outR, b3_0, b3_2, r3_4, leF_eq, eqF_eq, Option.isSome_some, Option.getD_some, Bool.not_true, Bool.not_false, Bool.false_eq_true, decide_true, decide_false, List.length_nil, Int.natCast_zero, exts_len, rngs_len, e5, e6, e7, e8, e9, e10, e11, e12, c1, c2, nb]
        · have hwe : wayE w = 2 := if_neg hw
          rw [hwe] at e11 e8
          rw [if_pos (by decide)] at e8
          have n2 : decide ((2 : Int) = 0) = false := rfl
          simp only [f3, t3, Tr.val_test, Tr.val_fin, ↓reduceIte, g5, g6, g7, g8, g9, g10, g11, g12, g14, g15, g16, g17, isBrk, isRet, outB, outR, b3_0, b3_2, r3_4, leF_eq, eqF_eq, Option.isSome_some, Option.getD_some, Bool.not_true, Bool.not_false, Bool.false_eq_true, decide_true, decide_false, List.length_nil, Int.natCast_zero, exts_len, rngs_len, e5, e6, e7, e8, e9, e10, e11, n2, nb]
    · have q6 : firstNZ [rigE J L, lE b] = rigE J L := by simp [firstNZ, hr]
      have q8 : firstNZ [rigE J L, wayE w] = rigE J L := by simp [firstNZ, hr]
      rw [q6, if_pos hr] at e6
      rw [q8, if_pos hr] at e8
      have n : decide (rigE J L = 0) = false := decide_eq_false hr
      simp only [f3, t3, Tr.val_test, Tr.val_fin, ↓reduceIte, g5, g6, g7, g8, g9, g10, g11, g12, g14, g15, g16, g17, isBrk, isRet, outB, outR, b3_0, b3_2, r3_4, leF_eq, eqF_eq, Option.isSome_some, Option.getD_some, Bool.not_true, Bool.not_false, Bool.false_eq_true, decide_true, decide_false, List.length_nil, Int.natCast_zero, exts_len, rngs_len, e5, e6, e7, e8, e9, e10, n]
  · rw [decide_eq_false h10] at e5
    simp only [f3, t3, Tr.val_test, Tr.val_fin, ↓reduceIte, g5, g6, g7, g8, g9, g10, g11, g12, g14, g15, g16, g17, isBrk, isRet, outB, outR, b3_0, b3_2, r3_4, leF_eq, eqF_eq, Option.isSome_some, Option.getD_some, Bool.not_true, Bool.not_false, Bool.false_eq_true, decide_true, decide_false, List.length_nil, Int.natCast_zero, exts_len, rngs_len, e5]

theorem law3 (d : Tys.data as3) : Pure1 Go.Proofs.Try.prog 3 as3 [.bool] d (true, ()) := by
  have h := f3_eq d.1.1 d.1.2.1 d.2.1 d.2.2.1.1 d.2.2.1.2.1
  have hp : p3.pre d = true := by
    show Option.isSome (f3 d) = true
    rw [show f3 d = some (true, ()) from h]; rfl
  have hg : p3.fn d = (true, ()) := by
    show (f3 d).getD _ = _
    rw [show f3 d = some (true, ()) from h]; rfl
  have := ok3.runs d hp
  rw [hg] at this
  exact this

end Go.Vm.Mo
