import Derived.Test.YtamhnegcpdkpdaaRkFd
import Derived.Test.YtamhnegcpdkpdaaA4
set_option linter.unusedVariables false
set_option linter.unusedSimpArgs false

namespace Go.Vm.Mo
open Go
set_option linter.unusedVariables false
set_option linter.unusedSimpArgs false

abbrev E7 := Int × Int × Int × Int × Int × Int × Int × PUnit.{1}
abbrev Jk := (Int × Int × Int × Int × Int × Int × PUnit.{1}) × (Int × Int × PUnit.{1}) × PUnit.{1}
abbrev Lm := (Int × Int × PUnit.{1}) × (Int × Int × PUnit.{1}) × (Int × Int × PUnit.{1}) × (Int × Int × PUnit.{1}) × (Int × Int × PUnit.{1}) × (Int × Int × PUnit.{1}) × PUnit.{1}

theorem lt_r2 {n : Nat} (h : n ≤ 9223372036854775808) : n < rounds := by unfold rounds; omega

theorem wrapR (n : Int) : (IntKind.wrap .i64 n).natAbs ≤ 9223372036854775808 := by
  have := wrap64_bounds n
  rw [wrap64_eq] at this
  omega

theorem wrap64R (n : Int) : (wrap64 n).natAbs ≤ 9223372036854775808 := by rw [wrap64_eq]; exact wrapR n

/-- A divisor of the first numbers. -/
def dv (l : List Int) : Nat → Int
  | 0 => 0
  | i + 1 => euc (dv l i) (l.getD i 0)

theorem l58i (l : List Int) (n i : Int) (a b : Int) (h : b.natAbs ≤ 9223372036854775808) : l58_2 ((a, b, l, n, i, ()), ()) = some (.inl ((euc a b, l, n, i, ()), ())) := by
  refine itr_euc (fun a b => ((a, b, l, n, i, ()), ())) (fun a => ((a, l, n, i, ()), ())) ?_ ?_ rounds a b (lt_r2 h)
  · intro a b hb
    simp [s58_2, t58_2, eqF_eq, hb]
  · intro a
    simp [s58_2, t58_2, eqF_eq]

theorem l58 (l : List Int) (h : l.length ≤ 1000000000) (hb : ∀ i, i < l.length → (l.getD i 0).natAbs ≤ 9223372036854775808) : l58_0 (((0 : Int), l, (l.length : Int), (0 : Int), ()), ()) = some (.inl ((dv l l.length, ()), ())) := by
  refine itr_brk (fun i => ((dv l i, l, (l.length : Int), (i : Int), ()), ())) (n := l.length) ?_ ?_ (lt_rounds (by omega))
  · intro i hi
    simp only [s58_0, t58_0, Tr.val_test, Tr.val_fin, leF_eq, Int.toNat_natCast, b58_2, l58i l _ _ _ _ (hb i hi), isBrk, outB, if_true]
    rw [if_pos (by simp; omega), if_pos (by simp; omega)]
    simp only [wrap64_nat (show i ≤ 9223372036854775806 by omega), dv]
  · simp [s58_0, t58_0, leF_eq]

theorem f58_any (l : List Int) (h : l.length ≤ 1000000000) (hb : ∀ i, i < l.length → (l.getD i 0).natAbs ≤ 9223372036854775808) : ∃ g : Int, f58 (l, ()) = some (g, ()) := by
  have e : f58 (l, ()) = some ((if dv l l.length < IntKind.wrap .i64 (0 - dv l l.length) then IntKind.wrap .i64 (0 - dv l l.length) else dv l l.length), ()) := by
    simp only [f58, t58, b58_0, l58 l h hb, Tr.val_test, Tr.val_fin, isBrk, if_true, outB]
  exact ⟨_, e⟩

def gt (x : E7) : Nat → Int
  | 0 => x.1
  | 1 => x.2.1
  | 2 => x.2.2.1
  | 3 => x.2.2.2.1
  | 4 => x.2.2.2.2.1
  | 5 => x.2.2.2.2.2.1
  | 6 => x.2.2.2.2.2.2.1
  | _ => 0

def Rg (x : E7) : Prop := ∀ i, (gt x i).natAbs ≤ 9223372036854775808

def mk7 (f : Nat → Int) : E7 := (f 0, f 1, f 2, f 3, f 4, f 5, f 6, ())

theorem gt_mk7 (f : Nat → Int) {i : Nat} (h : i < 7) : gt (mk7 f) i = f i := by
  match i, h with
  | 0, _ => rfl
  | 1, _ => rfl
  | 2, _ => rfl
  | 3, _ => rfl
  | 4, _ => rfl
  | 5, _ => rfl
  | 6, _ => rfl

theorem gt_big (x : E7) {i : Nat} (h : 7 ≤ i) : gt x i = 0 := by
  obtain ⟨k, rfl⟩ : ∃ k, i = k + 7 := ⟨i - 7, by omega⟩
  rfl

theorem mk7_gt (x : E7) : mk7 (gt x) = x := rfl

theorem ext7 {x y : E7} (h : ∀ i, i < 7 → gt x i = gt y i) : x = y := by
  rw [← mk7_gt x, ← mk7_gt y]
  unfold mk7
  rw [h 0 (by omega), h 1 (by omega), h 2 (by omega), h 3 (by omega), h 4 (by omega), h 5 (by omega), h 6 (by omega)]

/-- What is shortened: zeros stay. -/
theorem f82_eq (x : E7) (hx : Rg x) : ∃ y : E7, f82 (x, ()) = some (y, ()) ∧ Rg y ∧ ∀ i, gt x i = 0 → gt y i = 0 := by
  obtain ⟨g, hg⟩ := f58_any [gt x 0, gt x 1, gt x 2, gt x 3, gt x 4, gt x 5, gt x 6] (by simp) fun i hi => by
    match i, hi with
    | 0, _ => exact hx 0
    | 1, _ => exact hx 1
    | 2, _ => exact hx 2
    | 3, _ => exact hx 3
    | 4, _ => exact hx 4
    | 5, _ => exact hx 5
    | 6, _ => exact hx 6
  have hg' : f58 ([x.1, x.2.1, x.2.2.1, x.2.2.2.1, x.2.2.2.2.1, x.2.2.2.2.2.1, x.2.2.2.2.2.2.1], ()) = some (g, ()) := hg
  by_cases h1 : g ≤ 1
  · refine ⟨x, ?_, hx, fun i h => h⟩
    simp only [f82, t82, g58, hg', Option.isSome_some, Option.getD_some, Tr.val_test, Tr.val_fin, leF_eq, if_true]
    rw [if_neg (by simp [h1])]
  · refine ⟨mk7 fun i => IntKind.wrap .i64 ((gt x i).tdiv g), ?_, fun i => ?_, fun i h => ?_⟩
    · simp only [f82, t82, g58, hg', Option.isSome_some, Option.getD_some, Tr.val_test, Tr.val_fin, leF_eq, if_true]
      rw [if_pos (by simp [h1]), if_neg (by simp; omega)]
      rfl
    · by_cases hi : i < 7
      · rw [gt_mk7 _ hi]; exact wrapR _
      · rw [gt_big _ (by omega)]; decide
    · by_cases hi : i < 7
      · rw [gt_mk7 _ hi, h, Int.zero_tdiv]; rfl
      · exact gt_big _ (by omega)

/-- The first place that is not 0. -/
def ld (x : E7) : Nat := if gt x 0 ≠ 0 then 0 else if gt x 1 ≠ 0 then 1 else if gt x 2 ≠ 0 then 2 else if gt x 3 ≠ 0 then 3 else if gt x 4 ≠ 0 then 4 else if gt x 5 ≠ 0 then 5 else if gt x 6 ≠ 0 then 6 else 7

theorem f55_eq (x : E7) : f55 (x, ()) = some ((ld x : Int), ()) := by
  obtain ⟨a, b, c, d, e, f, g, _⟩ := x
  simp only [f55, t55, Tr.val_test, Tr.val_fin, eqF_eq, ld, gt]
  by_cases h0 : a = 0
  · by_cases h1 : b = 0
    · by_cases h2 : c = 0
      · by_cases h3 : d = 0
        · by_cases h4 : e = 0
          · by_cases h5 : f = 0
            · by_cases h6 : g = 0 <;> simp [h0, h1, h2, h3, h4, h5, h6]
            · simp [h0, h1, h2, h3, h4, h5]
          · simp [h0, h1, h2, h3, h4]
        · simp [h0, h1, h2, h3]
      · simp [h0, h1, h2]
    · simp [h0, h1]
  · simp [h0]

theorem ld_spec (x : E7) : (∀ i, i < ld x → gt x i = 0) ∧ (ld x < 7 → gt x (ld x) ≠ 0) ∧ ld x ≤ 7 := by
  unfold ld
  by_cases h0 : gt x 0 = 0
  · by_cases h1 : gt x 1 = 0
    · by_cases h2 : gt x 2 = 0
      · by_cases h3 : gt x 3 = 0
        · by_cases h4 : gt x 4 = 0
          · by_cases h5 : gt x 5 = 0
            · by_cases h6 : gt x 6 = 0
              · simp only [h0, h1, h2, h3, h4, h5, h6, ne_eq, not_true, if_false]
                refine ⟨fun i hi => ?_, by omega, by omega⟩
                match i, hi with
                | 0, _ => exact h0
                | 1, _ => exact h1
                | 2, _ => exact h2
                | 3, _ => exact h3
                | 4, _ => exact h4
                | 5, _ => exact h5
                | 6, _ => exact h6
              · simp only [h0, h1, h2, h3, h4, h5, h6, ne_eq, not_true, not_false_eq_true, if_false, if_true]
                refine ⟨fun i hi => ?_, fun _ => trivial, by omega⟩
                match i, hi with
                | 0, _ => exact h0
                | 1, _ => exact h1
                | 2, _ => exact h2
                | 3, _ => exact h3
                | 4, _ => exact h4
                | 5, _ => exact h5
            · simp only [h0, h1, h2, h3, h4, h5, ne_eq, not_true, not_false_eq_true, if_false, if_true]
              refine ⟨fun i hi => ?_, fun _ => trivial, by omega⟩
              match i, hi with
              | 0, _ => exact h0
              | 1, _ => exact h1
              | 2, _ => exact h2
              | 3, _ => exact h3
              | 4, _ => exact h4
          · simp only [h0, h1, h2, h3, h4, ne_eq, not_true, not_false_eq_true, if_false, if_true]
            refine ⟨fun i hi => ?_, fun _ => trivial, by omega⟩
            match i, hi with
            | 0, _ => exact h0
            | 1, _ => exact h1
            | 2, _ => exact h2
            | 3, _ => exact h3
        · simp only [h0, h1, h2, h3, ne_eq, not_true, not_false_eq_true, if_false, if_true]
          refine ⟨fun i hi => ?_, fun _ => trivial, by omega⟩
          match i, hi with
          | 0, _ => exact h0
          | 1, _ => exact h1
          | 2, _ => exact h2
      · simp only [h0, h1, h2, ne_eq, not_true, not_false_eq_true, if_false, if_true]
        refine ⟨fun i hi => ?_, fun _ => trivial, by omega⟩
        match i, hi with
        | 0, _ => exact h0
        | 1, _ => exact h1
    · simp only [h0, h1, ne_eq, not_true, not_false_eq_true, if_false, if_true]
      refine ⟨fun i hi => ?_, fun _ => trivial, by omega⟩
      match i, hi with
      | 0, _ => exact h0
  · simp only [h0, ne_eq, not_false_eq_true, if_true]
    exact ⟨fun i hi => by omega, fun _ => trivial, by omega⟩

def zero7 : E7 := mk7 fun _ => 0

theorem ld_zero {x : E7} (h : ld x = 7) : x = zero7 := ext7 fun i hi => by
  rw [(ld_spec x).1 i (by omega), zero7, gt_mk7 _ hi]

/-- One elimination, ahead of being shortened. -/
def cmb (x y : E7) (a b : Int) : E7 := mk7 fun i => wrap64 (wrap64 (gt x i * a) - wrap64 (gt y i * b))

theorem f74_raw (x y : E7) (h : ld y < 7) : f74 (x, y, ()) = f82 (cmb x y (gt y (ld y)) (gt x (ld y)), ()) := by
  have fin : ∀ z : E7, (if (f82 (z, ())).isSome = true then some (((g82 (z, ())).1.1, (g82 (z, ())).1.2.1, (g82 (z, ())).1.2.2.1, (g82 (z, ())).1.2.2.2.1, (g82 (z, ())).1.2.2.2.2.1, (g82 (z, ())).1.2.2.2.2.2.1, (g82 (z, ())).1.2.2.2.2.2.2.1, ()), ()) else (Tr.stop : Tr (Tys.data rs74)).val) = f82 (z, ()) := by
    intro z
    unfold g82
    cases f82 (z, ()) with
    | none => rfl
    | some r => rfl
  obtain ⟨a, b, c, d, e, f, g, _⟩ := y
  unfold ld at h ⊢
  simp only [gt] at h ⊢
  by_cases h0 : a = 0
  · by_cases h1 : b = 0
    · by_cases h2 : c = 0
      · by_cases h3 : d = 0
        · by_cases h4 : e = 0
          · by_cases h5 : f = 0
            · by_cases h6 : g = 0
              · simp [h0, h1, h2, h3, h4, h5, h6] at h
              · simp only [f74, t74, Tr.val_test, Tr.val_fin, eqF_eq, h0, h1, h2, h3, h4, h5, h6, decide_true, decide_false, Bool.not_true, Bool.not_false, Bool.false_eq_true, if_false, if_true, ne_eq, not_true, not_false_eq_true]
                exact fin _
            · simp only [f74, t74, Tr.val_test, Tr.val_fin, eqF_eq, h0, h1, h2, h3, h4, h5, decide_true, decide_false, Bool.not_true, Bool.not_false, Bool.false_eq_true, if_false, if_true, ne_eq, not_true, not_false_eq_true]
              exact fin _
          · simp only [f74, t74, Tr.val_test, Tr.val_fin, eqF_eq, h0, h1, h2, h3, h4, decide_true, decide_false, Bool.not_true, Bool.not_false, Bool.false_eq_true, if_false, if_true, ne_eq, not_true, not_false_eq_true]
            exact fin _
        · simp only [f74, t74, Tr.val_test, Tr.val_fin, eqF_eq, h0, h1, h2, h3, decide_true, decide_false, Bool.not_true, Bool.not_false, Bool.false_eq_true, if_false, if_true, ne_eq, not_true, not_false_eq_true]
          exact fin _
      · simp only [f74, t74, Tr.val_test, Tr.val_fin, eqF_eq, h0, h1, h2, decide_true, decide_false, Bool.not_true, Bool.not_false, Bool.false_eq_true, if_false, if_true, ne_eq, not_true, not_false_eq_true]
        exact fin _
    · simp only [f74, t74, Tr.val_test, Tr.val_fin, eqF_eq, h0, h1, decide_true, decide_false, Bool.not_true, Bool.not_false, Bool.false_eq_true, if_false, if_true, ne_eq, not_true, not_false_eq_true]
      exact fin _
  · simp only [f74, t74, Tr.val_test, Tr.val_fin, eqF_eq, h0, decide_true, decide_false, Bool.not_true, Bool.not_false, Bool.false_eq_true, if_false, if_true, ne_eq, not_true, not_false_eq_true]
    exact fin _

/-- An equation without another one. -/
def W (x y : E7) : E7 := (((f74 (x, y, ())).getD (zero7, ())).1)

theorem W_eq (x y : E7) (h : ld y < 7) : f74 (x, y, ()) = some (W x y, ()) ∧ Rg (W x y) ∧ gt (W x y) (ld y) = 0 ∧ (∀ i, gt x i = 0 → gt y i = 0 → gt (W x y) i = 0) ∧ (x = y → W x y = zero7) ∧ (x = zero7 → W x y = zero7) := by
  have hr : Rg (cmb x y (gt y (ld y)) (gt x (ld y))) := fun i => by
    by_cases hi : i < 7
    · rw [cmb, gt_mk7 _ hi]; exact wrap64R _
    · rw [gt_big _ (by omega)]; decide
  obtain ⟨z, h1, h2, h3⟩ := f82_eq _ hr
  have hW : W x y = z := by unfold W; rw [f74_raw x y h, h1]; rfl
  have w0 : wrap64 0 = 0 := rfl
  have hz : ∀ i, i < 7 → wrap64 (gt x i * gt y (ld y)) = wrap64 (gt y i * gt x (ld y)) → gt z i = 0 := fun i hi e => h3 i (by rw [cmb, gt_mk7 _ hi, e, Int.sub_self, w0])
  have hall : (∀ i, i < 7 → wrap64 (gt x i * gt y (ld y)) = wrap64 (gt y i * gt x (ld y))) → z = zero7 := fun he => ext7 fun i hi => by rw [hz i hi (he i hi), zero7, gt_mk7 _ hi]
  rw [hW]
  refine ⟨by rw [f74_raw x y h, h1], h2, hz _ h (by rw [Int.mul_comm]), fun i e1 e2 => ?_, fun e => ?_, fun e => ?_⟩
  · by_cases hi : i < 7
    · exact hz i hi (by rw [e1, e2, Int.zero_mul, Int.zero_mul])
    · exact gt_big _ (by omega)
  · subst e; exact hall fun i _ => rfl
  · subst e
    refine hall fun i hi => ?_
    rw [show gt zero7 i = 0 from gt_mk7 _ hi, show gt zero7 (ld y) = 0 from gt_mk7 _ h, Int.zero_mul, Int.mul_zero]
def rst (s : List E7) (x : E7) : Nat → E7
  | 0 => x
  | i + 1 => W (rst s x i) (s.getD i (0, 0, 0, 0, 0, 0, 0, ()))

theorem l53 (s : List E7) (x : E7) (h : s.length ≤ 1000000) (hs : ∀ i, i < s.length → ld (s.getD i (0, 0, 0, 0, 0, 0, 0, ())) < 7) :
    l53_0 ((s, (s.length : Int), (0 : Int), ()), x, ((0 : Int), (0 : Int), (0 : Int), (0 : Int), (0 : Int), (0 : Int), (0 : Int), ()), ()) = some (.inl ((), rst s x s.length, ((0 : Int), (0 : Int), (0 : Int), (0 : Int), (0 : Int), (0 : Int), (0 : Int), ()), ())) := by
  refine itr_brk (fun i => ((s, (s.length : Int), (i : Int), ()), rst s x i, ((0 : Int), (0 : Int), (0 : Int), (0 : Int), (0 : Int), (0 : Int), (0 : Int), ()), ())) (n := s.length) ?_ ?_ (lt_rounds (by omega))
  · intro i hi
    have e1 := (W_eq (rst s x i) (s.getD i (0, 0, 0, 0, 0, 0, 0, ())) (hs i hi)).1
    have hr : rst s x (i + 1) = W (rst s x i) (s.getD i (0, 0, 0, 0, 0, 0, 0, ())) := rfl
    rw [hr]
    generalize rst s x i = X at *
    generalize hY : s.getD i (0, 0, 0, 0, 0, 0, 0, ()) = Y at *
    have e1' : f74 ((X.1, X.2.1, X.2.2.1, X.2.2.2.1, X.2.2.2.2.1, X.2.2.2.2.2.1, X.2.2.2.2.2.2.1, ()), (Y.1, Y.2.1, Y.2.2.1, Y.2.2.2.1, Y.2.2.2.2.1, Y.2.2.2.2.2.1, Y.2.2.2.2.2.2.1, ()), ()) = some (W X Y, ()) := e1
    have e4 : wrap64 ((i : Int) + 1) = ((i + 1 : Nat) : Int) := wrap64_nat (by omega)
    simp only [s53_0, t53_0, Tr.val_test, Tr.val_fin, leF_eq, Int.toNat_natCast, hY, g74, e1', e4, Option.isSome_some, Option.getD_some, if_true]
    rw [if_pos (by simp; omega), if_pos (by simp; omega)]
  · simp [s53_0, t53_0, leF_eq]

theorem f53_eq (s : List E7) (x : E7) (h : s.length ≤ 1000000) (hs : ∀ i, i < s.length → ld (s.getD i (0, 0, 0, 0, 0, 0, 0, ())) < 7) : f53 (s, x, ()) = some (rst s x s.length, ()) := by
  have hl : l53_0 ((s, (s.length : Int), (0 : Int), ()), (x.1, x.2.1, x.2.2.1, x.2.2.2.1, x.2.2.2.2.1, x.2.2.2.2.2.1, x.2.2.2.2.2.2.1, ()), ((0 : Int), (0 : Int), (0 : Int), (0 : Int), (0 : Int), (0 : Int), (0 : Int), ()), ()) = some (.inl ((), rst s x s.length, ((0 : Int), (0 : Int), (0 : Int), (0 : Int), (0 : Int), (0 : Int), (0 : Int), ()), ())) := l53 s x h hs
  simp only [f53, t53, b53_0, hl, Tr.val_test, Tr.val_fin, isBrk, outB, if_true]

def eqn (j : Jk) : E7 := (j.1.1, j.1.2.1, j.1.2.2.1, j.1.2.2.2.1, j.1.2.2.2.2.1, j.1.2.2.2.2.2.1, 0, ())

def jAt (J : List Jk) (i : Nat) : Jk := J.getD i ((0, 0, 0, 0, 0, 0, ()), (0, 0, ()), ())

def sys (J : List Jk) : Nat → List E7
  | 0 => []
  | i + 1 => if ld (rst (sys J i) (eqn (jAt J i)) (sys J i).length) = 7 then sys J i else sys J i ++ [rst (sys J i) (eqn (jAt J i)) (sys J i).length]

def sAt (s : List E7) (i : Nat) : E7 := s.getD i (0, 0, 0, 0, 0, 0, 0, ())

/-- Leads ahead of the extension, each 0 in what comes later. -/
structure Ech (s : List E7) : Prop where
  ld : ∀ i, i < s.length → ld (sAt s i) < 6
  six : ∀ i, i < s.length → gt (sAt s i) 6 = 0
  later : ∀ i j, i < j → j < s.length → gt (sAt s j) (Mo.ld (sAt s i)) = 0

theorem rst_facts {s : List E7} (hs : Ech s) {x : E7} (hx : gt x 6 = 0) : ∀ i, i ≤ s.length → gt (rst s x i) 6 = 0 ∧ ∀ j, j < i → gt (rst s x i) (ld (sAt s j)) = 0
  | 0, _ => ⟨hx, fun j hj => by omega⟩
  | i + 1, hi => by
    obtain ⟨h1, h2⟩ := rst_facts hs hx i (by omega)
    obtain ⟨_, _, w3, w4, _, _⟩ := W_eq (rst s x i) (sAt s i) (by have := hs.ld i (by omega); omega)
    refine ⟨w4 6 h1 (hs.six i (by omega)), fun j hj => ?_⟩
    rcases Nat.lt_or_eq_of_le (Nat.le_of_lt_succ hj) with hlt | rfl
    · exact w4 _ (h2 j hlt) (hs.later j i hlt (by omega))
    · exact w3

theorem rst_zero {s : List E7} (hs : Ech s) {x : E7} {k : Nat} (hk : k ≤ s.length) (h : rst s x k = zero7) : ∀ m, k + m ≤ s.length → rst s x (k + m) = zero7
  | 0, _ => h
  | m + 1, hm => by
    obtain ⟨_, _, _, _, _, w6⟩ := W_eq (rst s x (k + m)) (sAt s (k + m)) (by have := hs.ld (k + m) (by omega); omega)
    exact w6 (rst_zero hs hk h m (by omega))

theorem sAt_append_lt {s : List E7} {y : E7} {i : Nat} (h : i < s.length) : sAt (s ++ [y]) i = sAt s i := by
  simp only [sAt, List.getD_eq_getElem?_getD, List.getElem?_append_left h]

theorem sAt_append_eq (s : List E7) (y : E7) : sAt (s ++ [y]) s.length = y := by
  simp [sAt, List.getD_eq_getElem?_getD]

theorem ld_six {x : E7} (h : gt x 6 = 0) (h7 : ld x ≠ 7) : ld x < 6 := by
  obtain ⟨_, h2, h3⟩ := ld_spec x
  have h6 : ld x ≠ 6 := fun e => h2 (by omega) (by rw [e]; exact h)
  omega

theorem ech_snoc {s : List E7} (hs : Ech s) {x : E7} (hx : gt x 6 = 0) (h7 : ld (rst s x s.length) ≠ 7) : Ech (s ++ [rst s x s.length]) := by
  obtain ⟨h1, h2⟩ := rst_facts hs hx s.length (Nat.le_refl _)
  refine ⟨fun i hi => ?_, fun i hi => ?_, fun i j hij hj => ?_⟩
  · by_cases hl : i < s.length
    · rw [sAt_append_lt hl]; exact hs.ld i hl
    · simp only [List.length_append, List.length_cons, List.length_nil] at hi
      rw [show i = s.length by omega, sAt_append_eq]
      exact ld_six h1 h7
  · by_cases hl : i < s.length
    · rw [sAt_append_lt hl]; exact hs.six i hl
    · simp only [List.length_append, List.length_cons, List.length_nil] at hi
      rw [show i = s.length by omega, sAt_append_eq]
      exact h1
  · simp only [List.length_append, List.length_cons, List.length_nil] at hj
    rw [sAt_append_lt (show i < s.length by omega)]
    by_cases hl : j < s.length
    · rw [sAt_append_lt hl]; exact hs.later i j hij hl
    · rw [show j = s.length by omega, sAt_append_eq]
      exact h2 i (by omega)

theorem sys_ech (J : List Jk) : ∀ i, Ech (sys J i)
  | 0 => ⟨fun i hi => by simp [sys] at hi, fun i hi => by simp [sys] at hi, fun i j _ hj => by simp [sys] at hj⟩
  | i + 1 => by
    have ih := sys_ech J i
    simp only [sys]
    split
    · exact ih
    · rename_i h; exact ech_snoc ih rfl h

theorem sys_len (J : List Jk) (i : Nat) : (sys J (i + 1)).length = (sys J i).length ∨ (sys J (i + 1)).length = (sys J i).length + 1 := by
  simp only [sys]
  split
  · exact .inl rfl
  · exact .inr (by simp)

theorem sys_le (J : List Jk) : ∀ i, (sys J i).length ≤ i
  | 0 => by simp [sys]
  | i + 1 => by have := sys_le J i; have := sys_len J i; omega

theorem zero_test (x : E7) : (x.1 == 0 && (x.2.1 == 0 && (x.2.2.1 == 0 && (x.2.2.2.1 == 0 && (x.2.2.2.2.1 == 0 && (x.2.2.2.2.2.1 == 0 && (x.2.2.2.2.2.2.1 == 0 && true))))))) = decide (ld x = 7) := by
  obtain ⟨a, b, c, d, e, f, g, _⟩ := x
  simp only [ld, gt]
  by_cases h0 : a = 0
  · by_cases h1 : b = 0
    · by_cases h2 : c = 0
      · by_cases h3 : d = 0
        · by_cases h4 : e = 0
          · by_cases h5 : f = 0
            · by_cases h6 : g = 0 <;> simp [h0, h1, h2, h3, h4, h5, h6]
            · simp [h0, h1, h2, h3, h4, h5]
          · simp [h0, h1, h2, h3, h4]
        · simp [h0, h1, h2, h3]
      · simp [h0, h1, h2]
    · simp [h0, h1]
  · simp [h0]

theorem getD8 {α : Type} (z : α) : ∀ i : Nat, i < 8 → List.getD [z, z, z, z, z, z, z, z] (0 + i * 1) z = z
  | 0, _ => rfl
  | 1, _ => rfl
  | 2, _ => rfl
  | 3, _ => rfl
  | 4, _ => rfl
  | 5, _ => rfl
  | 6, _ => rfl
  | 7, _ => rfl

theorem l37 (J : List Jk) (h : J.length ≤ 8) :
    l37_2 (([], J, (J.length : Int), (0 : Int), ()), ((0 : Int), (0 : Int), (0 : Int), (0 : Int), (0 : Int), (0 : Int), (0 : Int), (0 : Int), ()), (false, false, false, false, false, false, false, false, ()), ()) =
      some (.inl ((sys J J.length, ()), ((0 : Int), (0 : Int), (0 : Int), (0 : Int), (0 : Int), (0 : Int), (0 : Int), (0 : Int), ()), (false, false, false, false, false, false, false, false, ()), ())) := by
  refine itr_brk (fun i => ((sys J i, J, (J.length : Int), (i : Int), ()), ((0 : Int), (0 : Int), (0 : Int), (0 : Int), (0 : Int), (0 : Int), (0 : Int), (0 : Int), ()), (false, false, false, false, false, false, false, false, ()), ())) (n := J.length) ?_ ?_ (lt_rounds (by omega))
  · intro i hi
    have hE := sys_ech J i
    have hlen := sys_le J i
    have e53 := f53_eq (sys J i) (eqn (jAt J i)) (by omega) fun k hk => by have := hE.ld k hk; simp only [sAt] at this; omega
    obtain ⟨r6, _⟩ := rst_facts hE (x := eqn (jAt J i)) rfl (sys J i).length (Nat.le_refl _)
    have hsys : sys J (i + 1) = if ld (rst (sys J i) (eqn (jAt J i)) (sys J i).length) = 7 then sys J i else sys J i ++ [rst (sys J i) (eqn (jAt J i)) (sys J i).length] := rfl
    rw [hsys]
    have h0 : List.getD [(0 : Int), 0, 0, 0, 0, 0, 0, 0] (0 + i * 1) 0 = 0 := getD8 0 i (by omega)
    have hf : List.getD [false, false, false, false, false, false, false, false] (0 + i * 1) false = false := getD8 false i (by omega)
    have hb : Nat.ble (0 + i * 1 + 1) 8 = true := by rw [ble_eq_true']; omega
    have e4 : wrap64 ((i : Int) + 1) = ((i + 1 : Nat) : Int) := wrap64_nat (by omega)
    have hj : J.getD i ((0, 0, 0, 0, 0, 0, ()), (0, 0, ()), ()) = jAt J i := rfl
    have e54 : f54 (((jAt J i).1.1, (jAt J i).1.2.1, (jAt J i).1.2.2.1, (jAt J i).1.2.2.2.1, (jAt J i).1.2.2.2.2.1, (jAt J i).1.2.2.2.2.2.1, ()), (0 : Int), ()) = some (eqn (jAt J i), ()) := rfl
    generalize eqn (jAt J i) = x at *
    generalize hY : rst (sys J i) x (sys J i).length = Y at *
    generalize sys J i = s at *
    have e53' : f53 (s, (x.1, x.2.1, x.2.2.1, x.2.2.2.1, x.2.2.2.2.1, x.2.2.2.2.2.1, x.2.2.2.2.2.2.1, ()), ()) = some (Y, ()) := e53
    have e55 : f55 ((Y.1, Y.2.1, Y.2.2.1, Y.2.2.2.1, Y.2.2.2.2.1, Y.2.2.2.2.2.1, Y.2.2.2.2.2.2.1, ()), ()) = some ((ld Y : Int), ()) := f55_eq Y
    have n6 : decide ((ld Y : Int) = 6) = false := decide_eq_false fun e => by
      have e' : ld Y = 6 := by omega
      exact (ld_spec Y).2.1 (by omega) (by rw [e']; exact r6)
    have hz := zero_test Y
    have u1 : (decide ((0 : Int) ≤ (i : Int)) && decide ((i : Int) < 8)) = true := by simp; omega
    have u2 : (Nat.ble ((2 * (s.length + 1) + 192) * 56) 281474976710656 && Nat.ble (s.length + 1) 281474976710656) = true := by rw [Bool.and_eq_true, ble_eq_true', ble_eq_true']; omega
    simp only [s37_2, t37_2, Tr.val_test, Tr.val_fin, leF_eq, eqF_eq, Int.toNat_natCast, hj, h0, hf, hb, u1, g54, e54, g53, e53', g55, e55, n6, hz, u2, e4, Option.isSome_some, Option.getD_some, Bool.false_eq_true, if_true, if_false]
    rw [if_pos (by simp; omega), if_pos (by simp; omega)]
    by_cases h7 : ld Y = 7
    · simp only [h7, decide_true, Bool.not_true, Bool.false_eq_true, if_false, if_true]
    · rw [decide_eq_false h7, if_neg h7]
      simp only [Bool.not_false, if_true]
  · simp [s37_2, t37_2, leF_eq]

theorem f24_eq (J : List Jk) (L : Lm) (h : J.length ≤ 8) : f24 (((J, L, ()), ()), ()) = some (((sys J J.length).length : Int), ()) := by
  simp only [f24, t24, l37 J h, Tr.val_test, Tr.val_fin, isRet, b37_2, outB, Option.isSome_some, if_true, Bool.false_eq_true, if_false]

/-! The rank. -/

theorem jAt_append {J K : List Jk} {i : Nat} (h : i < J.length) : jAt (J ++ K) i = jAt J i := by
  simp only [jAt, List.getD_eq_getElem?_getD, List.getElem?_append_left h]

theorem sys_append (J K : List Jk) : ∀ i, i ≤ J.length → sys (J ++ K) i = sys J i
  | 0, _ => rfl
  | i + 1, hi => by simp only [sys, sys_append J K i (by omega), jAt_append (K := K) (show i < J.length by omega)]

theorem rst_congr {s t : List E7} {x : E7} : ∀ i, (∀ j, j < i → sAt s j = sAt t j) → rst s x i = rst t x i
  | 0, _ => rfl
  | i + 1, h => by
    simp only [rst]
    rw [rst_congr i fun j hj => h j (by omega)]
    have := h i (by omega)
    simp only [sAt] at this
    rw [this]

theorem sys_mono (J : List Jk) (i : Nat) : ∀ m, ∃ t, sys J (i + m) = sys J i ++ t
  | 0 => ⟨[], by simp⟩
  | m + 1 => by
    obtain ⟨t, ht⟩ := sys_mono J i m
    rw [show i + (m + 1) = i + m + 1 from rfl]
    simp only [sys]
    split
    · exact ⟨t, ht⟩
    · exact ⟨t ++ [rst (sys J (i + m)) (eqn (jAt J (i + m))) (sys J (i + m)).length], by rw [ht, List.append_assoc]⟩

theorem sAt_append_lt' {s t : List E7} {i : Nat} (h : i < s.length) : sAt (s ++ t) i = sAt s i := by
  simp only [sAt, List.getD_eq_getElem?_getD, List.getElem?_append_left h]

/-- One more of the same direction says nothing new. -/
theorem sys_again (J : List Jk) {k : Nat} (hk : k < J.length) {j : Jk} (hj : j = jAt J k) : (sys (J ++ [j]) (J.length + 1)).length = (sys J J.length).length := by
  have hs := sys_append J [j] J.length (Nat.le_refl _)
  have hjj : jAt (J ++ [j]) J.length = j := by simp [jAt, List.getD_eq_getElem?_getD]
  simp only [sys, hs, hjj]
  have hE := sys_ech J J.length
  obtain ⟨t, ht⟩ := sys_mono J k (J.length - k)
  rw [show k + (J.length - k) = J.length by omega] at ht
  have hEk := sys_ech J k
  have hle : (sys J k).length ≤ (sys J J.length).length := by rw [ht]; simp
  have hpre : rst (sys J J.length) (eqn j) (sys J k).length = rst (sys J k) (eqn j) (sys J k).length := rst_congr _ fun i hi => by rw [ht]; exact sAt_append_lt' hi
  have hz : rst (sys J J.length) (eqn j) (sys J J.length).length = zero7 := by
    by_cases h7 : ld (rst (sys J k) (eqn (jAt J k)) (sys J k).length) = 7
    · have h0 : rst (sys J J.length) (eqn j) (sys J k).length = zero7 := by rw [hpre, hj]; exact ld_zero h7
      have := rst_zero hE hle h0 ((sys J J.length).length - (sys J k).length) (by omega)
      rwa [show (sys J k).length + ((sys J J.length).length - (sys J k).length) = (sys J J.length).length by omega] at this
    · obtain ⟨t2, ht2⟩ := sys_mono J (k + 1) (J.length - (k + 1))
      rw [show k + 1 + (J.length - (k + 1)) = J.length by omega] at ht2
      have hk1 : sys J (k + 1) = sys J k ++ [rst (sys J k) (eqn (jAt J k)) (sys J k).length] := by simp only [sys]; rw [if_neg h7]
      have hlt : (sys J k).length < (sys J J.length).length := by rw [ht2, hk1]; simp
      have hat : sAt (sys J J.length) (sys J k).length = rst (sys J k) (eqn (jAt J k)) (sys J k).length := by
        rw [ht2, sAt_append_lt' (by rw [hk1]; simp), hk1, sAt_append_eq]
      have h0 : rst (sys J J.length) (eqn j) ((sys J k).length + 1) = zero7 := by
        obtain ⟨_, _, _, _, w5, _⟩ := W_eq (rst (sys J J.length) (eqn j) (sys J k).length) (sAt (sys J J.length) (sys J k).length) (by have := hE.ld _ hlt; omega)
        refine w5 ?_
        rw [hat, hpre, hj]
      have := rst_zero hE (by omega) h0 ((sys J J.length).length - ((sys J k).length + 1)) (by omega)
      rwa [show (sys J k).length + 1 + ((sys J J.length).length - ((sys J k).length + 1)) = (sys J J.length).length by omega] at this
  have h7 : ld zero7 = 7 := rfl
  rw [hz, if_pos h7]

/-- Different numbers below n are at most n. -/
theorem pigeon : ∀ (n : Nat) (l : List Nat), l.Nodup → (∀ x ∈ l, x < n) → l.length ≤ n
  | 0, l, _, h => by
    cases l with
    | nil => simp
    | cons a l => exact absurd (h a (by simp)) (by omega)
  | n + 1, l, hd, h => by
    by_cases hm : n ∈ l
    · have h1 := List.length_erase_of_mem hm
      have h2 := pigeon n (l.erase n) (hd.erase n) fun x hx => by
        have := h x (List.mem_of_mem_erase hx)
        have hne : x ≠ n := fun e => by subst e; exact hd.not_mem_erase hx
        omega
      have := List.length_pos_of_mem hm
      omega
    · have := pigeon n l hd fun x hx => by
        have := h x hx
        have hne : x ≠ n := fun e => by subst e; exact hm hx
        omega
      omega

theorem ech_six {s : List E7} (hs : Ech s) : s.length ≤ 6 := by
  have := pigeon 6 ((List.range s.length).map fun i => ld (sAt s i)) ?_ ?_
  · simpa using this
  · rw [List.nodup_iff_pairwise_ne, List.pairwise_map]
    refine List.Pairwise.imp_of_mem (R := (· < ·)) (fun {a b} ha hb hab => ?_) List.pairwise_lt_range
    have hb' := List.mem_range.1 hb
    intro e
    have h1 := hs.later a b hab hb'
    have h2 := (ld_spec (sAt s b)).2.1 (by have := hs.ld b hb'; omega)
    rw [e] at h1
    exact h2 h1
  · intro x hx
    obtain ⟨i, hi, rfl⟩ := List.mem_map.1 hx
    exact hs.ld i (List.mem_range.1 hi)
theorem first_map (bad : Nat → Bool) : ∀ (n i : Nat), first bad n (i + 1) = (first (fun k => bad (k + 1)) n i).map (· + 1)
  | 0, _ => rfl
  | n + 1, i => by
    simp only [first]
    split
    · rfl
    · exact first_map bad n (i + 1)

/-- The first that is not 0. -/
def firstNZ : List Int → Int
  | [] => 0
  | a :: l => if a = 0 then firstNZ l else a

theorem firstNZ_eq : ∀ l : List Int, (match first (fun i => !decide (l.getD i 0 = 0)) l.length 0 with
    | some k => l.getD k 0
    | none => 0) = firstNZ l
  | [] => rfl
  | a :: l => by
    simp only [List.length, first, firstNZ]
    by_cases ha : a = 0
    · subst ha
      have e := firstNZ_eq l
      have hf : first (fun i => !decide (((0 : Int) :: l).getD i 0 = 0)) l.length (0 + 1) = (first (fun i => !decide (l.getD i 0 = 0)) l.length 0).map (· + 1) := by
        rw [first_map]; rfl
      simp only [hf, List.getD_cons_zero, decide_true, Bool.not_true, Bool.false_eq_true, if_false, if_true]
      rw [← e]
      cases first (fun i => !decide (l.getD i 0 = 0)) l.length 0 with
      | none => rfl
      | some k => rfl
    · simp [ha]

theorem l25 (l : List Int) (h : l.length ≤ 1000000000) : l25_0 ((l, (l.length : Int), (0 : Int), ()), ()) = match first (fun i => !decide (l.getD i 0 = 0)) l.length 0 with
    | some k => some (.inr ((l.getD k 0, ()), ()))
    | none => some (.inl ((), ())) := by
  refine itr_search (fun i => ((l, (l.length : Int), (i : Int), ()), ())) (fun i => !decide (l.getD i 0 = 0)) (fun k => ((l.getD k 0, ()), ())) (n := l.length) ?_ ?_ (lt_rounds (by omega))
  · intro i hi
    simp only [s25_0, t25_0, Tr.val_test, leF_eq, eqF_eq]
    rw [if_pos (by simp; omega), if_pos (by simp; omega)]
    simp only [Int.toNat_natCast, wrap64_nat (show i ≤ 9223372036854775806 by omega)]
    rfl
  · simp [s25_0, t25_0, leF_eq]

theorem f25_eq (l : List Int) (h : l.length ≤ 1000000000) : f25 (l, ()) = some (firstNZ l, ()) := by
  simp only [f25, t25, Tr.val_test, r25_0, l25 l h, ← firstNZ_eq l]
  cases first (fun i => !decide (l.getD i 0 = 0)) l.length 0 with
  | none => rfl
  | some k => rfl

theorem f30_eq (d : Tys.data as30) : f30 d = some (if d.1 = true then d.2.1 else (0 : Int), ()) := by
  simp only [f30, t30, Tr.val_test]
  split <;> rfl

theorem f10_eq (d : Tys.data as10) : f10 d = some (decide ((d.2.1 : Int) ≤ d.1) && decide ((d.1 : Int) ≤ d.2.2.1), ()) := by
  simp only [f10, t10, Tr.val_test, leF_eq, decide_eq_true_eq]
  split <;> simp [*]

def wi (lo hi x : Int) : Bool := decide (lo ≤ x) && decide (x ≤ hi)

theorem wi_iff {lo hi x : Int} : wi lo hi x = true ↔ lo ≤ x ∧ x ≤ hi := by simp [wi]

def szB (j : Jk) : Bool := wi (-2) 2 j.1.1 && (wi (-2) 2 j.1.2.1 && (wi (-2) 2 j.1.2.2.1 && (wi (-2) 2 j.1.2.2.2.1 && (wi (-2) 2 j.1.2.2.2.2.1 && wi (-2) 2 j.1.2.2.2.2.2.1))))

theorem f45_eq (j : Jk) : f45 ((j.1.1, j.1.2.1, j.1.2.2.1, j.1.2.2.2.1, j.1.2.2.2.2.1, j.1.2.2.2.2.2.1, ()), (2 : Int), ()) = some (szB j, ()) := by
  have w : IntKind.wrap .i64 (0 - 2) = -2 := by decide
  have q : ∀ x : Int, f10 (x, (-2 : Int), (2 : Int), ()) = some (wi (-2) 2 x, ()) := fun x => f10_eq _
  simp only [f45, t45, g10, w, q j.1.1, q j.1.2.1, q j.1.2.2.1, q j.1.2.2.2.1, q j.1.2.2.2.2.1, q j.1.2.2.2.2.2.1, Option.isSome_some, Option.getD_some, Tr.val_test, Tr.val_fin, if_true, szB]
  by_cases a0 : wi (-2) 2 j.1.1 = true
  · by_cases a1 : wi (-2) 2 j.1.2.1 = true
    · by_cases a2 : wi (-2) 2 j.1.2.2.1 = true
      · by_cases a3 : wi (-2) 2 j.1.2.2.2.1 = true
        · by_cases a4 : wi (-2) 2 j.1.2.2.2.2.1 = true
          · by_cases a5 : wi (-2) 2 j.1.2.2.2.2.2.1 = true
            · simp [a0, a1, a2, a3, a4, a5]
            · simp [a0, a1, a2, a3, a4, a5]
          · simp [a0, a1, a2, a3, a4]
        · simp [a0, a1, a2, a3]
      · simp [a0, a1, a2]
    · simp [a0, a1]
  · simp [a0]

def zrB (j : Jk) : Bool := j.1.1 == 0 && (j.1.2.1 == 0 && (j.1.2.2.1 == 0 && (j.1.2.2.2.1 == 0 && (j.1.2.2.2.2.1 == 0 && (j.1.2.2.2.2.2.1 == 0 && true)))))

/-- What is wrong with a jack. -/
def jE (j : Jk) : Int := if szB j = false then 2 else if wi (-200) 200 j.2.1.1 = false then 2 else if wi (-200) 200 j.2.1.2.1 = false then 2 else if ¬ (j.2.1.1 ≤ j.2.1.2.1) then 9 else if zrB j = true then 11 else 0

theorem l22 (J : List Jk) (b : Tys.data [.int .i64, .int .i64, .int .i64, .int .i64, .int .i64, .int .i64, .int .i64, .int .i64, .int .i64, .int .i64, .int .i64, .int .i64]) (h : J.length ≤ 8) :
    l22_0 (((0 : Int), ()), (J, b), ()) = match first (fun i => !decide (jE (jAt J i) = 0)) J.length 0 with
      | some k => some (.inr (((k : Int), jE (jAt J k), ()), (J, b), ()))
      | none => some (.inl ((), (J, b), ())) := by
  refine itr_search (fun i => (((i : Int), ()), (J, b), ())) (fun i => !decide (jE (jAt J i) = 0)) (fun k => (((k : Int), jE (jAt J k), ()), (J, b), ())) (n := J.length) ?_ ?_ (lt_rounds (by omega))
  · intro i hi
    have e4 : wrap64 ((i : Int) + 1) = ((i + 1 : Nat) : Int) := wrap64_nat (by omega)
    have hj : J.getD i ((0, 0, 0, 0, 0, 0, ()), (0, 0, ()), ()) = jAt J i := rfl
    simp only [s22_0, t22_0, Tr.val_test, Tr.val_fin, leF_eq, Int.toNat_natCast, hj]
    rw [if_pos (by simp; omega), if_pos (by simp; omega)]
    generalize jAt J i = j
    have e45 := f45_eq j
    have w1 : f10 (j.2.1.1, (-200 : Int), (200 : Int), ()) = some (wi (-200) 200 j.2.1.1, ()) := f10_eq _
    have w2 : f10 (j.2.1.2.1, (-200 : Int), (200 : Int), ()) = some (wi (-200) 200 j.2.1.2.1, ()) := f10_eq _
    have hz : (j.1.1 == 0 && (j.1.2.1 == 0 && (j.1.2.2.1 == 0 && (j.1.2.2.2.1 == 0 && (j.1.2.2.2.2.1 == 0 && (j.1.2.2.2.2.2.1 == 0 && true)))))) = zrB j := rfl
    simp only [g45, e45, g10, w1, w2, hz, Option.isSome_some, Option.getD_some, Tr.val_test, Tr.val_fin, if_true, e4, jE]
    by_cases a0 : szB j = true
    · by_cases a1 : wi (-200) 200 j.2.1.1 = true
      · by_cases a2 : wi (-200) 200 j.2.1.2.1 = true
        · by_cases a3 : j.2.1.1 ≤ j.2.1.2.1
          · by_cases a4 : zrB j = true
            · simp [a0, a1, a2, a3, a4]
            · simp [a0, a1, a2, a3, a4]
          · simp [a0, a1, a2, a3]
        · simp [a0, a1, a2]
      · simp [a0, a1]
    · simp [a0]
  · simp [s22_0, t22_0, leF_eq]

def rE (lo hi : Int) : Int := if wi (-1000) 1000 lo = false then 2 else if wi (-1000) 1000 hi = false then 2 else if ¬ (lo ≤ hi) then 9 else 0

theorem f46_eq (lo hi : Int) : f46 ((lo, hi, ()), ()) = some (rE lo hi, ()) := by
  have w1 : f10 (lo, (-1000 : Int), (1000 : Int), ()) = some (wi (-1000) 1000 lo, ()) := f10_eq _
  have w2 : f10 (hi, (-1000 : Int), (1000 : Int), ()) = some (wi (-1000) 1000 hi, ()) := f10_eq _
  simp only [f46, t46, g10, w1, w2, Option.isSome_some, Option.getD_some, Tr.val_test, Tr.val_fin, leF_eq, if_true, rE]
  by_cases a1 : wi (-1000) 1000 lo = true
  · by_cases a2 : wi (-1000) 1000 hi = true
    · by_cases a3 : lo ≤ hi
      · simp [a1, a2, a3]
      · simp [a1, a2, a3]
    · simp [a1, a2]
  · simp [a1]

def lE (L : Lm) : Int := firstNZ [rE L.1.1 L.1.2.1, rE L.2.1.1 L.2.1.2.1, rE L.2.2.1.1 L.2.2.1.2.1, rE L.2.2.2.1.1 L.2.2.2.1.2.1, rE L.2.2.2.2.1.1 L.2.2.2.2.1.2.1, rE L.2.2.2.2.2.1.1 L.2.2.2.2.2.1.2.1]

def rigE (J : List Jk) (L : Lm) : Int := if J.length = 0 then 10 else if 8 < J.length then 8 else match first (fun i => !decide (jE (jAt J i) = 0)) J.length 0 with
  | some k => jE (jAt J k)
  | none => lE L

theorem f7_eq (J : List Jk) (L : Lm) : f7 ((J, L, ()), ()) = some (rigE J L, ()) := by
  have h22 : ∃ k : Int, f22 ((J, L, ()), ()) = some (k, rigE J L, ()) := by
    unfold rigE
    by_cases h0 : J.length = 0
    · refine ⟨0, ?_⟩
      simp only [f22, t22, Tr.val_test, Tr.val_fin, leF_eq, eqF_eq]
      rw [if_pos (by simp [h0]), if_pos h0]
    by_cases h8 : 8 < J.length
    · refine ⟨0, ?_⟩
      have n0 : decide ((J.length : Int) = 0) = false := decide_eq_false (by omega)
      have n8 : decide ((J.length : Int) ≤ 8) = false := decide_eq_false (by omega)
      simp only [f22, t22, Tr.val_test, Tr.val_fin, leF_eq, eqF_eq, n0, n8, Bool.false_eq_true, if_false, Bool.not_false, if_true]
      rw [if_neg h0, if_pos h8]
    have hl := l22 J (L.1.1, L.1.2.1, L.2.1.1, L.2.1.2.1, L.2.2.1.1, L.2.2.1.2.1, L.2.2.2.1.1, L.2.2.2.1.2.1, L.2.2.2.2.1.1, L.2.2.2.2.1.2.1, L.2.2.2.2.2.1.1, L.2.2.2.2.2.1.2.1, ()) (by omega)
    rw [if_neg h0, if_neg h8]
    have n0 : decide ((J.length : Int) = 0) = false := decide_eq_false (by omega)
    have n8 : decide ((J.length : Int) ≤ 8) = true := decide_eq_true (by omega)
    cases hf : first (fun i => !decide (jE (jAt J i) = 0)) J.length 0 with
    | some k =>
      rw [hf] at hl
      refine ⟨k, ?_⟩
      simp only [f22, t22, Tr.val_test, Tr.val_fin, leF_eq, eqF_eq, hl, isRet, r22_0, outR, Option.isSome_some, if_true, n0, n8, Bool.false_eq_true, if_false, Bool.not_true]
    | none =>
      rw [hf] at hl
      simp only [f22, t22, Tr.val_test, Tr.val_fin, leF_eq, eqF_eq, n0, n8, Bool.not_true, hl, isRet, b22_0, outB, Option.isSome_some, Option.getD_some, if_true, Bool.false_eq_true, if_false, g46, f46_eq L.1.1 L.1.2.1, f46_eq L.2.1.1 L.2.1.2.1, f46_eq L.2.2.1.1 L.2.2.1.2.1, f46_eq L.2.2.2.1.1 L.2.2.2.1.2.1, f46_eq L.2.2.2.2.1.1 L.2.2.2.2.1.2.1, f46_eq L.2.2.2.2.2.1.1 L.2.2.2.2.2.1.2.1, lE, firstNZ]
      by_cases c0 : rE L.1.1 L.1.2.1 = 0
      · by_cases c1 : rE L.2.1.1 L.2.1.2.1 = 0
        · by_cases c2 : rE L.2.2.1.1 L.2.2.1.2.1 = 0
          · by_cases c3 : rE L.2.2.2.1.1 L.2.2.2.1.2.1 = 0
            · by_cases c4 : rE L.2.2.2.2.1.1 L.2.2.2.2.1.2.1 = 0
              · by_cases c5 : rE L.2.2.2.2.2.1.1 L.2.2.2.2.2.1.2.1 = 0
                · exact ⟨0, by simp [c0, c1, c2, c3, c4, c5]⟩
                · exact ⟨5, by simp [c0, c1, c2, c3, c4, c5]⟩
              · exact ⟨4, by simp [c0, c1, c2, c3, c4]⟩
            · exact ⟨3, by simp [c0, c1, c2, c3]⟩
          · exact ⟨2, by simp [c0, c1, c2]⟩
        · exact ⟨1, by simp [c0, c1]⟩
      · exact ⟨0, by simp [c0]⟩
  obtain ⟨k, e⟩ := h22
  have e' : f22 ((J, ((L.1.1, L.1.2.1, ()), (L.2.1.1, L.2.1.2.1, ()), (L.2.2.1.1, L.2.2.1.2.1, ()), (L.2.2.2.1.1, L.2.2.2.1.2.1, ()), (L.2.2.2.2.1.1, L.2.2.2.2.1.2.1, ()), (L.2.2.2.2.2.1.1, L.2.2.2.2.2.1.2.1, ()), ()), ()), ()) = some (k, rigE J L, ()) := e
  simp only [f7, t7, g22, e', Option.isSome_some, Option.getD_some, Tr.val_test, Tr.val_fin, if_true]

structure VR (J : List Jk) (L : Lm) : Prop where
  one : 1 ≤ J.length
  eight : J.length ≤ 8
  jacks : ∀ i, i < J.length → jE (jAt J i) = 0
  lim : lE L = 0

theorem VR.of {J : List Jk} {L : Lm} (h : rigE J L = 0) : VR J L := by
  unfold rigE at h
  split at h
  · cases h
  · split at h
    · cases h
    · rename_i h0 h8
      cases hf : first (fun i => !decide (jE (jAt J i) = 0)) J.length 0 with
      | some k =>
        rw [hf] at h
        have := (first_some hf).2.2.1
        simp [h] at this
      | none =>
        rw [hf] at h
        exact ⟨by omega, by omega, fun i hi => by have := first_none hf i (Nat.zero_le _) (by omega); simpa using this, h⟩
theorem l28 (x : Int) (l : List Int) (h : l.length ≤ 1000000000) : l28_0 ((x, l, (l.length : Int), (0 : Int), ()), ()) = match first (fun i => !wi (IntKind.wrap .i64 (0 - x)) x (l.getD i 0)) l.length 0 with
    | some _ => some (.inr ((true, ()), ()))
    | none => some (.inl ((), ())) := by
  refine itr_search (fun i => ((x, l, (l.length : Int), (i : Int), ()), ())) (fun i => !wi (IntKind.wrap .i64 (0 - x)) x (l.getD i 0)) (fun _ => ((true, ()), ())) (n := l.length) ?_ ?_ (lt_rounds (by omega))
  · intro i hi
    simp only [s28_0, t28_0, Tr.val_test, Tr.val_fin, leF_eq, Int.toNat_natCast, wrap64_nat (show i ≤ 9223372036854775806 by omega)]
    rw [if_pos (by simp; omega), if_pos (by simp; omega)]
    by_cases a0 : IntKind.wrap .i64 (0 - x) ≤ l.getD i 0
    · by_cases a1 : l.getD i 0 ≤ x
      · simp only [wi, a0, a1, decide_true, Bool.and_self, Bool.not_true, if_true, if_false, Bool.false_eq_true]
      · simp only [wi, a0, a1, decide_true, decide_false, Bool.and_false, Bool.not_false, Bool.not_true, if_true, if_false, Bool.false_eq_true]
    · simp only [wi, a0, decide_false, Bool.false_and, Bool.not_false, if_true, if_false, Bool.false_eq_true]
  · simp [s28_0, t28_0, leF_eq]

theorem f28_ok (x : Int) (l : List Int) (h : l.length ≤ 1000000000) (hb : ∀ i, i < l.length → wi (IntKind.wrap .i64 (0 - x)) x (l.getD i 0) = true) : f28 (x, l, ()) = some (false, ()) := by
  have hf : first (fun i => !wi (IntKind.wrap .i64 (0 - x)) x (l.getD i 0)) l.length 0 = none := first_of_none fun i _ hi => by
    have := hb i (by omega)
    simp only [this, Bool.not_true]
  have hl := l28 x l h
  rw [hf] at hl
  simp only [f28, t28, Tr.val_test, Tr.val_fin, hl, isRet, Option.isSome_some, if_true, Bool.false_eq_true, if_false]

theorem jE_zero {j : Jk} (h : jE j = 0) : szB j = true ∧ wi (-200) 200 j.2.1.1 = true ∧ wi (-200) 200 j.2.1.2.1 = true ∧ j.2.1.1 ≤ j.2.1.2.1 ∧ zrB j = false := by
  unfold jE at h
  split at h
  · cases h
  · split at h
    · cases h
    · split at h
      · cases h
      · split at h
        · cases h
        · split at h
          · cases h
          · rename_i a b c d e
            exact ⟨by simpa using a, by simpa using b, by simpa using c, by simpa using d, by simpa using e⟩

theorem f69_ok (x lo hi : Int) (h1 : wi (IntKind.wrap .i64 (0 - x)) x lo = true) (h2 : wi (IntKind.wrap .i64 (0 - x)) x hi = true) (h3 : lo ≤ hi) : f69 (x, (lo, hi, ()), ()) = some ((0 : Int), ()) := by
  have e28 := f28_ok x [lo, hi] (by simp) fun i hi' => by
    match i, hi' with
    | 0, _ => exact h1
    | 1, _ => exact h2
  have e25 : f25 ([(0 : Int), 0], ()) = some ((0 : Int), ()) := f25_eq _ (by simp)
  have n : decide (lo ≤ hi) = true := decide_eq_true h3
  simp only [f69, t69, g28, e28, g30, f30_eq, leF_eq, n, Bool.not_true, Bool.false_eq_true, if_false, g25, e25, Option.isSome_some, Option.getD_some, Tr.val_test, Tr.val_fin, if_true]

theorem f68_ok (i : Int) {j : Jk} (h : jE j = 0) : f68 (i, j, ()) = some ((0 : Int), ()) := by
  obtain ⟨h1, h2, h3, h4, h5⟩ := jE_zero h
  simp only [szB, Bool.and_eq_true] at h1
  obtain ⟨a0, a1, a2, a3, a4, a5⟩ := h1
  have w : IntKind.wrap .i64 (0 - 2) = -2 := by decide
  have w2 : IntKind.wrap .i64 (0 - 200) = -200 := by decide
  have e28 := f28_ok 2 [j.1.1, j.1.2.1, j.1.2.2.1, j.1.2.2.2.1, j.1.2.2.2.2.1, j.1.2.2.2.2.2.1] (by simp) fun i hi => by
    rw [w]
    match i, hi with
    | 0, _ => exact a0
    | 1, _ => exact a1
    | 2, _ => exact a2
    | 3, _ => exact a3
    | 4, _ => exact a4
    | 5, _ => exact a5
  have e69 := f69_ok 200 j.2.1.1 j.2.1.2.1 (by rw [w2]; exact h2) (by rw [w2]; exact h3) h4
  have e25 : f25 ([(0 : Int), 0, 0], ()) = some ((0 : Int), ()) := f25_eq _ (by simp)
  have hz : (j.1.1 == 0 && (j.1.2.1 == 0 && (j.1.2.2.1 == 0 && (j.1.2.2.2.1 == 0 && (j.1.2.2.2.2.1 == 0 && (j.1.2.2.2.2.2.1 == 0 && true)))))) = false := h5
  simp only [f68, t68, g28, e28, g30, f30_eq, g69, e69, hz, Bool.false_eq_true, if_false, g25, e25, Option.isSome_some, Option.getD_some, Tr.val_test, Tr.val_fin, if_true]

theorem l67 (J : List Jk) (h : J.length ≤ 8) (hj : ∀ i, i < J.length → jE (jAt J i) = 0) : l67_0 ((J, (J.length : Int), (0 : Int), ()), ()) = some (.inl ((), ())) := by
  refine itr_brk (fun i => ((J, (J.length : Int), (i : Int), ()), ())) (n := J.length) ?_ ?_ (lt_rounds (by omega))
  · intro i hi
    have e4 : wrap64 ((i : Int) + 1) = ((i + 1 : Nat) : Int) := wrap64_nat (by omega)
    have hjj : J.getD i ((0, 0, 0, 0, 0, 0, ()), (0, 0, ()), ()) = jAt J i := rfl
    have e68 := f68_ok (i : Int) (hj i hi)
    generalize jAt J i = j at *
    have e68' : f68 ((i : Int), ((j.1.1, j.1.2.1, j.1.2.2.1, j.1.2.2.2.1, j.1.2.2.2.2.1, j.1.2.2.2.2.2.1, ()), (j.2.1.1, j.2.1.2.1, ()), ()), ()) = some ((0 : Int), ()) := e68
    simp only [s67_0, t67_0, Tr.val_test, Tr.val_fin, leF_eq, eqF_eq, Int.toNat_natCast, hjj, g68, e68', e4, Option.isSome_some, Option.getD_some, if_true, decide_true, Bool.not_true, Bool.false_eq_true, if_false]
    rw [if_pos (by simp; omega), if_pos (by simp; omega)]
  · simp [s67_0, t67_0, leF_eq]

theorem rE_zero {lo hi : Int} (h : rE lo hi = 0) : wi (-1000) 1000 lo = true ∧ wi (-1000) 1000 hi = true ∧ lo ≤ hi := by
  unfold rE at h
  split at h
  · cases h
  · split at h
    · cases h
    · split at h
      · cases h
      · rename_i a b c
        exact ⟨by simpa using a, by simpa using b, by simpa using c⟩

theorem f81_ok (i : Int) {lo hi : Int} (h : rE lo hi = 0) : f81 (i, (lo, hi, ()), ()) = some ((0 : Int), ()) := by
  obtain ⟨h1, h2, h3⟩ := rE_zero h
  have w : IntKind.wrap .i64 (0 - 1000) = -1000 := by decide
  have e := f69_ok 1000 lo hi (by rw [w]; exact h1) (by rw [w]; exact h2) h3
  simp only [f81, t81, g69, e, Option.isSome_some, Option.getD_some, Tr.val_test, Tr.val_fin, if_true]

theorem lE_zero {L : Lm} (h : lE L = 0) : rE L.1.1 L.1.2.1 = 0 ∧ rE L.2.1.1 L.2.1.2.1 = 0 ∧ rE L.2.2.1.1 L.2.2.1.2.1 = 0 ∧ rE L.2.2.2.1.1 L.2.2.2.1.2.1 = 0 ∧ rE L.2.2.2.2.1.1 L.2.2.2.2.1.2.1 = 0 ∧ rE L.2.2.2.2.2.1.1 L.2.2.2.2.2.1.2.1 = 0 := by
  unfold lE at h
  simp only [firstNZ] at h
  split at h
  · split at h
    · split at h
      · split at h
        · split at h
          · split at h
            · exact ⟨‹_›, ‹_›, ‹_›, ‹_›, ‹_›, ‹_›⟩
            · exact absurd h ‹_›
          · exact absurd h ‹_›
        · exact absurd h ‹_›
      · exact absurd h ‹_›
    · exact absurd h ‹_›
  · exact absurd h ‹_›

theorem f47_ok {J : List Jk} {L : Lm} (h : VR J L) : f47 ((J, L, ()), ()) = some ((0 : Int), (0 : Int), ()) := by
  obtain ⟨r0, r1, r2, r3, r4, r5⟩ := lE_zero h.lim
  have one := h.one
  have eight := h.eight
  have n0 : decide ((J.length : Int) = 0) = false := decide_eq_false (by omega)
  have n8 : decide ((J.length : Int) ≤ 8) = true := decide_eq_true (by omega)
  have e25 : f25 ([(0 : Int), 0], ()) = some ((0 : Int), ()) := f25_eq _ (by simp)
  have e59 : f59 ((J.length : Int), (8 : Int), ()) = some ((0 : Int), ()) := by
    simp only [f59, t59, g30, f30_eq, eqF_eq, leF_eq, n0, n8, Bool.not_true, Bool.false_eq_true, if_false, g25, e25, Option.isSome_some, Option.getD_some, Tr.val_test, Tr.val_fin, if_true]
  have e70 : f70 (((L.1.1, L.1.2.1, ()), (L.2.1.1, L.2.1.2.1, ()), (L.2.2.1.1, L.2.2.1.2.1, ()), (L.2.2.2.1.1, L.2.2.2.1.2.1, ()), (L.2.2.2.2.1.1, L.2.2.2.2.1.2.1, ()), (L.2.2.2.2.2.1.1, L.2.2.2.2.2.1.2.1, ()), ()), ()) = some ((0 : Int), (0 : Int), ()) := by
    simp only [f70, t70, g81, f81_ok 0 r0, f81_ok 1 r1, f81_ok 2 r2, f81_ok 3 r3, f81_ok 4 r4, f81_ok 5 r5, eqF_eq, decide_true, Bool.not_true, Bool.false_eq_true, if_false, Option.isSome_some, Option.getD_some, Tr.val_test, Tr.val_fin, if_true]
  have e67 := l67 J eight h.jacks
  simp only [f47, t47, g59, e59, e67, isRet, g70, e70, eqF_eq, decide_true, Bool.not_true, Bool.false_eq_true, if_false, Option.isSome_some, Option.getD_some, Tr.val_test, Tr.val_fin, if_true]

theorem f8_ok {J : List Jk} {L : Lm} (h : VR J L) : f8 ((J, L, ()), ()) = some (((sys J J.length).length : Int), (0 : Int), ()) := by
  have e47 := f47_ok h
  have e23 : f23 ((J, L, ()), ()) = some (((J, L, ()), ()), (0 : Int), ()) := by
    have e47' : f47 ((J, ((L.1.1, L.1.2.1, ()), (L.2.1.1, L.2.1.2.1, ()), (L.2.2.1.1, L.2.2.1.2.1, ()), (L.2.2.2.1.1, L.2.2.2.1.2.1, ()), (L.2.2.2.2.1.1, L.2.2.2.2.1.2.1, ()), (L.2.2.2.2.2.1.1, L.2.2.2.2.2.1.2.1, ()), ()), ()), ()) = some ((0 : Int), (0 : Int), ()) := e47
    simp only [f23, t23, g47, e47', eqF_eq, decide_true, Bool.not_true, Bool.false_eq_true, if_false, Option.isSome_some, Option.getD_some, Tr.val_test, Tr.val_fin, if_true]
  have e23' : f23 ((J, ((L.1.1, L.1.2.1, ()), (L.2.1.1, L.2.1.2.1, ()), (L.2.2.1.1, L.2.2.1.2.1, ()), (L.2.2.2.1.1, L.2.2.2.1.2.1, ()), (L.2.2.2.2.1.1, L.2.2.2.2.1.2.1, ()), (L.2.2.2.2.2.1.1, L.2.2.2.2.2.1.2.1, ()), ()), ()), ()) = some (((J, L, ()), ()), (0 : Int), ()) := e23
  have e24 := f24_eq J L h.eight
  have e24' : f24 (((J, ((L.1.1, L.1.2.1, ()), (L.2.1.1, L.2.1.2.1, ()), (L.2.2.1.1, L.2.2.1.2.1, ()), (L.2.2.2.1.1, L.2.2.2.1.2.1, ()), (L.2.2.2.2.1.1, L.2.2.2.2.1.2.1, ()), (L.2.2.2.2.2.1.1, L.2.2.2.2.2.1.2.1, ()), ()), ()), ()), ()) = some (((sys J J.length).length : Int), ()) := e24
  simp only [f8, t8, g23, e23', g24, e24', eqF_eq, decide_true, Bool.not_true, Bool.false_eq_true, if_false, Option.isSome_some, Option.getD_some, Tr.val_test, Tr.val_fin, if_true]

theorem ld_of_jE {j : Jk} (h : jE j = 0) : ld (eqn j) ≠ 7 := by
  obtain ⟨_, _, _, _, h5⟩ := jE_zero h
  intro e
  have h6 := zero_test (eqn j)
  rw [e, decide_eq_true rfl] at h6
  simp only [eqn, Bool.and_eq_true] at h6
  obtain ⟨a, b, c, d, e, f, _⟩ := h6
  simp [zrB, a, b, c, d, e, f] at h5

theorem sys_one {J : List Jk} (h : 1 ≤ J.length) (hj : jE (jAt J 0) = 0) : 1 ≤ (sys J J.length).length := by
  obtain ⟨t, ht⟩ := sys_mono J 1 (J.length - 1)
  rw [show 1 + (J.length - 1) = J.length by omega] at ht
  have h1 : sys J 1 = [eqn (jAt J 0)] := by
    have : ld (rst [] (eqn (jAt J 0)) 0) ≠ 7 := ld_of_jE hj
    show (if ld (rst [] (eqn (jAt J 0)) 0) = 7 then [] else [] ++ [rst [] (eqn (jAt J 0)) 0]) = _
    rw [if_neg this]
    rfl
  rw [ht, h1]
  simp
theorem f9_nat (k : Int) (n : Nat) (hn : 1 ≤ n) (hm : n ≤ 1000000000) : ∃ m : Nat, m < n ∧ f9 (k, (n : Int), ()) = some ((m : Int), ()) := by
  have h2 : Int.tmod k n < n := Int.tmod_lt_of_pos k (by omega)
  have h1 : -(n : Int) < Int.tmod k n := Int.lt_tmod_of_pos k (by omega)
  have hne : ((n : Int) == (0 : Int)) = false := by simp; omega
  simp only [f9, t9, Tr.val_test, Tr.val_fin, hne, Bool.false_eq_true, if_false, leF_eq]
  by_cases c : (0 : Int) ≤ Int.tmod k n
  · refine ⟨(Int.tmod k n).toNat, by omega, ?_⟩
    simp only [c, decide_true, Bool.not_true, Bool.false_eq_true, if_false, Int.toNat_of_nonneg c]
  · refine ⟨(Int.tmod k n + n).toNat, by omega, ?_⟩
    have : wrap64 (Int.tmod k n + n) = Int.tmod k n + n := wrap64_id (by omega) (by omega)
    simp only [c, decide_false, Bool.not_false, if_true, this]
    rw [Int.toNat_of_nonneg (by omega)]

theorem f6_eq (J : List Jk) (L : Lm) : f6 ((J, L, ()), ()) = some (decide ((J.length : Int) ≤ 10), ()) := by
  simp only [f6, t6, Tr.val_fin, leF_eq]

theorem rigE_big {J : List Jk} {L : Lm} (h : 8 < J.length) : rigE J L ≠ 0 := by
  unfold rigE
  rw [if_neg (by omega), if_pos h]
  decide

theorem sys_snoc_len {J : List Jk} (j : Jk) : (sys (J ++ [j]) (J ++ [j]).length).length = (sys J J.length).length ∨ (sys (J ++ [j]) (J ++ [j]).length).length = (sys J J.length).length + 1 := by
  have e : sys (J ++ [j]) J.length = sys J J.length := sys_append J [j] J.length (Nat.le_refl _)
  have := sys_len (J ++ [j]) J.length
  rw [e] at this
  simpa using this

theorem sys_same_len {J : List Jk} {k : Nat} (hk : k < J.length) : (sys (J ++ [jAt J k]) (J ++ [jAt J k]).length).length = (sys J J.length).length := by
  have := sys_again J hk (j := jAt J k) rfl
  simpa using this

theorem f3_eq (J : List Jk) (L : Lm) (j : Jk) (k : Int) (hJ : J.length ≤ 1000000000) : f3 ((J, L, ()), j, k, ()) = some (true, ()) := by
  have e6 : ∀ K : List Jk, f6 ((K, ((L.1.1, L.1.2.1, ()), (L.2.1.1, L.2.1.2.1, ()), (L.2.2.1.1, L.2.2.1.2.1, ()), (L.2.2.2.1.1, L.2.2.2.1.2.1, ()), (L.2.2.2.2.1.1, L.2.2.2.2.1.2.1, ()), (L.2.2.2.2.2.1.1, L.2.2.2.2.2.1.2.1, ()), ()), ()), ()) = some (decide ((K.length : Int) ≤ 10), ()) := fun K => f6_eq K L
  have e7 : ∀ K : List Jk, f7 ((K, ((L.1.1, L.1.2.1, ()), (L.2.1.1, L.2.1.2.1, ()), (L.2.2.1.1, L.2.2.1.2.1, ()), (L.2.2.2.1.1, L.2.2.2.1.2.1, ()), (L.2.2.2.2.1.1, L.2.2.2.2.1.2.1, ()), (L.2.2.2.2.2.1.1, L.2.2.2.2.2.1.2.1, ()), ()), ()), ()) = some (rigE K L, ()) := fun K => f7_eq K L
  have e8 : ∀ K : List Jk, VR K L → f8 ((K, ((L.1.1, L.1.2.1, ()), (L.2.1.1, L.2.1.2.1, ()), (L.2.2.1.1, L.2.2.1.2.1, ()), (L.2.2.2.1.1, L.2.2.2.1.2.1, ()), (L.2.2.2.2.1.1, L.2.2.2.2.1.2.1, ()), (L.2.2.2.2.2.1.1, L.2.2.2.2.2.1.2.1, ()), ()), ()), ()) = some (((sys K K.length).length : Int), (0 : Int), ()) := fun K h => f8_ok h
  by_cases hJ0 : J = []
  · subst hJ0
    have k0 : Nat.beq ([] : List Jk).length 0 = true := rfl
    have k1 : decide (((([] : List Jk).length : Nat) : Int) ≤ 10) = true := by decide
    have k2 : decide (rigE [] L = 0) = false := by
      have : rigE [] L = 10 := rfl
      rw [this]; decide
    simp only [f3, t3, k0, g6, e6, k1, g7, e7, k2, Option.isSome_some, Option.getD_some, Tr.val_test, Tr.val_fin, if_true, Bool.not_false, Bool.not_true, Bool.false_eq_true, if_false, leF_eq, eqF_eq, decide_true, List.nil_append]
  · have h0 : J.length ≠ 0 := fun e => hJ0 (List.eq_nil_of_length_eq_zero e)
    have v1 : Nat.beq J.length 0 = false := by
      cases hh : Nat.beq J.length 0 with
      | false => rfl
      | true => exact absurd (Nat.eq_of_beq_eq_true hh) h0
    have v2 : Nat.ble (0 + J.length) 0 = false := by
      cases hh : Nat.ble (0 + J.length) 0 with
      | false => rfl
      | true => have := Nat.le_of_ble_eq_true hh; omega
    have v3 : (Nat.ble ((2 * (0 + J.length) + 192) * 64) 281474976710656 && Nat.ble (0 + J.length) 281474976710656) = true := by
      rw [Bool.and_eq_true, ble_eq_true', ble_eq_true']; omega
    have v4 : (Nat.ble ((2 * (0 + J.length + 1) + 192) * 64) 281474976710656 && Nat.ble (0 + J.length + 1) 281474976710656) = true := by
      rw [Bool.and_eq_true, ble_eq_true', ble_eq_true']; omega
    have v5 : Nat.beq (0 + J.length) J.length = true := by
      rw [beq_eq_true']; omega
    have v6 : ∀ y : Jk, Nat.beq (0 + J.length + 1) (J ++ [y]).length = true := fun y => by
      rw [beq_eq_true']; simp
    have v7 : Nat.beq (0 + J.length + 1) 0 = false := rfl
    have v8 : Nat.ble (0 + (0 + J.length + 1)) 0 = false := by
      cases hh : Nat.ble (0 + (0 + J.length + 1)) 0 with
      | false => rfl
      | true => have := Nat.le_of_ble_eq_true hh; omega
    have v9 : (Nat.ble ((2 * (0 + (0 + J.length + 1)) + 192) * 64) 281474976710656 && Nat.ble (0 + (0 + J.length + 1)) 281474976710656) = true := by
      rw [Bool.and_eq_true, ble_eq_true', ble_eq_true']; omega
    have v10 : ∀ y : Jk, Nat.beq (0 + (0 + J.length + 1)) (J ++ [y]).length = true := fun y => by
      rw [beq_eq_true']; simp
    by_cases few : (J.length : Int) ≤ 10
    · by_cases hr : rigE J L = 0
      · by_cases hm : rigE (J ++ [((j.1.1, j.1.2.1, j.1.2.2.1, j.1.2.2.2.1, j.1.2.2.2.2.1, j.1.2.2.2.2.2.1, ()), (j.2.1.1, j.2.1.2.1, ()), ())]) L = 0
        · have VJ := VR.of hr
          have VM := VR.of hm
          obtain ⟨m, hmn, e9⟩ := f9_nat k J.length VJ.one (by omega)
          have VS : VR (J ++ [(((List.getD J m ((0, 0, 0, 0, 0, 0, ()), (0, 0, ()), ())).1.1, (List.getD J m ((0, 0, 0, 0, 0, 0, ()), (0, 0, ()), ())).1.2.1, (List.getD J m ((0, 0, 0, 0, 0, 0, ()), (0, 0, ()), ())).1.2.2.1, (List.getD J m ((0, 0, 0, 0, 0, 0, ()), (0, 0, ()), ())).1.2.2.2.1, (List.getD J m ((0, 0, 0, 0, 0, 0, ()), (0, 0, ()), ())).1.2.2.2.2.1, (List.getD J m ((0, 0, 0, 0, 0, 0, ()), (0, 0, ()), ())).1.2.2.2.2.2.1, ()), ((List.getD J m ((0, 0, 0, 0, 0, 0, ()), (0, 0, ()), ())).2.1.1, (List.getD J m ((0, 0, 0, 0, 0, 0, ()), (0, 0, ()), ())).2.1.2.1, ()), ())]) L := by
            refine ⟨by simp, by have := VM.eight; simp at this ⊢; omega, ?_, VJ.lim⟩
            intro i hi
            by_cases hi' : i < J.length
            · rw [jAt_append hi']; exact VJ.jacks i hi'
            · have : i = J.length := by simp at hi; omega
              subst this
              have : jAt (J ++ [(((List.getD J m ((0, 0, 0, 0, 0, 0, ()), (0, 0, ()), ())).1.1, (List.getD J m ((0, 0, 0, 0, 0, 0, ()), (0, 0, ()), ())).1.2.1, (List.getD J m ((0, 0, 0, 0, 0, 0, ()), (0, 0, ()), ())).1.2.2.1, (List.getD J m ((0, 0, 0, 0, 0, 0, ()), (0, 0, ()), ())).1.2.2.2.1, (List.getD J m ((0, 0, 0, 0, 0, 0, ()), (0, 0, ()), ())).1.2.2.2.2.1, (List.getD J m ((0, 0, 0, 0, 0, 0, ()), (0, 0, ()), ())).1.2.2.2.2.2.1, ()), ((List.getD J m ((0, 0, 0, 0, 0, 0, ()), (0, 0, ()), ())).2.1.1, (List.getD J m ((0, 0, 0, 0, 0, 0, ()), (0, 0, ()), ())).2.1.2.1, ()), ())]) J.length = jAt J m := by
                simp [jAt]
              rw [this]; exact VJ.jacks m hmn
          have a8 := e8 _ VJ
          have b8 := e8 _ VM
          have c8 := e8 _ VS
          have hc : (sys (J ++ [(((List.getD J m ((0, 0, 0, 0, 0, 0, ()), (0, 0, ()), ())).1.1, (List.getD J m ((0, 0, 0, 0, 0, 0, ()), (0, 0, ()), ())).1.2.1, (List.getD J m ((0, 0, 0, 0, 0, 0, ()), (0, 0, ()), ())).1.2.2.1, (List.getD J m ((0, 0, 0, 0, 0, 0, ()), (0, 0, ()), ())).1.2.2.2.1, (List.getD J m ((0, 0, 0, 0, 0, 0, ()), (0, 0, ()), ())).1.2.2.2.2.1, (List.getD J m ((0, 0, 0, 0, 0, 0, ()), (0, 0, ()), ())).1.2.2.2.2.2.1, ()), ((List.getD J m ((0, 0, 0, 0, 0, 0, ()), (0, 0, ()), ())).2.1.1, (List.getD J m ((0, 0, 0, 0, 0, 0, ()), (0, 0, ()), ())).2.1.2.1, ()), ())]) (J ++ [(((List.getD J m ((0, 0, 0, 0, 0, 0, ()), (0, 0, ()), ())).1.1, (List.getD J m ((0, 0, 0, 0, 0, 0, ()), (0, 0, ()), ())).1.2.1, (List.getD J m ((0, 0, 0, 0, 0, 0, ()), (0, 0, ()), ())).1.2.2.1, (List.getD J m ((0, 0, 0, 0, 0, 0, ()), (0, 0, ()), ())).1.2.2.2.1, (List.getD J m ((0, 0, 0, 0, 0, 0, ()), (0, 0, ()), ())).1.2.2.2.2.1, (List.getD J m ((0, 0, 0, 0, 0, 0, ()), (0, 0, ()), ())).1.2.2.2.2.2.1, ()), ((List.getD J m ((0, 0, 0, 0, 0, 0, ()), (0, 0, ()), ())).2.1.1, (List.getD J m ((0, 0, 0, 0, 0, 0, ()), (0, 0, ()), ())).2.1.2.1, ()), ())]).length).length = (sys J J.length).length := sys_same_len hmn
          have hb := sys_snoc_len (J := J) ((j.1.1, j.1.2.1, j.1.2.2.1, j.1.2.2.2.1, j.1.2.2.2.2.1, j.1.2.2.2.2.2.1, ()), (j.2.1.1, j.2.1.2.1, ()), ())
          have ha1 := sys_one VJ.one (VJ.jacks 0 VJ.one)
          have ha2 := ech_six (sys_ech J J.length)
          have ha3 := sys_le J J.length
          have w1 : (decide ((0 : Int) ≤ (m : Int)) && decide ((m : Int) < (J.length : Int))) = true := by simp; omega
          have w2 : (decide ((1 : Int) ≤ ((sys J J.length).length : Int)) && decide (((sys J J.length).length : Int) ≤ if (J.length : Int) < 6 then (J.length : Int) else 6)) = true := by
            rw [Bool.and_eq_true, decide_eq_true_iff, decide_eq_true_iff]
            refine ⟨by omega, ?_⟩
            split <;> omega
          rw [hc] at c8
          generalize (sys J J.length).length = a at *
          rcases hb with hb | hb
          · rw [hb] at b8
            simp only [f3, t3, v1, v2, v3, v4, v5, v6, v7, v8, v9, v10, g6, e6, few, g7, e7, hr, hm, g8, a8, b8, c8, g9, e9, w1, g10, f10_eq, w2, Int.toNat_natCast, Option.isSome_some, Option.getD_some, Tr.val_test, Tr.val_fin, if_true, Bool.not_false, Bool.not_true, Bool.false_eq_true, if_false, leF_eq, eqF_eq, decide_true, List.nil_append]
          · rw [hb] at b8
            have w3 : decide (((a + 1 : Nat) : Int) = (a : Int)) = false := decide_eq_false (by omega)
            have w4 : wrap64 ((a : Int) + 1) = ((a + 1 : Nat) : Int) := wrap64_nat (by omega)
            simp only [f3, t3, v1, v2, v3, v4, v5, v6, v7, v8, v9, v10, g6, e6, few, g7, e7, hr, hm, g8, a8, b8, c8, g9, e9, w1, w3, w4, g10, f10_eq, w2, Int.toNat_natCast, Option.isSome_some, Option.getD_some, Tr.val_test, Tr.val_fin, if_true, Bool.not_false, Bool.not_true, Bool.false_eq_true, if_false, leF_eq, eqF_eq, decide_true, List.nil_append]
        · have z : decide (rigE (J ++ [((j.1.1, j.1.2.1, j.1.2.2.1, j.1.2.2.2.1, j.1.2.2.2.2.1, j.1.2.2.2.2.2.1, ()), (j.2.1.1, j.2.1.2.1, ()), ())]) L = 0) = false := decide_eq_false hm
          simp only [f3, t3, v1, v2, v3, v4, v5, v6, g6, e6, few, g7, e7, hr, z, Option.isSome_some, Option.getD_some, Tr.val_test, Tr.val_fin, if_true, Bool.not_false, Bool.not_true, Bool.false_eq_true, if_false, leF_eq, eqF_eq, decide_true, List.nil_append]
      · have z : decide (rigE J L = 0) = false := decide_eq_false hr
        simp only [f3, t3, v1, v2, v3, v4, v5, v6, g6, e6, few, g7, e7, z, Option.isSome_some, Option.getD_some, Tr.val_test, Tr.val_fin, if_true, Bool.not_false, Bool.not_true, Bool.false_eq_true, if_false, leF_eq, eqF_eq, decide_true, List.nil_append]
    · have z : decide ((J.length : Int) ≤ 10) = false := decide_eq_false few
      simp only [f3, t3, v1, v2, v3, v4, v5, v6, g6, e6, z, Option.isSome_some, Option.getD_some, Tr.val_test, Tr.val_fin, if_true, Bool.not_false, Bool.not_true, Bool.false_eq_true, if_false, leF_eq, eqF_eq, decide_true, List.nil_append]

theorem law3 (d : Tys.data as3) (hd : (show List Jk from d.1.1).length ≤ 1048576) : Pure1 Go.Proofs.Try.prog 3 as3 [.bool] d (true, ()) := by
  have h := f3_eq d.1.1 d.1.2.1 d.2.1 d.2.2.1 (Nat.le_trans hd (by decide))
  have hp : p3.pre d = true := by
    show Option.isSome (f3 d) = true
    rw [show f3 d = some (true, ()) from h]; rfl
  have hg : p3.fn d = (true, ()) := by
    show (f3 d).getD _ = _
    rw [show f3 d = some (true, ()) from h]; rfl
  have := ok3.runs d hp
  rw [hg] at this
  exact this

end Go.Vm.Mo
