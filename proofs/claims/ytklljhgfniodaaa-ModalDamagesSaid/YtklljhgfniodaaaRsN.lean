import Derived.Test.YtklljhgfniodaaaRsM
set_option linter.unusedVariables false
set_option linter.unusedSimpArgs false

namespace Go.Vm.Mo
open Go
set_option linter.unusedVariables false
set_option linter.unusedSimpArgs false

/-- The enclosure of a mode. -/
def encP (m k : List Int) (den : Int) (i : Nat) : Rg := (g54 (((m, (k, ())), ()), ((i : Int), (den, ())))).1

theorem encP_eq {m k : List Int} (hf : St.Fr m k) {den : Int} (h0 : 0 < den) (h : den ≤ 50) {i : Nat} (hi : i < k.length) :
    f54 (((m, (k, ())), ()), ((i : Int), (den, ()))) = some ((encP m k den i), ()) ∧ f22 ((m, (k, ())), ((i : Int), (den, ()))) = some ((encP m k den i), ()) := by
  obtain ⟨a, b, h1, h2⟩ := enc_same hf h0 h hi
  have e : encP m k den i = (a, (b, ())) := by
    unfold encP g54
    rw [h1]; rfl
  rw [e]
  exact ⟨h1, h2⟩

def failB (m k : List Int) (den : Int) (R : List Rg) (i : Nat) : Bool := !meetB (encP m k den i) (rAt R i)

/-- The first mode that isn't explained. -/
def flm (m k : List Int) (den : Int) (R : List Rg) : Option Nat := first (failB m k den R) R.length 0

theorem l104_eq {m k : List Int} (hf : St.Fr m k) {den : Int} (h0 : 0 < den) (h : den ≤ 50) {R : List Rg} (hR : R.length = k.length) :
    l104_0_1 ((R, ((R.length : Int), ((0 : Int), ()))), ((m, (k, ())), ((den, (R, ())), ()))) = match flm m k den R with
      | some i => some (.inr (((i : Int), ((19 : Int), ())), ((m, (k, ())), ((den, (R, ())), ()))))
      | none => some (.inl ((), ((m, (k, ())), ((den, (R, ())), ())))) := by
  have h4 := hf.top
  refine itr_search (step := s104_0_1) (fun i => ((R, ((R.length : Int), ((i : Int), ()))), ((m, (k, ())), ((den, (R, ())), ())))) (failB m k den R) (fun i => (((i : Int), ((19 : Int), ())), ((m, (k, ())), ((den, (R, ())), ())))) (n := R.length) ?_ ?_ (lt_rounds (by omega))
  · intro i hi
    have e := (encP_eq hf h0 h (i := i) (by omega)).1
    have e2 := f74_one (encP m k den i) (rAt R i)
    have c0 : (!leF (R.length : Int) (i : Int)) = true := by rw [leF_eq]; simp; omega
    have c1 : (decide ((0 : Int) ≤ (i : Int)) && decide ((i : Int) < (R.length : Int))) = true := by simp; omega
    have n19 : (!eqF (19 : Int) 0) = true := by rw [eqF_eq]; rfl
    have n0 := n_zero
    simp only [rAt] at e2
    simp only [s104_0_1, t104_0_1, Tr.val_test, Tr.val_fin, Tr.val_stop, c0, c1, Int.toNat_natCast, g54, e, g74, e2, g52, Option.isSome_some, Option.getD_some, ↓reduceIte, wrap64_nat (show i ≤ 9223372036854775806 by omega), failB, rAt]
    rcases Bool.eq_false_or_eq_true (meetB (encP m k den i) (R.getD i ((0 : Int), (0 : Int), ()))) with h1 | h1
    · simp only [h1, Bool.not_true, f52_eq (false, ((19 : Int), ())), n0, Bool.false_eq_true, Option.isSome_some, Option.getD_some, ↓reduceIte]
    · simp only [h1, Bool.not_false, f52_eq (true, ((19 : Int), ())), n19, Option.isSome_some, Option.getD_some, ↓reduceIte]
  · have c0 : (!leF (R.length : Int) (R.length : Int)) = false := by rw [leF_eq]; simp
    simp only [s104_0_1, t104_0_1, Tr.val_test, Tr.val_fin, Tr.val_stop, c0, Bool.false_eq_true, ↓reduceIte]

/-- The mode and the error. -/
def pf (m k : List Int) (den : Int) (R : List Rg) : Int × Int := match flm m k den R with
  | some i => ((i : Int), 19)
  | none => (0, 0)

theorem f70_all {m k : List Int} (hf : St.Fr m k) {den : Int} (h0 : 0 < den) (h : den ≤ 50) {R : List Rg} (hR : R.length = k.length) :
    f70 (((m, (k, ())), ()), ((den, (R, ())), ())) = some ((pf m k den R).1, ((pf m k den R).2, ())) := by
  have e := l104_eq hf h0 h hR
  unfold pf
  cases hc : flm m k den R with
  | some i =>
    rw [hc] at e
    simp only [f70, t70, e, isRet, r104_0_1, outR, Option.isSome_some, Tr.val_test, Tr.val_fin, Tr.val_stop, ↓reduceIte]
  | none =>
    rw [hc] at e
    simp only [f70, t70, e, isRet, Bool.false_eq_true, Option.isSome_some, Tr.val_test, Tr.val_fin, Tr.val_stop, ↓reduceIte]

theorem l38_eq {m k : List Int} (hf : St.Fr m k) {den : Int} (h0 : 0 < den) (h : den ≤ 50) {R : List Rg} (hR : R.length = k.length) :
    l38_0 (((0 : Int), ()), ((m, (k, ())), ((den, (R, ())), ()))) = match flm m k den R with
      | some i => some (.inr (((i : Int), ()), ((m, (k, ())), ((den, (R, ())), ()))))
      | none => some (.inl ((), ((m, (k, ())), ((den, (R, ())), ())))) := by
  have h4 := hf.top
  have hl := hf.len
  refine itr_search (step := s38_0) (fun i => (((i : Int), ()), ((m, (k, ())), ((den, (R, ())), ())))) (failB m k den R) (fun i => (((i : Int), ()), ((m, (k, ())), ((den, (R, ())), ())))) (n := R.length) ?_ ?_ (lt_rounds (by omega))
  · intro i hi
    have e := (encP_eq hf h0 h (i := i) (by omega)).2
    have e2 := f71_eq (encP m k den i) (rAt R i)
    have c0 : (!leF (m.length : Int) (i : Int)) = true := by rw [leF_eq]; simp; omega
    have c1 : (decide ((0 : Int) ≤ (i : Int)) && decide ((i : Int) < (R.length : Int))) = true := by simp; omega
    simp only [rAt] at e2
    simp only [s38_0, t38_0, Tr.val_test, Tr.val_fin, Tr.val_stop, c0, c1, Int.toNat_natCast, g22, e, g71, e2, Option.isSome_some, Option.getD_some, ↓reduceIte, wrap64_nat (show i ≤ 9223372036854775806 by omega), failB, rAt]
    rcases Bool.eq_false_or_eq_true (meetB (encP m k den i) (R.getD i ((0 : Int), (0 : Int), ()))) with h1 | h1
    · simp only [h1, Bool.not_true, Bool.false_eq_true, ↓reduceIte]
    · simp only [h1, Bool.not_false, ↓reduceIte]
  · have c0 : (!leF (m.length : Int) (R.length : Int)) = false := by rw [leF_eq]; simp; omega
    simp only [s38_0, t38_0, Tr.val_test, Tr.val_fin, Tr.val_stop, c0, Bool.false_eq_true, ↓reduceIte]

theorem f38_eq {m k : List Int} (hf : St.Fr m k) {den : Int} (h0 : 0 < den) (h : den ≤ 50) {R : List Rg} (hR : R.length = k.length) :
    f38 ((m, (k, ())), ((den, (R, ())), ())) = some ((match flm m k den R with | some i => (i : Int) | none => -1), ()) := by
  have e := l38_eq hf h0 h hR
  cases hc : flm m k den R with
  | some i =>
    rw [hc] at e
    simp only [f38, t38, e, isRet, r38_0, outR, Option.isSome_some, Tr.val_test, Tr.val_fin, Tr.val_stop, ↓reduceIte]
  | none =>
    rw [hc] at e
    simp only [f38, t38, e, isRet, Bool.false_eq_true, Option.isSome_some, Tr.val_test, Tr.val_fin, Tr.val_stop, ↓reduceIte]

theorem gt_set (k : List Int) (j : Nat) (l : Int) (i : Nat) (hj : j < k.length) : St.gt (k.set j l) i = if i = j then l else St.gt k i := by
  unfold St.gt
  by_cases c : i = j
  · subst c; simp [List.getD_eq_getElem?_getD, hj]
  · rw [if_neg c]
    simp [List.getD_eq_getElem?_getD, List.getElem?_set, Ne.symm c]

theorem Fr_set {m k : List Int} (hf : St.Fr m k) {j : Nat} (hj : j < k.length) {l : Int} (h1 : 1 ≤ l) (h2 : l ≤ 20) : St.Fr m (k.set j l) := by
  refine ⟨by simp; exact hf.pos, by simp; exact hf.len, by simp; exact hf.top, fun i hi => hf.mass i (by simpa using hi), fun i hi => ?_⟩
  rw [gt_set k j l i hj]
  split
  · exact ⟨h1, h2⟩
  · exact hf.spring i (by simpa using hi)

/-! What is left. -/

def down (P : Nat → Bool) : Nat → Nat
  | 0 => 0
  | l + 1 => if P (l + 1) = true then l + 1 else down P l

theorem down_le (P : Nat → Bool) : ∀ l, down P l ≤ l
  | 0 => Nat.le_refl _
  | l + 1 => by
    have := down_le P l
    rw [down]; split <;> omega

theorem itr_down {A B C : Type} {step : A → Option (Out A B C)} (st : Nat → A) (r : Nat → B) (P : Nat → Bool) (N : Nat) (h0 : step (st 0) = some (.brk (r 0)))
    (hs : ∀ l, l + 1 ≤ N → step (st (l + 1)) = if P (l + 1) = true then some (.brk (r (l + 1))) else some (.again (st l))) : ∀ m l, l ≤ N → l < m → itr step m (st l) = some (.inl (r (down P l)))
  | 0, l, _, h => by omega
  | m + 1, 0, _, _ => by rw [itr, h0]; rfl
  | m + 1, l + 1, hN, h => by
    rw [itr, hs l hN]
    by_cases c : P (l + 1) = true
    · rw [if_pos c, down, if_pos c]
    · rw [if_neg c, down, if_neg c]
      exact itr_down st r P N h0 hs m l (by omega) (by omega)

/-- Whether so much below a storey explains all. -/
def ex (m k : List Int) (den : Int) (R : List Rg) (j : Nat) (l : Nat) : Bool := (flm m (k.set j (l : Int)) den R).isNone

def lf (m k : List Int) (den : Int) (R : List Rg) (j : Nat) : Nat := down (ex m k den R j) (St.gt k j).toNat

theorem l68_eq {m k : List Int} (hf : St.Fr m k) {den : Int} (h0 : 0 < den) (h : den ≤ 50) {R : List Rg} (hR : R.length = k.length) {j : Nat} (hj : j < k.length) :
    l68_0 (((j : Int), (St.gt k j, ())), ((m, (k, ())), ((den, (R, ())), ()))) = some (.inl (((lf m k den R j : Int), ()), ((m, (k, ())), ((den, (R, ())), ())))) := by
  have h4 := hf.top
  have hk := hf.spring j hj
  have key := itr_down (step := s68_0) (fun l => (((j : Int), ((l : Int), ())), ((m, (k, ())), ((den, (R, ())), ())))) (fun l => (((l : Int), ()), ((m, (k, ())), ((den, (R, ())), ())))) (ex m k den R j) 20 ?_ ?_ rounds (St.gt k j).toNat (by omega) (lt_rounds (by omega))
  · rw [Int.toNat_of_nonneg (by omega)] at key
    exact key
  · have c0 : (!leF ((0 : Nat) : Int) 0) = false := by rw [leF_eq]; rfl
    simp only [s68_0, t68_0, Tr.val_test, Tr.val_fin, Tr.val_stop, c0, Bool.false_eq_true, ↓reduceIte]
  · intro l hl
    have hF := Fr_set hf hj (l := ((l + 1 : Nat) : Int)) (by omega) (by omega)
    have e := f70_all hF h0 h (R := R) (by simp; exact hR)
    have c0 : (!leF ((l + 1 : Nat) : Int) 0) = true := by rw [leF_eq]; simp <;> omega
    have c1 : Nat.beq k.length 0 = false := by cases hk : k.length with | zero => omega | succ n => rfl
    have c2 : Nat.ble k.length 0 = false := by cases hk : k.length with | zero => omega | succ n => rfl
    have c3 : (Nat.ble ((2 * k.length + 192) * 8) 281474976710656 && Nat.ble k.length 281474976710656) = true := by simp [Nat.ble_eq]; omega
    have c4 : (decide ((0 : Int) ≤ (j : Int)) && decide ((j : Int) < (k.length : Int))) = true := by simp; omega
    have c5 : Nat.ble (j + 1) k.length = true := by simp [Nat.ble_eq]; omega
    have c6 : Nat.beq k.length (k.set j ((l + 1 : Nat) : Int)).length = true := by rw [List.length_set]; simp
    have w : wrap64 (((l + 1 : Nat) : Int) - 1) = (l : Int) := by rw [wr_abs (by omega)]; omega
    cases hfl : flm m (k.set j ((l + 1 : Nat) : Int)) den R with
    | some i =>
      have n19 : eqF (19 : Int) 0 = false := by rw [eqF_eq]; rfl
      have ep : pf m (k.set j ((l + 1 : Nat) : Int)) den R = ((i : Int), 19) := by unfold pf; rw [hfl]
      have c7 : ex m k den R j (l + 1) = false := by unfold ex; rw [hfl]; rfl
      rw [ep] at e
      simp only [s68_0, t68_0, Tr.val_test, Tr.val_fin, Tr.val_stop, c0, Nat.zero_add, List.nil_append, c1, c2, c3, c4, Int.toNat_natCast, c5, c6, g70, e, w, n19, c7, Bool.false_eq_true, Option.isSome_some, Option.getD_some, ↓reduceIte]
    | none =>
      have n0 : eqF (0 : Int) 0 = true := by rw [eqF_eq]; rfl
      have ep : pf m (k.set j ((l + 1 : Nat) : Int)) den R = (0, 0) := by unfold pf; rw [hfl]
      have c7 : ex m k den R j (l + 1) = true := by unfold ex; rw [hfl]; rfl
      rw [ep] at e
      simp only [s68_0, t68_0, Tr.val_test, Tr.val_fin, Tr.val_stop, c0, Nat.zero_add, List.nil_append, c1, c2, c3, c4, Int.toNat_natCast, c5, c6, g70, e, n0, c7, Bool.false_eq_true, Option.isSome_some, Option.getD_some, ↓reduceIte]

theorem f68_all {m k : List Int} (hf : St.Fr m k) {den : Int} (h0 : 0 < den) (h : den ≤ 50) {R : List Rg} (hR : R.length = k.length) {j : Nat} (hj : j < k.length) :
    f68 (((m, (k, ())), ()), ((j : Int), ((den, (R, ())), ()))) = some ((lf m k den R j : Int), ()) := by
  have e := l68_eq hf h0 h hR hj
  have c4 : (decide ((0 : Int) ≤ (j : Int)) && decide ((j : Int) < (k.length : Int))) = true := by simp; omega
  simp only [f68, t68, c4, Int.toNat_natCast, show k.getD j 0 = St.gt k j from rfl, e, isBrk, b68_0, outB, Tr.val_test, Tr.val_fin, Tr.val_stop, ↓reduceIte]

theorem wi_no {lo hi x : Int} (h : ¬ (lo ≤ x ∧ x ≤ hi)) : wi lo hi x = false := by
  cases hw : wi lo hi x
  · rfl
  · exact absurd (wi_iff.1 hw) h

def afE (den : Int) (R : List Rg) (n : Nat) : Int := if 1 ≤ den ∧ den ≤ 50 then (if R.length = n then rsF 0 1000000000 R else 10) else 2

theorem f67_eq (den : Int) (R : List Rg) (n : Nat) (h : R.length ≤ 1000) : f67 ((den, (R, ())), ((n : Int), ())) = some (afE den R n, ()) := by
  have e1 := f53_eq den
  have e2 := f103_eq 0 1000000000 R (by omega)
  have z : ∀ a b : Int, f72 ([a, b], ()) = some (firstNZ [a, b], ()) := fun a b => f72_eq [a, b] (by simp)
  have n0 := n_zero
  have n2 : (!eqF (2 : Int) 0) = true := n_not (by decide)
  have n10 : (!eqF (10 : Int) 0) = true := n_not (by decide)
  have z00 : firstNZ [(0 : Int), 0] = 0 := rfl
  have z010 : firstNZ [(0 : Int), 10] = 10 := rfl
  have z2 : ∀ b : Int, firstNZ [(2 : Int), b] = 2 := fun b => by rw [nz_two]; rfl
  unfold afE
  by_cases c : 1 ≤ den ∧ den ≤ 50
  · rw [if_pos c] at e1 ⊢
    by_cases c1 : R.length = n
    · have b : (!eqF (R.length : Int) (n : Int)) = false := by rw [eqF_eq, c1]; simp
      rw [if_pos c1]
      simp only [f67, t67, g53, e1, b, g52, f52_eq (false, ((10 : Int), ())), g72, z, z00, n0, g103, e2, Bool.false_eq_true, Option.isSome_some, Option.getD_some, Tr.val_test, Tr.val_fin, Tr.val_stop, ↓reduceIte]
    · have b : (!eqF (R.length : Int) (n : Int)) = true := by rw [eqF_eq]; simp; omega
      rw [if_neg c1]
      simp only [f67, t67, g53, e1, b, g52, f52_eq (true, ((10 : Int), ())), g72, z, z010, n10, Option.isSome_some, Option.getD_some, Tr.val_test, Tr.val_fin, Tr.val_stop, ↓reduceIte]
  · rw [if_neg c] at e1 ⊢
    simp only [f67, t67, g53, e1, g52, f52_eq ((!eqF (R.length : Int) (n : Int)), ((10 : Int), ())), g72, z, z2, n2, Option.isSome_some, Option.getD_some, Tr.val_test, Tr.val_fin, Tr.val_stop, ↓reduceIte]

theorem l35_eq (den : Int) (R : List Rg) (h : R.length ≤ 1000) : l35_0 (((0 : Int), ()), ((den, (R, ())), ())) = match first (fun i => !decide (rgE 0 1000000000 (rAt R i) = 0)) R.length 0 with
    | some i => some (.inr ((rgE 0 1000000000 (rAt R i), ()), ((den, (R, ())), ())))
    | none => some (.inl ((), ((den, (R, ())), ()))) := by
  refine itr_search (step := s35_0) (fun i => (((i : Int), ()), ((den, (R, ())), ()))) (fun i => !decide (rgE 0 1000000000 (rAt R i) = 0)) (fun i => ((rgE 0 1000000000 (rAt R i), ()), ((den, (R, ())), ()))) (n := R.length) ?_ ?_ (lt_rounds (by omega))
  · intro i hi
    have c0 : (!leF (R.length : Int) (i : Int)) = true := by rw [leF_eq]; simp; omega
    have c1 : (decide ((0 : Int) ≤ (i : Int)) && decide ((i : Int) < (R.length : Int))) = true := by simp; omega
    have er : R.getD i ((0 : Int), (0 : Int), ()) = rAt R i := rfl
    simp only [s35_0, t35_0, Tr.val_test, Tr.val_fin, Tr.val_stop, c0, c1, Int.toNat_natCast, er, g21, f21_eq ((rAt R i).1, ((0 : Int), ((1000000000 : Int), ()))), f21_eq ((rAt R i).2.1, ((0 : Int), ((1000000000 : Int), ()))), Option.isSome_some, Option.getD_some, ↓reduceIte, wrap64_nat (show i ≤ 9223372036854775806 by omega), rgE]
    rcases Bool.eq_false_or_eq_true (wi 0 1000000000 (rAt R i).1) with a0 | a0
    · rcases Bool.eq_false_or_eq_true (wi 0 1000000000 (rAt R i).2.1) with a1 | a1
      · by_cases a2 : (rAt R i).1 ≤ (rAt R i).2.1
        · have b : (!leF (rAt R i).1 (rAt R i).2.1) = false := by rw [leF_eq]; simpa using a2
          simp [a0, a1, a2, b]
        · have b : (!leF (rAt R i).1 (rAt R i).2.1) = true := by rw [leF_eq]; simpa using a2
          simp [a0, a1, a2, b]
      · simp [a0, a1]
    · simp [a0]
  · have c0 : (!leF (R.length : Int) (R.length : Int)) = false := by rw [leF_eq]; simp
    simp only [s35_0, t35_0, Tr.val_test, Tr.val_fin, Tr.val_stop, c0, Bool.false_eq_true, ↓reduceIte]

theorem f35_eq (m k : List Int) (den : Int) (R : List Rg) (h : R.length ≤ 1000) : f35 ((m, (k, ())), ((den, (R, ())), ())) = some (afE den R m.length, ()) := by
  have e := l35_eq den R h
  unfold afE
  by_cases c : 1 ≤ den ∧ den ≤ 50
  · have cw : wi 1 50 den = true := wi_iff.2 c
    rw [if_pos c]
    by_cases c1 : R.length = m.length
    · have b : (!eqF (R.length : Int) (m.length : Int)) = false := by rw [eqF_eq, c1]; simp
      rw [if_pos c1]
      unfold rsF
      cases hc : first (fun i => !decide (rgE 0 1000000000 (rAt R i) = 0)) R.length 0 with
      | some i =>
        rw [hc] at e
        simp only [f35, t35, g21, f21_eq (den, ((1 : Int), ((50 : Int), ()))), cw, b, e, isRet, r35_0, outR, Bool.not_true, Bool.false_eq_true, Option.isSome_some, Option.getD_some, Tr.val_test, Tr.val_fin, Tr.val_stop, ↓reduceIte]
      | none =>
        rw [hc] at e
        simp only [f35, t35, g21, f21_eq (den, ((1 : Int), ((50 : Int), ()))), cw, b, e, isRet, Bool.not_true, Bool.false_eq_true, Option.isSome_some, Option.getD_some, Tr.val_test, Tr.val_fin, Tr.val_stop, ↓reduceIte]
    · have b : (!eqF (R.length : Int) (m.length : Int)) = true := by rw [eqF_eq]; simp; omega
      rw [if_neg c1]
      simp only [f35, t35, g21, f21_eq (den, ((1 : Int), ((50 : Int), ()))), cw, b, Bool.not_true, Bool.false_eq_true, Option.isSome_some, Option.getD_some, Tr.val_test, Tr.val_fin, Tr.val_stop, ↓reduceIte]
  · rw [if_neg c]
    simp only [f35, t35, g21, f21_eq (den, ((1 : Int), ((50 : Int), ()))), wi_no c, Bool.not_false, Option.isSome_some, Option.getD_some, Tr.val_test, Tr.val_fin, Tr.val_stop, ↓reduceIte]

theorem afE_ok {den : Int} {R : List Rg} {n : Nat} (h : afE den R n = 0) : (1 ≤ den ∧ den ≤ 50) ∧ R.length = n := by
  unfold afE at h
  split at h
  · split at h
    · rename_i a b; exact ⟨a, b⟩
    · simp at h
  · simp at h

theorem f41_eq (R : List Rg) (h : R.length ≤ 1000) : f41 (R, ()) = some (R, ()) := by
  rcases Nat.eq_zero_or_pos R.length with h0 | h0
  · have : R = [] := List.length_eq_zero_iff.1 h0
    subst this
    rfl
  · simp only [f41, t41, Tr.val_test, Tr.val_fin, Tr.val_stop, List.nil_append, Nat.zero_add]
    rw [if_neg (by simp; intro h; rw [h] at h0; simp at h0), if_neg (by simp; intro h; rw [h] at h0; simp at h0), if_pos (by simp [Nat.ble_eq]; omega), if_pos (by simp)]

theorem f33_eq (den : Int) (R : List Rg) (h : R.length ≤ 1000) : f33 ((den, (R, ())), ()) = some ((den, (R, ())), ()) := by
  simp only [f33, t33, g41, f41_eq R h, Option.isSome_some, Option.getD_some, Tr.val_test, Tr.val_fin, ↓reduceIte]

/-- The error of a damage of a valid frame. -/
def dE (k : List Int) (s l : Int) : Int := if 0 ≤ s ∧ s ≤ (k.length : Int) - 1 then (if 1 ≤ l ∧ l ≤ k.getD s.toNat 0 then 0 else 2) else 6

theorem f37_eq (m k : List Int) (s l : Int) (hk : k.length ≤ 6) : f37 ((m, (k, ())), ((s, (l, ())), ())) = some (dE k s l, ()) := by
  have w : wrap64 ((k.length : Int) - 1) = (k.length : Int) - 1 := wr_abs (by omega)
  unfold dE
  by_cases c : 0 ≤ s ∧ s ≤ (k.length : Int) - 1
  · have c1 : (decide ((0 : Int) ≤ s) && decide (s < (k.length : Int))) = true := by simp; omega
    have cw : wi 0 ((k.length : Int) - 1) s = true := wi_iff.2 c
    rw [if_pos c]
    by_cases c2 : 1 ≤ l ∧ l ≤ k.getD s.toNat 0
    · have cv : wi 1 (k.getD s.toNat 0) l = true := wi_iff.2 c2
      rw [if_pos c2]
      simp only [f37, t37, w, g21, f21_eq (s, ((0 : Int), ((k.length : Int) - 1, ()))), cw, c1, f21_eq (l, ((1 : Int), (k.getD s.toNat 0, ()))), cv, Bool.not_true, Bool.false_eq_true, Option.isSome_some, Option.getD_some, Tr.val_test, Tr.val_fin, Tr.val_stop, ↓reduceIte]
    · have cv : wi 1 (k.getD s.toNat 0) l = false := wi_no c2
      rw [if_neg c2]
      simp only [f37, t37, w, g21, f21_eq (s, ((0 : Int), ((k.length : Int) - 1, ()))), cw, c1, f21_eq (l, ((1 : Int), (k.getD s.toNat 0, ()))), cv, Bool.not_true, Bool.not_false, Bool.false_eq_true, Option.isSome_some, Option.getD_some, Tr.val_test, Tr.val_fin, Tr.val_stop, ↓reduceIte]
  · have cw : wi 0 ((k.length : Int) - 1) s = false := wi_no c
    rw [if_neg c]
    simp only [f37, t37, w, g21, f21_eq (s, ((0 : Int), ((k.length : Int) - 1, ()))), cw, Bool.not_false, Option.isSome_some, Option.getD_some, Tr.val_test, Tr.val_fin, Tr.val_stop, ↓reduceIte]

theorem f39_eq {m k : List Int} (hf : St.Fr m k) {j : Nat} (hj : j < k.length) (l : Int) : f39 ((m, (k, ())), (((j : Int), (l, ())), ())) = some ((m, (k.set j l, ())), ()) := by
  have h4 := hf.top
  have hl := hf.len
  have b1 : Nat.beq m.length 0 = false := by cases hm : m.length with | zero => omega | succ n => rfl
  have b2 : Nat.ble m.length 0 = false := by cases hm : m.length with | zero => omega | succ n => rfl
  have b3 : (Nat.ble ((2 * m.length + 192) * 8) 281474976710656 && Nat.ble m.length 281474976710656) = true := by simp [Nat.ble_eq]; omega
  have c1 : Nat.beq k.length 0 = false := by cases hk : k.length with | zero => omega | succ n => rfl
  have c2 : Nat.ble k.length 0 = false := by cases hk : k.length with | zero => omega | succ n => rfl
  have c3 : (Nat.ble ((2 * k.length + 192) * 8) 281474976710656 && Nat.ble k.length 281474976710656) = true := by simp [Nat.ble_eq]; omega
  have c4 : (decide ((0 : Int) ≤ (j : Int)) && decide ((j : Int) < (k.length : Int))) = true := by simp; omega
  have c5 : Nat.ble (j + 1) k.length = true := by simp [Nat.ble_eq]; omega
  have b6 : Nat.beq m.length m.length = true := by simp
  have c6 : Nat.beq k.length (k.set j l).length = true := by simp
  simp only [f39, t39, Tr.val_test, Tr.val_fin, Tr.val_stop, Nat.zero_add, List.nil_append, b1, b2, b3, c1, c2, c3, c4, Int.toNat_natCast, c5, b6, c6, Bool.false_eq_true, ↓reduceIte]

theorem f34_ok {m k : List Int} (hf : St.Fr m k) {den : Int} {R : List Rg} (ha : afE den R m.length = 0) (s l : Int) :
    f34 ((m, (k, ())), ((den, (R, ())), ((s, (l, ())), ()))) = some (if dE k s l ≠ 0 then ((0 : Int), (dE k s l, ())) else ((pf m (k.set s.toNat l) den R).1, ((pf m (k.set s.toNat l) den R).2, ()))) := by
  have h4 := hf.top
  have hl := hf.len
  obtain ⟨hd, hR⟩ := afE_ok ha
  have e67 := f67_eq den R m.length (by omega)
  rw [ha] at e67
  have w : wrap64 ((m.length : Int) - 1) = (m.length : Int) - 1 := wr_abs (by omega)
  have e78 := f78_ok hf
  have n0 := n_zero
  have n6 : (!eqF (6 : Int) 0) = true := n_not (by decide)
  have z00 : f72 ([0, 0], ()) = some (0, ()) := f72_eq [0, 0] (by decide)
  have z06 : f72 ([0, 6], ()) = some (6, ()) := f72_eq [0, 6] (by decide)
  have e1 := f51_one 0 ((m.length : Int) - 1) s
  have b0 : f52 (false, ((6 : Int), ())) = some (0, ()) := f52_eq _
  have b1 : f52 (true, ((6 : Int), ())) = some (6, ()) := f52_eq _
  unfold dE
  by_cases c : 0 ≤ s ∧ s ≤ (k.length : Int) - 1
  · rw [if_pos c]
    rw [show wi 0 ((m.length : Int) - 1) s = true from wi_iff.2 (by omega)] at e1
    obtain ⟨j, rfl⟩ : ∃ j : Nat, s = (j : Int) := ⟨s.toNat, by omega⟩
    have hj : j < k.length := by omega
    have c4 : (decide ((0 : Int) ≤ (j : Int)) && decide ((j : Int) < (k.length : Int))) = true := by simp; omega
    have ek : k.getD j 0 = St.gt k j := rfl
    have hk := hf.spring j hj
    have e2 := f51_one 1 (St.gt k j) l
    rw [Int.toNat_natCast, ek]
    by_cases c2 : 1 ≤ l ∧ l ≤ St.gt k j
    · rw [if_pos c2, if_neg (by decide)]
      rw [show wi 1 (St.gt k j) l = true from wi_iff.2 c2] at e2
      have hF := Fr_set hf hj (l := l) c2.1 (by omega)
      have e := f70_all hF (by omega) hd.2 (R := R) (by simp; omega)
      have d1 : Nat.beq k.length 0 = false := by cases hk : k.length with | zero => omega | succ n => rfl
      have d2 : Nat.ble k.length 0 = false := by cases hk : k.length with | zero => omega | succ n => rfl
      have d3 : (Nat.ble ((2 * k.length + 192) * 8) 281474976710656 && Nat.ble k.length 281474976710656) = true := by simp [Nat.ble_eq]; omega
      have d5 : Nat.ble (j + 1) k.length = true := by simp [Nat.ble_eq]; omega
      have d6 : Nat.beq k.length (k.set j l).length = true := by simp
      simp only [f34, t34, w, g51, e1, g67, e67, g52, b0, g78, e78, g72, z00, n0, c4, Int.toNat_natCast, ek, e2, Nat.zero_add, List.nil_append, d1, d2, d3, d5, d6, g70, e, Bool.not_true, Bool.false_eq_true, Option.isSome_some, Option.getD_some, Tr.val_test, Tr.val_fin, Tr.val_stop, ↓reduceIte]
    · rw [if_neg c2, if_pos (by decide)]
      rw [show wi 1 (St.gt k j) l = false from wi_no c2] at e2
      simp only [f34, t34, w, g51, e1, g67, e67, g52, b0, g78, e78, g72, z00, n0, c4, Int.toNat_natCast, ek, e2, Bool.not_true, Bool.not_false, Bool.false_eq_true, Option.isSome_some, Option.getD_some, Tr.val_test, Tr.val_fin, Tr.val_stop, ↓reduceIte]
  · rw [if_neg c, if_pos (by decide)]
    rw [show wi 0 ((m.length : Int) - 1) s = false from wi_no (by omega)] at e1
    simp only [f34, t34, w, g51, e1, g67, e67, g52, b1, g78, e78, g72, z06, n6, Bool.not_false, Option.isSome_some, Option.getD_some, Tr.val_test, Tr.val_fin, Tr.val_stop, ↓reduceIte]

/-- The best of the first storeys. -/
def bst (m k : List Int) (den : Int) (R : List Rg) : Nat → Int × Int
  | 0 => (0, 0)
  | i + 1 => if (bst m k den R i).2 * St.gt k i < (lf m k den R i : Int) * St.gt k (bst m k den R i).1.toNat then ((i : Int), (lf m k den R i : Int)) else bst m k den R i

theorem bst_ok {m k : List Int} (hf : St.Fr m k) (den : Int) (R : List Rg) : ∀ i, i ≤ k.length → 0 ≤ (bst m k den R i).1 ∧ (bst m k den R i).1 < (k.length : Int) ∧ 0 ≤ (bst m k den R i).2 ∧ (bst m k den R i).2 ≤ 20 ∧ ((bst m k den R i).2 = 0 → (bst m k den R i).1 = 0)
  | 0, _ => by
    have := hf.pos
    exact ⟨Int.le_refl _, by show (0 : Int) < _; omega, Int.le_refl _, by show (0 : Int) ≤ 20; decide, fun _ => rfl⟩
  | i + 1, h => by
    obtain ⟨h1, h2, h3, h4, h5⟩ := bst_ok hf den R i (by omega)
    have hk := hf.spring i (by omega)
    have hL := down_le (ex m k den R i) (St.gt k i).toNat
    rw [bst]
    split
    · rename_i hc
      have a1 := Int.mul_nonneg h3 (show 0 ≤ St.gt k i by omega)
      refine ⟨by simp only; omega, by simp only; omega, by simp only; omega, by unfold lf; simp only; omega, fun h0 => ?_⟩
      simp only at h0
      rw [h0, Int.zero_mul] at hc
      omega
    · exact ⟨h1, h2, h3, h4, h5⟩

theorem l32_eq {m k : List Int} (hf : St.Fr m k) {den : Int} (h0 : 0 < den) (h : den ≤ 50) {R : List Rg} (hR : R.length = k.length) :
    l32_0 ((k, ((k.length : Int), ((0 : Int), ()))), ((m, (k, ())), ((den, (R, ())), (((0 : Int), ((0 : Int), ())), ((m, (k, ())), (((0 : Int), ((0 : Int), ())), ())))))) =
      some (.inl ((), ((m, (k, ())), ((den, (R, ())), (((0 : Int), ((0 : Int), ())), ((m, (k, ())), (((bst m k den R k.length).1, ((bst m k den R k.length).2, ())), ()))))))) := by
  have h4 := hf.top
  refine itr_brk (step := s32_0) (fun i => ((k, ((k.length : Int), ((i : Int), ()))), ((m, (k, ())), ((den, (R, ())), (((0 : Int), ((0 : Int), ())), ((m, (k, ())), (((bst m k den R i).1, ((bst m k den R i).2, ())), ()))))))) (n := k.length) ?_ ?_ (lt_rounds (by omega))
  · intro i hi
    obtain ⟨h1, h2, h3, h5, h6⟩ := bst_ok hf den R i (by omega)
    have e := f68_all hf h0 h hR hi
    have hk := hf.spring i hi
    have hL := down_le (ex m k den R i) (St.gt k i).toNat
    have hk2 := hf.spring (bst m k den R i).1.toNat (by omega)
    have c0 : (!leF (k.length : Int) (i : Int)) = true := by rw [leF_eq]; simp; omega
    have c1 : (decide ((0 : Int) ≤ (i : Int)) && decide ((i : Int) < (k.length : Int))) = true := by simp; omega
    have c2 : (decide ((0 : Int) ≤ (bst m k den R i).1) && decide ((bst m k den R i).1 < (k.length : Int))) = true := by simp; omega
    have mb : ∀ a b : Int, a.natAbs ≤ 20 → b.natAbs ≤ 20 → wrap64 (a * b) = a * b := by
      intro a b ha hb
      refine wr_abs ?_
      rw [Int.natAbs_mul]
      exact Nat.le_trans (Nat.mul_le_mul ha hb) (by decide)
    have w1 := mb (lf m k den R i : Int) (St.gt k (bst m k den R i).1.toNat) (by unfold lf; omega) (by omega)
    have w2 := mb (bst m k den R i).2 (St.gt k i) (by omega) (by omega)
    simp only [s32_0, t32_0, Tr.val_test, Tr.val_fin, Tr.val_stop, c0, c1, Int.toNat_natCast, g68, e, c2, show k.getD i 0 = St.gt k i from rfl, show k.getD (bst m k den R i).1.toNat 0 = St.gt k (bst m k den R i).1.toNat from rfl, w1, w2, Option.isSome_some, Option.getD_some, ↓reduceIte, wrap64_nat (show i ≤ 9223372036854775806 by omega)]
    rw [bst]
    by_cases c : (bst m k den R i).2 * St.gt k i < (lf m k den R i : Int) * St.gt k (bst m k den R i).1.toNat
    · have d : (!leF ((lf m k den R i : Int) * St.gt k (bst m k den R i).1.toNat) ((bst m k den R i).2 * St.gt k i)) = true := by rw [leF_eq]; simpa using c
      rw [if_pos c]
      simp only [d, ↓reduceIte]
    · have d : (!leF ((lf m k den R i : Int) * St.gt k (bst m k den R i).1.toNat) ((bst m k den R i).2 * St.gt k i)) = false := by rw [leF_eq]; simpa using c
      rw [if_neg c]
      simp only [d, Bool.false_eq_true, ↓reduceIte]
  · have c0 : (!leF (k.length : Int) (k.length : Int)) = false := by rw [leF_eq]; simp
    simp only [s32_0, t32_0, Tr.val_test, Tr.val_fin, Tr.val_stop, c0, Bool.false_eq_true, ↓reduceIte]

theorem f32_ok {m k : List Int} (hf : St.Fr m k) {den : Int} {R : List Rg} (ha : afE den R m.length = 0) :
    f32 ((m, (k, ())), ((den, (R, ())), ())) = some (((bst m k den R k.length).1, ((bst m k den R k.length).2, ())), (if (bst m k den R k.length).2 = 0 then 12 else 0, ())) := by
  have h4 := hf.top
  have hl := hf.len
  obtain ⟨hd, hR⟩ := afE_ok ha
  have e67 := f67_eq den R m.length (by omega)
  rw [ha] at e67
  have e := l32_eq hf (by omega) hd.2 (R := R) (by omega)
  have n0 := n_zero
  have z0 : f72 ([0], ()) = some (0, ()) := f72_eq [0] (by decide)
  have z00 : f72 ([0, 0], ()) = some (0, ()) := f72_eq [0, 0] (by decide)
  have e78 := f78_ok hf
  simp only [f32, t32, g67, e67, g78, e78, g72, z0, z00, n0, e, isBrk, b32_0, outB, g52, f52_eq (eqF (bst m k den R k.length).2 0, ((12 : Int), ())), Bool.false_eq_true, Option.isSome_some, Option.getD_some, Tr.val_test, Tr.val_fin, Tr.val_stop, ↓reduceIte]
  by_cases c : (bst m k den R k.length).2 = 0
  · rw [if_pos c, c]; rfl
  · have : eqF (bst m k den R k.length).2 0 = false := by rw [eqF_eq]; simpa using c
    rw [if_neg c, this]; rfl

/-- .. and where something is not valid. -/
theorem f32_err (m k : List Int) (den : Int) (R : List Rg) (hr : R.length ≤ 1000) (h0 : firstNZ [(chkE m k).2, afE den R m.length] ≠ 0) : f32 ((m, (k, ())), ((den, (R, ())), ())) = some (((0 : Int), ((0 : Int), ())), (firstNZ [(chkE m k).2, afE den R m.length], ())) := by
  have e67 := f67_eq den R m.length hr
  have z : ∀ a b : Int, f72 ([a, b], ()) = some (firstNZ [a, b], ()) := fun a b => f72_eq [a, b] (by simp)
  have z1 : ∀ a : Int, f72 ([a], ()) = some (a, ()) := fun a => by have := f72_eq [a] (by simp); rwa [nz_one] at this
  have c0 := n_not h0
  simp only [f32, t32, g67, e67, g78, f78_all m k, g72, z, z1, c0, Option.isSome_some, Option.getD_some, Tr.val_test, Tr.val_fin, Tr.val_stop, ↓reduceIte]

theorem f34_err (m k : List Int) (den : Int) (R : List Rg) (hr : R.length ≤ 1000) (hm : m.length ≤ 1000) (s l : Int) (h0 : firstNZ [(chkE m k).2, afE den R m.length] ≠ 0) : f34 ((m, (k, ())), ((den, (R, ())), ((s, (l, ())), ()))) = some ((0 : Int), (firstNZ [(chkE m k).2, afE den R m.length], ())) := by
  have e67 := f67_eq den R m.length hr
  have w : wrap64 ((m.length : Int) - 1) = (m.length : Int) - 1 := wr_abs (by omega)
  have z : ∀ a b : Int, f72 ([a, b], ()) = some (firstNZ [a, b], ()) := fun a b => f72_eq [a, b] (by simp)
  have e1 := f51_one 0 ((m.length : Int) - 1) s
  have zz : ∀ x : Int, firstNZ [(chkE m k).2, firstNZ [afE den R m.length, x]] = firstNZ [(chkE m k).2, afE den R m.length] := by
    intro x
    rw [nz_two, nz_two, nz_two] at *
    by_cases c : (chkE m k).2 = 0
    · rw [if_neg (by simpa using c)] at h0 ⊢
      rw [if_pos h0, if_neg (by simpa using c)]
    · rw [if_pos c, if_pos c]
  have c0 := n_not h0
  simp only [f34, t34, w, g51, e1, g67, e67, g52, f52_eq ((!wi 0 ((m.length : Int) - 1) s), ((6 : Int), ())), g78, f78_all m k, g72, z, zz, c0, Option.isSome_some, Option.getD_some, Tr.val_test, Tr.val_fin, Tr.val_stop, ↓reduceIte]

def upd (k : List Int) (b : Int × Int) (i l : Nat) : Int × Int := if b.2 * St.gt k i < (l : Int) * St.gt k b.1.toNat then ((i : Int), (l : Int)) else b

theorem l36_2_eq {m k : List Int} (hf : St.Fr m k) {den : Int} (h0 : 0 < den) (h : den ≤ 50) {R : List Rg} (hR : R.length = k.length) {i : Nat} (hi : i < k.length) {b : Int × Int}
    (hb : 0 ≤ b.1 ∧ b.1 < (k.length : Int) ∧ 0 ≤ b.2 ∧ b.2 ≤ 20 ∧ (b.2 = 0 → b.1 = 0)) :
    l36_2 ((decide (0 < b.2), ((i : Int), (St.gt k i, ()))), ((m, (k, ())), ((den, (R, ())), (((0 : Int), ((0 : Int), ())), ((b.1, (b.2, ())), ()))))) =
      some (.inl ((decide (0 < (upd k b i (lf m k den R i)).2), ((i : Int), ())), ((m, (k, ())), ((den, (R, ())), (((0 : Int), ((0 : Int), ())), (((upd k b i (lf m k den R i)).1, ((upd k b i (lf m k den R i)).2, ())), ())))))) := by
  have h4 := hf.top
  have hk := hf.spring i hi
  obtain ⟨b1, b2, b3, b4, b5⟩ := hb
  have hkb := hf.spring b.1.toNat (by omega)
  have u0 : upd k b i 0 = b := by
    have := Int.mul_nonneg b3 (show 0 ≤ St.gt k i by omega)
    unfold upd
    rw [if_neg (by simp; omega)]
  have key := itr_down (step := s36_2) (fun l => ((decide (0 < b.2), ((i : Int), ((l : Int), ()))), ((m, (k, ())), ((den, (R, ())), (((0 : Int), ((0 : Int), ())), ((b.1, (b.2, ())), ()))))))
    (fun l => ((decide (0 < (upd k b i l).2), ((i : Int), ())), ((m, (k, ())), ((den, (R, ())), (((0 : Int), ((0 : Int), ())), (((upd k b i l).1, ((upd k b i l).2, ())), ())))))) (ex m k den R i) 20 ?_ ?_ rounds (St.gt k i).toNat (by omega) (lt_rounds (by omega))
  · rw [Int.toNat_of_nonneg (by omega)] at key
    exact key
  · have c0 : leF (1 : Int) ((0 : Nat) : Int) = false := by rw [leF_eq]; rfl
    simp only [s36_2, t36_2, Tr.val_test, Tr.val_fin, Tr.val_stop, c0, u0, Bool.false_eq_true, ↓reduceIte]
  · intro l hl
    have hF := Fr_set hf hi (l := ((l + 1 : Nat) : Int)) (by omega) (by omega)
    have e := f39_eq hf hi ((l + 1 : Nat) : Int)
    have e2 := f38_eq hF h0 h (R := R) (by simp; exact hR)
    have c0 : leF (1 : Int) ((l + 1 : Nat) : Int) = true := by rw [leF_eq]; simp <;> omega
    have w : wrap64 (((l + 1 : Nat) : Int) - 1) = (l : Int) := by rw [wr_abs (by omega)]; omega
    have c1 : (decide ((0 : Int) ≤ (i : Int)) && decide ((i : Int) < (k.length : Int))) = true := by simp; omega
    have c2 : (decide ((0 : Int) ≤ b.1) && decide (b.1 < (k.length : Int))) = true := by simp; omega
    have e3 := f30_eq ((l + 1 : Nat) : Int) (St.gt k i) b.2 (St.gt k b.1.toNat) (by omega) (by omega) (by omega) (by omega) (by omega) (by omega)
    cases hfl : flm m (k.set i ((l + 1 : Nat) : Int)) den R with
    | some x =>
      rw [hfl] at e2
      have c3 : leF (0 : Int) (x : Int) = true := by rw [leF_eq]; simp
      have c4 : ex m k den R i (l + 1) = false := by unfold ex; rw [hfl]; rfl
      simp only [s36_2, t36_2, Tr.val_test, Tr.val_fin, Tr.val_stop, c0, g39, e, g38, e2, c3, c4, w, Bool.false_eq_true, Option.isSome_some, Option.getD_some, ↓reduceIte]
    | none =>
      rw [hfl] at e2
      have c3 : leF (0 : Int) (-1) = false := by rw [leF_eq]; rfl
      have c4 : ex m k den R i (l + 1) = true := by unfold ex; rw [hfl]; rfl
      have lk : 0 < ((l + 1 : Nat) : Int) * St.gt k b.1.toNat := Int.mul_pos (by omega) (by omega)
      by_cases hz : b.2 = 0
      · have c5 : decide (0 < b.2) = false := by rw [hz]; rfl
        have eu : upd k b i (l + 1) = ((i : Int), ((l + 1 : Nat) : Int)) := by
          unfold upd
          rw [if_pos (by rw [hz, Int.zero_mul]; exact lk)]
        have c6 : decide (0 < ((l + 1 : Nat) : Int)) = true := by simp
        simp only [s36_2, t36_2, Tr.val_test, Tr.val_fin, Tr.val_stop, c0, g39, e, g38, e2, c3, c4, c5, eu, c6, Bool.not_false, Bool.false_eq_true, Option.isSome_some, Option.getD_some, ↓reduceIte]
      · have c5 : decide (0 < b.2) = true := by simp; omega
        by_cases hc : b.2 * St.gt k i < ((l + 1 : Nat) : Int) * St.gt k b.1.toNat
        · have eu : upd k b i (l + 1) = ((i : Int), ((l + 1 : Nat) : Int)) := by unfold upd; rw [if_pos hc]
          have c6 : decide (0 < ((l + 1 : Nat) : Int)) = true := by simp
          have c7 : (!leF (cq ((l + 1 : Nat) : Int) (St.gt k i) b.2 (St.gt k b.1.toNat)) 0) = true := by
            unfold cq; rw [if_neg (by omega), if_neg (by omega), leF_eq]; rfl
          simp only [s36_2, t36_2, Tr.val_test, Tr.val_fin, Tr.val_stop, c0, g39, e, g38, e2, c3, c4, c5, c1, c2, Int.toNat_natCast, show k.getD i 0 = St.gt k i from rfl, show k.getD b.1.toNat 0 = St.gt k b.1.toNat from rfl, g30, e3, c7, eu, c6, Bool.not_true, Bool.false_eq_true, Option.isSome_some, Option.getD_some, ↓reduceIte]
        · have eu : upd k b i (l + 1) = b := by unfold upd; rw [if_neg hc]
          have c7 : (!leF (cq ((l + 1 : Nat) : Int) (St.gt k i) b.2 (St.gt k b.1.toNat)) 0) = false := by
            unfold cq
            split
            · rw [leF_eq]; rfl
            · split
              · rw [leF_eq]; rfl
              · omega
          simp only [s36_2, t36_2, Tr.val_test, Tr.val_fin, Tr.val_stop, c0, g39, e, g38, e2, c3, c4, c5, c1, c2, Int.toNat_natCast, show k.getD i 0 = St.gt k i from rfl, show k.getD b.1.toNat 0 = St.gt k b.1.toNat from rfl, g30, e3, c7, eu, Bool.not_true, Bool.false_eq_true, Option.isSome_some, Option.getD_some, ↓reduceIte]

theorem l36_0_eq {m k : List Int} (hf : St.Fr m k) {den : Int} (h0 : 0 < den) (h : den ≤ 50) {R : List Rg} (hR : R.length = k.length) :
    l36_0 ((false, ((0 : Int), ())), ((m, (k, ())), ((den, (R, ())), (((0 : Int), ((0 : Int), ())), (((0 : Int), ((0 : Int), ())), ()))))) =
      some (.inl ((decide (0 < (bst m k den R k.length).2), ()), ((m, (k, ())), ((den, (R, ())), (((0 : Int), ((0 : Int), ())), (((bst m k den R k.length).1, ((bst m k den R k.length).2, ())), ())))))) := by
  have h4 := hf.top
  refine itr_brk (step := s36_0) (fun i => ((decide (0 < (bst m k den R i).2), ((i : Int), ())), ((m, (k, ())), ((den, (R, ())), (((0 : Int), ((0 : Int), ())), (((bst m k den R i).1, ((bst m k den R i).2, ())), ())))))) (n := k.length) ?_ ?_ (lt_rounds (by omega))
  · intro i hi
    have e := l36_2_eq hf h0 h hR hi (bst_ok hf den R i (by omega))
    have c0 : (!leF (k.length : Int) (i : Int)) = true := by rw [leF_eq]; simp; omega
    have c1 : (decide ((0 : Int) ≤ (i : Int)) && decide ((i : Int) < (k.length : Int))) = true := by simp; omega
    have eb : bst m k den R (i + 1) = upd k (bst m k den R i) i (lf m k den R i) := rfl
    rw [eb]
    simp only [s36_0, t36_0, Tr.val_test, Tr.val_fin, Tr.val_stop, c0, c1, Int.toNat_natCast, show k.getD i 0 = St.gt k i from rfl, e, b36_2, isBrk, outB, ↓reduceIte, wrap64_nat (show i ≤ 9223372036854775806 by omega)]
  · have c0 : (!leF (k.length : Int) (k.length : Int)) = false := by rw [leF_eq]; simp
    simp only [s36_0, t36_0, Tr.val_test, Tr.val_fin, Tr.val_stop, c0, Bool.false_eq_true, ↓reduceIte]

theorem f36_ok {m k : List Int} (hf : St.Fr m k) {den : Int} (h0 : 0 < den) (h : den ≤ 50) {R : List Rg} (hR : R.length = k.length) :
    f36 ((m, (k, ())), ((den, (R, ())), ())) = some (((bst m k den R k.length).1, ((bst m k den R k.length).2, ())), (decide (0 < (bst m k den R k.length).2), ())) := by
  have e := l36_0_eq hf h0 h hR
  simp only [f36, t36, e, isBrk, b36_0, outB, Tr.val_test, Tr.val_fin, Tr.val_stop, ↓reduceIte]

theorem f6_eq (m k : List Int) (den : Int) (R : List Rg) (s l : Int) : f6 ((m, (k, ())), ((den, (R, ())), ((s, (l, ())), ()))) = some (true, ()) := by
  by_cases hm : m.length ≤ 6 ∧ k.length ≤ 6
  · have b1 : leF (m.length : Int) 6 = true := by rw [leF_eq]; simp; omega
    have b2 : leF (k.length : Int) 6 = true := by rw [leF_eq]; simp; omega
    have e9 : f9 ((m, (k, ())), ()) = some (true, ()) := by simp only [f9, t9, b1, b2, Tr.val_test, Tr.val_fin, ↓reduceIte]
    by_cases h4 : m.length = 4
    · have b3 : eqF (m.length : Int) 4 = true := by rw [eqF_eq]; simp; omega
      simp only [f6, t6, g9, e9, b3, Bool.not_true, Bool.not_false, Bool.false_eq_true, Option.isSome_some, Option.getD_some, Tr.val_test, Tr.val_fin, Tr.val_stop, ↓reduceIte]
    · have b3 : eqF (m.length : Int) 4 = false := by rw [eqF_eq]; simp; omega
      by_cases hr : R.length ≤ 6
      · have b4 : (!leF (R.length : Int) 6) = false := by rw [leF_eq]; simp; omega
        have e11 := f11_eq m k (by omega) (by omega)
        have e33 := f33_eq den R (by omega)
        have e14 := f14_all m k
        have e35 := f35_eq m k den R (by omega)
        have ee : ∀ x : Int, eqF x x = true := fun x => by rw [eqF_eq]; simp
        have n0 := n_zero
        by_cases hc : (chkE m k).2 = 0
        · have hF := chkE_ok hc
          have hl := hF.len
          rw [hc] at e14
          by_cases ha : afE den R m.length = 0
          · obtain ⟨hd, hR⟩ := afE_ok ha
            have e32 := f32_ok hF ha
            have e34 := f34_ok hF ha s l
            have e36 := f36_ok hF (by omega) hd.2 (R := R) (by omega)
            have e37 := f37_eq m k s l (by omega)
            have hb := bst_ok hF den R k.length (Nat.le_refl _)
            rw [ha] at e35
            -- what is said of the damage
            by_cases hdE : dE k s l = 0
            · rw [if_neg (by simpa using hdE)] at e34
              rw [hdE] at e37
              obtain ⟨hs, hl2⟩ : (0 ≤ s ∧ s ≤ (k.length : Int) - 1) ∧ (1 ≤ l ∧ l ≤ k.getD s.toNat 0) := by
                unfold dE at hdE
                split at hdE
                · rename_i a
                  split at hdE
                  · rename_i b; exact ⟨a, b⟩
                  · simp at hdE
                · simp at hdE
              obtain ⟨j, rfl⟩ : ∃ j : Nat, s = (j : Int) := ⟨s.toNat, by omega⟩
              rw [Int.toNat_natCast] at e34 hl2
              have hj : j < k.length := by omega
              have hk := hF.spring j hj
              have ek : k.getD j 0 = St.gt k j := rfl
              rw [ek] at hl2
              have e39 := f39_eq hF hj l
              have hF2 := Fr_set hF hj (l := l) hl2.1 (by omega)
              have e38 := f38_eq hF2 (by omega) hd.2 (R := R) (by simp; omega)
              unfold pf at e34
              cases hfl : flm m (k.set j l) den R with
              | some x =>
                rw [hfl] at e34 e38
                have c3 : leF (0 : Int) (x : Int) = true := by rw [leF_eq]; simp
                by_cases hz : (bst m k den R k.length).2 = 0
                · have hz1 := hb.2.2.2.2 hz
                  rw [if_pos hz] at e32
                  rw [hz, hz1] at e32 e36
                  have d0 : decide (0 < (0 : Int)) = false := rfl
                  simp only [f6, t6, g9, e9, b3, b4, g11, e11, g33, e33, g32, e32, g34, e34, g14, e14, ee, g35, e35, n0, g36, e36, d0, beq_self_eq_true, g37, e37, g39, e39, g38, e38, c3, Bool.and_self, Bool.not_true, Bool.not_false, Bool.false_eq_true, Option.isSome_some, Option.getD_some, Tr.val_test, Tr.val_fin, Tr.val_stop, ↓reduceIte]
                · rw [if_neg hz] at e32
                  have d0 : decide (0 < (bst m k den R k.length).2) = true := by simp; omega
                  simp only [f6, t6, g9, e9, b3, b4, g11, e11, g33, e33, g32, e32, g34, e34, g14, e14, ee, g35, e35, n0, g36, e36, d0, beq_self_eq_true, g37, e37, g39, e39, g38, e38, c3, Bool.and_self, Bool.not_true, Bool.not_false, Bool.false_eq_true, Option.isSome_some, Option.getD_some, Tr.val_test, Tr.val_fin, Tr.val_stop, ↓reduceIte]
              | none =>
                rw [hfl] at e34 e38
                have c3 : leF (0 : Int) (-1) = false := by rw [leF_eq]; rfl
                by_cases hz : (bst m k den R k.length).2 = 0
                · have hz1 := hb.2.2.2.2 hz
                  rw [if_pos hz] at e32
                  rw [hz, hz1] at e32 e36
                  have d0 : decide (0 < (0 : Int)) = false := rfl
                  simp only [f6, t6, g9, e9, b3, b4, g11, e11, g33, e33, g32, e32, g34, e34, g14, e14, ee, g35, e35, n0, g36, e36, d0, beq_self_eq_true, g37, e37, g39, e39, g38, e38, c3, Bool.and_self, Bool.not_true, Bool.not_false, Bool.false_eq_true, Option.isSome_some, Option.getD_some, Tr.val_test, Tr.val_fin, Tr.val_stop, ↓reduceIte]
                · rw [if_neg hz] at e32
                  have d0 : decide (0 < (bst m k den R k.length).2) = true := by simp; omega
                  simp only [f6, t6, g9, e9, b3, b4, g11, e11, g33, e33, g32, e32, g34, e34, g14, e14, ee, g35, e35, n0, g36, e36, d0, beq_self_eq_true, g37, e37, g39, e39, g38, e38, c3, Bool.and_self, Bool.not_true, Bool.not_false, Bool.false_eq_true, Option.isSome_some, Option.getD_some, Tr.val_test, Tr.val_fin, Tr.val_stop, ↓reduceIte]
            · rw [if_pos hdE] at e34
              have nd := n_not hdE
              by_cases hz : (bst m k den R k.length).2 = 0
              · have hz1 := hb.2.2.2.2 hz
                rw [if_pos hz] at e32
                rw [hz, hz1] at e32 e36
                have d0 : decide (0 < (0 : Int)) = false := rfl
                simp only [f6, t6, g9, e9, b3, b4, g11, e11, g33, e33, g32, e32, g34, e34, g14, e14, ee, g35, e35, n0, g36, e36, d0, beq_self_eq_true, g37, e37, nd, Bool.and_self, Bool.not_true, Bool.not_false, Bool.false_eq_true, Option.isSome_some, Option.getD_some, Tr.val_test, Tr.val_fin, Tr.val_stop, ↓reduceIte]
              · rw [if_neg hz] at e32
                have d0 : decide (0 < (bst m k den R k.length).2) = true := by simp; omega
                simp only [f6, t6, g9, e9, b3, b4, g11, e11, g33, e33, g32, e32, g34, e34, g14, e14, ee, g35, e35, n0, g36, e36, d0, beq_self_eq_true, g37, e37, nd, Bool.and_self, Bool.not_true, Bool.not_false, Bool.false_eq_true, Option.isSome_some, Option.getD_some, Tr.val_test, Tr.val_fin, Tr.val_stop, ↓reduceIte]
          · have ez : firstNZ [(chkE m k).2, afE den R m.length] = afE den R m.length := by rw [nz_two, if_neg (by simpa using hc)]
            have e32 := f32_err m k den R (by omega) (by rw [ez]; exact ha)
            have e34 := f34_err m k den R (by omega) (by omega) s l (by rw [ez]; exact ha)
            rw [ez] at e32 e34
            have na := n_not ha
            simp only [f6, t6, g9, e9, b3, b4, g11, e11, g33, e33, g32, e32, g34, e34, g14, e14, ee, g35, e35, na, beq_self_eq_true, Bool.and_self, Bool.not_true, Bool.not_false, Bool.false_eq_true, Option.isSome_some, Option.getD_some, Tr.val_test, Tr.val_fin, Tr.val_stop, ↓reduceIte]
        · have ez : firstNZ [(chkE m k).2, afE den R m.length] = (chkE m k).2 := by rw [nz_two, if_pos hc]
          have e32 := f32_err m k den R (by omega) (by rw [ez]; exact hc)
          have e34 := f34_err m k den R (by omega) (by omega) s l (by rw [ez]; exact hc)
          rw [ez] at e32 e34
          have nc : eqF (chkE m k).2 0 = false := by rw [eqF_eq]; simpa using hc
          have nc2 := n_not hc
          simp only [f6, t6, g9, e9, b3, b4, g11, e11, g33, e33, g32, e32, g34, e34, g14, e14, ee, nc, nc2, beq_self_eq_true, Bool.and_self, Bool.not_true, Bool.not_false, Bool.false_eq_true, Option.isSome_some, Option.getD_some, Tr.val_test, Tr.val_fin, Tr.val_stop, ↓reduceIte]
      · have b4 : (!leF (R.length : Int) 6) = true := by rw [leF_eq]; simp; omega
        simp only [f6, t6, g9, e9, b3, b4, Bool.not_true, Bool.not_false, Bool.false_eq_true, Option.isSome_some, Option.getD_some, Tr.val_test, Tr.val_fin, Tr.val_stop, ↓reduceIte]
  · have e9 : f9 ((m, (k, ())), ()) = some (false, ()) := by
      by_cases h1 : m.length ≤ 6
      · have b1 : leF (m.length : Int) 6 = true := by rw [leF_eq]; simp; omega
        have b2 : leF (k.length : Int) 6 = false := by rw [leF_eq]; simp; omega
        simp only [f9, t9, b1, b2, Tr.val_test, Tr.val_fin, ↓reduceIte]
      · have b1 : leF (m.length : Int) 6 = false := by rw [leF_eq]; simp; omega
        simp only [f9, t9, b1, Bool.false_eq_true, Tr.val_test, Tr.val_fin, ↓reduceIte]
    simp only [f6, t6, g9, e9, Bool.not_false, Option.isSome_some, Option.getD_some, Tr.val_test, Tr.val_fin, Tr.val_stop, ↓reduceIte]

theorem law6 (d : Tys.data as6) : Pure1 Go.Proofs.Try.prog 6 as6 [.bool] d (true, ()) := by
  have h := f6_eq d.1.1 d.1.2.1 d.2.1.1 d.2.1.2.1 d.2.2.1.1 d.2.2.1.2.1
  have hp : p6.pre d = true := by
    show Option.isSome (f6 d) = true
    rw [show f6 d = some (true, ()) from h]; rfl
  have hg : p6.fn d = (true, ()) := by
    show (f6 d).getD _ = _
    rw [show f6 d = some (true, ()) from h]; rfl
  have := ok6.runs d hp
  rw [hg] at this
  exact this

end Go.Vm.Mo
