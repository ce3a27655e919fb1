import Derived.Test.YtklljhgfniodaaaRsM
set_option linter.unusedVariables false
set_option linter.unusedSimpArgs false

namespace Go.Vm.Mo
open Go
set_option linter.unusedVariables false
set_option linter.unusedSimpArgs false

/-- The enclosure of a mode. -/
def encP (m k : List Int) (den : Int) (i : Nat) : Rg := (g54 (((m, (k, ())), ()), ((i : Int), (den, ())))).1

theorem encP_eq {m k : List Int} (hf : St.Fr m k) {den : Int} (h0 : 0 < den) (h : den ≤ 50) {i : Nat} (hi : i < k.length) :
    f54 (((m, (k, ())), ()), ((i : Int), (den, ()))) = some ((encP m k den i), ()) ∧ 0 ≤ (encP m k den i).1 ∧ (encP m k den i).1 ≤ (encP m k den i).2.1 ∧ (encP m k den i).2.1 ≤ 80 * den := by
  obtain ⟨a, b, h1, h2⟩ := enc_prog hf h0 h hi
  have e : encP m k den i = (a, (b, ())) := by
    unfold encP g54
    rw [h1]; rfl
  rw [e]
  exact ⟨h1, h2⟩

def failB (m k : List Int) (den : Int) (R : List Rg) (i : Nat) : Bool := !meetB (encP m k den i) (rAt R i)

/-- The first mode that isn't explained. -/
def flm (m k : List Int) (den : Int) (R : List Rg) : Option Nat := first (failB m k den R) R.length 0

theorem l104_eq {m k : List Int} (hf : St.Fr m k) {den : Int} (h0 : 0 < den) (h : den ≤ 50) {R : List Rg} (hR : R.length = k.length) :
    l104_0_1 ((R, ((R.length : Int), ((0 : Int), ()))), ((m, (k, ())), ((den, (R, ())), ()))) = match flm m k den R with
      | some i => some (.inr (((i : Int), ((19 : Int), ())), ((m, (k, ())), ((den, (R, ())), ()))))
      | none => some (.inl ((), ((m, (k, ())), ((den, (R, ())), ())))) := by
  have h4 := hf.top
  refine itr_search (step := s104_0_1) (fun i => ((R, ((R.length : Int), ((i : Int), ()))), ((m, (k, ())), ((den, (R, ())), ())))) (failB m k den R) (fun i => (((i : Int), ((19 : Int), ())), ((m, (k, ())), ((den, (R, ())), ())))) (n := R.length) ?_ ?_ (lt_rounds (by omega))
  · intro i hi
    have e := (encP_eq hf h0 h (i := i) (by omega)).1
    have e2 := f74_one (encP m k den i) (rAt R i)
    have c0 : (!leF (R.length : Int) (i : Int)) = true := by rw [leF_eq]; simp; omega
    have c1 : (decide ((0 : Int) ≤ (i : Int)) && decide ((i : Int) < (R.length : Int))) = true := by simp; omega
    have n19 : (!eqF (19 : Int) 0) = true := by rw [eqF_eq]; rfl
    have n0 := n_zero
    simp only [rAt] at e2
    simp only [s104_0_1, t104_0_1, Tr.val_test, Tr.val_fin, Tr.val_stop, c0, c1, Int.toNat_natCast, g54, e, g74, e2, g52, Option.isSome_some, Option.getD_some, ↓reduceIte, wrap64_nat (show i ≤ 9223372036854775806 by omega), failB, rAt]
    rcases Bool.eq_false_or_eq_true (meetB (encP m k den i) (R.getD i ((0 : Int), (0 : Int), ()))) with h1 | h1
    · simp only [h1, Bool.not_true, f52_eq (false, ((19 : Int), ())), n0, Bool.false_eq_true, Option.isSome_some, Option.getD_some, ↓reduceIte]
    · simp only [h1, Bool.not_false, f52_eq (true, ((19 : Int), ())), n19, Option.isSome_some, Option.getD_some, ↓reduceIte]
  · have c0 : (!leF (R.length : Int) (R.length : Int)) = false := by rw [leF_eq]; simp
    simp only [s104_0_1, t104_0_1, Tr.val_test, Tr.val_fin, Tr.val_stop, c0, Bool.false_eq_true, ↓reduceIte]

/-- The mode and the error. -/
def pf (m k : List Int) (den : Int) (R : List Rg) : Int × Int := match flm m k den R with
  | some i => ((i : Int), 19)
  | none => (0, 0)

theorem f70_all {m k : List Int} (hf : St.Fr m k) {den : Int} (h0 : 0 < den) (h : den ≤ 50) {R : List Rg} (hR : R.length = k.length) :
    f70 (((m, (k, ())), ()), ((den, (R, ())), ())) = some ((pf m k den R).1, ((pf m k den R).2, ())) := by
  have e := l104_eq hf h0 h hR
  unfold pf
  cases hc : flm m k den R with
  | some i =>
    rw [hc] at e
    simp only [f70, t70, e, isRet, r104_0_1, outR, Option.isSome_some, Tr.val_test, Tr.val_fin, Tr.val_stop, ↓reduceIte]
  | none =>
    rw [hc] at e
    simp only [f70, t70, e, isRet, Bool.false_eq_true, Option.isSome_some, Tr.val_test, Tr.val_fin, Tr.val_stop, ↓reduceIte]

theorem gt_set (k : List Int) (j : Nat) (l : Int) (i : Nat) (hj : j < k.length) : St.gt (k.set j l) i = if i = j then l else St.gt k i := by
  unfold St.gt
  by_cases c : i = j
  · subst c; simp [List.getD_eq_getElem?_getD, hj]
  · rw [if_neg c]
    simp [List.getD_eq_getElem?_getD, List.getElem?_set, Ne.symm c]

theorem Fr_set {m k : List Int} (hf : St.Fr m k) {j : Nat} (hj : j < k.length) {l : Int} (h1 : 1 ≤ l) (h2 : l ≤ 20) : St.Fr m (k.set j l) := by
  refine ⟨by simp; exact hf.pos, by simp; exact hf.len, by simp; exact hf.top, fun i hi => hf.mass i (by simpa using hi), fun i hi => ?_⟩
  rw [gt_set k j l i hj]
  split
  · exact ⟨h1, h2⟩
  · exact hf.spring i (by simpa using hi)

/-! What is left. -/

def down (P : Nat → Bool) : Nat → Nat
  | 0 => 0
  | l + 1 => if P (l + 1) = true then l + 1 else down P l

theorem down_le (P : Nat → Bool) : ∀ l, down P l ≤ l
  | 0 => Nat.le_refl _
  | l + 1 => by
    have := down_le P l
    rw [down]; split <;> omega

theorem itr_down {A B C : Type} {step : A → Option (Out A B C)} (st : Nat → A) (r : Nat → B) (P : Nat → Bool) (N : Nat) (h0 : step (st 0) = some (.brk (r 0)))
    (hs : ∀ l, l + 1 ≤ N → step (st (l + 1)) = if P (l + 1) = true then some (.brk (r (l + 1))) else some (.again (st l))) : ∀ m l, l ≤ N → l < m → itr step m (st l) = some (.inl (r (down P l)))
  | 0, l, _, h => by omega
  | m + 1, 0, _, _ => by rw [itr, h0]; rfl
  | m + 1, l + 1, hN, h => by
    rw [itr, hs l hN]
    by_cases c : P (l + 1) = true
    · rw [if_pos c, down, if_pos c]
    · rw [if_neg c, down, if_neg c]
      exact itr_down st r P N h0 hs m l (by omega) (by omega)

/-- Whether so much below a storey explains all. -/
def ex (m k : List Int) (den : Int) (R : List Rg) (j : Nat) (l : Nat) : Bool := (flm m (k.set j (l : Int)) den R).isNone

def lf (m k : List Int) (den : Int) (R : List Rg) (j : Nat) : Nat := down (ex m k den R j) (St.gt k j).toNat

theorem l68_eq {m k : List Int} (hf : St.Fr m k) {den : Int} (h0 : 0 < den) (h : den ≤ 50) {R : List Rg} (hR : R.length = k.length) {j : Nat} (hj : j < k.length) :
    l68_0 (((j : Int), (St.gt k j, ())), ((m, (k, ())), ((den, (R, ())), ()))) = some (.inl (((lf m k den R j : Int), ()), ((m, (k, ())), ((den, (R, ())), ())))) := by
  have h4 := hf.top
  have hk := hf.spring j hj
  have key := itr_down (step := s68_0) (fun l => (((j : Int), ((l : Int), ())), ((m, (k, ())), ((den, (R, ())), ())))) (fun l => (((l : Int), ()), ((m, (k, ())), ((den, (R, ())), ())))) (ex m k den R j) 20 ?_ ?_ rounds (St.gt k j).toNat (by omega) (lt_rounds (by omega))
  · rw [Int.toNat_of_nonneg (by omega)] at key
    exact key
  · have c0 : (!leF ((0 : Nat) : Int) 0) = false := by rw [leF_eq]; rfl
    simp only [s68_0, t68_0, Tr.val_test, Tr.val_fin, Tr.val_stop, c0, Bool.false_eq_true, ↓reduceIte]
  · intro l hl
    have hF := Fr_set hf hj (l := ((l + 1 : Nat) : Int)) (by omega) (by omega)
    have e := f70_all hF h0 h (R := R) (by simp; exact hR)
    have c0 : (!leF ((l + 1 : Nat) : Int) 0) = true := by rw [leF_eq]; simp <;> omega
    have c1 : Nat.beq k.length 0 = false := by cases hk : k.length with | zero => omega | succ n => rfl
    have c2 : Nat.ble k.length 0 = false := by cases hk : k.length with | zero => omega | succ n => rfl
    have c3 : (Nat.ble ((2 * k.length + 192) * 8) 281474976710656 && Nat.ble k.length 281474976710656) = true := by simp [Nat.ble_eq]; omega
    have c4 : (decide ((0 : Int) ≤ (j : Int)) && decide ((j : Int) < (k.length : Int))) = true := by simp; omega
    have c5 : Nat.ble (j + 1) k.length = true := by simp [Nat.ble_eq]; omega
    have c6 : Nat.beq k.length (k.set j ((l + 1 : Nat) : Int)).length = true := by rw [List.length_set]; simp
    have w : wrap64 (((l + 1 : Nat) : Int) - 1) = (l : Int) := by rw [wr_abs (by omega)]; omega
    cases hfl : flm m (k.set j ((l + 1 : Nat) : Int)) den R with
    | some i =>
      have n19 : eqF (19 : Int) 0 = false := by rw [eqF_eq]; rfl
      have ep : pf m (k.set j ((l + 1 : Nat) : Int)) den R = ((i : Int), 19) := by unfold pf; rw [hfl]
      have c7 : ex m k den R j (l + 1) = false := by unfold ex; rw [hfl]; rfl
      rw [ep] at e
      simp only [s68_0, t68_0, Tr.val_test, Tr.val_fin, Tr.val_stop, c0, Nat.zero_add, List.nil_append, c1, c2, c3, c4, Int.toNat_natCast, c5, c6, g70, e, w, n19, c7, Bool.false_eq_true, Option.isSome_some, Option.getD_some, ↓reduceIte]
    | none =>
      have n0 : eqF (0 : Int) 0 = true := by rw [eqF_eq]; rfl
      have ep : pf m (k.set j ((l + 1 : Nat) : Int)) den R = (0, 0) := by unfold pf; rw [hfl]
      have c7 : ex m k den R j (l + 1) = true := by unfold ex; rw [hfl]; rfl
      rw [ep] at e
      simp only [s68_0, t68_0, Tr.val_test, Tr.val_fin, Tr.val_stop, c0, Nat.zero_add, List.nil_append, c1, c2, c3, c4, Int.toNat_natCast, c5, c6, g70, e, n0, c7, Bool.false_eq_true, Option.isSome_some, Option.getD_some, ↓reduceIte]

theorem f68_all {m k : List Int} (hf : St.Fr m k) {den : Int} (h0 : 0 < den) (h : den ≤ 50) {R : List Rg} (hR : R.length = k.length) {j : Nat} (hj : j < k.length) :
    f68 (((m, (k, ())), ()), ((j : Int), ((den, (R, ())), ()))) = some ((lf m k den R j : Int), ()) := by
  have e := l68_eq hf h0 h hR hj
  have c4 : (decide ((0 : Int) ≤ (j : Int)) && decide ((j : Int) < (k.length : Int))) = true := by simp; omega
  simp only [f68, t68, c4, Int.toNat_natCast, show k.getD j 0 = St.gt k j from rfl, e, isBrk, b68_0, outB, Tr.val_test, Tr.val_fin, Tr.val_stop, ↓reduceIte]

theorem wi_no {lo hi x : Int} (h : ¬ (lo ≤ x ∧ x ≤ hi)) : wi lo hi x = false := by
  cases hw : wi lo hi x
  · rfl
  · exact absurd (wi_iff.1 hw) h

def afE (den : Int) (R : List Rg) (n : Nat) : Int := if 1 ≤ den ∧ den ≤ 50 then (if R.length = n then rsF 0 1000000000 R else 10) else 2

theorem f67_eq (den : Int) (R : List Rg) (n : Nat) (h : R.length ≤ 1000) : f67 ((den, (R, ())), ((n : Int), ())) = some (afE den R n, ()) := by
  have e1 := f53_eq den
  have e2 := f103_eq 0 1000000000 R (by omega)
  have z : ∀ a b : Int, f72 ([a, b], ()) = some (firstNZ [a, b], ()) := fun a b => f72_eq [a, b] (by simp)
  have n0 := n_zero
  have n2 : (!eqF (2 : Int) 0) = true := n_not (by decide)
  have n10 : (!eqF (10 : Int) 0) = true := n_not (by decide)
  have z00 : firstNZ [(0 : Int), 0] = 0 := rfl
  have z010 : firstNZ [(0 : Int), 10] = 10 := rfl
  have z2 : ∀ b : Int, firstNZ [(2 : Int), b] = 2 := fun b => by rw [nz_two]; rfl
  unfold afE
  by_cases c : 1 ≤ den ∧ den ≤ 50
  · rw [if_pos c] at e1 ⊢
    by_cases c1 : R.length = n
    · have b : (!eqF (R.length : Int) (n : Int)) = false := by rw [eqF_eq, c1]; simp
      rw [if_pos c1]
      simp only [f67, t67, g53, e1, b, g52, f52_eq (false, ((10 : Int), ())), g72, z, z00, n0, g103, e2, Bool.false_eq_true, Option.isSome_some, Option.getD_some, Tr.val_test, Tr.val_fin, Tr.val_stop, ↓reduceIte]
    · have b : (!eqF (R.length : Int) (n : Int)) = true := by rw [eqF_eq]; simp; omega
      rw [if_neg c1]
      simp only [f67, t67, g53, e1, b, g52, f52_eq (true, ((10 : Int), ())), g72, z, z010, n10, Option.isSome_some, Option.getD_some, Tr.val_test, Tr.val_fin, Tr.val_stop, ↓reduceIte]
  · rw [if_neg c] at e1 ⊢
    simp only [f67, t67, g53, e1, g52, f52_eq ((!eqF (R.length : Int) (n : Int)), ((10 : Int), ())), g72, z, z2, n2, Option.isSome_some, Option.getD_some, Tr.val_test, Tr.val_fin, Tr.val_stop, ↓reduceIte]

theorem afE_ok {den : Int} {R : List Rg} {n : Nat} (h : afE den R n = 0) : (1 ≤ den ∧ den ≤ 50) ∧ R.length = n := by
  unfold afE at h
  split at h
  · split at h
    · rename_i a b; exact ⟨a, b⟩
    · simp at h
  · simp at h

theorem f33_eq (den : Int) (R : List Rg) (h : R.length ≤ 1000) : f33 ((den, (R, ())), ()) = some ((den, (R, ())), ()) := by
  simp only [f33, t33, g41, f41_eq R h, Option.isSome_some, Option.getD_some, Tr.val_test, Tr.val_fin, ↓reduceIte]

/-- The error of a damage of a valid frame. -/
def dE (k : List Int) (s l : Int) : Int := if 0 ≤ s ∧ s ≤ (k.length : Int) - 1 then (if 1 ≤ l ∧ l ≤ k.getD s.toNat 0 then 0 else 2) else 6

theorem f37_eq (m k : List Int) (s l : Int) (hk : k.length ≤ 6) : f37 ((m, (k, ())), ((s, (l, ())), ())) = some (dE k s l, ()) := by
  have w : wrap64 ((k.length : Int) - 1) = (k.length : Int) - 1 := wr_abs (by omega)
  unfold dE
  by_cases c : 0 ≤ s ∧ s ≤ (k.length : Int) - 1
  · have c1 : (decide ((0 : Int) ≤ s) && decide (s < (k.length : Int))) = true := by simp; omega
    have cw : wi 0 ((k.length : Int) - 1) s = true := wi_iff.2 c
    rw [if_pos c]
    by_cases c2 : 1 ≤ l ∧ l ≤ k.getD s.toNat 0
    · have cv : wi 1 (k.getD s.toNat 0) l = true := wi_iff.2 c2
      rw [if_pos c2]
      simp only [f37, t37, w, g21, f21_eq (s, ((0 : Int), ((k.length : Int) - 1, ()))), cw, c1, f21_eq (l, ((1 : Int), (k.getD s.toNat 0, ()))), cv, Bool.not_true, Bool.false_eq_true, Option.isSome_some, Option.getD_some, Tr.val_test, Tr.val_fin, Tr.val_stop, ↓reduceIte]
    · have cv : wi 1 (k.getD s.toNat 0) l = false := wi_no c2
      rw [if_neg c2]
      simp only [f37, t37, w, g21, f21_eq (s, ((0 : Int), ((k.length : Int) - 1, ()))), cw, c1, f21_eq (l, ((1 : Int), (k.getD s.toNat 0, ()))), cv, Bool.not_true, Bool.not_false, Bool.false_eq_true, Option.isSome_some, Option.getD_some, Tr.val_test, Tr.val_fin, Tr.val_stop, ↓reduceIte]
  · have cw : wi 0 ((k.length : Int) - 1) s = false := wi_no c
    rw [if_neg c]
    simp only [f37, t37, w, g21, f21_eq (s, ((0 : Int), ((k.length : Int) - 1, ()))), cw, Bool.not_false, Option.isSome_some, Option.getD_some, Tr.val_test, Tr.val_fin, Tr.val_stop, ↓reduceIte]

theorem f39_eq {m k : List Int} (hf : St.Fr m k) {j : Nat} (hj : j < k.length) (l : Int) : f39 ((m, (k, ())), (((j : Int), (l, ())), ())) = some ((m, (k.set j l, ())), ()) := by
  have h4 := hf.top
  have hl := hf.len
  have b1 : Nat.beq m.length 0 = false := by cases hm : m.length with | zero => omega | succ n => rfl
  have b2 : Nat.ble m.length 0 = false := by cases hm : m.length with | zero => omega | succ n => rfl
  have b3 : (Nat.ble ((2 * m.length + 192) * 8) 281474976710656 && Nat.ble m.length 281474976710656) = true := by simp [Nat.ble_eq]; omega
  have c1 : Nat.beq k.length 0 = false := by cases hk : k.length with | zero => omega | succ n => rfl
  have c2 : Nat.ble k.length 0 = false := by cases hk : k.length with | zero => omega | succ n => rfl
  have c3 : (Nat.ble ((2 * k.length + 192) * 8) 281474976710656 && Nat.ble k.length 281474976710656) = true := by simp [Nat.ble_eq]; omega
  have c4 : (decide ((0 : Int) ≤ (j : Int)) && decide ((j : Int) < (k.length : Int))) = true := by simp; omega
  have c5 : Nat.ble (j + 1) k.length = true := by simp [Nat.ble_eq]; omega
  have b6 : Nat.beq m.length m.length = true := by simp
  have c6 : Nat.beq k.length (k.set j l).length = true := by simp
  simp only [f39, t39, Tr.val_test, Tr.val_fin, Tr.val_stop, Nat.zero_add, List.nil_append, b1, b2, b3, c1, c2, c3, c4, Int.toNat_natCast, c5, b6, c6, Bool.false_eq_true, ↓reduceIte]

theorem f34_ok {m k : List Int} (hf : St.Fr m k) {den : Int} {R : List Rg} (ha : afE den R m.length = 0) (s l : Int) :
    f34 ((m, (k, ())), ((den, (R, ())), ((s, (l, ())), ()))) = some (if dE k s l ≠ 0 then ((0 : Int), (dE k s l, ())) else ((pf m (k.set s.toNat l) den R).1, ((pf m (k.set s.toNat l) den R).2, ()))) := by
  have h4 := hf.top
  have hl := hf.len
  obtain ⟨hd, hR⟩ := afE_ok ha
  have e67 := f67_eq den R m.length (by omega)
  rw [ha] at e67
  have w : wrap64 ((m.length : Int) - 1) = (m.length : Int) - 1 := wr_abs (by omega)
  have e78 := f78_ok hf
  have n0 := n_zero
  have n6 : (!eqF (6 : Int) 0) = true := n_not (by decide)
  have z00 : f72 ([0, 0], ()) = some (0, ()) := f72_eq [0, 0] (by decide)
  have z06 : f72 ([0, 6], ()) = some (6, ()) := f72_eq [0, 6] (by decide)
  have e1 := f51_one 0 ((m.length : Int) - 1) s
  have b0 : f52 (false, ((6 : Int), ())) = some (0, ()) := f52_eq _
  have b1 : f52 (true, ((6 : Int), ())) = some (6, ()) := f52_eq _
  unfold dE
  by_cases c : 0 ≤ s ∧ s ≤ (k.length : Int) - 1
  · rw [if_pos c]
    rw [show wi 0 ((m.length : Int) - 1) s = true from wi_iff.2 (by omega)] at e1
    obtain ⟨j, rfl⟩ : ∃ j : Nat, s = (j : Int) := ⟨s.toNat, by omega⟩
    have hj : j < k.length := by omega
    have c4 : (decide ((0 : Int) ≤ (j : Int)) && decide ((j : Int) < (k.length : Int))) = true := by simp; omega
    have ek : k.getD j 0 = St.gt k j := rfl
    have hk := hf.spring j hj
    have e2 := f51_one 1 (St.gt k j) l
    rw [Int.toNat_natCast, ek]
    by_cases c2 : 1 ≤ l ∧ l ≤ St.gt k j
    · rw [if_pos c2, if_neg (by decide)]
      rw [show wi 1 (St.gt k j) l = true from wi_iff.2 c2] at e2
      have hF := Fr_set hf hj (l := l) c2.1 (by omega)
      have e := f70_all hF (by omega) hd.2 (R := R) (by simp; omega)
      have d1 : Nat.beq k.length 0 = false := by cases hk : k.length with | zero => omega | succ n => rfl
      have d2 : Nat.ble k.length 0 = false := by cases hk : k.length with | zero => omega | succ n => rfl
      have d3 : (Nat.ble ((2 * k.length + 192) * 8) 281474976710656 && Nat.ble k.length 281474976710656) = true := by simp [Nat.ble_eq]; omega
      have d5 : Nat.ble (j + 1) k.length = true := by simp [Nat.ble_eq]; omega
      have d6 : Nat.beq k.length (k.set j l).length = true := by simp
      simp only [f34, t34, w, g51, e1, g67, e67, g52, b0, g78, e78, g72, z00, n0, c4, Int.toNat_natCast, ek, e2, Nat.zero_add, List.nil_append, d1, d2, d3, d5, d6, g70, e, Bool.not_true, Bool.false_eq_true, Option.isSome_some, Option.getD_some, Tr.val_test, Tr.val_fin, Tr.val_stop, ↓reduceIte]
    · rw [if_neg c2, if_pos (by decide)]
      rw [show wi 1 (St.gt k j) l = false from wi_no c2] at e2
      simp only [f34, t34, w, g51, e1, g67, e67, g52, b0, g78, e78, g72, z00, n0, c4, Int.toNat_natCast, ek, e2, Bool.not_true, Bool.not_false, Bool.false_eq_true, Option.isSome_some, Option.getD_some, Tr.val_test, Tr.val_fin, Tr.val_stop, ↓reduceIte]
  · rw [if_neg c, if_pos (by decide)]
    rw [show wi 0 ((m.length : Int) - 1) s = false from wi_no (by omega)] at e1
    simp only [f34, t34, w, g51, e1, g67, e67, g52, b1, g78, e78, g72, z06, n6, Bool.not_false, Option.isSome_some, Option.getD_some, Tr.val_test, Tr.val_fin, Tr.val_stop, ↓reduceIte]

/-- The best of the first storeys. -/
def bst (m k : List Int) (den : Int) (R : List Rg) : Nat → Int × Int
  | 0 => (0, 0)
  | i + 1 => if (bst m k den R i).2 * St.gt k i < (lf m k den R i : Int) * St.gt k (bst m k den R i).1.toNat then ((i : Int), (lf m k den R i : Int)) else bst m k den R i

theorem bst_ok {m k : List Int} (hf : St.Fr m k) (den : Int) (R : List Rg) : ∀ i, i ≤ k.length → 0 ≤ (bst m k den R i).1 ∧ (bst m k den R i).1 < (k.length : Int) ∧ 0 ≤ (bst m k den R i).2 ∧ (bst m k den R i).2 ≤ 20 ∧ ((bst m k den R i).2 = 0 → (bst m k den R i).1 = 0)
  | 0, _ => by
    have := hf.pos
    exact ⟨Int.le_refl _, by show (0 : Int) < _; omega, Int.le_refl _, by show (0 : Int) ≤ 20; decide, fun _ => rfl⟩
  | i + 1, h => by
    obtain ⟨h1, h2, h3, h4, h5⟩ := bst_ok hf den R i (by omega)
    have hk := hf.spring i (by omega)
    have hL := down_le (ex m k den R i) (St.gt k i).toNat
    rw [bst]
    split
    · rename_i hc
      have a1 := Int.mul_nonneg h3 (show 0 ≤ St.gt k i by omega)
      refine ⟨by simp only; omega, by simp only; omega, by simp only; omega, by unfold lf; simp only; omega, fun h0 => ?_⟩
      simp only at h0
      rw [h0, Int.zero_mul] at hc
      omega
    · exact ⟨h1, h2, h3, h4, h5⟩

theorem l32_eq {m k : List Int} (hf : St.Fr m k) {den : Int} (h0 : 0 < den) (h : den ≤ 50) {R : List Rg} (hR : R.length = k.length) :
    l32_0 ((k, ((k.length : Int), ((0 : Int), ()))), ((m, (k, ())), ((den, (R, ())), (((0 : Int), ((0 : Int), ())), ((m, (k, ())), (((0 : Int), ((0 : Int), ())), ())))))) =
      some (.inl ((), ((m, (k, ())), ((den, (R, ())), (((0 : Int), ((0 : Int), ())), ((m, (k, ())), (((bst m k den R k.length).1, ((bst m k den R k.length).2, ())), ()))))))) := by
  have h4 := hf.top
  refine itr_brk (step := s32_0) (fun i => ((k, ((k.length : Int), ((i : Int), ()))), ((m, (k, ())), ((den, (R, ())), (((0 : Int), ((0 : Int), ())), ((m, (k, ())), (((bst m k den R i).1, ((bst m k den R i).2, ())), ()))))))) (n := k.length) ?_ ?_ (lt_rounds (by omega))
  · intro i hi
    obtain ⟨h1, h2, h3, h5, h6⟩ := bst_ok hf den R i (by omega)
    have e := f68_all hf h0 h hR hi
    have hk := hf.spring i hi
    have hL := down_le (ex m k den R i) (St.gt k i).toNat
    have hk2 := hf.spring (bst m k den R i).1.toNat (by omega)
    have c0 : (!leF (k.length : Int) (i : Int)) = true := by rw [leF_eq]; simp; omega
    have c1 : (decide ((0 : Int) ≤ (i : Int)) && decide ((i : Int) < (k.length : Int))) = true := by simp; omega
    have c2 : (decide ((0 : Int) ≤ (bst m k den R i).1) && decide ((bst m k den R i).1 < (k.length : Int))) = true := by simp; omega
    have mb : ∀ a b : Int, a.natAbs ≤ 20 → b.natAbs ≤ 20 → wrap64 (a * b) = a * b := by
      intro a b ha hb
      refine wr_abs ?_
      rw [Int.natAbs_mul]
      exact Nat.le_trans (Nat.mul_le_mul ha hb) (by decide)
    have w1 := mb (lf m k den R i : Int) (St.gt k (bst m k den R i).1.toNat) (by unfold lf; omega) (by omega)
    have w2 := mb (bst m k den R i).2 (St.gt k i) (by omega) (by omega)
    simp only [s32_0, t32_0, Tr.val_test, Tr.val_fin, Tr.val_stop, c0, c1, Int.toNat_natCast, g68, e, c2, show k.getD i 0 = St.gt k i from rfl, show k.getD (bst m k den R i).1.toNat 0 = St.gt k (bst m k den R i).1.toNat from rfl, w1, w2, Option.isSome_some, Option.getD_some, ↓reduceIte, wrap64_nat (show i ≤ 9223372036854775806 by omega)]
    rw [bst]
    by_cases c : (bst m k den R i).2 * St.gt k i < (lf m k den R i : Int) * St.gt k (bst m k den R i).1.toNat
    · have d : (!leF ((lf m k den R i : Int) * St.gt k (bst m k den R i).1.toNat) ((bst m k den R i).2 * St.gt k i)) = true := by rw [leF_eq]; simpa using c
      rw [if_pos c]
      simp only [d, ↓reduceIte]
    · have d : (!leF ((lf m k den R i : Int) * St.gt k (bst m k den R i).1.toNat) ((bst m k den R i).2 * St.gt k i)) = false := by rw [leF_eq]; simpa using c
      rw [if_neg c]
      simp only [d, Bool.false_eq_true, ↓reduceIte]
  · have c0 : (!leF (k.length : Int) (k.length : Int)) = false := by rw [leF_eq]; simp
    simp only [s32_0, t32_0, Tr.val_test, Tr.val_fin, Tr.val_stop, c0, Bool.false_eq_true, ↓reduceIte]

theorem f32_ok {m k : List Int} (hf : St.Fr m k) {den : Int} {R : List Rg} (ha : afE den R m.length = 0) :
    f32 ((m, (k, ())), ((den, (R, ())), ())) = some (((bst m k den R k.length).1, ((bst m k den R k.length).2, ())), (if (bst m k den R k.length).2 = 0 then 12 else 0, ())) := by
  have h4 := hf.top
  have hl := hf.len
  obtain ⟨hd, hR⟩ := afE_ok ha
  have e67 := f67_eq den R m.length (by omega)
  rw [ha] at e67
  have e := l32_eq hf (by omega) hd.2 (R := R) (by omega)
  have n0 := n_zero
  have z0 : f72 ([0], ()) = some (0, ()) := f72_eq [0] (by decide)
  have z00 : f72 ([0, 0], ()) = some (0, ()) := f72_eq [0, 0] (by decide)
  have e78 := f78_ok hf
  simp only [f32, t32, g67, e67, g78, e78, g72, z0, z00, n0, e, isBrk, b32_0, outB, g52, f52_eq (eqF (bst m k den R k.length).2 0, ((12 : Int), ())), Bool.false_eq_true, Option.isSome_some, Option.getD_some, Tr.val_test, Tr.val_fin, Tr.val_stop, ↓reduceIte]
  by_cases c : (bst m k den R k.length).2 = 0
  · rw [if_pos c, c]; rfl
  · have : eqF (bst m k den R k.length).2 0 = false := by rw [eqF_eq]; simpa using c
    rw [if_neg c, this]; rfl

def upd (k : List Int) (b : Int × Int) (i l : Nat) : Int × Int := if b.2 * St.gt k i < (l : Int) * St.gt k b.1.toNat then ((i : Int), (l : Int)) else b

end Go.Vm.Mo

namespace Go.Vm.Mo
open Go
set_option linter.unusedVariables false
set_option linter.unusedSimpArgs false

theorem encP_ok {m k : List Int} (hf : St.Fr m k) {den : Int} (h0 : 0 < den) (h : den ≤ 50) {i : Nat} (hi : i < k.length) : 0 ≤ (encP m k den i).1 ∧ (encP m k den i).1 ≤ (encP m k den i).2.1 ∧ (encP m k den i).2.1 ≤ 80 * den := (encP_eq hf h0 h hi).2

/-- A range, widened. -/
def wide (w : Int) (r : Rg) : Rg := ((if 0 < r.1 - w then r.1 - w else 0), (r.2.1 + w, ()))

def encs (m k : List Int) (den : Int) (n : Nat) : List Rg := (List.range n).map (encP m k den)
def wides (m k : List Int) (den w : Int) (n : Nat) : List Rg := (List.range n).map fun i => wide w (encP m k den i)

theorem encs_len (m k : List Int) (den : Int) (n : Nat) : (encs m k den n).length = n := by simp [encs]
theorem wides_len (m k : List Int) (den w : Int) (n : Nat) : (wides m k den w n).length = n := by simp [wides]
theorem encs_succ (m k : List Int) (den : Int) (n : Nat) : encs m k den n ++ [encP m k den n] = encs m k den (n + 1) := by simp [encs, List.range_succ]
theorem wides_succ (m k : List Int) (den w : Int) (n : Nat) : wides m k den w n ++ [wide w (encP m k den n)] = wides m k den w (n + 1) := by simp [wides, List.range_succ]
theorem encs_at (m k : List Int) (den : Int) {n i : Nat} (h : i < n) : rAt (encs m k den n) i = encP m k den i := by simp [rAt, encs, List.getD_eq_getElem?_getD, h]
theorem wides_at (m k : List Int) (den w : Int) {n i : Nat} (h : i < n) : rAt (wides m k den w n) i = wide w (encP m k den i) := by simp [rAt, wides, List.getD_eq_getElem?_getD, h]

theorem meet_wide {r : Rg} {w : Int} (h0 : 0 ≤ r.1) (h : r.1 ≤ r.2.1) (hw : 0 ≤ w) : meetB r (wide w r) = true := by
  unfold meetB wide mx mn
  simp only [decide_eq_true_eq]
  split <;> split <;> (try split) <;> omega

theorem wide_ok {m k : List Int} (hf : St.Fr m k) {den : Int} (h0 : 0 < den) (h : den ≤ 20) {w : Int} (hw : 0 ≤ w) (hw5 : w ≤ 5) {i : Nat} (hi : i < k.length) :
    0 ≤ (wide w (encP m k den i)).1 ∧ (wide w (encP m k den i)).1 ≤ (wide w (encP m k den i)).2.1 ∧ (wide w (encP m k den i)).2.1 ≤ 2000 := by
  obtain ⟨h1, h2, h3⟩ := encP_ok hf h0 (by omega) hi
  unfold wide
  refine ⟨?_, ?_, ?_⟩ <;> simp only <;> (try split) <;> omega

theorem rsF_zero {lo hi : Int} {l : List Rg} (h : ∀ i, i < l.length → lo ≤ (rAt l i).1 ∧ (rAt l i).1 ≤ (rAt l i).2.1 ∧ (rAt l i).2.1 ≤ hi) : rsF lo hi l = 0 := by
  unfold rsF
  rw [first_of_none]
  intro j _ hj
  obtain ⟨a, b, c⟩ := h j (by omega)
  have e : rgE lo hi (rAt l j) = 0 := by
    unfold rgE
    rw [show wi lo hi (rAt l j).1 = true from wi_iff.2 (by omega), show wi lo hi (rAt l j).2.1 = true from wi_iff.2 (by omega)]
    simp [b]
  simp [e]

theorem flm_none {m k : List Int} {den : Int} {R : List Rg} (h : ∀ i, i < R.length → meetB (encP m k den i) (rAt R i) = true) : flm m k den R = none := by
  unfold flm
  refine first_of_none fun j _ hj => ?_
  unfold failB
  rw [h j (by omega)]
  rfl

theorem set_self {k : List Int} {j : Nat} (hj : j < k.length) : k.set j (St.gt k j) = k := by
  unfold St.gt
  rw [List.getD_eq_getElem?_getD, List.getElem?_eq_getElem hj]
  simp

theorem down_top {P : Nat → Bool} {l : Nat} (h : P l = true) (hl : 0 < l) : down P l = l := by
  cases l with
  | zero => omega
  | succ l => rw [down, if_pos h]

theorem down_ge {P : Nat → Bool} {x : Nat} (hx : P x = true) : ∀ l, x ≤ l → x ≤ down P l
  | 0, h => by rw [down]; exact h
  | l + 1, h => by
    rw [down]
    split
    · exact h
    · rename_i hn
      by_cases c : x = l + 1
      · subst c; exact absurd hx hn
      · exact down_ge hx l (by omega)

theorem down_ok {P : Nat → Bool} : ∀ l, 0 < down P l → P (down P l) = true
  | 0, h => by simp [down] at h
  | l + 1, h => by
    rw [down] at h ⊢
    by_cases c : P (l + 1) = true
    · rw [if_pos c]; exact c
    · rw [if_neg c] at h ⊢
      exact down_ok l h

/-- The best is no worse than any. -/
theorem bst_ge {m k : List Int} (hf : St.Fr m k) (den : Int) (R : List Rg) : ∀ i, i ≤ k.length → ∀ j, j < i → (lf m k den R j : Int) * St.gt k (bst m k den R i).1.toNat ≤ (bst m k den R i).2 * St.gt k j
  | 0, _, j, hj => by omega
  | i + 1, h, j, hj => by
    have ih := bst_ge hf den R i (by omega)
    obtain ⟨h1, h2, h3, h4, h5⟩ := bst_ok hf den R i (by omega)
    have hki := hf.spring i (by omega)
    have hkj := hf.spring j (by omega)
    have hkb := hf.spring (bst m k den R i).1.toNat (by omega)
    rw [bst]
    split
    · rename_i hc
      simp only [Int.toNat_natCast]
      by_cases c : j = i
      · subst c; exact Int.le_refl _
      · have a := ih j (by omega)
        generalize (lf m k den R j : Int) = Lj at *
        generalize (lf m k den R i : Int) = Li at *
        generalize (bst m k den R i).2 = B at *
        generalize St.gt k (bst m k den R i).1.toNat = kb at *
        generalize St.gt k i = ki at *
        generalize St.gt k j = kj at *
        rcases Int.lt_or_le (Li * kj) (Lj * ki) with hlt | hle
        · exfalso
          have p1 : (Li * kj) * kb < (Lj * ki) * kb := Int.mul_lt_mul_of_pos_right hlt (by omega)
          have p2 : (Lj * kb) * ki ≤ (B * kj) * ki := Int.mul_le_mul_of_nonneg_right a (by omega)
          have p3 : (B * ki) * kj ≤ (Li * kb) * kj := Int.mul_le_mul_of_nonneg_right (Int.le_of_lt hc) (by omega)
          have e1 : (Lj * ki) * kb = (Lj * kb) * ki := by grind
          have e2 : (B * kj) * ki = (B * ki) * kj := by grind
          have e3 : (Li * kb) * kj = (Li * kj) * kb := by grind
          omega
        · exact hle
    · rename_i hc
      by_cases c : j = i
      · subst c; omega
      · exact ih j (by omega)

/-- .. and explains all. -/
theorem bst_ex {m k : List Int} (hf : St.Fr m k) (den : Int) (R : List Rg) : ∀ i, i ≤ k.length → 0 < (bst m k den R i).2 → flm m (k.set (bst m k den R i).1.toNat (bst m k den R i).2) den R = none ∧ (bst m k den R i).2 ≤ St.gt k (bst m k den R i).1.toNat
  | 0, _, h => by simp [bst] at h
  | i + 1, h, hp => by
    have ih := bst_ex hf den R i (by omega)
    have hki := hf.spring i (by omega)
    rw [bst] at hp ⊢
    by_cases hc : (bst m k den R i).2 * St.gt k i < (lf m k den R i : Int) * St.gt k (bst m k den R i).1.toNat
    · rw [if_pos hc] at hp ⊢
      simp only [Int.toNat_natCast] at hp ⊢
      have hL : 0 < lf m k den R i := by omega
      have ho := down_ok _ hL
      have hle := down_le (ex m k den R i) (St.gt k i).toNat
      refine ⟨?_, by unfold lf; omega⟩
      unfold ex at ho
      exact Option.isNone_iff_eq_none.1 ho
    · rw [if_neg hc] at hp ⊢
      exact ih hp

theorem bst_self {m k : List Int} (hf : St.Fr m k) {den : Int} {R : List Rg} (h : flm m k den R = none) : ∀ i, i + 1 ≤ k.length → bst m k den R (i + 1) = (0, St.gt k 0) := by
  have hL : ∀ j, j < k.length → (lf m k den R j : Int) = St.gt k j := by
    intro j hj
    have hk := hf.spring j hj
    have : lf m k den R j = (St.gt k j).toNat := by
      refine down_top ?_ (by omega)
      unfold ex
      rw [Int.toNat_of_nonneg (by omega), set_self hj, h]
      rfl
    rw [this, Int.toNat_of_nonneg (by omega)]
  intro i
  induction i with
  | zero =>
    intro hi
    have hk := hf.spring 0 (by omega)
    have hp := Int.mul_pos (show 0 < St.gt k 0 by omega) (show 0 < St.gt k 0 by omega)
    show (if (0 : Int) * St.gt k 0 < (lf m k den R 0 : Int) * St.gt k 0 then (((0 : Nat) : Int), (lf m k den R 0 : Int)) else (0, 0)) = _
    rw [hL 0 (by omega), Int.zero_mul, if_pos hp]
    rfl
  | succ i ih =>
    intro hi
    rw [bst, ih (by omega), hL (i + 1) (by omega)]
    simp only [Int.toNat_zero]
    rw [if_neg (by rw [Int.mul_comm]; omega)]

theorem dam_none {a b : List Rg} : ∀ n, (∀ i, i < n → meetB (rAt a i) (rAt b i) = true) → dam a b n = []
  | 0, _ => rfl
  | n + 1, h => by
    rw [dam, dam_none n (fun i hi => h i (by omega)), h n (by omega)]
    rfl

theorem l7_eq {m k kw : List Int} (hf : St.Fr m k) (hw : St.Fr m kw) {den w : Int} (h0 : 0 < den) (h : den ≤ 20) (hw0 : 0 ≤ w) (hw5 : w ≤ 5) (s l : Int) :
    l7_0 ((den, (w, (([] : List Rg), ((0 : Int), ())))), ((m, (k, ())), ((s, (l, ())), ((m, (kw, ())), ((den, (([] : List Rg), ())), ((den, (([] : List Rg), ())), ())))))) =
      some (.inl ((encs m k den k.length, ()), ((m, (k, ())), ((s, (l, ())), ((m, (kw, ())), ((den, (wides m k den w k.length, ())), ((den, (wides m kw den w k.length, ())), ()))))))) := by
  have h4 := hf.top
  have hl := hf.len
  have hlw := hw.len
  refine itr_brk (step := s7_0) (fun i => ((den, (w, (encs m k den i, ((i : Int), ())))), ((m, (k, ())), ((s, (l, ())), ((m, (kw, ())), ((den, (wides m k den w i, ())), ((den, (wides m kw den w i, ())), ()))))))) (n := k.length) ?_ ?_ (lt_rounds (by omega))
  · intro i hi
    obtain ⟨a1, a2, a3⟩ := encP_ok hf h0 (by omega) hi
    obtain ⟨b1, b2, b3⟩ := encP_ok hw h0 (by omega) (i := i) (by omega)
    have e1 : f13 ((m, (k, ())), ((i : Int), (den, ()))) = some (encP m k den i, ((0 : Int), ())) := f13_ok hf (by omega) (by omega) (encP_eq hf h0 (by omega) hi).1
    have e2 : f13 ((m, (kw, ())), ((i : Int), (den, ()))) = some (encP m kw den i, ((0 : Int), ())) := f13_ok hw (by omega) (by omega) (encP_eq hw h0 (by omega) (i := i) (by omega)).1
    have e11 := f11_eq m k (by omega) (by omega)
    have e11w := f11_eq m kw (by omega) (by omega)
    have e21 := f21_eq ((encP m k den i).1, ((0 : Int), ((10000 : Int), ())))
    rw [show wi 0 10000 (encP m k den i).1 = true from wi_iff.2 (by omega)] at e21
    have e21w := f21_eq ((encP m kw den i).1, ((0 : Int), ((10000 : Int), ())))
    rw [show wi 0 10000 (encP m kw den i).1 = true from wi_iff.2 (by omega)] at e21w
    have c0 : (!leF (m.length : Int) (i : Int)) = true := by rw [leF_eq]; simp; omega
    have cn : (Nat.ble ((2 * (i + 1) + 192) * 16) 281474976710656 && Nat.ble (i + 1) 281474976710656) = true := by simp [Nat.ble_eq]; omega
    have n0 := n_zero
    have w1 : wrap64 ((encP m k den i).1 - w) = (encP m k den i).1 - w := wr_abs (by omega)
    have w2 : wrap64 ((encP m k den i).2.1 + w) = (encP m k den i).2.1 + w := wr_abs (by omega)
    have w3 : wrap64 ((encP m kw den i).1 - w) = (encP m kw den i).1 - w := wr_abs (by omega)
    have w4 : wrap64 ((encP m kw den i).2.1 + w) = (encP m kw den i).2.1 + w := wr_abs (by omega)
    have s1 : encs m k den i ++ [((encP m k den i).1, ((encP m k den i).2.1, ()))] = encs m k den (i + 1) := encs_succ m k den i
    have s2 : wides m k den w i ++ [((if (0 : Int) < (encP m k den i).1 - w then (encP m k den i).1 - w else 0), ((encP m k den i).2.1 + w, ()))] = wides m k den w (i + 1) := wides_succ m k den w i
    have s3 : wides m kw den w i ++ [((if (0 : Int) < (encP m kw den i).1 - w then (encP m kw den i).1 - w else 0), ((encP m kw den i).2.1 + w, ()))] = wides m kw den w (i + 1) := wides_succ m kw den w i
    simp only [s7_0, t7_0, Tr.val_test, Tr.val_fin, Tr.val_stop, c0, g11, e11, e11w, g13, e1, e2, n0, g21, e21, e21w, encs_len, wides_len, cn, w1, w2, w3, w4, s1, s2, s3, Bool.not_true, Bool.false_eq_true, Option.isSome_some, Option.getD_some, ↓reduceIte, wrap64_nat (show i ≤ 9223372036854775806 by omega)]
  · have c0 : (!leF (m.length : Int) (k.length : Int)) = false := by rw [leF_eq]; simp; omega
    simp only [s7_0, t7_0, Tr.val_test, Tr.val_fin, Tr.val_stop, c0, Bool.false_eq_true, ↓reduceIte]

theorem f7_core {m k : List Int} (hf : St.Fr m k) (h3 : k.length ≤ 3) {den w l : Int} {j : Nat} (h0 : 0 < den) (h : den ≤ 20) (hw0 : 0 ≤ w) (hw5 : w ≤ 5) (hj : j < k.length) (hl1 : 1 ≤ l) (hl2 : l ≤ St.gt k j) (e14 : f14 ((m, (k, ())), ()) = some (0, ())) (e37 : f37 ((m, (k, ())), (((j : Int), (l, ())), ())) = some (0, ())) :
    f7 ((m, (k, ())), (((j : Int), (l, ())), ((den, (w, ())), ()))) = some (true, ()) := by
  have hl := hf.len
  have hp := hf.pos
  have hk := hf.spring j hj
  have hk0 := hf.spring 0 hp
  have hF := Fr_set hf hj (l := l) hl1 (by omega)
  have hFl : (k.set j l).length = k.length := by simp
  have n0 := n_zero
  have c3 : (!leF (m.length : Int) 3) = false := by rw [leF_eq]; simp; omega
  have e21a := f21_eq (den, ((1 : Int), ((20 : Int), ())))
  rw [show wi 1 20 den = true from wi_iff.2 (by omega)] at e21a
  have e21b := f21_eq (w, ((0 : Int), ((5 : Int), ())))
  rw [show wi 0 5 w = true from wi_iff.2 (by omega)] at e21b
  have e39 := f39_eq hf hj l
  have e7 := l7_eq hf hF h0 h hw0 hw5 (j : Int) l
  have e11 := f11_eq m k (by omega) (by omega)
  have fine : ∀ {kk : List Int}, St.Fr m kk → kk.length = k.length → ∀ i, i < (wides m kk den w k.length).length → 0 ≤ (rAt (wides m kk den w k.length) i).1 ∧ (rAt (wides m kk den w k.length) i).1 ≤ (rAt (wides m kk den w k.length) i).2.1 ∧ (rAt (wides m kk den w k.length) i).2.1 ≤ 1000000000 := by
    intro kk hk hkk i hi
    rw [wides_len] at hi
    rw [wides_at m kk den w hi]
    obtain ⟨x1, x2, x3⟩ := wide_ok hk h0 h hw0 hw5 (i := i) (by omega)
    exact ⟨x1, x2, by omega⟩
  have ha0 : afE den (wides m k den w k.length) m.length = 0 := by
    unfold afE
    rw [if_pos (by omega), if_pos (by rw [wides_len]; omega), rsF_zero (fine hf rfl)]
  have ha1 : afE den (wides m (k.set j l) den w k.length) m.length = 0 := by
    unfold afE
    rw [if_pos (by omega), if_pos (by rw [wides_len]; omega), rsF_zero (fine hF hFl)]
  have e33a := f33_eq den (wides m k den w k.length) (by rw [wides_len]; omega)
  have e33b := f33_eq den (wides m (k.set j l) den w k.length) (by rw [wides_len]; omega)
  have hself : flm m k den (wides m k den w k.length) = none := by
    refine flm_none fun i hi => ?_
    rw [wides_len] at hi
    rw [wides_at m k den w hi]
    obtain ⟨x1, x2, _⟩ := encP_ok hf h0 (by omega) hi
    exact meet_wide x1 x2 hw0
  have hb0 : bst m k den (wides m k den w k.length) k.length = (0, St.gt k 0) := by
    have := bst_self hf hself (k.length - 1) (by omega)
    rwa [show k.length - 1 + 1 = k.length by omega] at this
  have e32a := f32_ok hf ha0
  rw [hb0, if_neg (by simp only; omega)] at e32a
  have cp : (true && decide ((0 : Int) < (k.length : Int))) = true := by simp; omega
  -- no damage
  have e41a := f41_eq (encs m k den k.length) (by rw [encs_len]; omega)
  have e41b := f41_eq (wides m k den w k.length) (by rw [wides_len]; omega)
  have hE : rsF (-1000000000) 1000000000 (encs m k den k.length) = 0 := by
    refine rsF_zero fun i hi => ?_
    rw [encs_len] at hi
    rw [encs_at m k den hi]
    obtain ⟨x1, x2, x3⟩ := encP_ok hf h0 (by omega) hi
    exact ⟨by omega, x2, by omega⟩
  have hW : rsF (-1000000000) 1000000000 (wides m k den w k.length) = 0 := by
    refine rsF_zero fun i hi => ?_
    obtain ⟨x1, x2, x3⟩ := fine hf rfl i hi
    exact ⟨by omega, x2, x3⟩
  have hd : dmE (encs m k den k.length) (wides m k den w k.length) = 0 := by
    have r1 : rsE (encs m k den k.length) = 0 := by
      unfold rsE
      rw [encs_len, if_neg (by omega), if_neg (by omega), hE]
    have r2 : rsE (wides m k den w k.length) = 0 := by
      unfold rsE
      rw [wides_len, if_neg (by omega), if_neg (by omega), hW]
    unfold dmE
    rw [r1, r2, encs_len, wides_len, if_pos rfl]
    rfl
  have e40 := f40_eq (encs m k den k.length) (wides m k den w k.length) (by rw [encs_len]; omega) (by rw [wides_len]; omega)
  rw [if_neg (by simpa using hd), dam_none _ (fun i hi => by
    rw [encs_len] at hi
    rw [encs_at m k den hi, wides_at m k den w hi]
    obtain ⟨x1, x2, _⟩ := encP_ok hf h0 (by omega) hi
    exact meet_wide x1 x2 hw0)] at e40
  have cl : (!eqF (([] : List Int).length : Int) 0) = false := by rw [eqF_eq]; rfl
  -- the weaker one
  have hweak : flm m (k.set j l) den (wides m (k.set j l) den w k.length) = none := by
    refine flm_none fun i hi => ?_
    rw [wides_len] at hi
    rw [wides_at m (k.set j l) den w hi]
    obtain ⟨x1, x2, _⟩ := encP_ok hF h0 (by omega) (i := i) (by omega)
    exact meet_wide x1 x2 hw0
  have hex : ex m k den (wides m (k.set j l) den w k.length) j l.toNat = true := by
    unfold ex
    rw [Int.toNat_of_nonneg (by omega), hweak]
    rfl
  have hge : l.toNat ≤ lf m k den (wides m (k.set j l) den w k.length) j := down_ge hex _ (by omega)
  have hbest := bst_ge hf den (wides m (k.set j l) den w k.length) k.length (Nat.le_refl _) j hj
  have hbo := bst_ok hf den (wides m (k.set j l) den w k.length) k.length (Nat.le_refl _)
  have hbx := bst_ex hf den (wides m (k.set j l) den w k.length) k.length (Nat.le_refl _)
  have e32b := f32_ok hf ha1
  have e34 := f34_ok hf ha1 (bst m k den (wides m (k.set j l) den w k.length) k.length).1 (bst m k den (wides m (k.set j l) den w k.length) k.length).2
  have e37b := f37_eq m k (bst m k den (wides m (k.set j l) den w k.length) k.length).1 (bst m k den (wides m (k.set j l) den w k.length) k.length).2 (by omega)
  generalize bst m k den (wides m (k.set j l) den w k.length) k.length = B at *
  have hkb := hf.spring B.1.toNat (by omega)
  have hlk : l * St.gt k B.1.toNat ≤ B.2 * St.gt k j := by
    refine Int.le_trans (Int.mul_le_mul_of_nonneg_right ?_ (by omega)) hbest
    omega
  have hB2 : 0 < B.2 := by
    rcases Int.lt_or_le 0 B.2 with hx | hx
    · exact hx
    · have p1 := Int.mul_pos (show 0 < l by omega) (show 0 < St.gt k B.1.toNat by omega)
      have p2 := Int.mul_nonpos_of_nonpos_of_nonneg hx (show 0 ≤ St.gt k j by omega)
      omega
  obtain ⟨x1, x2⟩ := hbx hB2
  have hdE : dE k B.1 B.2 = 0 := by
    unfold dE
    rw [if_pos (by omega), if_pos ⟨by omega, x2⟩]
  rw [if_neg (by omega)] at e32b
  rw [hdE] at e37b
  rw [if_neg (by simpa using hdE)] at e34
  have ep : pf m (k.set B.1.toNat B.2) den (wides m (k.set j l) den w k.length) = (0, 0) := by unfold pf; rw [x1]
  rw [ep] at e34
  have cb : (decide ((0 : Int) ≤ B.1) && decide (B.1 < (k.length : Int))) = true := by simp; omega
  have cj : (decide ((0 : Int) ≤ (j : Int)) && decide ((j : Int) < (k.length : Int))) = true := by simp; omega
  have e30 := f30_eq B.2 (St.gt k B.1.toNat) l (St.gt k j) (by omega) (by omega) (by omega) (by omega) (by omega) (by omega)
  have cq0 : (!leF (0 : Int) (cq B.2 (St.gt k B.1.toNat) l (St.gt k j))) = false := by
    unfold cq
    rw [if_neg (by omega)]
    split <;> rw [leF_eq] <;> rfl
  have ez : eqF (0 : Int) 0 = true := by rw [eqF_eq]; rfl
  have g0 : k.getD 0 0 = St.gt k 0 := rfl
  simp only [f7, t7, g14, e14, n0, c3, g37, e37, g21, e21a, e21b, g39, e39, e7, isRet, b7_0, outB, g11, e11, g33, e33a, e33b, g32, e32a, e32b, cp, g0, beq_self_eq_true, Bool.and_self, g41, e41a, e41b, g40, e40, cl, e37b, cb, cj, Int.toNat_natCast, show k.getD B.1.toNat 0 = St.gt k B.1.toNat from rfl, show k.getD j 0 = St.gt k j from rfl, g30, e30, cq0, g34, e34, ez, Bool.not_true, Bool.false_eq_true, Option.isSome_some, Option.getD_some, Tr.val_test, Tr.val_fin, Tr.val_stop, ↓reduceIte]

theorem f7_eq (m k : List Int) (s l den w : Int) : f7 ((m, (k, ())), ((s, (l, ())), ((den, (w, ())), ()))) = some (true, ()) := by
  have e14 := f14_all m k
  by_cases hc : (chkE m k).2 = 0
  · have hf := chkE_ok hc
    have hl := hf.len
    have h4 := hf.top
    rw [hc] at e14
    have n0 := n_zero
    by_cases h3 : m.length ≤ 3
    · have c3 : (!leF (m.length : Int) 3) = false := by rw [leF_eq]; simp; omega
      have e37 := f37_eq m k s l (by omega)
      by_cases hd : dE k s l = 0
      · rw [hd] at e37
        have e21a := f21_eq (den, ((1 : Int), ((20 : Int), ())))
        have e21b := f21_eq (w, ((0 : Int), ((5 : Int), ())))
        by_cases h1 : 1 ≤ den ∧ den ≤ 20
        · by_cases h2 : 0 ≤ w ∧ w ≤ 5
          · obtain ⟨hs, hl2⟩ : (0 ≤ s ∧ s ≤ (k.length : Int) - 1) ∧ (1 ≤ l ∧ l ≤ k.getD s.toNat 0) := by
              unfold dE at hd
              split at hd
              · rename_i a
                split at hd
                · rename_i b; exact ⟨a, b⟩
                · simp at hd
              · simp at hd
            obtain ⟨j, rfl⟩ : ∃ j : Nat, s = (j : Int) := ⟨s.toNat, by omega⟩
            rw [Int.toNat_natCast] at hl2
            exact f7_core hf (by omega) (by omega) h1.2 h2.1 h2.2 (by omega) hl2.1 hl2.2 e14 e37
          · rw [show wi 1 20 den = true from wi_iff.2 h1] at e21a
            rw [show wi 0 5 w = false from wi_no h2] at e21b
            simp only [f7, t7, g14, e14, n0, c3, g37, e37, g21, e21a, e21b, Bool.not_true, Bool.not_false, Bool.false_eq_true, Option.isSome_some, Option.getD_some, Tr.val_test, Tr.val_fin, Tr.val_stop, ↓reduceIte]
        · rw [show wi 1 20 den = false from wi_no h1] at e21a
          simp only [f7, t7, g14, e14, n0, c3, g37, e37, g21, e21a, Bool.not_false, Bool.false_eq_true, Option.isSome_some, Option.getD_some, Tr.val_test, Tr.val_fin, Tr.val_stop, ↓reduceIte]
      · have nd := n_not hd
        simp only [f7, t7, g14, e14, n0, c3, g37, e37, nd, Bool.false_eq_true, Option.isSome_some, Option.getD_some, Tr.val_test, Tr.val_fin, Tr.val_stop, ↓reduceIte]
    · have c3 : (!leF (m.length : Int) 3) = true := by rw [leF_eq]; simp; omega
      simp only [f7, t7, g14, e14, n0, c3, Bool.false_eq_true, Option.isSome_some, Option.getD_some, Tr.val_test, Tr.val_fin, Tr.val_stop, ↓reduceIte]
  · have nc := n_not hc
    simp only [f7, t7, g14, e14, nc, Option.isSome_some, Option.getD_some, Tr.val_test, Tr.val_fin, Tr.val_stop, ↓reduceIte]

theorem law7 (d : Tys.data as7) : Pure1 Go.Proofs.Try.prog 7 as7 [.bool] d (true, ()) := by
  have h := f7_eq d.1.1 d.1.2.1 d.2.1.1 d.2.1.2.1 d.2.2.1.1 d.2.2.1.2.1
  have hp : p7.pre d = true := by
    show Option.isSome (f7 d) = true
    rw [show f7 d = some (true, ()) from h]; rfl
  have hg : p7.fn d = (true, ()) := by
    show (f7 d).getD _ = _
    rw [show f7 d = some (true, ()) from h]; rfl
  have := ok7.runs d hp
  rw [hg] at this
  exact this

end Go.Vm.Mo
