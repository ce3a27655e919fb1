import Derived.Test.YtklljhgfniodaaaRsM
import Derived.Test.YtklljhgfniodaaaA4
set_option linter.unusedVariables false
set_option linter.unusedSimpArgs false

namespace Go.Vm.Mo
open Go
set_option linter.unusedVariables false
set_option linter.unusedSimpArgs false

/-! Counts of the reference. -/

theorem chg_sign {v : Nat → Int} (h0 : v 0 = 1) : ∀ i, (St.chg v (i + 1)).2 = 1 ∨ (St.chg v (i + 1)).2 = -1
  | 0 => by
    left
    show (if St.sgn (v 0) ≠ 0 then St.sgn (v 0) else 0) = 1
    rw [h0]; rfl
  | i + 1 => by
    rw [St.chg]
    have hs := sgn_abs (v (i + 1))
    have ih := chg_sign h0 i
    simp only
    split
    · omega
    · exact ih

theorem l18_eq {m k : List Int} (hf : St.Fr m k) {s : Rat} {p q : Int} (hq : 0 < q) (hs : s * (q : Rat) = (p : Rat)) :
    l18_0 ((RL m k s (k.length + 1), ((0 : Int), ((1 : Int), ((1 : Int), ())))), ()) = some (.inl (((St.chg (fun i => St.W m k p q (i + 1)) (k.length + 1)).1, ()), ())) := by
  have h4 := hf.top
  have h0 : (fun i => St.W m k p q (i + 1)) 0 = 1 := rfl
  have e0 : St.chg (fun i => St.W m k p q (i + 1)) 1 = (0, 1) := rfl
  have key := itr_brk (step := s18_0) (fun i => ((RL m k s (k.length + 1), ((St.chg (fun i => St.W m k p q (i + 1)) (i + 1)).1, ((St.chg (fun i => St.W m k p q (i + 1)) (i + 1)).2, (((i + 1 : Nat) : Int), ())))), ())) (n := k.length) (m := rounds) (b := (((St.chg (fun i => St.W m k p q (i + 1)) (k.length + 1)).1, ()), ())) ?_ ?_ (lt_rounds (by omega))
  · rw [e0] at key
    exact key
  · intro i hi
    obtain ⟨h1, h2, h3, h5⟩ := chg_two (fun i => St.W m k p q (i + 1)) (i + 1)
    have hsg := chg_sign (v := fun i => St.W m k p q (i + 1)) h0 i
    have hs2 := sgn_abs (St.W m k p q (i + 1 + 1))
    have g0 := RL_at m k s (n := k.length + 1) (i := i + 1) (by omega) (((0 : Int), [], ()), ((0 : Int), [], ()), ())
    have e1 := f28_eq (RW m k s (i + 1 + 1))
    rw [RW_sgn m k s hq hs (i + 1)] at e1
    have c0 : (!leF ((k.length + 1 : Nat) : Int) ((i + 1 : Nat) : Int)) = true := by rw [leF_eq]; simp; omega
    have c1 : (decide ((0 : Int) ≤ ((i + 1 : Nat) : Int)) && decide (((i + 1 : Nat) : Int) < ((k.length + 1 : Nat) : Int))) = true := by simp; omega
    have ech : St.chg (fun i => St.W m k p q (i + 1)) (i + 1 + 1) = (if St.sgn (St.W m k p q (i + 1 + 1)) * (St.chg (fun i => St.W m k p q (i + 1)) (i + 1)).2 < 0 then (St.chg (fun i => St.W m k p q (i + 1)) (i + 1)).1 + 1 else (St.chg (fun i => St.W m k p q (i + 1)) (i + 1)).1, if St.sgn (St.W m k p q (i + 1 + 1)) ≠ 0 then St.sgn (St.W m k p q (i + 1 + 1)) else (St.chg (fun i => St.W m k p q (i + 1)) (i + 1)).2) := rfl
    rw [ech]
    simp only [s18_0, t18_0, Tr.val_test, Tr.val_fin, Tr.val_stop, RL_len, c0, c1, Int.toNat_natCast, g0, etaR, g28, e1, Option.isSome_some, Option.getD_some, ↓reduceIte, wrap64_nat (show i + 1 ≤ 9223372036854775806 by omega)]
    generalize St.chg (fun i => St.W m k p q (i + 1)) (i + 1) = c at *
    generalize St.sgn (St.W m k p q (i + 1 + 1)) = x at *
    rw [wrap64_id (n := c.1 + 1) (by omega) (by omega)]
    simp only [eqF_eq]
    rcases (show x = -1 ∨ x = 0 ∨ x = 1 by omega) with e | e | e <;> rcases hsg with f | f <;> subst e <;> rw [f] <;> rfl
  · have c0 : (!leF ((k.length + 1 : Nat) : Int) ((k.length + 1 : Nat) : Int)) = false := by rw [leF_eq]; simp
    simp only [s18_0, t18_0, Tr.val_test, Tr.val_fin, Tr.val_stop, RL_len, c0, Bool.false_eq_true, ↓reduceIte]

theorem f18_eq {m k : List Int} (hf : St.Fr m k) {s : Rat} (hz : rsz s 1) {p q : Int} (hq : 0 < q) (hs : s * (q : Rat) = (p : Rat)) : f18 ((m, (k, ())), (encR s, ())) = some (((St.top m k p q).count : Int), ()) := by
  have e := f58_eq hf hz
  have e2 := l18_eq hf hq hs
  rw [St.chg_count hf hq] at e2
  simp only [f18, t18, etaR, g58, e, e2, b18_0, isBrk, outB, Option.isSome_some, Option.getD_some, Tr.val_test, Tr.val_fin, Tr.val_stop, ↓reduceIte]

theorem f19_eq {m k : List Int} (hf : St.Fr m k) {s : Rat} (hz : rsz s 1) {p q : Int} (hq : 0 < q) (hs : s * (q : Rat) = (p : Rat)) : f19 ((m, (k, ())), (encR s, ())) = some (decide ((St.top m k p q).f = 0), ()) := by
  have h4 := hf.top
  have e := f58_eq hf hz
  have w : wrap64 (((k.length + 1 : Nat) : Int) - 1) = (k.length : Int) := by rw [wr_abs (by omega)]; omega
  have g0 := RL_at m k s (n := k.length + 1) (i := k.length) (by omega) (((0 : Int), [], ()), ((0 : Int), [], ()), ())
  have e1 := f28_eq (RW m k s (k.length + 1))
  rw [RW_sgn m k s hq hs k.length] at e1
  have c0 : (decide ((0 : Int) ≤ (k.length : Int)) && decide ((k.length : Int) < ((k.length + 1 : Nat) : Int))) = true := by simp; omega
  simp only [f19, t19, etaR, g58, e, RL_len, w, c0, Int.toNat_natCast, g0, g28, e1, Option.isSome_some, Option.getD_some, Tr.val_test, Tr.val_fin, Tr.val_stop, ↓reduceIte, eqF_eq]
  refine congrArg (fun b => some (b, ())) (decide_eq_decide.2 ?_)
  rw [sgn_zero, ← ev_top hf hq, ← sgn_zero, ← St.ev_sgn hf.top hq (Nat.le_refl _), sgn_zero]

theorem f57_sq {p q : Int} (hq : 0 < q) (hq2 : q ≤ 1000) (hp : p.natAbs ≤ 100000) : f57 (p, (q, ())) = some (encR (sqR p q), ()) := by
  have e := f57_eq p q.toNat (by omega) (by omega) (by omega)
  rw [Int.toNat_of_nonneg (by omega)] at e
  rw [e, sqR, dif_neg (by omega)]

theorem sqR_mul2 {p q : Int} (h1 : 0 < q) : sqR p q * (q : Rat) = (p : Rat) := by
  have hq : (q : Rat) ≠ 0 := by exact_mod_cast (show q ≠ 0 by omega)
  have e : ((q.toNat : Nat) : Rat) = (q : Rat) := by
    rw [← Rat.intCast_natCast, Int.toNat_of_nonneg (by omega)]
  rw [sqR, dif_neg (by omega), norm_div, e]
  exact Rat.div_mul_cancel hq

theorem sqR_size2 {p q : Int} (hq : 0 < q) (hq2 : q ≤ 1000) (hp : p.natAbs ≤ 100000) : rsz (sqR p q) 1 := by
  rw [sqR, dif_neg (by omega)]
  exact norm_size _ (dig_len (k := 1) (by simp only [pw]; omega)) (dig_len (k := 1) (by simp only [pw]; omega))

theorem f86_eq {m k : List Int} (hf : St.Fr m k) {p q : Int} (hq : 0 < q) (hb : St.bd p q ≤ 42500) : f86 (((m, (k, ())), ()), ((p, (q, ())), ())) = some (((St.top m k p q).upto : Int), ()) := by
  have e1 := f50_eq hf hq hb
  have e2 := f48_eq hf hq hb
  have hc := St.upto_le hf p q
  have h4 := hf.top
  simp only [f86, t86, g50, e1, g48, e2, Option.isSome_some, Option.getD_some, Tr.val_test, Tr.val_fin, Tr.val_stop, ↓reduceIte]
  by_cases c : (St.top m k p q).f = 0
  · rw [if_pos (by simpa using c)]
    have : (St.top m k p q).upto = (St.top m k p q).count + 1 := by
      unfold St.Ph.upto St.Ph.count; rw [if_pos (by omega), if_neg (by omega)]
    rw [this, wrap64_nat (by omega)]
  · rw [if_neg (by simpa using c)]
    have : (St.top m k p q).upto = (St.top m k p q).count := by
      unfold St.Ph.upto St.Ph.count
      by_cases c2 : (St.top m k p q).f < 0
      · rw [if_pos (by omega), if_pos c2]
      · rw [if_neg (by omega), if_neg c2]
    rw [this]

end Go.Vm.Mo

namespace Go.Vm.Mo
open Go
set_option linter.unusedVariables false
set_option linter.unusedSimpArgs false

/-! Searches in halves. -/

theorem itr_bin {A B C : Type} {step : A → Option (Out A B C)} (st : Nat → Nat → A) (r : Nat → B) (P : Nat → Bool) (N : Nat)
    (hs : ∀ i j, i < j → j ≤ N → step (st i j) = some (.again (if P ((i + j) / 2) = true then st i ((i + j) / 2) else st ((i + j) / 2 + 1) j))) (hb : ∀ i, i ≤ N → step (st i i) = some (.brk (r i)))
    (hmono : ∀ x y, x ≤ y → P x = true → P y = true) :
    ∀ (m i j : Nat), i ≤ j → j ≤ N → j - i < m → ∃ t, itr step m (st i j) = some (.inl (r t)) ∧ i ≤ t ∧ t ≤ j ∧ (∀ x, i ≤ x → x < t → P x = false) ∧ (t < j → P t = true)
  | 0, i, j, h, hj, hm => by omega
  | m + 1, i, j, h, hj, hm => by
    by_cases c : i = j
    · subst c
      exact ⟨i, by rw [itr, hb i hj], Nat.le_refl _, Nat.le_refl _, fun x h1 h2 => by omega, fun h => by omega⟩
    · have e := hs i j (by omega) hj
      cases hP : P ((i + j) / 2) with
      | true =>
        rw [if_pos hP] at e
        obtain ⟨t, t1, t2, t3, t4, t5⟩ := itr_bin st r P N hs hb hmono m i ((i + j) / 2) (by omega) (by omega) (by omega)
        refine ⟨t, by rw [itr, e]; exact t1, t2, by omega, t4, fun h => ?_⟩
        by_cases c2 : t < (i + j) / 2
        · exact t5 c2
        · have : t = (i + j) / 2 := by omega
          rw [this]; exact hP
      | false =>
        rw [if_neg (by rw [hP]; decide)] at e
        obtain ⟨t, t1, t2, t3, t4, t5⟩ := itr_bin st r P N hs hb hmono m ((i + j) / 2 + 1) j (by omega) hj (by omega)
        refine ⟨t, by rw [itr, e]; exact t1, by omega, t3, fun x h1 h2 => ?_, t5⟩
        by_cases c2 : x ≤ (i + j) / 2
        · cases hx : P x with
          | false => rfl
          | true => have := hmono x _ c2 hx; rw [hP] at this; cases this
        · exact t4 x (by omega) h2

theorem itr_bis {A B C : Type} {step : A → Option (Out A B C)} (st : Nat → Nat → A) (r : Nat → B) (Q : Nat → Bool) (N : Nat)
    (hs : ∀ i j, i + 1 < j → j ≤ N → step (st i j) = some (.again (if Q ((i + j) / 2) = true then st ((i + j) / 2) j else st i ((i + j) / 2)))) (hb : ∀ i, i + 1 ≤ N → step (st i (i + 1)) = some (.brk (r i))) :
    ∀ (m i j : Nat), i < j → j ≤ N → j - i ≤ m → Q i = true → Q j = false → ∃ t, itr step m (st i j) = some (.inl (r t)) ∧ i ≤ t ∧ t < j ∧ Q t = true ∧ Q (t + 1) = false
  | 0, i, j, h, hj, hm, _, _ => by omega
  | m + 1, i, j, h, hj, hm, hi, hq => by
    by_cases c : j = i + 1
    · subst c
      exact ⟨i, by rw [itr, hb i hj], Nat.le_refl _, by omega, hi, hq⟩
    · have e := hs i j (by omega) hj
      cases hP : Q ((i + j) / 2) with
      | true =>
        rw [if_pos hP] at e
        obtain ⟨t, t1, t2, t3, t4⟩ := itr_bis st r Q N hs hb m ((i + j) / 2) j (by omega) hj (by omega) hP hq
        exact ⟨t, by rw [itr, e]; exact t1, by omega, t3, t4⟩
      | false =>
        rw [if_neg (by rw [hP]; decide)] at e
        obtain ⟨t, t1, t2, t3, t4⟩ := itr_bis st r Q N hs hb m i ((i + j) / 2) (by omega) (by omega) (by omega) hi hP
        exact ⟨t, by rw [itr, e]; exact t1, t2, by omega, t4⟩

theorem u64_wrap {n : Int} (h0 : 0 ≤ n) (h : n ≤ 1000000) : IntKind.wrap .u64 n = n := by
  have e : IntKind.wrap .u64 n = n % 18446744073709551616 := rfl
  rw [e]
  omega

theorem half {i j : Nat} (h : i + j ≤ 100000) : IntKind.wrap .i64 (Int.fdiv (IntKind.wrap .u64 (wrap64 ((i : Int) + (j : Int)))) 2) = (((i + j) / 2 : Nat) : Int) := by
  rw [wr_abs (by omega), u64_wrap (by omega) (by omega), i64_wrap, Int.fdiv_eq_ediv_of_nonneg _ (by decide), wr_abs (by omega)]
  omega

theorem halfT {i j : Nat} (h : i + j ≤ 100000) : IntKind.wrap .i64 (Int.tdiv (wrap64 ((i : Int) + (j : Int))) 2) = (((i + j) / 2 : Nat) : Int) := by
  rw [wr_abs (by omega), i64_wrap, Int.tdiv_eq_ediv_of_nonneg (by omega), wr_abs (by omega)]
  omega

/-- How many are below x / den, and how many are not above. -/
def cC (m k : List Int) (den : Int) (x : Nat) : Nat := (St.top m k (x : Int) den).count
def cU (m k : List Int) (den : Int) (x : Nat) : Nat := (St.top m k (x : Int) den).upto

theorem frac_le {m k : List Int} (hf : St.Fr m k) {den : Int} (hd : 0 < den) {x y : Nat} (h : x ≤ y) : ∀ i, i < k.length → (x : Int) * St.gt m i * den ≤ (y : Int) * St.gt m i * den := by
  intro i hi
  have hm := hf.mass i hi
  exact Int.mul_le_mul_of_nonneg_right (Int.mul_le_mul_of_nonneg_right (by omega) (by omega)) (by omega)

theorem cC_mono {m k : List Int} (hf : St.Fr m k) {den : Int} (hd : 0 < den) {x y : Nat} (h : x ≤ y) : cC m k den x ≤ cC m k den y :=
  St.Ph.le_count (St.top_ok hf hd) (St.top_ok hf hd) (St.top_le hf hf rfl hd hd (fun i _ => Int.le_refl _) (frac_le hf hd h))

theorem cU_mono {m k : List Int} (hf : St.Fr m k) {den : Int} (hd : 0 < den) {x y : Nat} (h : x ≤ y) : cU m k den x ≤ cU m k den y :=
  St.Ph.le_upto (St.top_ok hf hd) (St.top_ok hf hd) (St.top_le hf hf rfl hd hd (fun i _ => Int.le_refl _) (frac_le hf hd h))

theorem cU_lt {m k : List Int} (hf : St.Fr m k) {den : Int} (hd : 0 < den) {x y : Nat} (h : x < y) : cU m k den x ≤ cC m k den y :=
  St.Ph.lt_count (St.top_ok hf hd) (St.top_ok hf hd) (St.top_lt hf hd hd (Int.mul_lt_mul_of_pos_right (by omega) hd))

theorem cC_zero {m k : List Int} (hf : St.Fr m k) {den : Int} (hd : 0 < den) : cC m k den 0 = 0 := (St.count_low hf hd (Int.le_refl _)).1

theorem cC_high {m k : List Int} (hf : St.Fr m k) {den : Int} (hd : 0 < den) {x : Nat} (h : 80 * den ≤ (x : Int)) : cC m k den x = k.length :=
  St.count_high hf (S := 20) hd (fun i hi => (hf.spring i hi).2) (fun i hi => by
    have hm := hf.mass i hi
    have := Int.mul_le_mul_of_nonneg_left hm.1 (show 0 ≤ (x : Int) by omega)
    omega)

theorem bd_le {den : Int} (h0 : 0 < den) (h : den ≤ 50) {x : Nat} (hx : x ≤ 4000) : St.bd (x : Int) den ≤ 42500 := by unfold St.bd; omega

theorem l83_eq {m k : List Int} (hf : St.Fr m k) {den mode : Int} (h0 : 0 < den) (h : den ≤ 50) :
    ∃ t : Nat, l83_0 (((0 : Int), ((4001 : Int), ())), ((m, (k, ())), ((den, ()), ((mode, ()), ())))) = some (.inl (((t : Int), ()), ((m, (k, ())), ((den, ()), ((mode, ()), ()))))) ∧ t ≤ 4001 ∧
      (∀ x, x < t → (cC m k den x : Int) ≤ mode) ∧ (t < 4001 → mode < (cC m k den t : Int)) := by
  have key := itr_bin (step := s83_0) (fun i j => (((i : Int), ((j : Int), ())), ((m, (k, ())), ((den, ()), ((mode, ()), ()))))) (fun t => (((t : Int), ()), ((m, (k, ())), ((den, ()), ((mode, ()), ()))))) (fun x => decide (mode < (cC m k den x : Int))) 4001 ?_ ?_ ?_ rounds 0 4001 (by decide) (by decide) (by unfold rounds; omega)
  · obtain ⟨t, t1, t2, t3, t4, t5⟩ := key
    refine ⟨t, t1, t3, fun x hx => ?_, fun hlt => by simpa using t5 hlt⟩
    have := t4 x (by omega) hx
    simp at this; exact this
  · intro i j hij hj
    have e := f48_eq hf (p := (((i + j) / 2 : Nat) : Int)) h0 (bd_le h0 h (by omega))
    have ec : (St.top m k (((i + j) / 2 : Nat) : Int) den).count = cC m k den ((i + j) / 2) := rfl
    rw [ec] at e
    have c0 : (!leF (j : Int) (i : Int)) = true := by rw [leF_eq]; simp; omega
    by_cases c : mode < (cC m k den ((i + j) / 2) : Int)
    · have c1 : (!!leF (cC m k den ((i + j) / 2) : Int) mode) = false := by rw [leF_eq]; simp; omega
      have c2 : decide (mode < (cC m k den ((i + j) / 2) : Int)) = true := by simpa using c
      simp only [s83_0, t83_0, Tr.val_test, Tr.val_fin, Tr.val_stop, c0, half (show i + j ≤ 100000 by omega), g48, e, c1, c2, Bool.false_eq_true, Option.isSome_some, Option.getD_some, ↓reduceIte]
    · have c1 : (!!leF (cC m k den ((i + j) / 2) : Int) mode) = true := by rw [leF_eq]; simp; omega
      have c2 : decide (mode < (cC m k den ((i + j) / 2) : Int)) = false := by simpa using c
      simp only [s83_0, t83_0, Tr.val_test, Tr.val_fin, Tr.val_stop, c0, half (show i + j ≤ 100000 by omega), g48, e, c1, c2, Bool.false_eq_true, Option.isSome_some, Option.getD_some, ↓reduceIte, wrap64_nat (show (i + j) / 2 ≤ 9223372036854775806 by omega)]
  · intro i hi
    have c0 : (!leF (i : Int) (i : Int)) = false := by rw [leF_eq]; simp
    simp only [s83_0, t83_0, Tr.val_test, Tr.val_fin, Tr.val_stop, c0, Bool.false_eq_true, ↓reduceIte]
  · intro x y hxy hx
    have := cC_mono hf h0 hxy
    simp at hx ⊢; omega

theorem l83b_eq {m k : List Int} (hf : St.Fr m k) {den mode : Int} (h0 : 0 < den) (h : den ≤ 50) :
    ∃ t : Nat, l83_0_1 (((0 : Int), ((4000 : Int), ())), ((m, (k, ())), ((den, ()), ((mode, ()), ())))) = some (.inl (((t : Int), ()), ((m, (k, ())), ((den, ()), ((mode, ()), ()))))) ∧ t ≤ 4000 ∧
      (∀ x, x < t → (cU m k den x : Int) ≤ mode) ∧ (t < 4000 → mode < (cU m k den t : Int)) := by
  have key := itr_bin (step := s83_0_1) (fun i j => (((i : Int), ((j : Int), ())), ((m, (k, ())), ((den, ()), ((mode, ()), ()))))) (fun t => (((t : Int), ()), ((m, (k, ())), ((den, ()), ((mode, ()), ()))))) (fun x => decide (mode < (cU m k den x : Int))) 4000 ?_ ?_ ?_ rounds 0 4000 (by decide) (by decide) (by unfold rounds; omega)
  · obtain ⟨t, t1, t2, t3, t4, t5⟩ := key
    refine ⟨t, t1, t3, fun x hx => ?_, fun hlt => by simpa using t5 hlt⟩
    have := t4 x (by omega) hx
    simp at this; exact this
  · intro i j hij hj
    have e := f86_eq hf (p := (((i + j) / 2 : Nat) : Int)) h0 (bd_le h0 h (by omega))
    have ec : (St.top m k (((i + j) / 2 : Nat) : Int) den).upto = cU m k den ((i + j) / 2) := rfl
    rw [ec] at e
    have c0 : (!leF (j : Int) (i : Int)) = true := by rw [leF_eq]; simp; omega
    by_cases c : mode < (cU m k den ((i + j) / 2) : Int)
    · have c1 : (!!leF (cU m k den ((i + j) / 2) : Int) mode) = false := by rw [leF_eq]; simp; omega
      have c2 : decide (mode < (cU m k den ((i + j) / 2) : Int)) = true := by simpa using c
      simp only [s83_0_1, t83_0_1, Tr.val_test, Tr.val_fin, Tr.val_stop, c0, half (show i + j ≤ 100000 by omega), g86, e, c1, c2, Bool.false_eq_true, Option.isSome_some, Option.getD_some, ↓reduceIte]
    · have c1 : (!!leF (cU m k den ((i + j) / 2) : Int) mode) = true := by rw [leF_eq]; simp; omega
      have c2 : decide (mode < (cU m k den ((i + j) / 2) : Int)) = false := by simpa using c
      simp only [s83_0_1, t83_0_1, Tr.val_test, Tr.val_fin, Tr.val_stop, c0, half (show i + j ≤ 100000 by omega), g86, e, c1, c2, Bool.false_eq_true, Option.isSome_some, Option.getD_some, ↓reduceIte, wrap64_nat (show (i + j) / 2 ≤ 9223372036854775806 by omega)]
  · intro i hi
    have c0 : (!leF (i : Int) (i : Int)) = false := by rw [leF_eq]; simp
    simp only [s83_0_1, t83_0_1, Tr.val_test, Tr.val_fin, Tr.val_stop, c0, Bool.false_eq_true, ↓reduceIte]
  · intro x y hxy hx
    have := cU_mono hf h0 hxy
    simp at hx ⊢; omega

/-- The whole number below a mode's square. -/
theorem l22_eq {m k : List Int} (hf : St.Fr m k) {den : Int} {mode : Nat} (h0 : 0 < den) (h : den ≤ 50) (hm : mode < k.length) :
    ∃ t : Nat, l22_0 (((mode : Int), (den, ((0 : Int), (80 * den + 1, ())))), ((m, (k, ())), (((0 : Int), ((0 : Int), ())), ()))) = some (.inl (((mode : Int), (den, ((t : Int), ()))), ((m, (k, ())), (((0 : Int), ((0 : Int), ())), ())))) ∧
      cC m k den t ≤ mode ∧ mode < cC m k den (t + 1) := by
  obtain ⟨D, hD⟩ : ∃ D : Nat, den = (D : Int) := ⟨den.toNat, by omega⟩
  have hN : 80 * den + 1 = ((80 * D + 1 : Nat) : Int) := by omega
  have key := itr_bis (step := s22_0) (fun i j => (((mode : Int), (den, ((i : Int), ((j : Int), ())))), ((m, (k, ())), (((0 : Int), ((0 : Int), ())), ())))) (fun t => (((mode : Int), (den, ((t : Int), ()))), ((m, (k, ())), (((0 : Int), ((0 : Int), ())), ())))) (fun x => decide (cC m k den x ≤ mode)) (80 * D + 1) ?_ ?_ rounds 0 (80 * D + 1) (by omega) (Nat.le_refl _) (by unfold rounds; omega) ?_ ?_
  · obtain ⟨t, t1, t2, t3, t4, t5⟩ := key
    rw [hN]
    exact ⟨t, t1, by simpa using t4, by simpa using t5⟩
  · intro i j hij hj
    have e := f57_sq (p := (((i + j) / 2 : Nat) : Int)) h0 (by omega) (by omega)
    have e2 := f18_eq hf (sqR_size2 (p := (((i + j) / 2 : Nat) : Int)) h0 (by omega) (by omega)) h0 (sqR_mul2 h0)
    have ec : (St.top m k (((i + j) / 2 : Nat) : Int) den).count = cC m k den ((i + j) / 2) := rfl
    rw [ec] at e2
    have w : wrap64 ((j : Int) - (i : Int)) = ((j - i : Nat) : Int) := by rw [wr_abs (by omega)]; omega
    have c0 : (!leF ((j - i : Nat) : Int) 1) = true := by rw [leF_eq]; simp; omega
    by_cases c : cC m k den ((i + j) / 2) ≤ mode
    · have c1 : leF (cC m k den ((i + j) / 2) : Int) (mode : Int) = true := by rw [leF_eq]; simpa using c
      have c2 : decide (cC m k den ((i + j) / 2) ≤ mode) = true := by simpa using c
      simp only [s22_0, t22_0, Tr.val_test, Tr.val_fin, Tr.val_stop, w, c0, halfT (show i + j ≤ 100000 by omega), g57, e, etaR, g18, e2, c1, c2, Option.isSome_some, Option.getD_some, ↓reduceIte]
    · have c1 : leF (cC m k den ((i + j) / 2) : Int) (mode : Int) = false := by rw [leF_eq]; simpa using c
      have c2 : decide (cC m k den ((i + j) / 2) ≤ mode) = false := by simpa using c
      simp only [s22_0, t22_0, Tr.val_test, Tr.val_fin, Tr.val_stop, w, c0, halfT (show i + j ≤ 100000 by omega), g57, e, etaR, g18, e2, c1, c2, Bool.false_eq_true, Option.isSome_some, Option.getD_some, ↓reduceIte]
  · intro i hi
    have w : wrap64 (((i + 1 : Nat) : Int) - (i : Int)) = 1 := by rw [wr_abs (by omega)]; omega
    have c0 : (!leF (1 : Int) 1) = false := by rw [leF_eq]; rfl
    simp only [s22_0, t22_0, Tr.val_test, Tr.val_fin, Tr.val_stop, w, c0, Bool.false_eq_true, ↓reduceIte]
  · rw [cC_zero hf h0]; simp
  · rw [cC_high hf h0 (by omega)]; simp; exact hm

end Go.Vm.Mo

namespace Go.Vm.Mo
open Go
set_option linter.unusedVariables false
set_option linter.unusedSimpArgs false

/-! Enclosures. -/

theorem cU_eq {m k : List Int} (den : Int) (x : Nat) : cU m k den x = if (St.top m k (x : Int) den).f = 0 then cC m k den x + 1 else cC m k den x := by
  unfold cU cC St.Ph.upto St.Ph.count
  by_cases c : (St.top m k (x : Int) den).f = 0
  · rw [if_pos c, if_pos (by omega), if_neg (by omega)]
  · rw [if_neg c]
    by_cases c2 : (St.top m k (x : Int) den).f < 0
    · rw [if_pos (by omega), if_pos c2]
    · rw [if_neg (by omega), if_neg c2]

theorem enc_same {m k : List Int} (hf : St.Fr m k) {den : Int} {mode : Nat} (h0 : 0 < den) (h : den ≤ 50) (hm : mode < k.length) :
    ∃ a b : Int, f54 (((m, (k, ())), ()), ((mode : Int), (den, ()))) = some ((a, (b, ())), ()) ∧ f22 ((m, (k, ())), ((mode : Int), (den, ()))) = some ((a, (b, ())), ()) := by
  obtain ⟨D, hD⟩ : ∃ D : Nat, den = (D : Int) := ⟨den.toNat, by omega⟩
  obtain ⟨t, ht, t1, t2⟩ := l22_eq hf h0 h hm
  obtain ⟨u, hu, u1, u2, u3⟩ := l83_eq hf (mode := (mode : Int)) h0 h
  obtain ⟨v, hv, v1, v2, v3⟩ := l83b_eq hf (mode := (mode : Int)) h0 h
  have ht80 : t < 80 * D := by
    rcases Nat.lt_or_ge t (80 * D) with hlt | hge
    · exact hlt
    · have a1 := cC_mono hf h0 hge
      have a2 := cC_high hf h0 (x := 80 * D) (by omega)
      omega
  have hu1 : u = t + 1 := by
    rcases Nat.lt_trichotomy u (t + 1) with c | c | c
    · have a1 := u3 (by omega)
      have a2 := cC_mono hf h0 (show u ≤ t by omega)
      omega
    · exact c
    · have a1 := u2 (t + 1) c
      omega
  have w80 : wrap64 (wrap64 (80 * den) + 1) = 80 * den + 1 := by rw [wrap64_add_l, wr_abs (by omega)]
  have wu : wrap64 (((t + 1 : Nat) : Int) - 1) = (t : Int) := by rw [wr_abs (by omega)]; omega
  have wt : wrap64 ((t : Int) + 1) = ((t + 1 : Nat) : Int) := wrap64_nat (by omega)
  have e57 := f57_sq (p := (t : Int)) h0 (by omega) (by omega)
  have e18 := f18_eq hf (sqR_size2 (p := (t : Int)) h0 (by omega) (by omega)) h0 (sqR_mul2 h0)
  have e19 := f19_eq hf (sqR_size2 (p := (t : Int)) h0 (by omega) (by omega)) h0 (sqR_mul2 h0)
  have ec : (St.top m k (t : Int) den).count = cC m k den t := rfl
  rw [ec] at e18
  have hU := cU_eq (m := m) (k := k) den t
  by_cases c : (St.top m k (t : Int) den).f = 0 ∧ cC m k den t = mode
  · rw [if_pos c.1] at hU
    have hv1 : v = t := by
      rcases Nat.lt_trichotomy v t with d | d | d
      · have a1 := v3 (by omega)
        have a2 := cU_lt hf h0 d
        omega
      · exact d
      · have a1 := v2 t d
        omega
    subst hu1 hv1
    refine ⟨(v : Int), (v : Int), ?_, ?_⟩
    · simp only [f54, t54, b83_0, hu, isBrk, outB, b83_0_1, hv, wu, Tr.val_test, Tr.val_fin, Tr.val_stop, ↓reduceIte]
    · have c1 : eqF (cC m k den v : Int) (mode : Int) = true := by rw [eqF_eq, c.2]; simp
      have c2 : decide ((St.top m k (v : Int) den).f = 0) = true := by simpa using c.1
      simp only [f22, t22, w80, b22_0, ht, isBrk, outB, g57, e57, etaR, g19, e19, g18, e18, c1, c2, Option.isSome_some, Option.getD_some, Tr.val_test, Tr.val_fin, Tr.val_stop, ↓reduceIte]
  · have hUm : cU m k den t ≤ mode := by
      by_cases c1 : (St.top m k (t : Int) den).f = 0
      · rw [if_pos c1] at hU
        have : cC m k den t ≠ mode := fun h => c ⟨c1, h⟩
        omega
      · rw [if_neg c1] at hU
        omega
    have hv1 : v = t + 1 := by
      rcases Nat.lt_trichotomy v (t + 1) with d | d | d
      · have a1 := v3 (by omega)
        have a2 := cU_mono hf h0 (show v ≤ t by omega)
        omega
      · exact d
      · have a1 := v2 (t + 1) d
        have a2 := cU_eq (m := m) (k := k) den (t + 1)
        split at a2 <;> omega
    subst hu1 hv1
    refine ⟨(t : Int), ((t + 1 : Nat) : Int), ?_, ?_⟩
    · simp only [f54, t54, b83_0, hu, isBrk, outB, b83_0_1, hv, wu, Tr.val_test, Tr.val_fin, Tr.val_stop, ↓reduceIte]
    · by_cases c1 : (St.top m k (t : Int) den).f = 0
      · have c2 : decide ((St.top m k (t : Int) den).f = 0) = true := by simpa using c1
        have c3 : eqF (cC m k den t : Int) (mode : Int) = false := by
          rw [eqF_eq]
          have : cC m k den t ≠ mode := fun h => c ⟨c1, h⟩
          simp; omega
        simp only [f22, t22, w80, b22_0, ht, isBrk, outB, g57, e57, etaR, g19, e19, g18, e18, c2, c3, wt, Bool.false_eq_true, Option.isSome_some, Option.getD_some, Tr.val_test, Tr.val_fin, Tr.val_stop, ↓reduceIte]
      · have c2 : decide ((St.top m k (t : Int) den).f = 0) = false := by simpa using c1
        simp only [f22, t22, w80, b22_0, ht, isBrk, outB, g57, e57, etaR, g19, e19, c2, wt, Bool.false_eq_true, Option.isSome_some, Option.getD_some, Tr.val_test, Tr.val_fin, Tr.val_stop, ↓reduceIte]

/-! Errors. -/

theorem n_zero : (!eqF (0 : Int) 0) = false := by rw [eqF_eq]; rfl
theorem n_not {x : Int} (h : x ≠ 0) : (!eqF x 0) = true := by rw [eqF_eq]; simpa using h
theorem nz_two (a b : Int) : firstNZ [a, b] = if a ≠ 0 then a else b := by
  unfold firstNZ
  by_cases c : a = 0
  · subst c; simp [firstNZ]; omega
  · simp [c]
theorem nz_one (a : Int) : firstNZ [a] = a := by
  by_cases c : a = 0
  · subst c; rfl
  · simp [firstNZ, c]

theorem f53_eq (den : Int) : f53 (den, ()) = some (if 1 ≤ den ∧ den ≤ 50 then 0 else 2, ()) := by
  have e := f51_one 1 50 den
  simp only [f53, t53, g51, e, g52, f52_eq ((!wi 1 50 den), ((2 : Int), ())), Option.isSome_some, Option.getD_some, Tr.val_test, Tr.val_fin, ↓reduceIte]
  by_cases c : 1 ≤ den ∧ den ≤ 50
  · rw [if_pos c, show wi 1 50 den = true from wi_iff.2 c]; rfl
  · have : wi 1 50 den = false := by cases h : wi 1 50 den; rfl; exact absurd (wi_iff.1 h) c
    rw [if_neg c, this]; rfl

theorem f13_err (m k : List Int) (mode den : Int) (hl : m.length ≤ 6) (e : Int) (he : e = firstNZ [(chkE m k).2, firstNZ [if 0 ≤ mode ∧ mode ≤ (m.length : Int) - 1 then 0 else 6, if 1 ≤ den ∧ den ≤ 50 then 0 else 2]]) (h0 : e ≠ 0) :
    f13 ((m, (k, ())), (mode, (den, ()))) = some (((0 : Int), ((0 : Int), ())), (e, ())) := by
  have e1 := f51_one 0 ((m.length : Int) - 1) mode
  have e2 : f52 ((!wi 0 ((m.length : Int) - 1) mode), ((6 : Int), ())) = some (if 0 ≤ mode ∧ mode ≤ (m.length : Int) - 1 then 0 else 6, ()) := by
    rw [f52_eq]
    by_cases c : 0 ≤ mode ∧ mode ≤ (m.length : Int) - 1
    · rw [if_pos c, show wi 0 ((m.length : Int) - 1) mode = true from wi_iff.2 c]; rfl
    · have : wi 0 ((m.length : Int) - 1) mode = false := by cases h : wi 0 ((m.length : Int) - 1) mode; rfl; exact absurd (wi_iff.1 h) c
      rw [if_neg c, this]; rfl
  have z : ∀ a b : Int, f72 ([a, b], ()) = some (firstNZ [a, b], ()) := fun a b => f72_eq [a, b] (by simp)
  have w : wrap64 ((m.length : Int) - 1) = (m.length : Int) - 1 := wr_abs (by omega)
  have c0 := n_not h0
  simp only [f13, t13, w, g51, e1, g52, e2, g53, f53_eq den, g78, f78_all m k, g72, z, ← he, c0, Option.isSome_some, Option.getD_some, Tr.val_test, Tr.val_fin, Tr.val_stop, ↓reduceIte]

theorem f13_ok {m k : List Int} (hf : St.Fr m k) {mode den a b : Int} (h1 : 0 ≤ mode ∧ mode ≤ (m.length : Int) - 1) (h2 : 1 ≤ den ∧ den ≤ 50) (h : f54 (((m, (k, ())), ()), (mode, (den, ()))) = some ((a, (b, ())), ())) :
    f13 ((m, (k, ())), (mode, (den, ()))) = some ((a, (b, ())), ((0 : Int), ())) := by
  have h4 := hf.top
  have hl := hf.len
  have e1 := f51_one 0 ((m.length : Int) - 1) mode
  rw [show wi 0 ((m.length : Int) - 1) mode = true from wi_iff.2 h1] at e1
  have e3 := f53_eq den
  rw [if_pos h2] at e3
  have z : f72 ([0, 0], ()) = some (0, ()) := f72_eq [0, 0] (by decide)
  have w : wrap64 ((m.length : Int) - 1) = (m.length : Int) - 1 := wr_abs (by omega)
  have e4 := f78_ok hf
  have n0 := n_zero
  have b0 : f52 ((!true), ((6 : Int), ())) = some (0, ()) := f52_eq _
  simp only [f13, t13, w, g51, e1, g52, b0, g53, e3, g78, e4, g72, z, n0, g54, h, Bool.false_eq_true, Option.isSome_some, Option.getD_some, Tr.val_test, Tr.val_fin, Tr.val_stop, ↓reduceIte]

theorem f10_err (m k : List Int) (p q : Int) (hp : p.natAbs ≤ 9223372036854775808) (hq : -9223372036854775808 ≤ q ∧ q ≤ 9223372036854775807) (h0 : firstNZ [(chkE m k).2, sqE p q] ≠ 0) :
    f10 ((m, (k, ())), ((p, (q, ())), ())) = some ((0 : Int), (firstNZ [(chkE m k).2, sqE p q], ())) ∧ f12 ((m, (k, ())), ((p, (q, ())), ())) = some (false, (firstNZ [(chkE m k).2, sqE p q], ())) := by
  have z : ∀ a b : Int, f72 ([a, b], ()) = some (firstNZ [a, b], ()) := fun a b => f72_eq [a, b] (by simp)
  have z1 : ∀ a : Int, f72 ([a], ()) = some (a, ()) := fun a => by have := f72_eq [a] (by simp); rwa [nz_one] at this
  have c0 := n_not h0
  constructor
  · simp only [f10, t10, g47, f47_all p q hp hq, g78, f78_all m k, g72, z, z1, c0, Option.isSome_some, Option.getD_some, Tr.val_test, Tr.val_fin, Tr.val_stop, ↓reduceIte]
  · simp only [f12, t12, g47, f47_all p q hp hq, g78, f78_all m k, g72, z, z1, c0, Option.isSome_some, Option.getD_some, Tr.val_test, Tr.val_fin, Tr.val_stop, ↓reduceIte]

end Go.Vm.Mo

namespace Go.Vm.Mo
open Go
set_option linter.unusedVariables false
set_option linter.unusedSimpArgs false

/-! The law. -/

theorem f15_eq (a b : Int) : f15 (a, (b, ())) = some (firstNZ [a, b], ()) := by
  rw [nz_two]
  simp only [f15, t15, Tr.val_test, Tr.val_fin, eqF_eq]
  by_cases c : a = 0
  · rw [if_neg (by simpa using c), if_neg (by simpa using c)]
  · rw [if_pos (by simpa using c), if_pos c]

/-- The enclosure of a mode: the same, or the same error. -/
theorem encl {m k : List Int} (hl : m.length ≤ 6) (hf : (chkE m k).2 = 0 → St.Fr m k) (mode den : Int) :
    ∃ (a b e : Int), f13 ((m, (k, ())), (mode, (den, ()))) = some ((a, (b, ())), (e, ())) ∧
      ((chkE m k).2 ≠ 0 ∧ e = (chkE m k).2 ∧ a = 0 ∧ b = 0 ∨
      (chkE m k).2 = 0 ∧ wi 0 ((m.length : Int) - 1) mode = false ∧ e = 6 ∧ a = 0 ∧ b = 0 ∨
      (chkE m k).2 = 0 ∧ wi 0 ((m.length : Int) - 1) mode = true ∧ wi 1 50 den = false ∧ e = 2 ∧ a = 0 ∧ b = 0 ∨
      (chkE m k).2 = 0 ∧ wi 0 ((m.length : Int) - 1) mode = true ∧ wi 1 50 den = true ∧ e = 0 ∧ f22 ((m, (k, ())), (mode, (den, ()))) = some ((a, (b, ())), ())) := by
  have wf : ∀ {lo hi x : Int}, ¬ (lo ≤ x ∧ x ≤ hi) → wi lo hi x = false := fun {lo hi x} h => by
    cases hw : wi lo hi x
    · rfl
    · exact absurd (wi_iff.1 hw) h
  by_cases c : (chkE m k).2 = 0
  · by_cases c1 : 0 ≤ mode ∧ mode ≤ (m.length : Int) - 1
    · by_cases c2 : 1 ≤ den ∧ den ≤ 50
      · have hF := hf c
        have hlen := hF.len
        obtain ⟨a, b, h1, h2⟩ := enc_same hF (den := den) (mode := mode.toNat) (by omega) c2.2 (by omega)
        rw [Int.toNat_of_nonneg c1.1] at h1 h2
        exact ⟨a, b, 0, f13_ok hF c1 c2 h1, .inr (.inr (.inr ⟨c, wi_iff.2 c1, wi_iff.2 c2, rfl, h2⟩))⟩
      · refine ⟨0, 0, 2, f13_err m k mode den hl 2 ?_ (by decide), .inr (.inr (.inl ⟨c, wi_iff.2 c1, wf c2, rfl, rfl, rfl⟩))⟩
        rw [c, if_pos c1, if_neg c2]; rfl
    · refine ⟨0, 0, 6, f13_err m k mode den hl 6 ?_ (by decide), .inr (.inl ⟨c, wf c1, rfl, rfl, rfl⟩)⟩
      rw [c, if_neg c1]; rfl
  · refine ⟨0, 0, (chkE m k).2, f13_err m k mode den hl _ ?_ c, .inl ⟨c, rfl, rfl, rfl⟩⟩
    rw [nz_two, if_pos c]

theorem f3_eq (m k : List Int) (p q mode den : Int) (hp : p.natAbs ≤ 9223372036854775808) (hq : -9223372036854775808 ≤ q ∧ q ≤ 9223372036854775807) :
    f3 ((m, (k, ())), ((p, (q, ())), ((mode, (den, ())), ()))) = some (true, ()) := by
  by_cases hm : m.length ≤ 6
  · have b1 : leF (m.length : Int) 6 = true := by rw [leF_eq]; simp; omega
    by_cases hk : k.length ≤ 6
    · have b2 : leF (k.length : Int) 6 = true := by rw [leF_eq]; simp; omega
      have e9 : f9 ((m, (k, ())), ()) = some (true, ()) := by simp only [f9, t9, b1, b2, Tr.val_test, Tr.val_fin, ↓reduceIte]
      have e11 := f11_eq m k (by omega) (by omega)
      have e14 := f14_all m k
      have e16 := f16_all p q hp hq
      have e15 := f15_eq (chkE m k).2 (sqE p q)
      obtain ⟨a, b, e, e13, hcase⟩ := encl hm chkE_ok mode den
      have w : wrap64 ((m.length : Int) - 1) = (m.length : Int) - 1 := wr_abs (by omega)
      have e20 : f20 ((m, (k, ())), (mode, ())) = some (wi 0 ((m.length : Int) - 1) mode, ()) := by
        simp only [f20, t20, w, g21, f21_eq (mode, ((0 : Int), ((m.length : Int) - 1, ()))), Option.isSome_some, Option.getD_some, Tr.val_test, Tr.val_fin, ↓reduceIte]
      have e21 := f21_eq (den, ((1 : Int), ((50 : Int), ())))
      have ee : ∀ x : Int, eqF x x = true := fun x => by rw [eqF_eq]; simp
      have n0 := n_zero
      by_cases hd : firstNZ [(chkE m k).2, sqE p q] = 0
      · have hboth : (chkE m k).2 = 0 ∧ sqE p q = 0 := by
          rw [nz_two] at hd
          split at hd
          · contradiction
          · rename_i h; exact ⟨by simpa using h, hd⟩
        have hF := chkE_ok hboth.1
        have hS := sqE_ok hboth.2
        have s1 := hS.pos; have s2 := hS.den; have s3 := hS.lo; have s4 := hS.hi
        have e10 := f10_ok hF hS
        have e12 := f12_ok hF hS
        have e17 := f17_sq hS
        have e18 := f18_eq hF (sqR_size hS) s1 (sqR_mul hS)
        have e19 := f19_eq hF (sqR_size hS) s1 (sqR_mul hS)
        rw [hboth.1] at hcase e14
        rw [hboth.1] at e15
        rw [hboth.2] at e16 e15
        have z0 : firstNZ [(0 : Int), 0] = 0 := rfl
        rw [z0] at e15
        rcases hcase with h | h | h | h
        · exact absurd rfl h.1
        · obtain ⟨_, h1, h2, h3, h4⟩ := h
          subst h2 h3 h4
          simp only [f3, t3, g9, e9, g11, e11, g10, e10, g12, e12, g13, e13, g14, e14, g16, e16, g15, e15, n0, g17, e17, etaR, g18, e18, g19, e19, ee, beq_self_eq_true, g20, e20, h1, Bool.not_true, Bool.not_false, Bool.false_eq_true, Bool.and_self, Option.isSome_some, Option.getD_some, Tr.val_test, Tr.val_fin, Tr.val_stop, ↓reduceIte]
        · obtain ⟨_, h1, h2, h3, h4, h5⟩ := h
          subst h3 h4 h5
          simp only [f3, t3, g9, e9, g11, e11, g10, e10, g12, e12, g13, e13, g14, e14, g16, e16, g15, e15, n0, g17, e17, etaR, g18, e18, g19, e19, ee, beq_self_eq_true, g20, e20, h1, g21, e21, h2, Bool.not_true, Bool.not_false, Bool.false_eq_true, Bool.and_self, Option.isSome_some, Option.getD_some, Tr.val_test, Tr.val_fin, Tr.val_stop, ↓reduceIte]
        · obtain ⟨_, h1, h2, h3, h4⟩ := h
          subst h3
          simp only [f3, t3, g9, e9, g11, e11, g10, e10, g12, e12, g13, e13, g14, e14, g16, e16, g15, e15, n0, g17, e17, etaR, g18, e18, g19, e19, ee, beq_self_eq_true, g20, e20, h1, g21, e21, h2, g22, h4, Bool.not_true, Bool.not_false, Bool.false_eq_true, Bool.and_self, Option.isSome_some, Option.getD_some, Tr.val_test, Tr.val_fin, Tr.val_stop, ↓reduceIte]
      · obtain ⟨e10, e12⟩ := f10_err m k p q hp hq hd
        have nd := n_not hd
        generalize firstNZ [(chkE m k).2, sqE p q] = d at *
        rcases hcase with h | h | h | h
        · obtain ⟨h1, h2, h3, h4⟩ := h
          subst h2 h3 h4
          have c0 : eqF (chkE m k).2 0 = false := by rw [eqF_eq]; simpa using h1
          simp only [f3, t3, g9, e9, g11, e11, g10, e10, g12, e12, g13, e13, g14, e14, g16, e16, g15, e15, nd, n0, ee, c0, beq_self_eq_true, Bool.not_true, Bool.not_false, Bool.false_eq_true, Bool.and_self, Option.isSome_some, Option.getD_some, Tr.val_test, Tr.val_fin, Tr.val_stop, ↓reduceIte]
        · obtain ⟨h0, h1, h2, h3, h4⟩ := h
          subst h2 h3 h4
          rw [h0] at e14 e15
          simp only [f3, t3, g9, e9, g11, e11, g10, e10, g12, e12, g13, e13, g14, e14, g16, e16, g15, e15, nd, n0, ee, beq_self_eq_true, g20, e20, h1, Bool.not_true, Bool.not_false, Bool.false_eq_true, Bool.and_self, Option.isSome_some, Option.getD_some, Tr.val_test, Tr.val_fin, Tr.val_stop, ↓reduceIte]
        · obtain ⟨h0, h1, h2, h3, h4, h5⟩ := h
          subst h3 h4 h5
          rw [h0] at e14 e15
          simp only [f3, t3, g9, e9, g11, e11, g10, e10, g12, e12, g13, e13, g14, e14, g16, e16, g15, e15, nd, n0, ee, beq_self_eq_true, g20, e20, h1, g21, e21, h2, Bool.not_true, Bool.not_false, Bool.false_eq_true, Bool.and_self, Option.isSome_some, Option.getD_some, Tr.val_test, Tr.val_fin, Tr.val_stop, ↓reduceIte]
        · obtain ⟨h0, h1, h2, h3, h4⟩ := h
          subst h3
          rw [h0] at e14 e15
          simp only [f3, t3, g9, e9, g11, e11, g10, e10, g12, e12, g13, e13, g14, e14, g16, e16, g15, e15, nd, n0, ee, beq_self_eq_true, g20, e20, h1, g21, e21, h2, g22, h4, Bool.not_true, Bool.not_false, Bool.false_eq_true, Bool.and_self, Option.isSome_some, Option.getD_some, Tr.val_test, Tr.val_fin, Tr.val_stop, ↓reduceIte]
    · have b2 : leF (k.length : Int) 6 = false := by rw [leF_eq]; simp; omega
      have e9 : f9 ((m, (k, ())), ()) = some (false, ()) := by simp only [f9, t9, b1, b2, Tr.val_test, Tr.val_fin, ↓reduceIte]
      simp only [f3, t3, g9, e9, Bool.not_false, Option.isSome_some, Option.getD_some, Tr.val_test, Tr.val_fin, Tr.val_stop, ↓reduceIte]
  · have b1 : leF (m.length : Int) 6 = false := by rw [leF_eq]; simp; omega
    have e9 : f9 ((m, (k, ())), ()) = some (false, ()) := by simp only [f9, t9, b1, Bool.false_eq_true, Tr.val_test, Tr.val_fin, ↓reduceIte]
    simp only [f3, t3, g9, e9, Bool.not_false, Option.isSome_some, Option.getD_some, Tr.val_test, Tr.val_fin, Tr.val_stop, ↓reduceIte]

theorem law3 (d : Tys.data as3) (hw : Tys.Wf as3 d) : Pure1 Go.Proofs.Try.prog 3 as3 [.bool] d (true, ()) := by
  have w1 : (-9223372036854775808 : Int) ≤ d.2.1.1 ∧ d.2.1.1 ≤ (9223372036854775807 : Int) := hw.2.1.1
  have w2 : (-9223372036854775808 : Int) ≤ d.2.1.2.1 ∧ d.2.1.2.1 ≤ (9223372036854775807 : Int) := hw.2.1.2.1
  have nb : ∀ x : Int, -9223372036854775808 ≤ x ∧ x ≤ 9223372036854775807 → x.natAbs ≤ 9223372036854775808 := fun x hx => by omega
  have h := f3_eq d.1.1 d.1.2.1 d.2.1.1 d.2.1.2.1 d.2.2.1.1 d.2.2.1.2.1 (nb _ w1) w2
  have hp : p3.pre d = true := by
    show Option.isSome (f3 d) = true
    rw [show f3 d = some (true, ()) from h]; rfl
  have hg : p3.fn d = (true, ()) := by
    show (f3 d).getD _ = _
    rw [show f3 d = some (true, ()) from h]; rfl
  have := ok3.runs d hp
  rw [hg] at this
  exact this

end Go.Vm.Mo
