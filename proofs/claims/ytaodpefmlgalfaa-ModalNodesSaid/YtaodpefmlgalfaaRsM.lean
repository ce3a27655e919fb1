import Derived.Test.YtaodpefmlgalfaaRsFe
import Derived.Test.YtaodpefmlgalfaaA4
import Derived.Test.YtaodpefmlgalfaaRsS
set_option linter.unusedVariables false
set_option linter.unusedSimpArgs false

namespace Go.Vm.Mo
open Go
set_option linter.unusedVariables false
set_option linter.unusedSimpArgs false

theorem i64_wrap (n : Int) : IntKind.wrap .i64 n = wrap64 n := (wrap64_eq n).symm

theorem wr_abs {n : Int} (h : n.natAbs ≤ 9223372036854775807) : wrap64 n = n := wrap64_id (by omega) (by omega)

theorem f65_eq (x : Int) : f65 (x, ()) = some (St.sgn x, ()) := by
  simp only [f65, t65, Tr.val_test, Tr.val_fin, leF_eq, St.sgn]
  by_cases h1 : x < 0
  · rw [if_pos (by simpa using h1), if_pos h1]
  · rw [if_neg (by simpa using h1), if_neg h1]
    by_cases h2 : 0 < x
    · rw [if_pos (by simpa using h2), if_pos h2]
    · rw [if_neg (by simpa using h2), if_neg h2]

theorem sgn_abs (x : Int) : -1 ≤ St.sgn x ∧ St.sgn x ≤ 1 := by unfold St.sgn; split <;> (try split) <;> decide

theorem chg_two (v : Nat → Int) : ∀ n, -1 ≤ (St.chg v n).2 ∧ (St.chg v n).2 ≤ 1 ∧ 0 ≤ (St.chg v n).1 ∧ (St.chg v n).1 ≤ (n : Int)
  | 0 => by simp [St.chg]
  | n + 1 => by
    obtain ⟨h1, h2, h3, h4⟩ := chg_two v n
    have hs := sgn_abs (v n)
    simp only [St.chg]
    refine ⟨?_, ?_, ?_, ?_⟩ <;> split <;> omega

theorem chg_congr {v w : Nat → Int} : ∀ n, (∀ i, i < n → St.sgn (v i) = St.sgn (w i)) → St.chg v n = St.chg w n
  | 0, _ => rfl
  | n + 1, h => by simp only [St.chg]; rw [chg_congr n (fun i hi => h i (by omega)), h n (by omega)]

theorem l66_eq (l : List Int) (h : l.length ≤ 1000000) : l66_0 (((0 : Int), ((0 : Int), (l, ((l.length : Int), ((0 : Int), ()))))), ()) = some (.inl (((St.chg (St.gt l) l.length).1, ()), ())) := by
  refine itr_brk (step := s66_0) (fun i => (((St.chg (St.gt l) i).1, ((St.chg (St.gt l) i).2, (l, ((l.length : Int), ((i : Int), ()))))), ())) (n := l.length) ?_ ?_ (lt_rounds (by omega))
  · intro i hi
    obtain ⟨h1, h2, h3, h4⟩ := chg_two (St.gt l) i
    have hs := sgn_abs (St.gt l i)
    have e : l.getD i 0 = St.gt l i := rfl
    simp only [s66_0, t66_0, Tr.val_test, Tr.val_fin, Tr.val_stop, leF_eq, eqF_eq, g65, Int.toNat_natCast, e, f65_eq (St.gt l i), Option.isSome_some, Option.getD_some, if_true]
    rw [if_pos (by simp; omega), if_pos (by simp; omega), wrap64_nat (by omega), St.chg]
    generalize hc : St.chg (St.gt l) i = c at *
    generalize hg : St.gt l i = x at *
    have hm : wrap64 (St.sgn x * c.2) = St.sgn x * c.2 := by
      rcases (show St.sgn x = -1 ∨ St.sgn x = 0 ∨ St.sgn x = 1 by omega) with e | e | e <;> rw [e] <;> exact wrap64_id (by omega) (by omega)
    rw [hm, wrap64_id (n := c.1 + 1) (by omega) (by omega)]
    by_cases c1 : St.sgn x * c.2 < 0
    · rw [if_pos (by simpa using c1)]
      by_cases c2 : St.sgn x = 0
      · rw [if_neg (by simpa using c2), if_pos c1, if_neg (by simpa using c2)]
      · rw [if_pos (by simpa using c2), if_pos c1, if_pos c2]
    · rw [if_neg (by simpa using c1)]
      by_cases c2 : St.sgn x = 0
      · rw [if_neg (by simpa using c2), if_neg c1, if_neg (by simpa using c2)]
      · rw [if_pos (by simpa using c2), if_neg c1, if_pos c2]
  · simp [s66_0, t66_0, leF_eq]

theorem f66_eq (l : List Int) (h : l.length ≤ 1000000) : f66 (l, ()) = some ((St.chg (St.gt l) l.length).1, ()) := by
  have e := l66_eq l h
  simp only [f66, t66, b66_0, e, isBrk, outB, Tr.val_test, Tr.val_fin, if_true]

theorem f52_eq {m k : List Int} (hf : St.Fr m k) {i : Nat} (hi : i < k.length) : f52 (((m, (k, ())), ()), ((i : Int), ())) = some (St.stf k i, ()) := by
  have h4 := hf.top
  have h1 := hf.spring i hi
  simp only [f52, t52, Tr.val_test, Tr.val_fin, Tr.val_stop, eqF_eq, wrap64_nat (show i ≤ 9223372036854775806 by omega), Int.toNat_natCast]
  unfold St.stf
  by_cases c : i + 1 = k.length
  · rw [if_pos (by simp; omega), if_pos (by simp; omega), if_pos c]
    rfl
  · have h2 := hf.spring (i + 1) (by omega)
    rw [if_neg (by simp; omega), if_pos (by simp; omega), if_pos (by simp; omega), if_neg c]
    rw [show k.getD i 0 = St.gt k i from rfl, show k.getD (i + 1) 0 = St.gt k (i + 1) from rfl, wr_abs (by omega)]

/-- A determinant as it lies in memory. -/
def pd (m k : List Int) (j : Nat) : Int × Int × Int × Int × Int × Unit := (St.Dc m k j 0, St.Dc m k j 1, St.Dc m k j 2, St.Dc m k j 3, St.Dc m k j 4, ())

theorem f89_eq (c : Nat → Int) (p q : Int) : f89 ((c 0, (c 1, (c 2, (c 3, (c 4, ()))))), ((p, (q, ())), ())) = some (wrap64 (St.ev c p q), ()) := by
  simp only [f89, t89, Tr.val_fin, wrap64_add_l, wrap64_add_r, wrap64_mul_l, wrap64_mul_r]
  refine congrArg some (Prod.ext ?_ rfl)
  refine congrArg wrap64 ?_
  simp only [St.ev]
  grind

theorem f78_eq (c0 c1 c2 c3 c4 x y : Int) (hx : x.natAbs ≤ 1000) (hy : y.natAbs ≤ 1000) (h0 : c0.natAbs ≤ 100000000) (h1 : c1.natAbs ≤ 100000000) (h2 : c2.natAbs ≤ 100000000) (h3 : c3.natAbs ≤ 100000000) (h4 : c4.natAbs ≤ 100000000) :
    f78 ((c0, (c1, (c2, (c3, (c4, ()))))), (x, (y, ()))) = some ((x * c0, (x * c1 + y * c0, (x * c2 + y * c1, (x * c3 + y * c2, (x * c4 + y * c3, ()))))), ()) := by
  have mb : ∀ a c : Int, a.natAbs ≤ 1000 → c.natAbs ≤ 100000000 → (a * c).natAbs ≤ 100000000000 := by
    intro a c ha hc
    rw [Int.natAbs_mul]
    exact Nat.mul_le_mul ha hc
  have a0 := mb x c0 hx h0
  have a1 := mb x c1 hx h1
  have a2 := mb x c2 hx h2
  have a3 := mb x c3 hx h3
  have a4 := mb x c4 hx h4
  have b0 := mb y c0 hy h0
  have b1 := mb y c1 hy h1
  have b2 := mb y c2 hy h2
  have b3 := mb y c3 hy h3
  simp only [f78, t78, Tr.val_fin, wrap64_add_l, wrap64_add_r, wrap64_wrap64, Int.mul_zero, Int.add_zero]
  rw [wr_abs (n := x * c0) (by omega), wr_abs (n := x * c1 + y * c0) (by omega), wr_abs (n := x * c2 + y * c1) (by omega), wr_abs (n := x * c3 + y * c2) (by omega), wr_abs (n := x * c4 + y * c3) (by omega)]

theorem f79_eq (a0 a1 a2 a3 a4 c0 c1 c2 c3 c4 : Int) (k0 : a0.natAbs ≤ 1000000000000) (k1 : a1.natAbs ≤ 1000000000000) (k2 : a2.natAbs ≤ 1000000000000) (k3 : a3.natAbs ≤ 1000000000000) (k4 : a4.natAbs ≤ 1000000000000)
    (h0 : c0.natAbs ≤ 1000000000000) (h1 : c1.natAbs ≤ 1000000000000) (h2 : c2.natAbs ≤ 1000000000000) (h3 : c3.natAbs ≤ 1000000000000) (h4 : c4.natAbs ≤ 1000000000000) :
    f79 ((a0, (a1, (a2, (a3, (a4, ()))))), ((c0, (c1, (c2, (c3, (c4, ()))))), ())) = some ((a0 - c0, (a1 - c1, (a2 - c2, (a3 - c3, (a4 - c4, ()))))), ()) := by
  have sb : ∀ a c : Int, a.natAbs ≤ 1000000000000 → c.natAbs ≤ 1000000000000 → wrap64 (a - c) = a - c := by
    intro a c ha hc
    exact wr_abs (by omega)
  simp only [f79, t79, Tr.val_fin]
  rw [sb _ _ k0 h0, sb _ _ k1 h1, sb _ _ k2 h2, sb _ _ k3 h3, sb _ _ k4 h4]

theorem pd_le {m k : List Int} (hf : St.Fr m k) {i : Nat} (hi : i ≤ k.length) (c : Nat) : (St.Dc m k (i + 1) c).natAbs ≤ 24010000 ∧ (St.Dc m k i c).natAbs ≤ 24010000 := by
  obtain ⟨h1, h2⟩ := St.Dc_le hf i hi c
  have h4 := hf.top
  have h3 : 70 ^ i ≤ 70 ^ 4 := Nat.pow_le_pow_right (by decide) (by omega)
  have e : 70 ^ 4 = 24010000 := rfl
  omega

theorem m_neg {m k : List Int} (hf : St.Fr m k) {i : Nat} (hi : i < k.length) : IntKind.wrap .i64 (0 - m.getD i 0) = -(St.gt m i) := by
  have h := hf.mass i hi
  rw [i64_wrap, show m.getD i 0 = St.gt m i from rfl, wr_abs (by omega), Int.zero_sub]

theorem k_sq {m k : List Int} (hf : St.Fr m k) {i : Nat} (hi : i < k.length) : wrap64 (k.getD i 0 * k.getD i 0) = St.gt k i * St.gt k i ∧ (St.gt k i * St.gt k i).natAbs ≤ 1000 := by
  have h := hf.spring i hi
  have e : (St.gt k i * St.gt k i).natAbs ≤ 20 * 20 := by rw [Int.natAbs_mul]; exact Nat.mul_le_mul (by omega) (by omega)
  refine ⟨?_, by omega⟩
  rw [show k.getD i 0 = St.gt k i from rfl, wr_abs (by omega)]

/-- The first product. -/
def pA (m k : List Int) (i : Nat) : Int × Int × Int × Int × Int × Unit :=
  (St.stf k i * St.Dc m k (i + 1) 0, (St.stf k i * St.Dc m k (i + 1) 1 + -(St.gt m i) * St.Dc m k (i + 1) 0, (St.stf k i * St.Dc m k (i + 1) 2 + -(St.gt m i) * St.Dc m k (i + 1) 1, (St.stf k i * St.Dc m k (i + 1) 3 + -(St.gt m i) * St.Dc m k (i + 1) 2, (St.stf k i * St.Dc m k (i + 1) 4 + -(St.gt m i) * St.Dc m k (i + 1) 3, ())))))

/-- The second one. -/
def pB (m k : List Int) (i : Nat) : Int × Int × Int × Int × Int × Unit :=
  (St.gt k i * St.gt k i * St.Dc m k i 0, (St.gt k i * St.gt k i * St.Dc m k i 1 + 0 * St.Dc m k i 0, (St.gt k i * St.gt k i * St.Dc m k i 2 + 0 * St.Dc m k i 1, (St.gt k i * St.gt k i * St.Dc m k i 3 + 0 * St.Dc m k i 2, (St.gt k i * St.gt k i * St.Dc m k i 4 + 0 * St.Dc m k i 3, ())))))

theorem q78a {m k : List Int} (hf : St.Fr m k) {i : Nat} (hi : i < k.length) : f78 (pd m k (i + 1), (St.stf k i, (-(St.gt m i), ()))) = some (pA m k i, ()) := by
  have hs := St.stf_le hf hi
  have hm := hf.mass i hi
  exact f78_eq _ _ _ _ _ _ _ (by omega) (by omega) (by have := (pd_le hf (Nat.le_of_lt hi) 0).1; omega) (by have := (pd_le hf (Nat.le_of_lt hi) 1).1; omega) (by have := (pd_le hf (Nat.le_of_lt hi) 2).1; omega) (by have := (pd_le hf (Nat.le_of_lt hi) 3).1; omega) (by have := (pd_le hf (Nat.le_of_lt hi) 4).1; omega)

theorem q78b {m k : List Int} (hf : St.Fr m k) {i : Nat} (hi : i < k.length) : f78 (pd m k i, (St.gt k i * St.gt k i, ((0 : Int), ()))) = some (pB m k i, ()) := by
  have hk := (k_sq hf hi).2
  exact f78_eq _ _ _ _ _ _ _ hk (by decide) (by have := (pd_le hf (Nat.le_of_lt hi) 0).2; omega) (by have := (pd_le hf (Nat.le_of_lt hi) 1).2; omega) (by have := (pd_le hf (Nat.le_of_lt hi) 2).2; omega) (by have := (pd_le hf (Nat.le_of_lt hi) 3).2; omega) (by have := (pd_le hf (Nat.le_of_lt hi) 4).2; omega)

theorem q79 {m k : List Int} (hf : St.Fr m k) {i : Nat} (hi : i < k.length) : f79 (pA m k i, (pB m k i, ())) = some (pd m k (i + 2), ()) := by
  have hs := St.stf_le hf hi
  have hm := hf.mass i hi
  have hk := (k_sq hf hi).2
  have mb : ∀ a c : Int, a.natAbs ≤ 1000 → c.natAbs ≤ 24010000 → (a * c).natAbs ≤ 24010000000 := by
    intro a c ha hc
    rw [Int.natAbs_mul]
    exact Nat.mul_le_mul ha hc
  have a := fun c => mb (St.stf k i) (St.Dc m k (i + 1) c) (by omega) (pd_le hf (Nat.le_of_lt hi) c).1
  have b := fun c => mb (-(St.gt m i)) (St.Dc m k (i + 1) c) (by omega) (pd_le hf (Nat.le_of_lt hi) c).1
  have c := fun c => mb (St.gt k i * St.gt k i) (St.Dc m k i c) hk (pd_le hf (Nat.le_of_lt hi) c).2
  have ab : ∀ u v : Int, u.natAbs ≤ 24010000000 → v.natAbs ≤ 24010000000 → (u + v).natAbs ≤ 1000000000000 := by
    intro u v hu hv
    omega
  have az : ∀ u v : Int, u.natAbs ≤ 24010000000 → (u + 0 * v).natAbs ≤ 1000000000000 := by
    intro u v hu
    rw [Int.zero_mul, Int.add_zero]
    omega
  have e := f79_eq (pA m k i).1 (pA m k i).2.1 (pA m k i).2.2.1 (pA m k i).2.2.2.1 (pA m k i).2.2.2.2.1 (pB m k i).1 (pB m k i).2.1 (pB m k i).2.2.1 (pB m k i).2.2.2.1 (pB m k i).2.2.2.2.1
    (Nat.le_trans (a 0) (by decide)) (ab _ _ (a 1) (b 0)) (ab _ _ (a 2) (b 1)) (ab _ _ (a 3) (b 2)) (ab _ _ (a 4) (b 3))
    (Nat.le_trans (c 0) (by decide)) (az _ _ (c 1)) (az _ _ (c 2)) (az _ _ (c 3)) (az _ _ (c 4))
  refine e.trans ?_
  simp only [pA, pB, pd, St.Dc, Int.zero_mul, Int.add_zero, Int.neg_mul, Int.sub_eq_add_neg]

/-- The values of the first n determinants. -/
def vals (m k : List Int) (p q : Int) (n : Nat) : List Int := (List.range n).map fun i => St.ev (St.Dc m k (i + 1)) p q

theorem vals_len (m k : List Int) (p q : Int) (n : Nat) : (vals m k p q n).length = n := by simp [vals]

theorem vals_succ (m k : List Int) (p q : Int) (n : Nat) : vals m k p q n ++ [St.ev (St.Dc m k (n + 1)) p q] = vals m k p q (n + 1) := by
  simp [vals, List.range_succ]

theorem vals_at (m k : List Int) (p q : Int) {n i : Nat} (h : i < n) : St.gt (vals m k p q n) i = St.ev (St.Dc m k (i + 1)) p q := by
  simp [St.gt, vals, List.getD_eq_getElem?_getD, h]

theorem q89 {m k : List Int} (hf : St.Fr m k) {p q : Int} (hq : 0 < q) (hb : St.bd p q ≤ 42500) {j : Nat} (hj : j ≤ k.length) : f89 (pd m k (j + 1), ((p, (q, ())), ())) = some (St.ev (St.Dc m k (j + 1)) p q, ()) := by
  have e := f89_eq (St.Dc m k (j + 1)) p q
  have h := St.ev_le hf hq hb hj
  rw [wr_abs (Nat.le_trans h (by decide))] at e
  exact e

theorem l77_eq {m k : List Int} (hf : St.Fr m k) {p q : Int} (hq : 0 < q) (hb : St.bd p q ≤ 42500) :
    l77_0_1 ((m, ((m.length : Int), ((0 : Int), ()))), ((), ((m, (k, ())), (pd m k 0, (pd m k 1, ((p, (q, ())), (([], ()), ()))))))) =
      some (.inl ((), ((), ((m, (k, ())), (pd m k k.length, (pd m k (k.length + 1), ((p, (q, ())), ((vals m k p q k.length, ()), ())))))))) := by
  have h4 := hf.top
  have hl := hf.len
  refine itr_brk (step := s77_0_1) (fun i => ((m, ((m.length : Int), ((i : Int), ()))), ((), ((m, (k, ())), (pd m k i, (pd m k (i + 1), ((p, (q, ())), ((vals m k p q i, ()), ())))))))) (n := k.length) ?_ ?_ (lt_rounds (by omega))
  · intro i hi
    have e1 := q89 hf hq hb (j := i) (by omega)
    have e2 := f52_eq hf hi
    have e3 := m_neg hf hi
    have e4 := (k_sq hf hi).1
    have e5 := q78a hf hi
    have e6 := q78b hf hi
    have e7 := q79 hf hi
    simp only [pd, pA, pB] at e1 e5 e6 e7
    simp only [s77_0_1, t77_0_1, pd, Int.toNat_natCast, e3, e4, g52, e2, g78, g89, e1, Option.getD_some, Option.isSome_some, e5, e6, g79, e7, Tr.val_test, Tr.val_fin, Tr.val_stop, leF_eq, if_true, wrap64_nat (show i ≤ 9223372036854775806 by omega), vals_succ, vals_len]
    rw [if_pos (by simp; omega), if_pos (by simp; omega), if_pos (by simp [Nat.ble_eq]; omega), if_pos (by simp; omega)]
  · simp only [s77_0_1, t77_0_1, Tr.val_test, Tr.val_fin, Tr.val_stop, leF_eq]
    rw [if_neg (by simp; omega)]

theorem f63_eq {m k : List Int} (hf : St.Fr m k) {p q : Int} (hq : 0 < q) (hb : St.bd p q ≤ 42500) : f63 (((m, (k, ())), ()), ((p, (q, ())), ())) = some (vals m k p q (k.length + 1), ()) := by
  have h4 := hf.top
  have e := l77_eq hf hq hb
  have e0 : pd m k 0 = ((0 : Int), ((0 : Int), ((0 : Int), ((0 : Int), ((0 : Int), ()))))) := rfl
  have e1 : pd m k 1 = ((1 : Int), ((0 : Int), ((0 : Int), ((0 : Int), ((0 : Int), ()))))) := rfl
  rw [e0, e1] at e
  have e2 := q89 hf hq hb (j := k.length) (Nat.le_refl _)
  simp only [pd] at e2
  simp only [f63, t63, b77_0_1, e, isBrk, outB, pd, g89, e2, Option.isSome_some, Option.getD_some, Tr.val_test, Tr.val_fin, Tr.val_stop, if_true, vals_succ, vals_len]
  rw [if_pos (by simp [Nat.ble_eq]; omega)]

theorem first_map (bad : Nat → Bool) : ∀ (n i : Nat), first bad n (i + 1) = (first (fun k => bad (k + 1)) n i).map (· + 1)
  | 0, _ => rfl
  | n + 1, i => by
    simp only [first]
    split
    · rfl
    · exact first_map bad n (i + 1)

/-- The first that is not 0. -/
def firstNZ : List Int → Int
  | [] => 0
  | a :: l => if a = 0 then firstNZ l else a

theorem firstNZ_eq : ∀ l : List Int, (match first (fun i => !decide (l.getD i 0 = 0)) l.length 0 with
    | some k => l.getD k 0
    | none => 0) = firstNZ l
  | [] => rfl
  | a :: l => by
    simp only [List.length, first, firstNZ]
    by_cases ha : a = 0
    · subst ha
      have e := firstNZ_eq l
      have hf : first (fun i => !decide (((0 : Int) :: l).getD i 0 = 0)) l.length (0 + 1) = (first (fun i => !decide (l.getD i 0 = 0)) l.length 0).map (· + 1) := by
        rw [first_map]; rfl
      simp only [hf, List.getD_cons_zero, decide_true, Bool.not_true, Bool.false_eq_true, if_false, if_true]
      rw [← e]
      cases first (fun i => !decide (l.getD i 0 = 0)) l.length 0 with
      | none => rfl
      | some k => rfl
    · simp [ha]

theorem l44 (l : List Int) (h : l.length ≤ 1000000000) : l44_0 ((l, (l.length : Int), (0 : Int), ()), ()) = match first (fun i => !decide (l.getD i 0 = 0)) l.length 0 with
    | some k => some (.inr ((l.getD k 0, ()), ()))
    | none => some (.inl ((), ())) := by
  refine itr_search (fun i => ((l, (l.length : Int), (i : Int), ()), ())) (fun i => !decide (l.getD i 0 = 0)) (fun k => ((l.getD k 0, ()), ())) (n := l.length) ?_ ?_ (lt_rounds (by omega))
  · intro i hi
    simp only [s44_0, t44_0, Tr.val_test, leF_eq, eqF_eq]
    rw [if_pos (by simp; omega), if_pos (by simp; omega)]
    simp only [Int.toNat_natCast, wrap64_nat (show i ≤ 9223372036854775806 by omega)]
    rfl
  · simp [s44_0, t44_0, leF_eq]

theorem f44_eq (l : List Int) (h : l.length ≤ 1000000000) : f44 (l, ()) = some (firstNZ l, ()) := by
  simp only [f44, t44, Tr.val_test, r44_0, l44 l h, ← firstNZ_eq l]
  cases first (fun i => !decide (l.getD i 0 = 0)) l.length 0 with
  | none => rfl
  | some k => rfl

theorem f45_eq (d : Tys.data as45) : f45 d = some (if d.1 = true then d.2.1 else (0 : Int), ()) := by
  simp only [f45, t45, Tr.val_test]
  split <;> rfl

def wi (lo hi x : Int) : Bool := decide (lo ≤ x) && decide (x ≤ hi)

theorem wi_iff {lo hi x : Int} : wi lo hi x = true ↔ lo ≤ x ∧ x ≤ hi := by simp [wi]

theorem f18_eq (d : Tys.data as18) : f18 d = some (wi d.2.1 d.2.2.1 d.1, ()) := by
  simp only [f18, t18, Tr.val_test, Tr.val_fin, leF_eq, decide_eq_true_eq, wi]
  split <;> simp [*]

theorem l48 (lo hi : Int) (l : List Int) (h : l.length ≤ 1000000000) : l48_0 ((lo, hi, l, (l.length : Int), (0 : Int), ()), ()) = match first (fun i => !wi lo hi (l.getD i 0)) l.length 0 with
    | some _ => some (.inr ((false, ()), ()))
    | none => some (.inl ((), ())) := by
  refine itr_search (fun i => ((lo, hi, l, (l.length : Int), (i : Int), ()), ())) (fun i => !wi lo hi (l.getD i 0)) (fun _ => ((false, ()), ())) (n := l.length) ?_ ?_ (lt_rounds (by omega))
  · intro i hi'
    simp only [s48_0, t48_0, Tr.val_test, Tr.val_fin, leF_eq, Int.toNat_natCast, wrap64_nat (show i ≤ 9223372036854775806 by omega)]
    rw [if_pos (by simp; omega), if_pos (by simp; omega)]
    by_cases a0 : lo ≤ l.getD i 0
    · by_cases a1 : l.getD i 0 ≤ hi
      · simp only [wi, a0, a1, decide_true, Bool.and_self, Bool.not_true, if_true, if_false, Bool.false_eq_true]
      · simp only [wi, a0, a1, decide_true, decide_false, Bool.and_false, Bool.not_false, Bool.not_true, if_true, if_false, Bool.false_eq_true]
    · simp only [wi, a0, decide_false, Bool.false_and, Bool.not_false, if_true, if_false, Bool.false_eq_true]
  · simp [s48_0, t48_0, leF_eq]

theorem f48_eq (lo hi : Int) (l : List Int) (h : l.length ≤ 1000000000) : f48 (lo, hi, l, ()) = some ((first (fun i => !wi lo hi (l.getD i 0)) l.length 0).isNone, ()) := by
  have hl := l48 lo hi l h
  cases hf : first (fun i => !wi lo hi (l.getD i 0)) l.length 0 with
  | none =>
    rw [hf] at hl
    simp only [f48, t48, Tr.val_test, Tr.val_fin, hl, isRet, Option.isSome_some, Option.isNone_none, if_true, Bool.false_eq_true, if_false]
  | some k =>
    rw [hf] at hl
    simp only [f48, t48, Tr.val_test, Tr.val_fin, hl, isRet, r48_0, outR, Option.isSome_some, Option.isNone_some, if_true]

theorem f48_two (lo hi a b : Int) : f48 (lo, hi, [a, b], ()) = some (wi lo hi a && wi lo hi b, ()) := by
  rw [f48_eq lo hi _ (by simp)]
  simp only [first, List.length, List.getD_cons_zero, List.getD_cons_succ]
  by_cases h1 : wi lo hi a = true
  · by_cases h2 : wi lo hi b = true
    · simp [h1, h2]
    · simp [h1, h2]
  · simp [h1]

theorem f48_one (lo hi a : Int) : f48 (lo, hi, [a], ()) = some (wi lo hi a, ()) := by
  rw [f48_eq lo hi _ (by simp)]
  simp only [first, List.length, List.getD_cons_zero]
  by_cases h1 : wi lo hi a = true
  · simp [h1]
  · simp [h1]

def mx (a b : Int) : Int := if a < b then b else a

/-! Lowest terms. -/

theorem lt_r2 {n : Nat} (h : n ≤ 9223372036854775808) : n < rounds := by unfold rounds; omega

theorem mx_max (a b : Int) : mx a b = max a b := by unfold mx; omega

theorem q80_2 (l : List Int) (n i : Int) (a b : Int) (h : b.natAbs ≤ 9223372036854775808) : l80_2 ((a, b, l, n, i, ()), ()) = some (.inl ((euc a b, l, n, i, ()), ())) := by
  refine itr_euc (fun a b => ((a, b, l, n, i, ()), ())) (fun a => ((a, l, n, i, ()), ())) ?_ ?_ rounds a b (lt_r2 h)
  · intro a b hb
    simp [s80_2, t80_2, eqF_eq, hb]
  · intro a
    simp [s80_2, t80_2, eqF_eq]

theorem q80_0 (a b : Int) (hb : b.natAbs ≤ 9223372036854775807) : l80_0 ((a, [b], (1 : Int), (0 : Int), ()), ()) = some (.inl ((euc a b, ()), ())) := by
  have := itr_brk (step := s80_0) (fun i => ((if i = 0 then a else euc a b, [b], (1 : Int), (i : Int), ()), ())) (n := 1) (m := rounds) (b := ((euc a b, ()), ())) ?_ ?_ (lt_rounds (by omega))
  · exact this
  · intro i hi
    have h0 : i = 0 := by omega
    subst h0
    have e := q80_2 [b] 1 0 a b (by omega)
    simp only [s80_0, t80_0, Tr.val_test, Tr.val_fin, Tr.val_stop, leF_eq, if_true]
    rw [if_pos (by simp), if_pos (by simp)]
    change (if isBrk (l80_2 ((a, b, [b], (1 : Int), (0 : Int), ()), ())) = true then _ else _) = _
    rw [if_pos (by rw [e]; rfl)]
    change some (Out.again (((b80_2 ((a, b, [b], (1 : Int), (0 : Int), ()), ())).1.1, (b80_2 ((a, b, [b], (1 : Int), (0 : Int), ()), ())).1.2.1, (b80_2 ((a, b, [b], (1 : Int), (0 : Int), ()), ())).1.2.2.1, wrap64 ((b80_2 ((a, b, [b], (1 : Int), (0 : Int), ()), ())).1.2.2.2.1 + 1), ()), ())) = _
    simp only [b80_2, e, outB]
    rfl
  · simp [s80_0, t80_0, leF_eq]

theorem f80_two (a b : Int) (ha : a.natAbs ≤ 9223372036854775807) (hb : b.natAbs ≤ 9223372036854775807) : f80 (a, [b], ()) = some ((Int.gcd a b : Int), ()) := by
  have e := q80_0 a b hb
  simp only [f80, t80, Tr.val_test, Tr.val_fin, Tr.val_stop]
  change (if isBrk (l80_0 ((a, [b], (1 : Int), (0 : Int), ()), ())) = true then some ((if (b80_0 ((a, [b], (1 : Int), (0 : Int), ()), ())).1.1 < IntKind.wrap .i64 (0 - (b80_0 ((a, [b], (1 : Int), (0 : Int), ()), ())).1.1) then IntKind.wrap .i64 (0 - (b80_0 ((a, [b], (1 : Int), (0 : Int), ()), ())).1.1) else (b80_0 ((a, [b], (1 : Int), (0 : Int), ()), ())).1.1), ()) else none) = _
  simp only [b80_0, e, isBrk, outB, if_true]
  have := euc_gcd a b (by omega) (by omega) (by omega) (by omega)
  rw [← mx_max] at this
  rw [← wrap64_eq, Int.zero_sub]
  exact congrArg some (Prod.ext this rfl)

/-- A fraction in lowest terms. -/
def low (a b : Int) : Int × Int × Unit := (a.tdiv (Int.gcd a b), b.tdiv (Int.gcd a b), ())

theorem wrapI_id {n : Int} (h1 : -9223372036854775808 ≤ n) (h2 : n ≤ 9223372036854775807) : IntKind.wrap .i64 n = n := by rw [← wrap64_eq, wrap64_id h1 h2]

theorem q58_0 (a b : Int) (hb : b.natAbs ≤ 9223372036854775807) : l58_0 ((a, b, ()), ()) = some (.inl ((euc a b, ()), ())) := by
  refine itr_euc (fun a b => ((a, b, ()), ())) (fun a => ((a, ()), ())) ?_ ?_ rounds a b (lt_rounds hb)
  · intro a b hb
    simp [s58_0, t58_0, eqF_eq, hb]
  · intro a
    simp [s58_0, t58_0, eqF_eq]

theorem f86_eq (d : Tys.data as86) : f86 d = some (mx d.1 (IntKind.wrap .i64 (0 - d.1)), ()) := rfl

theorem wrapJ {n : Int} (h1 : -9223372036854775808 ≤ n) (h2 : n ≤ 9223372036854775807) : IntKind.wrap .i64 n = n := by rw [← wrap64_eq, wrap64_id h1 h2]

theorem f86_abs (x : Int) (h : x.natAbs ≤ 9223372036854775807) : f86 (x, ()) = some ((x.natAbs : Int), ()) := by
  simp only [f86, t86, Tr.val_fin]
  rw [wrapJ (by omega) (by omega)]
  have e : (if x < 0 - x then 0 - x else x) = (x.natAbs : Int) := by split <;> omega
  rw [e]

theorem l104 (l : List Int) (h : l.length ≤ 1000000000) : l104_0 ((l, (l.length : Int), ()), ()) = some (.inl ((l, (trimN l l.length : Int), ()), ())) := by
  have hle := trimN_le l l.length
  refine itr_brk (fun i => ((l, ((l.length - i : Nat) : Int), ()), ())) (n := l.length - trimN l l.length) ?_ ?_ (lt_rounds (by omega))
  · intro i hi
    have h0 := trimN_zero l l.length (l.length - i - 1) (by omega) (by omega)
    have e : wrap64 (((l.length - i : Nat) : Int) - 1) = ((l.length - i - 1 : Nat) : Int) := by rw [wrap64_id (by omega) (by omega)]; omega
    simp only [s104_0, t104_0, Tr.val_test, Tr.val_fin, leF_eq, eqF_eq, e, Int.toNat_natCast, h0]
    rw [if_pos (by simp <;> omega), if_pos (by simp <;> omega), if_pos (by simp)]
    rfl
  · have e0 : l.length - (l.length - trimN l l.length) = trimN l l.length := by omega
    dsimp only
    rw [e0]
    cases hk : trimN l l.length with
    | zero => simp [s104_0, t104_0, leF_eq]
    | succ m =>
      have h0 := trimN_last l l.length m hk
      have e : wrap64 (((m + 1 : Nat) : Int) - 1) = ((m : Nat) : Int) := by rw [wrap64_id (by omega) (by omega)]; omega
      simp only [s104_0, t104_0, Tr.val_test, Tr.val_fin, leF_eq, eqF_eq, e, Int.toNat_natCast]
      rw [if_pos (by simp <;> omega), if_pos (by simp <;> omega), if_neg (by simpa using h0)]

theorem f104_eq (l : List Int) (h : l.length ≤ 1000000000) (hd : Dg l) : f104 (l, ()) = some (dig (dval l).toNat, ()) := by
  have hle := trimN_le l l.length
  simp only [f104, t104, b104_0, l104 l h, Tr.val_test, Tr.val_fin, isBrk, if_true, outB, Int.toNat_natCast]
  rw [if_pos (by simp <;> omega), trim_dig hd]

/-- A number out of its sign and its size. -/
def mkN (s n : Int) : Int × List Int × PUnit := if n = 0 then (0, [], ()) else (s, dig n.toNat, ())

theorem f90_eq (s : Int) (l : List Int) (h : l.length ≤ 1000000000) (hd : Dg l) : f90 (s, l, ()) = some (mkN s (dval l), ()) := by
  have h0 := dv_nonneg hd
  simp only [f90, t90, g104, f104_eq l h hd, Option.isSome_some, Option.getD_some, Tr.val_test, Tr.val_fin, eqF_eq, if_true, mkN]
  by_cases e : dval l = 0
  · rw [if_pos (by rw [e]; simp [dig_zero]), if_pos e, e]
    simp [dig_zero]
  · rw [if_neg e, if_neg]
    intro h2
    simp only [decide_eq_true_eq] at h2
    have h3 : (dig (dval l).toNat).length = 0 := by omega
    have := dig_nil.1 (List.eq_nil_of_length_eq_zero h3)
    omega

theorem mkN_enc {s z : Int} (h : z ≠ 0 → s = z.sign) : mkN s z.natAbs = enc z := by
  unfold mkN enc
  by_cases e : z = 0
  · subst e; simp [dig_zero]
  · rw [if_neg (by omega), h e]; simp

theorem f106_eq (l : List Int) (i : Nat) : f106 (l, (i : Int), ()) = some (l.getD i 0, ()) := by
  simp only [f106, t106, Tr.val_test, Tr.val_fin, leF_eq]
  by_cases h : i < l.length
  · rw [if_pos (by simp <;> omega), if_pos (by simp <;> omega)]; simp
  · rw [if_neg (by simp <;> omega)]
    simp [List.getD, List.getElem?_eq_none (Nat.le_of_not_lt h)]

theorem it68 (s b : Int) : ∀ (k : Nat) (x : Int) (acc : List Int) (m : Nat), (x.natAbs : Int) < pw k → x.natAbs ≤ 9223372036854775807 → acc.length + k ≤ 1000000 → k < m →
    itr s68_0 m ((x, s, acc, ()), ((b, ()), ())) = some (.inl ((s, acc ++ dig x.natAbs, ()), ((b, ()), ())))
  | 0, x, acc, m, h1, _, _, hm => by
    have : x = 0 := by simp only [pw] at h1; omega
    subst this
    obtain ⟨m, rfl⟩ : ∃ j, m = j + 1 := ⟨m - 1, by omega⟩
    simp [itr, s68_0, t68_0, eqF_eq, dig_zero]
  | k + 1, x, acc, m, h1, h2, h3, hm => by
    obtain ⟨m, rfl⟩ : ∃ j, m = j + 1 := ⟨m - 1, by omega⟩
    by_cases hx : x = 0
    · subst hx
      simp [itr, s68_0, t68_0, eqF_eq, dig_zero]
    · have e1 : (Int.tmod x 1000000000).natAbs = x.natAbs % 1000000000 := by rw [Int.natAbs_tmod]; rfl
      have e2 : (Int.tdiv x 1000000000).natAbs = x.natAbs / 1000000000 := by rw [Int.natAbs_tdiv]; rfl
      have e3 : IntKind.wrap .i64 (Int.tdiv x 1000000000) = Int.tdiv x 1000000000 := wrapJ (by omega) (by omega)
      have st : s68_0 ((x, s, acc, ()), ((b, ()), ())) = some (.again ((Int.tdiv x 1000000000, s, acc ++ [((x.natAbs % 1000000000 : Nat) : Int)], ()), ((b, ()), ()))) := by
        simp only [s68_0, t68_0, g86, f86_abs (Int.tmod x 1000000000) (by omega), Option.isSome_some, Option.getD_some, Tr.val_test, Tr.val_fin, eqF_eq, e3, e1, if_true]
        rw [if_pos (by simpa using hx), if_pos (by simp <;> omega)]
      simp only [pw] at h1
      rw [itr, st]
      dsimp only
      rw [it68 s b k (Int.tdiv x 1000000000) _ m (by omega) (by omega) (by simp <;> omega) (by omega), dig_pos (show x.natAbs ≠ 0 by omega), e2]
      simp

theorem f68_eq (x : Int) (h : x.natAbs ≤ 9223372036854775807) : f68 (x, ()) = some (enc x, ()) := by
  have hl : ∀ s : Int, l68_0 ((x, s, [], ()), (((0 : Int), ()), ())) = some (.inl ((s, dig x.natAbs, ()), (((0 : Int), ()), ()))) := fun s => by
    have := it68 s 0 3 x [] rounds (by simp only [pw]; omega) h (by simp) (lt_rounds (by omega))
    simpa [l68_0] using this
  have hg : (dig x.natAbs).length ≤ 3 := dig_len (by simp only [pw]; omega)
  have e := dig_dv x.natAbs
  simp only [f68, t68, b68_0, hl, g90, f90_eq _ (dig x.natAbs) (by omega) (dig_Dg _), e, Option.isSome_some, Option.getD_some, Tr.val_test, Tr.val_fin, isBrk, outB, if_true, leF_eq]
  by_cases hx : 0 ≤ x
  · rw [if_neg (by simp <;> omega)]
    have : mkN 1 (x.natAbs : Int) = enc x := mkN_enc fun h => by rw [Int.sign_eq_one_of_pos (by omega)]
    rw [this]
  · rw [if_pos (by simp <;> omega)]
    have : mkN (-1) (x.natAbs : Int) = enc x := mkN_enc fun h => by rw [Int.sign_eq_neg_one_of_neg (by omega)]
    rw [this]

/-- Carries and digits of a sum. -/
def cA (a b : List Int) : Nat → Int
  | 0 => 0
  | i + 1 => (a.getD i 0 + b.getD i 0 + cA a b i) / 1000000000

def oA (a b : List Int) : Nat → List Int
  | 0 => []
  | i + 1 => oA a b i ++ [(a.getD i 0 + b.getD i 0 + cA a b i) % 1000000000]

theorem cA_le {a b : List Int} (ha : Dg a) (hb : Dg b) : ∀ i, 0 ≤ cA a b i ∧ cA a b i ≤ 1
  | 0 => by simp [cA]
  | i + 1 => by
    have := cA_le ha hb i; have := ha.getD i; have := hb.getD i
    simp only [cA]; omega

theorem oA_len (a b : List Int) : ∀ i, (oA a b i).length = i
  | 0 => rfl
  | i + 1 => by simp [oA, oA_len a b i]

theorem oA_Dg (a b : List Int) : ∀ i, Dg (oA a b i)
  | 0 => Dg.nil
  | i + 1 => (oA_Dg a b i).push (by omega) (by omega)

theorem oA_dv (a b : List Int) : ∀ i, dval (oA a b i) + pw i * cA a b i = dval (a.take i) + dval (b.take i)
  | 0 => by simp [oA, cA, dval, pw]
  | i + 1 => by
    have ih := oA_dv a b i
    rw [oA, dv_push, oA_len, dv_take, dv_take, cA, pw]
    generalize hs : a.getD i 0 + b.getD i 0 + cA a b i = s at *
    have e : s % 1000000000 = s - 1000000000 * (s / 1000000000) := by omega
    have e2 : pw i * (s % 1000000000) + 1000000000 * pw i * (s / 1000000000) = pw i * s := by
      rw [e, Int.mul_sub, Int.mul_comm 1000000000 (pw i), Int.mul_assoc]; omega
    have e3 : pw i * s = pw i * a.getD i 0 + pw i * b.getD i 0 + pw i * cA a b i := by rw [← hs, Int.mul_add, Int.mul_add]
    omega

/-- How many digits a sum has. -/
def nA (a b : List Int) : Nat := if cA a b (max a.length b.length) = 0 then max a.length b.length else max a.length b.length + 1

theorem cA_end {a b : List Int} (ha : Dg a) (hb : Dg b) : cA a b (nA a b) = 0 := by
  unfold nA
  split
  · assumption
  · have := cA_le ha hb (max a.length b.length)
    have e1 : a.getD (max a.length b.length) 0 = 0 := by simp [List.getD, List.getElem?_eq_none (Nat.le_max_left a.length b.length)]
    have e2 : b.getD (max a.length b.length) 0 = 0 := by simp [List.getD, List.getElem?_eq_none (Nat.le_max_right a.length b.length)]
    simp only [cA, e1, e2]; omega

theorem s96_again {a b : List Int} (ha : Dg a) (hb : Dg b) {i : Nat} (hl : i ≤ 1000000) (h : i < a.length ∨ i < b.length ∨ 0 < cA a b i) :
    s96_0 ((a, b, oA a b i, cA a b i, (i : Int), ()), ()) = some (.again ((a, b, oA a b (i + 1), cA a b (i + 1), ((i + 1 : Nat) : Int), ()), ())) := by
  have h1 := cA_le ha hb i; have h2 := ha.getD i; have h3 := hb.getD i
  have e1 : wrap64 (wrap64 (a.getD i 0 + b.getD i 0) + cA a b i) = a.getD i 0 + b.getD i 0 + cA a b i := by
    rw [wrap64_id (n := a.getD i 0 + b.getD i 0) (by omega) (by omega), wrap64_id (by omega) (by omega)]
  have e2 : IntKind.wrap .i64 (Int.tdiv (a.getD i 0 + b.getD i 0 + cA a b i) 1000000000) = cA a b (i + 1) := by
    rw [Int.tdiv_eq_ediv_of_nonneg (by omega), wrapJ (by omega) (by omega), cA]
  have e3 : Int.tmod (a.getD i 0 + b.getD i 0 + cA a b i) 1000000000 = (a.getD i 0 + b.getD i 0 + cA a b i) % 1000000000 := Int.tmod_eq_emod_of_nonneg (by omega)
  have e4 : wrap64 ((i : Int) + 1) = ((i + 1 : Nat) : Int) := wrap64_nat (by omega)
  have e5 : (Nat.ble ((2 * ((oA a b i).length + 1) + 192) * 8) 281474976710656 && Nat.ble ((oA a b i).length + 1) 281474976710656) = true := by
    rw [oA_len]; simp; omega
  simp only [s96_0, t96_0, g106, f106_eq a i, f106_eq b i, Option.isSome_some, Option.getD_some, Tr.val_test, Tr.val_fin, leF_eq, if_true, e1, e2, e3, e4, e5]
  by_cases c1 : i < a.length
  · rw [if_pos (by simp <;> omega)]; rfl
  · rw [if_neg (by simp <;> omega)]
    by_cases c2 : i < b.length
    · rw [if_pos (by simp <;> omega)]; rfl
    · rw [if_neg (by simp <;> omega), if_pos (by simp <;> omega)]; rfl

theorem f96_eq (a b : List Int) (ha : Dg a) (hb : Dg b) (h1 : a.length ≤ 100000) (h2 : b.length ≤ 100000) : f96 (a, b, ()) = some (oA a b (nA a b), ()) := by
  have hn : nA a b ≤ max a.length b.length + 1 := by unfold nA; split <;> omega
  have hl : l96_0 ((a, b, [], (0 : Int), (0 : Int), ()), ()) = some (.inl ((oA a b (nA a b), ()), ())) := by
    refine itr_brk (fun i => ((a, b, oA a b i, cA a b i, (i : Int), ()), ())) (n := nA a b) ?_ ?_ (lt_rounds (by omega))
    · intro i hi
      refine s96_again ha hb (by omega) ?_
      have := cA_le ha hb i
      unfold nA at hi
      split at hi
      · omega
      · rename_i hc
        by_cases e : i = max a.length b.length
        · rw [← e] at hc; omega
        · omega
    · have hc := cA_end ha hb
      have hm : max a.length b.length ≤ nA a b := by unfold nA; split <;> omega
      simp only [s96_0, t96_0, Tr.val_test, Tr.val_fin, leF_eq, hc]
      rw [if_neg (by simp <;> omega), if_neg (by simp <;> omega), if_neg (by simp)]
  simp only [f96, t96, b96_0, hl, Tr.val_test, Tr.val_fin, isBrk, if_true, outB]

theorem oA_sum {a b : List Int} (ha : Dg a) (hb : Dg b) : dval (oA a b (nA a b)) = dval a + dval b := by
  have h := oA_dv a b (nA a b)
  have hm : max a.length b.length ≤ nA a b := by unfold nA; split <;> omega
  rw [cA_end ha hb, dv_take_all a (by omega), dv_take_all b (by omega)] at h
  omega

/-- Borrows and digits of a difference. -/
def cS (a b : List Int) : Nat → Int
  | 0 => 0
  | i + 1 => if a.getD i 0 - b.getD i 0 - cS a b i < 0 then 1 else 0

def oS (a b : List Int) : Nat → List Int
  | 0 => []
  | i + 1 => oS a b i ++ [if a.getD i 0 - b.getD i 0 - cS a b i < 0 then a.getD i 0 - b.getD i 0 - cS a b i + 1000000000 else a.getD i 0 - b.getD i 0 - cS a b i]

theorem cS_le (a b : List Int) : ∀ i, 0 ≤ cS a b i ∧ cS a b i ≤ 1
  | 0 => by simp [cS]
  | i + 1 => by simp only [cS]; split <;> omega

theorem oS_len (a b : List Int) : ∀ i, (oS a b i).length = i
  | 0 => rfl
  | i + 1 => by simp [oS, oS_len a b i]

theorem oS_Dg {a b : List Int} (ha : Dg a) (hb : Dg b) : ∀ i, Dg (oS a b i)
  | 0 => Dg.nil
  | i + 1 => by
    have := cS_le a b i; have := ha.getD i; have := hb.getD i
    exact (oS_Dg ha hb i).push (by split <;> omega) (by split <;> omega)

theorem oS_dv (a b : List Int) : ∀ i, dval (oS a b i) - pw i * cS a b i = dval (a.take i) - dval (b.take i)
  | 0 => by simp [oS, cS, dval, pw]
  | i + 1 => by
    have ih := oS_dv a b i
    rw [oS, dv_push, oS_len, dv_take, dv_take, cS, pw]
    generalize hs : a.getD i 0 - b.getD i 0 - cS a b i = s at *
    have e3 : pw i * s = pw i * a.getD i 0 - pw i * b.getD i 0 - pw i * cS a b i := by rw [← hs, Int.mul_sub, Int.mul_sub]
    by_cases h : s < 0
    · rw [if_pos h, if_pos h, Int.mul_add]; omega
    · rw [if_neg h, if_neg h]; omega

theorem f98_eq (a b : List Int) (ha : Dg a) (hb : Dg b) (h1 : a.length ≤ 1000000) (h2 : b.length ≤ a.length) (h3 : dval b ≤ dval a) : f98 (a, b, ()) = some (dig (dval a - dval b).toNat, ()) := by
  have hl : l98_0 ((a, b, [], (0 : Int), (0 : Int), ()), ()) = some (.inl ((oS a b a.length, ()), ())) := by
    refine itr_brk (fun i => ((a, b, oS a b i, cS a b i, (i : Int), ()), ())) (n := a.length) ?_ ?_ (lt_rounds (by omega))
    · intro i hi
      have h1 := cS_le a b i; have h2 := ha.getD i; have h3 := hb.getD i
      have e0 : wrap64 (a.getD i 0 - b.getD i 0) = a.getD i 0 - b.getD i 0 := wrap64_id (by omega) (by omega)
      have e1 : wrap64 (wrap64 (a.getD i 0 - b.getD i 0) - cS a b i) = a.getD i 0 - b.getD i 0 - cS a b i := by
        rw [e0, wrap64_id (by omega) (by omega)]
      have e2 : wrap64 (a.getD i 0 - b.getD i 0 - cS a b i + 1000000000) = a.getD i 0 - b.getD i 0 - cS a b i + 1000000000 := wrap64_id (by omega) (by omega)
      have e4 : wrap64 ((i : Int) + 1) = ((i + 1 : Nat) : Int) := wrap64_nat (by omega)
      have e5 : (Nat.ble ((2 * ((oS a b i).length + 1) + 192) * 8) 281474976710656 && Nat.ble ((oS a b i).length + 1) 281474976710656) = true := by
        rw [oS_len]; simp; omega
      simp only [s98_0, t98_0, g106, f106_eq b i, Option.isSome_some, Option.getD_some, Tr.val_test, Tr.val_fin, leF_eq, if_true, e1, e2, e4, e5, Int.toNat_natCast, oS, cS]
      rw [if_pos (by simp <;> omega), if_pos (by simp <;> omega)]
      by_cases h : a.getD i 0 - b.getD i 0 - cS a b i < 0
      · rw [if_pos (by simp only [Bool.not_eq_true', decide_eq_false_iff_not]; omega), if_pos h, if_pos h]
      · rw [if_neg (by simp only [Bool.not_eq_true', decide_eq_false_iff_not]; omega), if_neg h, if_neg h]
    · simp [s98_0, t98_0, leF_eq]
  have hd := oS_Dg ha hb a.length
  have hv := oS_dv a b a.length
  rw [dv_take_all a (Nat.le_refl _), dv_take_all b h2] at hv
  have hlt := dv_lt hd
  rw [oS_len] at hlt
  have hc := cS_le a b a.length
  have hc0 : cS a b a.length = 0 := by
    by_cases e : cS a b a.length = 1
    · rw [e] at hv; omega
    · omega
  rw [hc0, Int.mul_zero, Int.sub_zero] at hv
  simp only [f98, t98, b98_0, hl, g104, f104_eq _ (show (oS a b a.length).length ≤ 1000000000 by rw [oS_len]; omega) hd, hv, Option.isSome_some, Option.getD_some, Tr.val_test, Tr.val_fin, isBrk, if_true, outB]

theorem can_ge {l : List Int} (hd : Dg l) (hc : Can l) {m : Nat} (hm : l.length = m + 1) : pw m ≤ dval l := by
  have h3 := dv_take l m
  rw [dv_take_all _ (by omega)] at h3
  have h2 := hc m hm
  have h4 := dv_nonneg (hd.take m)
  have h5 := hd.getD m
  have h7 : pw m * 1 ≤ pw m * l.getD m 0 := Int.mul_le_mul_of_nonneg_left (by omega) (Int.le_of_lt (pw_pos m))
  omega

theorem dv_top {a b : List Int} (ha : Dg a) (hb : Dg b) {j : Nat} (hlt : a.getD j 0 < b.getD j 0) : ∀ n, (∀ i, j < i → i < j + 1 + n → a.getD i 0 = b.getD i 0) → dval (a.take (j + 1 + n)) < dval (b.take (j + 1 + n))
  | 0, _ => by
    rw [Nat.add_zero, dv_take, dv_take]
    have h1 := dv_lt (ha.take j)
    have h2 := dv_nonneg (hb.take j)
    have h3 : pw (a.take j).length ≤ pw j := pw_le (by simp; omega)
    have h7 : pw j * (a.getD j 0 + 1) ≤ pw j * b.getD j 0 := Int.mul_le_mul_of_nonneg_left (by omega) (Int.le_of_lt (pw_pos j))
    rw [Int.mul_add] at h7
    omega
  | n + 1, h => by
    have ih := dv_top ha hb hlt n fun i h1 h2 => h i h1 (by omega)
    have e := h (j + 1 + n) (by omega) (by omega)
    rw [← Nat.add_assoc, dv_take, dv_take, e]
    omega

theorem f97_eq (a b : List Int) (ha : Dg a) (hb : Dg b) (ca : Can a) (cb : Can b) (h1 : a.length ≤ 1000000) : f97 (a, b, ()) = some ((dval a - dval b).sign, ()) := by
  simp only [f97, t97, Tr.val_test, Tr.val_fin, leF_eq, eqF_eq]
  by_cases hle : a.length = b.length
  · rw [if_neg (by simp; omega)]
    have e0 : wrap64 ((a.length : Int) - 1) = (a.length : Int) - 1 := wrap64_id (by omega) (by omega)
    have hl : l97_0 ((a, b, (a.length : Int) - 1, ()), ()) = match first (fun k => !decide (a.getD (a.length - 1 - k) 0 = b.getD (a.length - 1 - k) 0)) a.length 0 with
        | some k => some (.inr (((if a.getD (a.length - 1 - k) 0 < b.getD (a.length - 1 - k) 0 then (-1 : Int) else 1), ()), ()))
        | none => some (.inl ((), ())) := by
      have := itr_search (step := s97_0) (m := rounds) (n := a.length) (fun k => ((a, b, (a.length : Int) - 1 - (k : Int), ()), ())) (fun k => !decide (a.getD (a.length - 1 - k) 0 = b.getD (a.length - 1 - k) 0))
        (fun k => (((if a.getD (a.length - 1 - k) 0 < b.getD (a.length - 1 - k) 0 then (-1 : Int) else 1), ()), ())) (b := ((), ())) ?_ ?_ (lt_rounds (by omega))
      · rw [l97_0, show (a.length : Int) - 1 = (a.length : Int) - 1 - ((0 : Nat) : Int) by omega]; exact this
      · intro k hk
        have e1 : (a.length : Int) - 1 - (k : Int) = ((a.length - 1 - k : Nat) : Int) := by omega
        have e2 : wrap64 (((a.length - 1 - k : Nat) : Int) - 1) = (a.length : Int) - 1 - ((k + 1 : Nat) : Int) := by rw [wrap64_id (by omega) (by omega)]; omega
        simp only [e1, s97_0, t97_0, Tr.val_test, Tr.val_fin, leF_eq, Int.toNat_natCast, e2]
        rw [if_pos (by simp), if_pos (by simp; omega), if_pos (by simp; omega)]
        generalize a.getD (a.length - 1 - k) 0 = x
        generalize b.getD (a.length - 1 - k) 0 = y
        rcases Int.lt_trichotomy x y with h | h | h
        · rw [if_pos (by simp; omega), if_pos (by simp; omega), if_pos h]
        · rw [if_neg (by simp; omega), if_neg (by simp; omega), if_neg (by simp; omega)]
        · rw [if_neg (by simp; omega), if_pos (by simp; omega), if_pos (by simp; omega), if_neg (by omega)]
      · simp only [s97_0, t97_0, Tr.val_test, Tr.val_fin, leF_eq]
        rw [if_neg (by simp; omega)]
    rw [e0, r97_0, hl]
    have hta := dv_take_all a (Nat.le_refl _)
    have htb := dv_take_all b (Nat.le_of_eq hle.symm)
    cases hf : first (fun k => !decide (a.getD (a.length - 1 - k) 0 = b.getD (a.length - 1 - k) 0)) a.length 0 with
    | none =>
      have hn := first_none hf
      have : ∀ n, n ≤ a.length → dval (a.take n) = dval (b.take n) := by
        intro n
        induction n with
        | zero => intro _; simp
        | succ n ih =>
          intro h
          have := hn (a.length - 1 - n) (by omega) (by omega)
          rw [show a.length - 1 - (a.length - 1 - n) = n by omega] at this
          rw [dv_take, dv_take, ih (by omega), show a.getD n 0 = b.getD n 0 by simpa using this]
      have e := this a.length (Nat.le_refl _)
      rw [hta, htb] at e
      simp [e, isRet]
    | some k =>
      obtain ⟨q1, q2, q3, q4⟩ := first_some hf
      have hne : a.getD (a.length - 1 - k) 0 ≠ b.getD (a.length - 1 - k) 0 := by simpa using q3
      have heq : ∀ i, a.length - 1 - k < i → i < a.length - 1 - k + 1 + k → a.getD i 0 = b.getD i 0 := fun i h1 h2 => by
        have := q4 (a.length - 1 - i) (by omega) (by omega)
        rw [show a.length - 1 - (a.length - 1 - i) = i by omega] at this
        simpa using this
      have hN : a.length - 1 - k + 1 + k = a.length := by omega
      simp only [isRet, Option.isSome_some, if_true, outR]
      by_cases h : a.getD (a.length - 1 - k) 0 < b.getD (a.length - 1 - k) 0
      · have := dv_top ha hb h k heq
        rw [hN, hta, htb] at this
        rw [if_pos h, Int.sign_eq_neg_one_of_neg (by omega)]
      · have := dv_top hb ha (j := a.length - 1 - k) (by omega) k fun i h1 h2 => (heq i h1 h2).symm
        rw [hN, hta, htb] at this
        rw [if_neg h, Int.sign_eq_one_of_pos (by omega)]
  · rw [if_pos (by simp; omega)]
    by_cases h : a.length < b.length
    · rw [if_pos (by simp; omega)]
      have hx := dv_lt ha
      obtain ⟨m, hm⟩ : ∃ m, b.length = m + 1 := ⟨b.length - 1, by omega⟩
      have hy := can_ge hb cb hm
      have : pw a.length ≤ pw m := pw_le (by omega)
      rw [Int.sign_eq_neg_one_of_neg (by omega)]
    · rw [if_neg (by simp; omega)]
      have hx := dv_lt hb
      obtain ⟨m, hm⟩ : ∃ m, a.length = m + 1 := ⟨a.length - 1, by omega⟩
      have hy := can_ge ha ca hm
      have : pw b.length ≤ pw m := pw_le (by omega)
      rw [Int.sign_eq_one_of_pos (by omega)]

theorem l71_2_eq (n c i : Nat) (s0 s1 z : Int) (a b buf : List Int) (hi : i < a.length) (ha : Dg a) (hb : Dg b) (hbuf : Dg buf) (hlen : buf.length = n) (hn : i + b.length ≤ n) (hs : n ≤ 1000000) :
    l71_2 (((n, c), ((i : Int), (0 : Int), (0 : Int), ())), ((s0, a, ()), (s1, b, ()), (z, ()), buf, ())) =
      some (.inl (((n, c), ((i : Int), (mI (a.getD i 0) b i buf b.length).2, ())), ((s0, a, ()), (s1, b, ()), (z, ()), (mI (a.getD i 0) b i buf b.length).1, ()))) := by
  refine itr_brk (fun j => (((n, c), ((i : Int), (mI (a.getD i 0) b i buf j).2, (j : Int), ())), ((s0, a, ()), (s1, b, ()), (z, ()), (mI (a.getD i 0) b i buf j).1, ()))) (n := b.length) ?_ ?_ (lt_rounds (by omega))
  · intro j hj
    obtain ⟨h1, h2, h3⟩ := mI_Dg (i := i) (ha.getD i) hb hbuf j
    have h4 := h1.getD (i + j)
    have h5 := dg_mul (ha.getD i) (hb.getD j)
    have hml := mI_len (a.getD i 0) b i buf j
    have e0 : wrap64 ((i : Int) + (j : Int)) = ((i + j : Nat) : Int) := by rw [wrap64_id (by omega) (by omega)]; omega
    have e1 : wrap64 (a.getD i 0 * b.getD j 0) = a.getD i 0 * b.getD j 0 := wrap64_id (by omega) (by omega)
    have e2 : wrap64 (wrap64 ((mI (a.getD i 0) b i buf j).1.getD (i + j) 0 + a.getD i 0 * b.getD j 0) + (mI (a.getD i 0) b i buf j).2) = (mI (a.getD i 0) b i buf j).1.getD (i + j) 0 + a.getD i 0 * b.getD j 0 + (mI (a.getD i 0) b i buf j).2 := by
      rw [wrap64_id (n := (mI (a.getD i 0) b i buf j).1.getD (i + j) 0 + a.getD i 0 * b.getD j 0) (by omega) (by omega), wrap64_id (by omega) (by omega)]
    have e3 : Int.tmod ((mI (a.getD i 0) b i buf j).1.getD (i + j) 0 + a.getD i 0 * b.getD j 0 + (mI (a.getD i 0) b i buf j).2) 1000000000 = ((mI (a.getD i 0) b i buf j).1.getD (i + j) 0 + a.getD i 0 * b.getD j 0 + (mI (a.getD i 0) b i buf j).2) % 1000000000 := Int.tmod_eq_emod_of_nonneg (by omega)
    have e4 : IntKind.wrap .i64 (Int.tdiv ((mI (a.getD i 0) b i buf j).1.getD (i + j) 0 + a.getD i 0 * b.getD j 0 + (mI (a.getD i 0) b i buf j).2) 1000000000) = ((mI (a.getD i 0) b i buf j).1.getD (i + j) 0 + a.getD i 0 * b.getD j 0 + (mI (a.getD i 0) b i buf j).2) / 1000000000 := by
      rw [Int.tdiv_eq_ediv_of_nonneg (by omega), wrapJ (by omega) (by omega)]
    have e5 : wrap64 ((j : Int) + 1) = ((j + 1 : Nat) : Int) := wrap64_nat (by omega)
    simp only [s71_2, t71_2, Tr.val_test, Tr.val_fin, leF_eq, e0, Int.toNat_natCast, Nat.zero_add, e1, e2, e3, e4, e5]
    rw [if_pos (by simp; omega), if_pos (by simp; omega), if_pos (by rw [hml, ble_eq_true']; omega), if_pos (by simp; omega), if_pos (by simp; omega)]
    rfl
  · simp [s71_2, t71_2, leF_eq]

theorem l71_0_eq (s0 s1 z : Int) (a b : List Int) (n : Nat) (ha : Dg a) (hb : Dg b) (hn : n = a.length + b.length + 1) (hs : n ≤ 1000000) :
    l71_0 (((n, n), ((0 : Int), ())), ((s0, a, ()), (s1, b, ()), (z, ()), List.replicate n 0, ())) = some (.inl (((n, n), ()), ((s0, a, ()), (s1, b, ()), (z, ()), mO a b a.length, ()))) := by
  subst hn
  refine itr_brk (fun i => (((a.length + b.length + 1, a.length + b.length + 1), ((i : Int), ())), ((s0, a, ()), (s1, b, ()), (z, ()), mO a b i, ()))) (n := a.length) ?_ ?_ (lt_rounds (by omega))
  · intro i hi
    have hl := l71_2_eq (a.length + b.length + 1) (a.length + b.length + 1) i s0 s1 z a b (mO a b i) hi ha hb (mO_Dg ha hb i) (mO_len a b i) (by omega) hs
    obtain ⟨h1, h2, h3⟩ := mI_Dg (i := i) (ha.getD i) hb (mO_Dg ha hb i) b.length
    have e0 : wrap64 ((i : Int) + (b.length : Int)) = ((i + b.length : Nat) : Int) := by rw [wrap64_id (by omega) (by omega)]; omega
    have e1 : wrap64 ((mI (a.getD i 0) b i (mO a b i) b.length).1.getD (i + b.length) 0 + (mI (a.getD i 0) b i (mO a b i) b.length).2) = (mI (a.getD i 0) b i (mO a b i) b.length).1.getD (i + b.length) 0 + (mI (a.getD i 0) b i (mO a b i) b.length).2 := by
      rw [mO_get]; exact wrap64_id (by omega) (by omega)
    have e5 : wrap64 ((i : Int) + 1) = ((i + 1 : Nat) : Int) := wrap64_nat (by omega)
    have hml : (mI (a.getD i 0) b i (mO a b i) b.length).1.length = a.length + b.length + 1 := by rw [mI_len, mO_len]
    simp only [s71_0, t71_0, b71_2, hl, isBrk, outB, Tr.val_test, Tr.val_fin, leF_eq, e0, Int.toNat_natCast, Nat.zero_add, e1, e5, if_true]
    rw [if_pos (by simp; omega), if_pos (by simp; omega), if_pos (by rw [hml, ble_eq_true']; omega)]
    rfl
  · simp [s71_0, t71_0, leF_eq]

theorem f71_raw (s0 s1 : Int) (a b : List Int) (ha : Dg a) (hb : Dg b) (h : a.length + b.length + 1 ≤ 1000000) : f71 ((s0, a, ()), (s1, b, ()), ()) = some (mkN (wrap64 (s0 * s1)) (dval a * dval b), ()) := by
  have e0 : wrap64 (wrap64 ((a.length : Int) + (b.length : Int)) + 1) = ((a.length + b.length + 1 : Nat) : Int) := by
    rw [wrap64_id (n := (a.length : Int) + (b.length : Int)) (by omega) (by omega), wrap64_id (by omega) (by omega)]; omega
  have hl := l71_0_eq s0 s1 0 a b _ ha hb rfl h
  have hd := mO_Dg ha hb a.length
  have hv := mO_dv a b a.length (Nat.le_refl _)
  rw [dv_take_all a (Nat.le_refl _)] at hv
  have hlen := mO_len a b a.length
  have hf : f90 (wrap64 (s0 * s1), mO a b a.length, ()) = some (mkN (wrap64 (s0 * s1)) (dval a * dval b), ()) := by rw [f90_eq _ _ (by omega) hd, hv]
  simp only [f71, t71, e0, Int.toNat_natCast, b71_0, hl, isBrk, outB, Tr.val_test, Tr.val_fin, if_true, hlen, g90, hf, Option.isSome_some, Option.getD_some]
  rw [if_pos (by simp; omega), if_pos (by simp)]

theorem f71_eq (x y : Int) (h : (dig x.natAbs).length + (dig y.natAbs).length + 1 ≤ 1000000) : f71 (enc x, enc y, ()) = some (enc (x * y), ()) := by
  have hf := f71_raw x.sign y.sign (dig x.natAbs) (dig y.natAbs) (dig_Dg _) (dig_Dg _) h
  rw [dig_dv, dig_dv] at hf
  have hw : wrap64 (x.sign * y.sign) = (x * y).sign := by
    rw [← Int.sign_mul]
    have : (x * y).sign = -1 ∨ (x * y).sign = 0 ∨ (x * y).sign = 1 := by
      rcases Int.lt_trichotomy (x * y) 0 with h | h | h
      · left; exact Int.sign_eq_neg_one_of_neg h
      · right; left; rw [h]; rfl
      · right; right; exact Int.sign_eq_one_of_pos h
    exact wrap64_id (by omega) (by omega)
  rw [hw] at hf
  have he : mkN (x * y).sign ((x.natAbs : Int) * (y.natAbs : Int)) = enc (x * y) := by
    rw [← Int.natCast_mul, ← Int.natAbs_mul]
    exact mkN_enc fun _ => rfl
  rw [he] at hf
  exact hf

theorem sgn_cases (x : Int) : (x < 0 ∧ x.sign = -1) ∨ (x = 0 ∧ x.sign = 0) ∨ (0 < x ∧ x.sign = 1) := by
  rcases Int.lt_trichotomy x 0 with h | h | h
  · exact .inl ⟨h, Int.sign_eq_neg_one_of_neg h⟩
  · exact .inr (.inl ⟨h, by rw [h]; rfl⟩)
  · exact .inr (.inr ⟨h, Int.sign_eq_one_of_pos h⟩)

theorem f72_raw (s0 s1 : Int) (a b : List Int) (ha : Dg a) (hb : Dg b) (ca : Can a) (cb : Can b) (h1 : a.length ≤ 100000) (h2 : b.length ≤ 100000) : f72 ((s0, a, ()), (s1, b, ()), ()) =
    if s0 = 0 then some ((s1, b, ()), ()) else if s1 = 0 then some ((s0, a, ()), ()) else if s0 = s1 then some (mkN s0 (dval a + dval b), ()) else
    if dval a = dval b then some ((0, [], ()), ()) else if dval b < dval a then some (mkN s0 (dval a - dval b), ()) else some (mkN s1 (dval b - dval a), ()) := by
  have hle : ∀ {l : List Int} {n : Int}, Dg l → Can l → dval l ≤ n → ∀ {l2 : List Int}, Dg l2 → n = dval l2 → l.length ≤ l2.length := fun {l n} hd hc hn {l2} hd2 e => by
    rcases Nat.lt_or_ge l2.length l.length with h | h
    · exfalso
      obtain ⟨m, hm⟩ : ∃ m, l.length = m + 1 := ⟨l.length - 1, by omega⟩
      have := can_ge hd hc hm
      have := dv_lt hd2
      have : pw l2.length ≤ pw m := pw_le (by omega)
      omega
    · exact h
  have hn : nA a b ≤ max a.length b.length + 1 := by unfold nA; split <;> omega
  simp only [f72, t72, Tr.val_test, Tr.val_fin, eqF_eq, leF_eq, decide_eq_true_eq]
  by_cases c1 : s0 = 0
  · rw [if_pos c1, if_pos c1]
  rw [if_neg c1, if_neg c1]
  by_cases c2 : s1 = 0
  · rw [if_pos c2, if_pos c2]
  rw [if_neg c2, if_neg c2]
  by_cases c3 : s0 = s1
  · rw [if_pos c3, if_pos c3]
    simp only [g96, f96_eq a b ha hb h1 h2, Option.isSome_some, Option.getD_some, if_true, g90, f90_eq s0 (oA a b (nA a b)) (by rw [oA_len]; omega) (oA_Dg a b _), oA_sum ha hb]
  rw [if_neg c3, if_neg c3]
  simp only [g97, f97_eq a b ha hb ca cb (by omega), Option.isSome_some, Option.getD_some, if_true]
  rcases sgn_cases (dval a - dval b) with ⟨hs, e⟩ | ⟨hs, e⟩ | ⟨hs, e⟩
  · have hl := hle ha ca (show dval a ≤ dval b by omega) hb rfl
    have hv : ((dval b - dval a).toNat : Int) = dval b - dval a := by omega
    have hlen : (dig (dval b - dval a).toNat).length ≤ b.length := dig_len (by have := dv_lt hb; have := dv_nonneg ha; omega)
    rw [if_neg (by rw [e]; omega), if_neg (by rw [e]; simp)]
    simp only [g98, f98_eq b a hb ha (by omega) hl (by omega), Option.isSome_some, Option.getD_some, if_true, g90, f90_eq s1 (dig (dval b - dval a).toNat) (by omega) (dig_Dg _), dig_dv, hv]
    rw [if_neg (by omega), if_neg (by omega)]
  · rw [if_pos (by rw [e]), if_pos (by omega)]
  · have hl := hle hb cb (show dval b ≤ dval a by omega) ha rfl
    have hv : ((dval a - dval b).toNat : Int) = dval a - dval b := by omega
    have hlen : (dig (dval a - dval b).toNat).length ≤ a.length := dig_len (by have := dv_lt ha; have := dv_nonneg hb; omega)
    rw [if_neg (by rw [e]; omega), if_pos (by rw [e]; simp)]
    simp only [g98, f98_eq a b ha hb (by omega) hl (by omega), Option.isSome_some, Option.getD_some, if_true, g90, f90_eq s0 (dig (dval a - dval b).toNat) (by omega) (dig_Dg _), dig_dv, hv]
    rw [if_neg (by omega), if_pos (by omega)]

theorem mkN_eq {s n z : Int} (h : n = z.natAbs) (hs : z ≠ 0 → s = z.sign) : mkN s n = enc z := by rw [h]; exact mkN_enc hs

theorem f72_eq (x y : Int) (h1 : (dig x.natAbs).length ≤ 100000) (h2 : (dig y.natAbs).length ≤ 100000) : f72 (enc x, enc y, ()) = some (enc (x + y), ()) := by
  have hf := f72_raw x.sign y.sign (dig x.natAbs) (dig y.natAbs) (dig_Dg _) (dig_Dg _) (dig_Can _) (dig_Can _) h1 h2
  rw [dig_dv, dig_dv] at hf
  refine hf.trans ?_
  have t0 : (0 : Int).sign = 0 := rfl
  rcases sgn_cases x with ⟨hx, ex⟩ | ⟨hx, ex⟩ | ⟨hx, ex⟩
  · rcases sgn_cases y with ⟨hy, ey⟩ | ⟨hy, ey⟩ | ⟨hy, ey⟩
    · rw [ex, ey, if_neg (by omega), if_neg (by omega), if_pos rfl, mkN_eq (z := x + y) (by omega) fun _ => by rw [Int.sign_eq_neg_one_of_neg (by omega)]]
    · rw [ex, ey, if_neg (by omega), if_pos rfl]; subst hy; rw [Int.add_zero, enc, ex]
    · rw [ex, ey, if_neg (by omega), if_neg (by omega), if_neg (by omega)]
      split
      · have : x + y = 0 := by omega
        rw [this]; simp [enc, dig_zero]
      · split
        · rw [mkN_eq (z := x + y) (by omega) fun _ => by rw [Int.sign_eq_neg_one_of_neg (by omega)]]
        · rw [mkN_eq (z := x + y) (by omega) fun _ => by rw [Int.sign_eq_one_of_pos (by omega)]]
  · rw [ex, if_pos rfl]; subst hx; rw [Int.zero_add, enc]
  · rcases sgn_cases y with ⟨hy, ey⟩ | ⟨hy, ey⟩ | ⟨hy, ey⟩
    · rw [ex, ey, if_neg (by omega), if_neg (by omega), if_neg (by omega)]
      split
      · have : x + y = 0 := by omega
        rw [this]; simp [enc, dig_zero]
      · split
        · rw [mkN_eq (z := x + y) (by omega) fun _ => by rw [Int.sign_eq_one_of_pos (by omega)]]
        · rw [mkN_eq (z := x + y) (by omega) fun _ => by rw [Int.sign_eq_neg_one_of_neg (by omega)]]
    · rw [ex, ey, if_neg (by omega), if_pos rfl]; subst hy; rw [Int.add_zero, enc, ex]
    · rw [ex, ey, if_neg (by omega), if_neg (by omega), if_pos rfl, mkN_eq (z := x + y) (by omega) fun _ => by rw [Int.sign_eq_one_of_pos (by omega)]]

theorem enc_neg (x : Int) : (IntKind.wrap .i64 (0 - x.sign), dig x.natAbs, ()) = enc (-x) := by
  have : IntKind.wrap .i64 (0 - x.sign) = (-x).sign := by
    rw [Int.sign_neg]
    rcases sgn_cases x with ⟨_, e⟩ | ⟨_, e⟩ | ⟨_, e⟩ <;> rw [e] <;> rfl
  rw [this, enc, Int.natAbs_neg]

theorem f92_eq (x : Int) : f92 (enc x, ()) = some (enc (-x), ()) := by
  rw [← enc_neg]; rfl

theorem f95_eq (x y : Int) (h1 : (dig x.natAbs).length ≤ 100000) (h2 : (dig y.natAbs).length ≤ 100000) : f95 (enc x, enc y, ()) = some (enc (x - y), ()) := by
  have e0 : f92 ((y.sign, dig y.natAbs, ()), ()) = some (enc (-y), ()) := f92_eq y
  have e1 : f72 ((x.sign, dig x.natAbs, ()), ((enc (-y)).1, (enc (-y)).2.1, ()), ()) = some (enc (x - y), ()) := f72_eq x (-y) h1 (by rw [Int.natAbs_neg]; exact h2)
  show f95 ((x.sign, dig x.natAbs, ()), (y.sign, dig y.natAbs, ()), ()) = _
  simp only [f95, t95, g92, e0, g72, e1, Option.isSome_some, Option.getD_some, Tr.val_test, Tr.val_fin, if_true]

theorem f70_eq (x y : Int) (h1 : (dig x.natAbs).length ≤ 100000) (h2 : (dig y.natAbs).length ≤ 100000) : f70 (enc x, enc y, ()) = some ((x - y).sign, ()) := by
  have e0 : f95 ((x.sign, dig x.natAbs, ()), (y.sign, dig y.natAbs, ()), ()) = some (enc (x - y), ()) := f95_eq x y h1 h2
  show f70 ((x.sign, dig x.natAbs, ()), (y.sign, dig y.natAbs, ()), ()) = _
  simp only [f70, t70, g95, e0, Option.isSome_some, Option.getD_some, Tr.val_test, Tr.val_fin, if_true]
  rfl

theorem f105_eq (x : Int) : f105 (enc x, ()) = some (enc x.natAbs, ()) := by
  have e0 : f92 ((x.sign, dig x.natAbs, ()), ()) = some (enc (-x), ()) := f92_eq x
  show f105 ((x.sign, dig x.natAbs, ()), ()) = _
  simp only [f105, t105, g92, e0, Option.isSome_some, Option.getD_some, Tr.val_test, Tr.val_fin, leF_eq, if_true]
  rcases sgn_cases x with ⟨h, e⟩ | ⟨h, e⟩ | ⟨h, e⟩
  · rw [if_pos (by rw [e]; simp), show ((x.natAbs : Nat) : Int) = -x by omega]
  · subst h; rfl
  · rw [if_neg (by rw [e]; simp), show ((x.natAbs : Nat) : Int) = x by omega]; rfl

theorem dig_mono {m n : Nat} (h : m ≤ n) : (dig m).length ≤ (dig n).length := dig_len (by have := dig_len_pw n; omega)

theorem enc_pos {x : Int} (h : 0 < x) : f90 (1, dig x.natAbs, ()) = f90 (x.sign, dig x.natAbs, ()) := by rw [Int.sign_eq_one_of_pos h]

theorem f90_enc (x : Int) (h : (dig x.natAbs).length ≤ 1000000000) : f90 (x.sign, dig x.natAbs, ()) = some (enc x, ()) := by
  rw [f90_eq _ _ h (dig_Dg _), dig_dv, mkN_enc fun _ => rfl]

theorem dig_small {x : Int} (h0 : 0 ≤ x) (h : x < 1000000000) : (dig x.natAbs).length ≤ 1 := dig_len (by simp only [pw]; omega)

theorem f71_one {x y : Int} (hx : (dig x.natAbs).length ≤ 10000) (h0 : 0 ≤ y) (h : y < 1000000000) : f71 (((enc x).1, (enc x).2.1, ()), ((enc y).1, (enc y).2.1, ()), ()) = some (enc (x * y), ()) :=
  f71_eq x y (by have := dig_small h0 h; omega)

theorem it94 (n c : Nat) (i s0 s1 z : Int) (a buf : List Int) (V Y : Int) (hV : 0 ≤ V) (hY : 0 < Y) (hl : (dig Y.natAbs).length ≤ 10000) (hq : V / Y ≤ 999999999) :
    ∀ (k : Nat) (lo hi : Int) (m : Nat), (hi - lo).toNat ≤ k → 0 ≤ lo → lo ≤ V / Y → V / Y ≤ hi → hi ≤ 999999999 → k < m →
      itr s94_2 m (((n, c), (dig V.toNat, i, lo, hi, ())), ((s0, a, ()), (s1, dig Y.natAbs, ()), (z, ()), buf, ())) =
        some (.inl (((n, c), (dig V.toNat, i, V / Y, ())), ((s0, a, ()), (s1, dig Y.natAbs, ()), (z, ()), buf, ())))
  | k, lo, hi, m, hk, h1, h2, h3, h4, hm => by
    obtain ⟨m, rfl⟩ : ∃ j, m = j + 1 := ⟨m - 1, by omega⟩
    by_cases h : lo < hi
    · obtain ⟨k, rfl⟩ : ∃ j, k = j + 1 := ⟨k - 1, by omega⟩
      have e0 : IntKind.wrap .i64 (Int.tdiv (wrap64 (wrap64 (lo + hi) + 1)) 2) = (lo + hi + 1) / 2 := by
        rw [wrap64_id (n := lo + hi) (by omega) (by omega), wrap64_id (by omega) (by omega), Int.tdiv_eq_ediv_of_nonneg (by omega), wrapJ (by omega) (by omega)]
      have e5 : wrap64 ((lo + hi + 1) / 2 - 1) = (lo + hi + 1) / 2 - 1 := wrap64_id (by omega) (by omega)
      generalize hmid : (lo + hi + 1) / 2 = mid at *
      have b1 : 0 ≤ mid := by omega
      have b2 : mid < 1000000000 := by omega
      have e1 : f90 (1, dig Y.natAbs, ()) = some (enc Y, ()) := by rw [enc_pos hY, f90_enc Y (by omega)]
      have e2 := f68_eq mid (by omega)
      have e3 := f71_one (x := Y) hl b1 b2
      have hnn : 0 ≤ Y * mid := Int.mul_nonneg (by omega) b1
      have hvn : ((V.toNat : Nat) : Int) = V := by omega
      have hlm : (dig (Y * mid).natAbs).length ≤ (dig Y.natAbs).length + 1 := dig_len (by
        have q1 := dig_len_pw Y.natAbs
        have q3 : Y * mid < Y * 1000000000 := Int.mul_lt_mul_of_pos_left b2 hY
        simp only [pw]
        omega)
      have e4 : f97 ((enc (Y * mid)).2.1, dig V.toNat, ()) = some ((Y * mid - V).sign, ()) := by
        have := f97_eq (dig (Y * mid).natAbs) (dig V.toNat) (dig_Dg _) (dig_Dg _) (dig_Can _) (dig_Can _) (by omega)
        rw [dig_dv, dig_dv, hvn, show (((Y * mid).natAbs : Nat) : Int) = Y * mid by omega] at this
        exact this
      have hiff : mid ≤ V / Y ↔ Y * mid ≤ V := by rw [Int.le_ediv_iff_mul_le hY, Int.mul_comm]
      have hstep : s94_2 (((n, c), (dig V.toNat, i, lo, hi, ())), ((s0, a, ()), (s1, dig Y.natAbs, ()), (z, ()), buf, ())) =
          some (.again (((n, c), (dig V.toNat, i, (if mid ≤ V / Y then mid else lo), (if mid ≤ V / Y then hi else mid - 1), ())), ((s0, a, ()), (s1, dig Y.natAbs, ()), (z, ()), buf, ()))) := by
        simp only [s94_2, t94_2, e0, e5, g90, e1, g68, e2, g71, e3, g97, e4, Option.isSome_some, Option.getD_some, Tr.val_test, Tr.val_fin, leF_eq, if_true]
        rw [if_pos (by simp; omega)]
        rcases sgn_cases (Y * mid - V) with ⟨w, es⟩ | ⟨w, es⟩ | ⟨w, es⟩
        · have := hiff.2 (by omega)
          rw [if_pos (by rw [es]; simp), if_pos this, if_pos this]
        · have := hiff.2 (by omega)
          rw [if_pos (by rw [es]; simp), if_pos this, if_pos this]
        · have : ¬ mid ≤ V / Y := fun t => by have := hiff.1 t; omega
          rw [if_neg (by rw [es]; simp), if_neg this, if_neg this]
      rw [itr, hstep]
      dsimp only
      by_cases hc : mid ≤ V / Y
      · rw [if_pos hc, if_pos hc]
        exact it94 n c i s0 s1 z a buf V Y hV hY hl hq k mid hi m (by omega) b1 hc h3 h4 (by omega)
      · rw [if_neg hc, if_neg hc]
        exact it94 n c i s0 s1 z a buf V Y hV hY hl hq k lo (mid - 1) m (by omega) h1 h2 (by omega) (by omega) (by omega)
    · have : lo = V / Y := by omega
      rw [itr]
      simp only [s94_2, t94_2, Tr.val_test, Tr.val_fin, leF_eq]
      rw [if_neg (by simp; omega), this]

theorem set_zeros (q : Int) (d : List Int) : ∀ j, (List.replicate (j + 1) 0 ++ d).set j q = List.replicate j 0 ++ q :: d
  | 0 => by simp
  | j + 1 => by
    rw [List.replicate_succ, List.cons_append, List.set_cons_succ, set_zeros q d j, List.replicate_succ, List.cons_append]

/-- The value of the upper digits. -/
def upA (a : List Int) : Nat → Int
  | 0 => 0
  | k + 1 => a.getD (a.length - 1 - k) 0 + 1000000000 * upA a k

theorem upA_drop (a : List Int) : ∀ k, k ≤ a.length → upA a k = dval (a.drop (a.length - k))
  | 0, _ => by simp [upA, dval]
  | k + 1, h => by
    have e : a.length - (k + 1) + 1 = a.length - k := by omega
    rw [upA, upA_drop a k (by omega), List.drop_eq_getElem_cons (show a.length - (k + 1) < a.length by omega), dval, e]
    congr 1
    have : a.length - 1 - k = a.length - (k + 1) := by omega
    rw [this]
    simp [List.getD, show a.length - (k + 1) < a.length by omega]

/-- The digits of the quotient. -/
def dQ (a : List Int) (Y : Int) : Nat → List Int
  | 0 => []
  | k + 1 => ((a.getD (a.length - 1 - k) 0 + 1000000000 * (upA a k % Y)) / Y) :: dQ a Y k

theorem dQ_len (a : List Int) (Y : Int) : ∀ k, (dQ a Y k).length = k
  | 0 => rfl
  | k + 1 => by simp [dQ, dQ_len a Y k]

theorem dQ_bound {a : List Int} (ha : Dg a) {Y : Int} (hY : 0 < Y) (k : Nat) : 0 ≤ (a.getD (a.length - 1 - k) 0 + 1000000000 * (upA a k % Y)) / Y ∧ (a.getD (a.length - 1 - k) 0 + 1000000000 * (upA a k % Y)) / Y < 1000000000 := by
  have h1 := ha.getD (a.length - 1 - k)
  have h2 := Int.emod_nonneg (upA a k) (show Y ≠ 0 by omega)
  have h3 := Int.emod_lt_of_pos (upA a k) hY
  refine ⟨Int.ediv_nonneg (by omega) (by omega), Int.ediv_lt_of_lt_mul hY (by omega)⟩

theorem dQ_Dg {a : List Int} (ha : Dg a) {Y : Int} (hY : 0 < Y) : ∀ k, Dg (dQ a Y k)
  | 0 => Dg.nil
  | k + 1 => fun d hd => by
    rcases List.mem_cons.1 hd with rfl | hd
    · exact dQ_bound ha hY k
    · exact dQ_Dg ha hY k d hd

theorem upA_split (a : List Int) {Y : Int} (k : Nat) : upA a (k + 1) = a.getD (a.length - 1 - k) 0 + 1000000000 * (upA a k % Y) + Y * (1000000000 * (upA a k / Y)) := by
  have := Int.emod_add_mul_ediv (upA a k) Y
  rw [upA]
  have e : Y * (1000000000 * (upA a k / Y)) = 1000000000 * (Y * (upA a k / Y)) := by rw [Int.mul_left_comm]
  omega

theorem dQ_dv (a : List Int) {Y : Int} (hY : 0 < Y) : ∀ k, dval (dQ a Y k) = upA a k / Y
  | 0 => by simp [dQ, dval, upA]
  | k + 1 => by
    rw [dQ, dval, dQ_dv a hY k, upA_split a (Y := Y) k, Int.add_mul_ediv_left _ _ (by omega)]

theorem upA_mod (a : List Int) {Y : Int} (k : Nat) : upA a (k + 1) % Y = (a.getD (a.length - 1 - k) 0 + 1000000000 * (upA a k % Y)) % Y := by
  rw [upA_split a (Y := Y) k, Int.add_mul_emod_self_left]

theorem dig_up (V Y : Int) (hV : 0 ≤ V) (hY : 0 < Y) : f98 (dig V.toNat, (enc (Y * (V / Y))).2.1, ()) = f98 (dig V.toNat, dig (Y * (V / Y)).toNat, ()) := by
  have h : 0 ≤ Y * (V / Y) := Int.mul_nonneg (by omega) (Int.ediv_nonneg hV (by omega))
  rw [show (Y * (V / Y)).toNat = (Y * (V / Y)).natAbs by omega]; rfl

theorem f98_rem (V Y : Int) (hV : 0 ≤ V) (hY : 0 < Y) (h : (dig V.toNat).length ≤ 1000000) : f98 (dig V.toNat, (enc (Y * (V / Y))).2.1, ()) = some (dig (V % Y).toNat, ()) := by
  have h0 : 0 ≤ Y * (V / Y) := Int.mul_nonneg (by omega) (Int.ediv_nonneg hV (by omega))
  have h1 := Int.emod_add_mul_ediv V Y
  have h2 := Int.emod_nonneg V (show Y ≠ 0 by omega)
  have e1 : ((V.toNat : Nat) : Int) = V := by omega
  have e2 : (((Y * (V / Y)).toNat : Nat) : Int) = Y * (V / Y) := by omega
  rw [dig_up V Y hV hY, f98_eq _ _ (dig_Dg _) (dig_Dg _) h (dig_mono (by omega)) (by rw [dig_dv, dig_dv]; omega), dig_dv, dig_dv, e1, e2, show V - Y * (V / Y) = V % Y by omega]

theorem l94 (s0 s1 z : Int) (a : List Int) (Y : Int) (ha : Dg a) (hY : 0 < Y) (hl : (dig Y.natAbs).length ≤ 10000) (h : a.length ≤ 10000) :
    l94_0 (((a.length, a.length), ([], (a.length : Int) - 1, ())), ((s0, a, ()), (s1, dig Y.natAbs, ()), (z, ()), List.replicate a.length 0, ())) =
      some (.inl (((a.length, a.length), (dig (upA a a.length % Y).toNat, ())), ((s0, a, ()), (s1, dig Y.natAbs, ()), (z, ()), dQ a Y a.length, ()))) := by
  have key := itr_brk (step := s94_0) (m := rounds) (n := a.length) (b := (((a.length, a.length), (dig (upA a a.length % Y).toNat, ())), ((s0, a, ()), (s1, dig Y.natAbs, ()), (z, ()), dQ a Y a.length, ())))
    (fun k => (((a.length, a.length), (dig (upA a k % Y).toNat, (a.length : Int) - 1 - (k : Int), ())), ((s0, a, ()), (s1, dig Y.natAbs, ()), (z, ()), List.replicate (a.length - k) 0 ++ dQ a Y k, ()))) ?_ ?_ (lt_rounds (by omega))
  · have h0 : dig (upA a 0 % Y).toNat = [] := by simp [upA, dig_zero]
    have h1 : List.replicate (a.length - 0) (0 : Int) ++ dQ a Y 0 = List.replicate a.length 0 := by simp [dQ]
    have h2 : (a.length : Int) - 1 - ((0 : Nat) : Int) = (a.length : Int) - 1 := by omega
    simp only [h0, h1, h2] at key
    exact key
  · intro k hk
    have hidx : (a.length : Int) - 1 - (k : Int) = ((a.length - 1 - k : Nat) : Int) := by omega
    have hnext : wrap64 (((a.length - 1 - k : Nat) : Int) - 1) = (a.length : Int) - 1 - ((k + 1 : Nat) : Int) := by rw [wrap64_id (by omega) (by omega)]; omega
    have hrep : List.replicate (a.length - k) (0 : Int) = List.replicate ((a.length - 1 - k) + 1) 0 := by congr 1; omega
    have hset : (List.replicate (a.length - k) 0 ++ dQ a Y k).set (a.length - 1 - k) ((a.getD (a.length - 1 - k) 0 + 1000000000 * (upA a k % Y)) / Y) = List.replicate (a.length - (k + 1)) 0 ++ dQ a Y (k + 1) := by
      rw [hrep, set_zeros, dQ, show a.length - (k + 1) = a.length - 1 - k by omega]
    have hblen : (List.replicate (a.length - k) (0 : Int) ++ dQ a Y k).length = a.length := by rw [List.length_append, List.length_replicate, dQ_len]; omega
    have hb := dQ_bound ha hY k
    have hd := ha.getD (a.length - 1 - k)
    have hr0 := Int.emod_nonneg (upA a k) (show Y ≠ 0 by omega)
    have hr1 := Int.emod_lt_of_pos (upA a k) hY
    have hmod := upA_mod a (Y := Y) k
    generalize hR : upA a k % Y = R at *
    generalize hV : a.getD (a.length - 1 - k) 0 + 1000000000 * R = V at *
    have hV0 : 0 ≤ V := by omega
    have hRl : (dig R.toNat).length ≤ 10000 := Nat.le_trans (dig_mono (by omega)) hl
    have hVl : (dig V.toNat).length ≤ 10001 := by
      refine Nat.le_trans (m := (dig Y.natAbs).length + 1) (dig_len ?_) (by omega)
      have q1 := dig_len_pw Y.natAbs
      simp only [pw]; omega
    have hdg : Dg ([a.getD (a.length - 1 - k) 0] ++ dig R.toNat) := Dg.append (fun x hx => by rw [List.mem_singleton] at hx; subst hx; exact hd) (dig_Dg _)
    have hf : f104 ([a.getD (a.length - 1 - k) 0] ++ dig R.toNat, ()) = some (dig V.toNat, ()) := by
      rw [f104_eq _ (by simp; omega) hdg]
      congr 3
      have : dval ([a.getD (a.length - 1 - k) 0] ++ dig R.toNat) = V := by
        show a.getD (a.length - 1 - k) 0 + 1000000000 * dval (dig R.toNat) = V
        rw [dig_dv]; omega
      rw [this]
    have hin : l94_2 (((a.length, a.length), (dig V.toNat, ((a.length - 1 - k : Nat) : Int), (0 : Int), (999999999 : Int), ())), ((s0, a, ()), (s1, dig Y.natAbs, ()), (z, ()), List.replicate (a.length - k) 0 ++ dQ a Y k, ())) =
        some (.inl (((a.length, a.length), (dig V.toNat, ((a.length - 1 - k : Nat) : Int), V / Y, ())), ((s0, a, ()), (s1, dig Y.natAbs, ()), (z, ()), List.replicate (a.length - k) 0 ++ dQ a Y k, ()))) :=
      it94 _ _ _ s0 s1 z a _ V Y hV0 hY hl (by omega) 999999999 0 999999999 rounds (by omega) (by omega) hb.1 (by omega) (by omega) (lt_rounds (by omega))
    have e1 : f90 (1, dig Y.natAbs, ()) = some (enc Y, ()) := by rw [enc_pos hY, f90_enc Y (by omega)]
    have e2 := f68_eq (V / Y) (by omega)
    have e3 := f71_one (x := Y) hl hb.1 hb.2
    have e4 := f98_rem V Y hV0 hY (by omega)
    rw [hidx]
    dsimp only
    simp only [s94_0, t94_0, Tr.val_test, Tr.val_fin, leF_eq, Int.toNat_natCast]
    rw [if_pos (by simp), if_pos (by simp; omega)]
    by_cases hR0 : R = 0
    · have hnil : dig R.toNat = [] := by rw [hR0]; exact dig_zero
      rw [hnil, List.append_nil] at hf
      rw [hnil]
      simp only [g104, hf, b94_2, hin, isBrk, outB, g90, e1, g68, e2, g71, e3, g98, e4, Option.isSome_some, Option.getD_some, if_true, Int.toNat_natCast, Nat.zero_add, hset, hnext, hmod, hblen]
      rw [if_pos (by simp), if_pos (by simp; omega), if_pos (by rw [ble_eq_true']; omega)]
    · have hne : (dig R.toNat).length ≠ 0 := fun t => by
        have := dig_nil.1 (List.eq_nil_of_length_eq_zero t); omega
      simp only [g104, hf, b94_2, hin, isBrk, outB, g90, e1, g68, e2, g71, e3, g98, e4, Option.isSome_some, Option.getD_some, if_true, Int.toNat_natCast, Nat.zero_add, hset, hnext, hmod, hblen]
      rw [if_neg (by rw [beq_eq_true']; omega), if_neg (by rw [ble_eq_true']; omega), if_pos (by simp; omega), if_pos (by rw [beq_eq_true']; simp; omega), if_pos (by simp; omega), if_pos (by rw [ble_eq_true']; omega)]
  · have e : (a.length : Int) - 1 - (a.length : Int) = -1 := by omega
    simp only [e, Nat.sub_self, List.replicate_zero, List.nil_append]
    simp [s94_0, t94_0, leF_eq]

theorem ediv_neg_floor {x Y : Int} (hY : 0 < Y) : x / Y = if (-x) % Y = 0 then -((-x) / Y) else -((-x) / Y) - 1 := by
  have h1 := Int.emod_add_mul_ediv (-x) Y
  have h2 := Int.emod_nonneg (-x) (show Y ≠ 0 by omega)
  have h3 := Int.emod_lt_of_pos (-x) hY
  split
  · rename_i h
    refine ((Int.ediv_emod_unique (r := 0) hY).2 ⟨?_, by omega, hY⟩).1
    rw [Int.mul_neg]; omega
  · refine ((Int.ediv_emod_unique (r := Y - (-x) % Y) hY).2 ⟨?_, by omega, by omega⟩).1
    rw [Int.mul_sub, Int.mul_neg]; omega

theorem f94_eq (x Y : Int) (hY : 0 < Y) (hl : (dig Y.natAbs).length ≤ 10000) (h : (dig x.natAbs).length ≤ 10000) : f94 (enc x, enc Y, ()) = some (enc (x / Y), ()) := by
  show f94 ((x.sign, dig x.natAbs, ()), (Y.sign, dig Y.natAbs, ()), ()) = _
  have hL := l94 x.sign Y.sign 0 (dig x.natAbs) Y (dig_Dg _) hY hl h
  have hup : upA (dig x.natAbs) (dig x.natAbs).length = (x.natAbs : Int) := by
    rw [upA_drop _ _ (Nat.le_refl _), Nat.sub_self, List.drop_zero, dig_dv]
  rw [hup] at hL
  have hdq := dQ_dv (dig x.natAbs) hY (dig x.natAbs).length
  rw [hup] at hdq
  have hw : wrap64 (((dig x.natAbs).length : Int) - 1) = ((dig x.natAbs).length : Int) - 1 := wrap64_id (by omega) (by omega)
  have hql := dQ_len (dig x.natAbs) Y (dig x.natAbs).length
  have hf : f90 (x.sign, dQ (dig x.natAbs) Y (dig x.natAbs).length, ()) = some (mkN x.sign ((x.natAbs : Int) / Y), ()) := by
    rw [f90_eq _ _ (by omega) (dQ_Dg (dig_Dg _) hY _), hdq]
  have h0 := Int.ediv_nonneg (show (0 : Int) ≤ (x.natAbs : Int) by omega) (show 0 ≤ Y by omega)
  have hle : (x.natAbs : Int) / Y ≤ x.natAbs := Int.ediv_le_self _ (by omega)
  simp only [f94, t94, Tr.val_test, Tr.val_fin, eqF_eq, leF_eq, hw, Int.toNat_natCast, b94_0, hL, isBrk, outB, if_true, g90, hf, hql, Option.isSome_some, Option.getD_some]
  rcases sgn_cases x with ⟨hx, e⟩ | ⟨hx, e⟩ | ⟨hx, e⟩
  · have ex : (x.natAbs : Int) = -x := by omega
    rw [if_neg (by rw [e]; simp), if_pos (by simp; omega), if_pos (by simp), if_pos (by rw [e]; simp)]
    have hm : mkN x.sign ((x.natAbs : Int) / Y) = enc (-((-x) / Y)) := mkN_eq (by rw [ex] at h0 ⊢; omega) fun hz => by
      rw [ex] at h0; rw [e, Int.sign_eq_neg_one_of_neg (by omega)]
    have hfl := ediv_neg_floor (x := x) hY
    have hr0 := Int.emod_nonneg (-x) (show Y ≠ 0 by omega)
    rw [hm, ex]
    by_cases hr : (-x) % Y = 0
    · rw [if_pos hr] at hfl
      rw [if_neg (by rw [hr]; simp [dig_zero]), hfl]
    · rw [if_neg hr] at hfl
      have hne : (dig ((-x) % Y).toNat).length ≠ 0 := fun t => by
        have := dig_nil.1 (List.eq_nil_of_length_eq_zero t); omega
      have e1 := f68_eq 1 (by decide)
      have hlq : (dig (-((-x) / Y)).natAbs).length ≤ 10000 := Nat.le_trans (dig_mono (by rw [ex] at h0 hle; omega)) h
      have e2 : f95 (((enc (-((-x) / Y))).1, (enc (-((-x) / Y))).2.1, ()), ((enc 1).1, (enc 1).2.1, ()), ()) = some (enc (-((-x) / Y) - 1), ()) := f95_eq _ 1 (by omega) (by have := dig_small (x := 1) (by omega) (by omega); omega)
      rw [if_pos (by simp only [Bool.not_eq_true', decide_eq_false_iff_not]; omega)]
      simp only [g68, e1, g95, e2, Option.isSome_some, Option.getD_some, if_true]
      rw [hfl]
  · subst hx
    rw [if_pos (by simp), Int.zero_ediv]; simp [enc, dig_zero]
  · have ex : (x.natAbs : Int) = x := by omega
    rw [if_neg (by rw [e]; simp), if_pos (by simp; omega), if_pos (by simp), if_neg (by rw [e]; simp)]
    rw [mkN_eq (z := x / Y) (by rw [ex] at h0 ⊢; omega) fun hz => by
      rw [ex] at h0; rw [e, Int.sign_eq_one_of_pos (by omega)]]

theorem pw_two : ∀ n, pw n ≤ (((2 ^ (30 * n) : Nat)) : Int)
  | 0 => by simp [pw]
  | n + 1 => by
    have := pw_two n
    have e : (2 : Nat) ^ (30 * (n + 1)) = 1073741824 * 2 ^ (30 * n) := by rw [Nat.mul_add, Nat.pow_add, Nat.mul_comm]
    rw [e, pw]
    omega

theorem mod_half {b r : Nat} (h0 : 0 < r) (h : r < b) : 2 * (b % r) < b := by
  have h1 := Nat.mod_lt b h0
  have h2 := Nat.div_add_mod b r
  have h3 : 1 ≤ b / r := (Nat.one_le_div_iff h0).2 (Nat.le_of_lt h)
  have h4 : r * 1 ≤ r * (b / r) := Nat.mul_le_mul_left r h3
  omega

theorem s93_step (a b : Nat) (z : Int) (hb : b ≠ 0) (h1 : (dig a).length ≤ 10000) (h2 : (dig b).length ≤ 10000) :
    s93_0 ((), (((a : Int).sign, dig a, ()), ((b : Int).sign, dig b, ()), (z, ()), ())) = some (.again ((), (((b : Int).sign, dig b, ()), (((a % b : Nat) : Int).sign, dig (a % b), ()), (z, ()), ()))) := by
  have e0 : f91 (((b : Int).sign, dig b, ()), ()) = some ((b : Int).sign, ()) := rfl
  have e1 : f94 (((a : Int).sign, dig a, ()), ((b : Int).sign, dig b, ()), ()) = some (enc ((a : Int) / (b : Int)), ()) := f94_eq a b (by omega) h2 h1
  have hd : (dig ((a : Int) / (b : Int)).natAbs).length ≤ 10000 := Nat.le_trans (dig_mono (by
    have : ((a : Int) / (b : Int)).natAbs = a / b := by rw [← Int.natCast_ediv]; rfl
    rw [this]; exact Nat.div_le_self _ _)) h1
  have e2 : f71 (((enc ((a : Int) / (b : Int))).1, (enc ((a : Int) / (b : Int))).2.1, ()), ((b : Int).sign, dig b, ()), ()) = some (enc ((a : Int) / (b : Int) * (b : Int)), ()) := f71_eq _ b (by simp only [Int.natAbs_natCast]; omega)
  have hm := Int.emod_add_mul_ediv (a : Int) b
  have hle : 0 ≤ (a : Int) / (b : Int) * (b : Int) := Int.mul_nonneg (Int.ediv_nonneg (by omega) (by omega)) (by omega)
  have hmn := Int.emod_nonneg (a : Int) (show (b : Int) ≠ 0 by omega)
  have hcm : (a : Int) / (b : Int) * (b : Int) = (b : Int) * ((a : Int) / (b : Int)) := Int.mul_comm _ _
  have e3 : f95 (((a : Int).sign, dig a, ()), ((enc ((a : Int) / (b : Int) * (b : Int))).1, (enc ((a : Int) / (b : Int) * (b : Int))).2.1, ()), ()) = some (enc ((a % b : Nat) : Int), ()) := by
    have h := f95_eq a ((a : Int) / (b : Int) * (b : Int)) (by simp only [Int.natAbs_natCast]; omega) (Nat.le_trans (dig_mono (n := a) (by omega)) (by omega))
    rw [show (a : Int) - (a : Int) / (b : Int) * (b : Int) = ((a % b : Nat) : Int) by rw [Int.natCast_emod]; omega] at h
    exact h
  have hs : (b : Int).sign = 1 := Int.sign_eq_one_of_pos (by omega)
  simp only [s93_0, t93_0, g91, e0, g94, e1, g71, e2, g95, e3, Option.isSome_some, Option.getD_some, Tr.val_test, Tr.val_fin, eqF_eq, if_true]
  rw [if_pos (by rw [hs]; simp)]
  rfl

theorem s93_end (a : Nat) (z : Int) : s93_0 ((), (((a : Int).sign, dig a, ()), (((0 : Nat) : Int).sign, dig 0, ()), (z, ()), ())) = some (.brk ((), (((a : Int).sign, dig a, ()), (((0 : Nat) : Int).sign, dig 0, ()), (z, ()), ()))) := by
  have e0 : f91 ((((0 : Nat) : Int).sign, dig 0, ()), ()) = some (((0 : Nat) : Int).sign, ()) := rfl
  simp only [s93_0, t93_0, g91, e0, Option.isSome_some, Option.getD_some, Tr.val_test, Tr.val_fin, eqF_eq, if_true]
  rw [if_neg (by simp)]

theorem it93 (z : Int) : ∀ (k a b m : Nat), b < 2 ^ k → (dig a).length ≤ 10000 → (dig b).length ≤ 10000 → 2 * k < m →
    itr s93_0 m ((), (((a : Int).sign, dig a, ()), ((b : Int).sign, dig b, ()), (z, ()), ())) =
      some (.inl ((), (((Nat.gcd a b : Nat) : Int).sign, dig (Nat.gcd a b), ()), (((0 : Nat) : Int).sign, dig 0, ()), (z, ()), ()))
  | k, a, b, m, h, h1, h2, hm => by
    obtain ⟨m, rfl⟩ : ∃ j, m = j + 1 := ⟨m - 1, by omega⟩
    by_cases hb : b = 0
    · subst hb
      rw [itr, s93_end, Nat.gcd_zero_right]
    · rw [itr, s93_step a b z hb h1 h2]
      dsimp only
      have hr := Nat.mod_lt a (Nat.pos_of_ne_zero hb)
      have hrl : (dig (a % b)).length ≤ 10000 := Nat.le_trans (dig_mono (Nat.le_of_lt hr)) h2
      have hg : Nat.gcd a b = Nat.gcd b (a % b) := by rw [Nat.gcd_comm, Nat.gcd_rec, Nat.gcd_comm]
      obtain ⟨m, rfl⟩ : ∃ j, m = j + 1 := ⟨m - 1, by
        cases k with
        | zero => simp at h; omega
        | succ k => omega⟩
      by_cases hr0 : a % b = 0
      · rw [hg, hr0, itr, s93_end, Nat.gcd_zero_right]
      · rw [itr, s93_step b (a % b) z hr0 h2 hrl]
        dsimp only
        have hh := mod_half (Nat.pos_of_ne_zero hr0) hr
        have hg2 : Nat.gcd b (a % b) = Nat.gcd (a % b) (b % (a % b)) := by rw [Nat.gcd_comm, Nat.gcd_rec, Nat.gcd_comm]
        cases k with
        | zero => simp at h; omega
        | succ k =>
          rw [hg, hg2]
          have h3 := Nat.mod_lt b (Nat.pos_of_ne_zero hr0)
          exact it93 z k (a % b) (b % (a % b)) m (by rw [Nat.pow_succ] at h; omega) hrl (Nat.le_trans (dig_mono (by omega)) hrl) (by omega)

theorem f93_eq (x y : Int) (h1 : (dig x.natAbs).length ≤ 10000) (h2 : (dig y.natAbs).length ≤ 10000) : f93 (enc x, enc y, ()) = some (enc (Nat.gcd x.natAbs y.natAbs : Nat), ()) := by
  have e0 : f105 ((x.sign, dig x.natAbs, ()), ()) = some (enc x.natAbs, ()) := f105_eq x
  have e1 : f105 ((y.sign, dig y.natAbs, ()), ()) = some (enc y.natAbs, ()) := f105_eq y
  have hlt : y.natAbs < 2 ^ (30 * (dig y.natAbs).length) := by
    have q1 := dig_len_pw y.natAbs
    have q2 := pw_two (dig y.natAbs).length
    omega
  have hl : l93_0 ((), (((enc x.natAbs).1, (enc x.natAbs).2.1, ()), ((enc y.natAbs).1, (enc y.natAbs).2.1, ()), ((0 : Int), ()), ())) =
      some (.inl ((), (((Nat.gcd x.natAbs y.natAbs : Nat) : Int).sign, dig (Nat.gcd x.natAbs y.natAbs), ()), (((0 : Nat) : Int).sign, dig 0, ()), ((0 : Int), ()), ())) :=
    it93 0 _ x.natAbs y.natAbs rounds hlt h1 h2 (lt_rounds (by omega))
  show f93 ((x.sign, dig x.natAbs, ()), (y.sign, dig y.natAbs, ()), ()) = _
  simp only [f93, t93, g105, e0, e1, b93_0, hl, Option.isSome_some, Option.getD_some, Tr.val_test, Tr.val_fin, isBrk, outB, if_true]
  rfl

def encR (r : Rat) : (Int × List Int × PUnit) × (Int × List Int × PUnit) × PUnit := (enc r.num, enc (r.den : Int), ())

def rsz (r : Rat) (n : Nat) : Prop := (dig r.num.natAbs).length ≤ n ∧ (dig r.den).length ≤ n

theorem len_mul (m n : Nat) : (dig (m * n)).length ≤ (dig m).length + (dig n).length := dig_len (by
  have h1 := dig_len_pw m; have h2 := dig_len_pw n
  rw [pw_add, Int.natCast_mul]
  rcases Nat.eq_zero_or_pos n with h | h
  · subst h
    have := pw_pos (dig m).length; have := pw_pos (dig 0).length
    have := Int.mul_pos (pw_pos (dig m).length) (pw_pos (dig 0).length)
    simpa using this
  · exact Int.lt_of_lt_of_le (Int.mul_lt_mul_of_pos_right h1 (by omega)) (Int.mul_le_mul_of_nonneg_left (Int.le_of_lt h2) (Int.le_of_lt (pw_pos _))))

theorem len_add (x y : Int) {k : Nat} (h1 : (dig x.natAbs).length ≤ k) (h2 : (dig y.natAbs).length ≤ k) : (dig (x + y).natAbs).length ≤ k + 1 := dig_len (by
  have q1 := dig_len_pw x.natAbs; have q2 := dig_len_pw y.natAbs
  have q3 : pw (dig x.natAbs).length ≤ pw k := pw_le h1
  have q4 : pw (dig y.natAbs).length ≤ pw k := pw_le h2
  simp only [pw]; omega)

theorem len_imul (x y : Int) : (dig (x * y).natAbs).length ≤ (dig x.natAbs).length + (dig y.natAbs).length := by rw [Int.natAbs_mul]; exact len_mul _ _

theorem f69_eq (x : Int) (y : Nat) (hy : y ≠ 0) (h1 : (dig x.natAbs).length ≤ 10000) (h2 : (dig y).length ≤ 10000) : f69 (enc x, enc (y : Int), ()) = some (encR (Rat.normalize x y hy), ()) := by
  have hs : (y : Int).sign = 1 := Int.sign_eq_one_of_pos (by omega)
  have e0 : f91 (((y : Int).sign, dig (y : Int).natAbs, ()), ()) = some ((y : Int).sign, ()) := rfl
  have e1 : f93 ((x.sign, dig x.natAbs, ()), ((y : Int).sign, dig (y : Int).natAbs, ()), ()) = some (enc (Nat.gcd x.natAbs y : Nat), ()) := f93_eq x y h1 h2
  have e2 := f68_eq 1 (by decide)
  have hg : 0 < Nat.gcd x.natAbs y := Nat.gcd_pos_of_pos_right _ (by omega)
  have hgl : (dig (Nat.gcd x.natAbs y)).length ≤ 10000 := Nat.le_trans (dig_mono (Nat.gcd_le_right _ (by omega))) h2
  have hnum : (Rat.normalize x y hy).num = x / ((Nat.gcd x.natAbs y : Nat) : Int) := by rw [Rat.normalize_eq]
  have hden : (Rat.normalize x y hy).den = y / Nat.gcd x.natAbs y := by rw [Rat.normalize_eq]
  generalize hgg : Nat.gcd x.natAbs y = g at *
  have e3 : f70 (((enc (g : Nat)).1, (enc (g : Nat)).2.1, ()), ((enc 1).1, (enc 1).2.1, ()), ()) = some (((g : Int) - 1).sign, ()) := f70_eq (g : Int) 1 (by simp only [Int.natAbs_natCast]; omega) (by have := dig_small (x := 1) (by omega) (by omega); omega)
  have e4 : f94 ((x.sign, dig x.natAbs, ()), ((enc (g : Nat)).1, (enc (g : Nat)).2.1, ()), ()) = some (enc (x / (g : Int)), ()) := f94_eq x g (by omega) hgl h1
  have e5 : f94 (((y : Int).sign, dig (y : Int).natAbs, ()), ((enc (g : Nat)).1, (enc (g : Nat)).2.1, ()), ()) = some (enc ((y : Int) / (g : Int)), ()) := f94_eq y g (by omega) hgl h2
  show f69 ((x.sign, dig x.natAbs, ()), ((y : Int).sign, dig (y : Int).natAbs, ()), ()) = _
  simp only [f69, t69, g91, e0, g93, e1, g68, e2, g70, e3, Option.isSome_some, Option.getD_some, Tr.val_test, Tr.val_fin, leF_eq, eqF_eq, if_true]
  rw [if_neg (by rw [hs]; simp)]
  by_cases h : g = 1
  · subst h
    rw [if_pos (by simp), encR, hnum, hden]
    simp [enc]
  · rw [if_neg (by rw [Int.sign_eq_one_of_pos (by omega)]; simp)]
    simp only [g94, e4, e5, Option.isSome_some, Option.getD_some, if_true]
    rw [encR, hnum, hden, Int.natCast_ediv]

theorem f33_eq (x : Int) (h : x.natAbs ≤ 9223372036854775807) : f33 (x, ()) = some (encR (x : Rat), ()) := by
  have e1 := f68_eq x h
  have e2 := f68_eq 1 (by decide)
  simp only [f33, t33, g68, e1, e2, Option.isSome_some, Option.getD_some, Tr.val_test, Tr.val_fin, if_true]
  rfl

theorem f34_eq (x : Int) (y : Nat) (hy : y ≠ 0) (h : x.natAbs ≤ 9223372036854775807) (h2 : y ≤ 9223372036854775807) : f34 (x, (y : Int), ()) = some (encR (Rat.normalize x y hy), ()) := by
  have e1 := f68_eq x h
  have e2 := f68_eq (y : Int) (by omega)
  have e3 : f69 (((enc x).1, (enc x).2.1, ()), ((enc (y : Int)).1, (enc (y : Int)).2.1, ()), ()) = some (encR (Rat.normalize x y hy), ()) := f69_eq x y hy
    (Nat.le_trans (dig_len (k := 3) (by simp only [pw]; omega)) (by omega)) (Nat.le_trans (dig_len (k := 3) (by simp only [pw]; omega)) (by omega))
  simp only [f34, t34, g68, e1, e2, g69, e3, Option.isSome_some, Option.getD_some, Tr.val_test, Tr.val_fin, if_true]

theorem f36_eq (r s : Rat) (hr : rsz r 2000) (hs : rsz s 2000) : f36 (encR r, encR s, ()) = some (encR (r + s), ()) := by
  obtain ⟨r1, r2⟩ := hr
  obtain ⟨s1, s2⟩ := hs
  have m1 := len_imul r.num (s.den : Int)
  have m2 := len_imul s.num (r.den : Int)
  have m3 := len_mul r.den s.den
  simp only [Int.natAbs_natCast] at m1 m2
  have m4 := len_add (r.num * (s.den : Int)) (s.num * (r.den : Int)) (k := 4000) (by omega) (by omega)
  have e1 : f71 ((r.num.sign, dig r.num.natAbs, ()), ((s.den : Int).sign, dig s.den, ()), ()) = some (enc (r.num * (s.den : Int)), ()) := f71_eq _ _ (by simp only [Int.natAbs_natCast]; omega)
  have e2 : f71 ((s.num.sign, dig s.num.natAbs, ()), ((r.den : Int).sign, dig r.den, ()), ()) = some (enc (s.num * (r.den : Int)), ()) := f71_eq _ _ (by simp only [Int.natAbs_natCast]; omega)
  have e3 : f72 (((enc (r.num * (s.den : Int))).1, (enc (r.num * (s.den : Int))).2.1, ()), ((enc (s.num * (r.den : Int))).1, (enc (s.num * (r.den : Int))).2.1, ()), ()) = some (enc (r.num * (s.den : Int) + s.num * (r.den : Int)), ()) := f72_eq _ _ (by omega) (by omega)
  have e4 : f71 (((r.den : Int).sign, dig r.den, ()), ((s.den : Int).sign, dig s.den, ()), ()) = some (enc ((r.den * s.den : Nat) : Int), ()) := by
    rw [Int.natCast_mul]; exact f71_eq (r.den : Int) (s.den : Int) (by simp only [Int.natAbs_natCast]; omega)
  have e5 : f69 (((enc (r.num * (s.den : Int) + s.num * (r.den : Int))).1, (enc (r.num * (s.den : Int) + s.num * (r.den : Int))).2.1, ()), ((enc ((r.den * s.den : Nat) : Int)).1, (enc ((r.den * s.den : Nat) : Int)).2.1, ()), ()) = some (encR (r + s), ()) := by
    rw [Rat.add_def]; exact f69_eq _ _ _ (by omega) (by omega)
  show f36 (((r.num.sign, dig r.num.natAbs, ()), ((r.den : Int).sign, dig r.den, ()), ()), ((s.num.sign, dig s.num.natAbs, ()), ((s.den : Int).sign, dig s.den, ()), ()), ()) = _
  simp only [f36, t36, g71, e1, e2, g72, e3, e4, g69, e5, Option.isSome_some, Option.getD_some, Tr.val_test, Tr.val_fin, if_true]

theorem f37_eq (r s : Rat) (hr : rsz r 2000) (hs : rsz s 2000) : f37 (encR r, encR s, ()) = some (encR (r * s), ()) := by
  obtain ⟨r1, r2⟩ := hr
  obtain ⟨s1, s2⟩ := hs
  have m1 := len_imul r.num s.num
  have m3 := len_mul r.den s.den
  have e1 : f71 ((r.num.sign, dig r.num.natAbs, ()), (s.num.sign, dig s.num.natAbs, ()), ()) = some (enc (r.num * s.num), ()) := f71_eq _ _ (by omega)
  have e4 : f71 (((r.den : Int).sign, dig r.den, ()), ((s.den : Int).sign, dig s.den, ()), ()) = some (enc ((r.den * s.den : Nat) : Int), ()) := by
    rw [Int.natCast_mul]; exact f71_eq (r.den : Int) (s.den : Int) (by simp only [Int.natAbs_natCast]; omega)
  have e5 : f69 (((enc (r.num * s.num)).1, (enc (r.num * s.num)).2.1, ()), ((enc ((r.den * s.den : Nat) : Int)).1, (enc ((r.den * s.den : Nat) : Int)).2.1, ()), ()) = some (encR (r * s), ()) := by
    rw [Rat.mul_def]; exact f69_eq _ _ _ (by omega) (by omega)
  show f37 (((r.num.sign, dig r.num.natAbs, ()), ((r.den : Int).sign, dig r.den, ()), ()), ((s.num.sign, dig s.num.natAbs, ()), ((s.den : Int).sign, dig s.den, ()), ()), ()) = _
  simp only [f37, t37, g71, e1, e4, g69, e5, Option.isSome_some, Option.getD_some, Tr.val_test, Tr.val_fin, if_true]

theorem sgn_zero (x : Int) : St.sgn x = 0 ↔ x = 0 := by unfold St.sgn; split <;> (try split) <;> constructor <;> intro h <;> (try omega) <;> (try cases h)

theorem f60_eq {m k : List Int} (hf : St.Fr m k) {p q : Int} (hq : 0 < q) (hb : St.bd p q ≤ 42500) : f60 (((m, (k, ())), ()), ((p, (q, ())), ())) = some (((St.top m k p q).count : Int), ()) := by
  have h4 := hf.top
  have e := f63_eq hf hq hb
  have e2 := f66_eq (vals m k p q (k.length + 1)) (by rw [vals_len]; omega)
  have e3 : St.chg (St.gt (vals m k p q (k.length + 1))) (vals m k p q (k.length + 1)).length = St.chg (fun i => St.W m k p q (i + 1)) (k.length + 1) := by
    rw [vals_len]
    exact chg_congr _ (fun i hi => by rw [vals_at _ _ _ _ hi]; exact St.ev_sgn hf.top hq (by omega))
  rw [e3, St.chg_count hf hq] at e2
  simp only [f60, t60, g63, e, g66, e2, Option.isSome_some, Option.getD_some, Tr.val_test, Tr.val_fin, if_true]

theorem ev_top {m k : List Int} (hf : St.Fr m k) {p q : Int} (hq : 0 < q) : St.ev (St.Dc m k (k.length + 1)) p q = 0 ↔ (St.top m k p q).f = 0 := by
  rw [← sgn_zero, St.ev_sgn hf.top hq (Nat.le_refl _), sgn_zero, St.W_top hf hq]
  have := St.sg_ne (St.top m k p q).h
  constructor
  · intro h
    rcases Int.mul_eq_zero.1 h with h | h
    · exact absurd h this
    · exact h
  · intro h
    rw [h, Int.mul_zero]

theorem f61_eq {m k : List Int} (hf : St.Fr m k) {p q : Int} (hq : 0 < q) (hb : St.bd p q ≤ 42500) : f61 (((m, (k, ())), ()), ((p, (q, ())), ())) = some (decide ((St.top m k p q).f = 0), ()) := by
  have h4 := hf.top
  have e := f63_eq hf hq hb
  have el := vals_len m k p q (k.length + 1)
  have w : wrap64 (((k.length + 1 : Nat) : Int) - 1) = (k.length : Int) := by rw [wr_abs (by omega)]; omega
  have ev := vals_at m k p q (n := k.length + 1) (i := k.length) (by omega)
  have ev' : (vals m k p q (k.length + 1)).getD k.length 0 = St.ev (St.Dc m k (k.length + 1)) p q := ev
  simp only [f61, t61, g63, e, Option.isSome_some, Option.getD_some, Tr.val_test, Tr.val_fin, Tr.val_stop, if_true, el, w, Int.toNat_natCast, eqF_eq, ev']
  rw [if_pos (by simp; omega)]
  congr 2
  exact decide_eq_decide.2 (ev_top hf hq)

theorem f30_eq (l : List Int) (h : l.length ≤ 1000) : f30 (l, ()) = some (l, ()) := by
  rcases Nat.eq_zero_or_pos l.length with h0 | h0
  · have : l = [] := List.length_eq_zero_iff.1 h0
    subst this
    rfl
  · simp only [f30, t30, Tr.val_test, Tr.val_fin, Tr.val_stop, List.nil_append, Nat.zero_add]
    rw [if_neg (by simp; intro h; rw [h] at h0; simp at h0), if_neg (by simp; intro h; rw [h] at h0; simp at h0), if_pos (by simp [Nat.ble_eq]; omega), if_pos (by simp)]

theorem f10_eq (m k : List Int) (h : m.length ≤ 1000) (h2 : k.length ≤ 1000) : f10 ((m, (k, ())), ()) = some ((m, (k, ())), ()) := by
  have e1 := f30_eq m h
  have e2 := f30_eq k h2
  simp only [f10, t10, g30, e1, e2, Option.isSome_some, Option.getD_some, Tr.val_test, Tr.val_fin, if_true]

theorem firstNZ_zero {a b : Int} (ha : a = 0) (hb : b = 0) : firstNZ [a, b] = 0 := by subst ha hb; rfl

/-- A square that may be asked for. -/
structure Sq (p q : Int) : Prop where
  pos : 0 < q
  den : q ≤ 100
  lo : -100 ≤ p
  hi : p ≤ 100
  low : Int.gcd p q = 1

theorem Sq.bd {p q : Int} (h : Sq p q) : St.bd p q ≤ 42500 := by
  have h1 := h.pos; have h2 := h.den; have h3 := h.lo; have h4 := h.hi
  unfold St.bd; omega

theorem f59_eq {p q : Int} (h : Sq p q) : f59 ((p, (q, ())), ()) = some (0, ()) := by
  have h1 := h.pos; have h2 := h.den; have h3 := h.lo; have h4 := h.hi
  have e0 : f87 ((p, (q, ())), ()) = some (true, ()) := by
    have e := f80_two q p (by omega) (by omega)
    rw [Int.gcd_comm, h.low] at e
    simp only [f87, t87, g80, e, Option.isSome_some, Option.getD_some, Tr.val_test, Tr.val_fin, leF_eq, eqF_eq, if_true]
    rw [if_pos (by simpa using h1)]
    simp
  have w : IntKind.wrap .i64 (0 - 100) = -100 := wrapI_id (by decide) (by decide)
  have e1 : f88 ((100 : Int), ([p, q], ())) = some (0, ()) := by
    have e := f48_two (-100) 100 p q
    rw [show wi (-100) 100 p = true from wi_iff.2 ⟨h3, h4⟩, show wi (-100) 100 q = true from wi_iff.2 ⟨by omega, h2⟩] at e
    simp only [f88, t88, w, g48, e, g45, f45_eq (false, ((2 : Int), ())), Option.isSome_some, Option.getD_some, Tr.val_test, Tr.val_fin, if_true, Bool.and_self, Bool.not_true]
    rfl
  have e2 := f44_eq [0, 0] (by decide)
  rw [firstNZ_zero rfl rfl] at e2
  simp only [f59, t59, g87, e0, g88, e1, g45, f45_eq (false, ((3 : Int), ())), Option.isSome_some, Option.getD_some, Tr.val_test, Tr.val_fin, if_true, Bool.not_true, Bool.false_eq_true, if_false, g44, e2]

theorem norm_size {x : Int} {y : Nat} (hy : y ≠ 0) {n : Nat} (h1 : (dig x.natAbs).length ≤ n) (h2 : (dig y).length ≤ n) : rsz (Rat.normalize x y hy) n := by
  rw [Rat.normalize_eq]
  constructor
  · refine Nat.le_trans (dig_mono ?_) h1
    have h : ((x.natAbs.gcd y : Nat) : Int) ∣ x := Int.ofNat_dvd_left.2 (Nat.gcd_dvd_left _ _)
    show (x / ((x.natAbs.gcd y : Nat) : Int)).natAbs ≤ _
    rw [← Int.tdiv_eq_ediv_of_dvd h]
    exact tdiv_abs_le _ _
  · exact Nat.le_trans (dig_mono (Nat.div_le_self _ _)) h2

theorem rsz_mono {r : Rat} {m n : Nat} (h : rsz r m) (hn : m ≤ n) : rsz r n := ⟨Nat.le_trans h.1 hn, Nat.le_trans h.2 hn⟩

theorem rsz_int {x : Int} (h : x.natAbs < 1000000000000000000) : rsz (x : Rat) 2 := by
  refine ⟨?_, ?_⟩
  · rw [Rat.num_intCast]; exact dig_len (by simp only [pw]; omega)
  · rw [Rat.den_intCast]; exact Nat.le_trans (dig_len (k := 1) (by simp only [pw]; omega)) (by omega)

theorem f35_eq (r s : Rat) (hr : rsz r 2000) (hs : rsz s 2000) : f35 (encR r, encR s, ()) = some ((r.num * (s.den : Int) - s.num * (r.den : Int)).sign, ()) := by
  obtain ⟨r1, r2⟩ := hr
  obtain ⟨s1, s2⟩ := hs
  have m1 := len_imul r.num (s.den : Int)
  have m2 := len_imul s.num (r.den : Int)
  simp only [Int.natAbs_natCast] at m1 m2
  have e1 : f71 ((r.num.sign, dig r.num.natAbs, ()), ((s.den : Int).sign, dig s.den, ()), ()) = some (enc (r.num * (s.den : Int)), ()) := f71_eq _ _ (by simp only [Int.natAbs_natCast]; omega)
  have e2 : f71 ((s.num.sign, dig s.num.natAbs, ()), ((r.den : Int).sign, dig r.den, ()), ()) = some (enc (s.num * (r.den : Int)), ()) := f71_eq _ _ (by simp only [Int.natAbs_natCast]; omega)
  have e3 : f70 (((enc (r.num * (s.den : Int))).1, (enc (r.num * (s.den : Int))).2.1, ()), ((enc (s.num * (r.den : Int))).1, (enc (s.num * (r.den : Int))).2.1, ()), ()) = some ((r.num * (s.den : Int) - s.num * (r.den : Int)).sign, ()) := f70_eq _ _ (by omega) (by omega)
  show f35 (((r.num.sign, dig r.num.natAbs, ()), ((r.den : Int).sign, dig r.den, ()), ()), ((s.num.sign, dig s.num.natAbs, ()), ((s.den : Int).sign, dig s.den, ()), ()), ()) = _
  simp only [f35, t35, g71, e1, e2, g70, e3, Option.isSome_some, Option.getD_some, Tr.val_test, Tr.val_fin, if_true]

end Go.Vm.Mo

namespace Go.Vm.Mo
open Go
set_option linter.unusedVariables false
set_option linter.unusedSimpArgs false

theorem l46_ok {m k : List Int} (hf : St.Fr m k) : l46_0 ((m, ((m.length : Int), ((0 : Int), ()))), ((m, (k, ())), ())) = some (.inl ((), ((m, (k, ())), ()))) := by
  have h4 := hf.top
  have hl := hf.len
  refine itr_brk (step := s46_0) (fun i => ((m, ((m.length : Int), ((i : Int), ()))), ((m, (k, ())), ()))) (n := m.length) ?_ ?_ (lt_rounds (by omega))
  · intro i hi
    have hm := hf.mass i (by omega)
    have hk := hf.spring i (by omega)
    have e1 := f48_one 1 10 (St.gt m i)
    have e2 := f48_one 1 20 (St.gt k i)
    rw [show wi 1 10 (St.gt m i) = true from wi_iff.2 hm] at e1
    rw [show wi 1 20 (St.gt k i) = true from wi_iff.2 hk] at e2
    simp only [s46_0, t46_0, Tr.val_test, Tr.val_fin, Tr.val_stop, leF_eq, eqF_eq, Int.toNat_natCast, show m.getD i 0 = St.gt m i from rfl, show k.getD i 0 = St.gt k i from rfl, g48, e1, e2, g45, Bool.not_true, f45_eq (false, ((2 : Int), ())), Option.isSome_some, Option.getD_some, if_true, wrap64_nat (show i ≤ 9223372036854775806 by omega), Bool.false_eq_true, if_false]
    rw [if_pos (by simp; omega), if_pos (by simp; omega), if_pos (by simp; omega)]
    rfl
  · simp only [s46_0, t46_0, Tr.val_test, Tr.val_fin, Tr.val_stop, leF_eq]
    rw [if_neg (by simp)]

theorem f9_ok {m k : List Int} (hf : St.Fr m k) : f9 ((m, (k, ())), ()) = some (0, (0, ())) := by
  have h4 := hf.top
  have hl := hf.len
  have h0 := hf.pos
  have e := l46_ok hf
  have e2 := f44_eq [0, 0] (by decide)
  rw [firstNZ_zero rfl rfl] at e2
  have c1 : (!eqF (k.length : Int) (m.length : Int)) = false := by rw [eqF_eq, hl]; simp
  have c2 : (!leF (m.length : Int) 4) = false := by rw [leF_eq]; simp; omega
  have c3 : eqF (m.length : Int) 0 = false := by rw [eqF_eq]; simp; intro h; rw [h] at hl; simp at hl; omega
  simp only [f9, t9, Tr.val_test, Tr.val_fin, Tr.val_stop, c1, c2, c3, Bool.false_eq_true, if_false, g45, f45_eq (false, ((10 : Int), ())), f45_eq (false, ((8 : Int), ())), Option.isSome_some, Option.getD_some, if_true, g44, e2, e, isRet]
  simp [eqF_eq]

theorem f22_ok {m k : List Int} (hf : St.Fr m k) {p q : Int} (hs : Sq p q) : f22 ((m, (k, ())), ((p, (q, ())), ())) = some (((St.top m k p q).count : Int), (0, ())) := by
  have e := f9_ok hf
  have e1 := f59_eq hs
  have e2 := f44_eq [0, 0] (by decide)
  have e3 := f44_eq [0] (by decide)
  rw [firstNZ_zero rfl rfl] at e2
  rw [show firstNZ [0] = 0 from rfl] at e3
  have e4 := f60_eq hf hs.pos hs.bd
  simp only [f22, t22, g59, e1, g9, e, g44, e2, e3, g60, e4, Tr.val_test, Tr.val_fin, Tr.val_stop, Option.isSome_some, Option.getD_some, if_true]
  simp [eqF_eq]

theorem f23_ok {m k : List Int} (hf : St.Fr m k) {p q : Int} (hs : Sq p q) : f23 ((m, (k, ())), ((p, (q, ())), ())) = some (decide ((St.top m k p q).f = 0), (0, ())) := by
  have e := f9_ok hf
  have e1 := f59_eq hs
  have e2 := f44_eq [0, 0] (by decide)
  have e3 := f44_eq [0] (by decide)
  rw [firstNZ_zero rfl rfl] at e2
  rw [show firstNZ [0] = 0 from rfl] at e3
  have e4 := f61_eq hf hs.pos hs.bd
  simp only [f23, t23, g59, e1, g9, e, g44, e2, e3, g61, e4, Tr.val_test, Tr.val_fin, Tr.val_stop, Option.isSome_some, Option.getD_some, if_true]
  simp [eqF_eq]

/-- One that is not valid. -/
def frBad (m k : List Int) (i : Nat) : Bool := !wi 1 10 (St.gt m i) || !wi 1 20 (St.gt k i)

theorem l13_eq {m k : List Int} (hl : k.length = m.length) (h : m.length ≤ 4) : l13_0 (((0 : Int), ()), ((m, (k, ())), ())) = match first (frBad m k) m.length 0 with
    | some i => some (.inr (((i : Int), ((2 : Int), ())), ((m, (k, ())), ())))
    | none => some (.inl ((), ((m, (k, ())), ()))) := by
  refine itr_search (fun i => (((i : Int), ()), ((m, (k, ())), ()))) (frBad m k) (fun i => (((i : Int), ((2 : Int), ())), ((m, (k, ())), ()))) (n := m.length) ?_ ?_ (lt_rounds (by omega))
  · intro i hi
    simp only [s13_0, t13_0, Tr.val_test, Tr.val_fin, Tr.val_stop, leF_eq, Int.toNat_natCast, wrap64_nat (show i ≤ 9223372036854775806 by omega), show m.getD i 0 = St.gt m i from rfl, show k.getD i 0 = St.gt k i from rfl, g18, f18_eq (St.gt m i, ((1 : Int), ((10 : Int), ()))), f18_eq (St.gt k i, ((1 : Int), ((20 : Int), ()))), Option.isSome_some, Option.getD_some, if_true, frBad]
    rw [if_pos (by simp; omega), if_pos (by simp; omega)]
    have hc : (decide ((0 : Int) ≤ (i : Int)) && decide ((i : Int) < (k.length : Int))) = true := by simp; omega
    rcases Bool.eq_false_or_eq_true (wi 1 10 (St.gt m i)) with h1 | h1
    · rcases Bool.eq_false_or_eq_true (wi 1 20 (St.gt k i)) with h2 | h2
      · simp only [h1, h2, hc, Bool.not_true, Bool.or_self, Bool.false_eq_true, if_false, if_true]
      · simp only [h1, h2, hc, Bool.not_true, Bool.not_false, Bool.or_true, Bool.false_eq_true, if_false, if_true]
    · simp only [h1, Bool.not_false, Bool.true_or, if_true]
  · simp only [s13_0, t13_0, Tr.val_test, Tr.val_fin, Tr.val_stop, leF_eq]
    rw [if_neg (by simp)]

/-- Which storey, and the error. -/
def chkE (m k : List Int) : Int × Int := if m.length = 0 then (0, 10) else if k.length = m.length then (if m.length ≤ 4 then (match first (frBad m k) m.length 0 with
  | some i => ((i : Int), 2)
  | none => (0, 0)) else (0, 8)) else (0, 10)

theorem chkE_ok {m k : List Int} (h : (chkE m k).2 = 0) : St.Fr m k := by
  unfold chkE at h
  split at h
  · simp at h
  · rename_i c0
    split at h
    · rename_i c1
      split at h
      · rename_i c2
        split at h
        · simp at h
        · rename_i hc
          have hb : ∀ i, i < k.length → wi 1 10 (St.gt m i) = true ∧ wi 1 20 (St.gt k i) = true := by
            intro i hi
            have := first_none hc i (by omega) (by omega)
            unfold frBad at this
            cases h1 : wi 1 10 (St.gt m i) <;> cases h2 : wi 1 20 (St.gt k i) <;> rw [h1, h2] at this <;> simp at this ⊢
          exact ⟨by omega, c1.symm, by omega, fun i hi => wi_iff.1 (hb i hi).1, fun i hi => wi_iff.1 (hb i hi).2⟩
      · simp at h
    · simp at h

theorem f13_all (m k : List Int) : f13 ((m, (k, ())), ()) = some ((chkE m k).1, ((chkE m k).2, ())) := by
  unfold chkE
  by_cases c0 : m.length = 0
  · rw [if_pos c0]
    simp only [f13, t13, Tr.val_test, Tr.val_fin, eqF_eq]
    rw [if_pos (by simpa using c0)]
  · rw [if_neg c0]
    by_cases c1 : k.length = m.length
    · rw [if_pos c1]
      by_cases c2 : m.length ≤ 4
      · rw [if_pos c2]
        have e := l13_eq c1 c2
        cases hc : first (frBad m k) m.length 0 with
        | some i =>
          rw [hc] at e
          simp only [f13, t13, Tr.val_test, Tr.val_fin, Tr.val_stop, eqF_eq, leF_eq, e, isRet, r13_0, outR, Option.isSome_some, if_true]
          rw [if_neg (by simpa using c0), if_neg (by simp; omega), if_neg (by simp; omega)]
        | none =>
          rw [hc] at e
          simp only [f13, t13, Tr.val_test, Tr.val_fin, Tr.val_stop, eqF_eq, leF_eq, e, isRet, Option.isSome_some, if_true]
          rw [if_neg (by simpa using c0), if_neg (by simp; omega), if_neg (by simp; omega)]
          rfl
      · rw [if_neg c2]
        simp only [f13, t13, Tr.val_test, Tr.val_fin, eqF_eq, leF_eq]
        rw [if_neg (by simpa using c0), if_neg (by simp; omega), if_pos (by simp; omega)]
    · rw [if_neg c1]
      simp only [f13, t13, Tr.val_test, Tr.val_fin, eqF_eq, leF_eq]
      rw [if_neg (by simpa using c0), if_pos (by simp; omega)]

theorem f17_all (m k : List Int) : f17 ((m, (k, ())), ()) = some ((chkE m k).2, ()) := by
  simp only [f17, t17, g13, f13_all m k, Tr.val_test, Tr.val_fin, Option.isSome_some, Option.getD_some, if_true]

/-- The error of a square. -/
def sqE (p q : Int) : Int := if 0 < q ∧ Int.gcd p q = 1 then (if (-100 ≤ p ∧ p ≤ 100) ∧ q ≤ 100 then 0 else 2) else 3

theorem sqE_ok {p q : Int} (h : sqE p q = 0) : Sq p q := by
  unfold sqE at h
  split at h
  · split at h
    · rename_i c1 c2; exact ⟨c1.1, c2.2, c2.1.1, c2.1.2, c1.2⟩
    · simp at h
  · simp at h

theorem euc_gcd2 (a b : Int) (hb : b ≠ 0) (h1 : a.natAbs ≤ 9223372036854775808) (h2 : b.natAbs ≤ 9223372036854775807) : mx (euc a b) (wrap64 (-euc a b)) = (Int.gcd a b : Int) := by
  have e := euc_abs a b
  have hg : Nat.gcd a.natAbs b.natAbs ≤ 9223372036854775807 := Nat.le_trans (Nat.gcd_le_right _ (by omega)) h2
  have hi : Int.gcd a b = Nat.gcd a.natAbs b.natAbs := rfl
  rw [hi]
  rw [wr_abs (by omega)]
  unfold mx
  split <;> omega

theorem f24_all (p q : Int) (hp : p.natAbs ≤ 9223372036854775808) (hq : -9223372036854775808 ≤ q ∧ q ≤ 9223372036854775807) : f24 ((p, (q, ())), ()) = some (decide (0 < q ∧ Int.gcd p q = 1), ()) := by
  by_cases c : 0 < q
  · have hg : f58 (p, (q, ())) = some ((Int.gcd p q : Int), ()) := by
      have e := q58_0 p q (by omega)
      simp only [f58, t58, b58_0, e, isBrk, outB, Tr.val_test, Tr.val_fin, if_true, g86, f86_eq (euc p q, ()), Option.isSome_some, Option.getD_some]
      have := euc_gcd2 p q (by omega) hp (by omega)
      rw [← wrap64_eq, Int.zero_sub]
      exact congrArg some (Prod.ext this rfl)
    simp only [f24, t24, Tr.val_test, Tr.val_fin, leF_eq, eqF_eq, g58, hg, Option.isSome_some, Option.getD_some, if_true]
    rw [if_pos (by simpa using c)]
    refine congrArg (fun b => some (b, ())) (decide_eq_decide.2 ?_)
    omega
  · simp only [f24, t24, Tr.val_test, Tr.val_fin, leF_eq]
    rw [if_neg (by simpa using c)]
    simp [c]

theorem f21_all (p q : Int) (hp : p.natAbs ≤ 9223372036854775808) (hq : -9223372036854775808 ≤ q ∧ q ≤ 9223372036854775807) : f21 ((p, (q, ())), ()) = some (sqE p q, ()) := by
  have e := f24_all p q hp hq
  simp only [f21, t21, g24, e, g18, f18_eq (p, ((-100 : Int), ((100 : Int), ()))), Option.isSome_some, Option.getD_some, Tr.val_test, Tr.val_fin, if_true, leF_eq]
  unfold sqE
  by_cases c : 0 < q ∧ Int.gcd p q = 1
  · rw [if_pos c, if_neg (by simp [c])]
    by_cases c1 : -100 ≤ p ∧ p ≤ 100
    · rw [if_neg (by rw [show wi (-100) 100 p = true from wi_iff.2 c1]; simp)]
      by_cases c2 : q ≤ 100
      · rw [if_neg (by simp; omega), if_pos ⟨c1, c2⟩]
      · rw [if_pos (by simp; omega), if_neg (fun h => c2 h.2)]
    · rw [if_pos (by cases h1 : wi (-100) 100 p; rfl; exact absurd (wi_iff.1 h1) c1), if_neg (fun h => c1 h.1)]
  · rw [if_neg c, if_pos (by simp [c])]

theorem mul_cancel' {a b g : Int} (hg : g ≠ 0) (h : a * g = b * g) : a = b := Int.eq_of_mul_eq_mul_right hg h

/-! The sum of all squares. -/

theorem mulB {x y : Int} {A B : Nat} (hx : x.natAbs ≤ A) (hy : y.natAbs ≤ B) : (x * y).natAbs ≤ A * B := by
  rw [Int.natAbs_mul]
  exact Nat.mul_le_mul hx hy

end Go.Vm.Mo

namespace Go.Vm.Mo
open Go
set_option linter.unusedVariables false
set_option linter.unusedSimpArgs false

theorem wn64 {x : Int} (h1 : -9223372036854775807 ≤ x) (h2 : x ≤ 9223372036854775807) : IntKind.wrap .i64 (0 - x) = -x := by
  rw [← wrap64_eq, wrap64_id (by omega) (by omega)]
  omega

def dvF (x : Int) (l : List Int) : Nat → Int
  | 0 => x
  | i + 1 => euc (dvF x l i) (l.getD i 0)

theorem lt_r3 {n : Nat} (h : n ≤ 9223372036854775808) : n < rounds := by unfold rounds; omega

theorem l80i (l : List Int) (n i : Int) (a b : Int) (h : b.natAbs ≤ 9223372036854775808) : l80_2 ((a, b, l, n, i, ()), ()) = some (.inl ((euc a b, l, n, i, ()), ())) := by
  refine itr_euc (fun a b => ((a, b, l, n, i, ()), ())) (fun a => ((a, l, n, i, ()), ())) ?_ ?_ rounds a b (lt_r3 h)
  · intro a b hb
    simp [s80_2, t80_2, eqF_eq, hb]
  · intro a
    simp [s80_2, t80_2, eqF_eq]

theorem l80 (x : Int) (l : List Int) (h : l.length ≤ 1000000000) (hb : ∀ i, i < l.length → (l.getD i 0).natAbs ≤ 9223372036854775808) : l80_0 ((x, l, (l.length : Int), (0 : Int), ()), ()) = some (.inl ((dvF x l l.length, ()), ())) := by
  refine itr_brk (fun i => ((dvF x l i, l, (l.length : Int), (i : Int), ()), ())) (n := l.length) ?_ ?_ (lt_rounds (by omega))
  · intro i hi
    have e := l80i l (l.length : Int) (i : Int) (dvF x l i) (l.getD i 0) (hb i hi)
    simp only [s80_0, t80_0, Tr.val_test, Tr.val_fin, Tr.val_stop, leF_eq, Int.toNat_natCast]
    rw [if_pos (by simp; omega), if_pos (by simp; omega)]
    simp only [e, isBrk, b80_2, outB, if_true, wrap64_nat (show i ≤ 9223372036854775806 by omega), dvF]
  · simp [s80_0, t80_0, leF_eq]

def absW (x : Int) : Int := if x < IntKind.wrap .i64 (0 - x) then IntKind.wrap .i64 (0 - x) else x

theorem absW_eq {x : Int} (h : x.natAbs ≤ 9223372036854775807) : absW x = (x.natAbs : Int) := by
  unfold absW
  rw [wn64 (by omega) (by omega)]
  by_cases hx : x < -x
  · rw [if_pos hx]; omega
  · rw [if_neg hx]; omega

theorem f80_eq (x : Int) (l : List Int) (h : l.length ≤ 1000000000) (hb : ∀ i, i < l.length → (l.getD i 0).natAbs ≤ 9223372036854775808) : f80 (x, l, ()) = some (absW (dvF x l l.length), ()) := by
  simp only [f80, t80, Tr.val_test, Tr.val_fin, Tr.val_stop, l80 x l h hb, isBrk, b80_0, outB, if_true, absW]

/-- What divides all of them. -/
def gF (x : Int) (l : List Int) (i : Nat) : Nat := (dvF x l i).natAbs

theorem gF_succ (x : Int) (l : List Int) (i : Nat) : gF x l (i + 1) = Nat.gcd (gF x l i) (l.getD i 0).natAbs := by
  unfold gF dvF
  rw [euc_abs]
  cases i <;> rfl

theorem gF_dvd (x : Int) (l : List Int) : ∀ i, gF x l i ∣ x.natAbs ∧ ∀ j, j < i → gF x l i ∣ (l.getD j 0).natAbs
  | 0 => ⟨Nat.dvd_refl _, fun j h => by omega⟩
  | i + 1 => by
    obtain ⟨h1, h2⟩ := gF_dvd x l i
    rw [gF_succ]
    refine ⟨Nat.dvd_trans (Nat.gcd_dvd_left _ _) h1, fun j hj => ?_⟩
    by_cases h : j = i
    · subst h; exact Nat.gcd_dvd_right _ _
    · exact Nat.dvd_trans (Nat.gcd_dvd_left _ _) (h2 j (by omega))

theorem gF_pos {x : Int} (h : x ≠ 0) (l : List Int) (i : Nat) : 0 < gF x l i := Nat.pos_of_dvd_of_pos (gF_dvd x l i).1 (by omega)

theorem gF_le {x : Int} (h : x ≠ 0) (l : List Int) (i : Nat) : gF x l i ≤ x.natAbs := Nat.le_of_dvd (by omega) (gF_dvd x l i).1

theorem f80_all (x : Int) (l : List Int) (h0 : x ≠ 0) (hx : x.natAbs ≤ 9223372036854775807) (h : l.length ≤ 1000000000) (hb : ∀ i, i < l.length → (l.getD i 0).natAbs ≤ 9223372036854775808) : f80 (x, l, ()) = some ((gF x l l.length : Int), ()) := by
  rw [f80_eq x l h hb, absW_eq (by have := gF_le h0 l l.length; unfold gF at this; omega)]
  rfl

def shL (g : Int) (l : List Int) (i : Nat) : List Int := (l.take i).map fun x => x.tdiv g

theorem shL_succ (g : Int) {l : List Int} {i : Nat} (h : i < l.length) : shL g l i ++ [(l.getD i 0).tdiv g] = shL g l (i + 1) := by
  have e : l.getD i 0 = l[i] := by simp [List.getD, List.getElem?_eq_getElem h]
  unfold shL
  rw [e, List.take_succ_eq_append_getElem h, List.map_append]
  rfl

theorem shL_len (g : Int) (l : List Int) {i : Nat} (h : i ≤ l.length) : (shL g l i).length = i := by simp [shL]; omega

theorem shL_at (g : Int) (l : List Int) {i : Nat} (h : i < l.length) : (shL g l l.length).getD i 0 = (l.getD i 0).tdiv g := by
  simp [shL, List.getD, List.getElem?_eq_getElem h]

theorem l64_eq (g den : Int) (l : List Int) (hg : 0 < g) (h : l.length ≤ 1000) (hb : ∀ i, i < l.length → (l.getD i 0).natAbs ≤ 9223372036854775807) : l64_0 ((g, (l, ((l.length : Int), ((0 : Int), ())))), (((0 : Int), ()), ((den, (([] : List Int), ())), ()))) =
    some (.inl ((), (((0 : Int), ()), ((den, (shL g l l.length, ())), ())))) := by
  refine itr_brk (step := s64_0) (fun i => ((g, (l, ((l.length : Int), ((i : Int), ())))), (((0 : Int), ()), ((den, (shL g l i, ())), ())))) (n := l.length) ?_ ?_ (lt_rounds (by omega))
  · intro i hi
    have gz : (g == (0 : Int)) = false := by rw [beq_eq_false_iff_ne]; omega
    have hw : IntKind.wrap .i64 ((l.getD i 0).tdiv g) = (l.getD i 0).tdiv g := by
      have h1 := hb i hi
      have h2 : ((l.getD i 0).tdiv g).natAbs ≤ (l.getD i 0).natAbs := by rw [Int.natAbs_tdiv]; exact Nat.div_le_self _ _
      exact wrapI_id (by omega) (by omega)
    have hlen := shL_len g l (Nat.le_of_lt hi)
    simp only [s64_0, t64_0, Int.toNat_natCast, gz, hw, hlen, shL_succ g hi, Tr.val_test, Tr.val_fin, Tr.val_stop, leF_eq, Bool.false_eq_true, if_false, wrap64_nat (show i ≤ 9223372036854775806 by omega)]
    rw [if_pos (by simp; omega), if_pos (by simp; omega), if_pos (by simp only [Bool.and_eq_true, Nat.ble_eq]; omega)]
  · simp only [s64_0, t64_0, Tr.val_test, Tr.val_fin, Tr.val_stop, leF_eq]
    rw [if_neg (by simp)]

theorem f64_eq (den : Int) (l : List Int) (h0 : 0 < den) (hd : den ≤ 9223372036854775807) (h : l.length ≤ 1000) (hb : ∀ i, i < l.length → (l.getD i 0).natAbs ≤ 9223372036854775807) :
    f64 (den, (l, ())) = some ((den.tdiv (gF den l l.length : Nat), (shL (gF den l l.length : Nat) l l.length, ())), ()) := by
  have e := f80_all den l (by omega) (by omega) (by omega) (fun i hi => by have := hb i hi; omega)
  have gp := gF_pos (x := den) (by omega) l l.length
  have gz : (((gF den l l.length : Nat) : Int) == (0 : Int)) = false := by rw [beq_eq_false_iff_ne]; omega
  have hw : IntKind.wrap .i64 (den.tdiv (gF den l l.length : Nat)) = den.tdiv (gF den l l.length : Nat) := by
    have h2 : (den.tdiv (gF den l l.length : Nat)).natAbs ≤ den.natAbs := by rw [Int.natAbs_tdiv]; exact Nat.div_le_self _ _
    exact wrapI_id (by omega) (by omega)
  have e1 := l64_eq (gF den l l.length : Nat) (den.tdiv (gF den l l.length : Nat)) l (by omega) h hb
  simp only [f64, t64, g80, e, gz, hw, e1, isBrk, b64_0, outB, Tr.val_test, Tr.val_fin, Tr.val_stop, Option.isSome_some, Option.getD_some, Bool.false_eq_true, if_true, if_false]

/-- What a shape stands for: a divisor above 0 by which all was divided. -/
theorem sh_spec {den : Int} (h0 : 0 < den) (l : List Int) : ∃ g : Int, 0 < g ∧ g = (gF den l l.length : Nat) ∧ den.tdiv g * g = den ∧ 0 < den.tdiv g ∧ ∀ i, i < l.length → (shL g l l.length).getD i 0 * g = l.getD i 0 := by
  have gp := gF_pos (x := den) (by omega) l l.length
  obtain ⟨d1, d2⟩ := gF_dvd den l l.length
  have e1 : den.tdiv (gF den l l.length : Nat) * (gF den l l.length : Nat) = den := Int.tdiv_mul_cancel (Int.ofNat_dvd_left.2 d1)
  refine ⟨(gF den l l.length : Nat), by omega, rfl, e1, ?_, fun i hi => ?_⟩
  · rcases Int.lt_or_le 0 (den.tdiv (gF den l l.length : Nat)) with h | h
    · exact h
    · exfalso
      have := Int.mul_le_mul_of_nonneg_right h (show (0 : Int) ≤ ((gF den l l.length : Nat) : Int) by omega)
      omega
  · rw [shL_at _ l hi]
    exact Int.tdiv_mul_cancel (Int.ofNat_dvd_left.2 (d2 i hi))

/-! The sway. -/

def cT (a : List Int) : Nat → Int
  | 0 => 0
  | i + 1 => cT a i + a.getD i 0
def dP (k : List Int) : Nat → Int
  | 0 => 1
  | i + 1 => dP k i * St.gt k i
/-- All springs' product, divided by one of them. -/
def dE (k : List Int) (i : Nat) : Int := (dP k k.length).tdiv (St.gt k i)
def sA (k a : List Int) : Nat → Int
  | 0 => 0
  | i + 1 => sA k a i + (cT a k.length - cT a i) * dE k i
def sL (k a : List Int) (i : Nat) : List Int := (List.range i).map fun j => sA k a (j + 1)

/-- Loads that are valid. -/
def La (k a : List Int) : Prop := a.length = k.length ∧ ∀ i, (a.getD i 0).natAbs ≤ 1000

theorem cT_le {k a : List Int} (h : La k a) : ∀ i : Nat, (cT a i).natAbs ≤ 1000 * i
  | 0 => by simp [cT]
  | i + 1 => by
    have := cT_le h i
    have := h.2 i
    simp only [cT]; omega

theorem dP_le {m k : List Int} (hf : St.Fr m k) : ∀ i, i ≤ k.length → 0 < dP k i ∧ (dP k i).natAbs ≤ 20 ^ i
  | 0, _ => by simp [dP]
  | i + 1, h => by
    obtain ⟨h1, h2⟩ := dP_le hf i (by omega)
    have hk := hf.spring i (by omega)
    have q1 := mulB (x := dP k i) (y := St.gt k i) (A := 20 ^ i) (B := 20) h2 (by omega)
    have q4 := Int.mul_pos h1 (show 0 < St.gt k i by omega)
    simp only [dP]
    rw [Nat.pow_succ]
    exact ⟨q4, q1⟩

theorem dP4 {m k : List Int} (hf : St.Fr m k) {i : Nat} (h : i ≤ k.length) : 0 < dP k i ∧ dP k i ≤ 160000 := by
  obtain ⟨h1, h2⟩ := dP_le hf i h
  have h4 := hf.top
  have p : 20 ^ i ≤ 20 ^ 4 := Nat.pow_le_pow_right (by decide) (by omega)
  omega

theorem dP_dvd (k : List Int) {i : Nat} : ∀ n, i < n → St.gt k i ∣ dP k n
  | n + 1, h => by
    simp only [dP]
    by_cases e : i = n
    · subst e; exact Int.dvd_mul_left _ _
    · exact Int.dvd_mul_of_dvd_left (dP_dvd k n (by omega))

theorem dE_mul {m k : List Int} (hf : St.Fr m k) {i : Nat} (h : i < k.length) : dE k i * St.gt k i = dP k k.length := Int.tdiv_mul_cancel (dP_dvd k k.length h)

theorem dE_le {m k : List Int} (hf : St.Fr m k) (i : Nat) : (dE k i).natAbs ≤ 160000 := by
  have h1 := dP4 hf (Nat.le_refl _)
  have h2 : (dE k i).natAbs ≤ (dP k k.length).natAbs := by unfold dE; rw [Int.natAbs_tdiv]; exact Nat.div_le_self _ _
  omega

theorem sA_le {m k a : List Int} (hf : St.Fr m k) (h : La k a) : ∀ i, i ≤ 4 → (sA k a i).natAbs ≤ i * 1280000000
  | 0, _ => by simp [sA]
  | i + 1, hi => by
    have h1 := sA_le hf h i (by omega)
    have h2 := cT_le h i
    have h3 := cT_le h k.length
    have h4 := hf.top
    have q := mulB (x := cT a k.length - cT a i) (y := dE k i) (A := 8000) (B := 160000) (by omega) (dE_le hf i)
    simp only [sA]
    omega

theorem sL_len (k a : List Int) (i : Nat) : (sL k a i).length = i := by simp [sL]
theorem sL_succ (k a : List Int) (i : Nat) : sL k a i ++ [sA k a (i + 1)] = sL k a (i + 1) := by simp [sL, List.range_succ]
theorem sL_at (k a : List Int) {i n : Nat} (h : i < n) : (sL k a n).getD i 0 = sA k a (i + 1) := by simp [sL, List.getD_eq_getElem?_getD, h]

theorem l31_a {m k a : List Int} (hf : St.Fr m k) (h : La k a) : l31_0 ((a, ((0 : Int), ((1 : Int), (k, ((k.length : Int), ((0 : Int), ())))))), ((m, (k, ())), (((0 : Int), ()), ()))) =
    some (.inl ((a, (cT a k.length, (dP k k.length, ()))), ((m, (k, ())), (((0 : Int), ()), ())))) := by
  have h4 := hf.top
  refine itr_brk (step := s31_0) (fun i => ((a, (cT a i, (dP k i, (k, ((k.length : Int), ((i : Int), ())))))), ((m, (k, ())), (((0 : Int), ()), ())))) (n := k.length) ?_ ?_ (lt_rounds (by omega))
  · intro i hi
    have c1 := cT_le h i
    have c2 := h.2 i
    have b := dP4 hf (i := i + 1) hi
    have w1 : wrap64 (cT a i + a.getD i 0) = cT a (i + 1) := wr_abs (by omega)
    have w2 : wrap64 (dP k i * St.gt k i) = dP k (i + 1) := wr_abs (by simp only [dP] at b; omega)
    simp only [s31_0, t31_0, Int.toNat_natCast, show k.getD i 0 = St.gt k i from rfl, w1, w2, Tr.val_test, Tr.val_fin, Tr.val_stop, leF_eq, wrap64_nat (show i ≤ 9223372036854775806 by omega)]
    rw [if_pos (by simp; omega), if_pos (by simp; omega), if_pos (by simp; have := h.1; omega)]
  · simp only [s31_0, t31_0, Tr.val_test, Tr.val_fin, Tr.val_stop, leF_eq]
    rw [if_neg (by simp)]

theorem l31_b {m k a : List Int} (hf : St.Fr m k) (h : La k a) (z : Int) : l31_2 ((a, (cT a k.length, (dP k k.length, (([] : List Int), ((0 : Int), (k, ((k.length : Int), ((0 : Int), ())))))))), ((z, ()), ())) =
    some (.inl ((dP k k.length, (sL k a k.length, ())), ((z, ()), ()))) := by
  have h4 := hf.top
  have e0 : cT a k.length - cT a 0 = cT a k.length := by simp [cT]
  have key := itr_brk (step := s31_2) (fun i => ((a, (cT a k.length - cT a i, (dP k k.length, (sL k a i, (sA k a i, (k, ((k.length : Int), ((i : Int), ())))))))), ((z, ()), ()))) (n := k.length) (m := rounds) (b := ((dP k k.length, (sL k a k.length, ())), ((z, ()), ()))) ?_ ?_ (lt_rounds (by omega))
  · rw [e0] at key
    exact key
  · intro i hi
    have c1 := cT_le h i
    have c0 := cT_le h k.length
    have c2 := h.2 i
    have hk := hf.spring i hi
    have kz : (St.gt k i == (0 : Int)) = false := by rw [beq_eq_false_iff_ne]; omega
    have de := dE_le hf i
    have sa := sA_le hf h i (by omega)
    have sb := sA_le hf h (i + 1) (by omega)
    have w0 : IntKind.wrap .i64 ((dP k k.length).tdiv (St.gt k i)) = dE k i := by unfold dE at de ⊢; exact wrapI_id (by omega) (by omega)
    have q := mulB (x := cT a k.length - cT a i) (y := dE k i) (A := 8000) (B := 160000) (by omega) de
    have w1 : wrap64 ((cT a k.length - cT a i) * dE k i) = (cT a k.length - cT a i) * dE k i := wr_abs (by omega)
    have w2 : wrap64 (sA k a i + (cT a k.length - cT a i) * dE k i) = sA k a (i + 1) := wr_abs (by simp only [sA] at sb; omega)
    have w3 : wrap64 (cT a k.length - cT a i - a.getD i 0) = cT a k.length - cT a (i + 1) := by rw [wr_abs (by omega)]; simp only [cT]; omega
    have hlen := sL_len k a i
    simp only [s31_2, t31_2, Int.toNat_natCast, show k.getD i 0 = St.gt k i from rfl, kz, w0, w1, w2, w3, hlen, sL_succ, Tr.val_test, Tr.val_fin, Tr.val_stop, leF_eq, Bool.false_eq_true, if_false, wrap64_nat (show i ≤ 9223372036854775806 by omega)]
    rw [if_pos (by simp; omega), if_pos (by simp; omega), if_pos (by simp; have := h.1; omega), if_pos (by simp only [Bool.and_eq_true, Nat.ble_eq]; omega)]
  · simp only [s31_2, t31_2, Tr.val_test, Tr.val_fin, Tr.val_stop, leF_eq]
    rw [if_neg (by simp)]

def lb (a : List Int) (i : Nat) : Bool := !wi (-1000) 1000 (a.getD i 0)
def laE (n : Nat) (a : List Int) : Int := if a.length = n then (if (first (lb a) a.length 0).isSome = true then 2 else 0) else 10

theorem getD_out {l : List Int} {x : Nat} (h : l.length ≤ x) : l.getD x 0 = 0 := by simp [List.getD, List.getElem?_eq_none h]

theorem laE_ok {k a : List Int} (h : laE k.length a = 0) : La k a := by
  unfold laE at h
  split at h
  · rename_i hl
    refine ⟨hl, fun i => ?_⟩
    by_cases hi : i < a.length
    · cases hq : first (lb a) a.length 0 with
      | some j => rw [hq] at h; simp at h
      | none =>
        have := first_none hq i (Nat.zero_le _) (by omega)
        have : wi (-1000) 1000 (a.getD i 0) = true := by simpa [lb] using this
        have := wi_iff.1 this
        omega
    · rw [getD_out (by omega)]; decide
  · simp at h

theorem f27_eq (m k a : List Int) (hm : m.length ≤ 1000) : f27 ((m, (k, ())), (a, ())) = some (laE m.length a, ()) := by
  by_cases hl : a.length = m.length
  · have c : (!eqF (a.length : Int) (m.length : Int)) = false := by rw [eqF_eq, hl]; simp
    have hL : l27_0 ((a, ((0 : Int), ())), ()) = match first (lb a) a.length 0 with
        | some _ => some (.inr (((2 : Int), ()), ()))
        | none => some (.inl ((), ())) := by
      refine itr_search (fun i => ((a, ((i : Int), ())), ())) (lb a) (fun _ => (((2 : Int), ()), ())) (n := a.length) ?_ ?_ (lt_rounds (by omega))
      · intro i hi
        simp only [s27_0, t27_0, Int.toNat_natCast, g18, f18_eq, Tr.val_test, Tr.val_fin, Tr.val_stop, leF_eq, Option.isSome_some, Option.getD_some, if_true, lb, wrap64_nat (show i ≤ 9223372036854775806 by omega)]
        rw [if_pos (by simp; omega), if_pos (by simp; omega)]
        rfl
      · simp only [s27_0, t27_0, Tr.val_test, Tr.val_fin, Tr.val_stop, leF_eq]
        rw [if_neg (by simp)]
    have hE : laE m.length a = (if (first (lb a) a.length 0).isSome = true then 2 else 0) := if_pos hl
    rw [hE]
    cases hq : first (lb a) a.length 0 with
    | some j =>
      rw [hq] at hL
      simp only [f27, t27, c, hL, isRet, r27_0, outR, Option.isSome_some, Tr.val_test, Tr.val_fin, Tr.val_stop, Bool.false_eq_true, if_true, if_false]
    | none =>
      rw [hq] at hL
      simp only [f27, t27, c, hL, isRet, Option.isSome_some, Option.isSome_none, Tr.val_test, Tr.val_fin, Tr.val_stop, Bool.false_eq_true, if_true, if_false]
  · have c : (!eqF (a.length : Int) (m.length : Int)) = true := by rw [eqF_eq]; simp; omega
    have hE : laE m.length a = 10 := if_neg hl
    rw [hE]
    simp only [f27, t27, c, Tr.val_test, Tr.val_fin, if_true]

theorem La.none {k a : List Int} (h : La k a) : (first (fun i => !wi (-1000) 1000 (a.getD i 0)) a.length 0).isNone = true := by
  rw [first_of_none fun i _ _ => ?_]
  · rfl
  · have := h.2 i
    rw [show wi (-1000) 1000 (a.getD i 0) = true from wi_iff.2 (by omega)]
    rfl

theorem f67_ok {m k a : List Int} (hf : St.Fr m k) (h : La k a) : f67 (a, ((m.length : Int), ())) = some (0, ()) := by
  have hl := hf.len
  have h4 := hf.top
  have ha := h.1
  have c : (!eqF (a.length : Int) (m.length : Int)) = false := by rw [eqF_eq, ha, hl]; simp
  have w : IntKind.wrap .i64 (0 - 1000) = -1000 := wrapI_id (by decide) (by decide)
  have e := f48_eq (-1000) 1000 a (by omega)
  rw [h.none] at e
  have e1 : f88 ((1000 : Int), (a, ())) = some (0, ()) := by
    simp only [f88, t88, w, g48, e, g45, f45_eq ((!true), ((2 : Int), ())), Option.isSome_some, Option.getD_some, Tr.val_test, Tr.val_fin, if_true]
    rfl
  have e2 := f44_eq [0, 0] (by decide)
  rw [firstNZ_zero rfl rfl] at e2
  simp only [f67, t67, c, g45, f45_eq (false, ((10 : Int), ())), g88, e1, g44, e2, Option.isSome_some, Option.getD_some, Tr.val_test, Tr.val_fin, Tr.val_stop, Bool.false_eq_true, if_true, if_false]

def swG (k a : List Int) : Int := (gF (dP k k.length) (sL k a k.length) (sL k a k.length).length : Nat)
def swD (k a : List Int) : Int := (dP k k.length).tdiv (swG k a)
def swP (k a : List Int) : List Int := shL (swG k a) (sL k a k.length) (sL k a k.length).length

theorem f31_ok {m k a : List Int} (hf : St.Fr m k) (h : La k a) : f31 ((m, (k, ())), (a, ())) = some ((swD k a, (swP k a, ())), ((0 : Int), ())) := by
  have h4 := hf.top
  have e0 := f67_ok hf h
  have e1 := f9_ok hf
  have e2 := f44_eq [0] (by decide)
  rw [show firstNZ [0] = 0 from rfl] at e2
  have e3 := f44_eq [0, 0] (by decide)
  rw [firstNZ_zero rfl rfl] at e3
  have c : (!eqF (0 : Int) 0) = false := by rw [eqF_eq]; rfl
  have e4 := l31_a hf h
  have e5 := l31_b hf h 0
  have d4 := dP4 hf (Nat.le_refl _)
  have e6 := f64_eq (dP k k.length) (sL k a k.length) d4.1 (by omega) (by rw [sL_len]; omega) (fun i hi => by
    rw [sL_len] at hi
    rw [sL_at k a hi]
    have := sA_le hf h (i + 1) (by omega)
    omega)
  simp only [f31, t31, g67, e0, g9, e1, g44, e2, e3, c, e4, e5, isBrk, b31_0, b31_2, outB, g64, e6, Option.isSome_some, Option.getD_some, Tr.val_test, Tr.val_fin, Tr.val_stop, Bool.false_eq_true, if_true, if_false]
  rfl

structure Sw (k a : List Int) (D : Int) (P : List Int) : Prop where
  len : P.length = k.length
  pos : 0 < D
  ex : ∃ g : Int, 0 < g ∧ D * g = dP k k.length ∧ ∀ i, i < k.length → P.getD i 0 * g = sA k a (i + 1)

theorem sw_spec {m k : List Int} (hf : St.Fr m k) (a : List Int) : Sw k a (swD k a) (swP k a) := by
  obtain ⟨g, h1, h2, h3, h4, h5⟩ := sh_spec (dP4 hf (Nat.le_refl _)).1 (sL k a k.length)
  have hg : swG k a = g := h2.symm
  refine ⟨?_, ?_, g, h1, ?_, fun i hi => ?_⟩
  · unfold swP
    rw [shL_len _ _ (Nat.le_refl _), sL_len]
  · unfold swD; rw [hg, h2]; rw [h2] at h4; exact h4
  · unfold swD; rw [hg, h2]; rw [h2] at h3; exact h3
  · have := h5 i (by rw [sL_len]; exact hi)
    rw [sL_at k a hi] at this
    unfold swP
    rw [hg, h2]; rw [h2] at this; exact this

theorem Sw.small {m k a : List Int} (hf : St.Fr m k) (h : La k a) {D : Int} {P : List Int} (s : Sw k a D P) : D ≤ 160000 ∧ ∀ i, (P.getD i 0).natAbs ≤ 5120000000 := by
  obtain ⟨g, g1, g2, g3⟩ := s.ex
  have d := dP4 hf (Nat.le_refl _)
  have h4 := hf.top
  refine ⟨?_, fun i => ?_⟩
  · have := Int.mul_le_mul_of_nonneg_left (show 1 ≤ g by omega) (Int.le_of_lt s.pos)
    omega
  · by_cases hi : i < k.length
    · have e := congrArg Int.natAbs (g3 i hi)
      rw [Int.natAbs_mul] at e
      have := Nat.mul_le_mul_left (P.getD i 0).natAbs (show 1 ≤ g.natAbs by omega)
      have := sA_le hf h (i + 1) (by omega)
      omega
    · rw [getD_out (by rw [s.len]; omega)]; decide

theorem f32_ok {m k a : List Int} (hf : St.Fr m k) (h : La k a) {D : Int} {P : List Int} (s : Sw k a D P) : f32 ((D, (P, ())), ((m.length : Int), ())) = some (true, ()) := by
  obtain ⟨s1, s2⟩ := s.small hf h
  have hl := hf.len
  have h4 := hf.top
  have hp := s.pos
  have hn := s.len
  have w1 : wi 1 1099511627776 D = true := wi_iff.2 (by omega)
  have c : (!eqF (P.length : Int) (m.length : Int)) = false := by rw [eqF_eq, hn, hl]; simp
  have hL : l32_0 (((m.length : Int), ((0 : Int), ())), ((D, (P, ())), ())) = some (.inl ((), ((D, (P, ())), ()))) := by
    refine itr_brk (step := s32_0) (fun i => (((m.length : Int), ((i : Int), ())), ((D, (P, ())), ()))) (n := m.length) ?_ ?_ (lt_rounds (by omega))
    · intro i hi
      have w2 : wi (-1125899906842624) 1125899906842624 (P.getD i 0) = true := wi_iff.2 (by have := s2 i; omega)
      simp only [s32_0, t32_0, Int.toNat_natCast, g18, f18_eq, w2, Tr.val_test, Tr.val_fin, Tr.val_stop, leF_eq, Option.isSome_some, Option.getD_some, Bool.not_true, Bool.false_eq_true, if_false, if_true, wrap64_nat (show i ≤ 9223372036854775806 by omega)]
      rw [if_pos (by simp; omega), if_pos (by simp; omega)]
    · simp only [s32_0, t32_0, Tr.val_test, Tr.val_fin, Tr.val_stop, leF_eq]
      rw [if_neg (by simp)]
  simp only [f32, t32, g18, f18_eq, w1, c, hL, isRet, Tr.val_test, Tr.val_fin, Tr.val_stop, Option.isSome_some, Option.getD_some, Bool.not_true, Bool.false_eq_true, if_false, if_true]

/-- The part below. -/
def pr (P : List Int) : Nat → Int
  | 0 => 0
  | i + 1 => P.getD i 0

theorem f38_eq (D : Int) (P : List Int) {i : Nat} (h : i ≤ P.length) (hi : i ≤ 1000) : f38 ((D, (P, ())), (wrap64 ((i : Int) - 1), ())) = some (pr P i, ()) := by
  cases i with
  | zero =>
    have w : wrap64 (((0 : Nat) : Int) - 1) = -1 := wr_abs (by decide)
    simp only [f38, t38, w, leF_eq, Tr.val_test, Tr.val_fin, Tr.val_stop, pr]
    rfl
  | succ i =>
    have w : wrap64 (((i + 1 : Nat) : Int) - 1) = (i : Int) := by rw [wr_abs (by omega)]; omega
    simp only [f38, t38, w, leF_eq, Int.toNat_natCast, Tr.val_test, Tr.val_fin, Tr.val_stop, pr]
    rw [if_neg (by simp), if_pos (by simp; omega)]

/-- What a spring carries. -/
theorem sw_force {m k a : List Int} (hf : St.Fr m k) {D : Int} {P : List Int} (s : Sw k a D P) {i : Nat} (hi : i < k.length) : St.gt k i * (P.getD i 0 - pr P i) = (cT a k.length - cT a i) * D := by
  obtain ⟨g, g1, g2, g3⟩ := s.ex
  have e1 := g3 i hi
  have e2 : pr P i * g = sA k a i := by
    cases i with
    | zero => simp [pr, sA]
    | succ i => exact g3 i (by omega)
  have e3 := dE_mul hf hi
  have hg : g ≠ 0 := by omega
  refine mul_cancel' hg ?_
  have e4 : sA k a (i + 1) = sA k a i + (cT a k.length - cT a i) * dE k i := rfl
  rw [e4] at e1
  generalize P.getD i 0 = x at *
  generalize pr P i = y at *
  generalize dE k i = e at *
  generalize cT a k.length - cT a i = c at *
  grind

end Go.Vm.Mo

namespace Go.Vm.Mo
open Go
set_option linter.unusedVariables false
set_option linter.unusedSimpArgs false

def vR (k : List Int) (x : Int) : Rat := mkRat x (dP k k.length).toNat

theorem vR_add {m k : List Int} (hf : St.Fr m k) (x y : Int) : vR k x + vR k y = vR k (x + y) := by
  have h := (dP4 hf (Nat.le_refl _)).1
  have d0 : (dP k k.length).toNat ≠ 0 := by omega
  unfold vR
  rw [Rat.mkRat_add_mkRat _ _ d0 d0, ← Int.add_mul, Rat.mkRat_mul_right d0]

theorem vR_mul (k : List Int) (l x : Int) : (l : Rat) * vR k x = vR k (l * x) := by
  unfold vR
  rw [← Rat.mkRat_one l, Rat.mkRat_mul_mkRat, Nat.one_mul]

theorem vR_zero (k : List Int) : ((0 : Int) : Rat) = vR k 0 := by unfold vR; rw [Rat.zero_mkRat]; rfl

theorem vR_size {m k : List Int} (hf : St.Fr m k) {x : Int} (h : x.natAbs < 1000000000000000000) : rsz (vR k x) 2000 := by
  have hd := dP4 hf (Nat.le_refl _)
  have d0 : (dP k k.length).toNat ≠ 0 := by omega
  unfold vR
  rw [← Rat.normalize_eq_mkRat d0]
  exact norm_size d0 (Nat.le_trans (dig_len (k := 2) (by simp only [pw]; omega)) (by decide)) (Nat.le_trans (dig_len (k := 2) (by simp only [pw]; omega)) (by decide))

theorem f34_part {m k a : List Int} (hf : St.Fr m k) (h : La k a) {D : Int} {P : List Int} (s : Sw k a D P) {i : Nat} (hi : i < k.length) : f34 (P.getD i 0, (D, ())) = some (encR (vR k (sA k a (i + 1))), ()) := by
  obtain ⟨s1, s2⟩ := s.small hf h
  have hp := s.pos
  obtain ⟨g, g1, g2, g3⟩ := s.ex
  have d0 : D.toNat ≠ 0 := by omega
  have e := f34_eq (P.getD i 0) D.toNat d0 (by have := s2 i; omega) (by omega)
  rw [show ((D.toNat : Nat) : Int) = D by omega] at e
  have q : Rat.normalize (P.getD i 0) D.toNat d0 = vR k (sA k a (i + 1)) := by
    unfold vR
    rw [Rat.normalize_eq_mkRat, ← g3 i hi, ← g2, Int.toNat_mul (by omega) (by omega)]
    have := Rat.mkRat_mul_right (n := P.getD i 0) (d := D.toNat) (a := g.toNat) (by omega)
    rw [show ((g.toNat : Nat) : Int) = g by omega] at this
    exact this.symm
  rw [q] at e
  exact e

def bS (k a b : List Int) : Nat → Int
  | 0 => 0
  | i + 1 => bS k a b i + b.getD i 0 * sA k a (i + 1)
def zS (k a b : List Int) : Nat → Int
  | 0 => 0
  | i + 1 => zS k a b i + (cT a k.length - cT a i) * dE k i * cT b i
def qS (k a b : List Int) : Nat → Int
  | 0 => 0
  | i + 1 => qS k a b i + (cT a k.length - cT a i) * (cT b k.length - cT b i) * dE k i

theorem bS_eq (k a b : List Int) : ∀ i, bS k a b i = cT b i * sA k a i - zS k a b i
  | 0 => by simp [bS, cT, sA, zS]
  | i + 1 => by
    have h := bS_eq k a b i
    simp only [bS, cT, sA, zS]
    rw [h]
    generalize cT a k.length - cT a i = c
    generalize dE k i = e
    generalize sA k a i = s
    generalize cT b i = t
    generalize b.getD i 0 = x
    generalize zS k a b i = z
    grind

theorem qS_eq (k a b : List Int) : ∀ i, cT b k.length * sA k a i - zS k a b i = qS k a b i
  | 0 => by simp [qS, sA, zS]
  | i + 1 => by
    have h := qS_eq k a b i
    simp only [qS, sA, zS]
    rw [← h]
    generalize cT a k.length - cT a i = c
    generalize dE k i = e
    generalize sA k a i = s
    generalize cT b i = t
    generalize cT b k.length = u
    generalize zS k a b i = z
    grind

theorem qS_symm (k a b : List Int) : ∀ i, qS k a b i = qS k b a i
  | 0 => rfl
  | i + 1 => by
    simp only [qS]
    rw [qS_symm k a b i, Int.mul_comm (cT a k.length - cT a i)]

/-- Betti. -/
theorem betti (k a b : List Int) : bS k a b k.length = bS k b a k.length := by
  rw [bS_eq, bS_eq, qS_eq, qS_eq, qS_symm]

theorem bS_le {m k a b : List Int} (hf : St.Fr m k) (ha : La k a) (hb : La k b) : ∀ i, i ≤ k.length → (bS k a b i).natAbs ≤ i * 5120000000000
  | 0, _ => by simp [bS]
  | i + 1, h => by
    have h1 := bS_le hf ha hb i (by omega)
    have h4 := hf.top
    have h2 := sA_le hf ha (i + 1) (by omega)
    have q := mulB (x := b.getD i 0) (y := sA k a (i + 1)) (A := 1000) (B := 5120000000) (hb.2 i) (by omega)
    simp only [bS]
    omega

/-- The sum of loads. -/
def sumL (a b : List Int) (i : Nat) : List Int := (List.range i).map fun j => a.getD j 0 + b.getD j 0
theorem sumL_len (a b : List Int) (i : Nat) : (sumL a b i).length = i := by simp [sumL]
theorem sumL_succ (a b : List Int) (i : Nat) : sumL a b i ++ [a.getD i 0 + b.getD i 0] = sumL a b (i + 1) := by simp [sumL, List.range_succ]
theorem sumL_at (a b : List Int) {i n : Nat} (h : i < n) : (sumL a b n).getD i 0 = a.getD i 0 + b.getD i 0 := by simp [sumL, List.getD_eq_getElem?_getD, h]

theorem l5_a {m k a b : List Int} (hf : St.Fr m k) (ha : La k a) (hb : La k b) : l5_0 ((([] : List Int), ((0 : Int), ())), ((m, (k, ())), ((a, (b, ())), ()))) = some (.inl ((sumL a b k.length, ()), ((m, (k, ())), ((a, (b, ())), ())))) := by
  have h4 := hf.top
  have h1 := ha.1
  have h2 := hb.1
  refine itr_brk (step := s5_0) (fun i => ((sumL a b i, ((i : Int), ())), ((m, (k, ())), ((a, (b, ())), ())))) (n := k.length) ?_ ?_ (lt_rounds (by omega))
  · intro i hi
    have x1 := ha.2 i
    have x2 := hb.2 i
    have w1 : wrap64 (a.getD i 0 + b.getD i 0) = a.getD i 0 + b.getD i 0 := wr_abs (by omega)
    have hlen := sumL_len a b i
    simp only [s5_0, t5_0, Int.toNat_natCast, w1, hlen, sumL_succ, Tr.val_test, Tr.val_fin, Tr.val_stop, leF_eq, wrap64_nat (show i ≤ 9223372036854775806 by omega)]
    rw [if_pos (by simp; omega), if_pos (by simp; omega), if_pos (by simp; omega), if_pos (by simp only [Bool.and_eq_true, Nat.ble_eq]; omega)]
  · simp only [s5_0, t5_0, Tr.val_test, Tr.val_fin, Tr.val_stop, leF_eq]
    rw [if_neg (by simp; omega)]

theorem cT_sum {k a b c : List Int} (hc : ∀ i, i < k.length → c.getD i 0 = a.getD i 0 + b.getD i 0) : ∀ i, i ≤ k.length → cT c i = cT a i + cT b i
  | 0, _ => rfl
  | i + 1, h => by
    simp only [cT]
    rw [cT_sum hc i (by omega), hc i (by omega)]
    omega

theorem sA_sum {k a b c : List Int} (hc : ∀ i, i < k.length → c.getD i 0 = a.getD i 0 + b.getD i 0) : ∀ i, i ≤ k.length → sA k c i = sA k a i + sA k b i
  | 0, _ => rfl
  | i + 1, h => by
    have e1 := cT_sum hc i (by omega)
    have e2 := cT_sum hc k.length (Nat.le_refl _)
    simp only [sA]
    rw [sA_sum hc i (by omega), e1, e2]
    generalize dE k i = e
    generalize cT a k.length = t
    generalize cT b k.length = u
    generalize cT a i = v
    generalize cT b i = w
    grind

def en4 (r : Rat) : Int × List Int × Int × List Int × Unit := ((encR r).1.1, ((encR r).1.2.1, ((encR r).2.1.1, ((encR r).2.1.2.1, ()))))

theorem l5_b {m k a b c : List Int} (hf : St.Fr m k) (ha : La k a) (hb : La k b) (hc : La k c) (hs : ∀ i, i < k.length → c.getD i 0 = a.getD i 0 + b.getD i 0)
    {Da Db Dc : Int} {Pa Pb Pc : List Int} (sa : Sw k a Da Pa) (sb : Sw k b Db Pb) (sc : Sw k c Dc Pc) :
    l5_2 ((c, ((0 : Int), ())), ((m, (k, ())), ((a, (b, ())), ((Da, (Pa, ())), ((Db, (Pb, ())), ((Dc, (Pc, ())), (en4 (vR k 0), (en4 (vR k 0), ())))))))) =
      some (.inl ((), ((m, (k, ())), ((a, (b, ())), ((Da, (Pa, ())), ((Db, (Pb, ())), ((Dc, (Pc, ())), (en4 (vR k (bS k a b k.length)), (en4 (vR k (bS k b a k.length)), ()))))))))) := by
  have h4 := hf.top
  have lk := hf.len
  have a1 := ha.1
  have b1 := hb.1
  have c1 := hc.1
  have pa := sa.len
  have pb := sb.len
  have pc := sc.len
  refine itr_brk (step := s5_2) (fun i => ((c, ((i : Int), ())), ((m, (k, ())), ((a, (b, ())), ((Da, (Pa, ())), ((Db, (Pb, ())), ((Dc, (Pc, ())), (en4 (vR k (bS k a b i)), (en4 (vR k (bS k b a i)), ()))))))))) (n := k.length) ?_ ?_ (lt_rounds (by omega))
  · intro i hi
    have za := sA_le hf ha (i + 1) (by omega)
    have zb := sA_le hf hb (i + 1) (by omega)
    have e1 := f34_part hf ha sa hi
    have e2 := f34_part hf hb sb hi
    have e3 := f34_part hf hc sc hi
    have e4 := f36_eq (vR k (sA k a (i + 1))) (vR k (sA k b (i + 1))) (vR_size hf (by omega)) (vR_size hf (by omega))
    rw [vR_add hf, ← sA_sum hs (i + 1) (by omega)] at e4
    have zc := sA_le hf hc (i + 1) (by omega)
    have e5 := f35_eq (vR k (sA k c (i + 1))) (vR k (sA k c (i + 1))) (vR_size hf (by omega)) (vR_size hf (by omega))
    rw [Int.sub_self, Int.sign_zero] at e5
    have e6 := f33_eq (b.getD i 0) (by have := hb.2 i; omega)
    have e7 := f33_eq (a.getD i 0) (by have := ha.2 i; omega)
    have xb := hb.2 i
    have xa := ha.2 i
    have e8 := f37_eq (b.getD i 0 : Rat) (vR k (sA k a (i + 1))) (rsz_mono (rsz_int (by omega)) (by decide)) (vR_size hf (by omega))
    have e9 := f37_eq (a.getD i 0 : Rat) (vR k (sA k b (i + 1))) (rsz_mono (rsz_int (by omega)) (by decide)) (vR_size hf (by omega))
    rw [vR_mul] at e8 e9
    have q1 := mulB (x := b.getD i 0) (y := sA k a (i + 1)) (A := 1000) (B := 5120000000) xb (by omega)
    have q2 := mulB (x := a.getD i 0) (y := sA k b (i + 1)) (A := 1000) (B := 5120000000) xa (by omega)
    have y1 := bS_le hf ha hb i (by omega)
    have y2 := bS_le hf hb ha i (by omega)
    have e10 := f36_eq (vR k (bS k a b i)) (vR k (b.getD i 0 * sA k a (i + 1))) (vR_size hf (by omega)) (vR_size hf (by omega))
    have e11 := f36_eq (vR k (bS k b a i)) (vR k (a.getD i 0 * sA k b (i + 1))) (vR_size hf (by omega)) (vR_size hf (by omega))
    rw [vR_add hf, show bS k a b i + b.getD i 0 * sA k a (i + 1) = bS k a b (i + 1) from rfl] at e10
    rw [vR_add hf, show bS k b a i + a.getD i 0 * sA k b (i + 1) = bS k b a (i + 1) from rfl] at e11
    have e12 := f38_eq Da Pa (i := i) (by omega) (by omega)
    obtain ⟨u1, u2⟩ := sa.small hf ha
    have fo := sw_force hf sa hi
    have hk := hf.spring i hi
    have ui := u2 i
    have uj : (pr Pa i).natAbs ≤ 5120000000 := by
      cases i with
      | zero => simp [pr]
      | succ i => exact u2 i
    have hD := sa.pos
    have ct1 := cT_le ha i
    have ct2 := cT_le ha k.length
    have w1 : wrap64 (Pa.getD i 0 - pr Pa i) = Pa.getD i 0 - pr Pa i := wr_abs (by omega)
    have q3 := mulB (x := St.gt k i) (y := Pa.getD i 0 - pr Pa i) (A := 20) (B := 10240000000) (by omega) (by omega)
    have w2 : wrap64 (St.gt k i * (Pa.getD i 0 - pr Pa i)) = St.gt k i * (Pa.getD i 0 - pr Pa i) := wr_abs (by omega)
    have q4 := mulB (x := a.getD i 0) (y := Da) (A := 1000) (B := 160000) xa (by omega)
    have w3 : wrap64 (a.getD i 0 * Da) = a.getD i 0 * Da := wr_abs (by omega)
    have w4 : wrap64 ((i : Int) + 1) = ((i + 1 : Nat) : Int) := wrap64_nat (by omega)
    have t1 : (!decide ((c.length : Int) ≤ (i : Int))) = true := by simp; omega
    have t2 : (decide ((0 : Int) ≤ (i : Int)) && decide ((i : Int) < (Pa.length : Int))) = true := by simp; omega
    have t3 : (decide ((0 : Int) ≤ (i : Int)) && decide ((i : Int) < (Pb.length : Int))) = true := by simp; omega
    have t4 : (decide ((0 : Int) ≤ (i : Int)) && decide ((i : Int) < (Pc.length : Int))) = true := by simp; omega
    have t5 : (decide ((0 : Int) ≤ (i : Int)) && decide ((i : Int) < (b.length : Int))) = true := by simp; omega
    have t6 : (decide ((0 : Int) ≤ (i : Int)) && decide ((i : Int) < (a.length : Int))) = true := by simp; omega
    have t7 : (decide ((0 : Int) ≤ (i : Int)) && decide ((i : Int) < (k.length : Int))) = true := by simp; omega
    have eR : ∀ r : Rat, (((encR r).1.1, ((encR r).1.2.1, ())), (((encR r).2.1.1, ((encR r).2.1.2.1, ())), ())) = encR r := fun _ => rfl
    have kk : k.getD i 0 = St.gt k i := rfl
    by_cases hn : i + 1 < k.length
    · have t8 : (!decide ((c.length : Int) ≤ ((i + 1 : Nat) : Int))) = true := by simp; omega
      have t9 : (decide ((0 : Int) ≤ ((i + 1 : Nat) : Int)) && decide (((i + 1 : Nat) : Int) < (k.length : Int))) = true := by simp; omega
      have t10 : (decide ((0 : Int) ≤ ((i + 1 : Nat) : Int)) && decide (((i + 1 : Nat) : Int) < (Pa.length : Int))) = true := by simp; omega
      have fo2 := sw_force hf sa hn
      have hk2 := hf.spring (i + 1) hn
      have ui2 := u2 (i + 1)
      have kk2 : k.getD (i + 1) 0 = St.gt k (i + 1) := rfl
      have w5 : wrap64 (Pa.getD (i + 1) 0 - Pa.getD i 0) = Pa.getD (i + 1) 0 - Pa.getD i 0 := wr_abs (by omega)
      have q5 := mulB (x := St.gt k (i + 1)) (y := Pa.getD (i + 1) 0 - Pa.getD i 0) (A := 20) (B := 10240000000) (by omega) (by omega)
      have w6 : wrap64 (St.gt k (i + 1) * (Pa.getD (i + 1) 0 - Pa.getD i 0)) = St.gt k (i + 1) * (Pa.getD (i + 1) 0 - Pa.getD i 0) := wr_abs (by omega)
      have w7 : wrap64 (St.gt k i * (Pa.getD i 0 - pr Pa i) - St.gt k (i + 1) * (Pa.getD (i + 1) 0 - Pa.getD i 0)) = a.getD i 0 * Da := by
        rw [wr_abs (by omega), fo, show Pa.getD (i + 1) 0 - Pa.getD i 0 = Pa.getD (i + 1) 0 - pr Pa (i + 1) from rfl, fo2, ← Int.sub_mul]
        refine congrArg (· * Da) ?_
        simp only [cT]; omega
      simp only [s5_2, t5_2, en4, Int.toNat_natCast, kk, kk2, g34, e1, e2, e3, eR, g36, e4, g35, e5, g33, e6, e7, g37, e8, e9, e10, e11, g38, e12, w1, w2, w3, w4, w5, w6, w7, t1, t2, t3, t4, t5, t6, t7, t8, t9, t10, leF_eq, eqF_eq, decide_true, Bool.not_true, Tr.val_test, Tr.val_fin, Tr.val_stop, Option.isSome_some, Option.getD_some, Bool.false_eq_true, ↓reduceIte]
    · have t8 : (!decide ((c.length : Int) ≤ ((i + 1 : Nat) : Int))) = false := by simp; omega
      have w7 : St.gt k i * (Pa.getD i 0 - pr Pa i) = a.getD i 0 * Da := by
        have en : k.length = i + 1 := by omega
        rw [fo, en]
        refine congrArg (· * Da) ?_
        simp only [cT]; omega
      simp only [s5_2, t5_2, en4, Int.toNat_natCast, kk, g34, e1, e2, e3, eR, g36, e4, g35, e5, g33, e6, e7, g37, e8, e9, e10, e11, g38, e12, w1, w2, w3, w4, w7, t1, t2, t3, t4, t5, t6, t7, t8, leF_eq, eqF_eq, decide_true, Bool.not_true, Tr.val_test, Tr.val_fin, Tr.val_stop, Option.isSome_some, Option.getD_some, Bool.false_eq_true, ↓reduceIte]
  · have t1 : (!decide ((c.length : Int) ≤ ((k.length : Nat) : Int))) = false := by simp; omega
    simp only [s5_2, t5_2, en4, t1, leF_eq, Tr.val_test, Tr.val_fin, Tr.val_stop, Bool.false_eq_true, ↓reduceIte]

end Go.Vm.Mo

namespace Go.Vm.Mo
open Go
set_option linter.unusedVariables false
set_option linter.unusedSimpArgs false

def V (m k : List Int) (p q : Int) (j : Nat) : Int := St.ev (St.Dc m k (j + 1)) p q

theorem V_zero (m k : List Int) (p q : Int) : V m k p q 0 = q * q * q * q := by simp [V, St.ev, St.Dc]

theorem V_pos (m k : List Int) (p : Int) {q : Int} (h : 0 < q) : 0 < V m k p q 0 := by
  rw [V_zero]
  exact Int.mul_pos (Int.mul_pos (Int.mul_pos h h) h) h

theorem V_le {m k : List Int} (hf : St.Fr m k) {p q : Int} (hs : Sq p q) {j : Nat} (hj : j ≤ 3) (hj2 : j ≤ k.length) : (V m k p q j).natAbs ≤ 100000000000000 := by
  have h := (St.ev_W (m := m) hf.top (p := p) hs.pos j hj2).1
  have w := (St.W_le hf (p := p) (q := q) j hj2).1
  have q0 := hs.pos
  have q1 := hs.den
  have hb : St.bd p q ≤ 6000 := by
    have := hs.lo
    have := hs.hi
    unfold St.bd
    omega
  have e := congrArg Int.natAbs h
  rw [Int.natAbs_mul, Int.natAbs_mul, Int.natAbs_pow, Int.natAbs_pow] at e
  have hQ : 0 < q.natAbs := by omega
  have hQ1 : q.natAbs ≤ 100 := by omega
  show (St.ev (St.Dc m k (j + 1)) p q).natAbs ≤ _
  generalize (St.ev (St.Dc m k (j + 1)) p q).natAbs = N at *
  generalize (St.W m k p q (j + 1)).natAbs = w0 at *
  generalize q.natAbs = Q at *
  have hp : 0 < Q ^ j := Nat.pow_pos hQ
  have e2 : Q ^ 4 = Q ^ (4 - j) * Q ^ j := by rw [← Nat.pow_add]; congr 1; omega
  have h1 : N * Q ^ j ≤ Q ^ (4 - j) * St.bd p q ^ j * Q ^ j := by
    rw [e, e2, Nat.mul_assoc, Nat.mul_assoc, Nat.mul_comm (Q ^ j)]
    exact Nat.mul_le_mul_left _ (Nat.mul_le_mul_right _ w)
  have h2 : N ≤ Q ^ (4 - j) * St.bd p q ^ j := Nat.le_of_mul_le_mul_right h1 hp
  have h3 : Q ^ (4 - j) * St.bd p q ^ j ≤ 100 ^ (4 - j) * 6000 ^ j := Nat.mul_le_mul (Nat.pow_le_pow_left hQ1 _) (Nat.pow_le_pow_left hb _)
  refine Nat.le_trans (Nat.le_trans h2 h3) ?_
  rcases (show j = 0 ∨ j = 1 ∨ j = 2 ∨ j = 3 by omega) with h | h | h | h <;> subst h <;> decide

theorem sgn_mul {x y g c : Int} (hg : 0 < g) (hc : 0 < c) (h : x * g = y * c) : St.sgn x = St.sgn y := by
  have key : ∀ {u v : Int}, 0 < v → (0 < u * v ↔ 0 < u) ∧ (u * v < 0 ↔ u < 0) := by
    intro u v hv
    rcases Int.lt_trichotomy u 0 with h | h | h
    · have := Int.mul_neg_of_neg_of_pos h hv
      omega
    · subst h; simp
    · have := Int.mul_pos h hv
      omega
  have a := key (u := x) hg
  have b := key (u := y) hc
  rw [h] at a
  unfold St.sgn
  by_cases h1 : x < 0
  · rw [if_pos h1, if_pos (b.2.1 (a.2.2 h1))]
  · rw [if_neg h1, if_neg (fun q => h1 (a.2.1 (b.2.2 q)))]
    by_cases h2 : 0 < x
    · rw [if_pos h2, if_pos (b.1.1 (a.1.2 h2))]
    · rw [if_neg h2, if_neg (fun q => h2 (a.1.1 (b.1.2 q)))]

theorem f28_1 {m k : List Int} (hf : St.Fr m k) (h : k.length = 1) {p q : Int} (hs : Sq p q) : ∃ (D : Int) (P : List Int), f28 ((m, (k, ())), ((p, (q, ())), ())) = some ((D, (P, ())), (St.sgn (V m k p q k.length), ((0 : Int), ()))) ∧ P.length = k.length ∧ 1 ≤ D ∧ P.getD 0 0 = D ∧ ∀ j, j < k.length → St.sgn (P.getD j 0) = St.sgn (V m k p q j) := by
  have q0 := hs.pos
  have e0 := f59_eq hs
  have e1 := f9_ok hf
  have e2 := f44_eq [0] (by decide)
  rw [show firstNZ [0] = 0 from rfl] at e2
  have e3 := f44_eq [0, 0] (by decide)
  rw [firstNZ_zero rfl rfl] at e3
  have c : (!eqF (0 : Int) 0) = false := by rw [eqF_eq]; rfl
  have e4 := f63_eq hf hs.pos hs.bd
  have el := vals_len m k p q (k.length + 1)
  have v0 : (vals m k p q (k.length + 1)).getD 0 0 = V m k p q 0 := vals_at m k p q (n := k.length + 1) (i := 0) (by omega)
  have v1 : (vals m k p q (k.length + 1)).getD 1 0 = V m k p q 1 := vals_at m k p q (n := k.length + 1) (i := 1) (by omega)
  generalize vals m k p q (k.length + 1) = vs at *
  rw [h] at el
  have b0 : (true && decide ((0 : Int) < (vs.length : Int))) = true := by rw [el]; rfl
  have b1 : (true && decide ((1 : Int) < (vs.length : Int))) = true := by rw [el]; rfl
  have a0 : (!decide ((k.length : Int) ≤ 0)) = true := by rw [h]; rfl
  have d0 : (true && decide ((0 : Int) < (k.length : Int))) = true := by rw [h]; rfl
  have hk0 := hf.spring 0 (by omega)
  have kk0 : k.getD 0 0 = St.gt k 0 := rfl
  have z0 := V_le hf hs (j := 0) (by decide) (by omega)
  have a1 : (!decide ((k.length : Int) ≤ 1)) = false := by rw [h]; rfl
  have dp0 := V_pos m k p q0
  have e5 := f64_eq (V m k p q 0) [V m k p q 0] dp0 (by omega) (by simp) (fun i hi => by
    have hi : i < 1 := hi
    rcases (show i = 0 by omega) with r <;> subst r <;> simp only [List.getD_cons_zero, List.getD_cons_succ] <;> omega)
  have e6 := f65_eq (V m k p q 1)
  obtain ⟨g, g1, g2, g3, g4, g5⟩ := sh_spec dp0 [V m k p q 0]
  subst g2
  refine ⟨(V m k p q 0).tdiv ((gF (V m k p q 0) [V m k p q 0] [V m k p q 0].length : Nat) : Int), shL ((gF (V m k p q 0) [V m k p q 0] [V m k p q 0].length : Nat) : Int) [V m k p q 0] [V m k p q 0].length, ?_, ?_, ?_, ?_, ?_⟩
  · rw [h]
    simp only [f28, t28, Tr.val_test, Tr.val_fin, Tr.val_stop, leF_eq, g59, e0, g9, e1, g44, e2, e3, c, g63, e4, v0, v1, b0, b1, a0, d0, kk0, a1, g64, e5, g65, e6, Option.isSome_some, Option.getD_some, Bool.false_eq_true, ↓reduceIte]
    try rfl
  · rw [shL_len _ _ (Nat.le_refl _), h]; rfl
  · omega
  · exact shL_at _ [V m k p q 0] (by simp)
  · intro j hj
    rcases (show j = 0 by omega) with r <;> subst r
    · exact sgn_mul g1 (c := 1) (by decide) (by have := g5 0 (by simp); simp only [List.getD_cons_zero, List.getD_cons_succ] at this; rw [this]; try grind)

theorem f28_2 {m k : List Int} (hf : St.Fr m k) (h : k.length = 2) {p q : Int} (hs : Sq p q) : ∃ (D : Int) (P : List Int), f28 ((m, (k, ())), ((p, (q, ())), ())) = some ((D, (P, ())), (St.sgn (V m k p q k.length), ((0 : Int), ()))) ∧ P.length = k.length ∧ 1 ≤ D ∧ P.getD 0 0 = D ∧ ∀ j, j < k.length → St.sgn (P.getD j 0) = St.sgn (V m k p q j) := by
  have q0 := hs.pos
  have e0 := f59_eq hs
  have e1 := f9_ok hf
  have e2 := f44_eq [0] (by decide)
  rw [show firstNZ [0] = 0 from rfl] at e2
  have e3 := f44_eq [0, 0] (by decide)
  rw [firstNZ_zero rfl rfl] at e3
  have c : (!eqF (0 : Int) 0) = false := by rw [eqF_eq]; rfl
  have e4 := f63_eq hf hs.pos hs.bd
  have el := vals_len m k p q (k.length + 1)
  have v0 : (vals m k p q (k.length + 1)).getD 0 0 = V m k p q 0 := vals_at m k p q (n := k.length + 1) (i := 0) (by omega)
  have v1 : (vals m k p q (k.length + 1)).getD 1 0 = V m k p q 1 := vals_at m k p q (n := k.length + 1) (i := 1) (by omega)
  have v2 : (vals m k p q (k.length + 1)).getD 2 0 = V m k p q 2 := vals_at m k p q (n := k.length + 1) (i := 2) (by omega)
  generalize vals m k p q (k.length + 1) = vs at *
  rw [h] at el
  have b0 : (true && decide ((0 : Int) < (vs.length : Int))) = true := by rw [el]; rfl
  have b1 : (true && decide ((1 : Int) < (vs.length : Int))) = true := by rw [el]; rfl
  have b2 : (true && decide ((2 : Int) < (vs.length : Int))) = true := by rw [el]; rfl
  have a0 : (!decide ((k.length : Int) ≤ 0)) = true := by rw [h]; rfl
  have d0 : (true && decide ((0 : Int) < (k.length : Int))) = true := by rw [h]; rfl
  have hk0 := hf.spring 0 (by omega)
  have kk0 : k.getD 0 0 = St.gt k 0 := rfl
  have z0 := V_le hf hs (j := 0) (by decide) (by omega)
  have a1 : (!decide ((k.length : Int) ≤ 1)) = true := by rw [h]; rfl
  have d1 : (true && decide ((1 : Int) < (k.length : Int))) = true := by rw [h]; rfl
  have hk1 := hf.spring 1 (by omega)
  have kk1 : k.getD 1 0 = St.gt k 1 := rfl
  have z1 := V_le hf hs (j := 1) (by decide) (by omega)
  have a2 : (!decide ((k.length : Int) ≤ 2)) = false := by rw [h]; rfl
  have dp0 := V_pos m k p q0
  have dp1 := Int.mul_pos dp0 (show 0 < St.gt k 1 by omega)
  have z01 := mulB (x := V m k p q 0) (y := St.gt k 1) (A := 100000000000000) (B := 20) (by omega) (by omega)
  have w01 : wrap64 (V m k p q 0 * St.gt k 1) = V m k p q 0 * St.gt k 1 := wr_abs (by omega)
  have e5 := f64_eq (V m k p q 0 * St.gt k 1) [V m k p q 0 * St.gt k 1, V m k p q 1] dp1 (by omega) (by simp) (fun i hi => by
    have hi : i < 2 := hi
    rcases (show i = 0 ∨ i = 1 by omega) with r | r <;> subst r <;> simp only [List.getD_cons_zero, List.getD_cons_succ] <;> omega)
  have e6 := f65_eq (V m k p q 2)
  obtain ⟨g, g1, g2, g3, g4, g5⟩ := sh_spec dp1 [V m k p q 0 * St.gt k 1, V m k p q 1]
  subst g2
  refine ⟨(V m k p q 0 * St.gt k 1).tdiv ((gF (V m k p q 0 * St.gt k 1) [V m k p q 0 * St.gt k 1, V m k p q 1] [V m k p q 0 * St.gt k 1, V m k p q 1].length : Nat) : Int), shL ((gF (V m k p q 0 * St.gt k 1) [V m k p q 0 * St.gt k 1, V m k p q 1] [V m k p q 0 * St.gt k 1, V m k p q 1].length : Nat) : Int) [V m k p q 0 * St.gt k 1, V m k p q 1] [V m k p q 0 * St.gt k 1, V m k p q 1].length, ?_, ?_, ?_, ?_, ?_⟩
  · rw [h]
    simp only [f28, t28, Tr.val_test, Tr.val_fin, Tr.val_stop, leF_eq, g59, e0, g9, e1, g44, e2, e3, c, g63, e4, v0, v1, v2, b0, b1, b2, a0, d0, kk0, a1, d1, kk1, a2, w01, g64, e5, g65, e6, Option.isSome_some, Option.getD_some, Bool.false_eq_true, ↓reduceIte]
    try rfl
  · rw [shL_len _ _ (Nat.le_refl _), h]; rfl
  · omega
  · exact shL_at _ [V m k p q 0 * St.gt k 1, V m k p q 1] (by simp)
  · intro j hj
    rcases (show j = 0 ∨ j = 1 by omega) with r | r <;> subst r
    · exact sgn_mul g1 (c := St.gt k 1) (show 0 < St.gt k 1 by omega) (by have := g5 0 (by simp); simp only [List.getD_cons_zero, List.getD_cons_succ] at this; rw [this]; try grind)
    · exact sgn_mul g1 (c := 1) (by decide) (by have := g5 1 (by simp); simp only [List.getD_cons_zero, List.getD_cons_succ] at this; rw [this]; try grind)

theorem f28_3 {m k : List Int} (hf : St.Fr m k) (h : k.length = 3) {p q : Int} (hs : Sq p q) : ∃ (D : Int) (P : List Int), f28 ((m, (k, ())), ((p, (q, ())), ())) = some ((D, (P, ())), (St.sgn (V m k p q k.length), ((0 : Int), ()))) ∧ P.length = k.length ∧ 1 ≤ D ∧ P.getD 0 0 = D ∧ ∀ j, j < k.length → St.sgn (P.getD j 0) = St.sgn (V m k p q j) := by
  have q0 := hs.pos
  have e0 := f59_eq hs
  have e1 := f9_ok hf
  have e2 := f44_eq [0] (by decide)
  rw [show firstNZ [0] = 0 from rfl] at e2
  have e3 := f44_eq [0, 0] (by decide)
  rw [firstNZ_zero rfl rfl] at e3
  have c : (!eqF (0 : Int) 0) = false := by rw [eqF_eq]; rfl
  have e4 := f63_eq hf hs.pos hs.bd
  have el := vals_len m k p q (k.length + 1)
  have v0 : (vals m k p q (k.length + 1)).getD 0 0 = V m k p q 0 := vals_at m k p q (n := k.length + 1) (i := 0) (by omega)
  have v1 : (vals m k p q (k.length + 1)).getD 1 0 = V m k p q 1 := vals_at m k p q (n := k.length + 1) (i := 1) (by omega)
  have v2 : (vals m k p q (k.length + 1)).getD 2 0 = V m k p q 2 := vals_at m k p q (n := k.length + 1) (i := 2) (by omega)
  have v3 : (vals m k p q (k.length + 1)).getD 3 0 = V m k p q 3 := vals_at m k p q (n := k.length + 1) (i := 3) (by omega)
  generalize vals m k p q (k.length + 1) = vs at *
  rw [h] at el
  have b0 : (true && decide ((0 : Int) < (vs.length : Int))) = true := by rw [el]; rfl
  have b1 : (true && decide ((1 : Int) < (vs.length : Int))) = true := by rw [el]; rfl
  have b2 : (true && decide ((2 : Int) < (vs.length : Int))) = true := by rw [el]; rfl
  have b3 : (true && decide ((3 : Int) < (vs.length : Int))) = true := by rw [el]; rfl
  have a0 : (!decide ((k.length : Int) ≤ 0)) = true := by rw [h]; rfl
  have d0 : (true && decide ((0 : Int) < (k.length : Int))) = true := by rw [h]; rfl
  have hk0 := hf.spring 0 (by omega)
  have kk0 : k.getD 0 0 = St.gt k 0 := rfl
  have z0 := V_le hf hs (j := 0) (by decide) (by omega)
  have a1 : (!decide ((k.length : Int) ≤ 1)) = true := by rw [h]; rfl
  have d1 : (true && decide ((1 : Int) < (k.length : Int))) = true := by rw [h]; rfl
  have hk1 := hf.spring 1 (by omega)
  have kk1 : k.getD 1 0 = St.gt k 1 := rfl
  have z1 := V_le hf hs (j := 1) (by decide) (by omega)
  have a2 : (!decide ((k.length : Int) ≤ 2)) = true := by rw [h]; rfl
  have d2 : (true && decide ((2 : Int) < (k.length : Int))) = true := by rw [h]; rfl
  have hk2 := hf.spring 2 (by omega)
  have kk2 : k.getD 2 0 = St.gt k 2 := rfl
  have z2 := V_le hf hs (j := 2) (by decide) (by omega)
  have a3 : (!decide ((k.length : Int) ≤ 3)) = false := by rw [h]; rfl
  have dp0 := V_pos m k p q0
  have dp1 := Int.mul_pos dp0 (show 0 < St.gt k 1 by omega)
  have dp2 := Int.mul_pos dp1 (show 0 < St.gt k 2 by omega)
  have z01 := mulB (x := V m k p q 0) (y := St.gt k 1) (A := 100000000000000) (B := 20) (by omega) (by omega)
  have w01 : wrap64 (V m k p q 0 * St.gt k 1) = V m k p q 0 * St.gt k 1 := wr_abs (by omega)
  have z02 := mulB (x := V m k p q 0 * St.gt k 1) (y := St.gt k 2) (A := 2000000000000000) (B := 20) (by omega) (by omega)
  have w02 : wrap64 (V m k p q 0 * St.gt k 1 * St.gt k 2) = V m k p q 0 * St.gt k 1 * St.gt k 2 := wr_abs (by omega)
  have z12 := mulB (x := V m k p q 1) (y := St.gt k 2) (A := 100000000000000) (B := 20) (by omega) (by omega)
  have w12 : wrap64 (V m k p q 1 * St.gt k 2) = V m k p q 1 * St.gt k 2 := wr_abs (by omega)
  have e5 := f64_eq (V m k p q 0 * St.gt k 1 * St.gt k 2) [V m k p q 0 * St.gt k 1 * St.gt k 2, V m k p q 1 * St.gt k 2, V m k p q 2] dp2 (by omega) (by simp) (fun i hi => by
    have hi : i < 3 := hi
    rcases (show i = 0 ∨ i = 1 ∨ i = 2 by omega) with r | r | r <;> subst r <;> simp only [List.getD_cons_zero, List.getD_cons_succ] <;> omega)
  have e6 := f65_eq (V m k p q 3)
  obtain ⟨g, g1, g2, g3, g4, g5⟩ := sh_spec dp2 [V m k p q 0 * St.gt k 1 * St.gt k 2, V m k p q 1 * St.gt k 2, V m k p q 2]
  subst g2
  refine ⟨(V m k p q 0 * St.gt k 1 * St.gt k 2).tdiv ((gF (V m k p q 0 * St.gt k 1 * St.gt k 2) [V m k p q 0 * St.gt k 1 * St.gt k 2, V m k p q 1 * St.gt k 2, V m k p q 2] [V m k p q 0 * St.gt k 1 * St.gt k 2, V m k p q 1 * St.gt k 2, V m k p q 2].length : Nat) : Int), shL ((gF (V m k p q 0 * St.gt k 1 * St.gt k 2) [V m k p q 0 * St.gt k 1 * St.gt k 2, V m k p q 1 * St.gt k 2, V m k p q 2] [V m k p q 0 * St.gt k 1 * St.gt k 2, V m k p q 1 * St.gt k 2, V m k p q 2].length : Nat) : Int) [V m k p q 0 * St.gt k 1 * St.gt k 2, V m k p q 1 * St.gt k 2, V m k p q 2] [V m k p q 0 * St.gt k 1 * St.gt k 2, V m k p q 1 * St.gt k 2, V m k p q 2].length, ?_, ?_, ?_, ?_, ?_⟩
  · rw [h]
    simp only [f28, t28, Tr.val_test, Tr.val_fin, Tr.val_stop, leF_eq, g59, e0, g9, e1, g44, e2, e3, c, g63, e4, v0, v1, v2, v3, b0, b1, b2, b3, a0, d0, kk0, a1, d1, kk1, a2, d2, kk2, a3, w01, w02, w12, g64, e5, g65, e6, Option.isSome_some, Option.getD_some, Bool.false_eq_true, ↓reduceIte]
    try rfl
  · rw [shL_len _ _ (Nat.le_refl _), h]; rfl
  · omega
  · exact shL_at _ [V m k p q 0 * St.gt k 1 * St.gt k 2, V m k p q 1 * St.gt k 2, V m k p q 2] (by simp)
  · intro j hj
    rcases (show j = 0 ∨ j = 1 ∨ j = 2 by omega) with r | r | r <;> subst r
    · exact sgn_mul g1 (c := St.gt k 1 * St.gt k 2) (Int.mul_pos (show 0 < St.gt k 1 by omega) (show 0 < St.gt k 2 by omega)) (by have := g5 0 (by simp); simp only [List.getD_cons_zero, List.getD_cons_succ] at this; rw [this]; try grind)
    · exact sgn_mul g1 (c := St.gt k 2) (show 0 < St.gt k 2 by omega) (by have := g5 1 (by simp); simp only [List.getD_cons_zero, List.getD_cons_succ] at this; rw [this]; try grind)
    · exact sgn_mul g1 (c := 1) (by decide) (by have := g5 2 (by simp); simp only [List.getD_cons_zero, List.getD_cons_succ] at this; rw [this]; try grind)

theorem f28_4 {m k : List Int} (hf : St.Fr m k) (h : k.length = 4) {p q : Int} (hs : Sq p q) : ∃ (D : Int) (P : List Int), f28 ((m, (k, ())), ((p, (q, ())), ())) = some ((D, (P, ())), (St.sgn (V m k p q k.length), ((0 : Int), ()))) ∧ P.length = k.length ∧ 1 ≤ D ∧ P.getD 0 0 = D ∧ ∀ j, j < k.length → St.sgn (P.getD j 0) = St.sgn (V m k p q j) := by
  have q0 := hs.pos
  have e0 := f59_eq hs
  have e1 := f9_ok hf
  have e2 := f44_eq [0] (by decide)
  rw [show firstNZ [0] = 0 from rfl] at e2
  have e3 := f44_eq [0, 0] (by decide)
  rw [firstNZ_zero rfl rfl] at e3
  have c : (!eqF (0 : Int) 0) = false := by rw [eqF_eq]; rfl
  have e4 := f63_eq hf hs.pos hs.bd
  have el := vals_len m k p q (k.length + 1)
  have v0 : (vals m k p q (k.length + 1)).getD 0 0 = V m k p q 0 := vals_at m k p q (n := k.length + 1) (i := 0) (by omega)
  have v1 : (vals m k p q (k.length + 1)).getD 1 0 = V m k p q 1 := vals_at m k p q (n := k.length + 1) (i := 1) (by omega)
  have v2 : (vals m k p q (k.length + 1)).getD 2 0 = V m k p q 2 := vals_at m k p q (n := k.length + 1) (i := 2) (by omega)
  have v3 : (vals m k p q (k.length + 1)).getD 3 0 = V m k p q 3 := vals_at m k p q (n := k.length + 1) (i := 3) (by omega)
  have v4 : (vals m k p q (k.length + 1)).getD 4 0 = V m k p q 4 := vals_at m k p q (n := k.length + 1) (i := 4) (by omega)
  generalize vals m k p q (k.length + 1) = vs at *
  rw [h] at el
  have b0 : (true && decide ((0 : Int) < (vs.length : Int))) = true := by rw [el]; rfl
  have b1 : (true && decide ((1 : Int) < (vs.length : Int))) = true := by rw [el]; rfl
  have b2 : (true && decide ((2 : Int) < (vs.length : Int))) = true := by rw [el]; rfl
  have b3 : (true && decide ((3 : Int) < (vs.length : Int))) = true := by rw [el]; rfl
  have b4 : (true && decide ((4 : Int) < (vs.length : Int))) = true := by rw [el]; rfl
  have a0 : (!decide ((k.length : Int) ≤ 0)) = true := by rw [h]; rfl
  have d0 : (true && decide ((0 : Int) < (k.length : Int))) = true := by rw [h]; rfl
  have hk0 := hf.spring 0 (by omega)
  have kk0 : k.getD 0 0 = St.gt k 0 := rfl
  have z0 := V_le hf hs (j := 0) (by decide) (by omega)
  have a1 : (!decide ((k.length : Int) ≤ 1)) = true := by rw [h]; rfl
  have d1 : (true && decide ((1 : Int) < (k.length : Int))) = true := by rw [h]; rfl
  have hk1 := hf.spring 1 (by omega)
  have kk1 : k.getD 1 0 = St.gt k 1 := rfl
  have z1 := V_le hf hs (j := 1) (by decide) (by omega)
  have a2 : (!decide ((k.length : Int) ≤ 2)) = true := by rw [h]; rfl
  have d2 : (true && decide ((2 : Int) < (k.length : Int))) = true := by rw [h]; rfl
  have hk2 := hf.spring 2 (by omega)
  have kk2 : k.getD 2 0 = St.gt k 2 := rfl
  have z2 := V_le hf hs (j := 2) (by decide) (by omega)
  have a3 : (!decide ((k.length : Int) ≤ 3)) = true := by rw [h]; rfl
  have d3 : (true && decide ((3 : Int) < (k.length : Int))) = true := by rw [h]; rfl
  have hk3 := hf.spring 3 (by omega)
  have kk3 : k.getD 3 0 = St.gt k 3 := rfl
  have z3 := V_le hf hs (j := 3) (by decide) (by omega)
  have a4 : (!decide ((k.length : Int) ≤ 4)) = false := by rw [h]; rfl
  have dp0 := V_pos m k p q0
  have dp1 := Int.mul_pos dp0 (show 0 < St.gt k 1 by omega)
  have dp2 := Int.mul_pos dp1 (show 0 < St.gt k 2 by omega)
  have dp3 := Int.mul_pos dp2 (show 0 < St.gt k 3 by omega)
  have z01 := mulB (x := V m k p q 0) (y := St.gt k 1) (A := 100000000000000) (B := 20) (by omega) (by omega)
  have w01 : wrap64 (V m k p q 0 * St.gt k 1) = V m k p q 0 * St.gt k 1 := wr_abs (by omega)
  have z02 := mulB (x := V m k p q 0 * St.gt k 1) (y := St.gt k 2) (A := 2000000000000000) (B := 20) (by omega) (by omega)
  have w02 : wrap64 (V m k p q 0 * St.gt k 1 * St.gt k 2) = V m k p q 0 * St.gt k 1 * St.gt k 2 := wr_abs (by omega)
  have z03 := mulB (x := V m k p q 0 * St.gt k 1 * St.gt k 2) (y := St.gt k 3) (A := 40000000000000000) (B := 20) (by omega) (by omega)
  have w03 : wrap64 (V m k p q 0 * St.gt k 1 * St.gt k 2 * St.gt k 3) = V m k p q 0 * St.gt k 1 * St.gt k 2 * St.gt k 3 := wr_abs (by omega)
  have z12 := mulB (x := V m k p q 1) (y := St.gt k 2) (A := 100000000000000) (B := 20) (by omega) (by omega)
  have w12 : wrap64 (V m k p q 1 * St.gt k 2) = V m k p q 1 * St.gt k 2 := wr_abs (by omega)
  have z13 := mulB (x := V m k p q 1 * St.gt k 2) (y := St.gt k 3) (A := 2000000000000000) (B := 20) (by omega) (by omega)
  have w13 : wrap64 (V m k p q 1 * St.gt k 2 * St.gt k 3) = V m k p q 1 * St.gt k 2 * St.gt k 3 := wr_abs (by omega)
  have z23 := mulB (x := V m k p q 2) (y := St.gt k 3) (A := 100000000000000) (B := 20) (by omega) (by omega)
  have w23 : wrap64 (V m k p q 2 * St.gt k 3) = V m k p q 2 * St.gt k 3 := wr_abs (by omega)
  have e5 := f64_eq (V m k p q 0 * St.gt k 1 * St.gt k 2 * St.gt k 3) [V m k p q 0 * St.gt k 1 * St.gt k 2 * St.gt k 3, V m k p q 1 * St.gt k 2 * St.gt k 3, V m k p q 2 * St.gt k 3, V m k p q 3] dp3 (by omega) (by simp) (fun i hi => by
    have hi : i < 4 := hi
    rcases (show i = 0 ∨ i = 1 ∨ i = 2 ∨ i = 3 by omega) with r | r | r | r <;> subst r <;> simp only [List.getD_cons_zero, List.getD_cons_succ] <;> omega)
  have e6 := f65_eq (V m k p q 4)
  obtain ⟨g, g1, g2, g3, g4, g5⟩ := sh_spec dp3 [V m k p q 0 * St.gt k 1 * St.gt k 2 * St.gt k 3, V m k p q 1 * St.gt k 2 * St.gt k 3, V m k p q 2 * St.gt k 3, V m k p q 3]
  subst g2
  refine ⟨(V m k p q 0 * St.gt k 1 * St.gt k 2 * St.gt k 3).tdiv ((gF (V m k p q 0 * St.gt k 1 * St.gt k 2 * St.gt k 3) [V m k p q 0 * St.gt k 1 * St.gt k 2 * St.gt k 3, V m k p q 1 * St.gt k 2 * St.gt k 3, V m k p q 2 * St.gt k 3, V m k p q 3] [V m k p q 0 * St.gt k 1 * St.gt k 2 * St.gt k 3, V m k p q 1 * St.gt k 2 * St.gt k 3, V m k p q 2 * St.gt k 3, V m k p q 3].length : Nat) : Int), shL ((gF (V m k p q 0 * St.gt k 1 * St.gt k 2 * St.gt k 3) [V m k p q 0 * St.gt k 1 * St.gt k 2 * St.gt k 3, V m k p q 1 * St.gt k 2 * St.gt k 3, V m k p q 2 * St.gt k 3, V m k p q 3] [V m k p q 0 * St.gt k 1 * St.gt k 2 * St.gt k 3, V m k p q 1 * St.gt k 2 * St.gt k 3, V m k p q 2 * St.gt k 3, V m k p q 3].length : Nat) : Int) [V m k p q 0 * St.gt k 1 * St.gt k 2 * St.gt k 3, V m k p q 1 * St.gt k 2 * St.gt k 3, V m k p q 2 * St.gt k 3, V m k p q 3] [V m k p q 0 * St.gt k 1 * St.gt k 2 * St.gt k 3, V m k p q 1 * St.gt k 2 * St.gt k 3, V m k p q 2 * St.gt k 3, V m k p q 3].length, ?_, ?_, ?_, ?_, ?_⟩
  · rw [h]
    simp only [f28, t28, Tr.val_test, Tr.val_fin, Tr.val_stop, leF_eq, g59, e0, g9, e1, g44, e2, e3, c, g63, e4, v0, v1, v2, v3, v4, b0, b1, b2, b3, b4, a0, d0, kk0, a1, d1, kk1, a2, d2, kk2, a3, d3, kk3, a4, w01, w02, w03, w12, w13, w23, g64, e5, g65, e6, Option.isSome_some, Option.getD_some, Bool.false_eq_true, ↓reduceIte]
    try rfl
  · rw [shL_len _ _ (Nat.le_refl _), h]; rfl
  · omega
  · exact shL_at _ [V m k p q 0 * St.gt k 1 * St.gt k 2 * St.gt k 3, V m k p q 1 * St.gt k 2 * St.gt k 3, V m k p q 2 * St.gt k 3, V m k p q 3] (by simp)
  · intro j hj
    rcases (show j = 0 ∨ j = 1 ∨ j = 2 ∨ j = 3 by omega) with r | r | r | r <;> subst r
    · exact sgn_mul g1 (c := St.gt k 1 * St.gt k 2 * St.gt k 3) (Int.mul_pos (Int.mul_pos (show 0 < St.gt k 1 by omega) (show 0 < St.gt k 2 by omega)) (show 0 < St.gt k 3 by omega)) (by have := g5 0 (by simp); simp only [List.getD_cons_zero, List.getD_cons_succ] at this; rw [this]; try grind)
    · exact sgn_mul g1 (c := St.gt k 2 * St.gt k 3) (Int.mul_pos (show 0 < St.gt k 2 by omega) (show 0 < St.gt k 3 by omega)) (by have := g5 1 (by simp); simp only [List.getD_cons_zero, List.getD_cons_succ] at this; rw [this]; try grind)
    · exact sgn_mul g1 (c := St.gt k 3) (show 0 < St.gt k 3 by omega) (by have := g5 2 (by simp); simp only [List.getD_cons_zero, List.getD_cons_succ] at this; rw [this]; try grind)
    · exact sgn_mul g1 (c := 1) (by decide) (by have := g5 3 (by simp); simp only [List.getD_cons_zero, List.getD_cons_succ] at this; rw [this]; try grind)

theorem f28_ok {m k : List Int} (hf : St.Fr m k) {p q : Int} (hs : Sq p q) : ∃ (D : Int) (P : List Int), f28 ((m, (k, ())), ((p, (q, ())), ())) = some ((D, (P, ())), (St.sgn (V m k p q k.length), ((0 : Int), ()))) ∧ P.length = k.length ∧ 1 ≤ D ∧ P.getD 0 0 = D ∧ ∀ j, j < k.length → St.sgn (P.getD j 0) = St.sgn (V m k p q j) := by
  have h4 := hf.top
  have h0 := hf.pos
  rcases (show k.length = 1 ∨ k.length = 2 ∨ k.length = 3 ∨ k.length = 4 by omega) with h | h | h | h
  · exact f28_1 hf h hs
  · exact f28_2 hf h hs
  · exact f28_3 hf h hs
  · exact f28_4 hf h hs

end Go.Vm.Mo

namespace Go.Vm.Mo
open Go
set_option linter.unusedVariables false
set_option linter.unusedSimpArgs false

/-- Nodes of a mode's shape. -/
theorem nodes_eq {m k : List Int} (hf : St.Fr m k) {p q : Int} (hq : 0 < q) {P : List Int} (hl : P.length = k.length) (hs : ∀ j, j < k.length → St.sgn (P.getD j 0) = St.sgn (V m k p q j)) (h0 : (St.top m k p q).f = 0) :
    (St.chg (St.gt P) P.length).1 = ((St.top m k p q).count : Int) := by
  rw [← St.chg_count hf hq, hl]
  have e1 : St.chg (St.gt P) k.length = St.chg (fun i => St.W m k p q (i + 1)) k.length := chg_congr _ fun i hi => by
    rw [show St.gt P i = P.getD i 0 from rfl, hs i hi]
    exact St.ev_sgn hf.top hq (by omega)
  have e2 : St.sgn (St.W m k p q (k.length + 1)) = 0 := by
    rw [← St.ev_sgn hf.top hq (Nat.le_refl _), sgn_zero]
    exact (ev_top hf hq).2 h0
  simp only [St.chg]
  rw [e1, e2]
  simp

theorem f29_eq (P : List Int) (h : P.length ≤ 60) : f29 (P, ()) = some ((St.chg (St.gt P) P.length).1, (0, ())) := by
  have e := f66_eq P (by omega)
  have c : (!leF (P.length : Int) (60 : Int)) = false := by rw [leF_eq]; simp; omega
  simp only [f29, t29, c, g66, e, Option.isSome_some, Option.getD_some, Tr.val_test, Tr.val_fin, Tr.val_stop, Bool.false_eq_true, if_true, if_false]

theorem f5_eq (m k : List Int) (p q : Int) (a b : List Int) (hp : p.natAbs ≤ 9223372036854775808) (hq : -9223372036854775808 ≤ q ∧ q ≤ 9223372036854775807) : f5 ((m, (k, ())), ((p, (q, ())), ((a, (b, ())), ()))) = some (true, ()) := by
  have e1 := f17_all m k
  by_cases h1 : (chkE m k).2 = 0
  rotate_left
  · have n1 : decide ((chkE m k).2 = 0) = false := decide_eq_false h1
    simp only [f5, t5, g17, e1, eqF_eq, n1, Option.isSome_some, Option.getD_some, Bool.not_false, Tr.val_test, Tr.val_fin, Tr.val_stop, ↓reduceIte]
  have hf := chkE_ok h1
  rw [h1] at e1
  have h4 := hf.top
  have lk := hf.len
  have h0 := hf.pos
  have e2 := f21_all p q hp hq
  by_cases h2 : sqE p q = 0
  rotate_left
  · have n2 : decide (sqE p q = 0) = false := decide_eq_false h2
    simp only [f5, t5, g17, e1, g21, e2, eqF_eq, n2, decide_true, Option.isSome_some, Option.getD_some, Bool.not_false, Bool.not_true, Bool.false_eq_true, Tr.val_test, Tr.val_fin, Tr.val_stop, ↓reduceIte]
  have hs := sqE_ok h2
  rw [h2] at e2
  have e3 := f27_eq m k a (by omega)
  by_cases h3 : laE m.length a = 0
  rotate_left
  · have n3 : decide (laE m.length a = 0) = false := decide_eq_false h3
    simp only [f5, t5, g17, e1, g21, e2, g27, e3, eqF_eq, n3, decide_true, Option.isSome_some, Option.getD_some, Bool.not_false, Bool.not_true, Bool.false_eq_true, Tr.val_test, Tr.val_fin, Tr.val_stop, ↓reduceIte]
  have ha : La k a := laE_ok (by rw [← lk]; exact h3)
  rw [h3] at e3
  have e4 := f27_eq m k b (by omega)
  by_cases h5 : laE m.length b = 0
  rotate_left
  · have n4 : decide (laE m.length b = 0) = false := decide_eq_false h5
    simp only [f5, t5, g17, e1, g21, e2, g27, e3, e4, eqF_eq, n4, decide_true, Option.isSome_some, Option.getD_some, Bool.not_false, Bool.not_true, Bool.false_eq_true, Tr.val_test, Tr.val_fin, Tr.val_stop, ↓reduceIte]
  have hb : La k b := laE_ok (by rw [← lk]; exact h5)
  rw [h5] at e4
  have e5 := f10_eq m k (by omega) (by omega)
  obtain ⟨D, P, e6, p1, p2, p3, p4⟩ := f28_ok hf hs
  have e7 := f23_ok hf hs
  have e8 := f22_ok hf hs
  have e9 := f30_eq P (by omega)
  have e10 := f29_eq P (by omega)
  have c1 : (!decide ((P.length : Int) = (m.length : Int))) = false := by rw [p1, lk]; simp
  have c2 : (!decide ((1 : Int) ≤ D)) = false := by simpa using p2
  have c3 : (true && decide ((0 : Int) < (P.length : Int))) = true := by rw [p1]; simp; omega
  have c4 : (!decide (P.getD 0 0 = D)) = false := by rw [p3]; simp
  have c5 : (!decide ((St.top m k p q).f = 0) == decide (St.sgn (V m k p q k.length) = 0)) = false := by
    have : decide ((St.top m k p q).f = 0) = decide (St.sgn (V m k p q k.length) = 0) := decide_eq_decide.2 (by
      rw [sgn_zero]
      exact (ev_top hf hs.pos).symm)
    rw [this]
    cases decide (St.sgn (V m k p q k.length) = 0) <;> rfl
  have l1 := l5_a hf ha hb
  have e11 := f27_eq m k (sumL a b k.length) (by omega)
  by_cases h6 : laE m.length (sumL a b k.length) = 0
  rotate_left
  · have n6 : decide (laE m.length (sumL a b k.length) = 0) = false := decide_eq_false h6
    by_cases hm : (St.top m k p q).f = 0
    · have nd := nodes_eq hf hs.pos p1 p4 hm
      rw [nd] at e10
      have dm : decide ((St.top m k p q).f = 0) = true := decide_eq_true hm
      rw [dm] at c5 e7
      simp only [f5, t5, g17, e1, g21, e2, g27, e3, e4, g10, e5, g28, e6, g23, e7, g22, e8, g30, e9, g29, e10, c1, c2, c3, c4, c5, l1, isBrk, b5_0, outB, e11, n6, leF_eq, eqF_eq, decide_true, Option.isSome_some, Option.getD_some, Bool.not_false, Bool.not_true, Bool.false_eq_true, Tr.val_test, Tr.val_fin, Tr.val_stop, ↓reduceIte]
    · have dm : decide ((St.top m k p q).f = 0) = false := decide_eq_false hm
      rw [dm] at c5 e7
      simp only [f5, t5, g17, e1, g21, e2, g27, e3, e4, g10, e5, g28, e6, g23, e7, g22, e8, g30, e9, g29, e10, c1, c2, c3, c4, c5, l1, isBrk, b5_0, outB, e11, n6, leF_eq, eqF_eq, decide_true, Option.isSome_some, Option.getD_some, Bool.not_false, Bool.not_true, Bool.false_eq_true, Tr.val_test, Tr.val_fin, Tr.val_stop, ↓reduceIte]
  have hc : La k (sumL a b k.length) := laE_ok (by have := h6; rw [lk] at this; exact this)
  rw [h6] at e11
  have e12 := f30_eq a (by rw [ha.1]; omega)
  have e13 := f30_eq b (by rw [hb.1]; omega)
  have e14 := f31_ok hf ha
  have e15 := f31_ok hf hb
  have e16 := f31_ok hf hc
  have sa := sw_spec hf a
  have sb := sw_spec hf b
  have sc := sw_spec hf (sumL a b k.length)
  have e17 := f32_ok hf ha sa
  have e18 := f32_ok hf hb sb
  have e19 := f32_ok hf hc sc
  have e20 := f33_eq 0 (by decide)
  rw [vR_zero k] at e20
  have l2 := l5_b hf ha hb hc (fun i hi => sumL_at a b hi) sa sb sc
  rw [betti k a b] at l2
  simp only [en4] at l2
  have eR : ∀ r : Rat, (((encR r).1.1, ((encR r).1.2.1, ())), (((encR r).2.1.1, ((encR r).2.1.2.1, ())), ())) = encR r := fun _ => rfl
  have bl := bS_le hf hb ha k.length (Nat.le_refl _)
  have e21 := f35_eq (vR k (bS k b a k.length)) (vR k (bS k b a k.length)) (vR_size hf (by omega)) (vR_size hf (by omega))
  rw [Int.sub_self, Int.sign_zero] at e21
  by_cases hm : (St.top m k p q).f = 0
  · have nd := nodes_eq hf hs.pos p1 p4 hm
    rw [nd] at e10
    have dm : decide ((St.top m k p q).f = 0) = true := decide_eq_true hm
    rw [dm] at c5 e7
    simp only [f5, t5, g17, e1, g21, e2, g27, e3, e4, g10, e5, g28, e6, g23, e7, g22, e8, g30, e9, g29, e10, c1, c2, c3, c4, c5, l1, isBrk, isRet, b5_0, outB, e11, e12, e13, g31, e14, e15, e16, g32, e17, e18, e19, g33, e20, l2, b5_2, eR, g35, e21, leF_eq, eqF_eq, decide_true, Option.isSome_some, Option.getD_some, Bool.not_false, Bool.not_true, Bool.false_eq_true, Tr.val_test, Tr.val_fin, Tr.val_stop, ↓reduceIte]
  · have dm : decide ((St.top m k p q).f = 0) = false := decide_eq_false hm
    rw [dm] at c5 e7
    simp only [f5, t5, g17, e1, g21, e2, g27, e3, e4, g10, e5, g28, e6, g23, e7, g22, e8, g30, e9, g29, e10, c1, c2, c3, c4, c5, l1, isBrk, isRet, b5_0, outB, e11, e12, e13, g31, e14, e15, e16, g32, e17, e18, e19, g33, e20, l2, b5_2, eR, g35, e21, leF_eq, eqF_eq, decide_true, Option.isSome_some, Option.getD_some, Bool.not_false, Bool.not_true, Bool.false_eq_true, Tr.val_test, Tr.val_fin, Tr.val_stop, ↓reduceIte]

theorem law5 (d : Tys.data as5) (hw : Tys.Wf as5 d) : Pure1 Go.Proofs.Try.prog 5 as5 [.bool] d (true, ()) := by
  have w1 : (-9223372036854775808 : Int) ≤ d.2.1.1 ∧ d.2.1.1 ≤ (9223372036854775807 : Int) := hw.2.1.1
  have w2 : (-9223372036854775808 : Int) ≤ d.2.1.2.1 ∧ d.2.1.2.1 ≤ (9223372036854775807 : Int) := hw.2.1.2.1
  have nb : ∀ x : Int, -9223372036854775808 ≤ x ∧ x ≤ 9223372036854775807 → x.natAbs ≤ 9223372036854775808 := fun x hx => by omega
  have h := f5_eq d.1.1 d.1.2.1 d.2.1.1 d.2.1.2.1 d.2.2.1.1 d.2.2.1.2.1 (nb _ w1) w2
  have hp : p5.pre d = true := by
    show Option.isSome (f5 d) = true
    rw [show f5 d = some (true, ()) from h]; rfl
  have hg : p5.fn d = (true, ()) := by
    show (f5 d).getD _ = _
    rw [show f5 d = some (true, ()) from h]; rfl
  have := ok5.runs d hp
  rw [hg] at this
  exact this

end Go.Vm.Mo
