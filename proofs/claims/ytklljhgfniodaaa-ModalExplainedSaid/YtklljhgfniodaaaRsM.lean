import Derived.Test.YtklljhgfniodaaaRsFb
import Derived.Test.YtklljhgfniodaaaA4
import Derived.Test.YtklljhgfniodaaaRsS
set_option linter.unusedVariables false
set_option linter.unusedSimpArgs false

namespace Go.Vm.Mo
open Go
set_option linter.unusedVariables false
set_option linter.unusedSimpArgs false

theorem i64_wrap (n : Int) : IntKind.wrap .i64 n = wrap64 n := (wrap64_eq n).symm

theorem wr_abs {n : Int} (h : n.natAbs ≤ 9223372036854775807) : wrap64 n = n := wrap64_id (by omega) (by omega)

theorem f110_eq (x : Int) : f110 (x, ()) = some (St.sgn x, ()) := by
  simp only [f110, t110, Tr.val_test, Tr.val_fin, leF_eq, St.sgn]
  by_cases h1 : x < 0
  · rw [if_pos (by simpa using h1), if_pos h1]
  · rw [if_neg (by simpa using h1), if_neg h1]
    by_cases h2 : 0 < x
    · rw [if_pos (by simpa using h2), if_pos h2]
    · rw [if_neg (by simpa using h2), if_neg h2]

theorem sgn_abs (x : Int) : -1 ≤ St.sgn x ∧ St.sgn x ≤ 1 := by unfold St.sgn; split <;> (try split) <;> decide

theorem chg_two (v : Nat → Int) : ∀ n, -1 ≤ (St.chg v n).2 ∧ (St.chg v n).2 ≤ 1 ∧ 0 ≤ (St.chg v n).1 ∧ (St.chg v n).1 ≤ (n : Int)
  | 0 => by simp [St.chg]
  | n + 1 => by
    obtain ⟨h1, h2, h3, h4⟩ := chg_two v n
    have hs := sgn_abs (v n)
    simp only [St.chg]
    refine ⟨?_, ?_, ?_, ?_⟩ <;> split <;> omega

theorem chg_congr {v w : Nat → Int} : ∀ n, (∀ i, i < n → St.sgn (v i) = St.sgn (w i)) → St.chg v n = St.chg w n
  | 0, _ => rfl
  | n + 1, h => by simp only [St.chg]; rw [chg_congr n (fun i hi => h i (by omega)), h n (by omega)]

theorem l81_eq (l : List Int) (h : l.length ≤ 1000000) : l81_0 (((0 : Int), ((0 : Int), (l, ((l.length : Int), ((0 : Int), ()))))), ()) = some (.inl (((St.chg (St.gt l) l.length).1, ()), ())) := by
  refine itr_brk (step := s81_0) (fun i => (((St.chg (St.gt l) i).1, ((St.chg (St.gt l) i).2, (l, ((l.length : Int), ((i : Int), ()))))), ())) (n := l.length) ?_ ?_ (lt_rounds (by omega))
  · intro i hi
    obtain ⟨h1, h2, h3, h4⟩ := chg_two (St.gt l) i
    have hs := sgn_abs (St.gt l i)
    have e : l.getD i 0 = St.gt l i := rfl
    simp only [s81_0, t81_0, Tr.val_test, Tr.val_fin, Tr.val_stop, leF_eq, eqF_eq, g110, Int.toNat_natCast, e, f110_eq (St.gt l i), Option.isSome_some, Option.getD_some, if_true]
    rw [if_pos (by simp; omega), if_pos (by simp; omega), wrap64_nat (by omega), St.chg]
    generalize hc : St.chg (St.gt l) i = c at *
    generalize hg : St.gt l i = x at *
    have hm : wrap64 (St.sgn x * c.2) = St.sgn x * c.2 := by
      rcases (show St.sgn x = -1 ∨ St.sgn x = 0 ∨ St.sgn x = 1 by omega) with e | e | e <;> rw [e] <;> exact wrap64_id (by omega) (by omega)
    rw [hm, wrap64_id (n := c.1 + 1) (by omega) (by omega)]
    by_cases c1 : St.sgn x * c.2 < 0
    · rw [if_pos (by simpa using c1)]
      by_cases c2 : St.sgn x = 0
      · rw [if_neg (by simpa using c2), if_pos c1, if_neg (by simpa using c2)]
      · rw [if_pos (by simpa using c2), if_pos c1, if_pos c2]
    · rw [if_neg (by simpa using c1)]
      by_cases c2 : St.sgn x = 0
      · rw [if_neg (by simpa using c2), if_neg c1, if_neg (by simpa using c2)]
      · rw [if_pos (by simpa using c2), if_neg c1, if_pos c2]
  · simp [s81_0, t81_0, leF_eq]

theorem f81_eq (l : List Int) (h : l.length ≤ 1000000) : f81 (l, ()) = some ((St.chg (St.gt l) l.length).1, ()) := by
  have e := l81_eq l h
  simp only [f81, t81, b81_0, e, isBrk, outB, Tr.val_test, Tr.val_fin, if_true]

theorem f92_eq {m k : List Int} (hf : St.Fr m k) {i : Nat} (hi : i < k.length) : f92 (((m, (k, ())), ()), ((i : Int), ())) = some (St.stf k i, ()) := by
  have h4 := hf.top
  have h1 := hf.spring i hi
  simp only [f92, t92, Tr.val_test, Tr.val_fin, Tr.val_stop, eqF_eq, wrap64_nat (show i ≤ 9223372036854775806 by omega), Int.toNat_natCast]
  unfold St.stf
  by_cases c : i + 1 = k.length
  · rw [if_pos (by simp; omega), if_pos (by simp; omega), if_pos c]
    rfl
  · have h2 := hf.spring (i + 1) (by omega)
    rw [if_neg (by simp; omega), if_pos (by simp; omega), if_pos (by simp; omega), if_neg c]
    rw [show k.getD i 0 = St.gt k i from rfl, show k.getD (i + 1) 0 = St.gt k (i + 1) from rfl, wr_abs (by omega)]

/-- A determinant as it lies in memory. -/
def pd (m k : List Int) (j : Nat) : Int × Int × Int × Int × Int × Unit := (St.Dc m k j 0, St.Dc m k j 1, St.Dc m k j 2, St.Dc m k j 3, St.Dc m k j 4, ())

theorem f111_eq (c : Nat → Int) (p q : Int) : f111 ((c 0, (c 1, (c 2, (c 3, (c 4, ()))))), ((p, (q, ())), ())) = some (wrap64 (St.ev c p q), ()) := by
  simp only [f111, t111, Tr.val_fin, wrap64_add_l, wrap64_add_r, wrap64_mul_l, wrap64_mul_r]
  refine congrArg some (Prod.ext ?_ rfl)
  refine congrArg wrap64 ?_
  simp only [St.ev]
  grind

theorem f91_eq (c0 c1 c2 c3 c4 x y : Int) (hx : x.natAbs ≤ 1000) (hy : y.natAbs ≤ 1000) (h0 : c0.natAbs ≤ 100000000) (h1 : c1.natAbs ≤ 100000000) (h2 : c2.natAbs ≤ 100000000) (h3 : c3.natAbs ≤ 100000000) (h4 : c4.natAbs ≤ 100000000) :
    f91 ((c0, (c1, (c2, (c3, (c4, ()))))), (x, (y, ()))) = some ((x * c0, (x * c1 + y * c0, (x * c2 + y * c1, (x * c3 + y * c2, (x * c4 + y * c3, ()))))), ()) := by
  have mb : ∀ a c : Int, a.natAbs ≤ 1000 → c.natAbs ≤ 100000000 → (a * c).natAbs ≤ 100000000000 := by
    intro a c ha hc
    rw [Int.natAbs_mul]
    exact Nat.mul_le_mul ha hc
  have a0 := mb x c0 hx h0
  have a1 := mb x c1 hx h1
  have a2 := mb x c2 hx h2
  have a3 := mb x c3 hx h3
  have a4 := mb x c4 hx h4
  have b0 := mb y c0 hy h0
  have b1 := mb y c1 hy h1
  have b2 := mb y c2 hy h2
  have b3 := mb y c3 hy h3
  simp only [f91, t91, Tr.val_fin, wrap64_add_l, wrap64_add_r, wrap64_wrap64, Int.mul_zero, Int.add_zero]
  rw [wr_abs (n := x * c0) (by omega), wr_abs (n := x * c1 + y * c0) (by omega), wr_abs (n := x * c2 + y * c1) (by omega), wr_abs (n := x * c3 + y * c2) (by omega), wr_abs (n := x * c4 + y * c3) (by omega)]

theorem f93_eq (a0 a1 a2 a3 a4 c0 c1 c2 c3 c4 : Int) (k0 : a0.natAbs ≤ 1000000000000) (k1 : a1.natAbs ≤ 1000000000000) (k2 : a2.natAbs ≤ 1000000000000) (k3 : a3.natAbs ≤ 1000000000000) (k4 : a4.natAbs ≤ 1000000000000)
    (h0 : c0.natAbs ≤ 1000000000000) (h1 : c1.natAbs ≤ 1000000000000) (h2 : c2.natAbs ≤ 1000000000000) (h3 : c3.natAbs ≤ 1000000000000) (h4 : c4.natAbs ≤ 1000000000000) :
    f93 ((a0, (a1, (a2, (a3, (a4, ()))))), ((c0, (c1, (c2, (c3, (c4, ()))))), ())) = some ((a0 - c0, (a1 - c1, (a2 - c2, (a3 - c3, (a4 - c4, ()))))), ()) := by
  have sb : ∀ a c : Int, a.natAbs ≤ 1000000000000 → c.natAbs ≤ 1000000000000 → wrap64 (a - c) = a - c := by
    intro a c ha hc
    exact wr_abs (by omega)
  simp only [f93, t93, Tr.val_fin]
  rw [sb _ _ k0 h0, sb _ _ k1 h1, sb _ _ k2 h2, sb _ _ k3 h3, sb _ _ k4 h4]

theorem pd_le {m k : List Int} (hf : St.Fr m k) {i : Nat} (hi : i ≤ k.length) (c : Nat) : (St.Dc m k (i + 1) c).natAbs ≤ 24010000 ∧ (St.Dc m k i c).natAbs ≤ 24010000 := by
  obtain ⟨h1, h2⟩ := St.Dc_le hf i hi c
  have h4 := hf.top
  have h3 : 70 ^ i ≤ 70 ^ 4 := Nat.pow_le_pow_right (by decide) (by omega)
  have e : 70 ^ 4 = 24010000 := rfl
  omega

theorem m_neg {m k : List Int} (hf : St.Fr m k) {i : Nat} (hi : i < k.length) : IntKind.wrap .i64 (0 - m.getD i 0) = -(St.gt m i) := by
  have h := hf.mass i hi
  rw [i64_wrap, show m.getD i 0 = St.gt m i from rfl, wr_abs (by omega), Int.zero_sub]

theorem k_sq {m k : List Int} (hf : St.Fr m k) {i : Nat} (hi : i < k.length) : wrap64 (k.getD i 0 * k.getD i 0) = St.gt k i * St.gt k i ∧ (St.gt k i * St.gt k i).natAbs ≤ 1000 := by
  have h := hf.spring i hi
  have e : (St.gt k i * St.gt k i).natAbs ≤ 20 * 20 := by rw [Int.natAbs_mul]; exact Nat.mul_le_mul (by omega) (by omega)
  refine ⟨?_, by omega⟩
  rw [show k.getD i 0 = St.gt k i from rfl, wr_abs (by omega)]

/-- The first product. -/
def pA (m k : List Int) (i : Nat) : Int × Int × Int × Int × Int × Unit :=
  (St.stf k i * St.Dc m k (i + 1) 0, (St.stf k i * St.Dc m k (i + 1) 1 + -(St.gt m i) * St.Dc m k (i + 1) 0, (St.stf k i * St.Dc m k (i + 1) 2 + -(St.gt m i) * St.Dc m k (i + 1) 1, (St.stf k i * St.Dc m k (i + 1) 3 + -(St.gt m i) * St.Dc m k (i + 1) 2, (St.stf k i * St.Dc m k (i + 1) 4 + -(St.gt m i) * St.Dc m k (i + 1) 3, ())))))

/-- The second one. -/
def pB (m k : List Int) (i : Nat) : Int × Int × Int × Int × Int × Unit :=
  (St.gt k i * St.gt k i * St.Dc m k i 0, (St.gt k i * St.gt k i * St.Dc m k i 1 + 0 * St.Dc m k i 0, (St.gt k i * St.gt k i * St.Dc m k i 2 + 0 * St.Dc m k i 1, (St.gt k i * St.gt k i * St.Dc m k i 3 + 0 * St.Dc m k i 2, (St.gt k i * St.gt k i * St.Dc m k i 4 + 0 * St.Dc m k i 3, ())))))

theorem q91a {m k : List Int} (hf : St.Fr m k) {i : Nat} (hi : i < k.length) : f91 (pd m k (i + 1), (St.stf k i, (-(St.gt m i), ()))) = some (pA m k i, ()) := by
  have hs := St.stf_le hf hi
  have hm := hf.mass i hi
  exact f91_eq _ _ _ _ _ _ _ (by omega) (by omega) (by have := (pd_le hf (Nat.le_of_lt hi) 0).1; omega) (by have := (pd_le hf (Nat.le_of_lt hi) 1).1; omega) (by have := (pd_le hf (Nat.le_of_lt hi) 2).1; omega) (by have := (pd_le hf (Nat.le_of_lt hi) 3).1; omega) (by have := (pd_le hf (Nat.le_of_lt hi) 4).1; omega)

theorem q91b {m k : List Int} (hf : St.Fr m k) {i : Nat} (hi : i < k.length) : f91 (pd m k i, (St.gt k i * St.gt k i, ((0 : Int), ()))) = some (pB m k i, ()) := by
  have hk := (k_sq hf hi).2
  exact f91_eq _ _ _ _ _ _ _ hk (by decide) (by have := (pd_le hf (Nat.le_of_lt hi) 0).2; omega) (by have := (pd_le hf (Nat.le_of_lt hi) 1).2; omega) (by have := (pd_le hf (Nat.le_of_lt hi) 2).2; omega) (by have := (pd_le hf (Nat.le_of_lt hi) 3).2; omega) (by have := (pd_le hf (Nat.le_of_lt hi) 4).2; omega)

theorem q93 {m k : List Int} (hf : St.Fr m k) {i : Nat} (hi : i < k.length) : f93 (pA m k i, (pB m k i, ())) = some (pd m k (i + 2), ()) := by
  have hs := St.stf_le hf hi
  have hm := hf.mass i hi
  have hk := (k_sq hf hi).2
  have mb : ∀ a c : Int, a.natAbs ≤ 1000 → c.natAbs ≤ 24010000 → (a * c).natAbs ≤ 24010000000 := by
    intro a c ha hc
    rw [Int.natAbs_mul]
    exact Nat.mul_le_mul ha hc
  have a := fun c => mb (St.stf k i) (St.Dc m k (i + 1) c) (by omega) (pd_le hf (Nat.le_of_lt hi) c).1
  have b := fun c => mb (-(St.gt m i)) (St.Dc m k (i + 1) c) (by omega) (pd_le hf (Nat.le_of_lt hi) c).1
  have c := fun c => mb (St.gt k i * St.gt k i) (St.Dc m k i c) hk (pd_le hf (Nat.le_of_lt hi) c).2
  have ab : ∀ u v : Int, u.natAbs ≤ 24010000000 → v.natAbs ≤ 24010000000 → (u + v).natAbs ≤ 1000000000000 := by
    intro u v hu hv
    omega
  have az : ∀ u v : Int, u.natAbs ≤ 24010000000 → (u + 0 * v).natAbs ≤ 1000000000000 := by
    intro u v hu
    rw [Int.zero_mul, Int.add_zero]
    omega
  have e := f93_eq (pA m k i).1 (pA m k i).2.1 (pA m k i).2.2.1 (pA m k i).2.2.2.1 (pA m k i).2.2.2.2.1 (pB m k i).1 (pB m k i).2.1 (pB m k i).2.2.1 (pB m k i).2.2.2.1 (pB m k i).2.2.2.2.1
    (Nat.le_trans (a 0) (by decide)) (ab _ _ (a 1) (b 0)) (ab _ _ (a 2) (b 1)) (ab _ _ (a 3) (b 2)) (ab _ _ (a 4) (b 3))
    (Nat.le_trans (c 0) (by decide)) (az _ _ (c 1)) (az _ _ (c 2)) (az _ _ (c 3)) (az _ _ (c 4))
  refine e.trans ?_
  simp only [pA, pB, pd, St.Dc, Int.zero_mul, Int.add_zero, Int.neg_mul, Int.sub_eq_add_neg]

/-- The values of the first n determinants. -/
def vals (m k : List Int) (p q : Int) (n : Nat) : List Int := (List.range n).map fun i => St.ev (St.Dc m k (i + 1)) p q

theorem vals_len (m k : List Int) (p q : Int) (n : Nat) : (vals m k p q n).length = n := by simp [vals]

theorem vals_succ (m k : List Int) (p q : Int) (n : Nat) : vals m k p q n ++ [St.ev (St.Dc m k (n + 1)) p q] = vals m k p q (n + 1) := by
  simp [vals, List.range_succ]

theorem vals_at (m k : List Int) (p q : Int) {n i : Nat} (h : i < n) : St.gt (vals m k p q n) i = St.ev (St.Dc m k (i + 1)) p q := by
  simp [St.gt, vals, List.getD_eq_getElem?_getD, h]

theorem q111 {m k : List Int} (hf : St.Fr m k) {p q : Int} (hq : 0 < q) (hb : St.bd p q ≤ 42500) {j : Nat} (hj : j ≤ k.length) : f111 (pd m k (j + 1), ((p, (q, ())), ())) = some (St.ev (St.Dc m k (j + 1)) p q, ()) := by
  have e := f111_eq (St.Dc m k (j + 1)) p q
  have h := St.ev_le hf hq hb hj
  rw [wr_abs (Nat.le_trans h (by decide))] at e
  exact e

theorem l90_eq {m k : List Int} (hf : St.Fr m k) {p q : Int} (hq : 0 < q) (hb : St.bd p q ≤ 42500) :
    l90_0 ((m, ((m.length : Int), ((0 : Int), ()))), ((), ((m, (k, ())), (pd m k 0, (pd m k 1, ((p, (q, ())), (([], ()), ()))))))) =
      some (.inl ((), ((), ((m, (k, ())), (pd m k k.length, (pd m k (k.length + 1), ((p, (q, ())), ((vals m k p q k.length, ()), ())))))))) := by
  have h4 := hf.top
  have hl := hf.len
  refine itr_brk (step := s90_0) (fun i => ((m, ((m.length : Int), ((i : Int), ()))), ((), ((m, (k, ())), (pd m k i, (pd m k (i + 1), ((p, (q, ())), ((vals m k p q i, ()), ())))))))) (n := k.length) ?_ ?_ (lt_rounds (by omega))
  · intro i hi
    have e1 := q111 hf hq hb (j := i) (by omega)
    have e2 := f92_eq hf hi
    have e3 := m_neg hf hi
    have e4 := (k_sq hf hi).1
    have e5 := q91a hf hi
    have e6 := q91b hf hi
    have e7 := q93 hf hi
    simp only [pd, pA, pB] at e1 e5 e6 e7
    simp only [s90_0, t90_0, pd, Int.toNat_natCast, e3, e4, g92, e2, g91, g111, e1, Option.getD_some, Option.isSome_some, e5, e6, g93, e7, Tr.val_test, Tr.val_fin, Tr.val_stop, leF_eq, if_true, wrap64_nat (show i ≤ 9223372036854775806 by omega), vals_succ, vals_len]
    rw [if_pos (by simp; omega), if_pos (by simp; omega), if_pos (by simp [Nat.ble_eq]; omega), if_pos (by simp; omega)]
  · simp only [s90_0, t90_0, Tr.val_test, Tr.val_fin, Tr.val_stop, leF_eq]
    rw [if_neg (by simp; omega)]

theorem f82_eq {m k : List Int} (hf : St.Fr m k) {p q : Int} (hq : 0 < q) (hb : St.bd p q ≤ 42500) : f82 (((m, (k, ())), ()), ((p, (q, ())), ())) = some (vals m k p q (k.length + 1), ()) := by
  have h4 := hf.top
  have e := l90_eq hf hq hb
  have e0 : pd m k 0 = ((0 : Int), ((0 : Int), ((0 : Int), ((0 : Int), ((0 : Int), ()))))) := rfl
  have e1 : pd m k 1 = ((1 : Int), ((0 : Int), ((0 : Int), ((0 : Int), ((0 : Int), ()))))) := rfl
  rw [e0, e1] at e
  have e2 := q111 hf hq hb (j := k.length) (Nat.le_refl _)
  simp only [pd] at e2
  simp only [f82, t82, b90_0, e, isBrk, outB, pd, g111, e2, Option.isSome_some, Option.getD_some, Tr.val_test, Tr.val_fin, Tr.val_stop, if_true, vals_succ, vals_len]
  rw [if_pos (by simp [Nat.ble_eq]; omega)]

theorem first_map (bad : Nat → Bool) : ∀ (n i : Nat), first bad n (i + 1) = (first (fun k => bad (k + 1)) n i).map (· + 1)
  | 0, _ => rfl
  | n + 1, i => by
    simp only [first]
    split
    · rfl
    · exact first_map bad n (i + 1)

/-- The first that is not 0. -/
def firstNZ : List Int → Int
  | [] => 0
  | a :: l => if a = 0 then firstNZ l else a

theorem firstNZ_eq : ∀ l : List Int, (match first (fun i => !decide (l.getD i 0 = 0)) l.length 0 with
    | some k => l.getD k 0
    | none => 0) = firstNZ l
  | [] => rfl
  | a :: l => by
    simp only [List.length, first, firstNZ]
    by_cases ha : a = 0
    · subst ha
      have e := firstNZ_eq l
      have hf : first (fun i => !decide (((0 : Int) :: l).getD i 0 = 0)) l.length (0 + 1) = (first (fun i => !decide (l.getD i 0 = 0)) l.length 0).map (· + 1) := by
        rw [first_map]; rfl
      simp only [hf, List.getD_cons_zero, decide_true, Bool.not_true, Bool.false_eq_true, if_false, if_true]
      rw [← e]
      cases first (fun i => !decide (l.getD i 0 = 0)) l.length 0 with
      | none => rfl
      | some k => rfl
    · simp [ha]

theorem l72 (l : List Int) (h : l.length ≤ 1000000000) : l72_0 ((l, (l.length : Int), (0 : Int), ()), ()) = match first (fun i => !decide (l.getD i 0 = 0)) l.length 0 with
    | some k => some (.inr ((l.getD k 0, ()), ()))
    | none => some (.inl ((), ())) := by
  refine itr_search (fun i => ((l, (l.length : Int), (i : Int), ()), ())) (fun i => !decide (l.getD i 0 = 0)) (fun k => ((l.getD k 0, ()), ())) (n := l.length) ?_ ?_ (lt_rounds (by omega))
  · intro i hi
    simp only [s72_0, t72_0, Tr.val_test, leF_eq, eqF_eq]
    rw [if_pos (by simp; omega), if_pos (by simp; omega)]
    simp only [Int.toNat_natCast, wrap64_nat (show i ≤ 9223372036854775806 by omega)]
    rfl
  · simp [s72_0, t72_0, leF_eq]

theorem f72_eq (l : List Int) (h : l.length ≤ 1000000000) : f72 (l, ()) = some (firstNZ l, ()) := by
  simp only [f72, t72, Tr.val_test, r72_0, l72 l h, ← firstNZ_eq l]
  cases first (fun i => !decide (l.getD i 0 = 0)) l.length 0 with
  | none => rfl
  | some k => rfl

theorem f52_eq (d : Tys.data as52) : f52 d = some (if d.1 = true then d.2.1 else (0 : Int), ()) := by
  simp only [f52, t52, Tr.val_test]
  split <;> rfl

def wi (lo hi x : Int) : Bool := decide (lo ≤ x) && decide (x ≤ hi)

theorem wi_iff {lo hi x : Int} : wi lo hi x = true ↔ lo ≤ x ∧ x ≤ hi := by simp [wi]

theorem f21_eq (d : Tys.data as21) : f21 d = some (wi d.2.1 d.2.2.1 d.1, ()) := by
  simp only [f21, t21, Tr.val_test, Tr.val_fin, leF_eq, decide_eq_true_eq, wi]
  split <;> simp [*]

theorem l51 (lo hi : Int) (l : List Int) (h : l.length ≤ 1000000000) : l51_0 ((lo, hi, l, (l.length : Int), (0 : Int), ()), ()) = match first (fun i => !wi lo hi (l.getD i 0)) l.length 0 with
    | some _ => some (.inr ((false, ()), ()))
    | none => some (.inl ((), ())) := by
  refine itr_search (fun i => ((lo, hi, l, (l.length : Int), (i : Int), ()), ())) (fun i => !wi lo hi (l.getD i 0)) (fun _ => ((false, ()), ())) (n := l.length) ?_ ?_ (lt_rounds (by omega))
  · intro i hi'
    simp only [s51_0, t51_0, Tr.val_test, Tr.val_fin, leF_eq, Int.toNat_natCast, wrap64_nat (show i ≤ 9223372036854775806 by omega)]
    rw [if_pos (by simp; omega), if_pos (by simp; omega)]
    by_cases a0 : lo ≤ l.getD i 0
    · by_cases a1 : l.getD i 0 ≤ hi
      · simp only [wi, a0, a1, decide_true, Bool.and_self, Bool.not_true, if_true, if_false, Bool.false_eq_true]
      · simp only [wi, a0, a1, decide_true, decide_false, Bool.and_false, Bool.not_false, Bool.not_true, if_true, if_false, Bool.false_eq_true]
    · simp only [wi, a0, decide_false, Bool.false_and, Bool.not_false, if_true, if_false, Bool.false_eq_true]
  · simp [s51_0, t51_0, leF_eq]

theorem f51_eq (lo hi : Int) (l : List Int) (h : l.length ≤ 1000000000) : f51 (lo, hi, l, ()) = some ((first (fun i => !wi lo hi (l.getD i 0)) l.length 0).isNone, ()) := by
  have hl := l51 lo hi l h
  cases hf : first (fun i => !wi lo hi (l.getD i 0)) l.length 0 with
  | none =>
    rw [hf] at hl
    simp only [f51, t51, Tr.val_test, Tr.val_fin, hl, isRet, Option.isSome_some, Option.isNone_none, if_true, Bool.false_eq_true, if_false]
  | some k =>
    rw [hf] at hl
    simp only [f51, t51, Tr.val_test, Tr.val_fin, hl, isRet, r51_0, outR, Option.isSome_some, Option.isNone_some, if_true]

theorem f51_two (lo hi a b : Int) : f51 (lo, hi, [a, b], ()) = some (wi lo hi a && wi lo hi b, ()) := by
  rw [f51_eq lo hi _ (by simp)]
  simp only [first, List.length, List.getD_cons_zero, List.getD_cons_succ]
  by_cases h1 : wi lo hi a = true
  · by_cases h2 : wi lo hi b = true
    · simp [h1, h2]
    · simp [h1, h2]
  · simp [h1]

theorem f51_one (lo hi a : Int) : f51 (lo, hi, [a], ()) = some (wi lo hi a, ()) := by
  rw [f51_eq lo hi _ (by simp)]
  simp only [first, List.length, List.getD_cons_zero]
  by_cases h1 : wi lo hi a = true
  · simp [h1]
  · simp [h1]

theorem f106_eq (n m : Int) : f106 (n, m, ()) = some (if n = 0 then 10 else if ¬ n ≤ m then 8 else 0, ()) := by
  simp only [f106, t106, Tr.val_test, Tr.val_fin, g52, g72, f52_eq, Option.isSome_some, Option.getD_some, if_true]
  rw [f72_eq _ (by simp)]
  simp only [Option.isSome_some, Option.getD_some, if_true, eqF_eq, leF_eq, decide_eq_true_eq, Bool.not_eq_true', decide_eq_false_iff_not, firstNZ]
  by_cases h1 : n = 0
  · simp [h1]
  · by_cases h2 : n ≤ m
    · simp [h1, h2]
    · simp [h1, h2]

abbrev Rg := Int × Int × PUnit.{1}
def rAt (l : List Rg) (i : Nat) : Rg := l.getD i ((0 : Int), (0 : Int), ())

/-- The error of one range. -/
def rgE (lo hi : Int) (r : Rg) : Int := if wi lo hi r.1 = false then 2 else if wi lo hi r.2.1 = false then 2 else if ¬ r.1 ≤ r.2.1 then 9 else 0

def rsF (lo hi : Int) (l : List Rg) : Int := match first (fun i => !decide (rgE lo hi (rAt l i) = 0)) l.length 0 with
  | some k => rgE lo hi (rAt l k)
  | none => 0

theorem l104 (lo hi : Int) (l : List Rg) (h : l.length ≤ 1000000000) : l104_0 ((l, (l.length : Int), (0 : Int), ()), (lo, ()), (hi, ()), ()) = match first (fun i => !decide (rgE lo hi (rAt l i) = 0)) l.length 0 with
    | some k => some (.inr (((k : Int), rgE lo hi (rAt l k), ()), (lo, ()), (hi, ()), ()))
    | none => some (.inl ((), (lo, ()), (hi, ()), ())) := by
  refine itr_search (fun i => ((l, (l.length : Int), (i : Int), ()), (lo, ()), (hi, ()), ())) (fun i => !decide (rgE lo hi (rAt l i) = 0)) (fun k => (((k : Int), rgE lo hi (rAt l k), ()), (lo, ()), (hi, ()), ())) (n := l.length) ?_ ?_ (lt_rounds (by omega))
  · intro i hi'
    have e1 := f51_two lo hi (rAt l i).1 (rAt l i).2.1
    simp only [rAt] at e1
    simp only [s104_0, t104_0, Tr.val_test, Tr.val_fin, Tr.val_stop, leF_eq, eqF_eq, Int.toNat_natCast, wrap64_nat (show i ≤ 9223372036854775806 by omega)]
    rw [if_pos (by simp; omega), if_pos (by simp; omega)]
    simp only [g51, g52, g72, e1, f52_eq, Option.isSome_some, Option.getD_some, if_true]
    rw [f72_eq _ (by simp)]
    simp only [Option.isSome_some, Option.getD_some, if_true, firstNZ, rAt, rgE]
    by_cases a0 : wi lo hi (List.getD l i ((0 : Int), (0 : Int), ())).1 = true
    · by_cases a1 : wi lo hi (List.getD l i ((0 : Int), (0 : Int), ())).2.1 = true
      · by_cases a2 : (List.getD l i ((0 : Int), (0 : Int), ())).1 ≤ (List.getD l i ((0 : Int), (0 : Int), ())).2.1
        · simp only [a0, a1, a2]; simp
        · simp only [a0, a1, a2]; simp
      · simp only [a0, a1]; simp
    · simp only [a0]; simp
  · simp [s104_0, t104_0, leF_eq]

theorem f103_eq (lo hi : Int) (l : List Rg) (h : l.length ≤ 1000000000) : f103 (l, lo, hi, ()) = some (rsF lo hi l, ()) := by
  have hl := l104 lo hi l h
  unfold rsF
  cases hf : first (fun i => !decide (rgE lo hi (rAt l i) = 0)) l.length 0 with
  | none =>
    rw [hf] at hl
    simp only [f103, t103, Tr.val_test, Tr.val_fin, hl, isRet, Option.isSome_some, if_true, Bool.false_eq_true, if_false]
  | some k =>
    rw [hf] at hl
    simp only [f103, t103, Tr.val_test, Tr.val_fin, hl, isRet, r104_0, outR, Option.isSome_some, if_true]

/-- The error of ranges. -/
def rsE (l : List Rg) : Int := if l.length = 0 then 10 else if 12 < l.length then 8 else rsF (-1000000000) 1000000000 l

theorem f73_eq (l : List Rg) (h : l.length ≤ 1000000000) : f73 (l, ()) = some (rsE l, ()) := by
  have e0 := f106_eq (l.length : Int) 12
  have e1 := f103_eq (-1000000000) 1000000000 l h
  simp only [f73, t73, Tr.val_test, Tr.val_fin, g106, g103, e0, e1, Option.isSome_some, Option.getD_some, if_true, eqF_eq, rsE]
  by_cases h1 : l.length = 0
  · simp [h1]
  · by_cases h2 : 12 < l.length
    · have : ¬ (l.length : Int) = 0 := by omega
      have : ¬ (l.length : Int) ≤ 12 := by omega
      simp [*]
    · have : ¬ (l.length : Int) = 0 := by omega
      have : (l.length : Int) ≤ 12 := by omega
      simp [*]

def mx (a b : Int) : Int := if a < b then b else a
def mn (a b : Int) : Int := if b < a then b else a
def cut (a : Int × Int) (r : Rg) : Int × Int := (mx a.1 r.1, mn a.2 r.2.1)
def cuts (a : Int × Int) (l : List Rg) : Int × Int := l.foldl cut a

theorem take_rAt (l : List Rg) {i : Nat} (h : i < l.length) : l.take (i + 1) = l.take i ++ [rAt l i] := by
  rw [List.take_succ_eq_append_getElem h]
  simp [rAt, List.getD, h]

theorem cuts_succ (a : Int × Int) (l : List Rg) {i : Nat} (h : i < l.length) : cuts a (l.take (i + 1)) = cut (cuts a (l.take i)) (rAt l i) := by
  rw [take_rAt l h, cuts, List.foldl_append]; rfl

theorem l74 (a b : Int) (l : List Rg) (h : l.length ≤ 1000000000) : l74_0 ((l, (l.length : Int), (0 : Int), ()), ((0 : Int), (0 : Int), ()), (a, b, ()), ()) = some (.inl ((), ((0 : Int), (0 : Int), ()), ((cuts (a, b) l).1, (cuts (a, b) l).2, ()), ())) := by
  have := itr_brk (step := s74_0) (fun i => ((l, (l.length : Int), (i : Int), ()), ((0 : Int), (0 : Int), ()), ((cuts (a, b) (l.take i)).1, (cuts (a, b) (l.take i)).2, ()), ())) (n := l.length) (m := rounds) (b := ((), ((0 : Int), (0 : Int), ()), ((cuts (a, b) l).1, (cuts (a, b) l).2, ()), ())) ?_ ?_ (lt_rounds (by omega))
  · exact this
  · intro i hi
    simp only [s74_0, t74_0, Tr.val_test, Tr.val_fin, leF_eq, Int.toNat_natCast, wrap64_nat (show i ≤ 9223372036854775806 by omega)]
    rw [if_pos (by simp; omega), if_pos (by simp; omega)]
    rw [cuts_succ (a, b) l hi]
    rfl
  · simp [s74_0, t74_0, leF_eq]

theorem f74_eq (a b : Int) (l : List Rg) (h : l.length ≤ 1000000000) : f74 ((a, b, ()), l, ()) = some (((cuts (a, b) l).1, (cuts (a, b) l).2, ()), decide ((cuts (a, b) l).1 ≤ (cuts (a, b) l).2), ()) := by
  simp only [f74, t74, Tr.val_test, Tr.val_fin, b74_0, l74 a b l h, isBrk, outB, if_true]

def meetB (a r : Rg) : Bool := decide (mx a.1 r.1 ≤ mn a.2.1 r.2.1)

theorem f74_one (a r : Rg) : f74 ((a.1, a.2.1, ()), [(r.1, r.2.1, ())], ()) = some ((mx a.1 r.1, mn a.2.1 r.2.1, ()), meetB a r, ()) := f74_eq a.1 a.2.1 [(r.1, r.2.1, ())] (by simp)

/-! Damaged modes. -/

def dam (a b : List Rg) : Nat → List Int
  | 0 => []
  | i + 1 => if meetB (rAt a i) (rAt b i) = true then dam a b i else dam a b i ++ [(i : Int)]

theorem dam_len (a b : List Rg) : ∀ i, (dam a b i).length ≤ i
  | 0 => Nat.le_refl _
  | i + 1 => by
    have := dam_len a b i
    simp only [dam]
    split
    · omega
    · simp; omega

theorem q40_0 (a b : List Rg) (h : a.length ≤ 1000) (hb : a.length ≤ b.length) : l40_0 ((b, [], a, (a.length : Int), (0 : Int), ()), ()) = some (.inl ((dam a b a.length, ()), ())) := by
  have := itr_brk (step := s40_0) (fun i => ((b, dam a b i, a, (a.length : Int), (i : Int), ()), ())) (n := a.length) (m := rounds) (b := ((dam a b a.length, ()), ())) ?_ ?_ (lt_rounds (by omega))
  · exact this
  · intro i hi
    have e1 := f74_one (rAt a i) (rAt b i)
    have hl := dam_len a b i
    simp only [s40_0, t40_0, Tr.val_test, Tr.val_fin, Tr.val_stop, leF_eq, Int.toNat_natCast, wrap64_nat (show i ≤ 9223372036854775806 by omega)]
    rw [if_pos (by simp; omega), if_pos (by simp; omega), if_pos (by simp; omega)]
    change (if Option.isSome (f74 (((rAt a i).1, (rAt a i).2.1, ()), [((rAt b i).1, (rAt b i).2.1, ())], ())) = true then (if (!(g74 (((rAt a i).1, (rAt a i).2.1, ()), [((rAt b i).1, (rAt b i).2.1, ())], ())).2.1) = true then _ else _) else _) = _
    simp only [g74, e1, Option.isSome_some, Option.getD_some, if_true, dam]
    cases hm : meetB (rAt a i) (rAt b i) with
    | true => rfl
    | false =>
      simp only [Bool.not_false, if_true, Bool.false_eq_true, if_false]
      rw [if_pos (by simp only [Bool.and_eq_true, ble_eq_true']; omega)]
  · simp [s40_0, t40_0, leF_eq]

def dmE (a b : List Rg) : Int := firstNZ [rsE a, rsE b, if a.length = b.length then 0 else 13]

theorem f40_eq (a b : List Rg) (ha : a.length ≤ 1000) (hb : b.length ≤ 1000) : f40 (a, b, ()) = some (if dmE a b ≠ 0 then (([] : List Int), dmE a b, ()) else (dam a b a.length, (0 : Int), ())) := by
  have e1 := f73_eq a (by omega)
  have e2 := f73_eq b (by omega)
  have e3 := f52_eq (!eqF (a.length : Int) (b.length : Int), (13 : Int), ())
  have e3' : (if (!eqF (a.length : Int) (b.length : Int)) = true then (13 : Int) else 0) = if a.length = b.length then 0 else 13 := by
    rw [eqF_eq]
    by_cases h : a.length = b.length
    · simp [h]
    · have : ¬ (a.length : Int) = (b.length : Int) := by omega
      simp [h, this]
  simp only [e3'] at e3
  simp only [f40, t40, Tr.val_test, Tr.val_fin, Tr.val_stop, g73, g52, e1, e2, e3, Option.isSome_some, Option.getD_some, if_true]
  have e4 := f72_eq [rsE a, rsE b, if a.length = b.length then 0 else 13] (by simp)
  simp only [g72, e4, Option.isSome_some, Option.getD_some, if_true, eqF_eq]
  change (if (!decide (dmE a b = 0)) = true then _ else _) = _
  by_cases h1 : dmE a b = 0
  · have hlen : a.length = b.length := by
      by_cases hl : a.length = b.length
      · exact hl
      · exfalso
        by_cases ra : rsE a = 0
        · by_cases rb : rsE b = 0
          · simp [dmE, firstNZ, ra, rb, hl] at h1
          · simp [dmE, firstNZ, ra, rb] at h1
        · simp [dmE, firstNZ, ra] at h1
    have e5 := q40_0 a b ha (by omega)
    simp only [h1, decide_true, Bool.not_true, Bool.false_eq_true, if_false, ne_eq, not_true_eq_false, e5, isBrk, b40_0, outB, if_true]
  · simp only [h1, decide_false, Bool.not_false, if_true, ne_eq, not_false_eq_true]
    rfl

theorem f41_eq (l : List Rg) (h : l.length ≤ 1000) : f41 (l, ()) = some (l, ()) := by
  simp only [f41, t41, Tr.val_test, Tr.val_fin, Tr.val_stop, List.nil_append]
  by_cases h0 : l.length = 0
  · have : l = [] := List.eq_nil_of_length_eq_zero h0
    subst this; rfl
  · rw [if_neg (by rw [beq_eq_true']; exact h0), if_neg (by rw [ble_eq_true']; omega), if_pos (by simp only [Bool.and_eq_true, ble_eq_true']; omega), if_pos (by rw [beq_eq_true']; omega)]

/-! Lowest terms. -/

/-- A fraction in lowest terms. -/
def low (a b : Int) : Int × Int × Unit := (a.tdiv (Int.gcd a b), b.tdiv (Int.gcd a b), ())

theorem wrapI_id {n : Int} (h1 : -9223372036854775808 ≤ n) (h2 : n ≤ 9223372036854775807) : IntKind.wrap .i64 n = n := by rw [← wrap64_eq, wrap64_id h1 h2]

def fl (n d : Int) : Int := if Int.tmod n d < 0 then Int.tdiv n d - 1 else Int.tdiv n d

theorem fl_spec (n : Int) {d : Int} (h : 0 < d) : fl n d * d ≤ n ∧ n < fl n d * d + d := by
  have e := Int.mul_tdiv_add_tmod n d
  have h1 := Int.tmod_lt_of_pos n h
  have h2 := Int.lt_tmod_of_pos n h
  unfold fl
  rw [Int.mul_comm] at e
  split
  · rw [Int.sub_mul, Int.one_mul]; omega
  · omega

theorem f66_eq (n d : Int) (h : 0 < d) (hn : n.natAbs ≤ 1000000000000) : f66 (n, d, ()) = some (fl n d, ()) := by
  have h1 := Int.natAbs_tdiv_le_natAbs n d
  have w1 : IntKind.wrap .i64 (Int.tdiv n d) = Int.tdiv n d := wrapI_id (by omega) (by omega)
  have w2 : wrap64 (Int.tdiv n d - 1) = Int.tdiv n d - 1 := wrap64_id (by omega) (by omega)
  simp only [f66, t66, Tr.val_test, Tr.val_fin, Tr.val_stop, leF_eq, w1, w2, fl]
  rw [if_neg (by simp; omega)]
  by_cases hm : Int.tmod n d < 0
  · rw [if_pos (by simpa using hm), if_pos hm]
  · rw [if_neg (by simpa using hm), if_neg hm]

/-- Which of two quotients is greater. -/
def cq (n d m k : Int) : Int := if n * k < m * d then -1 else if n * k = m * d then 0 else 1

theorem cmp_go : ∀ (s : Nat) (n d m k : Int), 0 < d → 0 < k → d.toNat + k.toNat ≤ s → d ≤ 1000000000 → k ≤ 1000000000 → n.natAbs ≤ 1000000000 → m.natAbs ≤ 1000000000 → ∀ fuel : Nat, s < fuel →
    itr s30_0 fuel ((n, d, m, k, ()), ()) = some (.inr ((cq n d m k, ()), ())) := by
  intro s
  induction s with
  | zero => intro n d m k hd hk hs; omega
  | succ s ih =>
    intro n d m k hd hk hs hd1 hk1 hn hm fuel hf
    obtain ⟨f, rfl⟩ : ∃ f, fuel = f + 1 := ⟨fuel - 1, by omega⟩
    obtain ⟨a1, a2⟩ := fl_spec n hd
    obtain ⟨b1, b2⟩ := fl_spec m hk
    have e1 := f66_eq n d hd (by omega)
    have e2 := f66_eq m k hk (by omega)
    have w1 : wrap64 (fl n d * d) = fl n d * d := wrap64_id (by omega) (by omega)
    have w2 : wrap64 (fl m k * k) = fl m k * k := wrap64_id (by omega) (by omega)
    have w3 : wrap64 (n - fl n d * d) = n - fl n d * d := wrap64_id (by omega) (by omega)
    have w4 : wrap64 (m - fl m k * k) = m - fl m k * k := wrap64_id (by omega) (by omega)
    have hstep : s30_0 ((n, d, m, k, ()), ()) = if fl n d < fl m k then some (.ret (((-1 : Int), ()), ())) else if fl m k < fl n d then some (.ret (((1 : Int), ()), ())) else if n - fl n d * d = 0 then (if m - fl m k * k = 0 then some (.ret (((0 : Int), ()), ())) else some (.ret (((-1 : Int), ()), ()))) else if m - fl m k * k = 0 then some (.ret (((1 : Int), ()), ())) else some (.again ((k, m - fl m k * k, d, n - fl n d * d, ()), ())) := by
      simp only [s30_0, t30_0, Tr.val_test, Tr.val_fin, Tr.val_stop, g66, e1, e2, Option.isSome_some, Option.getD_some, if_true, leF_eq, eqF_eq, w1, w2, w3, w4, decide_eq_true_eq, Bool.not_eq_true', decide_eq_false_iff_not, Int.not_le]
    rw [itr, hstep]
    have hdk : 0 < d * k := Int.mul_pos hd hk
    by_cases h1 : fl n d < fl m k
    · rw [if_pos h1]
      have g1 : n * k < (fl n d * d + d) * k := Int.mul_lt_mul_of_pos_right a2 hk
      have g2 : (fl m k * k) * d ≤ m * d := Int.mul_le_mul_of_nonneg_right b1 (Int.le_of_lt hd)
      have g3 : (fl n d + 1) * (d * k) ≤ fl m k * (d * k) := Int.mul_le_mul_of_nonneg_right (by omega) (Int.le_of_lt hdk)
      have g4 : (fl n d * d + d) * k = (fl n d + 1) * (d * k) := by grind
      have g5 : (fl m k * k) * d = fl m k * (d * k) := by grind
      have : n * k < m * d := by omega
      simp only [cq, if_pos this]
    · rw [if_neg h1]
      by_cases h2 : fl m k < fl n d
      · rw [if_pos h2]
        have g1 : m * d < (fl m k * k + k) * d := Int.mul_lt_mul_of_pos_right b2 hd
        have g2 : (fl n d * d) * k ≤ n * k := Int.mul_le_mul_of_nonneg_right a1 (Int.le_of_lt hk)
        have g3 : (fl m k + 1) * (d * k) ≤ fl n d * (d * k) := Int.mul_le_mul_of_nonneg_right (by omega) (Int.le_of_lt hdk)
        have g4 : (fl m k * k + k) * d = (fl m k + 1) * (d * k) := by grind
        have g5 : (fl n d * d) * k = fl n d * (d * k) := by grind
        have : m * d < n * k := by omega
        simp only [cq, if_neg (show ¬ n * k < m * d by omega), if_neg (show ¬ n * k = m * d by omega)]
      · rw [if_neg h2]
        have hp : fl m k = fl n d := by omega
        rw [hp] at b1 b2 ⊢
        generalize fl n d = p at *
        have hk' : n * k - m * d = (n - p * d) * k - (m - p * k) * d := by grind
        have a3 : 0 ≤ n - p * d := by omega
        have a4 : n - p * d < d := by omega
        have b3 : 0 ≤ m - p * k := by omega
        have b4 : m - p * k < k := by omega
        generalize n - p * d = n' at *
        generalize m - p * k = m' at *
        by_cases h3 : n' = 0
        · rw [if_pos h3]
          subst h3
          by_cases h4 : m' = 0
          · rw [if_pos h4]
            subst h4
            have : n * k = m * d := by omega
            simp only [cq, if_neg (show ¬ n * k < m * d by omega), if_pos this]
          · rw [if_neg h4]
            have : 0 < m' * d := Int.mul_pos (by omega) hd
            simp only [cq, if_pos (show n * k < m * d by omega)]
        · rw [if_neg h3]
          by_cases h4 : m' = 0
          · rw [if_pos h4]
            subst h4
            have : 0 < n' * k := Int.mul_pos (by omega) hk
            simp only [cq, if_neg (show ¬ n * k < m * d by omega), if_neg (show ¬ n * k = m * d by omega)]
          · rw [if_neg h4]
            have := ih k m' d n' (by omega) (by omega) (by omega) (by omega) (by omega) (by omega) (by omega) f (by omega)
            simp only [this]
            have e5 : cq k m' d n' = cq n d m k := by
              unfold cq
              have c1 : k * n' = n' * k := Int.mul_comm _ _
              have c2 : d * m' = m' * d := Int.mul_comm _ _
              rw [c1, c2]
              by_cases q1 : n' * k < m' * d
              · rw [if_pos q1, if_pos (by omega)]
              · rw [if_neg q1, if_neg (show ¬ n * k < m * d by omega)]
                by_cases q2 : n' * k = m' * d
                · rw [if_pos q2, if_pos (by omega)]
                · rw [if_neg q2, if_neg (by omega)]
            rw [e5]

theorem f30_eq (n d m k : Int) (hd : 0 < d) (hk : 0 < k) (hd1 : d ≤ 1000000000) (hk1 : k ≤ 1000000000) (hn : n.natAbs ≤ 1000000000) (hm : m.natAbs ≤ 1000000000) : f30 (n, d, m, k, ()) = some (cq n d m k, ()) := by
  have e : l30_0 ((n, d, m, k, ()), ()) = some (.inr ((cq n d m k, ()), ())) := cmp_go (d.toNat + k.toNat) n d m k hd hk (Nat.le_refl _) hd1 hk1 hn hm rounds (lt_rounds (by omega))
  simp only [f30, t30, Tr.val_test, Tr.val_fin, Tr.val_stop, r30_0, e, endsRet, outR, if_true]

theorem sgn_zero (x : Int) : St.sgn x = 0 ↔ x = 0 := by unfold St.sgn; split <;> (try split) <;> constructor <;> intro h <;> (try omega) <;> (try cases h)

theorem f48_eq {m k : List Int} (hf : St.Fr m k) {p q : Int} (hq : 0 < q) (hb : St.bd p q ≤ 42500) : f48 (((m, (k, ())), ()), ((p, (q, ())), ())) = some (((St.top m k p q).count : Int), ()) := by
  have h4 := hf.top
  have e := f82_eq hf hq hb
  have e2 := f81_eq (vals m k p q (k.length + 1)) (by rw [vals_len]; omega)
  have e3 : St.chg (St.gt (vals m k p q (k.length + 1))) (vals m k p q (k.length + 1)).length = St.chg (fun i => St.W m k p q (i + 1)) (k.length + 1) := by
    rw [vals_len]
    exact chg_congr _ (fun i hi => by rw [vals_at _ _ _ _ hi]; exact St.ev_sgn hf.top hq (by omega))
  rw [e3, St.chg_count hf hq] at e2
  simp only [f48, t48, g82, e, g81, e2, Option.isSome_some, Option.getD_some, Tr.val_test, Tr.val_fin, if_true]

theorem ev_top {m k : List Int} (hf : St.Fr m k) {p q : Int} (hq : 0 < q) : St.ev (St.Dc m k (k.length + 1)) p q = 0 ↔ (St.top m k p q).f = 0 := by
  rw [← sgn_zero, St.ev_sgn hf.top hq (Nat.le_refl _), sgn_zero, St.W_top hf hq]
  have := St.sg_ne (St.top m k p q).h
  constructor
  · intro h
    rcases Int.mul_eq_zero.1 h with h | h
    · exact absurd h this
    · exact h
  · intro h
    rw [h, Int.mul_zero]

theorem f50_eq {m k : List Int} (hf : St.Fr m k) {p q : Int} (hq : 0 < q) (hb : St.bd p q ≤ 42500) : f50 (((m, (k, ())), ()), ((p, (q, ())), ())) = some (decide ((St.top m k p q).f = 0), ()) := by
  have h4 := hf.top
  have e := f82_eq hf hq hb
  have el := vals_len m k p q (k.length + 1)
  have w : wrap64 (((k.length + 1 : Nat) : Int) - 1) = (k.length : Int) := by rw [wr_abs (by omega)]; omega
  have ev := vals_at m k p q (n := k.length + 1) (i := k.length) (by omega)
  have ev' : (vals m k p q (k.length + 1)).getD k.length 0 = St.ev (St.Dc m k (k.length + 1)) p q := ev
  simp only [f50, t50, g82, e, Option.isSome_some, Option.getD_some, Tr.val_test, Tr.val_fin, Tr.val_stop, if_true, el, w, Int.toNat_natCast, eqF_eq, ev']
  rw [if_pos (by simp; omega)]
  congr 2
  exact decide_eq_decide.2 (ev_top hf hq)

theorem f49_eq (l : List Int) (h : l.length ≤ 1000) : f49 (l, ()) = some (l, ()) := by
  rcases Nat.eq_zero_or_pos l.length with h0 | h0
  · have : l = [] := List.length_eq_zero_iff.1 h0
    subst this
    rfl
  · simp only [f49, t49, Tr.val_test, Tr.val_fin, Tr.val_stop, List.nil_append, Nat.zero_add]
    rw [if_neg (by simp; intro h; rw [h] at h0; simp at h0), if_neg (by simp; intro h; rw [h] at h0; simp at h0), if_pos (by simp [Nat.ble_eq]; omega), if_pos (by simp)]

theorem f11_eq (m k : List Int) (h : m.length ≤ 1000) (h2 : k.length ≤ 1000) : f11 ((m, (k, ())), ()) = some ((m, (k, ())), ()) := by
  have e1 := f49_eq m h
  have e2 := f49_eq k h2
  simp only [f11, t11, g49, e1, e2, Option.isSome_some, Option.getD_some, Tr.val_test, Tr.val_fin, if_true]

theorem firstNZ_zero {a b : Int} (ha : a = 0) (hb : b = 0) : firstNZ [a, b] = 0 := by subst ha hb; rfl

/-- A square that may be asked for. -/
structure Sq (p q : Int) : Prop where
  pos : 0 < q
  den : q ≤ 100
  lo : -100 ≤ p
  hi : p ≤ 100
  low : Int.gcd p q = 1

theorem Sq.bd {p q : Int} (h : Sq p q) : St.bd p q ≤ 42500 := by
  have h1 := h.pos; have h2 := h.den; have h3 := h.lo; have h4 := h.hi
  unfold St.bd; omega

theorem l108_ok {m k : List Int} (hf : St.Fr m k) : l108_0 ((m, ((m.length : Int), ((0 : Int), ()))), ((m, (k, ())), ())) = some (.inl ((), ((m, (k, ())), ()))) := by
  have h4 := hf.top
  have hl := hf.len
  refine itr_brk (step := s108_0) (fun i => ((m, ((m.length : Int), ((i : Int), ()))), ((m, (k, ())), ()))) (n := m.length) ?_ ?_ (lt_rounds (by omega))
  · intro i hi
    have hm := hf.mass i (by omega)
    have hk := hf.spring i (by omega)
    have e1 := f51_one 1 10 (St.gt m i)
    have e2 := f51_one 1 20 (St.gt k i)
    rw [show wi 1 10 (St.gt m i) = true from wi_iff.2 hm] at e1
    rw [show wi 1 20 (St.gt k i) = true from wi_iff.2 hk] at e2
    simp only [s108_0, t108_0, Tr.val_test, Tr.val_fin, Tr.val_stop, leF_eq, eqF_eq, Int.toNat_natCast, show m.getD i 0 = St.gt m i from rfl, show k.getD i 0 = St.gt k i from rfl, g51, e1, e2, g52, Bool.not_true, f52_eq (false, ((2 : Int), ())), Option.isSome_some, Option.getD_some, if_true, wrap64_nat (show i ≤ 9223372036854775806 by omega), Bool.false_eq_true, if_false]
    rw [if_pos (by simp; omega), if_pos (by simp; omega), if_pos (by simp; omega)]
    rfl
  · simp only [s108_0, t108_0, Tr.val_test, Tr.val_fin, Tr.val_stop, leF_eq]
    rw [if_neg (by simp)]

theorem f78_ok {m k : List Int} (hf : St.Fr m k) : f78 ((m, (k, ())), ()) = some (0, (0, ())) := by
  have h4 := hf.top
  have hl := hf.len
  have h0 := hf.pos
  have e := l108_ok hf
  have e2 := f72_eq [0, 0] (by decide)
  rw [firstNZ_zero rfl rfl] at e2
  have c1 : (!eqF (k.length : Int) (m.length : Int)) = false := by rw [eqF_eq, hl]; simp
  have c2 : (!leF (m.length : Int) 4) = false := by rw [leF_eq]; simp; omega
  have c3 : eqF (m.length : Int) 0 = false := by rw [eqF_eq]; simp; intro h; rw [h] at hl; simp at hl; omega
  simp only [f78, t78, Tr.val_test, Tr.val_fin, Tr.val_stop, c1, c2, c3, Bool.false_eq_true, if_false, g52, f52_eq (false, ((10 : Int), ())), f52_eq (false, ((8 : Int), ())), Option.isSome_some, Option.getD_some, if_true, g72, e2, e, isRet]
  simp [eqF_eq]

/-- One that is not valid. -/
def frBad (m k : List Int) (i : Nat) : Bool := !wi 1 10 (St.gt m i) || !wi 1 20 (St.gt k i)

theorem l55_eq {m k : List Int} (hl : k.length = m.length) (h : m.length ≤ 4) : l55_0 (((0 : Int), ()), ((m, (k, ())), ())) = match first (frBad m k) m.length 0 with
    | some i => some (.inr (((i : Int), ((2 : Int), ())), ((m, (k, ())), ())))
    | none => some (.inl ((), ((m, (k, ())), ()))) := by
  refine itr_search (fun i => (((i : Int), ()), ((m, (k, ())), ()))) (frBad m k) (fun i => (((i : Int), ((2 : Int), ())), ((m, (k, ())), ()))) (n := m.length) ?_ ?_ (lt_rounds (by omega))
  · intro i hi
    simp only [s55_0, t55_0, Tr.val_test, Tr.val_fin, Tr.val_stop, leF_eq, Int.toNat_natCast, wrap64_nat (show i ≤ 9223372036854775806 by omega), show m.getD i 0 = St.gt m i from rfl, show k.getD i 0 = St.gt k i from rfl, g21, f21_eq (St.gt m i, ((1 : Int), ((10 : Int), ()))), f21_eq (St.gt k i, ((1 : Int), ((20 : Int), ()))), Option.isSome_some, Option.getD_some, if_true, frBad]
    rw [if_pos (by simp; omega), if_pos (by simp; omega)]
    have hc : (decide ((0 : Int) ≤ (i : Int)) && decide ((i : Int) < (k.length : Int))) = true := by simp; omega
    rcases Bool.eq_false_or_eq_true (wi 1 10 (St.gt m i)) with h1 | h1
    · rcases Bool.eq_false_or_eq_true (wi 1 20 (St.gt k i)) with h2 | h2
      · simp only [h1, h2, hc, Bool.not_true, Bool.or_self, Bool.false_eq_true, if_false, if_true]
      · simp only [h1, h2, hc, Bool.not_true, Bool.not_false, Bool.or_true, Bool.false_eq_true, if_false, if_true]
    · simp only [h1, Bool.not_false, Bool.true_or, if_true]
  · simp only [s55_0, t55_0, Tr.val_test, Tr.val_fin, Tr.val_stop, leF_eq]
    rw [if_neg (by simp)]

/-- Which storey, and the error. -/
def chkE (m k : List Int) : Int × Int := if m.length = 0 then (0, 10) else if k.length = m.length then (if m.length ≤ 4 then (match first (frBad m k) m.length 0 with
  | some i => ((i : Int), 2)
  | none => (0, 0)) else (0, 8)) else (0, 10)

theorem chkE_ok {m k : List Int} (h : (chkE m k).2 = 0) : St.Fr m k := by
  unfold chkE at h
  split at h
  · simp at h
  · rename_i c0
    split at h
    · rename_i c1
      split at h
      · rename_i c2
        split at h
        · simp at h
        · rename_i hc
          have hb : ∀ i, i < k.length → wi 1 10 (St.gt m i) = true ∧ wi 1 20 (St.gt k i) = true := by
            intro i hi
            have := first_none hc i (by omega) (by omega)
            unfold frBad at this
            cases h1 : wi 1 10 (St.gt m i) <;> cases h2 : wi 1 20 (St.gt k i) <;> rw [h1, h2] at this <;> simp at this ⊢
          exact ⟨by omega, c1.symm, by omega, fun i hi => wi_iff.1 (hb i hi).1, fun i hi => wi_iff.1 (hb i hi).2⟩
      · simp at h
    · simp at h

theorem f55_all (m k : List Int) : f55 ((m, (k, ())), ()) = some ((chkE m k).1, ((chkE m k).2, ())) := by
  unfold chkE
  by_cases c0 : m.length = 0
  · rw [if_pos c0]
    simp only [f55, t55, Tr.val_test, Tr.val_fin, eqF_eq]
    rw [if_pos (by simpa using c0)]
  · rw [if_neg c0]
    by_cases c1 : k.length = m.length
    · rw [if_pos c1]
      by_cases c2 : m.length ≤ 4
      · rw [if_pos c2]
        have e := l55_eq c1 c2
        cases hc : first (frBad m k) m.length 0 with
        | some i =>
          rw [hc] at e
          simp only [f55, t55, Tr.val_test, Tr.val_fin, Tr.val_stop, eqF_eq, leF_eq, e, isRet, r55_0, outR, Option.isSome_some, if_true]
          rw [if_neg (by simpa using c0), if_neg (by simp; omega), if_neg (by simp; omega)]
        | none =>
          rw [hc] at e
          simp only [f55, t55, Tr.val_test, Tr.val_fin, Tr.val_stop, eqF_eq, leF_eq, e, isRet, Option.isSome_some, if_true]
          rw [if_neg (by simpa using c0), if_neg (by simp; omega), if_neg (by simp; omega)]
          rfl
      · rw [if_neg c2]
        simp only [f55, t55, Tr.val_test, Tr.val_fin, eqF_eq, leF_eq]
        rw [if_neg (by simpa using c0), if_neg (by simp; omega), if_pos (by simp; omega)]
    · rw [if_neg c1]
      simp only [f55, t55, Tr.val_test, Tr.val_fin, eqF_eq, leF_eq]
      rw [if_neg (by simpa using c0), if_pos (by simp; omega)]

theorem f14_all (m k : List Int) : f14 ((m, (k, ())), ()) = some ((chkE m k).2, ()) := by
  simp only [f14, t14, g55, f55_all m k, Tr.val_test, Tr.val_fin, Option.isSome_some, Option.getD_some, if_true]

theorem f86_eq {m k : List Int} (hf : St.Fr m k) {p q : Int} (hq : 0 < q) (hb : St.bd p q ≤ 42500) : f86 (((m, (k, ())), ()), ((p, (q, ())), ())) = some (((St.top m k p q).upto : Int), ()) := by
  have e1 := f50_eq hf hq hb
  have e2 := f48_eq hf hq hb
  have hc := St.upto_le hf p q
  have h4 := hf.top
  simp only [f86, t86, g50, e1, g48, e2, Option.isSome_some, Option.getD_some, Tr.val_test, Tr.val_fin, Tr.val_stop, ↓reduceIte]
  by_cases c : (St.top m k p q).f = 0
  · rw [if_pos (by simpa using c)]
    have : (St.top m k p q).upto = (St.top m k p q).count + 1 := by
      unfold St.Ph.upto St.Ph.count; rw [if_pos (by omega), if_neg (by omega)]
    rw [this, wrap64_nat (by omega)]
  · rw [if_neg (by simpa using c)]
    have : (St.top m k p q).upto = (St.top m k p q).count := by
      unfold St.Ph.upto St.Ph.count
      by_cases c2 : (St.top m k p q).f < 0
      · rw [if_pos (by omega), if_pos c2]
      · rw [if_neg (by omega), if_neg c2]
    rw [this]

theorem itr_bin {A B C : Type} {step : A → Option (Out A B C)} (st : Nat → Nat → A) (r : Nat → B) (P : Nat → Bool) (N : Nat)
    (hs : ∀ i j, i < j → j ≤ N → step (st i j) = some (.again (if P ((i + j) / 2) = true then st i ((i + j) / 2) else st ((i + j) / 2 + 1) j))) (hb : ∀ i, i ≤ N → step (st i i) = some (.brk (r i)))
    (hmono : ∀ x y, x ≤ y → P x = true → P y = true) :
    ∀ (m i j : Nat), i ≤ j → j ≤ N → j - i < m → ∃ t, itr step m (st i j) = some (.inl (r t)) ∧ i ≤ t ∧ t ≤ j ∧ (∀ x, i ≤ x → x < t → P x = false) ∧ (t < j → P t = true)
  | 0, i, j, h, hj, hm => by omega
  | m + 1, i, j, h, hj, hm => by
    by_cases c : i = j
    · subst c
      exact ⟨i, by rw [itr, hb i hj], Nat.le_refl _, Nat.le_refl _, fun x h1 h2 => by omega, fun h => by omega⟩
    · have e := hs i j (by omega) hj
      cases hP : P ((i + j) / 2) with
      | true =>
        rw [if_pos hP] at e
        obtain ⟨t, t1, t2, t3, t4, t5⟩ := itr_bin st r P N hs hb hmono m i ((i + j) / 2) (by omega) (by omega) (by omega)
        refine ⟨t, by rw [itr, e]; exact t1, t2, by omega, t4, fun h => ?_⟩
        by_cases c2 : t < (i + j) / 2
        · exact t5 c2
        · have : t = (i + j) / 2 := by omega
          rw [this]; exact hP
      | false =>
        rw [if_neg (by rw [hP]; decide)] at e
        obtain ⟨t, t1, t2, t3, t4, t5⟩ := itr_bin st r P N hs hb hmono m ((i + j) / 2 + 1) j (by omega) hj (by omega)
        refine ⟨t, by rw [itr, e]; exact t1, by omega, t3, fun x h1 h2 => ?_, t5⟩
        by_cases c2 : x ≤ (i + j) / 2
        · cases hx : P x with
          | false => rfl
          | true => have := hmono x _ c2 hx; rw [hP] at this; cases this
        · exact t4 x (by omega) h2

theorem u64_wrap {n : Int} (h0 : 0 ≤ n) (h : n ≤ 1000000) : IntKind.wrap .u64 n = n := by
  have e : IntKind.wrap .u64 n = n % 18446744073709551616 := rfl
  rw [e]
  omega

theorem half {i j : Nat} (h : i + j ≤ 100000) : IntKind.wrap .i64 (Int.fdiv (IntKind.wrap .u64 (wrap64 ((i : Int) + (j : Int)))) 2) = (((i + j) / 2 : Nat) : Int) := by
  rw [wr_abs (by omega), u64_wrap (by omega) (by omega), i64_wrap, Int.fdiv_eq_ediv_of_nonneg _ (by decide), wr_abs (by omega)]
  omega

/-- How many are below x / den, and how many are not above. -/
def cC (m k : List Int) (den : Int) (x : Nat) : Nat := (St.top m k (x : Int) den).count
def cU (m k : List Int) (den : Int) (x : Nat) : Nat := (St.top m k (x : Int) den).upto

theorem frac_le {m k : List Int} (hf : St.Fr m k) {den : Int} (hd : 0 < den) {x y : Nat} (h : x ≤ y) : ∀ i, i < k.length → (x : Int) * St.gt m i * den ≤ (y : Int) * St.gt m i * den := by
  intro i hi
  have hm := hf.mass i hi
  exact Int.mul_le_mul_of_nonneg_right (Int.mul_le_mul_of_nonneg_right (by omega) (by omega)) (by omega)

theorem cC_mono {m k : List Int} (hf : St.Fr m k) {den : Int} (hd : 0 < den) {x y : Nat} (h : x ≤ y) : cC m k den x ≤ cC m k den y :=
  St.Ph.le_count (St.top_ok hf hd) (St.top_ok hf hd) (St.top_le hf hf rfl hd hd (fun i _ => Int.le_refl _) (frac_le hf hd h))

theorem cU_mono {m k : List Int} (hf : St.Fr m k) {den : Int} (hd : 0 < den) {x y : Nat} (h : x ≤ y) : cU m k den x ≤ cU m k den y :=
  St.Ph.le_upto (St.top_ok hf hd) (St.top_ok hf hd) (St.top_le hf hf rfl hd hd (fun i _ => Int.le_refl _) (frac_le hf hd h))

theorem cU_lt {m k : List Int} (hf : St.Fr m k) {den : Int} (hd : 0 < den) {x y : Nat} (h : x < y) : cU m k den x ≤ cC m k den y :=
  St.Ph.lt_count (St.top_ok hf hd) (St.top_ok hf hd) (St.top_lt hf hd hd (Int.mul_lt_mul_of_pos_right (by omega) hd))

theorem cC_zero {m k : List Int} (hf : St.Fr m k) {den : Int} (hd : 0 < den) : cC m k den 0 = 0 := (St.count_low hf hd (Int.le_refl _)).1

theorem cC_high {m k : List Int} (hf : St.Fr m k) {den : Int} (hd : 0 < den) {x : Nat} (h : 80 * den ≤ (x : Int)) : cC m k den x = k.length :=
  St.count_high hf (S := 20) hd (fun i hi => (hf.spring i hi).2) (fun i hi => by
    have hm := hf.mass i hi
    have := Int.mul_le_mul_of_nonneg_left hm.1 (show 0 ≤ (x : Int) by omega)
    omega)

theorem bd_le {den : Int} (h0 : 0 < den) (h : den ≤ 50) {x : Nat} (hx : x ≤ 4000) : St.bd (x : Int) den ≤ 42500 := by unfold St.bd; omega

theorem l83_eq {m k : List Int} (hf : St.Fr m k) {den mode : Int} (h0 : 0 < den) (h : den ≤ 50) :
    ∃ t : Nat, l83_0 (((0 : Int), ((4001 : Int), ())), ((m, (k, ())), ((den, ()), ((mode, ()), ())))) = some (.inl (((t : Int), ()), ((m, (k, ())), ((den, ()), ((mode, ()), ()))))) ∧ t ≤ 4001 ∧
      (∀ x, x < t → (cC m k den x : Int) ≤ mode) ∧ (t < 4001 → mode < (cC m k den t : Int)) := by
  have key := itr_bin (step := s83_0) (fun i j => (((i : Int), ((j : Int), ())), ((m, (k, ())), ((den, ()), ((mode, ()), ()))))) (fun t => (((t : Int), ()), ((m, (k, ())), ((den, ()), ((mode, ()), ()))))) (fun x => decide (mode < (cC m k den x : Int))) 4001 ?_ ?_ ?_ rounds 0 4001 (by decide) (by decide) (by unfold rounds; omega)
  · obtain ⟨t, t1, t2, t3, t4, t5⟩ := key
    refine ⟨t, t1, t3, fun x hx => ?_, fun hlt => by simpa using t5 hlt⟩
    have := t4 x (by omega) hx
    simp at this; exact this
  · intro i j hij hj
    have e := f48_eq hf (p := (((i + j) / 2 : Nat) : Int)) h0 (bd_le h0 h (by omega))
    have ec : (St.top m k (((i + j) / 2 : Nat) : Int) den).count = cC m k den ((i + j) / 2) := rfl
    rw [ec] at e
    have c0 : (!leF (j : Int) (i : Int)) = true := by rw [leF_eq]; simp; omega
    by_cases c : mode < (cC m k den ((i + j) / 2) : Int)
    · have c1 : (!!leF (cC m k den ((i + j) / 2) : Int) mode) = false := by rw [leF_eq]; simp; omega
      have c2 : decide (mode < (cC m k den ((i + j) / 2) : Int)) = true := by simpa using c
      simp only [s83_0, t83_0, Tr.val_test, Tr.val_fin, Tr.val_stop, c0, half (show i + j ≤ 100000 by omega), g48, e, c1, c2, Bool.false_eq_true, Option.isSome_some, Option.getD_some, ↓reduceIte]
    · have c1 : (!!leF (cC m k den ((i + j) / 2) : Int) mode) = true := by rw [leF_eq]; simp; omega
      have c2 : decide (mode < (cC m k den ((i + j) / 2) : Int)) = false := by simpa using c
      simp only [s83_0, t83_0, Tr.val_test, Tr.val_fin, Tr.val_stop, c0, half (show i + j ≤ 100000 by omega), g48, e, c1, c2, Bool.false_eq_true, Option.isSome_some, Option.getD_some, ↓reduceIte, wrap64_nat (show (i + j) / 2 ≤ 9223372036854775806 by omega)]
  · intro i hi
    have c0 : (!leF (i : Int) (i : Int)) = false := by rw [leF_eq]; simp
    simp only [s83_0, t83_0, Tr.val_test, Tr.val_fin, Tr.val_stop, c0, Bool.false_eq_true, ↓reduceIte]
  · intro x y hxy hx
    have := cC_mono hf h0 hxy
    simp at hx ⊢; omega

theorem l83b_eq {m k : List Int} (hf : St.Fr m k) {den mode : Int} (h0 : 0 < den) (h : den ≤ 50) :
    ∃ t : Nat, l83_0_1 (((0 : Int), ((4000 : Int), ())), ((m, (k, ())), ((den, ()), ((mode, ()), ())))) = some (.inl (((t : Int), ()), ((m, (k, ())), ((den, ()), ((mode, ()), ()))))) ∧ t ≤ 4000 ∧
      (∀ x, x < t → (cU m k den x : Int) ≤ mode) ∧ (t < 4000 → mode < (cU m k den t : Int)) := by
  have key := itr_bin (step := s83_0_1) (fun i j => (((i : Int), ((j : Int), ())), ((m, (k, ())), ((den, ()), ((mode, ()), ()))))) (fun t => (((t : Int), ()), ((m, (k, ())), ((den, ()), ((mode, ()), ()))))) (fun x => decide (mode < (cU m k den x : Int))) 4000 ?_ ?_ ?_ rounds 0 4000 (by decide) (by decide) (by unfold rounds; omega)
  · obtain ⟨t, t1, t2, t3, t4, t5⟩ := key
    refine ⟨t, t1, t3, fun x hx => ?_, fun hlt => by simpa using t5 hlt⟩
    have := t4 x (by omega) hx
    simp at this; exact this
  · intro i j hij hj
    have e := f86_eq hf (p := (((i + j) / 2 : Nat) : Int)) h0 (bd_le h0 h (by omega))
    have ec : (St.top m k (((i + j) / 2 : Nat) : Int) den).upto = cU m k den ((i + j) / 2) := rfl
    rw [ec] at e
    have c0 : (!leF (j : Int) (i : Int)) = true := by rw [leF_eq]; simp; omega
    by_cases c : mode < (cU m k den ((i + j) / 2) : Int)
    · have c1 : (!!leF (cU m k den ((i + j) / 2) : Int) mode) = false := by rw [leF_eq]; simp; omega
      have c2 : decide (mode < (cU m k den ((i + j) / 2) : Int)) = true := by simpa using c
      simp only [s83_0_1, t83_0_1, Tr.val_test, Tr.val_fin, Tr.val_stop, c0, half (show i + j ≤ 100000 by omega), g86, e, c1, c2, Bool.false_eq_true, Option.isSome_some, Option.getD_some, ↓reduceIte]
    · have c1 : (!!leF (cU m k den ((i + j) / 2) : Int) mode) = true := by rw [leF_eq]; simp; omega
      have c2 : decide (mode < (cU m k den ((i + j) / 2) : Int)) = false := by simpa using c
      simp only [s83_0_1, t83_0_1, Tr.val_test, Tr.val_fin, Tr.val_stop, c0, half (show i + j ≤ 100000 by omega), g86, e, c1, c2, Bool.false_eq_true, Option.isSome_some, Option.getD_some, ↓reduceIte, wrap64_nat (show (i + j) / 2 ≤ 9223372036854775806 by omega)]
  · intro i hi
    have c0 : (!leF (i : Int) (i : Int)) = false := by rw [leF_eq]; simp
    simp only [s83_0_1, t83_0_1, Tr.val_test, Tr.val_fin, Tr.val_stop, c0, Bool.false_eq_true, ↓reduceIte]
  · intro x y hxy hx
    have := cU_mono hf h0 hxy
    simp at hx ⊢; omega

theorem n_zero : (!eqF (0 : Int) 0) = false := by rw [eqF_eq]; rfl
theorem n_not {x : Int} (h : x ≠ 0) : (!eqF x 0) = true := by rw [eqF_eq]; simpa using h
theorem nz_two (a b : Int) : firstNZ [a, b] = if a ≠ 0 then a else b := by
  unfold firstNZ
  by_cases c : a = 0
  · subst c; simp [firstNZ]; omega
  · simp [c]

theorem f53_eq (den : Int) : f53 (den, ()) = some (if 1 ≤ den ∧ den ≤ 50 then 0 else 2, ()) := by
  have e := f51_one 1 50 den
  simp only [f53, t53, g51, e, g52, f52_eq ((!wi 1 50 den), ((2 : Int), ())), Option.isSome_some, Option.getD_some, Tr.val_test, Tr.val_fin, ↓reduceIte]
  by_cases c : 1 ≤ den ∧ den ≤ 50
  · rw [if_pos c, show wi 1 50 den = true from wi_iff.2 c]; rfl
  · have : wi 1 50 den = false := by cases h : wi 1 50 den; rfl; exact absurd (wi_iff.1 h) c
    rw [if_neg c, this]; rfl

theorem f13_ok {m k : List Int} (hf : St.Fr m k) {mode den a b : Int} (h1 : 0 ≤ mode ∧ mode ≤ (m.length : Int) - 1) (h2 : 1 ≤ den ∧ den ≤ 50) (h : f54 (((m, (k, ())), ()), (mode, (den, ()))) = some ((a, (b, ())), ())) :
    f13 ((m, (k, ())), (mode, (den, ()))) = some ((a, (b, ())), ((0 : Int), ())) := by
  have h4 := hf.top
  have hl := hf.len
  have e1 := f51_one 0 ((m.length : Int) - 1) mode
  rw [show wi 0 ((m.length : Int) - 1) mode = true from wi_iff.2 h1] at e1
  have e3 := f53_eq den
  rw [if_pos h2] at e3
  have z : f72 ([0, 0], ()) = some (0, ()) := f72_eq [0, 0] (by decide)
  have w : wrap64 ((m.length : Int) - 1) = (m.length : Int) - 1 := wr_abs (by omega)
  have e4 := f78_ok hf
  have n0 := n_zero
  have b0 : f52 ((!true), ((6 : Int), ())) = some (0, ()) := f52_eq _
  simp only [f13, t13, w, g51, e1, g52, b0, g53, e3, g78, e4, g72, z, n0, g54, h, Bool.false_eq_true, Option.isSome_some, Option.getD_some, Tr.val_test, Tr.val_fin, Tr.val_stop, ↓reduceIte]

theorem enc_prog {m k : List Int} (hf : St.Fr m k) {den : Int} {mode : Nat} (h0 : 0 < den) (h : den ≤ 50) (hm : mode < k.length) :
    ∃ a b : Int, f54 (((m, (k, ())), ()), ((mode : Int), (den, ()))) = some ((a, (b, ())), ()) ∧ 0 ≤ a ∧ a ≤ b ∧ b ≤ 80 * den := by
  obtain ⟨D, hD⟩ : ∃ D : Nat, den = (D : Int) := ⟨den.toNat, by omega⟩
  obtain ⟨u, hu, u1, u2, u3⟩ := l83_eq hf (mode := (mode : Int)) h0 h
  obtain ⟨v, hv, v1, v2, v3⟩ := l83b_eq hf (mode := (mode : Int)) h0 h
  have hz := cC_zero hf h0
  have hh := cC_high hf h0 (x := 80 * D) (by omega)
  have hu0 : 0 < u := by
    rcases Nat.eq_zero_or_pos u with c | c
    · subst c
      have := u3 (by omega)
      omega
    · exact c
  have hu80 : u ≤ 80 * D := by
    rcases Nat.lt_or_ge (80 * D) u with c | c
    · have := u2 (80 * D) c
      omega
    · exact c
  have hvu : v ≤ u := by
    rcases Nat.lt_or_ge u v with c | c
    · have a1 := v2 u c
      have a2 := u3 (by omega)
      have a3 : cC m k den u ≤ cU m k den u := (St.upto_le hf _ _).2
      omega
    · exact c
  have huv : u ≤ v + 1 := by
    rcases Nat.lt_or_ge (v + 1) u with c | c
    · have a1 := v3 (by omega)
      have a2 := cU_lt hf h0 (show v < v + 1 by omega)
      have a3 := u2 (v + 1) c
      omega
    · exact c
  have wu : wrap64 ((u : Int) - 1) = (u : Int) - 1 := wr_abs (by omega)
  refine ⟨(u : Int) - 1, (v : Int), ?_, by omega, by omega, by omega⟩
  simp only [f54, t54, b83_0, hu, isBrk, outB, b83_0_1, hv, wu, Tr.val_test, Tr.val_fin, Tr.val_stop, ↓reduceIte]

end Go.Vm.Mo
