import Derived.Test.YtklljhgfniodaaaRsFd
import Derived.Test.YtklljhgfniodaaaA4
import Derived.Test.YtklljhgfniodaaaRsS
set_option linter.unusedVariables false
set_option linter.unusedSimpArgs false

namespace Go.Vm.Mo
open Go
set_option linter.unusedVariables false
set_option linter.unusedSimpArgs false

theorem i64_wrap (n : Int) : IntKind.wrap .i64 n = wrap64 n := (wrap64_eq n).symm

theorem wr_abs {n : Int} (h : n.natAbs ≤ 9223372036854775807) : wrap64 n = n := wrap64_id (by omega) (by omega)

theorem f110_eq (x : Int) : f110 (x, ()) = some (St.sgn x, ()) := by
  simp only [f110, t110, Tr.val_test, Tr.val_fin, leF_eq, St.sgn]
  by_cases h1 : x < 0
  · rw [if_pos (by simpa using h1), if_pos h1]
  · rw [if_neg (by simpa using h1), if_neg h1]
    by_cases h2 : 0 < x
    · rw [if_pos (by simpa using h2), if_pos h2]
    · rw [if_neg (by simpa using h2), if_neg h2]

theorem sgn_abs (x : Int) : -1 ≤ St.sgn x ∧ St.sgn x ≤ 1 := by unfold St.sgn; split <;> (try split) <;> decide

theorem chg_two (v : Nat → Int) : ∀ n, -1 ≤ (St.chg v n).2 ∧ (St.chg v n).2 ≤ 1 ∧ 0 ≤ (St.chg v n).1 ∧ (St.chg v n).1 ≤ (n : Int)
  | 0 => by simp [St.chg]
  | n + 1 => by
    obtain ⟨h1, h2, h3, h4⟩ := chg_two v n
    have hs := sgn_abs (v n)
    simp only [St.chg]
    refine ⟨?_, ?_, ?_, ?_⟩ <;> split <;> omega

theorem chg_congr {v w : Nat → Int} : ∀ n, (∀ i, i < n → St.sgn (v i) = St.sgn (w i)) → St.chg v n = St.chg w n
  | 0, _ => rfl
  | n + 1, h => by simp only [St.chg]; rw [chg_congr n (fun i hi => h i (by omega)), h n (by omega)]

theorem l81_eq (l : List Int) (h : l.length ≤ 1000000) : l81_0 (((0 : Int), ((0 : Int), (l, ((l.length : Int), ((0 : Int), ()))))), ()) = some (.inl (((St.chg (St.gt l) l.length).1, ()), ())) := by
  refine itr_brk (step := s81_0) (fun i => (((St.chg (St.gt l) i).1, ((St.chg (St.gt l) i).2, (l, ((l.length : Int), ((i : Int), ()))))), ())) (n := l.length) ?_ ?_ (lt_rounds (by omega))
  · intro i hi
    obtain ⟨h1, h2, h3, h4⟩ := chg_two (St.gt l) i
    have hs := sgn_abs (St.gt l i)
    have e : l.getD i 0 = St.gt l i := rfl
    simp only [s81_0, t81_0, Tr.val_test, Tr.val_fin, Tr.val_stop, leF_eq, eqF_eq, g110, Int.toNat_natCast, e, f110_eq (St.gt l i), Option.isSome_some, Option.getD_some, if_true]
    rw [if_pos (by simp; omega), if_pos (by simp; omega), wrap64_nat (by omega), St.chg]
    generalize hc : St.chg (St.gt l) i = c at *
    generalize hg : St.gt l i = x at *
    have hm : wrap64 (St.sgn x * c.2) = St.sgn x * c.2 := by
      rcases (show St.sgn x = -1 ∨ St.sgn x = 0 ∨ St.sgn x = 1 by omega) with e | e | e <;> rw [e] <;> exact wrap64_id (by omega) (by omega)
    rw [hm, wrap64_id (n := c.1 + 1) (by omega) (by omega)]
    by_cases c1 : St.sgn x * c.2 < 0
    · rw [if_pos (by simpa using c1)]
      by_cases c2 : St.sgn x = 0
      · rw [if_neg (by simpa using c2), if_pos c1, if_neg (by simpa using c2)]
      · rw [if_pos (by simpa using c2), if_pos c1, if_pos c2]
    · rw [if_neg (by simpa using c1)]
      by_cases c2 : St.sgn x = 0
      · rw [if_neg (by simpa using c2), if_neg c1, if_neg (by simpa using c2)]
      · rw [if_pos (by simpa using c2), if_neg c1, if_pos c2]
  · simp [s81_0, t81_0, leF_eq]

theorem f81_eq (l : List Int) (h : l.length ≤ 1000000) : f81 (l, ()) = some ((St.chg (St.gt l) l.length).1, ()) := by
  have e := l81_eq l h
  simp only [f81, t81, b81_0, e, isBrk, outB, Tr.val_test, Tr.val_fin, if_true]

theorem f92_eq {m k : List Int} (hf : St.Fr m k) {i : Nat} (hi : i < k.length) : f92 (((m, (k, ())), ()), ((i : Int), ())) = some (St.stf k i, ()) := by
  have h4 := hf.top
  have h1 := hf.spring i hi
  simp only [f92, t92, Tr.val_test, Tr.val_fin, Tr.val_stop, eqF_eq, wrap64_nat (show i ≤ 9223372036854775806 by omega), Int.toNat_natCast]
  unfold St.stf
  by_cases c : i + 1 = k.length
  · rw [if_pos (by simp; omega), if_pos (by simp; omega), if_pos c]
    rfl
  · have h2 := hf.spring (i + 1) (by omega)
    rw [if_neg (by simp; omega), if_pos (by simp; omega), if_pos (by simp; omega), if_neg c]
    rw [show k.getD i 0 = St.gt k i from rfl, show k.getD (i + 1) 0 = St.gt k (i + 1) from rfl, wr_abs (by omega)]

/-- A determinant as it lies in memory. -/
def pd (m k : List Int) (j : Nat) : Int × Int × Int × Int × Int × Unit := (St.Dc m k j 0, St.Dc m k j 1, St.Dc m k j 2, St.Dc m k j 3, St.Dc m k j 4, ())

theorem f111_eq (c : Nat → Int) (p q : Int) : f111 ((c 0, (c 1, (c 2, (c 3, (c 4, ()))))), ((p, (q, ())), ())) = some (wrap64 (St.ev c p q), ()) := by
  simp only [f111, t111, Tr.val_fin, wrap64_add_l, wrap64_add_r, wrap64_mul_l, wrap64_mul_r]
  refine congrArg some (Prod.ext ?_ rfl)
  refine congrArg wrap64 ?_
  simp only [St.ev]
  grind

theorem f91_eq (c0 c1 c2 c3 c4 x y : Int) (hx : x.natAbs ≤ 1000) (hy : y.natAbs ≤ 1000) (h0 : c0.natAbs ≤ 100000000) (h1 : c1.natAbs ≤ 100000000) (h2 : c2.natAbs ≤ 100000000) (h3 : c3.natAbs ≤ 100000000) (h4 : c4.natAbs ≤ 100000000) :
    f91 ((c0, (c1, (c2, (c3, (c4, ()))))), (x, (y, ()))) = some ((x * c0, (x * c1 + y * c0, (x * c2 + y * c1, (x * c3 + y * c2, (x * c4 + y * c3, ()))))), ()) := by
  have mb : ∀ a c : Int, a.natAbs ≤ 1000 → c.natAbs ≤ 100000000 → (a * c).natAbs ≤ 100000000000 := by
    intro a c ha hc
    rw [Int.natAbs_mul]
    exact Nat.mul_le_mul ha hc
  have a0 := mb x c0 hx h0
  have a1 := mb x c1 hx h1
  have a2 := mb x c2 hx h2
  have a3 := mb x c3 hx h3
  have a4 := mb x c4 hx h4
  have b0 := mb y c0 hy h0
  have b1 := mb y c1 hy h1
  have b2 := mb y c2 hy h2
  have b3 := mb y c3 hy h3
  simp only [f91, t91, Tr.val_fin, wrap64_add_l, wrap64_add_r, wrap64_wrap64, Int.mul_zero, Int.add_zero]
  rw [wr_abs (n := x * c0) (by omega), wr_abs (n := x * c1 + y * c0) (by omega), wr_abs (n := x * c2 + y * c1) (by omega), wr_abs (n := x * c3 + y * c2) (by omega), wr_abs (n := x * c4 + y * c3) (by omega)]

theorem f93_eq (a0 a1 a2 a3 a4 c0 c1 c2 c3 c4 : Int) (k0 : a0.natAbs ≤ 1000000000000) (k1 : a1.natAbs ≤ 1000000000000) (k2 : a2.natAbs ≤ 1000000000000) (k3 : a3.natAbs ≤ 1000000000000) (k4 : a4.natAbs ≤ 1000000000000)
    (h0 : c0.natAbs ≤ 1000000000000) (h1 : c1.natAbs ≤ 1000000000000) (h2 : c2.natAbs ≤ 1000000000000) (h3 : c3.natAbs ≤ 1000000000000) (h4 : c4.natAbs ≤ 1000000000000) :
    f93 ((a0, (a1, (a2, (a3, (a4, ()))))), ((c0, (c1, (c2, (c3, (c4, ()))))), ())) = some ((a0 - c0, (a1 - c1, (a2 - c2, (a3 - c3, (a4 - c4, ()))))), ()) := by
  have sb : ∀ a c : Int, a.natAbs ≤ 1000000000000 → c.natAbs ≤ 1000000000000 → wrap64 (a - c) = a - c := by
    intro a c ha hc
    exact wr_abs (by omega)
  simp only [f93, t93, Tr.val_fin]
  rw [sb _ _ k0 h0, sb _ _ k1 h1, sb _ _ k2 h2, sb _ _ k3 h3, sb _ _ k4 h4]

theorem pd_le {m k : List Int} (hf : St.Fr m k) {i : Nat} (hi : i ≤ k.length) (c : Nat) : (St.Dc m k (i + 1) c).natAbs ≤ 24010000 ∧ (St.Dc m k i c).natAbs ≤ 24010000 := by
  obtain ⟨h1, h2⟩ := St.Dc_le hf i hi c
  have h4 := hf.top
  have h3 : 70 ^ i ≤ 70 ^ 4 := Nat.pow_le_pow_right (by decide) (by omega)
  have e : 70 ^ 4 = 24010000 := rfl
  omega

theorem m_neg {m k : List Int} (hf : St.Fr m k) {i : Nat} (hi : i < k.length) : IntKind.wrap .i64 (0 - m.getD i 0) = -(St.gt m i) := by
  have h := hf.mass i hi
  rw [i64_wrap, show m.getD i 0 = St.gt m i from rfl, wr_abs (by omega), Int.zero_sub]

theorem k_sq {m k : List Int} (hf : St.Fr m k) {i : Nat} (hi : i < k.length) : wrap64 (k.getD i 0 * k.getD i 0) = St.gt k i * St.gt k i ∧ (St.gt k i * St.gt k i).natAbs ≤ 1000 := by
  have h := hf.spring i hi
  have e : (St.gt k i * St.gt k i).natAbs ≤ 20 * 20 := by rw [Int.natAbs_mul]; exact Nat.mul_le_mul (by omega) (by omega)
  refine ⟨?_, by omega⟩
  rw [show k.getD i 0 = St.gt k i from rfl, wr_abs (by omega)]

/-- The first product. -/
def pA (m k : List Int) (i : Nat) : Int × Int × Int × Int × Int × Unit :=
  (St.stf k i * St.Dc m k (i + 1) 0, (St.stf k i * St.Dc m k (i + 1) 1 + -(St.gt m i) * St.Dc m k (i + 1) 0, (St.stf k i * St.Dc m k (i + 1) 2 + -(St.gt m i) * St.Dc m k (i + 1) 1, (St.stf k i * St.Dc m k (i + 1) 3 + -(St.gt m i) * St.Dc m k (i + 1) 2, (St.stf k i * St.Dc m k (i + 1) 4 + -(St.gt m i) * St.Dc m k (i + 1) 3, ())))))

/-- The second one. -/
def pB (m k : List Int) (i : Nat) : Int × Int × Int × Int × Int × Unit :=
  (St.gt k i * St.gt k i * St.Dc m k i 0, (St.gt k i * St.gt k i * St.Dc m k i 1 + 0 * St.Dc m k i 0, (St.gt k i * St.gt k i * St.Dc m k i 2 + 0 * St.Dc m k i 1, (St.gt k i * St.gt k i * St.Dc m k i 3 + 0 * St.Dc m k i 2, (St.gt k i * St.gt k i * St.Dc m k i 4 + 0 * St.Dc m k i 3, ())))))

theorem q91a {m k : List Int} (hf : St.Fr m k) {i : Nat} (hi : i < k.length) : f91 (pd m k (i + 1), (St.stf k i, (-(St.gt m i), ()))) = some (pA m k i, ()) := by
  have hs := St.stf_le hf hi
  have hm := hf.mass i hi
  exact f91_eq _ _ _ _ _ _ _ (by omega) (by omega) (by have := (pd_le hf (Nat.le_of_lt hi) 0).1; omega) (by have := (pd_le hf (Nat.le_of_lt hi) 1).1; omega) (by have := (pd_le hf (Nat.le_of_lt hi) 2).1; omega) (by have := (pd_le hf (Nat.le_of_lt hi) 3).1; omega) (by have := (pd_le hf (Nat.le_of_lt hi) 4).1; omega)

theorem q91b {m k : List Int} (hf : St.Fr m k) {i : Nat} (hi : i < k.length) : f91 (pd m k i, (St.gt k i * St.gt k i, ((0 : Int), ()))) = some (pB m k i, ()) := by
  have hk := (k_sq hf hi).2
  exact f91_eq _ _ _ _ _ _ _ hk (by decide) (by have := (pd_le hf (Nat.le_of_lt hi) 0).2; omega) (by have := (pd_le hf (Nat.le_of_lt hi) 1).2; omega) (by have := (pd_le hf (Nat.le_of_lt hi) 2).2; omega) (by have := (pd_le hf (Nat.le_of_lt hi) 3).2; omega) (by have := (pd_le hf (Nat.le_of_lt hi) 4).2; omega)

theorem q93 {m k : List Int} (hf : St.Fr m k) {i : Nat} (hi : i < k.length) : f93 (pA m k i, (pB m k i, ())) = some (pd m k (i + 2), ()) := by
  have hs := St.stf_le hf hi
  have hm := hf.mass i hi
  have hk := (k_sq hf hi).2
  have mb : ∀ a c : Int, a.natAbs ≤ 1000 → c.natAbs ≤ 24010000 → (a * c).natAbs ≤ 24010000000 := by
    intro a c ha hc
    rw [Int.natAbs_mul]
    exact Nat.mul_le_mul ha hc
  have a := fun c => mb (St.stf k i) (St.Dc m k (i + 1) c) (by omega) (pd_le hf (Nat.le_of_lt hi) c).1
  have b := fun c => mb (-(St.gt m i)) (St.Dc m k (i + 1) c) (by omega) (pd_le hf (Nat.le_of_lt hi) c).1
  have c := fun c => mb (St.gt k i * St.gt k i) (St.Dc m k i c) hk (pd_le hf (Nat.le_of_lt hi) c).2
  have ab : ∀ u v : Int, u.natAbs ≤ 24010000000 → v.natAbs ≤ 24010000000 → (u + v).natAbs ≤ 1000000000000 := by
    intro u v hu hv
    omega
  have az : ∀ u v : Int, u.natAbs ≤ 24010000000 → (u + 0 * v).natAbs ≤ 1000000000000 := by
    intro u v hu
    rw [Int.zero_mul, Int.add_zero]
    omega
  have e := f93_eq (pA m k i).1 (pA m k i).2.1 (pA m k i).2.2.1 (pA m k i).2.2.2.1 (pA m k i).2.2.2.2.1 (pB m k i).1 (pB m k i).2.1 (pB m k i).2.2.1 (pB m k i).2.2.2.1 (pB m k i).2.2.2.2.1
    (Nat.le_trans (a 0) (by decide)) (ab _ _ (a 1) (b 0)) (ab _ _ (a 2) (b 1)) (ab _ _ (a 3) (b 2)) (ab _ _ (a 4) (b 3))
    (Nat.le_trans (c 0) (by decide)) (az _ _ (c 1)) (az _ _ (c 2)) (az _ _ (c 3)) (az _ _ (c 4))
  refine e.trans ?_
  simp only [pA, pB, pd, St.Dc, Int.zero_mul, Int.add_zero, Int.neg_mul, Int.sub_eq_add_neg]

/-- The values of the first n determinants. -/
def vals (m k : List Int) (p q : Int) (n : Nat) : List Int := (List.range n).map fun i => St.ev (St.Dc m k (i + 1)) p q

theorem vals_len (m k : List Int) (p q : Int) (n : Nat) : (vals m k p q n).length = n := by simp [vals]

theorem vals_succ (m k : List Int) (p q : Int) (n : Nat) : vals m k p q n ++ [St.ev (St.Dc m k (n + 1)) p q] = vals m k p q (n + 1) := by
  simp [vals, List.range_succ]

theorem vals_at (m k : List Int) (p q : Int) {n i : Nat} (h : i < n) : St.gt (vals m k p q n) i = St.ev (St.Dc m k (i + 1)) p q := by
  simp [St.gt, vals, List.getD_eq_getElem?_getD, h]

theorem q111 {m k : List Int} (hf : St.Fr m k) {p q : Int} (hq : 0 < q) (hb : St.bd p q ≤ 42500) {j : Nat} (hj : j ≤ k.length) : f111 (pd m k (j + 1), ((p, (q, ())), ())) = some (St.ev (St.Dc m k (j + 1)) p q, ()) := by
  have e := f111_eq (St.Dc m k (j + 1)) p q
  have h := St.ev_le hf hq hb hj
  rw [wr_abs (Nat.le_trans h (by decide))] at e
  exact e

theorem l90_eq {m k : List Int} (hf : St.Fr m k) {p q : Int} (hq : 0 < q) (hb : St.bd p q ≤ 42500) :
    l90_0 ((m, ((m.length : Int), ((0 : Int), ()))), ((), ((m, (k, ())), (pd m k 0, (pd m k 1, ((p, (q, ())), (([], ()), ()))))))) =
      some (.inl ((), ((), ((m, (k, ())), (pd m k k.length, (pd m k (k.length + 1), ((p, (q, ())), ((vals m k p q k.length, ()), ())))))))) := by
  have h4 := hf.top
  have hl := hf.len
  refine itr_brk (step := s90_0) (fun i => ((m, ((m.length : Int), ((i : Int), ()))), ((), ((m, (k, ())), (pd m k i, (pd m k (i + 1), ((p, (q, ())), ((vals m k p q i, ()), ())))))))) (n := k.length) ?_ ?_ (lt_rounds (by omega))
  · intro i hi
    have e1 := q111 hf hq hb (j := i) (by omega)
    have e2 := f92_eq hf hi
    have e3 := m_neg hf hi
    have e4 := (k_sq hf hi).1
    have e5 := q91a hf hi
    have e6 := q91b hf hi
    have e7 := q93 hf hi
    simp only [pd, pA, pB] at e1 e5 e6 e7
    simp only [s90_0, t90_0, pd, Int.toNat_natCast, e3, e4, g92, e2, g91, g111, e1, Option.getD_some, Option.isSome_some, e5, e6, g93, e7, Tr.val_test, Tr.val_fin, Tr.val_stop, leF_eq, if_true, wrap64_nat (show i ≤ 9223372036854775806 by omega), vals_succ, vals_len]
    rw [if_pos (by simp; omega), if_pos (by simp; omega), if_pos (by simp [Nat.ble_eq]; omega), if_pos (by simp; omega)]
  · simp only [s90_0, t90_0, Tr.val_test, Tr.val_fin, Tr.val_stop, leF_eq]
    rw [if_neg (by simp; omega)]

theorem f82_eq {m k : List Int} (hf : St.Fr m k) {p q : Int} (hq : 0 < q) (hb : St.bd p q ≤ 42500) : f82 (((m, (k, ())), ()), ((p, (q, ())), ())) = some (vals m k p q (k.length + 1), ()) := by
  have h4 := hf.top
  have e := l90_eq hf hq hb
  have e0 : pd m k 0 = ((0 : Int), ((0 : Int), ((0 : Int), ((0 : Int), ((0 : Int), ()))))) := rfl
  have e1 : pd m k 1 = ((1 : Int), ((0 : Int), ((0 : Int), ((0 : Int), ((0 : Int), ()))))) := rfl
  rw [e0, e1] at e
  have e2 := q111 hf hq hb (j := k.length) (Nat.le_refl _)
  simp only [pd] at e2
  simp only [f82, t82, b90_0, e, isBrk, outB, pd, g111, e2, Option.isSome_some, Option.getD_some, Tr.val_test, Tr.val_fin, Tr.val_stop, if_true, vals_succ, vals_len]
  rw [if_pos (by simp [Nat.ble_eq]; omega)]

theorem first_map (bad : Nat → Bool) : ∀ (n i : Nat), first bad n (i + 1) = (first (fun k => bad (k + 1)) n i).map (· + 1)
  | 0, _ => rfl
  | n + 1, i => by
    simp only [first]
    split
    · rfl
    · exact first_map bad n (i + 1)

/-- The first that is not 0. -/
def firstNZ : List Int → Int
  | [] => 0
  | a :: l => if a = 0 then firstNZ l else a

theorem firstNZ_eq : ∀ l : List Int, (match first (fun i => !decide (l.getD i 0 = 0)) l.length 0 with
    | some k => l.getD k 0
    | none => 0) = firstNZ l
  | [] => rfl
  | a :: l => by
    simp only [List.length, first, firstNZ]
    by_cases ha : a = 0
    · subst ha
      have e := firstNZ_eq l
      have hf : first (fun i => !decide (((0 : Int) :: l).getD i 0 = 0)) l.length (0 + 1) = (first (fun i => !decide (l.getD i 0 = 0)) l.length 0).map (· + 1) := by
        rw [first_map]; rfl
      simp only [hf, List.getD_cons_zero, decide_true, Bool.not_true, Bool.false_eq_true, if_false, if_true]
      rw [← e]
      cases first (fun i => !decide (l.getD i 0 = 0)) l.length 0 with
      | none => rfl
      | some k => rfl
    · simp [ha]

theorem l72 (l : List Int) (h : l.length ≤ 1000000000) : l72_0 ((l, (l.length : Int), (0 : Int), ()), ()) = match first (fun i => !decide (l.getD i 0 = 0)) l.length 0 with
    | some k => some (.inr ((l.getD k 0, ()), ()))
    | none => some (.inl ((), ())) := by
  refine itr_search (fun i => ((l, (l.length : Int), (i : Int), ()), ())) (fun i => !decide (l.getD i 0 = 0)) (fun k => ((l.getD k 0, ()), ())) (n := l.length) ?_ ?_ (lt_rounds (by omega))
  · intro i hi
    simp only [s72_0, t72_0, Tr.val_test, leF_eq, eqF_eq]
    rw [if_pos (by simp; omega), if_pos (by simp; omega)]
    simp only [Int.toNat_natCast, wrap64_nat (show i ≤ 9223372036854775806 by omega)]
    rfl
  · simp [s72_0, t72_0, leF_eq]

theorem f72_eq (l : List Int) (h : l.length ≤ 1000000000) : f72 (l, ()) = some (firstNZ l, ()) := by
  simp only [f72, t72, Tr.val_test, r72_0, l72 l h, ← firstNZ_eq l]
  cases first (fun i => !decide (l.getD i 0 = 0)) l.length 0 with
  | none => rfl
  | some k => rfl

theorem f52_eq (d : Tys.data as52) : f52 d = some (if d.1 = true then d.2.1 else (0 : Int), ()) := by
  simp only [f52, t52, Tr.val_test]
  split <;> rfl

def wi (lo hi x : Int) : Bool := decide (lo ≤ x) && decide (x ≤ hi)

theorem wi_iff {lo hi x : Int} : wi lo hi x = true ↔ lo ≤ x ∧ x ≤ hi := by simp [wi]

theorem f21_eq (d : Tys.data as21) : f21 d = some (wi d.2.1 d.2.2.1 d.1, ()) := by
  simp only [f21, t21, Tr.val_test, Tr.val_fin, leF_eq, decide_eq_true_eq, wi]
  split <;> simp [*]

theorem l51 (lo hi : Int) (l : List Int) (h : l.length ≤ 1000000000) : l51_0 ((lo, hi, l, (l.length : Int), (0 : Int), ()), ()) = match first (fun i => !wi lo hi (l.getD i 0)) l.length 0 with
    | some _ => some (.inr ((false, ()), ()))
    | none => some (.inl ((), ())) := by
  refine itr_search (fun i => ((lo, hi, l, (l.length : Int), (i : Int), ()), ())) (fun i => !wi lo hi (l.getD i 0)) (fun _ => ((false, ()), ())) (n := l.length) ?_ ?_ (lt_rounds (by omega))
  · intro i hi'
    simp only [s51_0, t51_0, Tr.val_test, Tr.val_fin, leF_eq, Int.toNat_natCast, wrap64_nat (show i ≤ 9223372036854775806 by omega)]
    rw [if_pos (by simp; omega), if_pos (by simp; omega)]
    by_cases a0 : lo ≤ l.getD i 0
    · by_cases a1 : l.getD i 0 ≤ hi
      · simp only [wi, a0, a1, decide_true, Bool.and_self, Bool.not_true, if_true, if_false, Bool.false_eq_true]
      · simp only [wi, a0, a1, decide_true, decide_false, Bool.and_false, Bool.not_false, Bool.not_true, if_true, if_false, Bool.false_eq_true]
    · simp only [wi, a0, decide_false, Bool.false_and, Bool.not_false, if_true, if_false, Bool.false_eq_true]
  · simp [s51_0, t51_0, leF_eq]

theorem f51_eq (lo hi : Int) (l : List Int) (h : l.length ≤ 1000000000) : f51 (lo, hi, l, ()) = some ((first (fun i => !wi lo hi (l.getD i 0)) l.length 0).isNone, ()) := by
  have hl := l51 lo hi l h
  cases hf : first (fun i => !wi lo hi (l.getD i 0)) l.length 0 with
  | none =>
    rw [hf] at hl
    simp only [f51, t51, Tr.val_test, Tr.val_fin, hl, isRet, Option.isSome_some, Option.isNone_none, if_true, Bool.false_eq_true, if_false]
  | some k =>
    rw [hf] at hl
    simp only [f51, t51, Tr.val_test, Tr.val_fin, hl, isRet, r51_0, outR, Option.isSome_some, Option.isNone_some, if_true]

theorem f51_two (lo hi a b : Int) : f51 (lo, hi, [a, b], ()) = some (wi lo hi a && wi lo hi b, ()) := by
  rw [f51_eq lo hi _ (by simp)]
  simp only [first, List.length, List.getD_cons_zero, List.getD_cons_succ]
  by_cases h1 : wi lo hi a = true
  · by_cases h2 : wi lo hi b = true
    · simp [h1, h2]
    · simp [h1, h2]
  · simp [h1]

theorem f51_one (lo hi a : Int) : f51 (lo, hi, [a], ()) = some (wi lo hi a, ()) := by
  rw [f51_eq lo hi _ (by simp)]
  simp only [first, List.length, List.getD_cons_zero]
  by_cases h1 : wi lo hi a = true
  · simp [h1]
  · simp [h1]

abbrev Rg := Int × Int × PUnit.{1}
def rAt (l : List Rg) (i : Nat) : Rg := l.getD i ((0 : Int), (0 : Int), ())

/-- The error of one range. -/
def rgE (lo hi : Int) (r : Rg) : Int := if wi lo hi r.1 = false then 2 else if wi lo hi r.2.1 = false then 2 else if ¬ r.1 ≤ r.2.1 then 9 else 0

def rsF (lo hi : Int) (l : List Rg) : Int := match first (fun i => !decide (rgE lo hi (rAt l i) = 0)) l.length 0 with
  | some k => rgE lo hi (rAt l k)
  | none => 0

theorem l104 (lo hi : Int) (l : List Rg) (h : l.length ≤ 1000000000) : l104_0 ((l, (l.length : Int), (0 : Int), ()), (lo, ()), (hi, ()), ()) = match first (fun i => !decide (rgE lo hi (rAt l i) = 0)) l.length 0 with
    | some k => some (.inr (((k : Int), rgE lo hi (rAt l k), ()), (lo, ()), (hi, ()), ()))
    | none => some (.inl ((), (lo, ()), (hi, ()), ())) := by
  refine itr_search (fun i => ((l, (l.length : Int), (i : Int), ()), (lo, ()), (hi, ()), ())) (fun i => !decide (rgE lo hi (rAt l i) = 0)) (fun k => (((k : Int), rgE lo hi (rAt l k), ()), (lo, ()), (hi, ()), ())) (n := l.length) ?_ ?_ (lt_rounds (by omega))
  · intro i hi'
    have e1 := f51_two lo hi (rAt l i).1 (rAt l i).2.1
    simp only [rAt] at e1
    simp only [s104_0, t104_0, Tr.val_test, Tr.val_fin, Tr.val_stop, leF_eq, eqF_eq, Int.toNat_natCast, wrap64_nat (show i ≤ 9223372036854775806 by omega)]
    rw [if_pos (by simp; omega), if_pos (by simp; omega)]
    simp only [g51, g52, g72, e1, f52_eq, Option.isSome_some, Option.getD_some, if_true]
    rw [f72_eq _ (by simp)]
    simp only [Option.isSome_some, Option.getD_some, if_true, firstNZ, rAt, rgE]
    by_cases a0 : wi lo hi (List.getD l i ((0 : Int), (0 : Int), ())).1 = true
    · by_cases a1 : wi lo hi (List.getD l i ((0 : Int), (0 : Int), ())).2.1 = true
      · by_cases a2 : (List.getD l i ((0 : Int), (0 : Int), ())).1 ≤ (List.getD l i ((0 : Int), (0 : Int), ())).2.1
        · simp only [a0, a1, a2]; simp
        · simp only [a0, a1, a2]; simp
      · simp only [a0, a1]; simp
    · simp only [a0]; simp
  · simp [s104_0, t104_0, leF_eq]

theorem f103_eq (lo hi : Int) (l : List Rg) (h : l.length ≤ 1000000000) : f103 (l, lo, hi, ()) = some (rsF lo hi l, ()) := by
  have hl := l104 lo hi l h
  unfold rsF
  cases hf : first (fun i => !decide (rgE lo hi (rAt l i) = 0)) l.length 0 with
  | none =>
    rw [hf] at hl
    simp only [f103, t103, Tr.val_test, Tr.val_fin, hl, isRet, Option.isSome_some, if_true, Bool.false_eq_true, if_false]
  | some k =>
    rw [hf] at hl
    simp only [f103, t103, Tr.val_test, Tr.val_fin, hl, isRet, r104_0, outR, Option.isSome_some, if_true]

def mx (a b : Int) : Int := if a < b then b else a
def mn (a b : Int) : Int := if b < a then b else a
def cut (a : Int × Int) (r : Rg) : Int × Int := (mx a.1 r.1, mn a.2 r.2.1)
def cuts (a : Int × Int) (l : List Rg) : Int × Int := l.foldl cut a

theorem take_rAt (l : List Rg) {i : Nat} (h : i < l.length) : l.take (i + 1) = l.take i ++ [rAt l i] := by
  rw [List.take_succ_eq_append_getElem h]
  simp [rAt, List.getD, h]

theorem cuts_succ (a : Int × Int) (l : List Rg) {i : Nat} (h : i < l.length) : cuts a (l.take (i + 1)) = cut (cuts a (l.take i)) (rAt l i) := by
  rw [take_rAt l h, cuts, List.foldl_append]; rfl

theorem l74 (a b : Int) (l : List Rg) (h : l.length ≤ 1000000000) : l74_0 ((l, (l.length : Int), (0 : Int), ()), ((0 : Int), (0 : Int), ()), (a, b, ()), ()) = some (.inl ((), ((0 : Int), (0 : Int), ()), ((cuts (a, b) l).1, (cuts (a, b) l).2, ()), ())) := by
  have := itr_brk (step := s74_0) (fun i => ((l, (l.length : Int), (i : Int), ()), ((0 : Int), (0 : Int), ()), ((cuts (a, b) (l.take i)).1, (cuts (a, b) (l.take i)).2, ()), ())) (n := l.length) (m := rounds) (b := ((), ((0 : Int), (0 : Int), ()), ((cuts (a, b) l).1, (cuts (a, b) l).2, ()), ())) ?_ ?_ (lt_rounds (by omega))
  · exact this
  · intro i hi
    simp only [s74_0, t74_0, Tr.val_test, Tr.val_fin, leF_eq, Int.toNat_natCast, wrap64_nat (show i ≤ 9223372036854775806 by omega)]
    rw [if_pos (by simp; omega), if_pos (by simp; omega)]
    rw [cuts_succ (a, b) l hi]
    rfl
  · simp [s74_0, t74_0, leF_eq]

theorem f74_eq (a b : Int) (l : List Rg) (h : l.length ≤ 1000000000) : f74 ((a, b, ()), l, ()) = some (((cuts (a, b) l).1, (cuts (a, b) l).2, ()), decide ((cuts (a, b) l).1 ≤ (cuts (a, b) l).2), ()) := by
  simp only [f74, t74, Tr.val_test, Tr.val_fin, b74_0, l74 a b l h, isBrk, outB, if_true]

def meetB (a r : Rg) : Bool := decide (mx a.1 r.1 ≤ mn a.2.1 r.2.1)

theorem f74_one (a r : Rg) : f74 ((a.1, a.2.1, ()), [(r.1, r.2.1, ())], ()) = some ((mx a.1 r.1, mn a.2.1 r.2.1, ()), meetB a r, ()) := f74_eq a.1 a.2.1 [(r.1, r.2.1, ())] (by simp)

theorem f71_eq (a r : Rg) : f71 ((a.1, a.2.1, ()), (r.1, r.2.1, ()), ()) = some (meetB a r, ()) := by
  simp only [f71, t71, Tr.val_fin, leF_eq]
  rfl

/-- A fraction in lowest terms. -/
def low (a b : Int) : Int × Int × Unit := (a.tdiv (Int.gcd a b), b.tdiv (Int.gcd a b), ())

theorem wrapI_id {n : Int} (h1 : -9223372036854775808 ≤ n) (h2 : n ≤ 9223372036854775807) : IntKind.wrap .i64 n = n := by rw [← wrap64_eq, wrap64_id h1 h2]

def fl (n d : Int) : Int := if Int.tmod n d < 0 then Int.tdiv n d - 1 else Int.tdiv n d

theorem fl_spec (n : Int) {d : Int} (h : 0 < d) : fl n d * d ≤ n ∧ n < fl n d * d + d := by
  have e := Int.mul_tdiv_add_tmod n d
  have h1 := Int.tmod_lt_of_pos n h
  have h2 := Int.lt_tmod_of_pos n h
  unfold fl
  rw [Int.mul_comm] at e
  split
  · rw [Int.sub_mul, Int.one_mul]; omega
  · omega

theorem f66_eq (n d : Int) (h : 0 < d) (hn : n.natAbs ≤ 1000000000000) : f66 (n, d, ()) = some (fl n d, ()) := by
  have h1 := Int.natAbs_tdiv_le_natAbs n d
  have w1 : IntKind.wrap .i64 (Int.tdiv n d) = Int.tdiv n d := wrapI_id (by omega) (by omega)
  have w2 : wrap64 (Int.tdiv n d - 1) = Int.tdiv n d - 1 := wrap64_id (by omega) (by omega)
  simp only [f66, t66, Tr.val_test, Tr.val_fin, Tr.val_stop, leF_eq, w1, w2, fl]
  rw [if_neg (by simp; omega)]
  by_cases hm : Int.tmod n d < 0
  · rw [if_pos (by simpa using hm), if_pos hm]
  · rw [if_neg (by simpa using hm), if_neg hm]

/-- Which of two quotients is greater. -/
def cq (n d m k : Int) : Int := if n * k < m * d then -1 else if n * k = m * d then 0 else 1

theorem cmp_go : ∀ (s : Nat) (n d m k : Int), 0 < d → 0 < k → d.toNat + k.toNat ≤ s → d ≤ 1000000000 → k ≤ 1000000000 → n.natAbs ≤ 1000000000 → m.natAbs ≤ 1000000000 → ∀ fuel : Nat, s < fuel →
    itr s30_0 fuel ((n, d, m, k, ()), ()) = some (.inr ((cq n d m k, ()), ())) := by
  intro s
  induction s with
  | zero => intro n d m k hd hk hs; omega
  | succ s ih =>
    intro n d m k hd hk hs hd1 hk1 hn hm fuel hf
    obtain ⟨f, rfl⟩ : ∃ f, fuel = f + 1 := ⟨fuel - 1, by omega⟩
    obtain ⟨a1, a2⟩ := fl_spec n hd
    obtain ⟨b1, b2⟩ := fl_spec m hk
    have e1 := f66_eq n d hd (by omega)
    have e2 := f66_eq m k hk (by omega)
    have w1 : wrap64 (fl n d * d) = fl n d * d := wrap64_id (by omega) (by omega)
    have w2 : wrap64 (fl m k * k) = fl m k * k := wrap64_id (by omega) (by omega)
    have w3 : wrap64 (n - fl n d * d) = n - fl n d * d := wrap64_id (by omega) (by omega)
    have w4 : wrap64 (m - fl m k * k) = m - fl m k * k := wrap64_id (by omega) (by omega)
    have hstep : s30_0 ((n, d, m, k, ()), ()) = if fl n d < fl m k then some (.ret (((-1 : Int), ()), ())) else if fl m k < fl n d then some (.ret (((1 : Int), ()), ())) else if n - fl n d * d = 0 then (if m - fl m k * k = 0 then some (.ret (((0 : Int), ()), ())) else some (.ret (((-1 : Int), ()), ()))) else if m - fl m k * k = 0 then some (.ret (((1 : Int), ()), ())) else some (.again ((k, m - fl m k * k, d, n - fl n d * d, ()), ())) := by
      simp only [s30_0, t30_0, Tr.val_test, Tr.val_fin, Tr.val_stop, g66, e1, e2, Option.isSome_some, Option.getD_some, if_true, leF_eq, eqF_eq, w1, w2, w3, w4, decide_eq_true_eq, Bool.not_eq_true', decide_eq_false_iff_not, Int.not_le]
    rw [itr, hstep]
    have hdk : 0 < d * k := Int.mul_pos hd hk
    by_cases h1 : fl n d < fl m k
    · rw [if_pos h1]
      have g1 : n * k < (fl n d * d + d) * k := Int.mul_lt_mul_of_pos_right a2 hk
      have g2 : (fl m k * k) * d ≤ m * d := Int.mul_le_mul_of_nonneg_right b1 (Int.le_of_lt hd)
      have g3 : (fl n d + 1) * (d * k) ≤ fl m k * (d * k) := Int.mul_le_mul_of_nonneg_right (by omega) (Int.le_of_lt hdk)
      have g4 : (fl n d * d + d) * k = (fl n d + 1) * (d * k) := by grind
      have g5 : (fl m k * k) * d = fl m k * (d * k) := by grind
      have : n * k < m * d := by omega
      simp only [cq, if_pos this]
    · rw [if_neg h1]
      by_cases h2 : fl m k < fl n d
      · rw [if_pos h2]
        have g1 : m * d < (fl m k * k + k) * d := Int.mul_lt_mul_of_pos_right b2 hd
        have g2 : (fl n d * d) * k ≤ n * k := Int.mul_le_mul_of_nonneg_right a1 (Int.le_of_lt hk)
        have g3 : (fl m k + 1) * (d * k) ≤ fl n d * (d * k) := Int.mul_le_mul_of_nonneg_right (by omega) (Int.le_of_lt hdk)
        have g4 : (fl m k * k + k) * d = (fl m k + 1) * (d * k) := by grind
        have g5 : (fl n d * d) * k = fl n d * (d * k) := by grind
        have : m * d < n * k := by omega
        simp only [cq, if_neg (show ¬ n * k < m * d by omega), if_neg (show ¬ n * k = m * d by omega)]
      · rw [if_neg h2]
        have hp : fl m k = fl n d := by omega
        rw [hp] at b1 b2 ⊢
        generalize fl n d = p at *
        have hk' : n * k - m * d = (n - p * d) * k - (m - p * k) * d := by grind
        have a3 : 0 ≤ n - p * d := by omega
        have a4 : n - p * d < d := by omega
        have b3 : 0 ≤ m - p * k := by omega
        have b4 : m - p * k < k := by omega
        generalize n - p * d = n' at *
        generalize m - p * k = m' at *
        by_cases h3 : n' = 0
        · rw [if_pos h3]
          subst h3
          by_cases h4 : m' = 0
          · rw [if_pos h4]
            subst h4
            have : n * k = m * d := by omega
            simp only [cq, if_neg (show ¬ n * k < m * d by omega), if_pos this]
          · rw [if_neg h4]
            have : 0 < m' * d := Int.mul_pos (by omega) hd
            simp only [cq, if_pos (show n * k < m * d by omega)]
        · rw [if_neg h3]
          by_cases h4 : m' = 0
          · rw [if_pos h4]
            subst h4
            have : 0 < n' * k := Int.mul_pos (by omega) hk
            simp only [cq, if_neg (show ¬ n * k < m * d by omega), if_neg (show ¬ n * k = m * d by omega)]
          · rw [if_neg h4]
            have := ih k m' d n' (by omega) (by omega) (by omega) (by omega) (by omega) (by omega) (by omega) f (by omega)
            simp only [this]
            have e5 : cq k m' d n' = cq n d m k := by
              unfold cq
              have c1 : k * n' = n' * k := Int.mul_comm _ _
              have c2 : d * m' = m' * d := Int.mul_comm _ _
              rw [c1, c2]
              by_cases q1 : n' * k < m' * d
              · rw [if_pos q1, if_pos (by omega)]
              · rw [if_neg q1, if_neg (show ¬ n * k < m * d by omega)]
                by_cases q2 : n' * k = m' * d
                · rw [if_pos q2, if_pos (by omega)]
                · rw [if_neg q2, if_neg (by omega)]
            rw [e5]

theorem f30_eq (n d m k : Int) (hd : 0 < d) (hk : 0 < k) (hd1 : d ≤ 1000000000) (hk1 : k ≤ 1000000000) (hn : n.natAbs ≤ 1000000000) (hm : m.natAbs ≤ 1000000000) : f30 (n, d, m, k, ()) = some (cq n d m k, ()) := by
  have e : l30_0 ((n, d, m, k, ()), ()) = some (.inr ((cq n d m k, ()), ())) := cmp_go (d.toNat + k.toNat) n d m k hd hk (Nat.le_refl _) hd1 hk1 hn hm rounds (lt_rounds (by omega))
  simp only [f30, t30, Tr.val_test, Tr.val_fin, Tr.val_stop, r30_0, e, endsRet, outR, if_true]

theorem wrapJ {n : Int} (h1 : -9223372036854775808 ≤ n) (h2 : n ≤ 9223372036854775807) : IntKind.wrap .i64 n = n := by rw [← wrap64_eq, wrap64_id h1 h2]

theorem f94_abs (x : Int) (h : x.natAbs ≤ 9223372036854775807) : f94 (x, ()) = some ((x.natAbs : Int), ()) := by
  simp only [f94, t94, Tr.val_fin]
  rw [wrapJ (by omega) (by omega)]
  have e : (if x < 0 - x then 0 - x else x) = (x.natAbs : Int) := by split <;> omega
  rw [e]

theorem l113 (l : List Int) (h : l.length ≤ 1000000000) : l113_0 ((l, (l.length : Int), ()), ()) = some (.inl ((l, (trimN l l.length : Int), ()), ())) := by
  have hle := trimN_le l l.length
  refine itr_brk (fun i => ((l, ((l.length - i : Nat) : Int), ()), ())) (n := l.length - trimN l l.length) ?_ ?_ (lt_rounds (by omega))
  · intro i hi
    have h0 := trimN_zero l l.length (l.length - i - 1) (by omega) (by omega)
    have e : wrap64 (((l.length - i : Nat) : Int) - 1) = ((l.length - i - 1 : Nat) : Int) := by rw [wrap64_id (by omega) (by omega)]; omega
    simp only [s113_0, t113_0, Tr.val_test, Tr.val_fin, leF_eq, eqF_eq, e, Int.toNat_natCast, h0]
    rw [if_pos (by simp <;> omega), if_pos (by simp <;> omega), if_pos (by simp)]
    rfl
  · have e0 : l.length - (l.length - trimN l l.length) = trimN l l.length := by omega
    dsimp only
    rw [e0]
    cases hk : trimN l l.length with
    | zero => simp [s113_0, t113_0, leF_eq]
    | succ m =>
      have h0 := trimN_last l l.length m hk
      have e : wrap64 (((m + 1 : Nat) : Int) - 1) = ((m : Nat) : Int) := by rw [wrap64_id (by omega) (by omega)]; omega
      simp only [s113_0, t113_0, Tr.val_test, Tr.val_fin, leF_eq, eqF_eq, e, Int.toNat_natCast]
      rw [if_pos (by simp <;> omega), if_pos (by simp <;> omega), if_neg (by simpa using h0)]

theorem f113_eq (l : List Int) (h : l.length ≤ 1000000000) (hd : Dg l) : f113 (l, ()) = some (dig (dval l).toNat, ()) := by
  have hle := trimN_le l l.length
  simp only [f113, t113, b113_0, l113 l h, Tr.val_test, Tr.val_fin, isBrk, if_true, outB, Int.toNat_natCast]
  rw [if_pos (by simp <;> omega), trim_dig hd]

/-- A number out of its sign and its size. -/
def mkN (s n : Int) : Int × List Int × PUnit := if n = 0 then (0, [], ()) else (s, dig n.toNat, ())

theorem f95_eq (s : Int) (l : List Int) (h : l.length ≤ 1000000000) (hd : Dg l) : f95 (s, l, ()) = some (mkN s (dval l), ()) := by
  have h0 := dv_nonneg hd
  simp only [f95, t95, g113, f113_eq l h hd, Option.isSome_some, Option.getD_some, Tr.val_test, Tr.val_fin, eqF_eq, if_true, mkN]
  by_cases e : dval l = 0
  · rw [if_pos (by rw [e]; simp [dig_zero]), if_pos e, e]
    simp [dig_zero]
  · rw [if_neg e, if_neg]
    intro h2
    simp only [decide_eq_true_eq] at h2
    have h3 : (dig (dval l).toNat).length = 0 := by omega
    have := dig_nil.1 (List.eq_nil_of_length_eq_zero h3)
    omega

theorem mkN_enc {s z : Int} (h : z ≠ 0 → s = z.sign) : mkN s z.natAbs = enc z := by
  unfold mkN enc
  by_cases e : z = 0
  · subst e; simp [dig_zero]
  · rw [if_neg (by omega), h e]; simp

theorem f116_eq (l : List Int) (i : Nat) : f116 (l, (i : Int), ()) = some (l.getD i 0, ()) := by
  simp only [f116, t116, Tr.val_test, Tr.val_fin, leF_eq]
  by_cases h : i < l.length
  · rw [if_pos (by simp <;> omega), if_pos (by simp <;> omega)]; simp
  · rw [if_neg (by simp <;> omega)]
    simp [List.getD, List.getElem?_eq_none (Nat.le_of_not_lt h)]

theorem it61 (s b : Int) : ∀ (k : Nat) (x : Int) (acc : List Int) (m : Nat), (x.natAbs : Int) < pw k → x.natAbs ≤ 9223372036854775807 → acc.length + k ≤ 1000000 → k < m →
    itr s61_0 m ((x, s, acc, ()), ((b, ()), ())) = some (.inl ((s, acc ++ dig x.natAbs, ()), ((b, ()), ())))
  | 0, x, acc, m, h1, _, _, hm => by
    have : x = 0 := by simp only [pw] at h1; omega
    subst this
    obtain ⟨m, rfl⟩ : ∃ j, m = j + 1 := ⟨m - 1, by omega⟩
    simp [itr, s61_0, t61_0, eqF_eq, dig_zero]
  | k + 1, x, acc, m, h1, h2, h3, hm => by
    obtain ⟨m, rfl⟩ : ∃ j, m = j + 1 := ⟨m - 1, by omega⟩
    by_cases hx : x = 0
    · subst hx
      simp [itr, s61_0, t61_0, eqF_eq, dig_zero]
    · have e1 : (Int.tmod x 1000000000).natAbs = x.natAbs % 1000000000 := by rw [Int.natAbs_tmod]; rfl
      have e2 : (Int.tdiv x 1000000000).natAbs = x.natAbs / 1000000000 := by rw [Int.natAbs_tdiv]; rfl
      have e3 : IntKind.wrap .i64 (Int.tdiv x 1000000000) = Int.tdiv x 1000000000 := wrapJ (by omega) (by omega)
      have st : s61_0 ((x, s, acc, ()), ((b, ()), ())) = some (.again ((Int.tdiv x 1000000000, s, acc ++ [((x.natAbs % 1000000000 : Nat) : Int)], ()), ((b, ()), ()))) := by
        simp only [s61_0, t61_0, g94, f94_abs (Int.tmod x 1000000000) (by omega), Option.isSome_some, Option.getD_some, Tr.val_test, Tr.val_fin, eqF_eq, e3, e1, if_true]
        rw [if_pos (by simpa using hx), if_pos (by simp <;> omega)]
      simp only [pw] at h1
      rw [itr, st]
      dsimp only
      rw [it61 s b k (Int.tdiv x 1000000000) _ m (by omega) (by omega) (by simp <;> omega) (by omega), dig_pos (show x.natAbs ≠ 0 by omega), e2]
      simp

theorem f61_eq (x : Int) (h : x.natAbs ≤ 9223372036854775807) : f61 (x, ()) = some (enc x, ()) := by
  have hl : ∀ s : Int, l61_0 ((x, s, [], ()), (((0 : Int), ()), ())) = some (.inl ((s, dig x.natAbs, ()), (((0 : Int), ()), ()))) := fun s => by
    have := it61 s 0 3 x [] rounds (by simp only [pw]; omega) h (by simp) (lt_rounds (by omega))
    simpa [l61_0] using this
  have hg : (dig x.natAbs).length ≤ 3 := dig_len (by simp only [pw]; omega)
  have e := dig_dv x.natAbs
  simp only [f61, t61, b61_0, hl, g95, f95_eq _ (dig x.natAbs) (by omega) (dig_Dg _), e, Option.isSome_some, Option.getD_some, Tr.val_test, Tr.val_fin, isBrk, outB, if_true, leF_eq]
  by_cases hx : 0 ≤ x
  · rw [if_neg (by simp <;> omega)]
    have : mkN 1 (x.natAbs : Int) = enc x := mkN_enc fun h => by rw [Int.sign_eq_one_of_pos (by omega)]
    rw [this]
  · rw [if_pos (by simp <;> omega)]
    have : mkN (-1) (x.natAbs : Int) = enc x := mkN_enc fun h => by rw [Int.sign_eq_neg_one_of_neg (by omega)]
    rw [this]

/-- Carries and digits of a sum. -/
def cA (a b : List Int) : Nat → Int
  | 0 => 0
  | i + 1 => (a.getD i 0 + b.getD i 0 + cA a b i) / 1000000000

def oA (a b : List Int) : Nat → List Int
  | 0 => []
  | i + 1 => oA a b i ++ [(a.getD i 0 + b.getD i 0 + cA a b i) % 1000000000]

theorem cA_le {a b : List Int} (ha : Dg a) (hb : Dg b) : ∀ i, 0 ≤ cA a b i ∧ cA a b i ≤ 1
  | 0 => by simp [cA]
  | i + 1 => by
    have := cA_le ha hb i; have := ha.getD i; have := hb.getD i
    simp only [cA]; omega

theorem oA_len (a b : List Int) : ∀ i, (oA a b i).length = i
  | 0 => rfl
  | i + 1 => by simp [oA, oA_len a b i]

theorem oA_Dg (a b : List Int) : ∀ i, Dg (oA a b i)
  | 0 => Dg.nil
  | i + 1 => (oA_Dg a b i).push (by omega) (by omega)

theorem oA_dv (a b : List Int) : ∀ i, dval (oA a b i) + pw i * cA a b i = dval (a.take i) + dval (b.take i)
  | 0 => by simp [oA, cA, dval, pw]
  | i + 1 => by
    have ih := oA_dv a b i
    rw [oA, dv_push, oA_len, dv_take, dv_take, cA, pw]
    generalize hs : a.getD i 0 + b.getD i 0 + cA a b i = s at *
    have e : s % 1000000000 = s - 1000000000 * (s / 1000000000) := by omega
    have e2 : pw i * (s % 1000000000) + 1000000000 * pw i * (s / 1000000000) = pw i * s := by
      rw [e, Int.mul_sub, Int.mul_comm 1000000000 (pw i), Int.mul_assoc]; omega
    have e3 : pw i * s = pw i * a.getD i 0 + pw i * b.getD i 0 + pw i * cA a b i := by rw [← hs, Int.mul_add, Int.mul_add]
    omega

/-- How many digits a sum has. -/
def nA (a b : List Int) : Nat := if cA a b (max a.length b.length) = 0 then max a.length b.length else max a.length b.length + 1

theorem cA_end {a b : List Int} (ha : Dg a) (hb : Dg b) : cA a b (nA a b) = 0 := by
  unfold nA
  split
  · assumption
  · have := cA_le ha hb (max a.length b.length)
    have e1 : a.getD (max a.length b.length) 0 = 0 := by simp [List.getD, List.getElem?_eq_none (Nat.le_max_left a.length b.length)]
    have e2 : b.getD (max a.length b.length) 0 = 0 := by simp [List.getD, List.getElem?_eq_none (Nat.le_max_right a.length b.length)]
    simp only [cA, e1, e2]; omega

theorem s100_again {a b : List Int} (ha : Dg a) (hb : Dg b) {i : Nat} (hl : i ≤ 1000000) (h : i < a.length ∨ i < b.length ∨ 0 < cA a b i) :
    s100_0 ((a, b, oA a b i, cA a b i, (i : Int), ()), ()) = some (.again ((a, b, oA a b (i + 1), cA a b (i + 1), ((i + 1 : Nat) : Int), ()), ())) := by
  have h1 := cA_le ha hb i; have h2 := ha.getD i; have h3 := hb.getD i
  have e1 : wrap64 (wrap64 (a.getD i 0 + b.getD i 0) + cA a b i) = a.getD i 0 + b.getD i 0 + cA a b i := by
    rw [wrap64_id (n := a.getD i 0 + b.getD i 0) (by omega) (by omega), wrap64_id (by omega) (by omega)]
  have e2 : IntKind.wrap .i64 (Int.tdiv (a.getD i 0 + b.getD i 0 + cA a b i) 1000000000) = cA a b (i + 1) := by
    rw [Int.tdiv_eq_ediv_of_nonneg (by omega), wrapJ (by omega) (by omega), cA]
  have e3 : Int.tmod (a.getD i 0 + b.getD i 0 + cA a b i) 1000000000 = (a.getD i 0 + b.getD i 0 + cA a b i) % 1000000000 := Int.tmod_eq_emod_of_nonneg (by omega)
  have e4 : wrap64 ((i : Int) + 1) = ((i + 1 : Nat) : Int) := wrap64_nat (by omega)
  have e5 : (Nat.ble ((2 * ((oA a b i).length + 1) + 192) * 8) 281474976710656 && Nat.ble ((oA a b i).length + 1) 281474976710656) = true := by
    rw [oA_len]; simp; omega
  simp only [s100_0, t100_0, g116, f116_eq a i, f116_eq b i, Option.isSome_some, Option.getD_some, Tr.val_test, Tr.val_fin, leF_eq, if_true, e1, e2, e3, e4, e5]
  by_cases c1 : i < a.length
  · rw [if_pos (by simp <;> omega)]; rfl
  · rw [if_neg (by simp <;> omega)]
    by_cases c2 : i < b.length
    · rw [if_pos (by simp <;> omega)]; rfl
    · rw [if_neg (by simp <;> omega), if_pos (by simp <;> omega)]; rfl

theorem f100_eq (a b : List Int) (ha : Dg a) (hb : Dg b) (h1 : a.length ≤ 100000) (h2 : b.length ≤ 100000) : f100 (a, b, ()) = some (oA a b (nA a b), ()) := by
  have hn : nA a b ≤ max a.length b.length + 1 := by unfold nA; split <;> omega
  have hl : l100_0 ((a, b, [], (0 : Int), (0 : Int), ()), ()) = some (.inl ((oA a b (nA a b), ()), ())) := by
    refine itr_brk (fun i => ((a, b, oA a b i, cA a b i, (i : Int), ()), ())) (n := nA a b) ?_ ?_ (lt_rounds (by omega))
    · intro i hi
      refine s100_again ha hb (by omega) ?_
      have := cA_le ha hb i
      unfold nA at hi
      split at hi
      · omega
      · rename_i hc
        by_cases e : i = max a.length b.length
        · rw [← e] at hc; omega
        · omega
    · have hc := cA_end ha hb
      have hm : max a.length b.length ≤ nA a b := by unfold nA; split <;> omega
      simp only [s100_0, t100_0, Tr.val_test, Tr.val_fin, leF_eq, hc]
      rw [if_neg (by simp <;> omega), if_neg (by simp <;> omega), if_neg (by simp)]
  simp only [f100, t100, b100_0, hl, Tr.val_test, Tr.val_fin, isBrk, if_true, outB]

theorem oA_sum {a b : List Int} (ha : Dg a) (hb : Dg b) : dval (oA a b (nA a b)) = dval a + dval b := by
  have h := oA_dv a b (nA a b)
  have hm : max a.length b.length ≤ nA a b := by unfold nA; split <;> omega
  rw [cA_end ha hb, dv_take_all a (by omega), dv_take_all b (by omega)] at h
  omega

/-- Borrows and digits of a difference. -/
def cS (a b : List Int) : Nat → Int
  | 0 => 0
  | i + 1 => if a.getD i 0 - b.getD i 0 - cS a b i < 0 then 1 else 0

def oS (a b : List Int) : Nat → List Int
  | 0 => []
  | i + 1 => oS a b i ++ [if a.getD i 0 - b.getD i 0 - cS a b i < 0 then a.getD i 0 - b.getD i 0 - cS a b i + 1000000000 else a.getD i 0 - b.getD i 0 - cS a b i]

theorem cS_le (a b : List Int) : ∀ i, 0 ≤ cS a b i ∧ cS a b i ≤ 1
  | 0 => by simp [cS]
  | i + 1 => by simp only [cS]; split <;> omega

theorem oS_len (a b : List Int) : ∀ i, (oS a b i).length = i
  | 0 => rfl
  | i + 1 => by simp [oS, oS_len a b i]

theorem oS_Dg {a b : List Int} (ha : Dg a) (hb : Dg b) : ∀ i, Dg (oS a b i)
  | 0 => Dg.nil
  | i + 1 => by
    have := cS_le a b i; have := ha.getD i; have := hb.getD i
    exact (oS_Dg ha hb i).push (by split <;> omega) (by split <;> omega)

theorem oS_dv (a b : List Int) : ∀ i, dval (oS a b i) - pw i * cS a b i = dval (a.take i) - dval (b.take i)
  | 0 => by simp [oS, cS, dval, pw]
  | i + 1 => by
    have ih := oS_dv a b i
    rw [oS, dv_push, oS_len, dv_take, dv_take, cS, pw]
    generalize hs : a.getD i 0 - b.getD i 0 - cS a b i = s at *
    have e3 : pw i * s = pw i * a.getD i 0 - pw i * b.getD i 0 - pw i * cS a b i := by rw [← hs, Int.mul_sub, Int.mul_sub]
    by_cases h : s < 0
    · rw [if_pos h, if_pos h, Int.mul_add]; omega
    · rw [if_neg h, if_neg h]; omega

theorem f102_eq (a b : List Int) (ha : Dg a) (hb : Dg b) (h1 : a.length ≤ 1000000) (h2 : b.length ≤ a.length) (h3 : dval b ≤ dval a) : f102 (a, b, ()) = some (dig (dval a - dval b).toNat, ()) := by
  have hl : l102_0 ((a, b, [], (0 : Int), (0 : Int), ()), ()) = some (.inl ((oS a b a.length, ()), ())) := by
    refine itr_brk (fun i => ((a, b, oS a b i, cS a b i, (i : Int), ()), ())) (n := a.length) ?_ ?_ (lt_rounds (by omega))
    · intro i hi
      have h1 := cS_le a b i; have h2 := ha.getD i; have h3 := hb.getD i
      have e0 : wrap64 (a.getD i 0 - b.getD i 0) = a.getD i 0 - b.getD i 0 := wrap64_id (by omega) (by omega)
      have e1 : wrap64 (wrap64 (a.getD i 0 - b.getD i 0) - cS a b i) = a.getD i 0 - b.getD i 0 - cS a b i := by
        rw [e0, wrap64_id (by omega) (by omega)]
      have e2 : wrap64 (a.getD i 0 - b.getD i 0 - cS a b i + 1000000000) = a.getD i 0 - b.getD i 0 - cS a b i + 1000000000 := wrap64_id (by omega) (by omega)
      have e4 : wrap64 ((i : Int) + 1) = ((i + 1 : Nat) : Int) := wrap64_nat (by omega)
      have e5 : (Nat.ble ((2 * ((oS a b i).length + 1) + 192) * 8) 281474976710656 && Nat.ble ((oS a b i).length + 1) 281474976710656) = true := by
        rw [oS_len]; simp; omega
      simp only [s102_0, t102_0, g116, f116_eq b i, Option.isSome_some, Option.getD_some, Tr.val_test, Tr.val_fin, leF_eq, if_true, e1, e2, e4, e5, Int.toNat_natCast, oS, cS]
      rw [if_pos (by simp <;> omega), if_pos (by simp <;> omega)]
      by_cases h : a.getD i 0 - b.getD i 0 - cS a b i < 0
      · rw [if_pos (by simp only [Bool.not_eq_true', decide_eq_false_iff_not]; omega), if_pos h, if_pos h]
      · rw [if_neg (by simp only [Bool.not_eq_true', decide_eq_false_iff_not]; omega), if_neg h, if_neg h]
    · simp [s102_0, t102_0, leF_eq]
  have hd := oS_Dg ha hb a.length
  have hv := oS_dv a b a.length
  rw [dv_take_all a (Nat.le_refl _), dv_take_all b h2] at hv
  have hlt := dv_lt hd
  rw [oS_len] at hlt
  have hc := cS_le a b a.length
  have hc0 : cS a b a.length = 0 := by
    by_cases e : cS a b a.length = 1
    · rw [e] at hv; omega
    · omega
  rw [hc0, Int.mul_zero, Int.sub_zero] at hv
  simp only [f102, t102, b102_0, hl, g113, f113_eq _ (show (oS a b a.length).length ≤ 1000000000 by rw [oS_len]; omega) hd, hv, Option.isSome_some, Option.getD_some, Tr.val_test, Tr.val_fin, isBrk, if_true, outB]

theorem can_ge {l : List Int} (hd : Dg l) (hc : Can l) {m : Nat} (hm : l.length = m + 1) : pw m ≤ dval l := by
  have h3 := dv_take l m
  rw [dv_take_all _ (by omega)] at h3
  have h2 := hc m hm
  have h4 := dv_nonneg (hd.take m)
  have h5 := hd.getD m
  have h7 : pw m * 1 ≤ pw m * l.getD m 0 := Int.mul_le_mul_of_nonneg_left (by omega) (Int.le_of_lt (pw_pos m))
  omega

theorem dv_top {a b : List Int} (ha : Dg a) (hb : Dg b) {j : Nat} (hlt : a.getD j 0 < b.getD j 0) : ∀ n, (∀ i, j < i → i < j + 1 + n → a.getD i 0 = b.getD i 0) → dval (a.take (j + 1 + n)) < dval (b.take (j + 1 + n))
  | 0, _ => by
    rw [Nat.add_zero, dv_take, dv_take]
    have h1 := dv_lt (ha.take j)
    have h2 := dv_nonneg (hb.take j)
    have h3 : pw (a.take j).length ≤ pw j := pw_le (by simp; omega)
    have h7 : pw j * (a.getD j 0 + 1) ≤ pw j * b.getD j 0 := Int.mul_le_mul_of_nonneg_left (by omega) (Int.le_of_lt (pw_pos j))
    rw [Int.mul_add] at h7
    omega
  | n + 1, h => by
    have ih := dv_top ha hb hlt n fun i h1 h2 => h i h1 (by omega)
    have e := h (j + 1 + n) (by omega) (by omega)
    rw [← Nat.add_assoc, dv_take, dv_take, e]
    omega

theorem f101_eq (a b : List Int) (ha : Dg a) (hb : Dg b) (ca : Can a) (cb : Can b) (h1 : a.length ≤ 1000000) : f101 (a, b, ()) = some ((dval a - dval b).sign, ()) := by
  simp only [f101, t101, Tr.val_test, Tr.val_fin, leF_eq, eqF_eq]
  by_cases hle : a.length = b.length
  · rw [if_neg (by simp; omega)]
    have e0 : wrap64 ((a.length : Int) - 1) = (a.length : Int) - 1 := wrap64_id (by omega) (by omega)
    have hl : l101_0 ((a, b, (a.length : Int) - 1, ()), ()) = match first (fun k => !decide (a.getD (a.length - 1 - k) 0 = b.getD (a.length - 1 - k) 0)) a.length 0 with
        | some k => some (.inr (((if a.getD (a.length - 1 - k) 0 < b.getD (a.length - 1 - k) 0 then (-1 : Int) else 1), ()), ()))
        | none => some (.inl ((), ())) := by
      have := itr_search (step := s101_0) (m := rounds) (n := a.length) (fun k => ((a, b, (a.length : Int) - 1 - (k : Int), ()), ())) (fun k => !decide (a.getD (a.length - 1 - k) 0 = b.getD (a.length - 1 - k) 0))
        (fun k => (((if a.getD (a.length - 1 - k) 0 < b.getD (a.length - 1 - k) 0 then (-1 : Int) else 1), ()), ())) (b := ((), ())) ?_ ?_ (lt_rounds (by omega))
      · rw [l101_0, show (a.length : Int) - 1 = (a.length : Int) - 1 - ((0 : Nat) : Int) by omega]; exact this
      · intro k hk
        have e1 : (a.length : Int) - 1 - (k : Int) = ((a.length - 1 - k : Nat) : Int) := by omega
        have e2 : wrap64 (((a.length - 1 - k : Nat) : Int) - 1) = (a.length : Int) - 1 - ((k + 1 : Nat) : Int) := by rw [wrap64_id (by omega) (by omega)]; omega
        simp only [e1, s101_0, t101_0, Tr.val_test, Tr.val_fin, leF_eq, Int.toNat_natCast, e2]
        rw [if_pos (by simp), if_pos (by simp; omega), if_pos (by simp; omega)]
        generalize a.getD (a.length - 1 - k) 0 = x
        generalize b.getD (a.length - 1 - k) 0 = y
        rcases Int.lt_trichotomy x y with h | h | h
        · rw [if_pos (by simp; omega), if_pos (by simp; omega), if_pos h]
        · rw [if_neg (by simp; omega), if_neg (by simp; omega), if_neg (by simp; omega)]
        · rw [if_neg (by simp; omega), if_pos (by simp; omega), if_pos (by simp; omega), if_neg (by omega)]
      · simp only [s101_0, t101_0, Tr.val_test, Tr.val_fin, leF_eq]
        rw [if_neg (by simp; omega)]
    rw [e0, r101_0, hl]
    have hta := dv_take_all a (Nat.le_refl _)
    have htb := dv_take_all b (Nat.le_of_eq hle.symm)
    cases hf : first (fun k => !decide (a.getD (a.length - 1 - k) 0 = b.getD (a.length - 1 - k) 0)) a.length 0 with
    | none =>
      have hn := first_none hf
      have : ∀ n, n ≤ a.length → dval (a.take n) = dval (b.take n) := by
        intro n
        induction n with
        | zero => intro _; simp
        | succ n ih =>
          intro h
          have := hn (a.length - 1 - n) (by omega) (by omega)
          rw [show a.length - 1 - (a.length - 1 - n) = n by omega] at this
          rw [dv_take, dv_take, ih (by omega), show a.getD n 0 = b.getD n 0 by simpa using this]
      have e := this a.length (Nat.le_refl _)
      rw [hta, htb] at e
      simp [e, isRet]
    | some k =>
      obtain ⟨q1, q2, q3, q4⟩ := first_some hf
      have hne : a.getD (a.length - 1 - k) 0 ≠ b.getD (a.length - 1 - k) 0 := by simpa using q3
      have heq : ∀ i, a.length - 1 - k < i → i < a.length - 1 - k + 1 + k → a.getD i 0 = b.getD i 0 := fun i h1 h2 => by
        have := q4 (a.length - 1 - i) (by omega) (by omega)
        rw [show a.length - 1 - (a.length - 1 - i) = i by omega] at this
        simpa using this
      have hN : a.length - 1 - k + 1 + k = a.length := by omega
      simp only [isRet, Option.isSome_some, if_true, outR]
      by_cases h : a.getD (a.length - 1 - k) 0 < b.getD (a.length - 1 - k) 0
      · have := dv_top ha hb h k heq
        rw [hN, hta, htb] at this
        rw [if_pos h, Int.sign_eq_neg_one_of_neg (by omega)]
      · have := dv_top hb ha (j := a.length - 1 - k) (by omega) k fun i h1 h2 => (heq i h1 h2).symm
        rw [hN, hta, htb] at this
        rw [if_neg h, Int.sign_eq_one_of_pos (by omega)]
  · rw [if_pos (by simp; omega)]
    by_cases h : a.length < b.length
    · rw [if_pos (by simp; omega)]
      have hx := dv_lt ha
      obtain ⟨m, hm⟩ : ∃ m, b.length = m + 1 := ⟨b.length - 1, by omega⟩
      have hy := can_ge hb cb hm
      have : pw a.length ≤ pw m := pw_le (by omega)
      rw [Int.sign_eq_neg_one_of_neg (by omega)]
    · rw [if_neg (by simp; omega)]
      have hx := dv_lt hb
      obtain ⟨m, hm⟩ : ∃ m, a.length = m + 1 := ⟨a.length - 1, by omega⟩
      have hy := can_ge ha ca hm
      have : pw b.length ≤ pw m := pw_le (by omega)
      rw [Int.sign_eq_one_of_pos (by omega)]

theorem l64_2_eq (n c i : Nat) (s0 s1 z : Int) (a b buf : List Int) (hi : i < a.length) (ha : Dg a) (hb : Dg b) (hbuf : Dg buf) (hlen : buf.length = n) (hn : i + b.length ≤ n) (hs : n ≤ 1000000) :
    l64_2 (((n, c), ((i : Int), (0 : Int), (0 : Int), ())), ((s0, a, ()), (s1, b, ()), (z, ()), buf, ())) =
      some (.inl (((n, c), ((i : Int), (mI (a.getD i 0) b i buf b.length).2, ())), ((s0, a, ()), (s1, b, ()), (z, ()), (mI (a.getD i 0) b i buf b.length).1, ()))) := by
  refine itr_brk (fun j => (((n, c), ((i : Int), (mI (a.getD i 0) b i buf j).2, (j : Int), ())), ((s0, a, ()), (s1, b, ()), (z, ()), (mI (a.getD i 0) b i buf j).1, ()))) (n := b.length) ?_ ?_ (lt_rounds (by omega))
  · intro j hj
    obtain ⟨h1, h2, h3⟩ := mI_Dg (i := i) (ha.getD i) hb hbuf j
    have h4 := h1.getD (i + j)
    have h5 := dg_mul (ha.getD i) (hb.getD j)
    have hml := mI_len (a.getD i 0) b i buf j
    have e0 : wrap64 ((i : Int) + (j : Int)) = ((i + j : Nat) : Int) := by rw [wrap64_id (by omega) (by omega)]; omega
    have e1 : wrap64 (a.getD i 0 * b.getD j 0) = a.getD i 0 * b.getD j 0 := wrap64_id (by omega) (by omega)
    have e2 : wrap64 (wrap64 ((mI (a.getD i 0) b i buf j).1.getD (i + j) 0 + a.getD i 0 * b.getD j 0) + (mI (a.getD i 0) b i buf j).2) = (mI (a.getD i 0) b i buf j).1.getD (i + j) 0 + a.getD i 0 * b.getD j 0 + (mI (a.getD i 0) b i buf j).2 := by
      rw [wrap64_id (n := (mI (a.getD i 0) b i buf j).1.getD (i + j) 0 + a.getD i 0 * b.getD j 0) (by omega) (by omega), wrap64_id (by omega) (by omega)]
    have e3 : Int.tmod ((mI (a.getD i 0) b i buf j).1.getD (i + j) 0 + a.getD i 0 * b.getD j 0 + (mI (a.getD i 0) b i buf j).2) 1000000000 = ((mI (a.getD i 0) b i buf j).1.getD (i + j) 0 + a.getD i 0 * b.getD j 0 + (mI (a.getD i 0) b i buf j).2) % 1000000000 := Int.tmod_eq_emod_of_nonneg (by omega)
    have e4 : IntKind.wrap .i64 (Int.tdiv ((mI (a.getD i 0) b i buf j).1.getD (i + j) 0 + a.getD i 0 * b.getD j 0 + (mI (a.getD i 0) b i buf j).2) 1000000000) = ((mI (a.getD i 0) b i buf j).1.getD (i + j) 0 + a.getD i 0 * b.getD j 0 + (mI (a.getD i 0) b i buf j).2) / 1000000000 := by
      rw [Int.tdiv_eq_ediv_of_nonneg (by omega), wrapJ (by omega) (by omega)]
    have e5 : wrap64 ((j : Int) + 1) = ((j + 1 : Nat) : Int) := wrap64_nat (by omega)
    simp only [s64_2, t64_2, Tr.val_test, Tr.val_fin, leF_eq, e0, Int.toNat_natCast, Nat.zero_add, e1, e2, e3, e4, e5]
    rw [if_pos (by simp; omega), if_pos (by simp; omega), if_pos (by rw [hml, ble_eq_true']; omega), if_pos (by simp; omega), if_pos (by simp; omega)]
    rfl
  · simp [s64_2, t64_2, leF_eq]

theorem l64_0_eq (s0 s1 z : Int) (a b : List Int) (n : Nat) (ha : Dg a) (hb : Dg b) (hn : n = a.length + b.length + 1) (hs : n ≤ 1000000) :
    l64_0 (((n, n), ((0 : Int), ())), ((s0, a, ()), (s1, b, ()), (z, ()), List.replicate n 0, ())) = some (.inl (((n, n), ()), ((s0, a, ()), (s1, b, ()), (z, ()), mO a b a.length, ()))) := by
  subst hn
  refine itr_brk (fun i => (((a.length + b.length + 1, a.length + b.length + 1), ((i : Int), ())), ((s0, a, ()), (s1, b, ()), (z, ()), mO a b i, ()))) (n := a.length) ?_ ?_ (lt_rounds (by omega))
  · intro i hi
    have hl := l64_2_eq (a.length + b.length + 1) (a.length + b.length + 1) i s0 s1 z a b (mO a b i) hi ha hb (mO_Dg ha hb i) (mO_len a b i) (by omega) hs
    obtain ⟨h1, h2, h3⟩ := mI_Dg (i := i) (ha.getD i) hb (mO_Dg ha hb i) b.length
    have e0 : wrap64 ((i : Int) + (b.length : Int)) = ((i + b.length : Nat) : Int) := by rw [wrap64_id (by omega) (by omega)]; omega
    have e1 : wrap64 ((mI (a.getD i 0) b i (mO a b i) b.length).1.getD (i + b.length) 0 + (mI (a.getD i 0) b i (mO a b i) b.length).2) = (mI (a.getD i 0) b i (mO a b i) b.length).1.getD (i + b.length) 0 + (mI (a.getD i 0) b i (mO a b i) b.length).2 := by
      rw [mO_get]; exact wrap64_id (by omega) (by omega)
    have e5 : wrap64 ((i : Int) + 1) = ((i + 1 : Nat) : Int) := wrap64_nat (by omega)
    have hml : (mI (a.getD i 0) b i (mO a b i) b.length).1.length = a.length + b.length + 1 := by rw [mI_len, mO_len]
    simp only [s64_0, t64_0, b64_2, hl, isBrk, outB, Tr.val_test, Tr.val_fin, leF_eq, e0, Int.toNat_natCast, Nat.zero_add, e1, e5, if_true]
    rw [if_pos (by simp; omega), if_pos (by simp; omega), if_pos (by rw [hml, ble_eq_true']; omega)]
    rfl
  · simp [s64_0, t64_0, leF_eq]

theorem f64_raw (s0 s1 : Int) (a b : List Int) (ha : Dg a) (hb : Dg b) (h : a.length + b.length + 1 ≤ 1000000) : f64 ((s0, a, ()), (s1, b, ()), ()) = some (mkN (wrap64 (s0 * s1)) (dval a * dval b), ()) := by
  have e0 : wrap64 (wrap64 ((a.length : Int) + (b.length : Int)) + 1) = ((a.length + b.length + 1 : Nat) : Int) := by
    rw [wrap64_id (n := (a.length : Int) + (b.length : Int)) (by omega) (by omega), wrap64_id (by omega) (by omega)]; omega
  have hl := l64_0_eq s0 s1 0 a b _ ha hb rfl h
  have hd := mO_Dg ha hb a.length
  have hv := mO_dv a b a.length (Nat.le_refl _)
  rw [dv_take_all a (Nat.le_refl _)] at hv
  have hlen := mO_len a b a.length
  have hf : f95 (wrap64 (s0 * s1), mO a b a.length, ()) = some (mkN (wrap64 (s0 * s1)) (dval a * dval b), ()) := by rw [f95_eq _ _ (by omega) hd, hv]
  simp only [f64, t64, e0, Int.toNat_natCast, b64_0, hl, isBrk, outB, Tr.val_test, Tr.val_fin, if_true, hlen, g95, hf, Option.isSome_some, Option.getD_some]
  rw [if_pos (by simp; omega), if_pos (by simp)]

theorem f64_eq (x y : Int) (h : (dig x.natAbs).length + (dig y.natAbs).length + 1 ≤ 1000000) : f64 (enc x, enc y, ()) = some (enc (x * y), ()) := by
  have hf := f64_raw x.sign y.sign (dig x.natAbs) (dig y.natAbs) (dig_Dg _) (dig_Dg _) h
  rw [dig_dv, dig_dv] at hf
  have hw : wrap64 (x.sign * y.sign) = (x * y).sign := by
    rw [← Int.sign_mul]
    have : (x * y).sign = -1 ∨ (x * y).sign = 0 ∨ (x * y).sign = 1 := by
      rcases Int.lt_trichotomy (x * y) 0 with h | h | h
      · left; exact Int.sign_eq_neg_one_of_neg h
      · right; left; rw [h]; rfl
      · right; right; exact Int.sign_eq_one_of_pos h
    exact wrap64_id (by omega) (by omega)
  rw [hw] at hf
  have he : mkN (x * y).sign ((x.natAbs : Int) * (y.natAbs : Int)) = enc (x * y) := by
    rw [← Int.natCast_mul, ← Int.natAbs_mul]
    exact mkN_enc fun _ => rfl
  rw [he] at hf
  exact hf

theorem sgn_cases (x : Int) : (x < 0 ∧ x.sign = -1) ∨ (x = 0 ∧ x.sign = 0) ∨ (0 < x ∧ x.sign = 1) := by
  rcases Int.lt_trichotomy x 0 with h | h | h
  · exact .inl ⟨h, Int.sign_eq_neg_one_of_neg h⟩
  · exact .inr (.inl ⟨h, by rw [h]; rfl⟩)
  · exact .inr (.inr ⟨h, Int.sign_eq_one_of_pos h⟩)

theorem f63_raw (s0 s1 : Int) (a b : List Int) (ha : Dg a) (hb : Dg b) (ca : Can a) (cb : Can b) (h1 : a.length ≤ 100000) (h2 : b.length ≤ 100000) : f63 ((s0, a, ()), (s1, b, ()), ()) =
    if s0 = 0 then some ((s1, b, ()), ()) else if s1 = 0 then some ((s0, a, ()), ()) else if s0 = s1 then some (mkN s0 (dval a + dval b), ()) else
    if dval a = dval b then some ((0, [], ()), ()) else if dval b < dval a then some (mkN s0 (dval a - dval b), ()) else some (mkN s1 (dval b - dval a), ()) := by
  have hle : ∀ {l : List Int} {n : Int}, Dg l → Can l → dval l ≤ n → ∀ {l2 : List Int}, Dg l2 → n = dval l2 → l.length ≤ l2.length := fun {l n} hd hc hn {l2} hd2 e => by
    rcases Nat.lt_or_ge l2.length l.length with h | h
    · exfalso
      obtain ⟨m, hm⟩ : ∃ m, l.length = m + 1 := ⟨l.length - 1, by omega⟩
      have := can_ge hd hc hm
      have := dv_lt hd2
      have : pw l2.length ≤ pw m := pw_le (by omega)
      omega
    · exact h
  have hn : nA a b ≤ max a.length b.length + 1 := by unfold nA; split <;> omega
  simp only [f63, t63, Tr.val_test, Tr.val_fin, eqF_eq, leF_eq, decide_eq_true_eq]
  by_cases c1 : s0 = 0
  · rw [if_pos c1, if_pos c1]
  rw [if_neg c1, if_neg c1]
  by_cases c2 : s1 = 0
  · rw [if_pos c2, if_pos c2]
  rw [if_neg c2, if_neg c2]
  by_cases c3 : s0 = s1
  · rw [if_pos c3, if_pos c3]
    simp only [g100, f100_eq a b ha hb h1 h2, Option.isSome_some, Option.getD_some, if_true, g95, f95_eq s0 (oA a b (nA a b)) (by rw [oA_len]; omega) (oA_Dg a b _), oA_sum ha hb]
  rw [if_neg c3, if_neg c3]
  simp only [g101, f101_eq a b ha hb ca cb (by omega), Option.isSome_some, Option.getD_some, if_true]
  rcases sgn_cases (dval a - dval b) with ⟨hs, e⟩ | ⟨hs, e⟩ | ⟨hs, e⟩
  · have hl := hle ha ca (show dval a ≤ dval b by omega) hb rfl
    have hv : ((dval b - dval a).toNat : Int) = dval b - dval a := by omega
    have hlen : (dig (dval b - dval a).toNat).length ≤ b.length := dig_len (by have := dv_lt hb; have := dv_nonneg ha; omega)
    rw [if_neg (by rw [e]; omega), if_neg (by rw [e]; simp)]
    simp only [g102, f102_eq b a hb ha (by omega) hl (by omega), Option.isSome_some, Option.getD_some, if_true, g95, f95_eq s1 (dig (dval b - dval a).toNat) (by omega) (dig_Dg _), dig_dv, hv]
    rw [if_neg (by omega), if_neg (by omega)]
  · rw [if_pos (by rw [e]), if_pos (by omega)]
  · have hl := hle hb cb (show dval b ≤ dval a by omega) ha rfl
    have hv : ((dval a - dval b).toNat : Int) = dval a - dval b := by omega
    have hlen : (dig (dval a - dval b).toNat).length ≤ a.length := dig_len (by have := dv_lt ha; have := dv_nonneg hb; omega)
    rw [if_neg (by rw [e]; omega), if_pos (by rw [e]; simp)]
    simp only [g102, f102_eq a b ha hb (by omega) hl (by omega), Option.isSome_some, Option.getD_some, if_true, g95, f95_eq s0 (dig (dval a - dval b).toNat) (by omega) (dig_Dg _), dig_dv, hv]
    rw [if_neg (by omega), if_pos (by omega)]

theorem mkN_eq {s n z : Int} (h : n = z.natAbs) (hs : z ≠ 0 → s = z.sign) : mkN s n = enc z := by rw [h]; exact mkN_enc hs

theorem f63_eq (x y : Int) (h1 : (dig x.natAbs).length ≤ 100000) (h2 : (dig y.natAbs).length ≤ 100000) : f63 (enc x, enc y, ()) = some (enc (x + y), ()) := by
  have hf := f63_raw x.sign y.sign (dig x.natAbs) (dig y.natAbs) (dig_Dg _) (dig_Dg _) (dig_Can _) (dig_Can _) h1 h2
  rw [dig_dv, dig_dv] at hf
  refine hf.trans ?_
  have t0 : (0 : Int).sign = 0 := rfl
  rcases sgn_cases x with ⟨hx, ex⟩ | ⟨hx, ex⟩ | ⟨hx, ex⟩
  · rcases sgn_cases y with ⟨hy, ey⟩ | ⟨hy, ey⟩ | ⟨hy, ey⟩
    · rw [ex, ey, if_neg (by omega), if_neg (by omega), if_pos rfl, mkN_eq (z := x + y) (by omega) fun _ => by rw [Int.sign_eq_neg_one_of_neg (by omega)]]
    · rw [ex, ey, if_neg (by omega), if_pos rfl]; subst hy; rw [Int.add_zero, enc, ex]
    · rw [ex, ey, if_neg (by omega), if_neg (by omega), if_neg (by omega)]
      split
      · have : x + y = 0 := by omega
        rw [this]; simp [enc, dig_zero]
      · split
        · rw [mkN_eq (z := x + y) (by omega) fun _ => by rw [Int.sign_eq_neg_one_of_neg (by omega)]]
        · rw [mkN_eq (z := x + y) (by omega) fun _ => by rw [Int.sign_eq_one_of_pos (by omega)]]
  · rw [ex, if_pos rfl]; subst hx; rw [Int.zero_add, enc]
  · rcases sgn_cases y with ⟨hy, ey⟩ | ⟨hy, ey⟩ | ⟨hy, ey⟩
    · rw [ex, ey, if_neg (by omega), if_neg (by omega), if_neg (by omega)]
      split
      · have : x + y = 0 := by omega
        rw [this]; simp [enc, dig_zero]
      · split
        · rw [mkN_eq (z := x + y) (by omega) fun _ => by rw [Int.sign_eq_one_of_pos (by omega)]]
        · rw [mkN_eq (z := x + y) (by omega) fun _ => by rw [Int.sign_eq_neg_one_of_neg (by omega)]]
    · rw [ex, ey, if_neg (by omega), if_pos rfl]; subst hy; rw [Int.add_zero, enc, ex]
    · rw [ex, ey, if_neg (by omega), if_neg (by omega), if_pos rfl, mkN_eq (z := x + y) (by omega) fun _ => by rw [Int.sign_eq_one_of_pos (by omega)]]

theorem enc_neg (x : Int) : (IntKind.wrap .i64 (0 - x.sign), dig x.natAbs, ()) = enc (-x) := by
  have : IntKind.wrap .i64 (0 - x.sign) = (-x).sign := by
    rw [Int.sign_neg]
    rcases sgn_cases x with ⟨_, e⟩ | ⟨_, e⟩ | ⟨_, e⟩ <;> rw [e] <;> rfl
  rw [this, enc, Int.natAbs_neg]

theorem f96_eq (x : Int) : f96 (enc x, ()) = some (enc (-x), ()) := by
  rw [← enc_neg]; rfl

theorem f115_eq (x y : Int) (h1 : (dig x.natAbs).length ≤ 100000) (h2 : (dig y.natAbs).length ≤ 100000) : f115 (enc x, enc y, ()) = some (enc (x - y), ()) := by
  have e0 : f96 ((y.sign, dig y.natAbs, ()), ()) = some (enc (-y), ()) := f96_eq y
  have e1 : f63 ((x.sign, dig x.natAbs, ()), ((enc (-y)).1, (enc (-y)).2.1, ()), ()) = some (enc (x - y), ()) := f63_eq x (-y) h1 (by rw [Int.natAbs_neg]; exact h2)
  show f115 ((x.sign, dig x.natAbs, ()), (y.sign, dig y.natAbs, ()), ()) = _
  simp only [f115, t115, g96, e0, g63, e1, Option.isSome_some, Option.getD_some, Tr.val_test, Tr.val_fin, if_true]

theorem f98_eq (x y : Int) (h1 : (dig x.natAbs).length ≤ 100000) (h2 : (dig y.natAbs).length ≤ 100000) : f98 (enc x, enc y, ()) = some ((x - y).sign, ()) := by
  have e0 : f115 ((x.sign, dig x.natAbs, ()), (y.sign, dig y.natAbs, ()), ()) = some (enc (x - y), ()) := f115_eq x y h1 h2
  show f98 ((x.sign, dig x.natAbs, ()), (y.sign, dig y.natAbs, ()), ()) = _
  simp only [f98, t98, g115, e0, Option.isSome_some, Option.getD_some, Tr.val_test, Tr.val_fin, if_true]
  rfl

theorem f114_eq (x : Int) : f114 (enc x, ()) = some (enc x.natAbs, ()) := by
  have e0 : f96 ((x.sign, dig x.natAbs, ()), ()) = some (enc (-x), ()) := f96_eq x
  show f114 ((x.sign, dig x.natAbs, ()), ()) = _
  simp only [f114, t114, g96, e0, Option.isSome_some, Option.getD_some, Tr.val_test, Tr.val_fin, leF_eq, if_true]
  rcases sgn_cases x with ⟨h, e⟩ | ⟨h, e⟩ | ⟨h, e⟩
  · rw [if_pos (by rw [e]; simp), show ((x.natAbs : Nat) : Int) = -x by omega]
  · subst h; rfl
  · rw [if_neg (by rw [e]; simp), show ((x.natAbs : Nat) : Int) = x by omega]; rfl

theorem dig_mono {m n : Nat} (h : m ≤ n) : (dig m).length ≤ (dig n).length := dig_len (by have := dig_len_pw n; omega)

theorem enc_pos {x : Int} (h : 0 < x) : f95 (1, dig x.natAbs, ()) = f95 (x.sign, dig x.natAbs, ()) := by rw [Int.sign_eq_one_of_pos h]

theorem f95_enc (x : Int) (h : (dig x.natAbs).length ≤ 1000000000) : f95 (x.sign, dig x.natAbs, ()) = some (enc x, ()) := by
  rw [f95_eq _ _ h (dig_Dg _), dig_dv, mkN_enc fun _ => rfl]

theorem dig_small {x : Int} (h0 : 0 ≤ x) (h : x < 1000000000) : (dig x.natAbs).length ≤ 1 := dig_len (by simp only [pw]; omega)

theorem f64_one {x y : Int} (hx : (dig x.natAbs).length ≤ 10000) (h0 : 0 ≤ y) (h : y < 1000000000) : f64 (((enc x).1, (enc x).2.1, ()), ((enc y).1, (enc y).2.1, ()), ()) = some (enc (x * y), ()) :=
  f64_eq x y (by have := dig_small h0 h; omega)

theorem it99 (n c : Nat) (i s0 s1 z : Int) (a buf : List Int) (V Y : Int) (hV : 0 ≤ V) (hY : 0 < Y) (hl : (dig Y.natAbs).length ≤ 10000) (hq : V / Y ≤ 999999999) :
    ∀ (k : Nat) (lo hi : Int) (m : Nat), (hi - lo).toNat ≤ k → 0 ≤ lo → lo ≤ V / Y → V / Y ≤ hi → hi ≤ 999999999 → k < m →
      itr s99_2 m (((n, c), (dig V.toNat, i, lo, hi, ())), ((s0, a, ()), (s1, dig Y.natAbs, ()), (z, ()), buf, ())) =
        some (.inl (((n, c), (dig V.toNat, i, V / Y, ())), ((s0, a, ()), (s1, dig Y.natAbs, ()), (z, ()), buf, ())))
  | k, lo, hi, m, hk, h1, h2, h3, h4, hm => by
    obtain ⟨m, rfl⟩ : ∃ j, m = j + 1 := ⟨m - 1, by omega⟩
    by_cases h : lo < hi
    · obtain ⟨k, rfl⟩ : ∃ j, k = j + 1 := ⟨k - 1, by omega⟩
      have e0 : IntKind.wrap .i64 (Int.tdiv (wrap64 (wrap64 (lo + hi) + 1)) 2) = (lo + hi + 1) / 2 := by
        rw [wrap64_id (n := lo + hi) (by omega) (by omega), wrap64_id (by omega) (by omega), Int.tdiv_eq_ediv_of_nonneg (by omega), wrapJ (by omega) (by omega)]
      have e5 : wrap64 ((lo + hi + 1) / 2 - 1) = (lo + hi + 1) / 2 - 1 := wrap64_id (by omega) (by omega)
      generalize hmid : (lo + hi + 1) / 2 = mid at *
      have b1 : 0 ≤ mid := by omega
      have b2 : mid < 1000000000 := by omega
      have e1 : f95 (1, dig Y.natAbs, ()) = some (enc Y, ()) := by rw [enc_pos hY, f95_enc Y (by omega)]
      have e2 := f61_eq mid (by omega)
      have e3 := f64_one (x := Y) hl b1 b2
      have hnn : 0 ≤ Y * mid := Int.mul_nonneg (by omega) b1
      have hvn : ((V.toNat : Nat) : Int) = V := by omega
      have hlm : (dig (Y * mid).natAbs).length ≤ (dig Y.natAbs).length + 1 := dig_len (by
        have q1 := dig_len_pw Y.natAbs
        have q3 : Y * mid < Y * 1000000000 := Int.mul_lt_mul_of_pos_left b2 hY
        simp only [pw]
        omega)
      have e4 : f101 ((enc (Y * mid)).2.1, dig V.toNat, ()) = some ((Y * mid - V).sign, ()) := by
        have := f101_eq (dig (Y * mid).natAbs) (dig V.toNat) (dig_Dg _) (dig_Dg _) (dig_Can _) (dig_Can _) (by omega)
        rw [dig_dv, dig_dv, hvn, show (((Y * mid).natAbs : Nat) : Int) = Y * mid by omega] at this
        exact this
      have hiff : mid ≤ V / Y ↔ Y * mid ≤ V := by rw [Int.le_ediv_iff_mul_le hY, Int.mul_comm]
      have hstep : s99_2 (((n, c), (dig V.toNat, i, lo, hi, ())), ((s0, a, ()), (s1, dig Y.natAbs, ()), (z, ()), buf, ())) =
          some (.again (((n, c), (dig V.toNat, i, (if mid ≤ V / Y then mid else lo), (if mid ≤ V / Y then hi else mid - 1), ())), ((s0, a, ()), (s1, dig Y.natAbs, ()), (z, ()), buf, ()))) := by
        simp only [s99_2, t99_2, e0, e5, g95, e1, g61, e2, g64, e3, g101, e4, Option.isSome_some, Option.getD_some, Tr.val_test, Tr.val_fin, leF_eq, if_true]
        rw [if_pos (by simp; omega)]
        rcases sgn_cases (Y * mid - V) with ⟨w, es⟩ | ⟨w, es⟩ | ⟨w, es⟩
        · have := hiff.2 (by omega)
          rw [if_pos (by rw [es]; simp), if_pos this, if_pos this]
        · have := hiff.2 (by omega)
          rw [if_pos (by rw [es]; simp), if_pos this, if_pos this]
        · have : ¬ mid ≤ V / Y := fun t => by have := hiff.1 t; omega
          rw [if_neg (by rw [es]; simp), if_neg this, if_neg this]
      rw [itr, hstep]
      dsimp only
      by_cases hc : mid ≤ V / Y
      · rw [if_pos hc, if_pos hc]
        exact it99 n c i s0 s1 z a buf V Y hV hY hl hq k mid hi m (by omega) b1 hc h3 h4 (by omega)
      · rw [if_neg hc, if_neg hc]
        exact it99 n c i s0 s1 z a buf V Y hV hY hl hq k lo (mid - 1) m (by omega) h1 h2 (by omega) (by omega) (by omega)
    · have : lo = V / Y := by omega
      rw [itr]
      simp only [s99_2, t99_2, Tr.val_test, Tr.val_fin, leF_eq]
      rw [if_neg (by simp; omega), this]

theorem set_zeros (q : Int) (d : List Int) : ∀ j, (List.replicate (j + 1) 0 ++ d).set j q = List.replicate j 0 ++ q :: d
  | 0 => by simp
  | j + 1 => by
    rw [List.replicate_succ, List.cons_append, List.set_cons_succ, set_zeros q d j, List.replicate_succ, List.cons_append]

/-- The value of the upper digits. -/
def upA (a : List Int) : Nat → Int
  | 0 => 0
  | k + 1 => a.getD (a.length - 1 - k) 0 + 1000000000 * upA a k

theorem upA_drop (a : List Int) : ∀ k, k ≤ a.length → upA a k = dval (a.drop (a.length - k))
  | 0, _ => by simp [upA, dval]
  | k + 1, h => by
    have e : a.length - (k + 1) + 1 = a.length - k := by omega
    rw [upA, upA_drop a k (by omega), List.drop_eq_getElem_cons (show a.length - (k + 1) < a.length by omega), dval, e]
    congr 1
    have : a.length - 1 - k = a.length - (k + 1) := by omega
    rw [this]
    simp [List.getD, show a.length - (k + 1) < a.length by omega]

/-- The digits of the quotient. -/
def dQ (a : List Int) (Y : Int) : Nat → List Int
  | 0 => []
  | k + 1 => ((a.getD (a.length - 1 - k) 0 + 1000000000 * (upA a k % Y)) / Y) :: dQ a Y k

theorem dQ_len (a : List Int) (Y : Int) : ∀ k, (dQ a Y k).length = k
  | 0 => rfl
  | k + 1 => by simp [dQ, dQ_len a Y k]

theorem dQ_bound {a : List Int} (ha : Dg a) {Y : Int} (hY : 0 < Y) (k : Nat) : 0 ≤ (a.getD (a.length - 1 - k) 0 + 1000000000 * (upA a k % Y)) / Y ∧ (a.getD (a.length - 1 - k) 0 + 1000000000 * (upA a k % Y)) / Y < 1000000000 := by
  have h1 := ha.getD (a.length - 1 - k)
  have h2 := Int.emod_nonneg (upA a k) (show Y ≠ 0 by omega)
  have h3 := Int.emod_lt_of_pos (upA a k) hY
  refine ⟨Int.ediv_nonneg (by omega) (by omega), Int.ediv_lt_of_lt_mul hY (by omega)⟩

theorem dQ_Dg {a : List Int} (ha : Dg a) {Y : Int} (hY : 0 < Y) : ∀ k, Dg (dQ a Y k)
  | 0 => Dg.nil
  | k + 1 => fun d hd => by
    rcases List.mem_cons.1 hd with rfl | hd
    · exact dQ_bound ha hY k
    · exact dQ_Dg ha hY k d hd

theorem upA_split (a : List Int) {Y : Int} (k : Nat) : upA a (k + 1) = a.getD (a.length - 1 - k) 0 + 1000000000 * (upA a k % Y) + Y * (1000000000 * (upA a k / Y)) := by
  have := Int.emod_add_mul_ediv (upA a k) Y
  rw [upA]
  have e : Y * (1000000000 * (upA a k / Y)) = 1000000000 * (Y * (upA a k / Y)) := by rw [Int.mul_left_comm]
  omega

theorem dQ_dv (a : List Int) {Y : Int} (hY : 0 < Y) : ∀ k, dval (dQ a Y k) = upA a k / Y
  | 0 => by simp [dQ, dval, upA]
  | k + 1 => by
    rw [dQ, dval, dQ_dv a hY k, upA_split a (Y := Y) k, Int.add_mul_ediv_left _ _ (by omega)]

theorem upA_mod (a : List Int) {Y : Int} (k : Nat) : upA a (k + 1) % Y = (a.getD (a.length - 1 - k) 0 + 1000000000 * (upA a k % Y)) % Y := by
  rw [upA_split a (Y := Y) k, Int.add_mul_emod_self_left]

theorem dig_up (V Y : Int) (hV : 0 ≤ V) (hY : 0 < Y) : f102 (dig V.toNat, (enc (Y * (V / Y))).2.1, ()) = f102 (dig V.toNat, dig (Y * (V / Y)).toNat, ()) := by
  have h : 0 ≤ Y * (V / Y) := Int.mul_nonneg (by omega) (Int.ediv_nonneg hV (by omega))
  rw [show (Y * (V / Y)).toNat = (Y * (V / Y)).natAbs by omega]; rfl

theorem f102_rem (V Y : Int) (hV : 0 ≤ V) (hY : 0 < Y) (h : (dig V.toNat).length ≤ 1000000) : f102 (dig V.toNat, (enc (Y * (V / Y))).2.1, ()) = some (dig (V % Y).toNat, ()) := by
  have h0 : 0 ≤ Y * (V / Y) := Int.mul_nonneg (by omega) (Int.ediv_nonneg hV (by omega))
  have h1 := Int.emod_add_mul_ediv V Y
  have h2 := Int.emod_nonneg V (show Y ≠ 0 by omega)
  have e1 : ((V.toNat : Nat) : Int) = V := by omega
  have e2 : (((Y * (V / Y)).toNat : Nat) : Int) = Y * (V / Y) := by omega
  rw [dig_up V Y hV hY, f102_eq _ _ (dig_Dg _) (dig_Dg _) h (dig_mono (by omega)) (by rw [dig_dv, dig_dv]; omega), dig_dv, dig_dv, e1, e2, show V - Y * (V / Y) = V % Y by omega]

theorem l99 (s0 s1 z : Int) (a : List Int) (Y : Int) (ha : Dg a) (hY : 0 < Y) (hl : (dig Y.natAbs).length ≤ 10000) (h : a.length ≤ 10000) :
    l99_0 (((a.length, a.length), ([], (a.length : Int) - 1, ())), ((s0, a, ()), (s1, dig Y.natAbs, ()), (z, ()), List.replicate a.length 0, ())) =
      some (.inl (((a.length, a.length), (dig (upA a a.length % Y).toNat, ())), ((s0, a, ()), (s1, dig Y.natAbs, ()), (z, ()), dQ a Y a.length, ()))) := by
  have key := itr_brk (step := s99_0) (m := rounds) (n := a.length) (b := (((a.length, a.length), (dig (upA a a.length % Y).toNat, ())), ((s0, a, ()), (s1, dig Y.natAbs, ()), (z, ()), dQ a Y a.length, ())))
    (fun k => (((a.length, a.length), (dig (upA a k % Y).toNat, (a.length : Int) - 1 - (k : Int), ())), ((s0, a, ()), (s1, dig Y.natAbs, ()), (z, ()), List.replicate (a.length - k) 0 ++ dQ a Y k, ()))) ?_ ?_ (lt_rounds (by omega))
  · have h0 : dig (upA a 0 % Y).toNat = [] := by simp [upA, dig_zero]
    have h1 : List.replicate (a.length - 0) (0 : Int) ++ dQ a Y 0 = List.replicate a.length 0 := by simp [dQ]
    have h2 : (a.length : Int) - 1 - ((0 : Nat) : Int) = (a.length : Int) - 1 := by omega
    simp only [h0, h1, h2] at key
    exact key
  · intro k hk
    have hidx : (a.length : Int) - 1 - (k : Int) = ((a.length - 1 - k : Nat) : Int) := by omega
    have hnext : wrap64 (((a.length - 1 - k : Nat) : Int) - 1) = (a.length : Int) - 1 - ((k + 1 : Nat) : Int) := by rw [wrap64_id (by omega) (by omega)]; omega
    have hrep : List.replicate (a.length - k) (0 : Int) = List.replicate ((a.length - 1 - k) + 1) 0 := by congr 1; omega
    have hset : (List.replicate (a.length - k) 0 ++ dQ a Y k).set (a.length - 1 - k) ((a.getD (a.length - 1 - k) 0 + 1000000000 * (upA a k % Y)) / Y) = List.replicate (a.length - (k + 1)) 0 ++ dQ a Y (k + 1) := by
      rw [hrep, set_zeros, dQ, show a.length - (k + 1) = a.length - 1 - k by omega]
    have hblen : (List.replicate (a.length - k) (0 : Int) ++ dQ a Y k).length = a.length := by rw [List.length_append, List.length_replicate, dQ_len]; omega
    have hb := dQ_bound ha hY k
    have hd := ha.getD (a.length - 1 - k)
    have hr0 := Int.emod_nonneg (upA a k) (show Y ≠ 0 by omega)
    have hr1 := Int.emod_lt_of_pos (upA a k) hY
    have hmod := upA_mod a (Y := Y) k
    generalize hR : upA a k % Y = R at *
    generalize hV : a.getD (a.length - 1 - k) 0 + 1000000000 * R = V at *
    have hV0 : 0 ≤ V := by omega
    have hRl : (dig R.toNat).length ≤ 10000 := Nat.le_trans (dig_mono (by omega)) hl
    have hVl : (dig V.toNat).length ≤ 10001 := by
      refine Nat.le_trans (m := (dig Y.natAbs).length + 1) (dig_len ?_) (by omega)
      have q1 := dig_len_pw Y.natAbs
      simp only [pw]; omega
    have hdg : Dg ([a.getD (a.length - 1 - k) 0] ++ dig R.toNat) := Dg.append (fun x hx => by rw [List.mem_singleton] at hx; subst hx; exact hd) (dig_Dg _)
    have hf : f113 ([a.getD (a.length - 1 - k) 0] ++ dig R.toNat, ()) = some (dig V.toNat, ()) := by
      rw [f113_eq _ (by simp; omega) hdg]
      congr 3
      have : dval ([a.getD (a.length - 1 - k) 0] ++ dig R.toNat) = V := by
        show a.getD (a.length - 1 - k) 0 + 1000000000 * dval (dig R.toNat) = V
        rw [dig_dv]; omega
      rw [this]
    have hin : l99_2 (((a.length, a.length), (dig V.toNat, ((a.length - 1 - k : Nat) : Int), (0 : Int), (999999999 : Int), ())), ((s0, a, ()), (s1, dig Y.natAbs, ()), (z, ()), List.replicate (a.length - k) 0 ++ dQ a Y k, ())) =
        some (.inl (((a.length, a.length), (dig V.toNat, ((a.length - 1 - k : Nat) : Int), V / Y, ())), ((s0, a, ()), (s1, dig Y.natAbs, ()), (z, ()), List.replicate (a.length - k) 0 ++ dQ a Y k, ()))) :=
      it99 _ _ _ s0 s1 z a _ V Y hV0 hY hl (by omega) 999999999 0 999999999 rounds (by omega) (by omega) hb.1 (by omega) (by omega) (lt_rounds (by omega))
    have e1 : f95 (1, dig Y.natAbs, ()) = some (enc Y, ()) := by rw [enc_pos hY, f95_enc Y (by omega)]
    have e2 := f61_eq (V / Y) (by omega)
    have e3 := f64_one (x := Y) hl hb.1 hb.2
    have e4 := f102_rem V Y hV0 hY (by omega)
    rw [hidx]
    dsimp only
    simp only [s99_0, t99_0, Tr.val_test, Tr.val_fin, leF_eq, Int.toNat_natCast]
    rw [if_pos (by simp), if_pos (by simp; omega)]
    by_cases hR0 : R = 0
    · have hnil : dig R.toNat = [] := by rw [hR0]; exact dig_zero
      rw [hnil, List.append_nil] at hf
      rw [hnil]
      simp only [g113, hf, b99_2, hin, isBrk, outB, g95, e1, g61, e2, g64, e3, g102, e4, Option.isSome_some, Option.getD_some, if_true, Int.toNat_natCast, Nat.zero_add, hset, hnext, hmod, hblen]
      rw [if_pos (by simp), if_pos (by simp; omega), if_pos (by rw [ble_eq_true']; omega)]
    · have hne : (dig R.toNat).length ≠ 0 := fun t => by
        have := dig_nil.1 (List.eq_nil_of_length_eq_zero t); omega
      simp only [g113, hf, b99_2, hin, isBrk, outB, g95, e1, g61, e2, g64, e3, g102, e4, Option.isSome_some, Option.getD_some, if_true, Int.toNat_natCast, Nat.zero_add, hset, hnext, hmod, hblen]
      rw [if_neg (by rw [beq_eq_true']; omega), if_neg (by rw [ble_eq_true']; omega), if_pos (by simp; omega), if_pos (by rw [beq_eq_true']; simp; omega), if_pos (by simp; omega), if_pos (by rw [ble_eq_true']; omega)]
  · have e : (a.length : Int) - 1 - (a.length : Int) = -1 := by omega
    simp only [e, Nat.sub_self, List.replicate_zero, List.nil_append]
    simp [s99_0, t99_0, leF_eq]

theorem ediv_neg_floor {x Y : Int} (hY : 0 < Y) : x / Y = if (-x) % Y = 0 then -((-x) / Y) else -((-x) / Y) - 1 := by
  have h1 := Int.emod_add_mul_ediv (-x) Y
  have h2 := Int.emod_nonneg (-x) (show Y ≠ 0 by omega)
  have h3 := Int.emod_lt_of_pos (-x) hY
  split
  · rename_i h
    refine ((Int.ediv_emod_unique (r := 0) hY).2 ⟨?_, by omega, hY⟩).1
    rw [Int.mul_neg]; omega
  · refine ((Int.ediv_emod_unique (r := Y - (-x) % Y) hY).2 ⟨?_, by omega, by omega⟩).1
    rw [Int.mul_sub, Int.mul_neg]; omega

theorem f99_eq (x Y : Int) (hY : 0 < Y) (hl : (dig Y.natAbs).length ≤ 10000) (h : (dig x.natAbs).length ≤ 10000) : f99 (enc x, enc Y, ()) = some (enc (x / Y), ()) := by
  show f99 ((x.sign, dig x.natAbs, ()), (Y.sign, dig Y.natAbs, ()), ()) = _
  have hL := l99 x.sign Y.sign 0 (dig x.natAbs) Y (dig_Dg _) hY hl h
  have hup : upA (dig x.natAbs) (dig x.natAbs).length = (x.natAbs : Int) := by
    rw [upA_drop _ _ (Nat.le_refl _), Nat.sub_self, List.drop_zero, dig_dv]
  rw [hup] at hL
  have hdq := dQ_dv (dig x.natAbs) hY (dig x.natAbs).length
  rw [hup] at hdq
  have hw : wrap64 (((dig x.natAbs).length : Int) - 1) = ((dig x.natAbs).length : Int) - 1 := wrap64_id (by omega) (by omega)
  have hql := dQ_len (dig x.natAbs) Y (dig x.natAbs).length
  have hf : f95 (x.sign, dQ (dig x.natAbs) Y (dig x.natAbs).length, ()) = some (mkN x.sign ((x.natAbs : Int) / Y), ()) := by
    rw [f95_eq _ _ (by omega) (dQ_Dg (dig_Dg _) hY _), hdq]
  have h0 := Int.ediv_nonneg (show (0 : Int) ≤ (x.natAbs : Int) by omega) (show 0 ≤ Y by omega)
  have hle : (x.natAbs : Int) / Y ≤ x.natAbs := Int.ediv_le_self _ (by omega)
  simp only [f99, t99, Tr.val_test, Tr.val_fin, eqF_eq, leF_eq, hw, Int.toNat_natCast, b99_0, hL, isBrk, outB, if_true, g95, hf, hql, Option.isSome_some, Option.getD_some]
  rcases sgn_cases x with ⟨hx, e⟩ | ⟨hx, e⟩ | ⟨hx, e⟩
  · have ex : (x.natAbs : Int) = -x := by omega
    rw [if_neg (by rw [e]; simp), if_pos (by simp; omega), if_pos (by simp), if_pos (by rw [e]; simp)]
    have hm : mkN x.sign ((x.natAbs : Int) / Y) = enc (-((-x) / Y)) := mkN_eq (by rw [ex] at h0 ⊢; omega) fun hz => by
      rw [ex] at h0; rw [e, Int.sign_eq_neg_one_of_neg (by omega)]
    have hfl := ediv_neg_floor (x := x) hY
    have hr0 := Int.emod_nonneg (-x) (show Y ≠ 0 by omega)
    rw [hm, ex]
    by_cases hr : (-x) % Y = 0
    · rw [if_pos hr] at hfl
      rw [if_neg (by rw [hr]; simp [dig_zero]), hfl]
    · rw [if_neg hr] at hfl
      have hne : (dig ((-x) % Y).toNat).length ≠ 0 := fun t => by
        have := dig_nil.1 (List.eq_nil_of_length_eq_zero t); omega
      have e1 := f61_eq 1 (by decide)
      have hlq : (dig (-((-x) / Y)).natAbs).length ≤ 10000 := Nat.le_trans (dig_mono (by rw [ex] at h0 hle; omega)) h
      have e2 : f115 (((enc (-((-x) / Y))).1, (enc (-((-x) / Y))).2.1, ()), ((enc 1).1, (enc 1).2.1, ()), ()) = some (enc (-((-x) / Y) - 1), ()) := f115_eq _ 1 (by omega) (by have := dig_small (x := 1) (by omega) (by omega); omega)
      rw [if_pos (by simp only [Bool.not_eq_true', decide_eq_false_iff_not]; omega)]
      simp only [g61, e1, g115, e2, Option.isSome_some, Option.getD_some, if_true]
      rw [hfl]
  · subst hx
    rw [if_pos (by simp), Int.zero_ediv]; simp [enc, dig_zero]
  · have ex : (x.natAbs : Int) = x := by omega
    rw [if_neg (by rw [e]; simp), if_pos (by simp; omega), if_pos (by simp), if_neg (by rw [e]; simp)]
    rw [mkN_eq (z := x / Y) (by rw [ex] at h0 ⊢; omega) fun hz => by
      rw [ex] at h0; rw [e, Int.sign_eq_one_of_pos (by omega)]]

theorem pw_two : ∀ n, pw n ≤ (((2 ^ (30 * n) : Nat)) : Int)
  | 0 => by simp [pw]
  | n + 1 => by
    have := pw_two n
    have e : (2 : Nat) ^ (30 * (n + 1)) = 1073741824 * 2 ^ (30 * n) := by rw [Nat.mul_add, Nat.pow_add, Nat.mul_comm]
    rw [e, pw]
    omega

theorem mod_half {b r : Nat} (h0 : 0 < r) (h : r < b) : 2 * (b % r) < b := by
  have h1 := Nat.mod_lt b h0
  have h2 := Nat.div_add_mod b r
  have h3 : 1 ≤ b / r := (Nat.one_le_div_iff h0).2 (Nat.le_of_lt h)
  have h4 : r * 1 ≤ r * (b / r) := Nat.mul_le_mul_left r h3
  omega

theorem s97_step (a b : Nat) (z : Int) (hb : b ≠ 0) (h1 : (dig a).length ≤ 10000) (h2 : (dig b).length ≤ 10000) :
    s97_0 ((), (((a : Int).sign, dig a, ()), ((b : Int).sign, dig b, ()), (z, ()), ())) = some (.again ((), (((b : Int).sign, dig b, ()), (((a % b : Nat) : Int).sign, dig (a % b), ()), (z, ()), ()))) := by
  have e0 : f65 (((b : Int).sign, dig b, ()), ()) = some ((b : Int).sign, ()) := rfl
  have e1 : f99 (((a : Int).sign, dig a, ()), ((b : Int).sign, dig b, ()), ()) = some (enc ((a : Int) / (b : Int)), ()) := f99_eq a b (by omega) h2 h1
  have hd : (dig ((a : Int) / (b : Int)).natAbs).length ≤ 10000 := Nat.le_trans (dig_mono (by
    have : ((a : Int) / (b : Int)).natAbs = a / b := by rw [← Int.natCast_ediv]; rfl
    rw [this]; exact Nat.div_le_self _ _)) h1
  have e2 : f64 (((enc ((a : Int) / (b : Int))).1, (enc ((a : Int) / (b : Int))).2.1, ()), ((b : Int).sign, dig b, ()), ()) = some (enc ((a : Int) / (b : Int) * (b : Int)), ()) := f64_eq _ b (by simp only [Int.natAbs_natCast]; omega)
  have hm := Int.emod_add_mul_ediv (a : Int) b
  have hle : 0 ≤ (a : Int) / (b : Int) * (b : Int) := Int.mul_nonneg (Int.ediv_nonneg (by omega) (by omega)) (by omega)
  have hmn := Int.emod_nonneg (a : Int) (show (b : Int) ≠ 0 by omega)
  have hcm : (a : Int) / (b : Int) * (b : Int) = (b : Int) * ((a : Int) / (b : Int)) := Int.mul_comm _ _
  have e3 : f115 (((a : Int).sign, dig a, ()), ((enc ((a : Int) / (b : Int) * (b : Int))).1, (enc ((a : Int) / (b : Int) * (b : Int))).2.1, ()), ()) = some (enc ((a % b : Nat) : Int), ()) := by
    have h := f115_eq a ((a : Int) / (b : Int) * (b : Int)) (by simp only [Int.natAbs_natCast]; omega) (Nat.le_trans (dig_mono (n := a) (by omega)) (by omega))
    rw [show (a : Int) - (a : Int) / (b : Int) * (b : Int) = ((a % b : Nat) : Int) by rw [Int.natCast_emod]; omega] at h
    exact h
  have hs : (b : Int).sign = 1 := Int.sign_eq_one_of_pos (by omega)
  simp only [s97_0, t97_0, g65, e0, g99, e1, g64, e2, g115, e3, Option.isSome_some, Option.getD_some, Tr.val_test, Tr.val_fin, eqF_eq, if_true]
  rw [if_pos (by rw [hs]; simp)]
  rfl

theorem s97_end (a : Nat) (z : Int) : s97_0 ((), (((a : Int).sign, dig a, ()), (((0 : Nat) : Int).sign, dig 0, ()), (z, ()), ())) = some (.brk ((), (((a : Int).sign, dig a, ()), (((0 : Nat) : Int).sign, dig 0, ()), (z, ()), ()))) := by
  have e0 : f65 ((((0 : Nat) : Int).sign, dig 0, ()), ()) = some (((0 : Nat) : Int).sign, ()) := rfl
  simp only [s97_0, t97_0, g65, e0, Option.isSome_some, Option.getD_some, Tr.val_test, Tr.val_fin, eqF_eq, if_true]
  rw [if_neg (by simp)]

theorem it97 (z : Int) : ∀ (k a b m : Nat), b < 2 ^ k → (dig a).length ≤ 10000 → (dig b).length ≤ 10000 → 2 * k < m →
    itr s97_0 m ((), (((a : Int).sign, dig a, ()), ((b : Int).sign, dig b, ()), (z, ()), ())) =
      some (.inl ((), (((Nat.gcd a b : Nat) : Int).sign, dig (Nat.gcd a b), ()), (((0 : Nat) : Int).sign, dig 0, ()), (z, ()), ()))
  | k, a, b, m, h, h1, h2, hm => by
    obtain ⟨m, rfl⟩ : ∃ j, m = j + 1 := ⟨m - 1, by omega⟩
    by_cases hb : b = 0
    · subst hb
      rw [itr, s97_end, Nat.gcd_zero_right]
    · rw [itr, s97_step a b z hb h1 h2]
      dsimp only
      have hr := Nat.mod_lt a (Nat.pos_of_ne_zero hb)
      have hrl : (dig (a % b)).length ≤ 10000 := Nat.le_trans (dig_mono (Nat.le_of_lt hr)) h2
      have hg : Nat.gcd a b = Nat.gcd b (a % b) := by rw [Nat.gcd_comm, Nat.gcd_rec, Nat.gcd_comm]
      obtain ⟨m, rfl⟩ : ∃ j, m = j + 1 := ⟨m - 1, by
        cases k with
        | zero => simp at h; omega
        | succ k => omega⟩
      by_cases hr0 : a % b = 0
      · rw [hg, hr0, itr, s97_end, Nat.gcd_zero_right]
      · rw [itr, s97_step b (a % b) z hr0 h2 hrl]
        dsimp only
        have hh := mod_half (Nat.pos_of_ne_zero hr0) hr
        have hg2 : Nat.gcd b (a % b) = Nat.gcd (a % b) (b % (a % b)) := by rw [Nat.gcd_comm, Nat.gcd_rec, Nat.gcd_comm]
        cases k with
        | zero => simp at h; omega
        | succ k =>
          rw [hg, hg2]
          have h3 := Nat.mod_lt b (Nat.pos_of_ne_zero hr0)
          exact it97 z k (a % b) (b % (a % b)) m (by rw [Nat.pow_succ] at h; omega) hrl (Nat.le_trans (dig_mono (by omega)) hrl) (by omega)

theorem f97_eq (x y : Int) (h1 : (dig x.natAbs).length ≤ 10000) (h2 : (dig y.natAbs).length ≤ 10000) : f97 (enc x, enc y, ()) = some (enc (Nat.gcd x.natAbs y.natAbs : Nat), ()) := by
  have e0 : f114 ((x.sign, dig x.natAbs, ()), ()) = some (enc x.natAbs, ()) := f114_eq x
  have e1 : f114 ((y.sign, dig y.natAbs, ()), ()) = some (enc y.natAbs, ()) := f114_eq y
  have hlt : y.natAbs < 2 ^ (30 * (dig y.natAbs).length) := by
    have q1 := dig_len_pw y.natAbs
    have q2 := pw_two (dig y.natAbs).length
    omega
  have hl : l97_0 ((), (((enc x.natAbs).1, (enc x.natAbs).2.1, ()), ((enc y.natAbs).1, (enc y.natAbs).2.1, ()), ((0 : Int), ()), ())) =
      some (.inl ((), (((Nat.gcd x.natAbs y.natAbs : Nat) : Int).sign, dig (Nat.gcd x.natAbs y.natAbs), ()), (((0 : Nat) : Int).sign, dig 0, ()), ((0 : Int), ()), ())) :=
    it97 0 _ x.natAbs y.natAbs rounds hlt h1 h2 (lt_rounds (by omega))
  show f97 ((x.sign, dig x.natAbs, ()), (y.sign, dig y.natAbs, ()), ()) = _
  simp only [f97, t97, g114, e0, e1, b97_0, hl, Option.isSome_some, Option.getD_some, Tr.val_test, Tr.val_fin, isBrk, outB, if_true]
  rfl

def encR (r : Rat) : (Int × List Int × PUnit) × (Int × List Int × PUnit) × PUnit := (enc r.num, enc (r.den : Int), ())

def rsz (r : Rat) (n : Nat) : Prop := (dig r.num.natAbs).length ≤ n ∧ (dig r.den).length ≤ n

theorem len_mul (m n : Nat) : (dig (m * n)).length ≤ (dig m).length + (dig n).length := dig_len (by
  have h1 := dig_len_pw m; have h2 := dig_len_pw n
  rw [pw_add, Int.natCast_mul]
  rcases Nat.eq_zero_or_pos n with h | h
  · subst h
    have := pw_pos (dig m).length; have := pw_pos (dig 0).length
    have := Int.mul_pos (pw_pos (dig m).length) (pw_pos (dig 0).length)
    simpa using this
  · exact Int.lt_of_lt_of_le (Int.mul_lt_mul_of_pos_right h1 (by omega)) (Int.mul_le_mul_of_nonneg_left (Int.le_of_lt h2) (Int.le_of_lt (pw_pos _))))

theorem len_add (x y : Int) {k : Nat} (h1 : (dig x.natAbs).length ≤ k) (h2 : (dig y.natAbs).length ≤ k) : (dig (x + y).natAbs).length ≤ k + 1 := dig_len (by
  have q1 := dig_len_pw x.natAbs; have q2 := dig_len_pw y.natAbs
  have q3 : pw (dig x.natAbs).length ≤ pw k := pw_le h1
  have q4 : pw (dig y.natAbs).length ≤ pw k := pw_le h2
  simp only [pw]; omega)

theorem len_imul (x y : Int) : (dig (x * y).natAbs).length ≤ (dig x.natAbs).length + (dig y.natAbs).length := by rw [Int.natAbs_mul]; exact len_mul _ _

theorem f62_eq (x : Int) (y : Nat) (hy : y ≠ 0) (h1 : (dig x.natAbs).length ≤ 10000) (h2 : (dig y).length ≤ 10000) : f62 (enc x, enc (y : Int), ()) = some (encR (Rat.normalize x y hy), ()) := by
  have hs : (y : Int).sign = 1 := Int.sign_eq_one_of_pos (by omega)
  have e0 : f65 (((y : Int).sign, dig (y : Int).natAbs, ()), ()) = some ((y : Int).sign, ()) := rfl
  have e1 : f97 ((x.sign, dig x.natAbs, ()), ((y : Int).sign, dig (y : Int).natAbs, ()), ()) = some (enc (Nat.gcd x.natAbs y : Nat), ()) := f97_eq x y h1 h2
  have e2 := f61_eq 1 (by decide)
  have hg : 0 < Nat.gcd x.natAbs y := Nat.gcd_pos_of_pos_right _ (by omega)
  have hgl : (dig (Nat.gcd x.natAbs y)).length ≤ 10000 := Nat.le_trans (dig_mono (Nat.gcd_le_right _ (by omega))) h2
  have hnum : (Rat.normalize x y hy).num = x / ((Nat.gcd x.natAbs y : Nat) : Int) := by rw [Rat.normalize_eq]
  have hden : (Rat.normalize x y hy).den = y / Nat.gcd x.natAbs y := by rw [Rat.normalize_eq]
  generalize hgg : Nat.gcd x.natAbs y = g at *
  have e3 : f98 (((enc (g : Nat)).1, (enc (g : Nat)).2.1, ()), ((enc 1).1, (enc 1).2.1, ()), ()) = some (((g : Int) - 1).sign, ()) := f98_eq (g : Int) 1 (by simp only [Int.natAbs_natCast]; omega) (by have := dig_small (x := 1) (by omega) (by omega); omega)
  have e4 : f99 ((x.sign, dig x.natAbs, ()), ((enc (g : Nat)).1, (enc (g : Nat)).2.1, ()), ()) = some (enc (x / (g : Int)), ()) := f99_eq x g (by omega) hgl h1
  have e5 : f99 (((y : Int).sign, dig (y : Int).natAbs, ()), ((enc (g : Nat)).1, (enc (g : Nat)).2.1, ()), ()) = some (enc ((y : Int) / (g : Int)), ()) := f99_eq y g (by omega) hgl h2
  show f62 ((x.sign, dig x.natAbs, ()), ((y : Int).sign, dig (y : Int).natAbs, ()), ()) = _
  simp only [f62, t62, g65, e0, g97, e1, g61, e2, g98, e3, Option.isSome_some, Option.getD_some, Tr.val_test, Tr.val_fin, leF_eq, eqF_eq, if_true]
  rw [if_neg (by rw [hs]; simp)]
  by_cases h : g = 1
  · subst h
    rw [if_pos (by simp), encR, hnum, hden]
    simp [enc]
  · rw [if_neg (by rw [Int.sign_eq_one_of_pos (by omega)]; simp)]
    simp only [g99, e4, e5, Option.isSome_some, Option.getD_some, if_true]
    rw [encR, hnum, hden, Int.natCast_ediv]

theorem f25_eq (x : Int) (h : x.natAbs ≤ 9223372036854775807) : f25 (x, ()) = some (encR (x : Rat), ()) := by
  have e1 := f61_eq x h
  have e2 := f61_eq 1 (by decide)
  simp only [f25, t25, g61, e1, e2, Option.isSome_some, Option.getD_some, Tr.val_test, Tr.val_fin, if_true]
  rfl

theorem f57_eq (x : Int) (y : Nat) (hy : y ≠ 0) (h : x.natAbs ≤ 9223372036854775807) (h2 : y ≤ 9223372036854775807) : f57 (x, (y : Int), ()) = some (encR (Rat.normalize x y hy), ()) := by
  have e1 := f61_eq x h
  have e2 := f61_eq (y : Int) (by omega)
  have e3 : f62 (((enc x).1, (enc x).2.1, ()), ((enc (y : Int)).1, (enc (y : Int)).2.1, ()), ()) = some (encR (Rat.normalize x y hy), ()) := f62_eq x y hy
    (Nat.le_trans (dig_len (k := 3) (by simp only [pw]; omega)) (by omega)) (Nat.le_trans (dig_len (k := 3) (by simp only [pw]; omega)) (by omega))
  simp only [f57, t57, g61, e1, e2, g62, e3, Option.isSome_some, Option.getD_some, Tr.val_test, Tr.val_fin, if_true]

theorem f26_eq (r s : Rat) (hr : rsz r 2000) (hs : rsz s 2000) : f26 (encR r, encR s, ()) = some (encR (r + s), ()) := by
  obtain ⟨r1, r2⟩ := hr
  obtain ⟨s1, s2⟩ := hs
  have m1 := len_imul r.num (s.den : Int)
  have m2 := len_imul s.num (r.den : Int)
  have m3 := len_mul r.den s.den
  simp only [Int.natAbs_natCast] at m1 m2
  have m4 := len_add (r.num * (s.den : Int)) (s.num * (r.den : Int)) (k := 4000) (by omega) (by omega)
  have e1 : f64 ((r.num.sign, dig r.num.natAbs, ()), ((s.den : Int).sign, dig s.den, ()), ()) = some (enc (r.num * (s.den : Int)), ()) := f64_eq _ _ (by simp only [Int.natAbs_natCast]; omega)
  have e2 : f64 ((s.num.sign, dig s.num.natAbs, ()), ((r.den : Int).sign, dig r.den, ()), ()) = some (enc (s.num * (r.den : Int)), ()) := f64_eq _ _ (by simp only [Int.natAbs_natCast]; omega)
  have e3 : f63 (((enc (r.num * (s.den : Int))).1, (enc (r.num * (s.den : Int))).2.1, ()), ((enc (s.num * (r.den : Int))).1, (enc (s.num * (r.den : Int))).2.1, ()), ()) = some (enc (r.num * (s.den : Int) + s.num * (r.den : Int)), ()) := f63_eq _ _ (by omega) (by omega)
  have e4 : f64 (((r.den : Int).sign, dig r.den, ()), ((s.den : Int).sign, dig s.den, ()), ()) = some (enc ((r.den * s.den : Nat) : Int), ()) := by
    rw [Int.natCast_mul]; exact f64_eq (r.den : Int) (s.den : Int) (by simp only [Int.natAbs_natCast]; omega)
  have e5 : f62 (((enc (r.num * (s.den : Int) + s.num * (r.den : Int))).1, (enc (r.num * (s.den : Int) + s.num * (r.den : Int))).2.1, ()), ((enc ((r.den * s.den : Nat) : Int)).1, (enc ((r.den * s.den : Nat) : Int)).2.1, ()), ()) = some (encR (r + s), ()) := by
    rw [Rat.add_def]; exact f62_eq _ _ _ (by omega) (by omega)
  show f26 (((r.num.sign, dig r.num.natAbs, ()), ((r.den : Int).sign, dig r.den, ()), ()), ((s.num.sign, dig s.num.natAbs, ()), ((s.den : Int).sign, dig s.den, ()), ()), ()) = _
  simp only [f26, t26, g64, e1, e2, g63, e3, e4, g62, e5, Option.isSome_some, Option.getD_some, Tr.val_test, Tr.val_fin, if_true]

theorem f27_eq (r s : Rat) (hr : rsz r 2000) (hs : rsz s 2000) : f27 (encR r, encR s, ()) = some (encR (r * s), ()) := by
  obtain ⟨r1, r2⟩ := hr
  obtain ⟨s1, s2⟩ := hs
  have m1 := len_imul r.num s.num
  have m3 := len_mul r.den s.den
  have e1 : f64 ((r.num.sign, dig r.num.natAbs, ()), (s.num.sign, dig s.num.natAbs, ()), ()) = some (enc (r.num * s.num), ()) := f64_eq _ _ (by omega)
  have e4 : f64 (((r.den : Int).sign, dig r.den, ()), ((s.den : Int).sign, dig s.den, ()), ()) = some (enc ((r.den * s.den : Nat) : Int), ()) := by
    rw [Int.natCast_mul]; exact f64_eq (r.den : Int) (s.den : Int) (by simp only [Int.natAbs_natCast]; omega)
  have e5 : f62 (((enc (r.num * s.num)).1, (enc (r.num * s.num)).2.1, ()), ((enc ((r.den * s.den : Nat) : Int)).1, (enc ((r.den * s.den : Nat) : Int)).2.1, ()), ()) = some (encR (r * s), ()) := by
    rw [Rat.mul_def]; exact f62_eq _ _ _ (by omega) (by omega)
  show f27 (((r.num.sign, dig r.num.natAbs, ()), ((r.den : Int).sign, dig r.den, ()), ()), ((s.num.sign, dig s.num.natAbs, ()), ((s.den : Int).sign, dig s.den, ()), ()), ()) = _
  simp only [f27, t27, g64, e1, e4, g62, e5, Option.isSome_some, Option.getD_some, Tr.val_test, Tr.val_fin, if_true]

theorem f88_eq (r s : Rat) (hr : rsz r 2000) (hs : rsz s 2000) : f88 (encR r, encR s, ()) = some (encR (r - s), ()) := by
  have e0 : f96 ((s.num.sign, dig s.num.natAbs, ()), ()) = some (enc (-s.num), ()) := f96_eq s.num
  have e1 : f112 (((s.num.sign, dig s.num.natAbs, ()), ((s.den : Int).sign, dig s.den, ()), ()), ()) = some (encR (-s), ()) := by
    simp only [f112, t112, g96, e0, Option.isSome_some, Option.getD_some, Tr.val_test, Tr.val_fin, if_true]
    rfl
  have hs' : rsz (-s) 2000 := ⟨by rw [Rat.neg_num, Int.natAbs_neg]; exact hs.1, by rw [Rat.neg_den]; exact hs.2⟩
  have e2 : f26 (((r.num.sign, dig r.num.natAbs, ()), ((r.den : Int).sign, dig r.den, ()), ()), (((encR (-s)).1.1, (encR (-s)).1.2.1, ()), ((encR (-s)).2.1.1, (encR (-s)).2.1.2.1, ()), ()), ()) = some (encR (r + -s), ()) := f26_eq r (-s) hr hs'
  show f88 (((r.num.sign, dig r.num.natAbs, ()), ((r.den : Int).sign, dig r.den, ()), ()), ((s.num.sign, dig s.num.natAbs, ()), ((s.den : Int).sign, dig s.den, ()), ()), ()) = _
  simp only [f88, t88, g112, e1, g26, e2, Option.isSome_some, Option.getD_some, Tr.val_test, Tr.val_fin, if_true, Rat.sub_eq_add_neg]

theorem sgn_zero (x : Int) : St.sgn x = 0 ↔ x = 0 := by unfold St.sgn; split <;> (try split) <;> constructor <;> intro h <;> (try omega) <;> (try cases h)

theorem f48_eq {m k : List Int} (hf : St.Fr m k) {p q : Int} (hq : 0 < q) (hb : St.bd p q ≤ 42500) : f48 (((m, (k, ())), ()), ((p, (q, ())), ())) = some (((St.top m k p q).count : Int), ()) := by
  have h4 := hf.top
  have e := f82_eq hf hq hb
  have e2 := f81_eq (vals m k p q (k.length + 1)) (by rw [vals_len]; omega)
  have e3 : St.chg (St.gt (vals m k p q (k.length + 1))) (vals m k p q (k.length + 1)).length = St.chg (fun i => St.W m k p q (i + 1)) (k.length + 1) := by
    rw [vals_len]
    exact chg_congr _ (fun i hi => by rw [vals_at _ _ _ _ hi]; exact St.ev_sgn hf.top hq (by omega))
  rw [e3, St.chg_count hf hq] at e2
  simp only [f48, t48, g82, e, g81, e2, Option.isSome_some, Option.getD_some, Tr.val_test, Tr.val_fin, if_true]

theorem ev_top {m k : List Int} (hf : St.Fr m k) {p q : Int} (hq : 0 < q) : St.ev (St.Dc m k (k.length + 1)) p q = 0 ↔ (St.top m k p q).f = 0 := by
  rw [← sgn_zero, St.ev_sgn hf.top hq (Nat.le_refl _), sgn_zero, St.W_top hf hq]
  have := St.sg_ne (St.top m k p q).h
  constructor
  · intro h
    rcases Int.mul_eq_zero.1 h with h | h
    · exact absurd h this
    · exact h
  · intro h
    rw [h, Int.mul_zero]

theorem f50_eq {m k : List Int} (hf : St.Fr m k) {p q : Int} (hq : 0 < q) (hb : St.bd p q ≤ 42500) : f50 (((m, (k, ())), ()), ((p, (q, ())), ())) = some (decide ((St.top m k p q).f = 0), ()) := by
  have h4 := hf.top
  have e := f82_eq hf hq hb
  have el := vals_len m k p q (k.length + 1)
  have w : wrap64 (((k.length + 1 : Nat) : Int) - 1) = (k.length : Int) := by rw [wr_abs (by omega)]; omega
  have ev := vals_at m k p q (n := k.length + 1) (i := k.length) (by omega)
  have ev' : (vals m k p q (k.length + 1)).getD k.length 0 = St.ev (St.Dc m k (k.length + 1)) p q := ev
  simp only [f50, t50, g82, e, Option.isSome_some, Option.getD_some, Tr.val_test, Tr.val_fin, Tr.val_stop, if_true, el, w, Int.toNat_natCast, eqF_eq, ev']
  rw [if_pos (by simp; omega)]
  congr 2
  exact decide_eq_decide.2 (ev_top hf hq)

theorem f49_eq (l : List Int) (h : l.length ≤ 1000) : f49 (l, ()) = some (l, ()) := by
  rcases Nat.eq_zero_or_pos l.length with h0 | h0
  · have : l = [] := List.length_eq_zero_iff.1 h0
    subst this
    rfl
  · simp only [f49, t49, Tr.val_test, Tr.val_fin, Tr.val_stop, List.nil_append, Nat.zero_add]
    rw [if_neg (by simp; intro h; rw [h] at h0; simp at h0), if_neg (by simp; intro h; rw [h] at h0; simp at h0), if_pos (by simp [Nat.ble_eq]; omega), if_pos (by simp)]

theorem f11_eq (m k : List Int) (h : m.length ≤ 1000) (h2 : k.length ≤ 1000) : f11 ((m, (k, ())), ()) = some ((m, (k, ())), ()) := by
  have e1 := f49_eq m h
  have e2 := f49_eq k h2
  simp only [f11, t11, g49, e1, e2, Option.isSome_some, Option.getD_some, Tr.val_test, Tr.val_fin, if_true]

theorem firstNZ_zero {a b : Int} (ha : a = 0) (hb : b = 0) : firstNZ [a, b] = 0 := by subst ha hb; rfl

/-- A square that may be asked for. -/
structure Sq (p q : Int) : Prop where
  pos : 0 < q
  den : q ≤ 100
  lo : -100 ≤ p
  hi : p ≤ 100
  low : Int.gcd p q = 1

theorem Sq.bd {p q : Int} (h : Sq p q) : St.bd p q ≤ 42500 := by
  have h1 := h.pos; have h2 := h.den; have h3 := h.lo; have h4 := h.hi
  unfold St.bd; omega

theorem norm_size {x : Int} {y : Nat} (hy : y ≠ 0) {n : Nat} (h1 : (dig x.natAbs).length ≤ n) (h2 : (dig y).length ≤ n) : rsz (Rat.normalize x y hy) n := by
  rw [Rat.normalize_eq]
  constructor
  · refine Nat.le_trans (dig_mono ?_) h1
    have h : ((x.natAbs.gcd y : Nat) : Int) ∣ x := Int.ofNat_dvd_left.2 (Nat.gcd_dvd_left _ _)
    show (x / ((x.natAbs.gcd y : Nat) : Int)).natAbs ≤ _
    rw [← Int.tdiv_eq_ediv_of_dvd h]
    exact tdiv_abs_le _ _
  · exact Nat.le_trans (dig_mono (Nat.div_le_self _ _)) h2

theorem norm_div (x : Int) {y : Nat} (hy : y ≠ 0) : Rat.normalize x y hy = (x : Rat) / (y : Rat) := by
  rw [Rat.normalize_eq_mkRat, Rat.mkRat_eq_div]

theorem rsz_mul {r s : Rat} {m n : Nat} (hr : rsz r m) (hs : rsz s n) : rsz (r * s) (m + n) := by
  obtain ⟨r1, r2⟩ := hr
  obtain ⟨s1, s2⟩ := hs
  have m1 := len_imul r.num s.num
  have m3 := len_mul r.den s.den
  rw [Rat.mul_def]
  exact norm_size _ (by omega) (by omega)

theorem rsz_mono {r : Rat} {m n : Nat} (h : rsz r m) (hn : m ≤ n) : rsz r n := ⟨Nat.le_trans h.1 hn, Nat.le_trans h.2 hn⟩

theorem rsz_add {r s : Rat} {m n : Nat} (hr : rsz r m) (hs : rsz s n) : rsz (r + s) (m + n + 1) := by
  obtain ⟨r1, r2⟩ := hr
  obtain ⟨s1, s2⟩ := hs
  have m1 := len_imul r.num (s.den : Int)
  have m2 := len_imul s.num (r.den : Int)
  have m3 := len_mul r.den s.den
  simp only [Int.natAbs_natCast] at m1 m2
  have m4 := len_add (r.num * (s.den : Int)) (s.num * (r.den : Int)) (k := m + n) (by omega) (by omega)
  rw [Rat.add_def]
  exact norm_size _ m4 (by omega)

theorem rsz_int {x : Int} (h : x.natAbs < 1000000000000000000) : rsz (x : Rat) 2 := by
  refine ⟨?_, ?_⟩
  · rw [Rat.num_intCast]; exact dig_len (by simp only [pw]; omega)
  · rw [Rat.den_intCast]; exact Nat.le_trans (dig_len (k := 1) (by simp only [pw]; omega)) (by omega)

/-- A square as a fraction. -/
def sqR (p q : Int) : Rat := if h : q.toNat = 0 then 0 else Rat.normalize p q.toNat h

theorem f28_eq (r : Rat) : f28 (encR r, ()) = some (r.num.sign, ()) := rfl

theorem l108_ok {m k : List Int} (hf : St.Fr m k) : l108_0 ((m, ((m.length : Int), ((0 : Int), ()))), ((m, (k, ())), ())) = some (.inl ((), ((m, (k, ())), ()))) := by
  have h4 := hf.top
  have hl := hf.len
  refine itr_brk (step := s108_0) (fun i => ((m, ((m.length : Int), ((i : Int), ()))), ((m, (k, ())), ()))) (n := m.length) ?_ ?_ (lt_rounds (by omega))
  · intro i hi
    have hm := hf.mass i (by omega)
    have hk := hf.spring i (by omega)
    have e1 := f51_one 1 10 (St.gt m i)
    have e2 := f51_one 1 20 (St.gt k i)
    rw [show wi 1 10 (St.gt m i) = true from wi_iff.2 hm] at e1
    rw [show wi 1 20 (St.gt k i) = true from wi_iff.2 hk] at e2
    simp only [s108_0, t108_0, Tr.val_test, Tr.val_fin, Tr.val_stop, leF_eq, eqF_eq, Int.toNat_natCast, show m.getD i 0 = St.gt m i from rfl, show k.getD i 0 = St.gt k i from rfl, g51, e1, e2, g52, Bool.not_true, f52_eq (false, ((2 : Int), ())), Option.isSome_some, Option.getD_some, if_true, wrap64_nat (show i ≤ 9223372036854775806 by omega), Bool.false_eq_true, if_false]
    rw [if_pos (by simp; omega), if_pos (by simp; omega), if_pos (by simp; omega)]
    rfl
  · simp only [s108_0, t108_0, Tr.val_test, Tr.val_fin, Tr.val_stop, leF_eq]
    rw [if_neg (by simp)]

theorem f78_ok {m k : List Int} (hf : St.Fr m k) : f78 ((m, (k, ())), ()) = some (0, (0, ())) := by
  have h4 := hf.top
  have hl := hf.len
  have h0 := hf.pos
  have e := l108_ok hf
  have e2 := f72_eq [0, 0] (by decide)
  rw [firstNZ_zero rfl rfl] at e2
  have c1 : (!eqF (k.length : Int) (m.length : Int)) = false := by rw [eqF_eq, hl]; simp
  have c2 : (!leF (m.length : Int) 4) = false := by rw [leF_eq]; simp; omega
  have c3 : eqF (m.length : Int) 0 = false := by rw [eqF_eq]; simp; intro h; rw [h] at hl; simp at hl; omega
  simp only [f78, t78, Tr.val_test, Tr.val_fin, Tr.val_stop, c1, c2, c3, Bool.false_eq_true, if_false, g52, f52_eq (false, ((10 : Int), ())), f52_eq (false, ((8 : Int), ())), Option.isSome_some, Option.getD_some, if_true, g72, e2, e, isRet]
  simp [eqF_eq]

/-- One that is not valid. -/
def frBad (m k : List Int) (i : Nat) : Bool := !wi 1 10 (St.gt m i) || !wi 1 20 (St.gt k i)

theorem l55_eq {m k : List Int} (hl : k.length = m.length) (h : m.length ≤ 4) : l55_0 (((0 : Int), ()), ((m, (k, ())), ())) = match first (frBad m k) m.length 0 with
    | some i => some (.inr (((i : Int), ((2 : Int), ())), ((m, (k, ())), ())))
    | none => some (.inl ((), ((m, (k, ())), ()))) := by
  refine itr_search (fun i => (((i : Int), ()), ((m, (k, ())), ()))) (frBad m k) (fun i => (((i : Int), ((2 : Int), ())), ((m, (k, ())), ()))) (n := m.length) ?_ ?_ (lt_rounds (by omega))
  · intro i hi
    simp only [s55_0, t55_0, Tr.val_test, Tr.val_fin, Tr.val_stop, leF_eq, Int.toNat_natCast, wrap64_nat (show i ≤ 9223372036854775806 by omega), show m.getD i 0 = St.gt m i from rfl, show k.getD i 0 = St.gt k i from rfl, g21, f21_eq (St.gt m i, ((1 : Int), ((10 : Int), ()))), f21_eq (St.gt k i, ((1 : Int), ((20 : Int), ()))), Option.isSome_some, Option.getD_some, if_true, frBad]
    rw [if_pos (by simp; omega), if_pos (by simp; omega)]
    have hc : (decide ((0 : Int) ≤ (i : Int)) && decide ((i : Int) < (k.length : Int))) = true := by simp; omega
    rcases Bool.eq_false_or_eq_true (wi 1 10 (St.gt m i)) with h1 | h1
    · rcases Bool.eq_false_or_eq_true (wi 1 20 (St.gt k i)) with h2 | h2
      · simp only [h1, h2, hc, Bool.not_true, Bool.or_self, Bool.false_eq_true, if_false, if_true]
      · simp only [h1, h2, hc, Bool.not_true, Bool.not_false, Bool.or_true, Bool.false_eq_true, if_false, if_true]
    · simp only [h1, Bool.not_false, Bool.true_or, if_true]
  · simp only [s55_0, t55_0, Tr.val_test, Tr.val_fin, Tr.val_stop, leF_eq]
    rw [if_neg (by simp)]

/-- Which storey, and the error. -/
def chkE (m k : List Int) : Int × Int := if m.length = 0 then (0, 10) else if k.length = m.length then (if m.length ≤ 4 then (match first (frBad m k) m.length 0 with
  | some i => ((i : Int), 2)
  | none => (0, 0)) else (0, 8)) else (0, 10)

theorem chkE_ok {m k : List Int} (h : (chkE m k).2 = 0) : St.Fr m k := by
  unfold chkE at h
  split at h
  · simp at h
  · rename_i c0
    split at h
    · rename_i c1
      split at h
      · rename_i c2
        split at h
        · simp at h
        · rename_i hc
          have hb : ∀ i, i < k.length → wi 1 10 (St.gt m i) = true ∧ wi 1 20 (St.gt k i) = true := by
            intro i hi
            have := first_none hc i (by omega) (by omega)
            unfold frBad at this
            cases h1 : wi 1 10 (St.gt m i) <;> cases h2 : wi 1 20 (St.gt k i) <;> rw [h1, h2] at this <;> simp at this ⊢
          exact ⟨by omega, c1.symm, by omega, fun i hi => wi_iff.1 (hb i hi).1, fun i hi => wi_iff.1 (hb i hi).2⟩
      · simp at h
    · simp at h

theorem f55_all (m k : List Int) : f55 ((m, (k, ())), ()) = some ((chkE m k).1, ((chkE m k).2, ())) := by
  unfold chkE
  by_cases c0 : m.length = 0
  · rw [if_pos c0]
    simp only [f55, t55, Tr.val_test, Tr.val_fin, eqF_eq]
    rw [if_pos (by simpa using c0)]
  · rw [if_neg c0]
    by_cases c1 : k.length = m.length
    · rw [if_pos c1]
      by_cases c2 : m.length ≤ 4
      · rw [if_pos c2]
        have e := l55_eq c1 c2
        cases hc : first (frBad m k) m.length 0 with
        | some i =>
          rw [hc] at e
          simp only [f55, t55, Tr.val_test, Tr.val_fin, Tr.val_stop, eqF_eq, leF_eq, e, isRet, r55_0, outR, Option.isSome_some, if_true]
          rw [if_neg (by simpa using c0), if_neg (by simp; omega), if_neg (by simp; omega)]
        | none =>
          rw [hc] at e
          simp only [f55, t55, Tr.val_test, Tr.val_fin, Tr.val_stop, eqF_eq, leF_eq, e, isRet, Option.isSome_some, if_true]
          rw [if_neg (by simpa using c0), if_neg (by simp; omega), if_neg (by simp; omega)]
          rfl
      · rw [if_neg c2]
        simp only [f55, t55, Tr.val_test, Tr.val_fin, eqF_eq, leF_eq]
        rw [if_neg (by simpa using c0), if_neg (by simp; omega), if_pos (by simp; omega)]
    · rw [if_neg c1]
      simp only [f55, t55, Tr.val_test, Tr.val_fin, eqF_eq, leF_eq]
      rw [if_neg (by simpa using c0), if_pos (by simp; omega)]

theorem f14_all (m k : List Int) : f14 ((m, (k, ())), ()) = some ((chkE m k).2, ()) := by
  simp only [f14, t14, g55, f55_all m k, Tr.val_test, Tr.val_fin, Option.isSome_some, Option.getD_some, if_true]

theorem l108_all {m k : List Int} (hl : k.length = m.length) (h : m.length ≤ 4) : l108_0 ((m, ((m.length : Int), ((0 : Int), ()))), ((m, (k, ())), ())) = match first (frBad m k) m.length 0 with
    | some i => some (.inr (((i : Int), ((2 : Int), ())), ((m, (k, ())), ())))
    | none => some (.inl ((), ((m, (k, ())), ()))) := by
  refine itr_search (fun i => ((m, ((m.length : Int), ((i : Int), ()))), ((m, (k, ())), ()))) (frBad m k) (fun i => (((i : Int), ((2 : Int), ())), ((m, (k, ())), ()))) (n := m.length) ?_ ?_ (lt_rounds (by omega))
  · intro i hi
    have hc : (decide ((0 : Int) ≤ (i : Int)) && decide ((i : Int) < (k.length : Int))) = true := by simp; omega
    have hc2 : (decide ((0 : Int) ≤ (i : Int)) && decide ((i : Int) < (m.length : Int))) = true := by simp; omega
    have hc3 : (!decide ((m.length : Int) ≤ (i : Int))) = true := by simp; omega
    have n2 : (!decide ((2 : Int) = 0)) = true := by decide
    have n0 : (!decide ((0 : Int) = 0)) = false := by decide
    simp only [s108_0, t108_0, Tr.val_test, Tr.val_fin, Tr.val_stop, leF_eq, eqF_eq, Int.toNat_natCast, hc, hc2, hc3, show m.getD i 0 = St.gt m i from rfl, show k.getD i 0 = St.gt k i from rfl, g51, f51_one 1 10 (St.gt m i), f51_one 1 20 (St.gt k i), Option.isSome_some, Option.getD_some, if_true, wrap64_nat (show i ≤ 9223372036854775806 by omega), frBad]
    rcases Bool.eq_false_or_eq_true (wi 1 10 (St.gt m i)) with h1 | h1
    · rcases Bool.eq_false_or_eq_true (wi 1 20 (St.gt k i)) with h2 | h2
      · simp only [h1, h2, g52, f52_eq (false, ((2 : Int), ())), n0, Bool.not_true, Bool.or_self, Bool.false_eq_true, if_false, if_true, Option.isSome_some, Option.getD_some]
        rfl
      · simp only [h1, h2, g52, f52_eq (true, ((2 : Int), ())), n2, Bool.not_true, Bool.not_false, Bool.or_true, Bool.false_eq_true, if_false, if_true, Option.isSome_some, Option.getD_some]
    · simp only [h1, g52, f52_eq (true, ((2 : Int), ())), n2, Bool.not_false, Bool.true_or, if_true, Option.isSome_some, Option.getD_some]
  · simp only [s108_0, t108_0, Tr.val_test, Tr.val_fin, Tr.val_stop, leF_eq]
    rw [if_neg (by simp)]

theorem f78_all (m k : List Int) : f78 ((m, (k, ())), ()) = some ((chkE m k).1, ((chkE m k).2, ())) := by
  have n0 : (!eqF (0 : Int) 0) = false := by rw [eqF_eq]; rfl
  have n8 : (!eqF (8 : Int) 0) = true := by rw [eqF_eq]; rfl
  have n10 : (!eqF (10 : Int) 0) = true := by rw [eqF_eq]; rfl
  have z1 : ∀ b : Int, f72 ([10, b], ()) = some (10, ()) := fun b => f72_eq [10, b] (by simp)
  have z2 : f72 ([0, 8], ()) = some (8, ()) := f72_eq [0, 8] (by decide)
  have z3 : f72 ([0, 0], ()) = some (0, ()) := f72_eq [0, 0] (by decide)
  unfold chkE
  by_cases c0 : m.length = 0
  · rw [if_pos c0]
    have hm : m = [] := List.length_eq_zero_iff.1 c0
    subst hm
    simp only [f78, t78, Tr.val_test, Tr.val_fin, g52, f52_eq (true, ((10 : Int), ())), f52_eq ((!leF (([] : List Int).length : Int) 4), ((8 : Int), ())), g72, Option.isSome_some, Option.getD_some, if_true, z1, n10]
    rfl
  · have b0 : eqF (m.length : Int) 0 = false := by rw [eqF_eq]; simpa using c0
    rw [if_neg c0]
    by_cases c1 : k.length = m.length
    · rw [if_pos c1]
      have b1 : (!eqF (k.length : Int) (m.length : Int)) = false := by rw [eqF_eq, c1]; simp
      by_cases c2 : m.length ≤ 4
      · rw [if_pos c2]
        have b2 : (!leF (m.length : Int) 4) = false := by rw [leF_eq]; simp; omega
        have e := l108_all c1 c2
        cases hc : first (frBad m k) m.length 0 with
        | some i =>
          rw [hc] at e
          simp only [f78, t78, Tr.val_test, Tr.val_fin, Tr.val_stop, b0, b1, b2, g52, f52_eq (false, ((10 : Int), ())), f52_eq (false, ((8 : Int), ())), Bool.false_eq_true, if_false, g72, z3, n0, e, isRet, r108_0, outR, Option.isSome_some, Option.getD_some, if_true]
        | none =>
          rw [hc] at e
          simp only [f78, t78, Tr.val_test, Tr.val_fin, Tr.val_stop, b0, b1, b2, g52, f52_eq (false, ((10 : Int), ())), f52_eq (false, ((8 : Int), ())), Bool.false_eq_true, if_false, g72, z3, n0, e, isRet, Option.isSome_some, Option.getD_some, if_true]
      · rw [if_neg c2]
        have b2 : (!leF (m.length : Int) 4) = true := by rw [leF_eq]; simp; omega
        simp only [f78, t78, Tr.val_test, Tr.val_fin, Tr.val_stop, b0, b1, b2, g52, f52_eq (false, ((10 : Int), ())), f52_eq (true, ((8 : Int), ())), Bool.false_eq_true, if_false, g72, z2, n8, Option.isSome_some, Option.getD_some, if_true]
    · rw [if_neg c1]
      have b1 : (!eqF (k.length : Int) (m.length : Int)) = true := by rw [eqF_eq]; simp; omega
      simp only [f78, t78, Tr.val_test, Tr.val_fin, Tr.val_stop, b0, b1, g52, f52_eq (true, ((10 : Int), ())), f52_eq ((!leF (m.length : Int) 4), ((8 : Int), ())), Bool.false_eq_true, if_false, g72, z1, n10, Option.isSome_some, Option.getD_some, if_true]

theorem etaR (x : (Int × List Int × Unit) × (Int × List Int × Unit) × Unit) : ((x.1.1, (x.1.2.1, ())), ((x.2.1.1, (x.2.1.2.1, ())), ())) = x := rfl

def RW (m k : List Int) (s : Rat) : Nat → Rat
  | 0 => 0
  | 1 => 1
  | j + 2 => (((St.stf k j : Int) : Rat) - s * ((St.gt m j : Int) : Rat)) * RW m k s (j + 1) - ((St.gt k j * St.gt k j : Int) : Rat) * RW m k s j

theorem RW_W (m k : List Int) (s : Rat) {p q : Int} (hs : s * (q : Rat) = (p : Rat)) : ∀ j, RW m k s (j + 1) * (q : Rat) ^ j = ((St.W m k p q (j + 1) : Int) : Rat) ∧ RW m k s j * (q : Rat) ^ j = ((q * St.W m k p q j : Int) : Rat)
  | 0 => by simp [RW, St.W]
  | j + 1 => by
    obtain ⟨h1, h2⟩ := RW_W m k s hs j
    have e2 : RW m k s (j + 1) * (q : Rat) ^ (j + 1) = ((q * St.W m k p q (j + 1) : Int) : Rat) := by
      rw [Rat.pow_succ, Rat.intCast_mul, ← h1]; grind
    refine ⟨?_, e2⟩
    rw [RW, St.W, Rat.pow_succ]
    simp only [Rat.intCast_sub, Rat.intCast_mul]
    have h2' : RW m k s j * (q : Rat) ^ j = (q : Rat) * ((St.W m k p q j : Int) : Rat) := by rw [h2, Rat.intCast_mul]
    rw [← h1, ← hs]
    have e : (q : Rat) * (q : Rat) * ((St.W m k p q j : Int) : Rat) = (q : Rat) * (RW m k s j * (q : Rat) ^ j) := by rw [h2']; grind
    grind

theorem sgn_num (r : Rat) {c w : Int} (hc : 0 < c) (h : r * (c : Rat) = (w : Rat)) : r.num.sign = St.sgn w := by
  have hd : (0 : Int) < (r.den : Int) := by have := r.den_pos; omega
  have hd' : ((r.den : Int) : Rat) ≠ 0 := by
    intro h0
    have : (r.den : Int) = 0 := by exact_mod_cast h0
    omega
  have e : ((r.num * c : Int) : Rat) = ((w * (r.den : Int) : Int) : Rat) := by
    rw [Rat.intCast_mul, Rat.intCast_mul, ← h]
    have hr : (r.num : Rat) = r * ((r.den : Int) : Rat) := by
      have h1 : (r.num : Rat) / (r.den : Rat) = r := (norm_div r.num r.den_nz).symm.trans (Rat.normalize_self r)
      have h2 : ((r.den : Int) : Rat) = (r.den : Rat) := Rat.intCast_natCast _
      rw [h2] at hd' ⊢
      have h3 : (r.num : Rat) / (r.den : Rat) * (r.den : Rat) = (r.num : Rat) := Rat.div_mul_cancel hd'
      rw [h1] at h3
      exact h3.symm
    rw [hr]
    grind
  have e : r.num * c = w * (r.den : Int) := by exact_mod_cast e
  unfold St.sgn
  rcases Int.lt_trichotomy w 0 with hw | hw | hw
  · rw [if_pos hw]
    have := Int.mul_neg_of_neg_of_pos hw hd
    have hn : r.num < 0 := by
      rcases Int.lt_or_le r.num 0 with h | h
      · exact h
      · have := Int.mul_nonneg h (Int.le_of_lt hc); omega
    exact Int.sign_eq_neg_one_of_neg hn
  · subst hw
    rw [Int.zero_mul] at e
    have hn : r.num = 0 := by
      rcases Int.mul_eq_zero.1 e with h | h
      · exact h
      · omega
    rw [hn]; rfl
  · rw [if_neg (show ¬ w < 0 by omega), if_pos hw]
    have := Int.mul_pos hw hd
    have hn : 0 < r.num := by
      rcases Int.lt_or_le 0 r.num with h | h
      · exact h
      · have := Int.mul_nonpos_of_nonpos_of_nonneg h (Int.le_of_lt hc); omega
    exact Int.sign_eq_one_of_pos hn

theorem RW_sgn (m k : List Int) (s : Rat) {p q : Int} (hq : 0 < q) (hs : s * (q : Rat) = (p : Rat)) (j : Nat) : (RW m k s (j + 1)).num.sign = St.sgn (St.W m k p q (j + 1)) := by
  have h := (RW_W m k s hs j).1
  have e : ((q ^ j : Int) : Rat) = (q : Rat) ^ j := Rat.intCast_pow _ _
  rw [← e] at h
  exact sgn_num _ (Int.pow_pos hq) h

theorem rsz_neg {r : Rat} {m : Nat} (h : rsz r m) : rsz (-r) m := ⟨by rw [Rat.neg_num, Int.natAbs_neg]; exact h.1, by rw [Rat.neg_den]; exact h.2⟩

theorem rsz_sub {r s : Rat} {m n : Nat} (hr : rsz r m) (hs : rsz s n) : rsz (r - s) (m + n + 1) := by
  rw [Rat.sub_eq_add_neg]; exact rsz_add hr (rsz_neg hs)

theorem RW_size {m k : List Int} (hf : St.Fr m k) {s : Rat} (hs : rsz s 1) : ∀ j, j ≤ k.length → rsz (RW m k s j) (10 * 3 ^ j) ∧ rsz (RW m k s (j + 1)) (10 * 3 ^ (j + 1))
  | 0, _ => ⟨rsz_mono (rsz_int (x := 0) (by decide)) (by omega), rsz_mono (rsz_int (x := 1) (by decide)) (by omega)⟩
  | j + 1, h => by
    obtain ⟨h1, h2⟩ := RW_size hf hs j (by omega)
    have a := St.stf_le hf (j := j) (by omega)
    have b := hf.mass j (by omega)
    have c := (k_sq hf (i := j) (by omega)).2
    refine ⟨h2, ?_⟩
    rw [RW]
    refine rsz_mono (rsz_sub (rsz_mul (rsz_sub (rsz_int (by omega)) (rsz_mul hs (rsz_int (by omega)))) h2) (rsz_mul (rsz_int (by omega)) h1)) ?_
    have e : 3 ^ (j + 1 + 1) = 3 * 3 ^ (j + 1) := by rw [Nat.pow_succ, Nat.mul_comm]
    have e2 : 3 ^ (j + 1) = 3 * 3 ^ j := by rw [Nat.pow_succ, Nat.mul_comm]
    have e3 : 0 < 3 ^ j := Nat.pow_pos (by decide)
    omega

theorem RW_small {m k : List Int} (hf : St.Fr m k) {s : Rat} (hs : rsz s 1) {j : Nat} (h : j ≤ k.length) : rsz (RW m k s j) 900 := by
  have h4 := hf.top
  have e : 3 ^ j ≤ 3 ^ 4 := Nat.pow_le_pow_right (by decide) (by omega)
  have e2 : 3 ^ 4 = 81 := rfl
  exact rsz_mono (RW_size hf hs j h).1 (by omega)

/-- The first determinants as they lie in memory. -/
def RL (m k : List Int) (s : Rat) (n : Nat) : List ((Int × List Int × Unit) × (Int × List Int × Unit) × Unit) := (List.range n).map fun j => encR (RW m k s (j + 1))

theorem RL_len (m k : List Int) (s : Rat) (n : Nat) : (RL m k s n).length = n := by simp [RL]
theorem RL_succ (m k : List Int) (s : Rat) (n : Nat) : RL m k s n ++ [encR (RW m k s (n + 1))] = RL m k s (n + 1) := by simp [RL, List.range_succ]
theorem RL_at (m k : List Int) (s : Rat) {n i : Nat} (h : i < n) (d : (Int × List Int × Unit) × (Int × List Int × Unit) × Unit) : (RL m k s n).getD i d = encR (RW m k s (i + 1)) := by
  simp [RL, List.getD_eq_getElem?_getD, h]

theorem f89_eq {m k : List Int} (hf : St.Fr m k) {i : Nat} (hi : i < k.length) : f89 ((m, (k, ())), ((i : Int), ())) = some (St.stf k i, ()) := by
  have h4 := hf.top
  have h1 := hf.spring i hi
  simp only [f89, t89, Tr.val_test, Tr.val_fin, Tr.val_stop, leF_eq, wrap64_nat (show i ≤ 9223372036854775806 by omega), Int.toNat_natCast]
  unfold St.stf
  by_cases c : i + 1 = k.length
  · rw [if_neg (by simp; omega), if_pos (by simp; omega), if_pos c]
    rfl
  · have h2 := hf.spring (i + 1) (by omega)
    rw [if_pos (by simp; omega), if_pos (by simp; omega), if_pos (by simp; omega), if_neg c]
    rw [show k.getD i 0 = St.gt k i from rfl, show k.getD (i + 1) 0 = St.gt k (i + 1) from rfl, wr_abs (by omega)]

theorem l58_eq {m k : List Int} (hf : St.Fr m k) {s : Rat} (hs : rsz s 1) :
    l58_0 ((RL m k s 1, ((0 : Int), ())), ((m, (k, ())), (((encR s).1.1, ((encR s).1.2.1, ((encR s).2.1.1, ((encR s).2.1.2.1, ())))), ()))) =
      some (.inl ((RL m k s (k.length + 1), ()), ((m, (k, ())), (((encR s).1.1, ((encR s).1.2.1, ((encR s).2.1.1, ((encR s).2.1.2.1, ())))), ())))) := by
  have h4 := hf.top
  have hl := hf.len
  refine itr_brk (step := s58_0) (fun i => ((RL m k s (i + 1), ((i : Int), ())), ((m, (k, ())), (((encR s).1.1, ((encR s).1.2.1, ((encR s).2.1.1, ((encR s).2.1.2.1, ())))), ())))) (n := k.length) ?_ ?_ (lt_rounds (by omega))
  · intro i hi
    have a := St.stf_le hf hi
    have b := hf.mass i hi
    have c := k_sq hf hi
    have e89 := f89_eq hf hi
    have e1 := f25_eq (St.stf k i) (by omega)
    have e2 := f25_eq (St.gt m i) (by omega)
    have e3 : f27 (encR s, (encR ((St.gt m i : Int) : Rat), ())) = some (encR (s * ((St.gt m i : Int) : Rat)), ()) := f27_eq _ _ (rsz_mono hs (by omega)) (rsz_mono (rsz_int (by omega)) (by omega))
    have z3 := rsz_mul hs (rsz_int (x := St.gt m i) (by omega))
    have e4 : f88 (encR ((St.stf k i : Int) : Rat), (encR (s * ((St.gt m i : Int) : Rat)), ())) = some (encR (((St.stf k i : Int) : Rat) - s * ((St.gt m i : Int) : Rat)), ()) := f88_eq _ _ (rsz_mono (rsz_int (by omega)) (by omega)) (rsz_mono z3 (by omega))
    have z4 := rsz_sub (rsz_int (x := St.stf k i) (by omega)) z3
    have zi := RW_small hf hs (j := i + 1) (by omega)
    have e5 : f27 (encR (((St.stf k i : Int) : Rat) - s * ((St.gt m i : Int) : Rat)), (encR (RW m k s (i + 1)), ())) = some (encR ((((St.stf k i : Int) : Rat) - s * ((St.gt m i : Int) : Rat)) * RW m k s (i + 1)), ()) := f27_eq _ _ (rsz_mono z4 (by omega)) (rsz_mono zi (by omega))
    have z5 := rsz_mul z4 zi
    have g0 := RL_at m k s (n := i + 1) (i := i) (by omega) (((0 : Int), [], ()), ((0 : Int), [], ()), ())
    have cm : (decide ((0 : Int) ≤ (i : Int)) && decide ((i : Int) < (m.length : Int))) = true := by simp; omega
    have ck : (decide ((0 : Int) ≤ (i : Int)) && decide ((i : Int) < (k.length : Int))) = true := by simp; omega
    have cl : (decide ((0 : Int) ≤ (i : Int)) && decide ((i : Int) < ((i + 1 : Nat) : Int))) = true := by simp; omega
    have c0 : (!leF (m.length : Int) (i : Int)) = true := by rw [leF_eq]; simp; omega
    have cn : (Nat.ble ((2 * (i + 1 + 1) + 192) * 64) 281474976710656 && Nat.ble (i + 1 + 1) 281474976710656) = true := by simp [Nat.ble_eq]; omega
    simp only [s58_0, t58_0, Tr.val_test, Tr.val_fin, Tr.val_stop, Int.toNat_natCast, c0, g89, e89, g25, e1, cm, show m.getD i 0 = St.gt m i from rfl, e2, etaR, g27, e3, g88, e4, RL_len, cl, g0, e5, ck, cn, c.1, Option.isSome_some, Option.getD_some, ↓reduceIte]
    by_cases ci : i = 0
    · subst ci
      have c5 : (!leF ((0 : Nat) : Int) 0) = false := by rw [leF_eq]; rfl
      have er : RW m k s (0 + 2) = (((St.stf k 0 : Int) : Rat) - s * ((St.gt m 0 : Int) : Rat)) * RW m k s (0 + 1) := by
        rw [RW]
        show _ - _ * (0 : Rat) = _
        rw [Rat.mul_zero, Rat.sub_eq_add_neg, Rat.neg_zero, Rat.add_zero]
        rfl
      simp only [c5, Bool.false_eq_true, ↓reduceIte]
      rw [← er, RL_succ]
      rfl
    · have c5 : (!leF (i : Int) 0) = true := by rw [leF_eq]; simp; omega
      have w : wrap64 ((i : Int) - 1) = ((i - 1 : Nat) : Int) := by rw [wr_abs (by omega)]; omega
      have cp : (decide ((0 : Int) ≤ ((i - 1 : Nat) : Int)) && decide (((i - 1 : Nat) : Int) < ((i + 1 : Nat) : Int))) = true := by simp; omega
      have g1 := RL_at m k s (n := i + 1) (i := i - 1) (by omega) (((0 : Int), [], ()), ((0 : Int), [], ()), ())
      rw [show i - 1 + 1 = i by omega] at g1
      have e6 := f25_eq (St.gt k i * St.gt k i) (by omega)
      have zj := RW_small hf hs (j := i) (by omega)
      have zk : rsz ((St.gt k i * St.gt k i : Int) : Rat) 2 := rsz_int (by omega)
      have e7 : f27 (encR ((St.gt k i * St.gt k i : Int) : Rat), (encR (RW m k s i), ())) = some (encR (((St.gt k i * St.gt k i : Int) : Rat) * RW m k s i), ()) := f27_eq _ _ (rsz_mono zk (by omega)) (rsz_mono zj (by omega))
      have e8 : f88 (encR ((((St.stf k i : Int) : Rat) - s * ((St.gt m i : Int) : Rat)) * RW m k s (i + 1)), (encR (((St.gt k i * St.gt k i : Int) : Rat) * RW m k s i), ())) = some (encR (RW m k s (i + 2)), ()) := f88_eq _ _ (rsz_mono z5 (by omega)) (rsz_mono (rsz_mul zk zj) (by omega))
      simp only [c5, w, Int.toNat_natCast, cp, e6, g1, e7, e8, Option.isSome_some, Option.getD_some, ↓reduceIte, RL_succ, etaR]
      rw [wrap64_nat (by omega)]
  · have c0 : (!leF (m.length : Int) (k.length : Int)) = false := by rw [leF_eq]; simp; omega
    simp only [s58_0, t58_0, Tr.val_test, Tr.val_fin, Tr.val_stop, c0, Bool.false_eq_true, ↓reduceIte]

theorem f58_eq {m k : List Int} (hf : St.Fr m k) {s : Rat} (hs : rsz s 1) : f58 ((m, (k, ())), (encR s, ())) = some (RL m k s (k.length + 1), ()) := by
  have e := l58_eq hf hs
  have e1 : f25 ((1 : Int), ()) = some (encR (RW m k s 1), ()) := f25_eq 1 (by decide)
  have e0 : [encR (RW m k s 1)] = RL m k s 1 := rfl
  simp only [f58, t58, g25, e1, etaR, e0, e, b58_0, isBrk, outB, Option.isSome_some, Option.getD_some, Tr.val_test, Tr.val_fin, Tr.val_stop, ↓reduceIte]

theorem chg_sign {v : Nat → Int} (h0 : v 0 = 1) : ∀ i, (St.chg v (i + 1)).2 = 1 ∨ (St.chg v (i + 1)).2 = -1
  | 0 => by
    left
    show (if St.sgn (v 0) ≠ 0 then St.sgn (v 0) else 0) = 1
    rw [h0]; rfl
  | i + 1 => by
    rw [St.chg]
    have hs := sgn_abs (v (i + 1))
    have ih := chg_sign h0 i
    simp only
    split
    · omega
    · exact ih

theorem l18_eq {m k : List Int} (hf : St.Fr m k) {s : Rat} {p q : Int} (hq : 0 < q) (hs : s * (q : Rat) = (p : Rat)) :
    l18_0 ((RL m k s (k.length + 1), ((0 : Int), ((1 : Int), ((1 : Int), ())))), ()) = some (.inl (((St.chg (fun i => St.W m k p q (i + 1)) (k.length + 1)).1, ()), ())) := by
  have h4 := hf.top
  have h0 : (fun i => St.W m k p q (i + 1)) 0 = 1 := rfl
  have e0 : St.chg (fun i => St.W m k p q (i + 1)) 1 = (0, 1) := rfl
  have key := itr_brk (step := s18_0) (fun i => ((RL m k s (k.length + 1), ((St.chg (fun i => St.W m k p q (i + 1)) (i + 1)).1, ((St.chg (fun i => St.W m k p q (i + 1)) (i + 1)).2, (((i + 1 : Nat) : Int), ())))), ())) (n := k.length) (m := rounds) (b := (((St.chg (fun i => St.W m k p q (i + 1)) (k.length + 1)).1, ()), ())) ?_ ?_ (lt_rounds (by omega))
  · rw [e0] at key
    exact key
  · intro i hi
    obtain ⟨h1, h2, h3, h5⟩ := chg_two (fun i => St.W m k p q (i + 1)) (i + 1)
    have hsg := chg_sign (v := fun i => St.W m k p q (i + 1)) h0 i
    have hs2 := sgn_abs (St.W m k p q (i + 1 + 1))
    have g0 := RL_at m k s (n := k.length + 1) (i := i + 1) (by omega) (((0 : Int), [], ()), ((0 : Int), [], ()), ())
    have e1 := f28_eq (RW m k s (i + 1 + 1))
    rw [RW_sgn m k s hq hs (i + 1)] at e1
    have c0 : (!leF ((k.length + 1 : Nat) : Int) ((i + 1 : Nat) : Int)) = true := by rw [leF_eq]; simp; omega
    have c1 : (decide ((0 : Int) ≤ ((i + 1 : Nat) : Int)) && decide (((i + 1 : Nat) : Int) < ((k.length + 1 : Nat) : Int))) = true := by simp; omega
    have ech : St.chg (fun i => St.W m k p q (i + 1)) (i + 1 + 1) = (if St.sgn (St.W m k p q (i + 1 + 1)) * (St.chg (fun i => St.W m k p q (i + 1)) (i + 1)).2 < 0 then (St.chg (fun i => St.W m k p q (i + 1)) (i + 1)).1 + 1 else (St.chg (fun i => St.W m k p q (i + 1)) (i + 1)).1, if St.sgn (St.W m k p q (i + 1 + 1)) ≠ 0 then St.sgn (St.W m k p q (i + 1 + 1)) else (St.chg (fun i => St.W m k p q (i + 1)) (i + 1)).2) := rfl
    rw [ech]
    simp only [s18_0, t18_0, Tr.val_test, Tr.val_fin, Tr.val_stop, RL_len, c0, c1, Int.toNat_natCast, g0, etaR, g28, e1, Option.isSome_some, Option.getD_some, ↓reduceIte, wrap64_nat (show i + 1 ≤ 9223372036854775806 by omega)]
    generalize St.chg (fun i => St.W m k p q (i + 1)) (i + 1) = c at *
    generalize St.sgn (St.W m k p q (i + 1 + 1)) = x at *
    rw [wrap64_id (n := c.1 + 1) (by omega) (by omega)]
    simp only [eqF_eq]
    rcases (show x = -1 ∨ x = 0 ∨ x = 1 by omega) with e | e | e <;> rcases hsg with f | f <;> subst e <;> rw [f] <;> rfl
  · have c0 : (!leF ((k.length + 1 : Nat) : Int) ((k.length + 1 : Nat) : Int)) = false := by rw [leF_eq]; simp
    simp only [s18_0, t18_0, Tr.val_test, Tr.val_fin, Tr.val_stop, RL_len, c0, Bool.false_eq_true, ↓reduceIte]

theorem f18_eq {m k : List Int} (hf : St.Fr m k) {s : Rat} (hz : rsz s 1) {p q : Int} (hq : 0 < q) (hs : s * (q : Rat) = (p : Rat)) : f18 ((m, (k, ())), (encR s, ())) = some (((St.top m k p q).count : Int), ()) := by
  have e := f58_eq hf hz
  have e2 := l18_eq hf hq hs
  rw [St.chg_count hf hq] at e2
  simp only [f18, t18, etaR, g58, e, e2, b18_0, isBrk, outB, Option.isSome_some, Option.getD_some, Tr.val_test, Tr.val_fin, Tr.val_stop, ↓reduceIte]

theorem f19_eq {m k : List Int} (hf : St.Fr m k) {s : Rat} (hz : rsz s 1) {p q : Int} (hq : 0 < q) (hs : s * (q : Rat) = (p : Rat)) : f19 ((m, (k, ())), (encR s, ())) = some (decide ((St.top m k p q).f = 0), ()) := by
  have h4 := hf.top
  have e := f58_eq hf hz
  have w : wrap64 (((k.length + 1 : Nat) : Int) - 1) = (k.length : Int) := by rw [wr_abs (by omega)]; omega
  have g0 := RL_at m k s (n := k.length + 1) (i := k.length) (by omega) (((0 : Int), [], ()), ((0 : Int), [], ()), ())
  have e1 := f28_eq (RW m k s (k.length + 1))
  rw [RW_sgn m k s hq hs k.length] at e1
  have c0 : (decide ((0 : Int) ≤ (k.length : Int)) && decide ((k.length : Int) < ((k.length + 1 : Nat) : Int))) = true := by simp; omega
  simp only [f19, t19, etaR, g58, e, RL_len, w, c0, Int.toNat_natCast, g0, g28, e1, Option.isSome_some, Option.getD_some, Tr.val_test, Tr.val_fin, Tr.val_stop, ↓reduceIte, eqF_eq]
  refine congrArg (fun b => some (b, ())) (decide_eq_decide.2 ?_)
  rw [sgn_zero, ← ev_top hf hq, ← sgn_zero, ← St.ev_sgn hf.top hq (Nat.le_refl _), sgn_zero]

theorem f57_sq {p q : Int} (hq : 0 < q) (hq2 : q ≤ 1000) (hp : p.natAbs ≤ 100000) : f57 (p, (q, ())) = some (encR (sqR p q), ()) := by
  have e := f57_eq p q.toNat (by omega) (by omega) (by omega)
  rw [Int.toNat_of_nonneg (by omega)] at e
  rw [e, sqR, dif_neg (by omega)]

theorem sqR_mul2 {p q : Int} (h1 : 0 < q) : sqR p q * (q : Rat) = (p : Rat) := by
  have hq : (q : Rat) ≠ 0 := by exact_mod_cast (show q ≠ 0 by omega)
  have e : ((q.toNat : Nat) : Rat) = (q : Rat) := by
    rw [← Rat.intCast_natCast, Int.toNat_of_nonneg (by omega)]
  rw [sqR, dif_neg (by omega), norm_div, e]
  exact Rat.div_mul_cancel hq

theorem sqR_size2 {p q : Int} (hq : 0 < q) (hq2 : q ≤ 1000) (hp : p.natAbs ≤ 100000) : rsz (sqR p q) 1 := by
  rw [sqR, dif_neg (by omega)]
  exact norm_size _ (dig_len (k := 1) (by simp only [pw]; omega)) (dig_len (k := 1) (by simp only [pw]; omega))

theorem f86_eq {m k : List Int} (hf : St.Fr m k) {p q : Int} (hq : 0 < q) (hb : St.bd p q ≤ 42500) : f86 (((m, (k, ())), ()), ((p, (q, ())), ())) = some (((St.top m k p q).upto : Int), ()) := by
  have e1 := f50_eq hf hq hb
  have e2 := f48_eq hf hq hb
  have hc := St.upto_le hf p q
  have h4 := hf.top
  simp only [f86, t86, g50, e1, g48, e2, Option.isSome_some, Option.getD_some, Tr.val_test, Tr.val_fin, Tr.val_stop, ↓reduceIte]
  by_cases c : (St.top m k p q).f = 0
  · rw [if_pos (by simpa using c)]
    have : (St.top m k p q).upto = (St.top m k p q).count + 1 := by
      unfold St.Ph.upto St.Ph.count; rw [if_pos (by omega), if_neg (by omega)]
    rw [this, wrap64_nat (by omega)]
  · rw [if_neg (by simpa using c)]
    have : (St.top m k p q).upto = (St.top m k p q).count := by
      unfold St.Ph.upto St.Ph.count
      by_cases c2 : (St.top m k p q).f < 0
      · rw [if_pos (by omega), if_pos c2]
      · rw [if_neg (by omega), if_neg c2]
    rw [this]

theorem itr_bin {A B C : Type} {step : A → Option (Out A B C)} (st : Nat → Nat → A) (r : Nat → B) (P : Nat → Bool) (N : Nat)
    (hs : ∀ i j, i < j → j ≤ N → step (st i j) = some (.again (if P ((i + j) / 2) = true then st i ((i + j) / 2) else st ((i + j) / 2 + 1) j))) (hb : ∀ i, i ≤ N → step (st i i) = some (.brk (r i)))
    (hmono : ∀ x y, x ≤ y → P x = true → P y = true) :
    ∀ (m i j : Nat), i ≤ j → j ≤ N → j - i < m → ∃ t, itr step m (st i j) = some (.inl (r t)) ∧ i ≤ t ∧ t ≤ j ∧ (∀ x, i ≤ x → x < t → P x = false) ∧ (t < j → P t = true)
  | 0, i, j, h, hj, hm => by omega
  | m + 1, i, j, h, hj, hm => by
    by_cases c : i = j
    · subst c
      exact ⟨i, by rw [itr, hb i hj], Nat.le_refl _, Nat.le_refl _, fun x h1 h2 => by omega, fun h => by omega⟩
    · have e := hs i j (by omega) hj
      cases hP : P ((i + j) / 2) with
      | true =>
        rw [if_pos hP] at e
        obtain ⟨t, t1, t2, t3, t4, t5⟩ := itr_bin st r P N hs hb hmono m i ((i + j) / 2) (by omega) (by omega) (by omega)
        refine ⟨t, by rw [itr, e]; exact t1, t2, by omega, t4, fun h => ?_⟩
        by_cases c2 : t < (i + j) / 2
        · exact t5 c2
        · have : t = (i + j) / 2 := by omega
          rw [this]; exact hP
      | false =>
        rw [if_neg (by rw [hP]; decide)] at e
        obtain ⟨t, t1, t2, t3, t4, t5⟩ := itr_bin st r P N hs hb hmono m ((i + j) / 2 + 1) j (by omega) hj (by omega)
        refine ⟨t, by rw [itr, e]; exact t1, by omega, t3, fun x h1 h2 => ?_, t5⟩
        by_cases c2 : x ≤ (i + j) / 2
        · cases hx : P x with
          | false => rfl
          | true => have := hmono x _ c2 hx; rw [hP] at this; cases this
        · exact t4 x (by omega) h2

theorem itr_bis {A B C : Type} {step : A → Option (Out A B C)} (st : Nat → Nat → A) (r : Nat → B) (Q : Nat → Bool) (N : Nat)
    (hs : ∀ i j, i + 1 < j → j ≤ N → step (st i j) = some (.again (if Q ((i + j) / 2) = true then st ((i + j) / 2) j else st i ((i + j) / 2)))) (hb : ∀ i, i + 1 ≤ N → step (st i (i + 1)) = some (.brk (r i))) :
    ∀ (m i j : Nat), i < j → j ≤ N → j - i ≤ m → Q i = true → Q j = false → ∃ t, itr step m (st i j) = some (.inl (r t)) ∧ i ≤ t ∧ t < j ∧ Q t = true ∧ Q (t + 1) = false
  | 0, i, j, h, hj, hm, _, _ => by omega
  | m + 1, i, j, h, hj, hm, hi, hq => by
    by_cases c : j = i + 1
    · subst c
      exact ⟨i, by rw [itr, hb i hj], Nat.le_refl _, by omega, hi, hq⟩
    · have e := hs i j (by omega) hj
      cases hP : Q ((i + j) / 2) with
      | true =>
        rw [if_pos hP] at e
        obtain ⟨t, t1, t2, t3, t4⟩ := itr_bis st r Q N hs hb m ((i + j) / 2) j (by omega) hj (by omega) hP hq
        exact ⟨t, by rw [itr, e]; exact t1, by omega, t3, t4⟩
      | false =>
        rw [if_neg (by rw [hP]; decide)] at e
        obtain ⟨t, t1, t2, t3, t4⟩ := itr_bis st r Q N hs hb m i ((i + j) / 2) (by omega) (by omega) (by omega) hi hP
        exact ⟨t, by rw [itr, e]; exact t1, t2, by omega, t4⟩

theorem u64_wrap {n : Int} (h0 : 0 ≤ n) (h : n ≤ 1000000) : IntKind.wrap .u64 n = n := by
  have e : IntKind.wrap .u64 n = n % 18446744073709551616 := rfl
  rw [e]
  omega

theorem half {i j : Nat} (h : i + j ≤ 100000) : IntKind.wrap .i64 (Int.fdiv (IntKind.wrap .u64 (wrap64 ((i : Int) + (j : Int)))) 2) = (((i + j) / 2 : Nat) : Int) := by
  rw [wr_abs (by omega), u64_wrap (by omega) (by omega), i64_wrap, Int.fdiv_eq_ediv_of_nonneg _ (by decide), wr_abs (by omega)]
  omega

theorem halfT {i j : Nat} (h : i + j ≤ 100000) : IntKind.wrap .i64 (Int.tdiv (wrap64 ((i : Int) + (j : Int))) 2) = (((i + j) / 2 : Nat) : Int) := by
  rw [wr_abs (by omega), i64_wrap, Int.tdiv_eq_ediv_of_nonneg (by omega), wr_abs (by omega)]
  omega

/-- How many are below x / den, and how many are not above. -/
def cC (m k : List Int) (den : Int) (x : Nat) : Nat := (St.top m k (x : Int) den).count
def cU (m k : List Int) (den : Int) (x : Nat) : Nat := (St.top m k (x : Int) den).upto

theorem frac_le {m k : List Int} (hf : St.Fr m k) {den : Int} (hd : 0 < den) {x y : Nat} (h : x ≤ y) : ∀ i, i < k.length → (x : Int) * St.gt m i * den ≤ (y : Int) * St.gt m i * den := by
  intro i hi
  have hm := hf.mass i hi
  exact Int.mul_le_mul_of_nonneg_right (Int.mul_le_mul_of_nonneg_right (by omega) (by omega)) (by omega)

theorem cC_mono {m k : List Int} (hf : St.Fr m k) {den : Int} (hd : 0 < den) {x y : Nat} (h : x ≤ y) : cC m k den x ≤ cC m k den y :=
  St.Ph.le_count (St.top_ok hf hd) (St.top_ok hf hd) (St.top_le hf hf rfl hd hd (fun i _ => Int.le_refl _) (frac_le hf hd h))

theorem cU_mono {m k : List Int} (hf : St.Fr m k) {den : Int} (hd : 0 < den) {x y : Nat} (h : x ≤ y) : cU m k den x ≤ cU m k den y :=
  St.Ph.le_upto (St.top_ok hf hd) (St.top_ok hf hd) (St.top_le hf hf rfl hd hd (fun i _ => Int.le_refl _) (frac_le hf hd h))

theorem cU_lt {m k : List Int} (hf : St.Fr m k) {den : Int} (hd : 0 < den) {x y : Nat} (h : x < y) : cU m k den x ≤ cC m k den y :=
  St.Ph.lt_count (St.top_ok hf hd) (St.top_ok hf hd) (St.top_lt hf hd hd (Int.mul_lt_mul_of_pos_right (by omega) hd))

theorem cC_zero {m k : List Int} (hf : St.Fr m k) {den : Int} (hd : 0 < den) : cC m k den 0 = 0 := (St.count_low hf hd (Int.le_refl _)).1

theorem cC_high {m k : List Int} (hf : St.Fr m k) {den : Int} (hd : 0 < den) {x : Nat} (h : 80 * den ≤ (x : Int)) : cC m k den x = k.length :=
  St.count_high hf (S := 20) hd (fun i hi => (hf.spring i hi).2) (fun i hi => by
    have hm := hf.mass i hi
    have := Int.mul_le_mul_of_nonneg_left hm.1 (show 0 ≤ (x : Int) by omega)
    omega)

theorem bd_le {den : Int} (h0 : 0 < den) (h : den ≤ 50) {x : Nat} (hx : x ≤ 4000) : St.bd (x : Int) den ≤ 42500 := by unfold St.bd; omega

theorem l83_eq {m k : List Int} (hf : St.Fr m k) {den mode : Int} (h0 : 0 < den) (h : den ≤ 50) :
    ∃ t : Nat, l83_0 (((0 : Int), ((4001 : Int), ())), ((m, (k, ())), ((den, ()), ((mode, ()), ())))) = some (.inl (((t : Int), ()), ((m, (k, ())), ((den, ()), ((mode, ()), ()))))) ∧ t ≤ 4001 ∧
      (∀ x, x < t → (cC m k den x : Int) ≤ mode) ∧ (t < 4001 → mode < (cC m k den t : Int)) := by
  have key := itr_bin (step := s83_0) (fun i j => (((i : Int), ((j : Int), ())), ((m, (k, ())), ((den, ()), ((mode, ()), ()))))) (fun t => (((t : Int), ()), ((m, (k, ())), ((den, ()), ((mode, ()), ()))))) (fun x => decide (mode < (cC m k den x : Int))) 4001 ?_ ?_ ?_ rounds 0 4001 (by decide) (by decide) (by unfold rounds; omega)
  · obtain ⟨t, t1, t2, t3, t4, t5⟩ := key
    refine ⟨t, t1, t3, fun x hx => ?_, fun hlt => by simpa using t5 hlt⟩
    have := t4 x (by omega) hx
    simp at this; exact this
  · intro i j hij hj
    have e := f48_eq hf (p := (((i + j) / 2 : Nat) : Int)) h0 (bd_le h0 h (by omega))
    have ec : (St.top m k (((i + j) / 2 : Nat) : Int) den).count = cC m k den ((i + j) / 2) := rfl
    rw [ec] at e
    have c0 : (!leF (j : Int) (i : Int)) = true := by rw [leF_eq]; simp; omega
    by_cases c : mode < (cC m k den ((i + j) / 2) : Int)
    · have c1 : (!!leF (cC m k den ((i + j) / 2) : Int) mode) = false := by rw [leF_eq]; simp; omega
      have c2 : decide (mode < (cC m k den ((i + j) / 2) : Int)) = true := by simpa using c
      simp only [s83_0, t83_0, Tr.val_test, Tr.val_fin, Tr.val_stop, c0, half (show i + j ≤ 100000 by omega), g48, e, c1, c2, Bool.false_eq_true, Option.isSome_some, Option.getD_some, ↓reduceIte]
    · have c1 : (!!leF (cC m k den ((i + j) / 2) : Int) mode) = true := by rw [leF_eq]; simp; omega
      have c2 : decide (mode < (cC m k den ((i + j) / 2) : Int)) = false := by simpa using c
      simp only [s83_0, t83_0, Tr.val_test, Tr.val_fin, Tr.val_stop, c0, half (show i + j ≤ 100000 by omega), g48, e, c1, c2, Bool.false_eq_true, Option.isSome_some, Option.getD_some, ↓reduceIte, wrap64_nat (show (i + j) / 2 ≤ 9223372036854775806 by omega)]
  · intro i hi
    have c0 : (!leF (i : Int) (i : Int)) = false := by rw [leF_eq]; simp
    simp only [s83_0, t83_0, Tr.val_test, Tr.val_fin, Tr.val_stop, c0, Bool.false_eq_true, ↓reduceIte]
  · intro x y hxy hx
    have := cC_mono hf h0 hxy
    simp at hx ⊢; omega

theorem l83b_eq {m k : List Int} (hf : St.Fr m k) {den mode : Int} (h0 : 0 < den) (h : den ≤ 50) :
    ∃ t : Nat, l83_0_1 (((0 : Int), ((4000 : Int), ())), ((m, (k, ())), ((den, ()), ((mode, ()), ())))) = some (.inl (((t : Int), ()), ((m, (k, ())), ((den, ()), ((mode, ()), ()))))) ∧ t ≤ 4000 ∧
      (∀ x, x < t → (cU m k den x : Int) ≤ mode) ∧ (t < 4000 → mode < (cU m k den t : Int)) := by
  have key := itr_bin (step := s83_0_1) (fun i j => (((i : Int), ((j : Int), ())), ((m, (k, ())), ((den, ()), ((mode, ()), ()))))) (fun t => (((t : Int), ()), ((m, (k, ())), ((den, ()), ((mode, ()), ()))))) (fun x => decide (mode < (cU m k den x : Int))) 4000 ?_ ?_ ?_ rounds 0 4000 (by decide) (by decide) (by unfold rounds; omega)
  · obtain ⟨t, t1, t2, t3, t4, t5⟩ := key
    refine ⟨t, t1, t3, fun x hx => ?_, fun hlt => by simpa using t5 hlt⟩
    have := t4 x (by omega) hx
    simp at this; exact this
  · intro i j hij hj
    have e := f86_eq hf (p := (((i + j) / 2 : Nat) : Int)) h0 (bd_le h0 h (by omega))
    have ec : (St.top m k (((i + j) / 2 : Nat) : Int) den).upto = cU m k den ((i + j) / 2) := rfl
    rw [ec] at e
    have c0 : (!leF (j : Int) (i : Int)) = true := by rw [leF_eq]; simp; omega
    by_cases c : mode < (cU m k den ((i + j) / 2) : Int)
    · have c1 : (!!leF (cU m k den ((i + j) / 2) : Int) mode) = false := by rw [leF_eq]; simp; omega
      have c2 : decide (mode < (cU m k den ((i + j) / 2) : Int)) = true := by simpa using c
      simp only [s83_0_1, t83_0_1, Tr.val_test, Tr.val_fin, Tr.val_stop, c0, half (show i + j ≤ 100000 by omega), g86, e, c1, c2, Bool.false_eq_true, Option.isSome_some, Option.getD_some, ↓reduceIte]
    · have c1 : (!!leF (cU m k den ((i + j) / 2) : Int) mode) = true := by rw [leF_eq]; simp; omega
      have c2 : decide (mode < (cU m k den ((i + j) / 2) : Int)) = false := by simpa using c
      simp only [s83_0_1, t83_0_1, Tr.val_test, Tr.val_fin, Tr.val_stop, c0, half (show i + j ≤ 100000 by omega), g86, e, c1, c2, Bool.false_eq_true, Option.isSome_some, Option.getD_some, ↓reduceIte, wrap64_nat (show (i + j) / 2 ≤ 9223372036854775806 by omega)]
  · intro i hi
    have c0 : (!leF (i : Int) (i : Int)) = false := by rw [leF_eq]; simp
    simp only [s83_0_1, t83_0_1, Tr.val_test, Tr.val_fin, Tr.val_stop, c0, Bool.false_eq_true, ↓reduceIte]
  · intro x y hxy hx
    have := cU_mono hf h0 hxy
    simp at hx ⊢; omega

/-- The whole number below a mode's square. -/
theorem l22_eq {m k : List Int} (hf : St.Fr m k) {den : Int} {mode : Nat} (h0 : 0 < den) (h : den ≤ 50) (hm : mode < k.length) :
    ∃ t : Nat, l22_0 (((mode : Int), (den, ((0 : Int), (80 * den + 1, ())))), ((m, (k, ())), (((0 : Int), ((0 : Int), ())), ()))) = some (.inl (((mode : Int), (den, ((t : Int), ()))), ((m, (k, ())), (((0 : Int), ((0 : Int), ())), ())))) ∧
      cC m k den t ≤ mode ∧ mode < cC m k den (t + 1) := by
  obtain ⟨D, hD⟩ : ∃ D : Nat, den = (D : Int) := ⟨den.toNat, by omega⟩
  have hN : 80 * den + 1 = ((80 * D + 1 : Nat) : Int) := by omega
  have key := itr_bis (step := s22_0) (fun i j => (((mode : Int), (den, ((i : Int), ((j : Int), ())))), ((m, (k, ())), (((0 : Int), ((0 : Int), ())), ())))) (fun t => (((mode : Int), (den, ((t : Int), ()))), ((m, (k, ())), (((0 : Int), ((0 : Int), ())), ())))) (fun x => decide (cC m k den x ≤ mode)) (80 * D + 1) ?_ ?_ rounds 0 (80 * D + 1) (by omega) (Nat.le_refl _) (by unfold rounds; omega) ?_ ?_
  · obtain ⟨t, t1, t2, t3, t4, t5⟩ := key
    rw [hN]
    exact ⟨t, t1, by simpa using t4, by simpa using t5⟩
  · intro i j hij hj
    have e := f57_sq (p := (((i + j) / 2 : Nat) : Int)) h0 (by omega) (by omega)
    have e2 := f18_eq hf (sqR_size2 (p := (((i + j) / 2 : Nat) : Int)) h0 (by omega) (by omega)) h0 (sqR_mul2 h0)
    have ec : (St.top m k (((i + j) / 2 : Nat) : Int) den).count = cC m k den ((i + j) / 2) := rfl
    rw [ec] at e2
    have w : wrap64 ((j : Int) - (i : Int)) = ((j - i : Nat) : Int) := by rw [wr_abs (by omega)]; omega
    have c0 : (!leF ((j - i : Nat) : Int) 1) = true := by rw [leF_eq]; simp; omega
    by_cases c : cC m k den ((i + j) / 2) ≤ mode
    · have c1 : leF (cC m k den ((i + j) / 2) : Int) (mode : Int) = true := by rw [leF_eq]; simpa using c
      have c2 : decide (cC m k den ((i + j) / 2) ≤ mode) = true := by simpa using c
      simp only [s22_0, t22_0, Tr.val_test, Tr.val_fin, Tr.val_stop, w, c0, halfT (show i + j ≤ 100000 by omega), g57, e, etaR, g18, e2, c1, c2, Option.isSome_some, Option.getD_some, ↓reduceIte]
    · have c1 : leF (cC m k den ((i + j) / 2) : Int) (mode : Int) = false := by rw [leF_eq]; simpa using c
      have c2 : decide (cC m k den ((i + j) / 2) ≤ mode) = false := by simpa using c
      simp only [s22_0, t22_0, Tr.val_test, Tr.val_fin, Tr.val_stop, w, c0, halfT (show i + j ≤ 100000 by omega), g57, e, etaR, g18, e2, c1, c2, Bool.false_eq_true, Option.isSome_some, Option.getD_some, ↓reduceIte]
  · intro i hi
    have w : wrap64 (((i + 1 : Nat) : Int) - (i : Int)) = 1 := by rw [wr_abs (by omega)]; omega
    have c0 : (!leF (1 : Int) 1) = false := by rw [leF_eq]; rfl
    simp only [s22_0, t22_0, Tr.val_test, Tr.val_fin, Tr.val_stop, w, c0, Bool.false_eq_true, ↓reduceIte]
  · rw [cC_zero hf h0]; simp
  · rw [cC_high hf h0 (by omega)]; simp; exact hm

theorem cU_eq {m k : List Int} (den : Int) (x : Nat) : cU m k den x = if (St.top m k (x : Int) den).f = 0 then cC m k den x + 1 else cC m k den x := by
  unfold cU cC St.Ph.upto St.Ph.count
  by_cases c : (St.top m k (x : Int) den).f = 0
  · rw [if_pos c, if_pos (by omega), if_neg (by omega)]
  · rw [if_neg c]
    by_cases c2 : (St.top m k (x : Int) den).f < 0
    · rw [if_pos (by omega), if_pos c2]
    · rw [if_neg (by omega), if_neg c2]

theorem enc_same {m k : List Int} (hf : St.Fr m k) {den : Int} {mode : Nat} (h0 : 0 < den) (h : den ≤ 50) (hm : mode < k.length) :
    ∃ a b : Int, f54 (((m, (k, ())), ()), ((mode : Int), (den, ()))) = some ((a, (b, ())), ()) ∧ f22 ((m, (k, ())), ((mode : Int), (den, ()))) = some ((a, (b, ())), ()) := by
  obtain ⟨D, hD⟩ : ∃ D : Nat, den = (D : Int) := ⟨den.toNat, by omega⟩
  obtain ⟨t, ht, t1, t2⟩ := l22_eq hf h0 h hm
  obtain ⟨u, hu, u1, u2, u3⟩ := l83_eq hf (mode := (mode : Int)) h0 h
  obtain ⟨v, hv, v1, v2, v3⟩ := l83b_eq hf (mode := (mode : Int)) h0 h
  have ht80 : t < 80 * D := by
    rcases Nat.lt_or_ge t (80 * D) with hlt | hge
    · exact hlt
    · have a1 := cC_mono hf h0 hge
      have a2 := cC_high hf h0 (x := 80 * D) (by omega)
      omega
  have hu1 : u = t + 1 := by
    rcases Nat.lt_trichotomy u (t + 1) with c | c | c
    · have a1 := u3 (by omega)
      have a2 := cC_mono hf h0 (show u ≤ t by omega)
      omega
    · exact c
    · have a1 := u2 (t + 1) c
      omega
  have w80 : wrap64 (wrap64 (80 * den) + 1) = 80 * den + 1 := by rw [wrap64_add_l, wr_abs (by omega)]
  have wu : wrap64 (((t + 1 : Nat) : Int) - 1) = (t : Int) := by rw [wr_abs (by omega)]; omega
  have wt : wrap64 ((t : Int) + 1) = ((t + 1 : Nat) : Int) := wrap64_nat (by omega)
  have e57 := f57_sq (p := (t : Int)) h0 (by omega) (by omega)
  have e18 := f18_eq hf (sqR_size2 (p := (t : Int)) h0 (by omega) (by omega)) h0 (sqR_mul2 h0)
  have e19 := f19_eq hf (sqR_size2 (p := (t : Int)) h0 (by omega) (by omega)) h0 (sqR_mul2 h0)
  have ec : (St.top m k (t : Int) den).count = cC m k den t := rfl
  rw [ec] at e18
  have hU := cU_eq (m := m) (k := k) den t
  by_cases c : (St.top m k (t : Int) den).f = 0 ∧ cC m k den t = mode
  · rw [if_pos c.1] at hU
    have hv1 : v = t := by
      rcases Nat.lt_trichotomy v t with d | d | d
      · have a1 := v3 (by omega)
        have a2 := cU_lt hf h0 d
        omega
      · exact d
      · have a1 := v2 t d
        omega
    subst hu1 hv1
    refine ⟨(v : Int), (v : Int), ?_, ?_⟩
    · simp only [f54, t54, b83_0, hu, isBrk, outB, b83_0_1, hv, wu, Tr.val_test, Tr.val_fin, Tr.val_stop, ↓reduceIte]
    · have c1 : eqF (cC m k den v : Int) (mode : Int) = true := by rw [eqF_eq, c.2]; simp
      have c2 : decide ((St.top m k (v : Int) den).f = 0) = true := by simpa using c.1
      simp only [f22, t22, w80, b22_0, ht, isBrk, outB, g57, e57, etaR, g19, e19, g18, e18, c1, c2, Option.isSome_some, Option.getD_some, Tr.val_test, Tr.val_fin, Tr.val_stop, ↓reduceIte]
  · have hUm : cU m k den t ≤ mode := by
      by_cases c1 : (St.top m k (t : Int) den).f = 0
      · rw [if_pos c1] at hU
        have : cC m k den t ≠ mode := fun h => c ⟨c1, h⟩
        omega
      · rw [if_neg c1] at hU
        omega
    have hv1 : v = t + 1 := by
      rcases Nat.lt_trichotomy v (t + 1) with d | d | d
      · have a1 := v3 (by omega)
        have a2 := cU_mono hf h0 (show v ≤ t by omega)
        omega
      · exact d
      · have a1 := v2 (t + 1) d
        have a2 := cU_eq (m := m) (k := k) den (t + 1)
        split at a2 <;> omega
    subst hu1 hv1
    refine ⟨(t : Int), ((t + 1 : Nat) : Int), ?_, ?_⟩
    · simp only [f54, t54, b83_0, hu, isBrk, outB, b83_0_1, hv, wu, Tr.val_test, Tr.val_fin, Tr.val_stop, ↓reduceIte]
    · by_cases c1 : (St.top m k (t : Int) den).f = 0
      · have c2 : decide ((St.top m k (t : Int) den).f = 0) = true := by simpa using c1
        have c3 : eqF (cC m k den t : Int) (mode : Int) = false := by
          rw [eqF_eq]
          have : cC m k den t ≠ mode := fun h => c ⟨c1, h⟩
          simp; omega
        simp only [f22, t22, w80, b22_0, ht, isBrk, outB, g57, e57, etaR, g19, e19, g18, e18, c2, c3, wt, Bool.false_eq_true, Option.isSome_some, Option.getD_some, Tr.val_test, Tr.val_fin, Tr.val_stop, ↓reduceIte]
      · have c2 : decide ((St.top m k (t : Int) den).f = 0) = false := by simpa using c1
        simp only [f22, t22, w80, b22_0, ht, isBrk, outB, g57, e57, etaR, g19, e19, c2, wt, Bool.false_eq_true, Option.isSome_some, Option.getD_some, Tr.val_test, Tr.val_fin, Tr.val_stop, ↓reduceIte]

/-! Errors. -/

theorem n_zero : (!eqF (0 : Int) 0) = false := by rw [eqF_eq]; rfl
theorem n_not {x : Int} (h : x ≠ 0) : (!eqF x 0) = true := by rw [eqF_eq]; simpa using h
theorem nz_two (a b : Int) : firstNZ [a, b] = if a ≠ 0 then a else b := by
  unfold firstNZ
  by_cases c : a = 0
  · subst c; simp [firstNZ]; omega
  · simp [c]
theorem nz_one (a : Int) : firstNZ [a] = a := by
  by_cases c : a = 0
  · subst c; rfl
  · simp [firstNZ, c]

theorem f53_eq (den : Int) : f53 (den, ()) = some (if 1 ≤ den ∧ den ≤ 50 then 0 else 2, ()) := by
  have e := f51_one 1 50 den
  simp only [f53, t53, g51, e, g52, f52_eq ((!wi 1 50 den), ((2 : Int), ())), Option.isSome_some, Option.getD_some, Tr.val_test, Tr.val_fin, ↓reduceIte]
  by_cases c : 1 ≤ den ∧ den ≤ 50
  · rw [if_pos c, show wi 1 50 den = true from wi_iff.2 c]; rfl
  · have : wi 1 50 den = false := by cases h : wi 1 50 den; rfl; exact absurd (wi_iff.1 h) c
    rw [if_neg c, this]; rfl

end Go.Vm.Mo
