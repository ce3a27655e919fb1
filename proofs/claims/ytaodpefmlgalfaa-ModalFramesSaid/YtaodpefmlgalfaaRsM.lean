import Derived.Test.YtaodpefmlgalfaaRsFd
import Derived.Test.YtaodpefmlgalfaaA4
import Derived.Test.YtaodpefmlgalfaaRsS
set_option linter.unusedVariables false
set_option linter.unusedSimpArgs false

namespace Go.Vm.Mo
open Go
set_option linter.unusedVariables false
set_option linter.unusedSimpArgs false

theorem i64_wrap (n : Int) : IntKind.wrap .i64 n = wrap64 n := (wrap64_eq n).symm

theorem wr_abs {n : Int} (h : n.natAbs ≤ 9223372036854775807) : wrap64 n = n := wrap64_id (by omega) (by omega)

theorem f52_eq {m k : List Int} (hf : St.Fr m k) {i : Nat} (hi : i < k.length) : f52 (((m, (k, ())), ()), ((i : Int), ())) = some (St.stf k i, ()) := by
  have h4 := hf.top
  have h1 := hf.spring i hi
  simp only [f52, t52, Tr.val_test, Tr.val_fin, Tr.val_stop, eqF_eq, wrap64_nat (show i ≤ 9223372036854775806 by omega), Int.toNat_natCast]
  unfold St.stf
  by_cases c : i + 1 = k.length
  · rw [if_pos (by simp; omega), if_pos (by simp; omega), if_pos c]
    rfl
  · have h2 := hf.spring (i + 1) (by omega)
    rw [if_neg (by simp; omega), if_pos (by simp; omega), if_pos (by simp; omega), if_neg c]
    rw [show k.getD i 0 = St.gt k i from rfl, show k.getD (i + 1) 0 = St.gt k (i + 1) from rfl, wr_abs (by omega)]

/-- A determinant as it lies in memory. -/
def pd (m k : List Int) (j : Nat) : Int × Int × Int × Int × Int × Unit := (St.Dc m k j 0, St.Dc m k j 1, St.Dc m k j 2, St.Dc m k j 3, St.Dc m k j 4, ())

theorem f78_eq (c0 c1 c2 c3 c4 x y : Int) (hx : x.natAbs ≤ 1000) (hy : y.natAbs ≤ 1000) (h0 : c0.natAbs ≤ 100000000) (h1 : c1.natAbs ≤ 100000000) (h2 : c2.natAbs ≤ 100000000) (h3 : c3.natAbs ≤ 100000000) (h4 : c4.natAbs ≤ 100000000) :
    f78 ((c0, (c1, (c2, (c3, (c4, ()))))), (x, (y, ()))) = some ((x * c0, (x * c1 + y * c0, (x * c2 + y * c1, (x * c3 + y * c2, (x * c4 + y * c3, ()))))), ()) := by
  have mb : ∀ a c : Int, a.natAbs ≤ 1000 → c.natAbs ≤ 100000000 → (a * c).natAbs ≤ 100000000000 := by
    intro a c ha hc
    rw [Int.natAbs_mul]
    exact Nat.mul_le_mul ha hc
  have a0 := mb x c0 hx h0
  have a1 := mb x c1 hx h1
  have a2 := mb x c2 hx h2
  have a3 := mb x c3 hx h3
  have a4 := mb x c4 hx h4
  have b0 := mb y c0 hy h0
  have b1 := mb y c1 hy h1
  have b2 := mb y c2 hy h2
  have b3 := mb y c3 hy h3
  simp only [f78, t78, Tr.val_fin, wrap64_add_l, wrap64_add_r, wrap64_wrap64, Int.mul_zero, Int.add_zero]
  rw [wr_abs (n := x * c0) (by omega), wr_abs (n := x * c1 + y * c0) (by omega), wr_abs (n := x * c2 + y * c1) (by omega), wr_abs (n := x * c3 + y * c2) (by omega), wr_abs (n := x * c4 + y * c3) (by omega)]

theorem f79_eq (a0 a1 a2 a3 a4 c0 c1 c2 c3 c4 : Int) (k0 : a0.natAbs ≤ 1000000000000) (k1 : a1.natAbs ≤ 1000000000000) (k2 : a2.natAbs ≤ 1000000000000) (k3 : a3.natAbs ≤ 1000000000000) (k4 : a4.natAbs ≤ 1000000000000)
    (h0 : c0.natAbs ≤ 1000000000000) (h1 : c1.natAbs ≤ 1000000000000) (h2 : c2.natAbs ≤ 1000000000000) (h3 : c3.natAbs ≤ 1000000000000) (h4 : c4.natAbs ≤ 1000000000000) :
    f79 ((a0, (a1, (a2, (a3, (a4, ()))))), ((c0, (c1, (c2, (c3, (c4, ()))))), ())) = some ((a0 - c0, (a1 - c1, (a2 - c2, (a3 - c3, (a4 - c4, ()))))), ()) := by
  have sb : ∀ a c : Int, a.natAbs ≤ 1000000000000 → c.natAbs ≤ 1000000000000 → wrap64 (a - c) = a - c := by
    intro a c ha hc
    exact wr_abs (by omega)
  simp only [f79, t79, Tr.val_fin]
  rw [sb _ _ k0 h0, sb _ _ k1 h1, sb _ _ k2 h2, sb _ _ k3 h3, sb _ _ k4 h4]

theorem pd_le {m k : List Int} (hf : St.Fr m k) {i : Nat} (hi : i ≤ k.length) (c : Nat) : (St.Dc m k (i + 1) c).natAbs ≤ 24010000 ∧ (St.Dc m k i c).natAbs ≤ 24010000 := by
  obtain ⟨h1, h2⟩ := St.Dc_le hf i hi c
  have h4 := hf.top
  have h3 : 70 ^ i ≤ 70 ^ 4 := Nat.pow_le_pow_right (by decide) (by omega)
  have e : 70 ^ 4 = 24010000 := rfl
  omega

theorem m_neg {m k : List Int} (hf : St.Fr m k) {i : Nat} (hi : i < k.length) : IntKind.wrap .i64 (0 - m.getD i 0) = -(St.gt m i) := by
  have h := hf.mass i hi
  rw [i64_wrap, show m.getD i 0 = St.gt m i from rfl, wr_abs (by omega), Int.zero_sub]

theorem k_sq {m k : List Int} (hf : St.Fr m k) {i : Nat} (hi : i < k.length) : wrap64 (k.getD i 0 * k.getD i 0) = St.gt k i * St.gt k i ∧ (St.gt k i * St.gt k i).natAbs ≤ 1000 := by
  have h := hf.spring i hi
  have e : (St.gt k i * St.gt k i).natAbs ≤ 20 * 20 := by rw [Int.natAbs_mul]; exact Nat.mul_le_mul (by omega) (by omega)
  refine ⟨?_, by omega⟩
  rw [show k.getD i 0 = St.gt k i from rfl, wr_abs (by omega)]

/-- The first product. -/
def pA (m k : List Int) (i : Nat) : Int × Int × Int × Int × Int × Unit :=
  (St.stf k i * St.Dc m k (i + 1) 0, (St.stf k i * St.Dc m k (i + 1) 1 + -(St.gt m i) * St.Dc m k (i + 1) 0, (St.stf k i * St.Dc m k (i + 1) 2 + -(St.gt m i) * St.Dc m k (i + 1) 1, (St.stf k i * St.Dc m k (i + 1) 3 + -(St.gt m i) * St.Dc m k (i + 1) 2, (St.stf k i * St.Dc m k (i + 1) 4 + -(St.gt m i) * St.Dc m k (i + 1) 3, ())))))

/-- The second one. -/
def pB (m k : List Int) (i : Nat) : Int × Int × Int × Int × Int × Unit :=
  (St.gt k i * St.gt k i * St.Dc m k i 0, (St.gt k i * St.gt k i * St.Dc m k i 1 + 0 * St.Dc m k i 0, (St.gt k i * St.gt k i * St.Dc m k i 2 + 0 * St.Dc m k i 1, (St.gt k i * St.gt k i * St.Dc m k i 3 + 0 * St.Dc m k i 2, (St.gt k i * St.gt k i * St.Dc m k i 4 + 0 * St.Dc m k i 3, ())))))

theorem q78a {m k : List Int} (hf : St.Fr m k) {i : Nat} (hi : i < k.length) : f78 (pd m k (i + 1), (St.stf k i, (-(St.gt m i), ()))) = some (pA m k i, ()) := by
  have hs := St.stf_le hf hi
  have hm := hf.mass i hi
  exact f78_eq _ _ _ _ _ _ _ (by omega) (by omega) (by have := (pd_le hf (Nat.le_of_lt hi) 0).1; omega) (by have := (pd_le hf (Nat.le_of_lt hi) 1).1; omega) (by have := (pd_le hf (Nat.le_of_lt hi) 2).1; omega) (by have := (pd_le hf (Nat.le_of_lt hi) 3).1; omega) (by have := (pd_le hf (Nat.le_of_lt hi) 4).1; omega)

theorem q78b {m k : List Int} (hf : St.Fr m k) {i : Nat} (hi : i < k.length) : f78 (pd m k i, (St.gt k i * St.gt k i, ((0 : Int), ()))) = some (pB m k i, ()) := by
  have hk := (k_sq hf hi).2
  exact f78_eq _ _ _ _ _ _ _ hk (by decide) (by have := (pd_le hf (Nat.le_of_lt hi) 0).2; omega) (by have := (pd_le hf (Nat.le_of_lt hi) 1).2; omega) (by have := (pd_le hf (Nat.le_of_lt hi) 2).2; omega) (by have := (pd_le hf (Nat.le_of_lt hi) 3).2; omega) (by have := (pd_le hf (Nat.le_of_lt hi) 4).2; omega)

theorem q79 {m k : List Int} (hf : St.Fr m k) {i : Nat} (hi : i < k.length) : f79 (pA m k i, (pB m k i, ())) = some (pd m k (i + 2), ()) := by
  have hs := St.stf_le hf hi
  have hm := hf.mass i hi
  have hk := (k_sq hf hi).2
  have mb : ∀ a c : Int, a.natAbs ≤ 1000 → c.natAbs ≤ 24010000 → (a * c).natAbs ≤ 24010000000 := by
    intro a c ha hc
    rw [Int.natAbs_mul]
    exact Nat.mul_le_mul ha hc
  have a := fun c => mb (St.stf k i) (St.Dc m k (i + 1) c) (by omega) (pd_le hf (Nat.le_of_lt hi) c).1
  have b := fun c => mb (-(St.gt m i)) (St.Dc m k (i + 1) c) (by omega) (pd_le hf (Nat.le_of_lt hi) c).1
  have c := fun c => mb (St.gt k i * St.gt k i) (St.Dc m k i c) hk (pd_le hf (Nat.le_of_lt hi) c).2
  have ab : ∀ u v : Int, u.natAbs ≤ 24010000000 → v.natAbs ≤ 24010000000 → (u + v).natAbs ≤ 1000000000000 := by
    intro u v hu hv
    omega
  have az : ∀ u v : Int, u.natAbs ≤ 24010000000 → (u + 0 * v).natAbs ≤ 1000000000000 := by
    intro u v hu
    rw [Int.zero_mul, Int.add_zero]
    omega
  have e := f79_eq (pA m k i).1 (pA m k i).2.1 (pA m k i).2.2.1 (pA m k i).2.2.2.1 (pA m k i).2.2.2.2.1 (pB m k i).1 (pB m k i).2.1 (pB m k i).2.2.1 (pB m k i).2.2.2.1 (pB m k i).2.2.2.2.1
    (Nat.le_trans (a 0) (by decide)) (ab _ _ (a 1) (b 0)) (ab _ _ (a 2) (b 1)) (ab _ _ (a 3) (b 2)) (ab _ _ (a 4) (b 3))
    (Nat.le_trans (c 0) (by decide)) (az _ _ (c 1)) (az _ _ (c 2)) (az _ _ (c 3)) (az _ _ (c 4))
  refine e.trans ?_
  simp only [pA, pB, pd, St.Dc, Int.zero_mul, Int.add_zero, Int.neg_mul, Int.sub_eq_add_neg]

/-- The values of the first n determinants. -/
def vals (m k : List Int) (p q : Int) (n : Nat) : List Int := (List.range n).map fun i => St.ev (St.Dc m k (i + 1)) p q

theorem first_map (bad : Nat → Bool) : ∀ (n i : Nat), first bad n (i + 1) = (first (fun k => bad (k + 1)) n i).map (· + 1)
  | 0, _ => rfl
  | n + 1, i => by
    simp only [first]
    split
    · rfl
    · exact first_map bad n (i + 1)

/-- The first that is not 0. -/
def firstNZ : List Int → Int
  | [] => 0
  | a :: l => if a = 0 then firstNZ l else a

theorem firstNZ_eq : ∀ l : List Int, (match first (fun i => !decide (l.getD i 0 = 0)) l.length 0 with
    | some k => l.getD k 0
    | none => 0) = firstNZ l
  | [] => rfl
  | a :: l => by
    simp only [List.length, first, firstNZ]
    by_cases ha : a = 0
    · subst ha
      have e := firstNZ_eq l
      have hf : first (fun i => !decide (((0 : Int) :: l).getD i 0 = 0)) l.length (0 + 1) = (first (fun i => !decide (l.getD i 0 = 0)) l.length 0).map (· + 1) := by
        rw [first_map]; rfl
      simp only [hf, List.getD_cons_zero, decide_true, Bool.not_true, Bool.false_eq_true, if_false, if_true]
      rw [← e]
      cases first (fun i => !decide (l.getD i 0 = 0)) l.length 0 with
      | none => rfl
      | some k => rfl
    · simp [ha]

theorem l44 (l : List Int) (h : l.length ≤ 1000000000) : l44_0 ((l, (l.length : Int), (0 : Int), ()), ()) = match first (fun i => !decide (l.getD i 0 = 0)) l.length 0 with
    | some k => some (.inr ((l.getD k 0, ()), ()))
    | none => some (.inl ((), ())) := by
  refine itr_search (fun i => ((l, (l.length : Int), (i : Int), ()), ())) (fun i => !decide (l.getD i 0 = 0)) (fun k => ((l.getD k 0, ()), ())) (n := l.length) ?_ ?_ (lt_rounds (by omega))
  · intro i hi
    simp only [s44_0, t44_0, Tr.val_test, leF_eq, eqF_eq]
    rw [if_pos (by simp; omega), if_pos (by simp; omega)]
    simp only [Int.toNat_natCast, wrap64_nat (show i ≤ 9223372036854775806 by omega)]
    rfl
  · simp [s44_0, t44_0, leF_eq]

theorem f44_eq (l : List Int) (h : l.length ≤ 1000000000) : f44 (l, ()) = some (firstNZ l, ()) := by
  simp only [f44, t44, Tr.val_test, r44_0, l44 l h, ← firstNZ_eq l]
  cases first (fun i => !decide (l.getD i 0 = 0)) l.length 0 with
  | none => rfl
  | some k => rfl

theorem f45_eq (d : Tys.data as45) : f45 d = some (if d.1 = true then d.2.1 else (0 : Int), ()) := by
  simp only [f45, t45, Tr.val_test]
  split <;> rfl

def wi (lo hi x : Int) : Bool := decide (lo ≤ x) && decide (x ≤ hi)

theorem wi_iff {lo hi x : Int} : wi lo hi x = true ↔ lo ≤ x ∧ x ≤ hi := by simp [wi]

theorem f18_eq (d : Tys.data as18) : f18 d = some (wi d.2.1 d.2.2.1 d.1, ()) := by
  simp only [f18, t18, Tr.val_test, Tr.val_fin, leF_eq, decide_eq_true_eq, wi]
  split <;> simp [*]

theorem l48 (lo hi : Int) (l : List Int) (h : l.length ≤ 1000000000) : l48_0 ((lo, hi, l, (l.length : Int), (0 : Int), ()), ()) = match first (fun i => !wi lo hi (l.getD i 0)) l.length 0 with
    | some _ => some (.inr ((false, ()), ()))
    | none => some (.inl ((), ())) := by
  refine itr_search (fun i => ((lo, hi, l, (l.length : Int), (i : Int), ()), ())) (fun i => !wi lo hi (l.getD i 0)) (fun _ => ((false, ()), ())) (n := l.length) ?_ ?_ (lt_rounds (by omega))
  · intro i hi'
    simp only [s48_0, t48_0, Tr.val_test, Tr.val_fin, leF_eq, Int.toNat_natCast, wrap64_nat (show i ≤ 9223372036854775806 by omega)]
    rw [if_pos (by simp; omega), if_pos (by simp; omega)]
    by_cases a0 : lo ≤ l.getD i 0
    · by_cases a1 : l.getD i 0 ≤ hi
      · simp only [wi, a0, a1, decide_true, Bool.and_self, Bool.not_true, if_true, if_false, Bool.false_eq_true]
      · simp only [wi, a0, a1, decide_true, decide_false, Bool.and_false, Bool.not_false, Bool.not_true, if_true, if_false, Bool.false_eq_true]
    · simp only [wi, a0, decide_false, Bool.false_and, Bool.not_false, if_true, if_false, Bool.false_eq_true]
  · simp [s48_0, t48_0, leF_eq]

theorem f48_eq (lo hi : Int) (l : List Int) (h : l.length ≤ 1000000000) : f48 (lo, hi, l, ()) = some ((first (fun i => !wi lo hi (l.getD i 0)) l.length 0).isNone, ()) := by
  have hl := l48 lo hi l h
  cases hf : first (fun i => !wi lo hi (l.getD i 0)) l.length 0 with
  | none =>
    rw [hf] at hl
    simp only [f48, t48, Tr.val_test, Tr.val_fin, hl, isRet, Option.isSome_some, Option.isNone_none, if_true, Bool.false_eq_true, if_false]
  | some k =>
    rw [hf] at hl
    simp only [f48, t48, Tr.val_test, Tr.val_fin, hl, isRet, r48_0, outR, Option.isSome_some, Option.isNone_some, if_true]

theorem f48_one (lo hi a : Int) : f48 (lo, hi, [a], ()) = some (wi lo hi a, ()) := by
  rw [f48_eq lo hi _ (by simp)]
  simp only [first, List.length, List.getD_cons_zero]
  by_cases h1 : wi lo hi a = true
  · simp [h1]
  · simp [h1]

def mx (a b : Int) : Int := if a < b then b else a

/-! Lowest terms. -/

theorem lt_r2 {n : Nat} (h : n ≤ 9223372036854775808) : n < rounds := by unfold rounds; omega

theorem mx_max (a b : Int) : mx a b = max a b := by unfold mx; omega

theorem q80_2 (l : List Int) (n i : Int) (a b : Int) (h : b.natAbs ≤ 9223372036854775808) : l80_2 ((a, b, l, n, i, ()), ()) = some (.inl ((euc a b, l, n, i, ()), ())) := by
  refine itr_euc (fun a b => ((a, b, l, n, i, ()), ())) (fun a => ((a, l, n, i, ()), ())) ?_ ?_ rounds a b (lt_r2 h)
  · intro a b hb
    simp [s80_2, t80_2, eqF_eq, hb]
  · intro a
    simp [s80_2, t80_2, eqF_eq]

theorem q80_0 (a b : Int) (hb : b.natAbs ≤ 9223372036854775807) : l80_0 ((a, [b], (1 : Int), (0 : Int), ()), ()) = some (.inl ((euc a b, ()), ())) := by
  have := itr_brk (step := s80_0) (fun i => ((if i = 0 then a else euc a b, [b], (1 : Int), (i : Int), ()), ())) (n := 1) (m := rounds) (b := ((euc a b, ()), ())) ?_ ?_ (lt_rounds (by omega))
  · exact this
  · intro i hi
    have h0 : i = 0 := by omega
    subst h0
    have e := q80_2 [b] 1 0 a b (by omega)
    simp only [s80_0, t80_0, Tr.val_test, Tr.val_fin, Tr.val_stop, leF_eq, if_true]
    rw [if_pos (by simp), if_pos (by simp)]
    change (if isBrk (l80_2 ((a, b, [b], (1 : Int), (0 : Int), ()), ())) = true then _ else _) = _
    rw [if_pos (by rw [e]; rfl)]
    change some (Out.again (((b80_2 ((a, b, [b], (1 : Int), (0 : Int), ()), ())).1.1, (b80_2 ((a, b, [b], (1 : Int), (0 : Int), ()), ())).1.2.1, (b80_2 ((a, b, [b], (1 : Int), (0 : Int), ()), ())).1.2.2.1, wrap64 ((b80_2 ((a, b, [b], (1 : Int), (0 : Int), ()), ())).1.2.2.2.1 + 1), ()), ())) = _
    simp only [b80_2, e, outB]
    rfl
  · simp [s80_0, t80_0, leF_eq]

theorem f80_two (a b : Int) (ha : a.natAbs ≤ 9223372036854775807) (hb : b.natAbs ≤ 9223372036854775807) : f80 (a, [b], ()) = some ((Int.gcd a b : Int), ()) := by
  have e := q80_0 a b hb
  simp only [f80, t80, Tr.val_test, Tr.val_fin, Tr.val_stop]
  change (if isBrk (l80_0 ((a, [b], (1 : Int), (0 : Int), ()), ())) = true then some ((if (b80_0 ((a, [b], (1 : Int), (0 : Int), ()), ())).1.1 < IntKind.wrap .i64 (0 - (b80_0 ((a, [b], (1 : Int), (0 : Int), ()), ())).1.1) then IntKind.wrap .i64 (0 - (b80_0 ((a, [b], (1 : Int), (0 : Int), ()), ())).1.1) else (b80_0 ((a, [b], (1 : Int), (0 : Int), ()), ())).1.1), ()) else none) = _
  simp only [b80_0, e, isBrk, outB, if_true]
  have := euc_gcd a b (by omega) (by omega) (by omega) (by omega)
  rw [← mx_max] at this
  rw [← wrap64_eq, Int.zero_sub]
  exact congrArg some (Prod.ext this rfl)

/-- A fraction in lowest terms. -/
def low (a b : Int) : Int × Int × Unit := (a.tdiv (Int.gcd a b), b.tdiv (Int.gcd a b), ())

theorem wrapI_id {n : Int} (h1 : -9223372036854775808 ≤ n) (h2 : n ≤ 9223372036854775807) : IntKind.wrap .i64 n = n := by rw [← wrap64_eq, wrap64_id h1 h2]

theorem low_wrap (a b : Int) (ha : a.natAbs ≤ 9223372036854775807) (hb : b.natAbs ≤ 9223372036854775807) : IntKind.wrap .i64 (a.tdiv (Int.gcd a b)) = (low a b).1 ∧ IntKind.wrap .i64 (b.tdiv (Int.gcd a b)) = (low a b).2.1 := by
  have h1 := tdiv_abs_le a (Int.gcd a b)
  have h2 := tdiv_abs_le b (Int.gcd a b)
  exact ⟨wrapI_id (by omega) (by omega), wrapI_id (by omega) (by omega)⟩

theorem f53_eq (a b : Int) (ha : a.natAbs ≤ 9223372036854775807) (hb : b.natAbs ≤ 9223372036854775807) (h0 : b ≠ 0) : f53 (a, b, ()) = some (low a b, ()) := by
  obtain ⟨e1, e2⟩ := low_wrap a b ha hb
  have e := f80_two b a hb ha
  rw [Int.gcd_comm] at e
  simp only [f53, t53, g80, e, Tr.val_test, Tr.val_fin, Option.isSome_some, Option.getD_some, if_true, e1, e2]
  rw [if_neg (by simpa using gcd_pos_right h0)]

theorem wrapJ {n : Int} (h1 : -9223372036854775808 ≤ n) (h2 : n ≤ 9223372036854775807) : IntKind.wrap .i64 n = n := by rw [← wrap64_eq, wrap64_id h1 h2]

theorem f86_abs (x : Int) (h : x.natAbs ≤ 9223372036854775807) : f86 (x, ()) = some ((x.natAbs : Int), ()) := by
  simp only [f86, t86, Tr.val_fin]
  rw [wrapJ (by omega) (by omega)]
  have e : (if x < 0 - x then 0 - x else x) = (x.natAbs : Int) := by split <;> omega
  rw [e]

theorem l104 (l : List Int) (h : l.length ≤ 1000000000) : l104_0 ((l, (l.length : Int), ()), ()) = some (.inl ((l, (trimN l l.length : Int), ()), ())) := by
  have hle := trimN_le l l.length
  refine itr_brk (fun i => ((l, ((l.length - i : Nat) : Int), ()), ())) (n := l.length - trimN l l.length) ?_ ?_ (lt_rounds (by omega))
  · intro i hi
    have h0 := trimN_zero l l.length (l.length - i - 1) (by omega) (by omega)
    have e : wrap64 (((l.length - i : Nat) : Int) - 1) = ((l.length - i - 1 : Nat) : Int) := by rw [wrap64_id (by omega) (by omega)]; omega
    simp only [s104_0, t104_0, Tr.val_test, Tr.val_fin, leF_eq, eqF_eq, e, Int.toNat_natCast, h0]
    rw [if_pos (by simp <;> omega), if_pos (by simp <;> omega), if_pos (by simp)]
    rfl
  · have e0 : l.length - (l.length - trimN l l.length) = trimN l l.length := by omega
    dsimp only
    rw [e0]
    cases hk : trimN l l.length with
    | zero => simp [s104_0, t104_0, leF_eq]
    | succ m =>
      have h0 := trimN_last l l.length m hk
      have e : wrap64 (((m + 1 : Nat) : Int) - 1) = ((m : Nat) : Int) := by rw [wrap64_id (by omega) (by omega)]; omega
      simp only [s104_0, t104_0, Tr.val_test, Tr.val_fin, leF_eq, eqF_eq, e, Int.toNat_natCast]
      rw [if_pos (by simp <;> omega), if_pos (by simp <;> omega), if_neg (by simpa using h0)]

theorem f104_eq (l : List Int) (h : l.length ≤ 1000000000) (hd : Dg l) : f104 (l, ()) = some (dig (dval l).toNat, ()) := by
  have hle := trimN_le l l.length
  simp only [f104, t104, b104_0, l104 l h, Tr.val_test, Tr.val_fin, isBrk, if_true, outB, Int.toNat_natCast]
  rw [if_pos (by simp <;> omega), trim_dig hd]

/-- A number out of its sign and its size. -/
def mkN (s n : Int) : Int × List Int × PUnit := if n = 0 then (0, [], ()) else (s, dig n.toNat, ())

theorem f90_eq (s : Int) (l : List Int) (h : l.length ≤ 1000000000) (hd : Dg l) : f90 (s, l, ()) = some (mkN s (dval l), ()) := by
  have h0 := dv_nonneg hd
  simp only [f90, t90, g104, f104_eq l h hd, Option.isSome_some, Option.getD_some, Tr.val_test, Tr.val_fin, eqF_eq, if_true, mkN]
  by_cases e : dval l = 0
  · rw [if_pos (by rw [e]; simp [dig_zero]), if_pos e, e]
    simp [dig_zero]
  · rw [if_neg e, if_neg]
    intro h2
    simp only [decide_eq_true_eq] at h2
    have h3 : (dig (dval l).toNat).length = 0 := by omega
    have := dig_nil.1 (List.eq_nil_of_length_eq_zero h3)
    omega

theorem mkN_enc {s z : Int} (h : z ≠ 0 → s = z.sign) : mkN s z.natAbs = enc z := by
  unfold mkN enc
  by_cases e : z = 0
  · subst e; simp [dig_zero]
  · rw [if_neg (by omega), h e]; simp

theorem f106_eq (l : List Int) (i : Nat) : f106 (l, (i : Int), ()) = some (l.getD i 0, ()) := by
  simp only [f106, t106, Tr.val_test, Tr.val_fin, leF_eq]
  by_cases h : i < l.length
  · rw [if_pos (by simp <;> omega), if_pos (by simp <;> omega)]; simp
  · rw [if_neg (by simp <;> omega)]
    simp [List.getD, List.getElem?_eq_none (Nat.le_of_not_lt h)]

theorem it68 (s b : Int) : ∀ (k : Nat) (x : Int) (acc : List Int) (m : Nat), (x.natAbs : Int) < pw k → x.natAbs ≤ 9223372036854775807 → acc.length + k ≤ 1000000 → k < m →
    itr s68_0 m ((x, s, acc, ()), ((b, ()), ())) = some (.inl ((s, acc ++ dig x.natAbs, ()), ((b, ()), ())))
  | 0, x, acc, m, h1, _, _, hm => by
    have : x = 0 := by simp only [pw] at h1; omega
    subst this
    obtain ⟨m, rfl⟩ : ∃ j, m = j + 1 := ⟨m - 1, by omega⟩
    simp [itr, s68_0, t68_0, eqF_eq, dig_zero]
  | k + 1, x, acc, m, h1, h2, h3, hm => by
    obtain ⟨m, rfl⟩ : ∃ j, m = j + 1 := ⟨m - 1, by omega⟩
    by_cases hx : x = 0
    · subst hx
      simp [itr, s68_0, t68_0, eqF_eq, dig_zero]
    · have e1 : (Int.tmod x 1000000000).natAbs = x.natAbs % 1000000000 := by rw [Int.natAbs_tmod]; rfl
      have e2 : (Int.tdiv x 1000000000).natAbs = x.natAbs / 1000000000 := by rw [Int.natAbs_tdiv]; rfl
      have e3 : IntKind.wrap .i64 (Int.tdiv x 1000000000) = Int.tdiv x 1000000000 := wrapJ (by omega) (by omega)
      have st : s68_0 ((x, s, acc, ()), ((b, ()), ())) = some (.again ((Int.tdiv x 1000000000, s, acc ++ [((x.natAbs % 1000000000 : Nat) : Int)], ()), ((b, ()), ()))) := by
        simp only [s68_0, t68_0, g86, f86_abs (Int.tmod x 1000000000) (by omega), Option.isSome_some, Option.getD_some, Tr.val_test, Tr.val_fin, eqF_eq, e3, e1, if_true]
        rw [if_pos (by simpa using hx), if_pos (by simp <;> omega)]
      simp only [pw] at h1
      rw [itr, st]
      dsimp only
      rw [it68 s b k (Int.tdiv x 1000000000) _ m (by omega) (by omega) (by simp <;> omega) (by omega), dig_pos (show x.natAbs ≠ 0 by omega), e2]
      simp

theorem f68_eq (x : Int) (h : x.natAbs ≤ 9223372036854775807) : f68 (x, ()) = some (enc x, ()) := by
  have hl : ∀ s : Int, l68_0 ((x, s, [], ()), (((0 : Int), ()), ())) = some (.inl ((s, dig x.natAbs, ()), (((0 : Int), ()), ()))) := fun s => by
    have := it68 s 0 3 x [] rounds (by simp only [pw]; omega) h (by simp) (lt_rounds (by omega))
    simpa [l68_0] using this
  have hg : (dig x.natAbs).length ≤ 3 := dig_len (by simp only [pw]; omega)
  have e := dig_dv x.natAbs
  simp only [f68, t68, b68_0, hl, g90, f90_eq _ (dig x.natAbs) (by omega) (dig_Dg _), e, Option.isSome_some, Option.getD_some, Tr.val_test, Tr.val_fin, isBrk, outB, if_true, leF_eq]
  by_cases hx : 0 ≤ x
  · rw [if_neg (by simp <;> omega)]
    have : mkN 1 (x.natAbs : Int) = enc x := mkN_enc fun h => by rw [Int.sign_eq_one_of_pos (by omega)]
    rw [this]
  · rw [if_pos (by simp <;> omega)]
    have : mkN (-1) (x.natAbs : Int) = enc x := mkN_enc fun h => by rw [Int.sign_eq_neg_one_of_neg (by omega)]
    rw [this]

/-- Carries and digits of a sum. -/
def cA (a b : List Int) : Nat → Int
  | 0 => 0
  | i + 1 => (a.getD i 0 + b.getD i 0 + cA a b i) / 1000000000

def oA (a b : List Int) : Nat → List Int
  | 0 => []
  | i + 1 => oA a b i ++ [(a.getD i 0 + b.getD i 0 + cA a b i) % 1000000000]

theorem cA_le {a b : List Int} (ha : Dg a) (hb : Dg b) : ∀ i, 0 ≤ cA a b i ∧ cA a b i ≤ 1
  | 0 => by simp [cA]
  | i + 1 => by
    have := cA_le ha hb i; have := ha.getD i; have := hb.getD i
    simp only [cA]; omega

theorem oA_len (a b : List Int) : ∀ i, (oA a b i).length = i
  | 0 => rfl
  | i + 1 => by simp [oA, oA_len a b i]

theorem oA_Dg (a b : List Int) : ∀ i, Dg (oA a b i)
  | 0 => Dg.nil
  | i + 1 => (oA_Dg a b i).push (by omega) (by omega)

theorem oA_dv (a b : List Int) : ∀ i, dval (oA a b i) + pw i * cA a b i = dval (a.take i) + dval (b.take i)
  | 0 => by simp [oA, cA, dval, pw]
  | i + 1 => by
    have ih := oA_dv a b i
    rw [oA, dv_push, oA_len, dv_take, dv_take, cA, pw]
    generalize hs : a.getD i 0 + b.getD i 0 + cA a b i = s at *
    have e : s % 1000000000 = s - 1000000000 * (s / 1000000000) := by omega
    have e2 : pw i * (s % 1000000000) + 1000000000 * pw i * (s / 1000000000) = pw i * s := by
      rw [e, Int.mul_sub, Int.mul_comm 1000000000 (pw i), Int.mul_assoc]; omega
    have e3 : pw i * s = pw i * a.getD i 0 + pw i * b.getD i 0 + pw i * cA a b i := by rw [← hs, Int.mul_add, Int.mul_add]
    omega

/-- How many digits a sum has. -/
def nA (a b : List Int) : Nat := if cA a b (max a.length b.length) = 0 then max a.length b.length else max a.length b.length + 1

theorem cA_end {a b : List Int} (ha : Dg a) (hb : Dg b) : cA a b (nA a b) = 0 := by
  unfold nA
  split
  · assumption
  · have := cA_le ha hb (max a.length b.length)
    have e1 : a.getD (max a.length b.length) 0 = 0 := by simp [List.getD, List.getElem?_eq_none (Nat.le_max_left a.length b.length)]
    have e2 : b.getD (max a.length b.length) 0 = 0 := by simp [List.getD, List.getElem?_eq_none (Nat.le_max_right a.length b.length)]
    simp only [cA, e1, e2]; omega

theorem s96_again {a b : List Int} (ha : Dg a) (hb : Dg b) {i : Nat} (hl : i ≤ 1000000) (h : i < a.length ∨ i < b.length ∨ 0 < cA a b i) :
    s96_0 ((a, b, oA a b i, cA a b i, (i : Int), ()), ()) = some (.again ((a, b, oA a b (i + 1), cA a b (i + 1), ((i + 1 : Nat) : Int), ()), ())) := by
  have h1 := cA_le ha hb i; have h2 := ha.getD i; have h3 := hb.getD i
  have e1 : wrap64 (wrap64 (a.getD i 0 + b.getD i 0) + cA a b i) = a.getD i 0 + b.getD i 0 + cA a b i := by
    rw [wrap64_id (n := a.getD i 0 + b.getD i 0) (by omega) (by omega), wrap64_id (by omega) (by omega)]
  have e2 : IntKind.wrap .i64 (Int.tdiv (a.getD i 0 + b.getD i 0 + cA a b i) 1000000000) = cA a b (i + 1) := by
    rw [Int.tdiv_eq_ediv_of_nonneg (by omega), wrapJ (by omega) (by omega), cA]
  have e3 : Int.tmod (a.getD i 0 + b.getD i 0 + cA a b i) 1000000000 = (a.getD i 0 + b.getD i 0 + cA a b i) % 1000000000 := Int.tmod_eq_emod_of_nonneg (by omega)
  have e4 : wrap64 ((i : Int) + 1) = ((i + 1 : Nat) : Int) := wrap64_nat (by omega)
  have e5 : (Nat.ble ((2 * ((oA a b i).length + 1) + 192) * 8) 281474976710656 && Nat.ble ((oA a b i).length + 1) 281474976710656) = true := by
    rw [oA_len]; simp; omega
  simp only [s96_0, t96_0, g106, f106_eq a i, f106_eq b i, Option.isSome_some, Option.getD_some, Tr.val_test, Tr.val_fin, leF_eq, if_true, e1, e2, e3, e4, e5]
  by_cases c1 : i < a.length
  · rw [if_pos (by simp <;> omega)]; rfl
  · rw [if_neg (by simp <;> omega)]
    by_cases c2 : i < b.length
    · rw [if_pos (by simp <;> omega)]; rfl
    · rw [if_neg (by simp <;> omega), if_pos (by simp <;> omega)]; rfl

theorem f96_eq (a b : List Int) (ha : Dg a) (hb : Dg b) (h1 : a.length ≤ 100000) (h2 : b.length ≤ 100000) : f96 (a, b, ()) = some (oA a b (nA a b), ()) := by
  have hn : nA a b ≤ max a.length b.length + 1 := by unfold nA; split <;> omega
  have hl : l96_0 ((a, b, [], (0 : Int), (0 : Int), ()), ()) = some (.inl ((oA a b (nA a b), ()), ())) := by
    refine itr_brk (fun i => ((a, b, oA a b i, cA a b i, (i : Int), ()), ())) (n := nA a b) ?_ ?_ (lt_rounds (by omega))
    · intro i hi
      refine s96_again ha hb (by omega) ?_
      have := cA_le ha hb i
      unfold nA at hi
      split at hi
      · omega
      · rename_i hc
        by_cases e : i = max a.length b.length
        · rw [← e] at hc; omega
        · omega
    · have hc := cA_end ha hb
      have hm : max a.length b.length ≤ nA a b := by unfold nA; split <;> omega
      simp only [s96_0, t96_0, Tr.val_test, Tr.val_fin, leF_eq, hc]
      rw [if_neg (by simp <;> omega), if_neg (by simp <;> omega), if_neg (by simp)]
  simp only [f96, t96, b96_0, hl, Tr.val_test, Tr.val_fin, isBrk, if_true, outB]

theorem oA_sum {a b : List Int} (ha : Dg a) (hb : Dg b) : dval (oA a b (nA a b)) = dval a + dval b := by
  have h := oA_dv a b (nA a b)
  have hm : max a.length b.length ≤ nA a b := by unfold nA; split <;> omega
  rw [cA_end ha hb, dv_take_all a (by omega), dv_take_all b (by omega)] at h
  omega

/-- Borrows and digits of a difference. -/
def cS (a b : List Int) : Nat → Int
  | 0 => 0
  | i + 1 => if a.getD i 0 - b.getD i 0 - cS a b i < 0 then 1 else 0

def oS (a b : List Int) : Nat → List Int
  | 0 => []
  | i + 1 => oS a b i ++ [if a.getD i 0 - b.getD i 0 - cS a b i < 0 then a.getD i 0 - b.getD i 0 - cS a b i + 1000000000 else a.getD i 0 - b.getD i 0 - cS a b i]

theorem cS_le (a b : List Int) : ∀ i, 0 ≤ cS a b i ∧ cS a b i ≤ 1
  | 0 => by simp [cS]
  | i + 1 => by simp only [cS]; split <;> omega

theorem oS_len (a b : List Int) : ∀ i, (oS a b i).length = i
  | 0 => rfl
  | i + 1 => by simp [oS, oS_len a b i]

theorem oS_Dg {a b : List Int} (ha : Dg a) (hb : Dg b) : ∀ i, Dg (oS a b i)
  | 0 => Dg.nil
  | i + 1 => by
    have := cS_le a b i; have := ha.getD i; have := hb.getD i
    exact (oS_Dg ha hb i).push (by split <;> omega) (by split <;> omega)

theorem oS_dv (a b : List Int) : ∀ i, dval (oS a b i) - pw i * cS a b i = dval (a.take i) - dval (b.take i)
  | 0 => by simp [oS, cS, dval, pw]
  | i + 1 => by
    have ih := oS_dv a b i
    rw [oS, dv_push, oS_len, dv_take, dv_take, cS, pw]
    generalize hs : a.getD i 0 - b.getD i 0 - cS a b i = s at *
    have e3 : pw i * s = pw i * a.getD i 0 - pw i * b.getD i 0 - pw i * cS a b i := by rw [← hs, Int.mul_sub, Int.mul_sub]
    by_cases h : s < 0
    · rw [if_pos h, if_pos h, Int.mul_add]; omega
    · rw [if_neg h, if_neg h]; omega

theorem f98_eq (a b : List Int) (ha : Dg a) (hb : Dg b) (h1 : a.length ≤ 1000000) (h2 : b.length ≤ a.length) (h3 : dval b ≤ dval a) : f98 (a, b, ()) = some (dig (dval a - dval b).toNat, ()) := by
  have hl : l98_0 ((a, b, [], (0 : Int), (0 : Int), ()), ()) = some (.inl ((oS a b a.length, ()), ())) := by
    refine itr_brk (fun i => ((a, b, oS a b i, cS a b i, (i : Int), ()), ())) (n := a.length) ?_ ?_ (lt_rounds (by omega))
    · intro i hi
      have h1 := cS_le a b i; have h2 := ha.getD i; have h3 := hb.getD i
      have e0 : wrap64 (a.getD i 0 - b.getD i 0) = a.getD i 0 - b.getD i 0 := wrap64_id (by omega) (by omega)
      have e1 : wrap64 (wrap64 (a.getD i 0 - b.getD i 0) - cS a b i) = a.getD i 0 - b.getD i 0 - cS a b i := by
        rw [e0, wrap64_id (by omega) (by omega)]
      have e2 : wrap64 (a.getD i 0 - b.getD i 0 - cS a b i + 1000000000) = a.getD i 0 - b.getD i 0 - cS a b i + 1000000000 := wrap64_id (by omega) (by omega)
      have e4 : wrap64 ((i : Int) + 1) = ((i + 1 : Nat) : Int) := wrap64_nat (by omega)
      have e5 : (Nat.ble ((2 * ((oS a b i).length + 1) + 192) * 8) 281474976710656 && Nat.ble ((oS a b i).length + 1) 281474976710656) = true := by
        rw [oS_len]; simp; omega
      simp only [s98_0, t98_0, g106, f106_eq b i, Option.isSome_some, Option.getD_some, Tr.val_test, Tr.val_fin, leF_eq, if_true, e1, e2, e4, e5, Int.toNat_natCast, oS, cS]
      rw [if_pos (by simp <;> omega), if_pos (by simp <;> omega)]
      by_cases h : a.getD i 0 - b.getD i 0 - cS a b i < 0
      · rw [if_pos (by simp only [Bool.not_eq_true', decide_eq_false_iff_not]; omega), if_pos h, if_pos h]
      · rw [if_neg (by simp only [Bool.not_eq_true', decide_eq_false_iff_not]; omega), if_neg h, if_neg h]
    · simp [s98_0, t98_0, leF_eq]
  have hd := oS_Dg ha hb a.length
  have hv := oS_dv a b a.length
  rw [dv_take_all a (Nat.le_refl _), dv_take_all b h2] at hv
  have hlt := dv_lt hd
  rw [oS_len] at hlt
  have hc := cS_le a b a.length
  have hc0 : cS a b a.length = 0 := by
    by_cases e : cS a b a.length = 1
    · rw [e] at hv; omega
    · omega
  rw [hc0, Int.mul_zero, Int.sub_zero] at hv
  simp only [f98, t98, b98_0, hl, g104, f104_eq _ (show (oS a b a.length).length ≤ 1000000000 by rw [oS_len]; omega) hd, hv, Option.isSome_some, Option.getD_some, Tr.val_test, Tr.val_fin, isBrk, if_true, outB]

theorem can_ge {l : List Int} (hd : Dg l) (hc : Can l) {m : Nat} (hm : l.length = m + 1) : pw m ≤ dval l := by
  have h3 := dv_take l m
  rw [dv_take_all _ (by omega)] at h3
  have h2 := hc m hm
  have h4 := dv_nonneg (hd.take m)
  have h5 := hd.getD m
  have h7 : pw m * 1 ≤ pw m * l.getD m 0 := Int.mul_le_mul_of_nonneg_left (by omega) (Int.le_of_lt (pw_pos m))
  omega

theorem dv_top {a b : List Int} (ha : Dg a) (hb : Dg b) {j : Nat} (hlt : a.getD j 0 < b.getD j 0) : ∀ n, (∀ i, j < i → i < j + 1 + n → a.getD i 0 = b.getD i 0) → dval (a.take (j + 1 + n)) < dval (b.take (j + 1 + n))
  | 0, _ => by
    rw [Nat.add_zero, dv_take, dv_take]
    have h1 := dv_lt (ha.take j)
    have h2 := dv_nonneg (hb.take j)
    have h3 : pw (a.take j).length ≤ pw j := pw_le (by simp; omega)
    have h7 : pw j * (a.getD j 0 + 1) ≤ pw j * b.getD j 0 := Int.mul_le_mul_of_nonneg_left (by omega) (Int.le_of_lt (pw_pos j))
    rw [Int.mul_add] at h7
    omega
  | n + 1, h => by
    have ih := dv_top ha hb hlt n fun i h1 h2 => h i h1 (by omega)
    have e := h (j + 1 + n) (by omega) (by omega)
    rw [← Nat.add_assoc, dv_take, dv_take, e]
    omega

theorem f97_eq (a b : List Int) (ha : Dg a) (hb : Dg b) (ca : Can a) (cb : Can b) (h1 : a.length ≤ 1000000) : f97 (a, b, ()) = some ((dval a - dval b).sign, ()) := by
  simp only [f97, t97, Tr.val_test, Tr.val_fin, leF_eq, eqF_eq]
  by_cases hle : a.length = b.length
  · rw [if_neg (by simp; omega)]
    have e0 : wrap64 ((a.length : Int) - 1) = (a.length : Int) - 1 := wrap64_id (by omega) (by omega)
    have hl : l97_0 ((a, b, (a.length : Int) - 1, ()), ()) = match first (fun k => !decide (a.getD (a.length - 1 - k) 0 = b.getD (a.length - 1 - k) 0)) a.length 0 with
        | some k => some (.inr (((if a.getD (a.length - 1 - k) 0 < b.getD (a.length - 1 - k) 0 then (-1 : Int) else 1), ()), ()))
        | none => some (.inl ((), ())) := by
      have := itr_search (step := s97_0) (m := rounds) (n := a.length) (fun k => ((a, b, (a.length : Int) - 1 - (k : Int), ()), ())) (fun k => !decide (a.getD (a.length - 1 - k) 0 = b.getD (a.length - 1 - k) 0))
        (fun k => (((if a.getD (a.length - 1 - k) 0 < b.getD (a.length - 1 - k) 0 then (-1 : Int) else 1), ()), ())) (b := ((), ())) ?_ ?_ (lt_rounds (by omega))
      · rw [l97_0, show (a.length : Int) - 1 = (a.length : Int) - 1 - ((0 : Nat) : Int) by omega]; exact this
      · intro k hk
        have e1 : (a.length : Int) - 1 - (k : Int) = ((a.length - 1 - k : Nat) : Int) := by omega
        have e2 : wrap64 (((a.length - 1 - k : Nat) : Int) - 1) = (a.length : Int) - 1 - ((k + 1 : Nat) : Int) := by rw [wrap64_id (by omega) (by omega)]; omega
        simp only [e1, s97_0, t97_0, Tr.val_test, Tr.val_fin, leF_eq, Int.toNat_natCast, e2]
        rw [if_pos (by simp), if_pos (by simp; omega), if_pos (by simp; omega)]
        generalize a.getD (a.length - 1 - k) 0 = x
        generalize b.getD (a.length - 1 - k) 0 = y
        rcases Int.lt_trichotomy x y with h | h | h
        · rw [if_pos (by simp; omega), if_pos (by simp; omega), if_pos h]
        · rw [if_neg (by simp; omega), if_neg (by simp; omega), if_neg (by simp; omega)]
        · rw [if_neg (by simp; omega), if_pos (by simp; omega), if_pos (by simp; omega), if_neg (by omega)]
      · simp only [s97_0, t97_0, Tr.val_test, Tr.val_fin, leF_eq]
        rw [if_neg (by simp; omega)]
    rw [e0, r97_0, hl]
    have hta := dv_take_all a (Nat.le_refl _)
    have htb := dv_take_all b (Nat.le_of_eq hle.symm)
    cases hf : first (fun k => !decide (a.getD (a.length - 1 - k) 0 = b.getD (a.length - 1 - k) 0)) a.length 0 with
    | none =>
      have hn := first_none hf
      have : ∀ n, n ≤ a.length → dval (a.take n) = dval (b.take n) := by
        intro n
        induction n with
        | zero => intro _; simp
        | succ n ih =>
          intro h
          have := hn (a.length - 1 - n) (by omega) (by omega)
          rw [show a.length - 1 - (a.length - 1 - n) = n by omega] at this
          rw [dv_take, dv_take, ih (by omega), show a.getD n 0 = b.getD n 0 by simpa using this]
      have e := this a.length (Nat.le_refl _)
      rw [hta, htb] at e
      simp [e, isRet]
    | some k =>
      obtain ⟨q1, q2, q3, q4⟩ := first_some hf
      have hne : a.getD (a.length - 1 - k) 0 ≠ b.getD (a.length - 1 - k) 0 := by simpa using q3
      have heq : ∀ i, a.length - 1 - k < i → i < a.length - 1 - k + 1 + k → a.getD i 0 = b.getD i 0 := fun i h1 h2 => by
        have := q4 (a.length - 1 - i) (by omega) (by omega)
        rw [show a.length - 1 - (a.length - 1 - i) = i by omega] at this
        simpa using this
      have hN : a.length - 1 - k + 1 + k = a.length := by omega
      simp only [isRet, Option.isSome_some, if_true, outR]
      by_cases h : a.getD (a.length - 1 - k) 0 < b.getD (a.length - 1 - k) 0
      · have := dv_top ha hb h k heq
        rw [hN, hta, htb] at this
        rw [if_pos h, Int.sign_eq_neg_one_of_neg (by omega)]
      · have := dv_top hb ha (j := a.length - 1 - k) (by omega) k fun i h1 h2 => (heq i h1 h2).symm
        rw [hN, hta, htb] at this
        rw [if_neg h, Int.sign_eq_one_of_pos (by omega)]
  · rw [if_pos (by simp; omega)]
    by_cases h : a.length < b.length
    · rw [if_pos (by simp; omega)]
      have hx := dv_lt ha
      obtain ⟨m, hm⟩ : ∃ m, b.length = m + 1 := ⟨b.length - 1, by omega⟩
      have hy := can_ge hb cb hm
      have : pw a.length ≤ pw m := pw_le (by omega)
      rw [Int.sign_eq_neg_one_of_neg (by omega)]
    · rw [if_neg (by simp; omega)]
      have hx := dv_lt hb
      obtain ⟨m, hm⟩ : ∃ m, a.length = m + 1 := ⟨a.length - 1, by omega⟩
      have hy := can_ge ha ca hm
      have : pw b.length ≤ pw m := pw_le (by omega)
      rw [Int.sign_eq_one_of_pos (by omega)]

theorem l71_2_eq (n c i : Nat) (s0 s1 z : Int) (a b buf : List Int) (hi : i < a.length) (ha : Dg a) (hb : Dg b) (hbuf : Dg buf) (hlen : buf.length = n) (hn : i + b.length ≤ n) (hs : n ≤ 1000000) :
    l71_2 (((n, c), ((i : Int), (0 : Int), (0 : Int), ())), ((s0, a, ()), (s1, b, ()), (z, ()), buf, ())) =
      some (.inl (((n, c), ((i : Int), (mI (a.getD i 0) b i buf b.length).2, ())), ((s0, a, ()), (s1, b, ()), (z, ()), (mI (a.getD i 0) b i buf b.length).1, ()))) := by
  refine itr_brk (fun j => (((n, c), ((i : Int), (mI (a.getD i 0) b i buf j).2, (j : Int), ())), ((s0, a, ()), (s1, b, ()), (z, ()), (mI (a.getD i 0) b i buf j).1, ()))) (n := b.length) ?_ ?_ (lt_rounds (by omega))
  · intro j hj
    obtain ⟨h1, h2, h3⟩ := mI_Dg (i := i) (ha.getD i) hb hbuf j
    have h4 := h1.getD (i + j)
    have h5 := dg_mul (ha.getD i) (hb.getD j)
    have hml := mI_len (a.getD i 0) b i buf j
    have e0 : wrap64 ((i : Int) + (j : Int)) = ((i + j : Nat) : Int) := by rw [wrap64_id (by omega) (by omega)]; omega
    have e1 : wrap64 (a.getD i 0 * b.getD j 0) = a.getD i 0 * b.getD j 0 := wrap64_id (by omega) (by omega)
    have e2 : wrap64 (wrap64 ((mI (a.getD i 0) b i buf j).1.getD (i + j) 0 + a.getD i 0 * b.getD j 0) + (mI (a.getD i 0) b i buf j).2) = (mI (a.getD i 0) b i buf j).1.getD (i + j) 0 + a.getD i 0 * b.getD j 0 + (mI (a.getD i 0) b i buf j).2 := by
      rw [wrap64_id (n := (mI (a.getD i 0) b i buf j).1.getD (i + j) 0 + a.getD i 0 * b.getD j 0) (by omega) (by omega), wrap64_id (by omega) (by omega)]
    have e3 : Int.tmod ((mI (a.getD i 0) b i buf j).1.getD (i + j) 0 + a.getD i 0 * b.getD j 0 + (mI (a.getD i 0) b i buf j).2) 1000000000 = ((mI (a.getD i 0) b i buf j).1.getD (i + j) 0 + a.getD i 0 * b.getD j 0 + (mI (a.getD i 0) b i buf j).2) % 1000000000 := Int.tmod_eq_emod_of_nonneg (by omega)
    have e4 : IntKind.wrap .i64 (Int.tdiv ((mI (a.getD i 0) b i buf j).1.getD (i + j) 0 + a.getD i 0 * b.getD j 0 + (mI (a.getD i 0) b i buf j).2) 1000000000) = ((mI (a.getD i 0) b i buf j).1.getD (i + j) 0 + a.getD i 0 * b.getD j 0 + (mI (a.getD i 0) b i buf j).2) / 1000000000 := by
      rw [Int.tdiv_eq_ediv_of_nonneg (by omega), wrapJ (by omega) (by omega)]
    have e5 : wrap64 ((j : Int) + 1) = ((j + 1 : Nat) : Int) := wrap64_nat (by omega)
    simp only [s71_2, t71_2, Tr.val_test, Tr.val_fin, leF_eq, e0, Int.toNat_natCast, Nat.zero_add, e1, e2, e3, e4, e5]
    rw [if_pos (by simp; omega), if_pos (by simp; omega), if_pos (by rw [hml, ble_eq_true']; omega), if_pos (by simp; omega), if_pos (by simp; omega)]
    rfl
  · simp [s71_2, t71_2, leF_eq]

theorem l71_0_eq (s0 s1 z : Int) (a b : List Int) (n : Nat) (ha : Dg a) (hb : Dg b) (hn : n = a.length + b.length + 1) (hs : n ≤ 1000000) :
    l71_0 (((n, n), ((0 : Int), ())), ((s0, a, ()), (s1, b, ()), (z, ()), List.replicate n 0, ())) = some (.inl (((n, n), ()), ((s0, a, ()), (s1, b, ()), (z, ()), mO a b a.length, ()))) := by
  subst hn
  refine itr_brk (fun i => (((a.length + b.length + 1, a.length + b.length + 1), ((i : Int), ())), ((s0, a, ()), (s1, b, ()), (z, ()), mO a b i, ()))) (n := a.length) ?_ ?_ (lt_rounds (by omega))
  · intro i hi
    have hl := l71_2_eq (a.length + b.length + 1) (a.length + b.length + 1) i s0 s1 z a b (mO a b i) hi ha hb (mO_Dg ha hb i) (mO_len a b i) (by omega) hs
    obtain ⟨h1, h2, h3⟩ := mI_Dg (i := i) (ha.getD i) hb (mO_Dg ha hb i) b.length
    have e0 : wrap64 ((i : Int) + (b.length : Int)) = ((i + b.length : Nat) : Int) := by rw [wrap64_id (by omega) (by omega)]; omega
    have e1 : wrap64 ((mI (a.getD i 0) b i (mO a b i) b.length).1.getD (i + b.length) 0 + (mI (a.getD i 0) b i (mO a b i) b.length).2) = (mI (a.getD i 0) b i (mO a b i) b.length).1.getD (i + b.length) 0 + (mI (a.getD i 0) b i (mO a b i) b.length).2 := by
      rw [mO_get]; exact wrap64_id (by omega) (by omega)
    have e5 : wrap64 ((i : Int) + 1) = ((i + 1 : Nat) : Int) := wrap64_nat (by omega)
    have hml : (mI (a.getD i 0) b i (mO a b i) b.length).1.length = a.length + b.length + 1 := by rw [mI_len, mO_len]
    simp only [s71_0, t71_0, b71_2, hl, isBrk, outB, Tr.val_test, Tr.val_fin, leF_eq, e0, Int.toNat_natCast, Nat.zero_add, e1, e5, if_true]
    rw [if_pos (by simp; omega), if_pos (by simp; omega), if_pos (by rw [hml, ble_eq_true']; omega)]
    rfl
  · simp [s71_0, t71_0, leF_eq]

theorem f71_raw (s0 s1 : Int) (a b : List Int) (ha : Dg a) (hb : Dg b) (h : a.length + b.length + 1 ≤ 1000000) : f71 ((s0, a, ()), (s1, b, ()), ()) = some (mkN (wrap64 (s0 * s1)) (dval a * dval b), ()) := by
  have e0 : wrap64 (wrap64 ((a.length : Int) + (b.length : Int)) + 1) = ((a.length + b.length + 1 : Nat) : Int) := by
    rw [wrap64_id (n := (a.length : Int) + (b.length : Int)) (by omega) (by omega), wrap64_id (by omega) (by omega)]; omega
  have hl := l71_0_eq s0 s1 0 a b _ ha hb rfl h
  have hd := mO_Dg ha hb a.length
  have hv := mO_dv a b a.length (Nat.le_refl _)
  rw [dv_take_all a (Nat.le_refl _)] at hv
  have hlen := mO_len a b a.length
  have hf : f90 (wrap64 (s0 * s1), mO a b a.length, ()) = some (mkN (wrap64 (s0 * s1)) (dval a * dval b), ()) := by rw [f90_eq _ _ (by omega) hd, hv]
  simp only [f71, t71, e0, Int.toNat_natCast, b71_0, hl, isBrk, outB, Tr.val_test, Tr.val_fin, if_true, hlen, g90, hf, Option.isSome_some, Option.getD_some]
  rw [if_pos (by simp; omega), if_pos (by simp)]

theorem f71_eq (x y : Int) (h : (dig x.natAbs).length + (dig y.natAbs).length + 1 ≤ 1000000) : f71 (enc x, enc y, ()) = some (enc (x * y), ()) := by
  have hf := f71_raw x.sign y.sign (dig x.natAbs) (dig y.natAbs) (dig_Dg _) (dig_Dg _) h
  rw [dig_dv, dig_dv] at hf
  have hw : wrap64 (x.sign * y.sign) = (x * y).sign := by
    rw [← Int.sign_mul]
    have : (x * y).sign = -1 ∨ (x * y).sign = 0 ∨ (x * y).sign = 1 := by
      rcases Int.lt_trichotomy (x * y) 0 with h | h | h
      · left; exact Int.sign_eq_neg_one_of_neg h
      · right; left; rw [h]; rfl
      · right; right; exact Int.sign_eq_one_of_pos h
    exact wrap64_id (by omega) (by omega)
  rw [hw] at hf
  have he : mkN (x * y).sign ((x.natAbs : Int) * (y.natAbs : Int)) = enc (x * y) := by
    rw [← Int.natCast_mul, ← Int.natAbs_mul]
    exact mkN_enc fun _ => rfl
  rw [he] at hf
  exact hf

theorem sgn_cases (x : Int) : (x < 0 ∧ x.sign = -1) ∨ (x = 0 ∧ x.sign = 0) ∨ (0 < x ∧ x.sign = 1) := by
  rcases Int.lt_trichotomy x 0 with h | h | h
  · exact .inl ⟨h, Int.sign_eq_neg_one_of_neg h⟩
  · exact .inr (.inl ⟨h, by rw [h]; rfl⟩)
  · exact .inr (.inr ⟨h, Int.sign_eq_one_of_pos h⟩)

theorem f72_raw (s0 s1 : Int) (a b : List Int) (ha : Dg a) (hb : Dg b) (ca : Can a) (cb : Can b) (h1 : a.length ≤ 100000) (h2 : b.length ≤ 100000) : f72 ((s0, a, ()), (s1, b, ()), ()) =
    if s0 = 0 then some ((s1, b, ()), ()) else if s1 = 0 then some ((s0, a, ()), ()) else if s0 = s1 then some (mkN s0 (dval a + dval b), ()) else
    if dval a = dval b then some ((0, [], ()), ()) else if dval b < dval a then some (mkN s0 (dval a - dval b), ()) else some (mkN s1 (dval b - dval a), ()) := by
  have hle : ∀ {l : List Int} {n : Int}, Dg l → Can l → dval l ≤ n → ∀ {l2 : List Int}, Dg l2 → n = dval l2 → l.length ≤ l2.length := fun {l n} hd hc hn {l2} hd2 e => by
    rcases Nat.lt_or_ge l2.length l.length with h | h
    · exfalso
      obtain ⟨m, hm⟩ : ∃ m, l.length = m + 1 := ⟨l.length - 1, by omega⟩
      have := can_ge hd hc hm
      have := dv_lt hd2
      have : pw l2.length ≤ pw m := pw_le (by omega)
      omega
    · exact h
  have hn : nA a b ≤ max a.length b.length + 1 := by unfold nA; split <;> omega
  simp only [f72, t72, Tr.val_test, Tr.val_fin, eqF_eq, leF_eq, decide_eq_true_eq]
  by_cases c1 : s0 = 0
  · rw [if_pos c1, if_pos c1]
  rw [if_neg c1, if_neg c1]
  by_cases c2 : s1 = 0
  · rw [if_pos c2, if_pos c2]
  rw [if_neg c2, if_neg c2]
  by_cases c3 : s0 = s1
  · rw [if_pos c3, if_pos c3]
    simp only [g96, f96_eq a b ha hb h1 h2, Option.isSome_some, Option.getD_some, if_true, g90, f90_eq s0 (oA a b (nA a b)) (by rw [oA_len]; omega) (oA_Dg a b _), oA_sum ha hb]
  rw [if_neg c3, if_neg c3]
  simp only [g97, f97_eq a b ha hb ca cb (by omega), Option.isSome_some, Option.getD_some, if_true]
  rcases sgn_cases (dval a - dval b) with ⟨hs, e⟩ | ⟨hs, e⟩ | ⟨hs, e⟩
  · have hl := hle ha ca (show dval a ≤ dval b by omega) hb rfl
    have hv : ((dval b - dval a).toNat : Int) = dval b - dval a := by omega
    have hlen : (dig (dval b - dval a).toNat).length ≤ b.length := dig_len (by have := dv_lt hb; have := dv_nonneg ha; omega)
    rw [if_neg (by rw [e]; omega), if_neg (by rw [e]; simp)]
    simp only [g98, f98_eq b a hb ha (by omega) hl (by omega), Option.isSome_some, Option.getD_some, if_true, g90, f90_eq s1 (dig (dval b - dval a).toNat) (by omega) (dig_Dg _), dig_dv, hv]
    rw [if_neg (by omega), if_neg (by omega)]
  · rw [if_pos (by rw [e]), if_pos (by omega)]
  · have hl := hle hb cb (show dval b ≤ dval a by omega) ha rfl
    have hv : ((dval a - dval b).toNat : Int) = dval a - dval b := by omega
    have hlen : (dig (dval a - dval b).toNat).length ≤ a.length := dig_len (by have := dv_lt ha; have := dv_nonneg hb; omega)
    rw [if_neg (by rw [e]; omega), if_pos (by rw [e]; simp)]
    simp only [g98, f98_eq a b ha hb (by omega) hl (by omega), Option.isSome_some, Option.getD_some, if_true, g90, f90_eq s0 (dig (dval a - dval b).toNat) (by omega) (dig_Dg _), dig_dv, hv]
    rw [if_neg (by omega), if_pos (by omega)]

theorem mkN_eq {s n z : Int} (h : n = z.natAbs) (hs : z ≠ 0 → s = z.sign) : mkN s n = enc z := by rw [h]; exact mkN_enc hs

theorem f72_eq (x y : Int) (h1 : (dig x.natAbs).length ≤ 100000) (h2 : (dig y.natAbs).length ≤ 100000) : f72 (enc x, enc y, ()) = some (enc (x + y), ()) := by
  have hf := f72_raw x.sign y.sign (dig x.natAbs) (dig y.natAbs) (dig_Dg _) (dig_Dg _) (dig_Can _) (dig_Can _) h1 h2
  rw [dig_dv, dig_dv] at hf
  refine hf.trans ?_
  have t0 : (0 : Int).sign = 0 := rfl
  rcases sgn_cases x with ⟨hx, ex⟩ | ⟨hx, ex⟩ | ⟨hx, ex⟩
  · rcases sgn_cases y with ⟨hy, ey⟩ | ⟨hy, ey⟩ | ⟨hy, ey⟩
    · rw [ex, ey, if_neg (by omega), if_neg (by omega), if_pos rfl, mkN_eq (z := x + y) (by omega) fun _ => by rw [Int.sign_eq_neg_one_of_neg (by omega)]]
    · rw [ex, ey, if_neg (by omega), if_pos rfl]; subst hy; rw [Int.add_zero, enc, ex]
    · rw [ex, ey, if_neg (by omega), if_neg (by omega), if_neg (by omega)]
      split
      · have : x + y = 0 := by omega
        rw [this]; simp [enc, dig_zero]
      · split
        · rw [mkN_eq (z := x + y) (by omega) fun _ => by rw [Int.sign_eq_neg_one_of_neg (by omega)]]
        · rw [mkN_eq (z := x + y) (by omega) fun _ => by rw [Int.sign_eq_one_of_pos (by omega)]]
  · rw [ex, if_pos rfl]; subst hx; rw [Int.zero_add, enc]
  · rcases sgn_cases y with ⟨hy, ey⟩ | ⟨hy, ey⟩ | ⟨hy, ey⟩
    · rw [ex, ey, if_neg (by omega), if_neg (by omega), if_neg (by omega)]
      split
      · have : x + y = 0 := by omega
        rw [this]; simp [enc, dig_zero]
      · split
        · rw [mkN_eq (z := x + y) (by omega) fun _ => by rw [Int.sign_eq_one_of_pos (by omega)]]
        · rw [mkN_eq (z := x + y) (by omega) fun _ => by rw [Int.sign_eq_neg_one_of_neg (by omega)]]
    · rw [ex, ey, if_neg (by omega), if_pos rfl]; subst hy; rw [Int.add_zero, enc, ex]
    · rw [ex, ey, if_neg (by omega), if_neg (by omega), if_pos rfl, mkN_eq (z := x + y) (by omega) fun _ => by rw [Int.sign_eq_one_of_pos (by omega)]]

theorem enc_neg (x : Int) : (IntKind.wrap .i64 (0 - x.sign), dig x.natAbs, ()) = enc (-x) := by
  have : IntKind.wrap .i64 (0 - x.sign) = (-x).sign := by
    rw [Int.sign_neg]
    rcases sgn_cases x with ⟨_, e⟩ | ⟨_, e⟩ | ⟨_, e⟩ <;> rw [e] <;> rfl
  rw [this, enc, Int.natAbs_neg]

theorem f92_eq (x : Int) : f92 (enc x, ()) = some (enc (-x), ()) := by
  rw [← enc_neg]; rfl

theorem f95_eq (x y : Int) (h1 : (dig x.natAbs).length ≤ 100000) (h2 : (dig y.natAbs).length ≤ 100000) : f95 (enc x, enc y, ()) = some (enc (x - y), ()) := by
  have e0 : f92 ((y.sign, dig y.natAbs, ()), ()) = some (enc (-y), ()) := f92_eq y
  have e1 : f72 ((x.sign, dig x.natAbs, ()), ((enc (-y)).1, (enc (-y)).2.1, ()), ()) = some (enc (x - y), ()) := f72_eq x (-y) h1 (by rw [Int.natAbs_neg]; exact h2)
  show f95 ((x.sign, dig x.natAbs, ()), (y.sign, dig y.natAbs, ()), ()) = _
  simp only [f95, t95, g92, e0, g72, e1, Option.isSome_some, Option.getD_some, Tr.val_test, Tr.val_fin, if_true]

theorem f70_eq (x y : Int) (h1 : (dig x.natAbs).length ≤ 100000) (h2 : (dig y.natAbs).length ≤ 100000) : f70 (enc x, enc y, ()) = some ((x - y).sign, ()) := by
  have e0 : f95 ((x.sign, dig x.natAbs, ()), (y.sign, dig y.natAbs, ()), ()) = some (enc (x - y), ()) := f95_eq x y h1 h2
  show f70 ((x.sign, dig x.natAbs, ()), (y.sign, dig y.natAbs, ()), ()) = _
  simp only [f70, t70, g95, e0, Option.isSome_some, Option.getD_some, Tr.val_test, Tr.val_fin, if_true]
  rfl

theorem f105_eq (x : Int) : f105 (enc x, ()) = some (enc x.natAbs, ()) := by
  have e0 : f92 ((x.sign, dig x.natAbs, ()), ()) = some (enc (-x), ()) := f92_eq x
  show f105 ((x.sign, dig x.natAbs, ()), ()) = _
  simp only [f105, t105, g92, e0, Option.isSome_some, Option.getD_some, Tr.val_test, Tr.val_fin, leF_eq, if_true]
  rcases sgn_cases x with ⟨h, e⟩ | ⟨h, e⟩ | ⟨h, e⟩
  · rw [if_pos (by rw [e]; simp), show ((x.natAbs : Nat) : Int) = -x by omega]
  · subst h; rfl
  · rw [if_neg (by rw [e]; simp), show ((x.natAbs : Nat) : Int) = x by omega]; rfl

theorem dig_mono {m n : Nat} (h : m ≤ n) : (dig m).length ≤ (dig n).length := dig_len (by have := dig_len_pw n; omega)

theorem enc_pos {x : Int} (h : 0 < x) : f90 (1, dig x.natAbs, ()) = f90 (x.sign, dig x.natAbs, ()) := by rw [Int.sign_eq_one_of_pos h]

theorem f90_enc (x : Int) (h : (dig x.natAbs).length ≤ 1000000000) : f90 (x.sign, dig x.natAbs, ()) = some (enc x, ()) := by
  rw [f90_eq _ _ h (dig_Dg _), dig_dv, mkN_enc fun _ => rfl]

theorem dig_small {x : Int} (h0 : 0 ≤ x) (h : x < 1000000000) : (dig x.natAbs).length ≤ 1 := dig_len (by simp only [pw]; omega)

theorem f71_one {x y : Int} (hx : (dig x.natAbs).length ≤ 10000) (h0 : 0 ≤ y) (h : y < 1000000000) : f71 (((enc x).1, (enc x).2.1, ()), ((enc y).1, (enc y).2.1, ()), ()) = some (enc (x * y), ()) :=
  f71_eq x y (by have := dig_small h0 h; omega)

theorem it94 (n c : Nat) (i s0 s1 z : Int) (a buf : List Int) (V Y : Int) (hV : 0 ≤ V) (hY : 0 < Y) (hl : (dig Y.natAbs).length ≤ 10000) (hq : V / Y ≤ 999999999) :
    ∀ (k : Nat) (lo hi : Int) (m : Nat), (hi - lo).toNat ≤ k → 0 ≤ lo → lo ≤ V / Y → V / Y ≤ hi → hi ≤ 999999999 → k < m →
      itr s94_2 m (((n, c), (dig V.toNat, i, lo, hi, ())), ((s0, a, ()), (s1, dig Y.natAbs, ()), (z, ()), buf, ())) =
        some (.inl (((n, c), (dig V.toNat, i, V / Y, ())), ((s0, a, ()), (s1, dig Y.natAbs, ()), (z, ()), buf, ())))
  | k, lo, hi, m, hk, h1, h2, h3, h4, hm => by
    obtain ⟨m, rfl⟩ : ∃ j, m = j + 1 := ⟨m - 1, by omega⟩
    by_cases h : lo < hi
    · obtain ⟨k, rfl⟩ : ∃ j, k = j + 1 := ⟨k - 1, by omega⟩
      have e0 : IntKind.wrap .i64 (Int.tdiv (wrap64 (wrap64 (lo + hi) + 1)) 2) = (lo + hi + 1) / 2 := by
        rw [wrap64_id (n := lo + hi) (by omega) (by omega), wrap64_id (by omega) (by omega), Int.tdiv_eq_ediv_of_nonneg (by omega), wrapJ (by omega) (by omega)]
      have e5 : wrap64 ((lo + hi + 1) / 2 - 1) = (lo + hi + 1) / 2 - 1 := wrap64_id (by omega) (by omega)
      generalize hmid : (lo + hi + 1) / 2 = mid at *
      have b1 : 0 ≤ mid := by omega
      have b2 : mid < 1000000000 := by omega
      have e1 : f90 (1, dig Y.natAbs, ()) = some (enc Y, ()) := by rw [enc_pos hY, f90_enc Y (by omega)]
      have e2 := f68_eq mid (by omega)
      have e3 := f71_one (x := Y) hl b1 b2
      have hnn : 0 ≤ Y * mid := Int.mul_nonneg (by omega) b1
      have hvn : ((V.toNat : Nat) : Int) = V := by omega
      have hlm : (dig (Y * mid).natAbs).length ≤ (dig Y.natAbs).length + 1 := dig_len (by
        have q1 := dig_len_pw Y.natAbs
        have q3 : Y * mid < Y * 1000000000 := Int.mul_lt_mul_of_pos_left b2 hY
        simp only [pw]
        omega)
      have e4 : f97 ((enc (Y * mid)).2.1, dig V.toNat, ()) = some ((Y * mid - V).sign, ()) := by
        have := f97_eq (dig (Y * mid).natAbs) (dig V.toNat) (dig_Dg _) (dig_Dg _) (dig_Can _) (dig_Can _) (by omega)
        rw [dig_dv, dig_dv, hvn, show (((Y * mid).natAbs : Nat) : Int) = Y * mid by omega] at this
        exact this
      have hiff : mid ≤ V / Y ↔ Y * mid ≤ V := by rw [Int.le_ediv_iff_mul_le hY, Int.mul_comm]
      have hstep : s94_2 (((n, c), (dig V.toNat, i, lo, hi, ())), ((s0, a, ()), (s1, dig Y.natAbs, ()), (z, ()), buf, ())) =
          some (.again (((n, c), (dig V.toNat, i, (if mid ≤ V / Y then mid else lo), (if mid ≤ V / Y then hi else mid - 1), ())), ((s0, a, ()), (s1, dig Y.natAbs, ()), (z, ()), buf, ()))) := by
        simp only [s94_2, t94_2, e0, e5, g90, e1, g68, e2, g71, e3, g97, e4, Option.isSome_some, Option.getD_some, Tr.val_test, Tr.val_fin, leF_eq, if_true]
        rw [if_pos (by simp; omega)]
        rcases sgn_cases (Y * mid - V) with ⟨w, es⟩ | ⟨w, es⟩ | ⟨w, es⟩
        · have := hiff.2 (by omega)
          rw [if_pos (by rw [es]; simp), if_pos this, if_pos this]
        · have := hiff.2 (by omega)
          rw [if_pos (by rw [es]; simp), if_pos this, if_pos this]
        · have : ¬ mid ≤ V / Y := fun t => by have := hiff.1 t; omega
          rw [if_neg (by rw [es]; simp), if_neg this, if_neg this]
      rw [itr, hstep]
      dsimp only
      by_cases hc : mid ≤ V / Y
      · rw [if_pos hc, if_pos hc]
        exact it94 n c i s0 s1 z a buf V Y hV hY hl hq k mid hi m (by omega) b1 hc h3 h4 (by omega)
      · rw [if_neg hc, if_neg hc]
        exact it94 n c i s0 s1 z a buf V Y hV hY hl hq k lo (mid - 1) m (by omega) h1 h2 (by omega) (by omega) (by omega)
    · have : lo = V / Y := by omega
      rw [itr]
      simp only [s94_2, t94_2, Tr.val_test, Tr.val_fin, leF_eq]
      rw [if_neg (by simp; omega), this]

theorem set_zeros (q : Int) (d : List Int) : ∀ j, (List.replicate (j + 1) 0 ++ d).set j q = List.replicate j 0 ++ q :: d
  | 0 => by simp
  | j + 1 => by
    rw [List.replicate_succ, List.cons_append, List.set_cons_succ, set_zeros q d j, List.replicate_succ, List.cons_append]

/-- The value of the upper digits. -/
def upA (a : List Int) : Nat → Int
  | 0 => 0
  | k + 1 => a.getD (a.length - 1 - k) 0 + 1000000000 * upA a k

theorem upA_drop (a : List Int) : ∀ k, k ≤ a.length → upA a k = dval (a.drop (a.length - k))
  | 0, _ => by simp [upA, dval]
  | k + 1, h => by
    have e : a.length - (k + 1) + 1 = a.length - k := by omega
    rw [upA, upA_drop a k (by omega), List.drop_eq_getElem_cons (show a.length - (k + 1) < a.length by omega), dval, e]
    congr 1
    have : a.length - 1 - k = a.length - (k + 1) := by omega
    rw [this]
    simp [List.getD, show a.length - (k + 1) < a.length by omega]

/-- The digits of the quotient. -/
def dQ (a : List Int) (Y : Int) : Nat → List Int
  | 0 => []
  | k + 1 => ((a.getD (a.length - 1 - k) 0 + 1000000000 * (upA a k % Y)) / Y) :: dQ a Y k

theorem dQ_len (a : List Int) (Y : Int) : ∀ k, (dQ a Y k).length = k
  | 0 => rfl
  | k + 1 => by simp [dQ, dQ_len a Y k]

theorem dQ_bound {a : List Int} (ha : Dg a) {Y : Int} (hY : 0 < Y) (k : Nat) : 0 ≤ (a.getD (a.length - 1 - k) 0 + 1000000000 * (upA a k % Y)) / Y ∧ (a.getD (a.length - 1 - k) 0 + 1000000000 * (upA a k % Y)) / Y < 1000000000 := by
  have h1 := ha.getD (a.length - 1 - k)
  have h2 := Int.emod_nonneg (upA a k) (show Y ≠ 0 by omega)
  have h3 := Int.emod_lt_of_pos (upA a k) hY
  refine ⟨Int.ediv_nonneg (by omega) (by omega), Int.ediv_lt_of_lt_mul hY (by omega)⟩

theorem dQ_Dg {a : List Int} (ha : Dg a) {Y : Int} (hY : 0 < Y) : ∀ k, Dg (dQ a Y k)
  | 0 => Dg.nil
  | k + 1 => fun d hd => by
    rcases List.mem_cons.1 hd with rfl | hd
    · exact dQ_bound ha hY k
    · exact dQ_Dg ha hY k d hd

theorem upA_split (a : List Int) {Y : Int} (k : Nat) : upA a (k + 1) = a.getD (a.length - 1 - k) 0 + 1000000000 * (upA a k % Y) + Y * (1000000000 * (upA a k / Y)) := by
  have := Int.emod_add_mul_ediv (upA a k) Y
  rw [upA]
  have e : Y * (1000000000 * (upA a k / Y)) = 1000000000 * (Y * (upA a k / Y)) := by rw [Int.mul_left_comm]
  omega

theorem dQ_dv (a : List Int) {Y : Int} (hY : 0 < Y) : ∀ k, dval (dQ a Y k) = upA a k / Y
  | 0 => by simp [dQ, dval, upA]
  | k + 1 => by
    rw [dQ, dval, dQ_dv a hY k, upA_split a (Y := Y) k, Int.add_mul_ediv_left _ _ (by omega)]

theorem upA_mod (a : List Int) {Y : Int} (k : Nat) : upA a (k + 1) % Y = (a.getD (a.length - 1 - k) 0 + 1000000000 * (upA a k % Y)) % Y := by
  rw [upA_split a (Y := Y) k, Int.add_mul_emod_self_left]

theorem dig_up (V Y : Int) (hV : 0 ≤ V) (hY : 0 < Y) : f98 (dig V.toNat, (enc (Y * (V / Y))).2.1, ()) = f98 (dig V.toNat, dig (Y * (V / Y)).toNat, ()) := by
  have h : 0 ≤ Y * (V / Y) := Int.mul_nonneg (by omega) (Int.ediv_nonneg hV (by omega))
  rw [show (Y * (V / Y)).toNat = (Y * (V / Y)).natAbs by omega]; rfl

theorem f98_rem (V Y : Int) (hV : 0 ≤ V) (hY : 0 < Y) (h : (dig V.toNat).length ≤ 1000000) : f98 (dig V.toNat, (enc (Y * (V / Y))).2.1, ()) = some (dig (V % Y).toNat, ()) := by
  have h0 : 0 ≤ Y * (V / Y) := Int.mul_nonneg (by omega) (Int.ediv_nonneg hV (by omega))
  have h1 := Int.emod_add_mul_ediv V Y
  have h2 := Int.emod_nonneg V (show Y ≠ 0 by omega)
  have e1 : ((V.toNat : Nat) : Int) = V := by omega
  have e2 : (((Y * (V / Y)).toNat : Nat) : Int) = Y * (V / Y) := by omega
  rw [dig_up V Y hV hY, f98_eq _ _ (dig_Dg _) (dig_Dg _) h (dig_mono (by omega)) (by rw [dig_dv, dig_dv]; omega), dig_dv, dig_dv, e1, e2, show V - Y * (V / Y) = V % Y by omega]

theorem l94 (s0 s1 z : Int) (a : List Int) (Y : Int) (ha : Dg a) (hY : 0 < Y) (hl : (dig Y.natAbs).length ≤ 10000) (h : a.length ≤ 10000) :
    l94_0 (((a.length, a.length), ([], (a.length : Int) - 1, ())), ((s0, a, ()), (s1, dig Y.natAbs, ()), (z, ()), List.replicate a.length 0, ())) =
      some (.inl (((a.length, a.length), (dig (upA a a.length % Y).toNat, ())), ((s0, a, ()), (s1, dig Y.natAbs, ()), (z, ()), dQ a Y a.length, ()))) := by
  have key := itr_brk (step := s94_0) (m := rounds) (n := a.length) (b := (((a.length, a.length), (dig (upA a a.length % Y).toNat, ())), ((s0, a, ()), (s1, dig Y.natAbs, ()), (z, ()), dQ a Y a.length, ())))
    (fun k => (((a.length, a.length), (dig (upA a k % Y).toNat, (a.length : Int) - 1 - (k : Int), ())), ((s0, a, ()), (s1, dig Y.natAbs, ()), (z, ()), List.replicate (a.length - k) 0 ++ dQ a Y k, ()))) ?_ ?_ (lt_rounds (by omega))
  · have h0 : dig (upA a 0 % Y).toNat = [] := by simp [upA, dig_zero]
    have h1 : List.replicate (a.length - 0) (0 : Int) ++ dQ a Y 0 = List.replicate a.length 0 := by simp [dQ]
    have h2 : (a.length : Int) - 1 - ((0 : Nat) : Int) = (a.length : Int) - 1 := by omega
    simp only [h0, h1, h2] at key
    exact key
  · intro k hk
    have hidx : (a.length : Int) - 1 - (k : Int) = ((a.length - 1 - k : Nat) : Int) := by omega
    have hnext : wrap64 (((a.length - 1 - k : Nat) : Int) - 1) = (a.length : Int) - 1 - ((k + 1 : Nat) : Int) := by rw [wrap64_id (by omega) (by omega)]; omega
    have hrep : List.replicate (a.length - k) (0 : Int) = List.replicate ((a.length - 1 - k) + 1) 0 := by congr 1; omega
    have hset : (List.replicate (a.length - k) 0 ++ dQ a Y k).set (a.length - 1 - k) ((a.getD (a.length - 1 - k) 0 + 1000000000 * (upA a k % Y)) / Y) = List.replicate (a.length - (k + 1)) 0 ++ dQ a Y (k + 1) := by
      rw [hrep, set_zeros, dQ, show a.length - (k + 1) = a.length - 1 - k by omega]
    have hblen : (List.replicate (a.length - k) (0 : Int) ++ dQ a Y k).length = a.length := by rw [List.length_append, List.length_replicate, dQ_len]; omega
    have hb := dQ_bound ha hY k
    have hd := ha.getD (a.length - 1 - k)
    have hr0 := Int.emod_nonneg (upA a k) (show Y ≠ 0 by omega)
    have hr1 := Int.emod_lt_of_pos (upA a k) hY
    have hmod := upA_mod a (Y := Y) k
    generalize hR : upA a k % Y = R at *
    generalize hV : a.getD (a.length - 1 - k) 0 + 1000000000 * R = V at *
    have hV0 : 0 ≤ V := by omega
    have hRl : (dig R.toNat).length ≤ 10000 := Nat.le_trans (dig_mono (by omega)) hl
    have hVl : (dig V.toNat).length ≤ 10001 := by
      refine Nat.le_trans (m := (dig Y.natAbs).length + 1) (dig_len ?_) (by omega)
      have q1 := dig_len_pw Y.natAbs
      simp only [pw]; omega
    have hdg : Dg ([a.getD (a.length - 1 - k) 0] ++ dig R.toNat) := Dg.append (fun x hx => by rw [List.mem_singleton] at hx; subst hx; exact hd) (dig_Dg _)
    have hf : f104 ([a.getD (a.length - 1 - k) 0] ++ dig R.toNat, ()) = some (dig V.toNat, ()) := by
      rw [f104_eq _ (by simp; omega) hdg]
      congr 3
      have : dval ([a.getD (a.length - 1 - k) 0] ++ dig R.toNat) = V := by
        show a.getD (a.length - 1 - k) 0 + 1000000000 * dval (dig R.toNat) = V
        rw [dig_dv]; omega
      rw [this]
    have hin : l94_2 (((a.length, a.length), (dig V.toNat, ((a.length - 1 - k : Nat) : Int), (0 : Int), (999999999 : Int), ())), ((s0, a, ()), (s1, dig Y.natAbs, ()), (z, ()), List.replicate (a.length - k) 0 ++ dQ a Y k, ())) =
        some (.inl (((a.length, a.length), (dig V.toNat, ((a.length - 1 - k : Nat) : Int), V / Y, ())), ((s0, a, ()), (s1, dig Y.natAbs, ()), (z, ()), List.replicate (a.length - k) 0 ++ dQ a Y k, ()))) :=
      it94 _ _ _ s0 s1 z a _ V Y hV0 hY hl (by omega) 999999999 0 999999999 rounds (by omega) (by omega) hb.1 (by omega) (by omega) (lt_rounds (by omega))
    have e1 : f90 (1, dig Y.natAbs, ()) = some (enc Y, ()) := by rw [enc_pos hY, f90_enc Y (by omega)]
    have e2 := f68_eq (V / Y) (by omega)
    have e3 := f71_one (x := Y) hl hb.1 hb.2
    have e4 := f98_rem V Y hV0 hY (by omega)
    rw [hidx]
    dsimp only
    simp only [s94_0, t94_0, Tr.val_test, Tr.val_fin, leF_eq, Int.toNat_natCast]
    rw [if_pos (by simp), if_pos (by simp; omega)]
    by_cases hR0 : R = 0
    · have hnil : dig R.toNat = [] := by rw [hR0]; exact dig_zero
      rw [hnil, List.append_nil] at hf
      rw [hnil]
      simp only [g104, hf, b94_2, hin, isBrk, outB, g90, e1, g68, e2, g71, e3, g98, e4, Option.isSome_some, Option.getD_some, if_true, Int.toNat_natCast, Nat.zero_add, hset, hnext, hmod, hblen]
      rw [if_pos (by simp), if_pos (by simp; omega), if_pos (by rw [ble_eq_true']; omega)]
    · have hne : (dig R.toNat).length ≠ 0 := fun t => by
        have := dig_nil.1 (List.eq_nil_of_length_eq_zero t); omega
      simp only [g104, hf, b94_2, hin, isBrk, outB, g90, e1, g68, e2, g71, e3, g98, e4, Option.isSome_some, Option.getD_some, if_true, Int.toNat_natCast, Nat.zero_add, hset, hnext, hmod, hblen]
      rw [if_neg (by rw [beq_eq_true']; omega), if_neg (by rw [ble_eq_true']; omega), if_pos (by simp; omega), if_pos (by rw [beq_eq_true']; simp; omega), if_pos (by simp; omega), if_pos (by rw [ble_eq_true']; omega)]
  · have e : (a.length : Int) - 1 - (a.length : Int) = -1 := by omega
    simp only [e, Nat.sub_self, List.replicate_zero, List.nil_append]
    simp [s94_0, t94_0, leF_eq]

theorem ediv_neg_floor {x Y : Int} (hY : 0 < Y) : x / Y = if (-x) % Y = 0 then -((-x) / Y) else -((-x) / Y) - 1 := by
  have h1 := Int.emod_add_mul_ediv (-x) Y
  have h2 := Int.emod_nonneg (-x) (show Y ≠ 0 by omega)
  have h3 := Int.emod_lt_of_pos (-x) hY
  split
  · rename_i h
    refine ((Int.ediv_emod_unique (r := 0) hY).2 ⟨?_, by omega, hY⟩).1
    rw [Int.mul_neg]; omega
  · refine ((Int.ediv_emod_unique (r := Y - (-x) % Y) hY).2 ⟨?_, by omega, by omega⟩).1
    rw [Int.mul_sub, Int.mul_neg]; omega

theorem f94_eq (x Y : Int) (hY : 0 < Y) (hl : (dig Y.natAbs).length ≤ 10000) (h : (dig x.natAbs).length ≤ 10000) : f94 (enc x, enc Y, ()) = some (enc (x / Y), ()) := by
  show f94 ((x.sign, dig x.natAbs, ()), (Y.sign, dig Y.natAbs, ()), ()) = _
  have hL := l94 x.sign Y.sign 0 (dig x.natAbs) Y (dig_Dg _) hY hl h
  have hup : upA (dig x.natAbs) (dig x.natAbs).length = (x.natAbs : Int) := by
    rw [upA_drop _ _ (Nat.le_refl _), Nat.sub_self, List.drop_zero, dig_dv]
  rw [hup] at hL
  have hdq := dQ_dv (dig x.natAbs) hY (dig x.natAbs).length
  rw [hup] at hdq
  have hw : wrap64 (((dig x.natAbs).length : Int) - 1) = ((dig x.natAbs).length : Int) - 1 := wrap64_id (by omega) (by omega)
  have hql := dQ_len (dig x.natAbs) Y (dig x.natAbs).length
  have hf : f90 (x.sign, dQ (dig x.natAbs) Y (dig x.natAbs).length, ()) = some (mkN x.sign ((x.natAbs : Int) / Y), ()) := by
    rw [f90_eq _ _ (by omega) (dQ_Dg (dig_Dg _) hY _), hdq]
  have h0 := Int.ediv_nonneg (show (0 : Int) ≤ (x.natAbs : Int) by omega) (show 0 ≤ Y by omega)
  have hle : (x.natAbs : Int) / Y ≤ x.natAbs := Int.ediv_le_self _ (by omega)
  simp only [f94, t94, Tr.val_test, Tr.val_fin, eqF_eq, leF_eq, hw, Int.toNat_natCast, b94_0, hL, isBrk, outB, if_true, g90, hf, hql, Option.isSome_some, Option.getD_some]
  rcases sgn_cases x with ⟨hx, e⟩ | ⟨hx, e⟩ | ⟨hx, e⟩
  · have ex : (x.natAbs : Int) = -x := by omega
    rw [if_neg (by rw [e]; simp), if_pos (by simp; omega), if_pos (by simp), if_pos (by rw [e]; simp)]
    have hm : mkN x.sign ((x.natAbs : Int) / Y) = enc (-((-x) / Y)) := mkN_eq (by rw [ex] at h0 ⊢; omega) fun hz => by
      rw [ex] at h0; rw [e, Int.sign_eq_neg_one_of_neg (by omega)]
    have hfl := ediv_neg_floor (x := x) hY
    have hr0 := Int.emod_nonneg (-x) (show Y ≠ 0 by omega)
    rw [hm, ex]
    by_cases hr : (-x) % Y = 0
    · rw [if_pos hr] at hfl
      rw [if_neg (by rw [hr]; simp [dig_zero]), hfl]
    · rw [if_neg hr] at hfl
      have hne : (dig ((-x) % Y).toNat).length ≠ 0 := fun t => by
        have := dig_nil.1 (List.eq_nil_of_length_eq_zero t); omega
      have e1 := f68_eq 1 (by decide)
      have hlq : (dig (-((-x) / Y)).natAbs).length ≤ 10000 := Nat.le_trans (dig_mono (by rw [ex] at h0 hle; omega)) h
      have e2 : f95 (((enc (-((-x) / Y))).1, (enc (-((-x) / Y))).2.1, ()), ((enc 1).1, (enc 1).2.1, ()), ()) = some (enc (-((-x) / Y) - 1), ()) := f95_eq _ 1 (by omega) (by have := dig_small (x := 1) (by omega) (by omega); omega)
      rw [if_pos (by simp only [Bool.not_eq_true', decide_eq_false_iff_not]; omega)]
      simp only [g68, e1, g95, e2, Option.isSome_some, Option.getD_some, if_true]
      rw [hfl]
  · subst hx
    rw [if_pos (by simp), Int.zero_ediv]; simp [enc, dig_zero]
  · have ex : (x.natAbs : Int) = x := by omega
    rw [if_neg (by rw [e]; simp), if_pos (by simp; omega), if_pos (by simp), if_neg (by rw [e]; simp)]
    rw [mkN_eq (z := x / Y) (by rw [ex] at h0 ⊢; omega) fun hz => by
      rw [ex] at h0; rw [e, Int.sign_eq_one_of_pos (by omega)]]

theorem pw_two : ∀ n, pw n ≤ (((2 ^ (30 * n) : Nat)) : Int)
  | 0 => by simp [pw]
  | n + 1 => by
    have := pw_two n
    have e : (2 : Nat) ^ (30 * (n + 1)) = 1073741824 * 2 ^ (30 * n) := by rw [Nat.mul_add, Nat.pow_add, Nat.mul_comm]
    rw [e, pw]
    omega

theorem mod_half {b r : Nat} (h0 : 0 < r) (h : r < b) : 2 * (b % r) < b := by
  have h1 := Nat.mod_lt b h0
  have h2 := Nat.div_add_mod b r
  have h3 : 1 ≤ b / r := (Nat.one_le_div_iff h0).2 (Nat.le_of_lt h)
  have h4 : r * 1 ≤ r * (b / r) := Nat.mul_le_mul_left r h3
  omega

theorem s93_step (a b : Nat) (z : Int) (hb : b ≠ 0) (h1 : (dig a).length ≤ 10000) (h2 : (dig b).length ≤ 10000) :
    s93_0 ((), (((a : Int).sign, dig a, ()), ((b : Int).sign, dig b, ()), (z, ()), ())) = some (.again ((), (((b : Int).sign, dig b, ()), (((a % b : Nat) : Int).sign, dig (a % b), ()), (z, ()), ()))) := by
  have e0 : f91 (((b : Int).sign, dig b, ()), ()) = some ((b : Int).sign, ()) := rfl
  have e1 : f94 (((a : Int).sign, dig a, ()), ((b : Int).sign, dig b, ()), ()) = some (enc ((a : Int) / (b : Int)), ()) := f94_eq a b (by omega) h2 h1
  have hd : (dig ((a : Int) / (b : Int)).natAbs).length ≤ 10000 := Nat.le_trans (dig_mono (by
    have : ((a : Int) / (b : Int)).natAbs = a / b := by rw [← Int.natCast_ediv]; rfl
    rw [this]; exact Nat.div_le_self _ _)) h1
  have e2 : f71 (((enc ((a : Int) / (b : Int))).1, (enc ((a : Int) / (b : Int))).2.1, ()), ((b : Int).sign, dig b, ()), ()) = some (enc ((a : Int) / (b : Int) * (b : Int)), ()) := f71_eq _ b (by simp only [Int.natAbs_natCast]; omega)
  have hm := Int.emod_add_mul_ediv (a : Int) b
  have hle : 0 ≤ (a : Int) / (b : Int) * (b : Int) := Int.mul_nonneg (Int.ediv_nonneg (by omega) (by omega)) (by omega)
  have hmn := Int.emod_nonneg (a : Int) (show (b : Int) ≠ 0 by omega)
  have hcm : (a : Int) / (b : Int) * (b : Int) = (b : Int) * ((a : Int) / (b : Int)) := Int.mul_comm _ _
  have e3 : f95 (((a : Int).sign, dig a, ()), ((enc ((a : Int) / (b : Int) * (b : Int))).1, (enc ((a : Int) / (b : Int) * (b : Int))).2.1, ()), ()) = some (enc ((a % b : Nat) : Int), ()) := by
    have h := f95_eq a ((a : Int) / (b : Int) * (b : Int)) (by simp only [Int.natAbs_natCast]; omega) (Nat.le_trans (dig_mono (n := a) (by omega)) (by omega))
    rw [show (a : Int) - (a : Int) / (b : Int) * (b : Int) = ((a % b : Nat) : Int) by rw [Int.natCast_emod]; omega] at h
    exact h
  have hs : (b : Int).sign = 1 := Int.sign_eq_one_of_pos (by omega)
  simp only [s93_0, t93_0, g91, e0, g94, e1, g71, e2, g95, e3, Option.isSome_some, Option.getD_some, Tr.val_test, Tr.val_fin, eqF_eq, if_true]
  rw [if_pos (by rw [hs]; simp)]
  rfl

theorem s93_end (a : Nat) (z : Int) : s93_0 ((), (((a : Int).sign, dig a, ()), (((0 : Nat) : Int).sign, dig 0, ()), (z, ()), ())) = some (.brk ((), (((a : Int).sign, dig a, ()), (((0 : Nat) : Int).sign, dig 0, ()), (z, ()), ()))) := by
  have e0 : f91 ((((0 : Nat) : Int).sign, dig 0, ()), ()) = some (((0 : Nat) : Int).sign, ()) := rfl
  simp only [s93_0, t93_0, g91, e0, Option.isSome_some, Option.getD_some, Tr.val_test, Tr.val_fin, eqF_eq, if_true]
  rw [if_neg (by simp)]

theorem it93 (z : Int) : ∀ (k a b m : Nat), b < 2 ^ k → (dig a).length ≤ 10000 → (dig b).length ≤ 10000 → 2 * k < m →
    itr s93_0 m ((), (((a : Int).sign, dig a, ()), ((b : Int).sign, dig b, ()), (z, ()), ())) =
      some (.inl ((), (((Nat.gcd a b : Nat) : Int).sign, dig (Nat.gcd a b), ()), (((0 : Nat) : Int).sign, dig 0, ()), (z, ()), ()))
  | k, a, b, m, h, h1, h2, hm => by
    obtain ⟨m, rfl⟩ : ∃ j, m = j + 1 := ⟨m - 1, by omega⟩
    by_cases hb : b = 0
    · subst hb
      rw [itr, s93_end, Nat.gcd_zero_right]
    · rw [itr, s93_step a b z hb h1 h2]
      dsimp only
      have hr := Nat.mod_lt a (Nat.pos_of_ne_zero hb)
      have hrl : (dig (a % b)).length ≤ 10000 := Nat.le_trans (dig_mono (Nat.le_of_lt hr)) h2
      have hg : Nat.gcd a b = Nat.gcd b (a % b) := by rw [Nat.gcd_comm, Nat.gcd_rec, Nat.gcd_comm]
      obtain ⟨m, rfl⟩ : ∃ j, m = j + 1 := ⟨m - 1, by
        cases k with
        | zero => simp at h; omega
        | succ k => omega⟩
      by_cases hr0 : a % b = 0
      · rw [hg, hr0, itr, s93_end, Nat.gcd_zero_right]
      · rw [itr, s93_step b (a % b) z hr0 h2 hrl]
        dsimp only
        have hh := mod_half (Nat.pos_of_ne_zero hr0) hr
        have hg2 : Nat.gcd b (a % b) = Nat.gcd (a % b) (b % (a % b)) := by rw [Nat.gcd_comm, Nat.gcd_rec, Nat.gcd_comm]
        cases k with
        | zero => simp at h; omega
        | succ k =>
          rw [hg, hg2]
          have h3 := Nat.mod_lt b (Nat.pos_of_ne_zero hr0)
          exact it93 z k (a % b) (b % (a % b)) m (by rw [Nat.pow_succ] at h; omega) hrl (Nat.le_trans (dig_mono (by omega)) hrl) (by omega)

theorem f93_eq (x y : Int) (h1 : (dig x.natAbs).length ≤ 10000) (h2 : (dig y.natAbs).length ≤ 10000) : f93 (enc x, enc y, ()) = some (enc (Nat.gcd x.natAbs y.natAbs : Nat), ()) := by
  have e0 : f105 ((x.sign, dig x.natAbs, ()), ()) = some (enc x.natAbs, ()) := f105_eq x
  have e1 : f105 ((y.sign, dig y.natAbs, ()), ()) = some (enc y.natAbs, ()) := f105_eq y
  have hlt : y.natAbs < 2 ^ (30 * (dig y.natAbs).length) := by
    have q1 := dig_len_pw y.natAbs
    have q2 := pw_two (dig y.natAbs).length
    omega
  have hl : l93_0 ((), (((enc x.natAbs).1, (enc x.natAbs).2.1, ()), ((enc y.natAbs).1, (enc y.natAbs).2.1, ()), ((0 : Int), ()), ())) =
      some (.inl ((), (((Nat.gcd x.natAbs y.natAbs : Nat) : Int).sign, dig (Nat.gcd x.natAbs y.natAbs), ()), (((0 : Nat) : Int).sign, dig 0, ()), ((0 : Int), ()), ())) :=
    it93 0 _ x.natAbs y.natAbs rounds hlt h1 h2 (lt_rounds (by omega))
  show f93 ((x.sign, dig x.natAbs, ()), (y.sign, dig y.natAbs, ()), ()) = _
  simp only [f93, t93, g105, e0, e1, b93_0, hl, Option.isSome_some, Option.getD_some, Tr.val_test, Tr.val_fin, isBrk, outB, if_true]
  rfl

def encR (r : Rat) : (Int × List Int × PUnit) × (Int × List Int × PUnit) × PUnit := (enc r.num, enc (r.den : Int), ())

def rsz (r : Rat) (n : Nat) : Prop := (dig r.num.natAbs).length ≤ n ∧ (dig r.den).length ≤ n

theorem len_mul (m n : Nat) : (dig (m * n)).length ≤ (dig m).length + (dig n).length := dig_len (by
  have h1 := dig_len_pw m; have h2 := dig_len_pw n
  rw [pw_add, Int.natCast_mul]
  rcases Nat.eq_zero_or_pos n with h | h
  · subst h
    have := pw_pos (dig m).length; have := pw_pos (dig 0).length
    have := Int.mul_pos (pw_pos (dig m).length) (pw_pos (dig 0).length)
    simpa using this
  · exact Int.lt_of_lt_of_le (Int.mul_lt_mul_of_pos_right h1 (by omega)) (Int.mul_le_mul_of_nonneg_left (Int.le_of_lt h2) (Int.le_of_lt (pw_pos _))))

theorem len_add (x y : Int) {k : Nat} (h1 : (dig x.natAbs).length ≤ k) (h2 : (dig y.natAbs).length ≤ k) : (dig (x + y).natAbs).length ≤ k + 1 := dig_len (by
  have q1 := dig_len_pw x.natAbs; have q2 := dig_len_pw y.natAbs
  have q3 : pw (dig x.natAbs).length ≤ pw k := pw_le h1
  have q4 : pw (dig y.natAbs).length ≤ pw k := pw_le h2
  simp only [pw]; omega)

theorem len_imul (x y : Int) : (dig (x * y).natAbs).length ≤ (dig x.natAbs).length + (dig y.natAbs).length := by rw [Int.natAbs_mul]; exact len_mul _ _

theorem f69_eq (x : Int) (y : Nat) (hy : y ≠ 0) (h1 : (dig x.natAbs).length ≤ 10000) (h2 : (dig y).length ≤ 10000) : f69 (enc x, enc (y : Int), ()) = some (encR (Rat.normalize x y hy), ()) := by
  have hs : (y : Int).sign = 1 := Int.sign_eq_one_of_pos (by omega)
  have e0 : f91 (((y : Int).sign, dig (y : Int).natAbs, ()), ()) = some ((y : Int).sign, ()) := rfl
  have e1 : f93 ((x.sign, dig x.natAbs, ()), ((y : Int).sign, dig (y : Int).natAbs, ()), ()) = some (enc (Nat.gcd x.natAbs y : Nat), ()) := f93_eq x y h1 h2
  have e2 := f68_eq 1 (by decide)
  have hg : 0 < Nat.gcd x.natAbs y := Nat.gcd_pos_of_pos_right _ (by omega)
  have hgl : (dig (Nat.gcd x.natAbs y)).length ≤ 10000 := Nat.le_trans (dig_mono (Nat.gcd_le_right _ (by omega))) h2
  have hnum : (Rat.normalize x y hy).num = x / ((Nat.gcd x.natAbs y : Nat) : Int) := by rw [Rat.normalize_eq]
  have hden : (Rat.normalize x y hy).den = y / Nat.gcd x.natAbs y := by rw [Rat.normalize_eq]
  generalize hgg : Nat.gcd x.natAbs y = g at *
  have e3 : f70 (((enc (g : Nat)).1, (enc (g : Nat)).2.1, ()), ((enc 1).1, (enc 1).2.1, ()), ()) = some (((g : Int) - 1).sign, ()) := f70_eq (g : Int) 1 (by simp only [Int.natAbs_natCast]; omega) (by have := dig_small (x := 1) (by omega) (by omega); omega)
  have e4 : f94 ((x.sign, dig x.natAbs, ()), ((enc (g : Nat)).1, (enc (g : Nat)).2.1, ()), ()) = some (enc (x / (g : Int)), ()) := f94_eq x g (by omega) hgl h1
  have e5 : f94 (((y : Int).sign, dig (y : Int).natAbs, ()), ((enc (g : Nat)).1, (enc (g : Nat)).2.1, ()), ()) = some (enc ((y : Int) / (g : Int)), ()) := f94_eq y g (by omega) hgl h2
  show f69 ((x.sign, dig x.natAbs, ()), ((y : Int).sign, dig (y : Int).natAbs, ()), ()) = _
  simp only [f69, t69, g91, e0, g93, e1, g68, e2, g70, e3, Option.isSome_some, Option.getD_some, Tr.val_test, Tr.val_fin, leF_eq, eqF_eq, if_true]
  rw [if_neg (by rw [hs]; simp)]
  by_cases h : g = 1
  · subst h
    rw [if_pos (by simp), encR, hnum, hden]
    simp [enc]
  · rw [if_neg (by rw [Int.sign_eq_one_of_pos (by omega)]; simp)]
    simp only [g94, e4, e5, Option.isSome_some, Option.getD_some, if_true]
    rw [encR, hnum, hden, Int.natCast_ediv]

theorem f33_eq (x : Int) (h : x.natAbs ≤ 9223372036854775807) : f33 (x, ()) = some (encR (x : Rat), ()) := by
  have e1 := f68_eq x h
  have e2 := f68_eq 1 (by decide)
  simp only [f33, t33, g68, e1, e2, Option.isSome_some, Option.getD_some, Tr.val_test, Tr.val_fin, if_true]
  rfl

theorem f34_eq (x : Int) (y : Nat) (hy : y ≠ 0) (h : x.natAbs ≤ 9223372036854775807) (h2 : y ≤ 9223372036854775807) : f34 (x, (y : Int), ()) = some (encR (Rat.normalize x y hy), ()) := by
  have e1 := f68_eq x h
  have e2 := f68_eq (y : Int) (by omega)
  have e3 : f69 (((enc x).1, (enc x).2.1, ()), ((enc (y : Int)).1, (enc (y : Int)).2.1, ()), ()) = some (encR (Rat.normalize x y hy), ()) := f69_eq x y hy
    (Nat.le_trans (dig_len (k := 3) (by simp only [pw]; omega)) (by omega)) (Nat.le_trans (dig_len (k := 3) (by simp only [pw]; omega)) (by omega))
  simp only [f34, t34, g68, e1, e2, g69, e3, Option.isSome_some, Option.getD_some, Tr.val_test, Tr.val_fin, if_true]

theorem f36_eq (r s : Rat) (hr : rsz r 2000) (hs : rsz s 2000) : f36 (encR r, encR s, ()) = some (encR (r + s), ()) := by
  obtain ⟨r1, r2⟩ := hr
  obtain ⟨s1, s2⟩ := hs
  have m1 := len_imul r.num (s.den : Int)
  have m2 := len_imul s.num (r.den : Int)
  have m3 := len_mul r.den s.den
  simp only [Int.natAbs_natCast] at m1 m2
  have m4 := len_add (r.num * (s.den : Int)) (s.num * (r.den : Int)) (k := 4000) (by omega) (by omega)
  have e1 : f71 ((r.num.sign, dig r.num.natAbs, ()), ((s.den : Int).sign, dig s.den, ()), ()) = some (enc (r.num * (s.den : Int)), ()) := f71_eq _ _ (by simp only [Int.natAbs_natCast]; omega)
  have e2 : f71 ((s.num.sign, dig s.num.natAbs, ()), ((r.den : Int).sign, dig r.den, ()), ()) = some (enc (s.num * (r.den : Int)), ()) := f71_eq _ _ (by simp only [Int.natAbs_natCast]; omega)
  have e3 : f72 (((enc (r.num * (s.den : Int))).1, (enc (r.num * (s.den : Int))).2.1, ()), ((enc (s.num * (r.den : Int))).1, (enc (s.num * (r.den : Int))).2.1, ()), ()) = some (enc (r.num * (s.den : Int) + s.num * (r.den : Int)), ()) := f72_eq _ _ (by omega) (by omega)
  have e4 : f71 (((r.den : Int).sign, dig r.den, ()), ((s.den : Int).sign, dig s.den, ()), ()) = some (enc ((r.den * s.den : Nat) : Int), ()) := by
    rw [Int.natCast_mul]; exact f71_eq (r.den : Int) (s.den : Int) (by simp only [Int.natAbs_natCast]; omega)
  have e5 : f69 (((enc (r.num * (s.den : Int) + s.num * (r.den : Int))).1, (enc (r.num * (s.den : Int) + s.num * (r.den : Int))).2.1, ()), ((enc ((r.den * s.den : Nat) : Int)).1, (enc ((r.den * s.den : Nat) : Int)).2.1, ()), ()) = some (encR (r + s), ()) := by
    rw [Rat.add_def]; exact f69_eq _ _ _ (by omega) (by omega)
  show f36 (((r.num.sign, dig r.num.natAbs, ()), ((r.den : Int).sign, dig r.den, ()), ()), ((s.num.sign, dig s.num.natAbs, ()), ((s.den : Int).sign, dig s.den, ()), ()), ()) = _
  simp only [f36, t36, g71, e1, e2, g72, e3, e4, g69, e5, Option.isSome_some, Option.getD_some, Tr.val_test, Tr.val_fin, if_true]

theorem f51_eq (l : List Int) (h : l.length ≤ 1000) (h0 : 0 < l.length) : f51 (l, ()) = some (l, ()) := by
  simp only [f51, t51, Tr.val_test, Tr.val_fin, Tr.val_stop, List.nil_append, Nat.zero_add]
  rw [if_neg (by simp; intro h; rw [h] at h0; simp at h0), if_neg (by simp; intro h; rw [h] at h0; simp at h0), if_pos (by simp [Nat.ble_eq]; omega), if_pos (by simp)]

theorem f30_eq (l : List Int) (h : l.length ≤ 1000) : f30 (l, ()) = some (l, ()) := by
  rcases Nat.eq_zero_or_pos l.length with h0 | h0
  · have : l = [] := List.length_eq_zero_iff.1 h0
    subst this
    rfl
  · simp only [f30, t30, Tr.val_test, Tr.val_fin, Tr.val_stop, List.nil_append, Nat.zero_add]
    rw [if_neg (by simp; intro h; rw [h] at h0; simp at h0), if_neg (by simp; intro h; rw [h] at h0; simp at h0), if_pos (by simp [Nat.ble_eq]; omega), if_pos (by simp)]

theorem f10_eq (m k : List Int) (h : m.length ≤ 1000) (h2 : k.length ≤ 1000) : f10 ((m, (k, ())), ()) = some ((m, (k, ())), ()) := by
  have e1 := f30_eq m h
  have e2 := f30_eq k h2
  simp only [f10, t10, g30, e1, e2, Option.isSome_some, Option.getD_some, Tr.val_test, Tr.val_fin, if_true]

theorem firstNZ_zero {a b : Int} (ha : a = 0) (hb : b = 0) : firstNZ [a, b] = 0 := by subst ha hb; rfl

/-- A square that may be asked for. -/
structure Sq (p q : Int) : Prop where
  pos : 0 < q
  den : q ≤ 100
  lo : -100 ≤ p
  hi : p ≤ 100
  low : Int.gcd p q = 1

theorem Sq.bd {p q : Int} (h : Sq p q) : St.bd p q ≤ 42500 := by
  have h1 := h.pos; have h2 := h.den; have h3 := h.lo; have h4 := h.hi
  unfold St.bd; omega

theorem norm_size {x : Int} {y : Nat} (hy : y ≠ 0) {n : Nat} (h1 : (dig x.natAbs).length ≤ n) (h2 : (dig y).length ≤ n) : rsz (Rat.normalize x y hy) n := by
  rw [Rat.normalize_eq]
  constructor
  · refine Nat.le_trans (dig_mono ?_) h1
    have h : ((x.natAbs.gcd y : Nat) : Int) ∣ x := Int.ofNat_dvd_left.2 (Nat.gcd_dvd_left _ _)
    show (x / ((x.natAbs.gcd y : Nat) : Int)).natAbs ≤ _
    rw [← Int.tdiv_eq_ediv_of_dvd h]
    exact tdiv_abs_le _ _
  · exact Nat.le_trans (dig_mono (Nat.div_le_self _ _)) h2

end Go.Vm.Mo

namespace Go.Vm.Mo
open Go
set_option linter.unusedVariables false
set_option linter.unusedSimpArgs false

theorem l46_ok {m k : List Int} (hf : St.Fr m k) : l46_0 ((m, ((m.length : Int), ((0 : Int), ()))), ((m, (k, ())), ())) = some (.inl ((), ((m, (k, ())), ()))) := by
  have h4 := hf.top
  have hl := hf.len
  refine itr_brk (step := s46_0) (fun i => ((m, ((m.length : Int), ((i : Int), ()))), ((m, (k, ())), ()))) (n := m.length) ?_ ?_ (lt_rounds (by omega))
  · intro i hi
    have hm := hf.mass i (by omega)
    have hk := hf.spring i (by omega)
    have e1 := f48_one 1 10 (St.gt m i)
    have e2 := f48_one 1 20 (St.gt k i)
    rw [show wi 1 10 (St.gt m i) = true from wi_iff.2 hm] at e1
    rw [show wi 1 20 (St.gt k i) = true from wi_iff.2 hk] at e2
    simp only [s46_0, t46_0, Tr.val_test, Tr.val_fin, Tr.val_stop, leF_eq, eqF_eq, Int.toNat_natCast, show m.getD i 0 = St.gt m i from rfl, show k.getD i 0 = St.gt k i from rfl, g48, e1, e2, g45, Bool.not_true, f45_eq (false, ((2 : Int), ())), Option.isSome_some, Option.getD_some, if_true, wrap64_nat (show i ≤ 9223372036854775806 by omega), Bool.false_eq_true, if_false]
    rw [if_pos (by simp; omega), if_pos (by simp; omega), if_pos (by simp; omega)]
    rfl
  · simp only [s46_0, t46_0, Tr.val_test, Tr.val_fin, Tr.val_stop, leF_eq]
    rw [if_neg (by simp)]

theorem f9_ok {m k : List Int} (hf : St.Fr m k) : f9 ((m, (k, ())), ()) = some (0, (0, ())) := by
  have h4 := hf.top
  have hl := hf.len
  have h0 := hf.pos
  have e := l46_ok hf
  have e2 := f44_eq [0, 0] (by decide)
  rw [firstNZ_zero rfl rfl] at e2
  have c1 : (!eqF (k.length : Int) (m.length : Int)) = false := by rw [eqF_eq, hl]; simp
  have c2 : (!leF (m.length : Int) 4) = false := by rw [leF_eq]; simp; omega
  have c3 : eqF (m.length : Int) 0 = false := by rw [eqF_eq]; simp; intro h; rw [h] at hl; simp at hl; omega
  simp only [f9, t9, Tr.val_test, Tr.val_fin, Tr.val_stop, c1, c2, c3, Bool.false_eq_true, if_false, g45, f45_eq (false, ((10 : Int), ())), f45_eq (false, ((8 : Int), ())), Option.isSome_some, Option.getD_some, if_true, g44, e2, e, isRet]
  simp [eqF_eq]

theorem f49_ok {m k : List Int} (hf : St.Fr m k) : f49 ((m, (k, ())), (([] : List Int), ())) = some (((m, (k, ())), ()), (0, ())) := by
  have e := f9_ok hf
  have e1 := f44_eq [] (by decide)
  rw [show firstNZ [] = 0 from rfl] at e1
  have e2 := f44_eq [0, 0] (by decide)
  rw [firstNZ_zero rfl rfl] at e2
  simp only [f49, t49, g9, e, g44, e1, e2, Tr.val_test, Tr.val_fin, Tr.val_stop, Option.isSome_some, Option.getD_some, if_true]
  simp [eqF_eq]

/-- One that is not valid. -/
def frBad (m k : List Int) (i : Nat) : Bool := !wi 1 10 (St.gt m i) || !wi 1 20 (St.gt k i)

theorem l13_eq {m k : List Int} (hl : k.length = m.length) (h : m.length ≤ 4) : l13_0 (((0 : Int), ()), ((m, (k, ())), ())) = match first (frBad m k) m.length 0 with
    | some i => some (.inr (((i : Int), ((2 : Int), ())), ((m, (k, ())), ())))
    | none => some (.inl ((), ((m, (k, ())), ()))) := by
  refine itr_search (fun i => (((i : Int), ()), ((m, (k, ())), ()))) (frBad m k) (fun i => (((i : Int), ((2 : Int), ())), ((m, (k, ())), ()))) (n := m.length) ?_ ?_ (lt_rounds (by omega))
  · intro i hi
    simp only [s13_0, t13_0, Tr.val_test, Tr.val_fin, Tr.val_stop, leF_eq, Int.toNat_natCast, wrap64_nat (show i ≤ 9223372036854775806 by omega), show m.getD i 0 = St.gt m i from rfl, show k.getD i 0 = St.gt k i from rfl, g18, f18_eq (St.gt m i, ((1 : Int), ((10 : Int), ()))), f18_eq (St.gt k i, ((1 : Int), ((20 : Int), ()))), Option.isSome_some, Option.getD_some, if_true, frBad]
    rw [if_pos (by simp; omega), if_pos (by simp; omega)]
    have hc : (decide ((0 : Int) ≤ (i : Int)) && decide ((i : Int) < (k.length : Int))) = true := by simp; omega
    rcases Bool.eq_false_or_eq_true (wi 1 10 (St.gt m i)) with h1 | h1
    · rcases Bool.eq_false_or_eq_true (wi 1 20 (St.gt k i)) with h2 | h2
      · simp only [h1, h2, hc, Bool.not_true, Bool.or_self, Bool.false_eq_true, if_false, if_true]
      · simp only [h1, h2, hc, Bool.not_true, Bool.not_false, Bool.or_true, Bool.false_eq_true, if_false, if_true]
    · simp only [h1, Bool.not_false, Bool.true_or, if_true]
  · simp only [s13_0, t13_0, Tr.val_test, Tr.val_fin, Tr.val_stop, leF_eq]
    rw [if_neg (by simp)]

/-- Which storey, and the error. -/
def chkE (m k : List Int) : Int × Int := if m.length = 0 then (0, 10) else if k.length = m.length then (if m.length ≤ 4 then (match first (frBad m k) m.length 0 with
  | some i => ((i : Int), 2)
  | none => (0, 0)) else (0, 8)) else (0, 10)

theorem chkE_ok {m k : List Int} (h : (chkE m k).2 = 0) : St.Fr m k := by
  unfold chkE at h
  split at h
  · simp at h
  · rename_i c0
    split at h
    · rename_i c1
      split at h
      · rename_i c2
        split at h
        · simp at h
        · rename_i hc
          have hb : ∀ i, i < k.length → wi 1 10 (St.gt m i) = true ∧ wi 1 20 (St.gt k i) = true := by
            intro i hi
            have := first_none hc i (by omega) (by omega)
            unfold frBad at this
            cases h1 : wi 1 10 (St.gt m i) <;> cases h2 : wi 1 20 (St.gt k i) <;> rw [h1, h2] at this <;> simp at this ⊢
          exact ⟨by omega, c1.symm, by omega, fun i hi => wi_iff.1 (hb i hi).1, fun i hi => wi_iff.1 (hb i hi).2⟩
      · simp at h
    · simp at h

theorem chkE_one (m k : List Int) : (chkE m k).2 = 0 → (chkE m k).1 = 0 := by
  unfold chkE
  split
  · simp
  · split
    · split
      · split <;> simp
      · simp
    · simp

theorem f13_all (m k : List Int) : f13 ((m, (k, ())), ()) = some ((chkE m k).1, ((chkE m k).2, ())) := by
  unfold chkE
  by_cases c0 : m.length = 0
  · rw [if_pos c0]
    simp only [f13, t13, Tr.val_test, Tr.val_fin, eqF_eq]
    rw [if_pos (by simpa using c0)]
  · rw [if_neg c0]
    by_cases c1 : k.length = m.length
    · rw [if_pos c1]
      by_cases c2 : m.length ≤ 4
      · rw [if_pos c2]
        have e := l13_eq c1 c2
        cases hc : first (frBad m k) m.length 0 with
        | some i =>
          rw [hc] at e
          simp only [f13, t13, Tr.val_test, Tr.val_fin, Tr.val_stop, eqF_eq, leF_eq, e, isRet, r13_0, outR, Option.isSome_some, if_true]
          rw [if_neg (by simpa using c0), if_neg (by simp; omega), if_neg (by simp; omega)]
        | none =>
          rw [hc] at e
          simp only [f13, t13, Tr.val_test, Tr.val_fin, Tr.val_stop, eqF_eq, leF_eq, e, isRet, Option.isSome_some, if_true]
          rw [if_neg (by simpa using c0), if_neg (by simp; omega), if_neg (by simp; omega)]
          rfl
      · rw [if_neg c2]
        simp only [f13, t13, Tr.val_test, Tr.val_fin, eqF_eq, leF_eq]
        rw [if_neg (by simpa using c0), if_neg (by simp; omega), if_pos (by simp; omega)]
    · rw [if_neg c1]
      simp only [f13, t13, Tr.val_test, Tr.val_fin, eqF_eq, leF_eq]
      rw [if_neg (by simpa using c0), if_pos (by simp; omega)]

theorem l46_all {m k : List Int} (hl : k.length = m.length) (h : m.length ≤ 4) : l46_0 ((m, ((m.length : Int), ((0 : Int), ()))), ((m, (k, ())), ())) = match first (frBad m k) m.length 0 with
    | some i => some (.inr (((i : Int), ((2 : Int), ())), ((m, (k, ())), ())))
    | none => some (.inl ((), ((m, (k, ())), ()))) := by
  refine itr_search (fun i => ((m, ((m.length : Int), ((i : Int), ()))), ((m, (k, ())), ()))) (frBad m k) (fun i => (((i : Int), ((2 : Int), ())), ((m, (k, ())), ()))) (n := m.length) ?_ ?_ (lt_rounds (by omega))
  · intro i hi
    have hc : (decide ((0 : Int) ≤ (i : Int)) && decide ((i : Int) < (k.length : Int))) = true := by simp; omega
    have hc2 : (decide ((0 : Int) ≤ (i : Int)) && decide ((i : Int) < (m.length : Int))) = true := by simp; omega
    have hc3 : (!decide ((m.length : Int) ≤ (i : Int))) = true := by simp; omega
    have n2 : (!decide ((2 : Int) = 0)) = true := by decide
    have n0 : (!decide ((0 : Int) = 0)) = false := by decide
    simp only [s46_0, t46_0, Tr.val_test, Tr.val_fin, Tr.val_stop, leF_eq, eqF_eq, Int.toNat_natCast, hc, hc2, hc3, show m.getD i 0 = St.gt m i from rfl, show k.getD i 0 = St.gt k i from rfl, g48, f48_one 1 10 (St.gt m i), f48_one 1 20 (St.gt k i), Option.isSome_some, Option.getD_some, if_true, wrap64_nat (show i ≤ 9223372036854775806 by omega), frBad]
    rcases Bool.eq_false_or_eq_true (wi 1 10 (St.gt m i)) with h1 | h1
    · rcases Bool.eq_false_or_eq_true (wi 1 20 (St.gt k i)) with h2 | h2
      · simp only [h1, h2, g45, f45_eq (false, ((2 : Int), ())), n0, Bool.not_true, Bool.or_self, Bool.false_eq_true, if_false, if_true, Option.isSome_some, Option.getD_some]
        rfl
      · simp only [h1, h2, g45, f45_eq (true, ((2 : Int), ())), n2, Bool.not_true, Bool.not_false, Bool.or_true, Bool.false_eq_true, if_false, if_true, Option.isSome_some, Option.getD_some]
    · simp only [h1, g45, f45_eq (true, ((2 : Int), ())), n2, Bool.not_false, Bool.true_or, if_true, Option.isSome_some, Option.getD_some]
  · simp only [s46_0, t46_0, Tr.val_test, Tr.val_fin, Tr.val_stop, leF_eq]
    rw [if_neg (by simp)]

theorem f9_all (m k : List Int) : f9 ((m, (k, ())), ()) = some ((chkE m k).1, ((chkE m k).2, ())) := by
  have n0 : (!eqF (0 : Int) 0) = false := by rw [eqF_eq]; rfl
  have n8 : (!eqF (8 : Int) 0) = true := by rw [eqF_eq]; rfl
  have n10 : (!eqF (10 : Int) 0) = true := by rw [eqF_eq]; rfl
  have z1 : ∀ b : Int, f44 ([10, b], ()) = some (10, ()) := fun b => f44_eq [10, b] (by simp)
  have z2 : f44 ([0, 8], ()) = some (8, ()) := f44_eq [0, 8] (by decide)
  have z3 : f44 ([0, 0], ()) = some (0, ()) := f44_eq [0, 0] (by decide)
  unfold chkE
  by_cases c0 : m.length = 0
  · rw [if_pos c0]
    have hm : m = [] := List.length_eq_zero_iff.1 c0
    subst hm
    simp only [f9, t9, Tr.val_test, Tr.val_fin, g45, f45_eq (true, ((10 : Int), ())), f45_eq ((!leF (([] : List Int).length : Int) 4), ((8 : Int), ())), g44, Option.isSome_some, Option.getD_some, if_true, z1, n10]
    rfl
  · have b0 : eqF (m.length : Int) 0 = false := by rw [eqF_eq]; simpa using c0
    rw [if_neg c0]
    by_cases c1 : k.length = m.length
    · rw [if_pos c1]
      have b1 : (!eqF (k.length : Int) (m.length : Int)) = false := by rw [eqF_eq, c1]; simp
      by_cases c2 : m.length ≤ 4
      · rw [if_pos c2]
        have b2 : (!leF (m.length : Int) 4) = false := by rw [leF_eq]; simp; omega
        have e := l46_all c1 c2
        cases hc : first (frBad m k) m.length 0 with
        | some i =>
          rw [hc] at e
          simp only [f9, t9, Tr.val_test, Tr.val_fin, Tr.val_stop, b0, b1, b2, g45, f45_eq (false, ((10 : Int), ())), f45_eq (false, ((8 : Int), ())), Bool.false_eq_true, if_false, g44, z3, n0, e, isRet, r46_0, outR, Option.isSome_some, Option.getD_some, if_true]
        | none =>
          rw [hc] at e
          simp only [f9, t9, Tr.val_test, Tr.val_fin, Tr.val_stop, b0, b1, b2, g45, f45_eq (false, ((10 : Int), ())), f45_eq (false, ((8 : Int), ())), Bool.false_eq_true, if_false, g44, z3, n0, e, isRet, Option.isSome_some, Option.getD_some, if_true]
      · rw [if_neg c2]
        have b2 : (!leF (m.length : Int) 4) = true := by rw [leF_eq]; simp; omega
        simp only [f9, t9, Tr.val_test, Tr.val_fin, Tr.val_stop, b0, b1, b2, g45, f45_eq (false, ((10 : Int), ())), f45_eq (true, ((8 : Int), ())), Bool.false_eq_true, if_false, g44, z2, n8, Option.isSome_some, Option.getD_some, if_true]
    · rw [if_neg c1]
      have b1 : (!eqF (k.length : Int) (m.length : Int)) = true := by rw [eqF_eq]; simp; omega
      simp only [f9, t9, Tr.val_test, Tr.val_fin, Tr.val_stop, b0, b1, g45, f45_eq (true, ((10 : Int), ())), f45_eq ((!leF (m.length : Int) 4), ((8 : Int), ())), Bool.false_eq_true, if_false, g44, z1, n10, Option.isSome_some, Option.getD_some, if_true]

theorem f54_eq {m k : List Int} (hf : St.Fr m k) {i : Nat} (hi : i < k.length) : f54 ((m, (k, ())), ((i : Int), ())) = some (St.stf k i, ()) := by
  have h4 := hf.top
  have h1 := hf.spring i hi
  simp only [f54, t54, Tr.val_test, Tr.val_fin, Tr.val_stop, leF_eq, wrap64_nat (show i ≤ 9223372036854775806 by omega), Int.toNat_natCast]
  unfold St.stf
  by_cases c : i + 1 = k.length
  · rw [if_neg (by simp; omega), if_pos (by simp; omega), if_pos c]
    rfl
  · have h2 := hf.spring (i + 1) (by omega)
    rw [if_pos (by simp; omega), if_pos (by simp; omega), if_pos (by simp; omega), if_neg c]
    rw [show k.getD i 0 = St.gt k i from rfl, show k.getD (i + 1) 0 = St.gt k (i + 1) from rfl, wr_abs (by omega)]

theorem l77p_eq {m k : List Int} (hf : St.Fr m k) :
    l77_0 ((m, ((m.length : Int), ((0 : Int), ()))), ((), ((m, (k, ())), (pd m k 0, (pd m k 1, (pd m k 0, ())))))) =
      some (.inl ((), ((), ((m, (k, ())), (pd m k k.length, (pd m k (k.length + 1), (pd m k k.length, ()))))))) := by
  have h4 := hf.top
  have hl := hf.len
  refine itr_brk (step := s77_0) (fun i => ((m, ((m.length : Int), ((i : Int), ()))), ((), ((m, (k, ())), (pd m k i, (pd m k (i + 1), (pd m k i, ()))))))) (n := k.length) ?_ ?_ (lt_rounds (by omega))
  · intro i hi
    have e2 := f52_eq hf hi
    have e3 := m_neg hf hi
    have e4 := (k_sq hf hi).1
    have e5 := q78a hf hi
    have e6 := q78b hf hi
    have e7 := q79 hf hi
    simp only [pd, pA, pB] at e5 e6 e7
    simp only [s77_0, t77_0, pd, Int.toNat_natCast, e3, e4, g52, e2, g78, Option.getD_some, Option.isSome_some, e5, e6, g79, e7, Tr.val_test, Tr.val_fin, Tr.val_stop, leF_eq, if_true, wrap64_nat (show i ≤ 9223372036854775806 by omega)]
    rw [if_pos (by simp; omega), if_pos (by simp; omega), if_pos (by simp; omega)]
  · simp only [s77_0, t77_0, Tr.val_test, Tr.val_fin, Tr.val_stop, leF_eq]
    rw [if_neg (by simp; omega)]

/-- Its coefficients. -/
def pcs (m k : List Int) : List Int := (List.range (k.length + 1)).map fun i => St.Dc m k (k.length + 1) i

theorem pcs_len (m k : List Int) : (pcs m k).length = k.length + 1 := by simp [pcs]

theorem pcs_take {m k : List Int} (hf : St.Fr m k) : List.take (k.length + 1) [St.Dc m k (k.length + 1) 0, St.Dc m k (k.length + 1) 1, St.Dc m k (k.length + 1) 2, St.Dc m k (k.length + 1) 3, St.Dc m k (k.length + 1) 4] = pcs m k := by
  have h4 := hf.top
  have h0 := hf.pos
  unfold pcs
  generalize k.length = n at *
  rcases (show n = 1 ∨ n = 2 ∨ n = 3 ∨ n = 4 by omega) with e | e | e | e <;> subst e <;> rfl

theorem f11_ok {m k : List Int} (hf : St.Fr m k) : f11 ((m, (k, ())), ()) = some (pcs m k, (0, ())) := by
  have h4 := hf.top
  have hl := hf.len
  have h0 := hf.pos
  have e := f49_ok hf
  have e1 := l77p_eq hf
  have z0 : pd m k 0 = ((0 : Int), ((0 : Int), ((0 : Int), ((0 : Int), ((0 : Int), ()))))) := rfl
  have z1 : pd m k 1 = ((1 : Int), ((0 : Int), ((0 : Int), ((0 : Int), ((0 : Int), ()))))) := rfl
  rw [z0, z1] at e1
  have w : wrap64 ((m.length : Int) + 1) = ((k.length + 1 : Nat) : Int) := by rw [wrap64_nat (by omega), hl]
  have e2 := f51_eq (pcs m k) (by rw [pcs_len]; omega) (by rw [pcs_len]; omega)
  have ht := pcs_take hf
  have c0 : (!eqF (0 : Int) 0) = false := by rw [eqF_eq]; rfl
  simp only [f11, t11, g49, e, Option.isSome_some, Option.getD_some, Tr.val_test, Tr.val_fin, Tr.val_stop, if_true, c0, Bool.false_eq_true, if_false, b77_0, e1, isBrk, outB, w, Int.toNat_natCast, pd, Nat.sub_zero, Nat.zero_add, Nat.mul_one]
  rw [if_pos (by simp; omega), if_pos (by simp [Nat.ble_eq]; omega)]
  by_cases c : k.length = 4
  · rw [if_pos (by simp [c])]
    have ht' : [St.Dc m k (k.length + 1) 0, St.Dc m k (k.length + 1) 1, St.Dc m k (k.length + 1) 2, St.Dc m k (k.length + 1) 3, St.Dc m k (k.length + 1) 4] = pcs m k := by
      rw [← ht, List.take_of_length_le (by simp; omega)]
    rw [ht']
    simp only [g51, e2, Option.isSome_some, Option.getD_some, if_true]
  · rw [if_neg (by simp; omega), ht]
    simp only [g51, e2, Option.isSome_some, Option.getD_some, if_true]

def acl (l : List Int) : Nat → Int
  | 0 => 0
  | j + 1 => wrap64 (wrap64 (acl l j * 1000000000) + l.getD (l.length - 1 - j) 0)

theorem acl_eq : ∀ (l : List Int), l.length ≤ 2 → Dg l → acl l l.length = dval l
  | [], _, _ => rfl
  | [d], _, hd => by
    have h1 := hd.head
    have e : acl [d] [d].length = wrap64 (wrap64 (0 * 1000000000) + d) := rfl
    rw [e, wrap64_id (n := 0 * 1000000000) (by omega) (by omega), wrap64_id (by omega) (by omega)]
    simp only [dval]; omega
  | [d, e], _, hd => by
    have h1 := hd.head
    have h2 := hd.tail.head
    have q : acl [d, e] [d, e].length = wrap64 (wrap64 (wrap64 (wrap64 (0 * 1000000000) + e) * 1000000000) + d) := rfl
    rw [q, wrap64_id (n := 0 * 1000000000) (by omega) (by omega), wrap64_id (n := 0 * 1000000000 + e) (by omega) (by omega), wrap64_id (n := (0 * 1000000000 + e) * 1000000000) (by omega) (by omega), wrap64_id (by omega) (by omega)]
    simp only [dval]; omega
  | _ :: _ :: _ :: _, h, _ => by simp at h

theorem l81 (s : Int) (l : List Int) (hl : l.length ≤ 2) (hd : Dg l) : l81_0 (((0 : Int), (l.length : Int) - 1, ()), (s, l, ()), ()) = some (.inl ((dval l, ()), (s, l, ()), ())) := by
  have key := itr_brk (step := s81_0) (fun j => ((acl l j, (l.length : Int) - 1 - (j : Int), ()), (s, l, ()), ())) (n := l.length) (m := rounds) (b := ((acl l l.length, ()), (s, l, ()), ())) ?_ ?_ (lt_rounds (by omega))
  · rw [acl_eq l hl hd] at key
    have e : (l.length : Int) - 1 - ((0 : Nat) : Int) = (l.length : Int) - 1 := by omega
    simp only [e] at key
    exact key
  · intro j hj
    have e1 : Int.toNat ((l.length : Int) - 1 - (j : Int)) = l.length - 1 - j := by omega
    have e2 : wrap64 ((l.length : Int) - 1 - (j : Int) - 1) = (l.length : Int) - 1 - ((j + 1 : Nat) : Int) := by rw [wrap64_id (by omega) (by omega)]; omega
    simp only [s81_0, t81_0, Tr.val_test, Tr.val_fin, Tr.val_stop, leF_eq, e1, e2]
    rw [if_pos (by rw [decide_eq_true_eq]; omega), if_pos (by simp only [Bool.and_eq_true, decide_eq_true_eq]; omega)]
    rfl
  · simp only [s81_0, t81_0, Tr.val_test, Tr.val_fin, Tr.val_stop, leF_eq]
    rw [if_neg (by rw [decide_eq_true_eq]; omega)]

theorem f81_eq (x : Int) (h : (dig x.natAbs).length ≤ 2) : f81 (enc x, ()) = some (x, true, ()) := by
  have hl := l81 x.sign (dig x.natAbs) h (dig_Dg _)
  have n1 : decide (((dig x.natAbs).length : Int) ≤ 2) = true := by rw [decide_eq_true_eq]; omega
  have w1 : wrap64 (((dig x.natAbs).length : Int) - 1) = ((dig x.natAbs).length : Int) - 1 := wrap64_id (by omega) (by omega)
  have hb := dig_len_pw x.natAbs
  have hp := pw_le h
  have hp2 : pw 2 = 1000000000000000000 := rfl
  have w2 : wrap64 (x.sign * dval (dig x.natAbs)) = x := by
    rw [dig_dv, Int.sign_mul_natAbs]
    exact wrap64_id (by omega) (by omega)
  show f81 ((x.sign, dig x.natAbs, ()), ()) = _
  simp only [f81, t81, Tr.val_test, Tr.val_fin, Tr.val_stop, leF_eq, n1, w1, hl, isBrk, b81_0, outB, w2, Bool.not_true, Bool.false_eq_true, if_false, if_true]

theorem f25_eq (n d : Int) : f25 ((n, d, ()), ()) = some (wi (-1000000000) 1000000000 n && wi 1 1000000000 d, ()) := by
  simp only [f25, t25, Tr.val_test, Tr.val_fin, Tr.val_stop, g18, f18_eq, Option.isSome_some, Option.getD_some, if_true]
  cases wi (-1000000000) 1000000000 n <;> simp

theorem f55_eq (n d : Int) (h1 : n.natAbs ≤ 1000000000) (h2 : 1 ≤ d) (h3 : d ≤ 1000000000) : f55 ((enc n, enc d, ()), ()) = some ((n, d, ()), true, ()) := by
  have e1 : f81 ((n.sign, dig n.natAbs, ()), ()) = some (n, true, ()) := f81_eq n (dig_len (by simp only [pw]; omega))
  have e2 : f81 ((d.sign, dig d.natAbs, ()), ()) = some (d, true, ()) := f81_eq d (dig_len (by simp only [pw]; omega))
  have e3 := f25_eq n d
  have q1 : wi (-1000000000) 1000000000 n = true := wi_iff.2 (by omega)
  have q2 : wi 1 1000000000 d = true := wi_iff.2 (by omega)
  rw [q1, q2] at e3
  show f55 (((n.sign, dig n.natAbs, ()), (d.sign, dig d.natAbs, ()), ()), ()) = _
  simp only [f55, t55, Tr.val_test, Tr.val_fin, Tr.val_stop, g81, e1, e2, g25, e3, Option.isSome_some, Option.getD_some, Bool.and_self, Bool.not_true, Bool.false_eq_true, if_false, if_true]

theorem mul_cancel' {a b g : Int} (hg : g ≠ 0) (h : a * g = b * g) : a = b := Int.eq_of_mul_eq_mul_right hg h

theorem norm_low (x : Int) (y : Nat) (hy : y ≠ 0) : (Rat.normalize x y hy).num = (low x (y : Int)).1 ∧ ((Rat.normalize x y hy).den : Int) = (low x (y : Int)).2.1 := by
  have g0 : 0 < Nat.gcd x.natAbs y := Nat.gcd_pos_of_pos_right _ (by omega)
  have hg : ((Nat.gcd x.natAbs y : Nat) : Int) ≠ 0 := by omega
  have hnum : (Rat.normalize x y hy).num = x / ((Nat.gcd x.natAbs y : Nat) : Int) := by rw [Rat.normalize_eq]
  have hden : (Rat.normalize x y hy).den = y / Nat.gcd x.natAbs y := by rw [Rat.normalize_eq]
  have k1 : ((Nat.gcd x.natAbs y : Nat) : Int) ∣ x := Int.ofNat_dvd_left.2 (Nat.gcd_dvd_left _ _)
  have k2 : ((Nat.gcd x.natAbs y : Nat) : Int) ∣ (y : Int) := Int.natCast_dvd_natCast.2 (Nat.gcd_dvd_right _ _)
  have e : low x (y : Int) = (x.tdiv (Nat.gcd x.natAbs y : Nat), (y : Int).tdiv (Nat.gcd x.natAbs y : Nat), ()) := by
    unfold low
    rw [show Int.gcd x (y : Int) = Nat.gcd x.natAbs y from by rw [Int.gcd, Int.natAbs_natCast]]
  rw [e]
  refine ⟨mul_cancel' hg ?_, mul_cancel' hg ?_⟩
  · rw [hnum, Int.ediv_mul_cancel k1]; exact (Int.tdiv_mul_cancel k1).symm
  · rw [hden, Int.natCast_ediv, Int.ediv_mul_cancel k2]; exact (Int.tdiv_mul_cancel k2).symm

theorem low_le (x y : Int) : (low x y).1.natAbs ≤ x.natAbs ∧ (low x y).2.1.natAbs ≤ y.natAbs := by
  unfold low
  simp only [Int.natAbs_tdiv, Int.natAbs_natCast]
  exact ⟨Nat.div_le_self _ _, Nat.div_le_self _ _⟩

/-! The sum of all squares. -/

def sD (m : List Int) : Nat → Int
  | 0 => 1
  | i + 1 => sD m i * St.gt m i
def sN (m k : List Int) : Nat → Int
  | 0 => 0
  | i + 1 => sN m k i * St.gt m i + St.stf k i * sD m i

theorem mulB {x y : Int} {A B : Nat} (hx : x.natAbs ≤ A) (hy : y.natAbs ≤ B) : (x * y).natAbs ≤ A * B := by
  rw [Int.natAbs_mul]
  exact Nat.mul_le_mul hx hy

theorem sB {m k : List Int} (hf : St.Fr m k) : ∀ i, i ≤ k.length → 0 < sD m i ∧ (sD m i).natAbs ≤ 10 ^ i ∧ (sN m k i).natAbs ≤ 40 * i * 10 ^ i
  | 0, _ => by simp [sD, sN]
  | i + 1, h => by
    obtain ⟨h1, h2, h3⟩ := sB hf i (by omega)
    have hm := hf.mass i (by omega)
    have hs := St.stf_le hf (j := i) (by omega)
    have q1 := mulB (x := sD m i) (y := St.gt m i) (A := 10 ^ i) (B := 10) h2 (by omega)
    have q2 := mulB (x := sN m k i) (y := St.gt m i) (A := 40 * i * 10 ^ i) (B := 10) h3 (by omega)
    have q3 := mulB (x := St.stf k i) (y := sD m i) (A := 40) (B := 10 ^ i) (by omega) h2
    have q4 := Int.mul_pos h1 (show 0 < St.gt m i by omega)
    simp only [sD, sN]
    rw [Nat.pow_succ]
    refine ⟨q4, q1, ?_⟩
    have e : 40 * (i + 1) * (10 ^ i * 10) = 40 * i * 10 ^ i * 10 + 40 * 10 ^ i * 10 := by rw [Nat.mul_add, Nat.add_mul]; grind
    rw [e]
    omega

theorem sB4 {m k : List Int} (hf : St.Fr m k) {i : Nat} (h : i ≤ k.length) : 0 < sD m i ∧ sD m i ≤ 10000 ∧ (sN m k i).natAbs ≤ 1600000 := by
  obtain ⟨h1, h2, h3⟩ := sB hf i h
  have h4 := hf.top
  have p : 10 ^ i ≤ 10 ^ 4 := Nat.pow_le_pow_right (by decide) (by omega)
  have p2 := Nat.mul_le_mul (show 40 * i ≤ 160 by omega) p
  omega

def sR (m k : List Int) (i : Nat) : Rat := mkRat (sN m k i) (sD m i).toNat

theorem sR_zero (m k : List Int) : sR m k 0 = ((0 : Int) : Rat) := by unfold sR; simp only [sN]; rw [Rat.zero_mkRat]; rfl

theorem sR_succ {m k : List Int} (hf : St.Fr m k) {i : Nat} (h : i < k.length) : sR m k i + Rat.normalize (St.stf k i) (St.gt m i).toNat (by have := hf.mass i h; omega) = sR m k (i + 1) := by
  obtain ⟨h1, _, _⟩ := sB4 hf (Nat.le_of_lt h)
  have hm := hf.mass i h
  unfold sR
  rw [Rat.normalize_eq_mkRat, Rat.mkRat_add_mkRat _ _ (by omega) (by omega)]
  simp only [sN, sD]
  rw [show ((St.gt m i).toNat : Int) = St.gt m i by omega, show ((sD m i).toNat : Int) = sD m i by omega, Int.toNat_mul (by omega) (by omega)]

theorem sR_parts {m k : List Int} (hf : St.Fr m k) {i : Nat} (h : i ≤ k.length) : (sR m k i).num = (low (sN m k i) (sD m i)).1 ∧ ((sR m k i).den : Int) = (low (sN m k i) (sD m i)).2.1 := by
  obtain ⟨h1, _, _⟩ := sB4 hf h
  unfold sR
  have := norm_low (sN m k i) (sD m i).toNat (by omega)
  rw [Rat.normalize_eq_mkRat, show (((sD m i).toNat : Nat) : Int) = sD m i by omega] at this
  exact this

theorem sR_size {m k : List Int} (hf : St.Fr m k) {i : Nat} (h : i ≤ k.length) : rsz (sR m k i) 2000 := by
  obtain ⟨h1, h2, h3⟩ := sB4 hf h
  obtain ⟨p1, p2⟩ := sR_parts hf h
  obtain ⟨l1, l2⟩ := low_le (sN m k i) (sD m i)
  rw [← p1] at l1
  rw [← p2, Int.natAbs_natCast] at l2
  exact ⟨Nat.le_trans (dig_len (k := 1) (by simp only [pw]; omega)) (by decide), Nat.le_trans (dig_len (k := 1) (by simp only [pw]; omega)) (by decide)⟩

theorem f49_bad {m k : List Int} (h : (chkE m k).2 ≠ 0) : f49 ((m, (k, ())), (([] : List Int), ())) = some ((((([] : List Int), (([] : List Int), ())), ()), ((chkE m k).2, ()))) := by
  have e := f9_all m k
  have e1 := f44_eq [] (by decide)
  rw [show firstNZ [] = 0 from rfl] at e1
  have e2 := f44_eq [(chkE m k).2, 0] (by simp)
  rw [show firstNZ [(chkE m k).2, 0] = (chkE m k).2 by simp [firstNZ, h]] at e2
  have c : (!eqF (chkE m k).2 0) = true := by rw [eqF_eq]; simpa using h
  simp only [f49, t49, g9, e, g44, e1, e2, c, Tr.val_test, Tr.val_fin, Tr.val_stop, Option.isSome_some, Option.getD_some, if_true]

theorem f11_bad {m k : List Int} (h : (chkE m k).2 ≠ 0) : f11 ((m, (k, ())), ()) = some (([] : List Int), ((chkE m k).2, ())) := by
  have e := f49_bad h
  have c : (!eqF (chkE m k).2 0) = true := by rw [eqF_eq]; simpa using h
  simp only [f11, t11, g49, e, c, Option.isSome_some, Option.getD_some, Tr.val_test, Tr.val_fin, Tr.val_stop, if_true]

theorem f12_bad {m k : List Int} (h : (chkE m k).2 ≠ 0) : f12 ((m, (k, ())), ()) = some (((0 : Int), ((0 : Int), ())), ((chkE m k).2, ())) := by
  have e := f49_bad h
  have c : (!eqF (chkE m k).2 0) = true := by rw [eqF_eq]; simpa using h
  simp only [f12, t12, g49, e, c, Option.isSome_some, Option.getD_some, Tr.val_test, Tr.val_fin, Tr.val_stop, if_true]

end Go.Vm.Mo

namespace Go.Vm.Mo
open Go
set_option linter.unusedVariables false
set_option linter.unusedSimpArgs false

theorem l12_ok {m k : List Int} (hf : St.Fr m k) : l12_0 (((0 : Int), ((1 : Int), (m, ((m.length : Int), ((0 : Int), ()))))), ((((0 : Int), ((0 : Int), ())), ((m, (k, ())), ())))) =
    some (.inl ((sN m k k.length, (sD m k.length, ())), ((((0 : Int), ((0 : Int), ())), ((m, (k, ())), ()))))) := by
  have h4 := hf.top
  have hl := hf.len
  refine itr_brk (step := s12_0) (fun i => ((sN m k i, (sD m i, (m, ((m.length : Int), ((i : Int), ()))))), ((((0 : Int), ((0 : Int), ())), ((m, (k, ())), ()))))) (n := k.length) ?_ ?_ (lt_rounds (by omega))
  · intro i hi
    have e := f52_eq hf hi
    obtain ⟨a1, a2, a3⟩ := sB4 hf (Nat.le_of_lt hi)
    obtain ⟨b1, b2, b3⟩ := sB4 hf hi
    have hs := St.stf_le hf hi
    have hm := hf.mass i hi
    have q1 := mulB (x := sN m k i) (y := St.gt m i) (A := 1600000) (B := 10) (by omega) (by omega)
    have q2 := mulB (x := St.stf k i) (y := sD m i) (A := 40) (B := 10000) (by omega) (by omega)
    have w1 : wrap64 (sN m k i * St.gt m i) = sN m k i * St.gt m i := wr_abs (by omega)
    have w2 : wrap64 (St.stf k i * sD m i) = St.stf k i * sD m i := wr_abs (by omega)
    have w3 : wrap64 (sN m k i * St.gt m i + St.stf k i * sD m i) = sN m k (i + 1) := wr_abs (by omega)
    have w4 : wrap64 (sD m i * St.gt m i) = sD m (i + 1) := wr_abs (by simp only [sD] at b1 b2; omega)
    simp only [s12_0, t12_0, Int.toNat_natCast, show m.getD i 0 = St.gt m i from rfl, g52, e, w1, w2, w3, w4, Option.getD_some, Option.isSome_some, Tr.val_test, Tr.val_fin, Tr.val_stop, leF_eq, if_true, wrap64_nat (show i ≤ 9223372036854775806 by omega)]
    rw [if_pos (by simp; omega), if_pos (by simp; omega)]
  · simp only [s12_0, t12_0, Tr.val_test, Tr.val_fin, Tr.val_stop, leF_eq]
    rw [if_neg (by simp; omega)]

theorem f12_ok {m k : List Int} (hf : St.Fr m k) : f12 ((m, (k, ())), ()) = some (low (sN m k k.length) (sD m k.length), ((0 : Int), ())) := by
  have e := f49_ok hf
  have e1 := l12_ok hf
  obtain ⟨b1, b2, b3⟩ := sB4 hf (Nat.le_refl _)
  have e2 := f53_eq (sN m k k.length) (sD m k.length) (by omega) (by omega) (by omega)
  have c : (!eqF (0 : Int) 0) = false := by rw [eqF_eq]; rfl
  simp only [f12, t12, g49, e, c, e1, isBrk, b12_0, outB, g53, e2, Option.isSome_some, Option.getD_some, Tr.val_test, Tr.val_fin, Tr.val_stop, Bool.false_eq_true, if_true, if_false]

theorem l16_ok {m k : List Int} (hf : St.Fr m k) : l16_0 (((0 : Int), ()), ((m, (k, ())), (((0 : Int), ((0 : Int), ())), (((encR (sR m k 0)).1.1, ((encR (sR m k 0)).1.2.1, ((encR (sR m k 0)).2.1.1, ((encR (sR m k 0)).2.1.2.1, ())))), ())))) =
    some (.inl ((), ((m, (k, ())), (((0 : Int), ((0 : Int), ())), (((encR (sR m k k.length)).1.1, ((encR (sR m k k.length)).1.2.1, ((encR (sR m k k.length)).2.1.1, ((encR (sR m k k.length)).2.1.2.1, ())))), ()))))) := by
  have h4 := hf.top
  have hl := hf.len
  refine itr_brk (step := s16_0) (fun i => (((i : Int), ()), ((m, (k, ())), (((0 : Int), ((0 : Int), ())), (((encR (sR m k i)).1.1, ((encR (sR m k i)).1.2.1, ((encR (sR m k i)).2.1.1, ((encR (sR m k i)).2.1.2.1, ())))), ()))))) (n := k.length) ?_ ?_ (lt_rounds (by omega))
  · intro i hi
    have e := f54_eq hf hi
    have hs := St.stf_le hf hi
    have hm := hf.mass i hi
    have hm0 : (St.gt m i).toNat ≠ 0 := by omega
    have e1 := f34_eq (St.stf k i) (St.gt m i).toNat hm0 (by omega) (by omega)
    rw [show (((St.gt m i).toNat : Nat) : Int) = St.gt m i by omega] at e1
    have hz : rsz (Rat.normalize (St.stf k i) (St.gt m i).toNat hm0) 2000 := norm_size hm0 (Nat.le_trans (dig_len (k := 1) (by simp only [pw]; omega)) (by decide)) (Nat.le_trans (dig_len (k := 1) (by simp only [pw]; omega)) (by decide))
    have e2 := f36_eq (sR m k i) _ (sR_size hf (Nat.le_of_lt hi)) hz
    rw [sR_succ hf hi] at e2
    have eR : ∀ r : Rat, (((encR r).1.1, ((encR r).1.2.1, ())), (((encR r).2.1.1, ((encR r).2.1.2.1, ())), ())) = encR r := fun _ => rfl
    simp only [s16_0, t16_0, Int.toNat_natCast, show m.getD i 0 = St.gt m i from rfl, g54, e, g34, e1, eR, g36, e2, Option.getD_some, Option.isSome_some, Tr.val_test, Tr.val_fin, Tr.val_stop, leF_eq, if_true, wrap64_nat (show i ≤ 9223372036854775806 by omega)]
    rw [if_pos (by simp; omega), if_pos (by simp; omega)]
  · simp only [s16_0, t16_0, Tr.val_test, Tr.val_fin, Tr.val_stop, leF_eq]
    rw [if_neg (by simp; omega)]

theorem f16_ok {m k : List Int} (hf : St.Fr m k) : f16 ((m, (k, ())), ()) = some (low (sN m k k.length) (sD m k.length), ()) := by
  have e0 := f33_eq 0 (by decide)
  rw [← sR_zero m k] at e0
  have e1 := l16_ok hf
  obtain ⟨b1, b2, b3⟩ := sB4 hf (Nat.le_refl _)
  obtain ⟨p1, p2⟩ := sR_parts hf (Nat.le_refl _)
  obtain ⟨q1, q2⟩ := low_le (sN m k k.length) (sD m k.length)
  have dp := (sR m k k.length).den_pos
  have e2 := f55_eq (sR m k k.length).num ((sR m k k.length).den : Int) (by rw [p1]; omega) (by omega) (by rw [p2]; omega)
  have e2' : f55 (encR (sR m k k.length), ()) = some (((sR m k k.length).num, (((sR m k k.length).den : Int), ())), (true, ())) := e2
  have eR : ∀ r : Rat, (((encR r).1.1, ((encR r).1.2.1, ())), (((encR r).2.1.1, ((encR r).2.1.2.1, ())), ())) = encR r := fun _ => rfl
  rw [p1, p2] at e2'
  simp only [f16, t16, g33, e0, e1, isBrk, b16_0, outB, eR, g55, e2', Option.isSome_some, Option.getD_some, Tr.val_test, Tr.val_fin, Tr.val_stop, if_true]

/-! The reference's polynomial. -/

theorem wr_of {E d : Int} (he : E = d) (hb : d.natAbs ≤ 9223372036854775807) : wrap64 E = d := by rw [he]; exact wr_abs hb
theorem list2 {a b a' b' : Int} (h1 : a = a') (h2 : b = b') : [a, b] = [a', b'] := by rw [h1, h2]
theorem list3 {a b c a' b' c' : Int} (h1 : a = a') (h2 : b = b') (h3 : c = c') : [a, b, c] = [a', b', c'] := by rw [h1, h2, h3]
theorem list4 {a b c d a' b' c' d' : Int} (h1 : a = a') (h2 : b = b') (h3 : c = c') (h4 : d = d') : [a, b, c, d] = [a', b', c', d'] := by rw [h1, h2, h3, h4]
theorem list5 {a b c d e a' b' c' d' e' : Int} (h1 : a = a') (h2 : b = b') (h3 : c = c') (h4 : d = d') (h5 : e = e') : [a, b, c, d, e] = [a', b', c', d', e'] := by rw [h1, h2, h3, h4, h5]

end Go.Vm.Mo

namespace Go.Vm.Mo
open Go
set_option linter.unusedVariables false
set_option linter.unusedSimpArgs false

theorem dcB {m k : List Int} (hf : St.Fr m k) (i : Nat) : (St.Dc m k (k.length + 1) i).natAbs ≤ 9223372036854775807 := by
  have := (pd_le hf (Nat.le_refl k.length) i).1
  omega

theorem f15_1 {m k : List Int} (hf : St.Fr m k) (h : k.length = 1) : f15 ((m, (k, ())), ()) = some (pcs m k, ()) := by
  have hl := hf.len
  rw [h] at hl
  have e0 : f54 ((m, (k, ())), ((0 : Int), ())) = some (St.stf k 0, ()) := f54_eq hf (i := 0) (by omega)
  have a0 : (!decide ((m.length : Int) ≤ 0)) = true := by rw [hl]; rfl
  have b0 : (true && decide ((0 : Int) < (m.length : Int))) = true := by rw [hl]; rfl
  have a1 : (!decide ((m.length : Int) ≤ 1)) = false := by rw [hl]; rfl
  have hp : pcs m k = [St.Dc m k (k.length + 1) 0, St.Dc m k (k.length + 1) 1] := by unfold pcs; rw [h]; rfl
  rw [hp]
  simp only [f15, t15, Tr.val_test, Tr.val_fin, Tr.val_stop, leF_eq, g54, e0, a0, b0, a1, Option.isSome_some, Option.getD_some, Bool.false_eq_true, ↓reduceIte, List.replicate_succ, List.replicate_zero, List.set_cons_zero, List.set_cons_succ]
  refine congrArg (fun l => some (l, ())) ?_
  simp only [wrap64_add_l, wrap64_add_r, wrap64_sub_l, wrap64_sub_r, wrap64_mul_l, wrap64_mul_r, wrap64_wrap64]
  refine list2 (wr_of ?_ (dcB hf 0)) (wr_of ?_ (dcB hf 1)) <;> rw [h] <;> simp [St.Dc, St.gt]

end Go.Vm.Mo

namespace Go.Vm.Mo
open Go
set_option linter.unusedVariables false
set_option linter.unusedSimpArgs false

theorem f15_2 {m k : List Int} (hf : St.Fr m k) (h : k.length = 2) : f15 ((m, (k, ())), ()) = some (pcs m k, ()) := by
  have hl := hf.len
  rw [h] at hl
  have e0 : f54 ((m, (k, ())), ((0 : Int), ())) = some (St.stf k 0, ()) := f54_eq hf (i := 0) (by omega)
  have a0 : (!decide ((m.length : Int) ≤ 0)) = true := by rw [hl]; rfl
  have b0 : (true && decide ((0 : Int) < (m.length : Int))) = true := by rw [hl]; rfl
  have e1 : f54 ((m, (k, ())), ((1 : Int), ())) = some (St.stf k 1, ()) := f54_eq hf (i := 1) (by omega)
  have a1 : (!decide ((m.length : Int) ≤ 1)) = true := by rw [hl]; rfl
  have b1 : (true && decide ((1 : Int) < (m.length : Int))) = true := by rw [hl]; rfl
  have c1 : (true && decide ((1 : Int) < (k.length : Int))) = true := by rw [h]; rfl
  have a2 : (!decide ((m.length : Int) ≤ 2)) = false := by rw [hl]; rfl
  have hp : pcs m k = [St.Dc m k (k.length + 1) 0, St.Dc m k (k.length + 1) 1, St.Dc m k (k.length + 1) 2] := by unfold pcs; rw [h]; rfl
  rw [hp]
  simp only [f15, t15, Tr.val_test, Tr.val_fin, Tr.val_stop, leF_eq, g54, e0, a0, b0, e1, a1, b1, c1, a2, Option.isSome_some, Option.getD_some, Bool.false_eq_true, ↓reduceIte, List.replicate_succ, List.replicate_zero, List.set_cons_zero, List.set_cons_succ]
  refine congrArg (fun l => some (l, ())) ?_
  simp only [wrap64_add_l, wrap64_add_r, wrap64_sub_l, wrap64_sub_r, wrap64_mul_l, wrap64_mul_r, wrap64_wrap64]
  refine list3 (wr_of ?_ (dcB hf 0)) (wr_of ?_ (dcB hf 1)) (wr_of ?_ (dcB hf 2)) <;> rw [h] <;> simp [St.Dc, St.gt] <;> (try grind)

theorem f15_3 {m k : List Int} (hf : St.Fr m k) (h : k.length = 3) : f15 ((m, (k, ())), ()) = some (pcs m k, ()) := by
  have hl := hf.len
  rw [h] at hl
  have e0 : f54 ((m, (k, ())), ((0 : Int), ())) = some (St.stf k 0, ()) := f54_eq hf (i := 0) (by omega)
  have a0 : (!decide ((m.length : Int) ≤ 0)) = true := by rw [hl]; rfl
  have b0 : (true && decide ((0 : Int) < (m.length : Int))) = true := by rw [hl]; rfl
  have e1 : f54 ((m, (k, ())), ((1 : Int), ())) = some (St.stf k 1, ()) := f54_eq hf (i := 1) (by omega)
  have a1 : (!decide ((m.length : Int) ≤ 1)) = true := by rw [hl]; rfl
  have b1 : (true && decide ((1 : Int) < (m.length : Int))) = true := by rw [hl]; rfl
  have c1 : (true && decide ((1 : Int) < (k.length : Int))) = true := by rw [h]; rfl
  have e2 : f54 ((m, (k, ())), ((2 : Int), ())) = some (St.stf k 2, ()) := f54_eq hf (i := 2) (by omega)
  have a2 : (!decide ((m.length : Int) ≤ 2)) = true := by rw [hl]; rfl
  have b2 : (true && decide ((2 : Int) < (m.length : Int))) = true := by rw [hl]; rfl
  have c2 : (true && decide ((2 : Int) < (k.length : Int))) = true := by rw [h]; rfl
  have a3 : (!decide ((m.length : Int) ≤ 3)) = false := by rw [hl]; rfl
  have hp : pcs m k = [St.Dc m k (k.length + 1) 0, St.Dc m k (k.length + 1) 1, St.Dc m k (k.length + 1) 2, St.Dc m k (k.length + 1) 3] := by unfold pcs; rw [h]; rfl
  rw [hp]
  simp only [f15, t15, Tr.val_test, Tr.val_fin, Tr.val_stop, leF_eq, g54, e0, a0, b0, e1, a1, b1, c1, e2, a2, b2, c2, a3, Option.isSome_some, Option.getD_some, Bool.false_eq_true, ↓reduceIte, List.replicate_succ, List.replicate_zero, List.set_cons_zero, List.set_cons_succ]
  refine congrArg (fun l => some (l, ())) ?_
  simp only [wrap64_add_l, wrap64_add_r, wrap64_sub_l, wrap64_sub_r, wrap64_mul_l, wrap64_mul_r, wrap64_wrap64]
  refine list4 (wr_of ?_ (dcB hf 0)) (wr_of ?_ (dcB hf 1)) (wr_of ?_ (dcB hf 2)) (wr_of ?_ (dcB hf 3)) <;> rw [h] <;> simp [St.Dc, St.gt] <;> (try grind)

theorem f15_4 {m k : List Int} (hf : St.Fr m k) (h : k.length = 4) : f15 ((m, (k, ())), ()) = some (pcs m k, ()) := by
  have hl := hf.len
  rw [h] at hl
  have e0 : f54 ((m, (k, ())), ((0 : Int), ())) = some (St.stf k 0, ()) := f54_eq hf (i := 0) (by omega)
  have a0 : (!decide ((m.length : Int) ≤ 0)) = true := by rw [hl]; rfl
  have b0 : (true && decide ((0 : Int) < (m.length : Int))) = true := by rw [hl]; rfl
  have e1 : f54 ((m, (k, ())), ((1 : Int), ())) = some (St.stf k 1, ()) := f54_eq hf (i := 1) (by omega)
  have a1 : (!decide ((m.length : Int) ≤ 1)) = true := by rw [hl]; rfl
  have b1 : (true && decide ((1 : Int) < (m.length : Int))) = true := by rw [hl]; rfl
  have c1 : (true && decide ((1 : Int) < (k.length : Int))) = true := by rw [h]; rfl
  have e2 : f54 ((m, (k, ())), ((2 : Int), ())) = some (St.stf k 2, ()) := f54_eq hf (i := 2) (by omega)
  have a2 : (!decide ((m.length : Int) ≤ 2)) = true := by rw [hl]; rfl
  have b2 : (true && decide ((2 : Int) < (m.length : Int))) = true := by rw [hl]; rfl
  have c2 : (true && decide ((2 : Int) < (k.length : Int))) = true := by rw [h]; rfl
  have e3 : f54 ((m, (k, ())), ((3 : Int), ())) = some (St.stf k 3, ()) := f54_eq hf (i := 3) (by omega)
  have a3 : (!decide ((m.length : Int) ≤ 3)) = true := by rw [hl]; rfl
  have b3 : (true && decide ((3 : Int) < (m.length : Int))) = true := by rw [hl]; rfl
  have c3 : (true && decide ((3 : Int) < (k.length : Int))) = true := by rw [h]; rfl
  have a4 : (!decide ((m.length : Int) ≤ 4)) = false := by rw [hl]; rfl
  have hp : pcs m k = [St.Dc m k (k.length + 1) 0, St.Dc m k (k.length + 1) 1, St.Dc m k (k.length + 1) 2, St.Dc m k (k.length + 1) 3, St.Dc m k (k.length + 1) 4] := by unfold pcs; rw [h]; rfl
  rw [hp]
  simp only [f15, t15, Tr.val_test, Tr.val_fin, Tr.val_stop, leF_eq, g54, e0, a0, b0, e1, a1, b1, c1, e2, a2, b2, c2, e3, a3, b3, c3, a4, Option.isSome_some, Option.getD_some, Bool.false_eq_true, ↓reduceIte, List.replicate_succ, List.replicate_zero, List.set_cons_zero, List.set_cons_succ]
  refine congrArg (fun l => some (l, ())) ?_
  simp only [wrap64_add_l, wrap64_add_r, wrap64_sub_l, wrap64_sub_r, wrap64_mul_l, wrap64_mul_r, wrap64_wrap64]
  refine list5 (wr_of ?_ (dcB hf 0)) (wr_of ?_ (dcB hf 1)) (wr_of ?_ (dcB hf 2)) (wr_of ?_ (dcB hf 3)) (wr_of ?_ (dcB hf 4)) <;> rw [h] <;> simp [St.Dc, St.gt] <;> (try grind)

end Go.Vm.Mo

namespace Go.Vm.Mo
open Go
set_option linter.unusedVariables false
set_option linter.unusedSimpArgs false

theorem f15_ok {m k : List Int} (hf : St.Fr m k) : f15 ((m, (k, ())), ()) = some (pcs m k, ()) := by
  have h4 := hf.top
  have h0 := hf.pos
  rcases (show k.length = 1 ∨ k.length = 2 ∨ k.length = 3 ∨ k.length = 4 by omega) with h | h | h | h
  · exact f15_1 hf h
  · exact f15_2 hf h
  · exact f15_3 hf h
  · exact f15_4 hf h

theorem f14_same (l : List Int) (h : l.length ≤ 1000) : f14 (l, (l, ())) = some (true, ()) := by
  have hl : l14_0 ((l, (l, ((0 : Int), ()))), ()) = some (.inl ((), ())) := by
    refine itr_brk (step := s14_0) (fun i => ((l, (l, ((i : Int), ()))), ())) (n := l.length) ?_ ?_ (lt_rounds (by omega))
    · intro i hi
      simp only [s14_0, t14_0, Int.toNat_natCast, Tr.val_test, Tr.val_fin, Tr.val_stop, leF_eq, eqF_eq, decide_true, Bool.not_true, Bool.false_eq_true, if_false, wrap64_nat (show i ≤ 9223372036854775806 by omega)]
      rw [if_pos (by simp; omega), if_pos (by simp; omega), if_pos (by simp; omega)]
    · simp only [s14_0, t14_0, Tr.val_test, Tr.val_fin, Tr.val_stop, leF_eq]
      rw [if_neg (by simp)]
  simp only [f14, t14, hl, isRet, eqF_eq, decide_true, Bool.not_true, Option.isSome_some, Tr.val_test, Tr.val_fin, Tr.val_stop, Bool.false_eq_true, ↓reduceIte]

/-! The law. -/

theorem f3_eq (m k : List Int) : f3 ((m, (k, ())), ()) = some (true, ()) := by
  by_cases c1 : (m.length : Int) ≤ 6
  rotate_left
  · have e0 : f8 ((m, (k, ())), ()) = some (false, ()) := by
      simp only [f8, t8, Tr.val_test, Tr.val_fin, leF_eq, decide_eq_false c1, Bool.false_eq_true, ↓reduceIte]
    simp only [f3, t3, g8, e0, Option.isSome_some, Option.getD_some, Bool.not_false, Tr.val_test, Tr.val_fin, Tr.val_stop, ↓reduceIte]
  by_cases c2 : (k.length : Int) ≤ 6
  rotate_left
  · have e0 : f8 ((m, (k, ())), ()) = some (false, ()) := by
      simp only [f8, t8, Tr.val_test, Tr.val_fin, leF_eq, decide_eq_true c1, decide_eq_false c2, ↓reduceIte]
    simp only [f3, t3, g8, e0, Option.isSome_some, Option.getD_some, Bool.not_false, Tr.val_test, Tr.val_fin, Tr.val_stop, ↓reduceIte]
  have e0 : f8 ((m, (k, ())), ()) = some (true, ()) := by
    simp only [f8, t8, Tr.val_test, Tr.val_fin, leF_eq, decide_eq_true c1, decide_eq_true c2, ↓reduceIte]
  have e1 := f10_eq m k (by omega) (by omega)
  have e2 := f9_all m k
  have e3 := f13_all m k
  by_cases h : (chkE m k).2 = 0
  · have hf := chkE_ok h
    have h1 := chkE_one m k h
    rw [h, h1] at e2 e3
    have e4 := f11_ok hf
    have e5 := f12_ok hf
    have e6 := f15_ok hf
    have e7 := f14_same (pcs m k) (by rw [pcs_len]; have := hf.top; omega)
    have e8 := f16_ok hf
    simp only [f3, t3, g8, e0, g10, e1, g9, e2, g13, e3, g11, e4, g12, e5, g15, e6, g14, e7, g16, e8, eqF_eq, decide_true, beq_self_eq_true, Bool.and_self, Option.isSome_some, Option.getD_some, Bool.not_true, Bool.false_eq_true, Tr.val_test, Tr.val_fin, Tr.val_stop, ↓reduceIte]
  · have e4 := f11_bad h
    have e5 := f12_bad h
    have nd : decide ((chkE m k).2 = 0) = false := decide_eq_false h
    have z : ((0 : Int) == (0 : Int)) = true := rfl
    simp only [f3, t3, g8, e0, g10, e1, g9, e2, g13, e3, g11, e4, g12, e5, eqF_eq, nd, z, List.length_nil, Int.natCast_zero, decide_true, Bool.and_self, Option.isSome_some, Option.getD_some, Bool.not_true, Bool.not_false, Bool.false_eq_true, Tr.val_test, Tr.val_fin, Tr.val_stop, ↓reduceIte]

theorem law3 (d : Tys.data as3) : Pure1 Go.Proofs.Try.prog 3 as3 [.bool] d (true, ()) := by
  have h := f3_eq d.1.1 d.1.2.1
  have hp : p3.pre d = true := by
    show Option.isSome (f3 d) = true
    rw [show f3 d = some (true, ()) from h]; rfl
  have hg : p3.fn d = (true, ()) := by
    show (f3 d).getD _ = _
    rw [show f3 d = some (true, ()) from h]; rfl
  have := ok3.runs d hp
  rw [hg] at this
  exact this

end Go.Vm.Mo
