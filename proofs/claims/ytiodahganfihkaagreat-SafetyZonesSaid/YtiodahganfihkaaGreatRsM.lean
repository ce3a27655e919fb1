import Derived.Test.YtiodahganfihkaaGreatRsFd
import Derived.Test.YtiodahganfihkaaGreatA5
set_option linter.unusedVariables false
set_option linter.unusedSimpArgs false

namespace Go.Vm.Mo
open Go
set_option linter.unusedVariables false
set_option linter.unusedSimpArgs false

theorem dT {p : Prop} [Decidable p] (h : p) : decide p = true := decide_eq_true h
theorem dF {p : Prop} [Decidable p] (h : ¬ p) : decide p = false := decide_eq_false h
theorem nT {p : Prop} [Decidable p] (h : ¬ p) : (!decide p) = true := by rw [decide_eq_false h]; rfl
theorem nF {p : Prop} [Decidable p] (h : p) : (!decide p) = false := by rw [decide_eq_true h]; rfl
theorem dA {p q : Prop} [Decidable p] [Decidable q] (h : p) (k : q) : (decide p && decide q) = true := by rw [decide_eq_true h, decide_eq_true k]; rfl

theorem first_map (bad : Nat → Bool) : ∀ (n i : Nat), first bad n (i + 1) = (first (fun k => bad (k + 1)) n i).map (· + 1)
  | 0, _ => rfl
  | n + 1, i => by
    simp only [first]
    split
    · rfl
    · exact first_map bad n (i + 1)

def firstNZ : List Int → Int
  | [] => 0
  | a :: l => if a = 0 then firstNZ l else a

theorem firstNZ_eq : ∀ l : List Int, (match first (fun i => !decide (l.getD i 0 = 0)) l.length 0 with
    | some k => l.getD k 0
    | none => 0) = firstNZ l
  | [] => rfl
  | a :: l => by
    simp only [List.length, first, firstNZ]
    by_cases ha : a = 0
    · subst ha
      have e := firstNZ_eq l
      have hf : first (fun i => !decide (((0 : Int) :: l).getD i 0 = 0)) l.length (0 + 1) = (first (fun i => !decide (l.getD i 0 = 0)) l.length 0).map (· + 1) := by
        rw [first_map]; rfl
      simp only [hf, List.getD_cons_zero, decide_true, Bool.not_true, Bool.false_eq_true, if_false, if_true]
      rw [← e]
      cases first (fun i => !decide (l.getD i 0 = 0)) l.length 0 with
      | none => rfl
      | some k => rfl
    · simp [ha]

theorem l79 (l : List Int) (h : l.length ≤ 1000000000) : l79_0 ((l, (l.length : Int), (0 : Int), ()), ()) = match first (fun i => !decide (l.getD i 0 = 0)) l.length 0 with
    | some k => some (.inr ((l.getD k 0, ()), ()))
    | none => some (.inl ((), ())) := by
  refine itr_search (fun i => ((l, (l.length : Int), (i : Int), ()), ())) (fun i => !decide (l.getD i 0 = 0)) (fun k => ((l.getD k 0, ()), ())) (n := l.length) ?_ ?_ (lt_rounds (by omega))
  · intro i hi
    simp only [s79_0, t79_0, Tr.val_test, leF_eq, eqF_eq]
    rw [if_pos (by simp; omega), if_pos (by simp; omega)]
    simp only [Int.toNat_natCast, wrap64_nat (show i ≤ 9223372036854775806 by omega)]
    rfl
  · simp [s79_0, t79_0, leF_eq]

theorem f79_eq (l : List Int) (h : l.length ≤ 1000000000) : f79 (l, ()) = some (firstNZ l, ()) := by
  simp only [f79, t79, Tr.val_test, r79_0, l79 l h, ← firstNZ_eq l]
  cases first (fun i => !decide (l.getD i 0 = 0)) l.length 0 with
  | none => rfl
  | some k => rfl

theorem f80_eq (d : Tys.data as80) : f80 d = some (if d.1 = true then d.2.1 else (0 : Int), ()) := by
  simp only [f80, t80, Tr.val_test]
  split <;> rfl

def wi (lo hi x : Int) : Bool := decide (lo ≤ x) && decide (x ≤ hi)

theorem wi_iff {lo hi x : Int} : wi lo hi x = true ↔ lo ≤ x ∧ x ≤ hi := by simp [wi]

theorem f25_eq (d : Tys.data as25) : f25 d = some (wi d.2.1 d.2.2.1 d.1, ()) := by
  simp only [f25, t25, Tr.val_test, Tr.val_fin, leF_eq, decide_eq_true_eq, wi]
  split <;> simp [*]

theorem l94 (lo hi : Int) (l : List Int) (h : l.length ≤ 1000000000) : l94_0 ((lo, hi, l, (l.length : Int), (0 : Int), ()), ()) = match first (fun i => !wi lo hi (l.getD i 0)) l.length 0 with
    | some _ => some (.inr ((false, ()), ()))
    | none => some (.inl ((), ())) := by
  refine itr_search (fun i => ((lo, hi, l, (l.length : Int), (i : Int), ()), ())) (fun i => !wi lo hi (l.getD i 0)) (fun _ => ((false, ()), ())) (n := l.length) ?_ ?_ (lt_rounds (by omega))
  · intro i hi'
    simp only [s94_0, t94_0, Tr.val_test, Tr.val_fin, leF_eq, Int.toNat_natCast, wrap64_nat (show i ≤ 9223372036854775806 by omega)]
    rw [if_pos (by simp; omega), if_pos (by simp; omega)]
    by_cases a0 : lo ≤ l.getD i 0
    · by_cases a1 : l.getD i 0 ≤ hi
      · simp only [wi, a0, a1, decide_true, Bool.and_self, Bool.not_true, if_true, if_false, Bool.false_eq_true]
      · simp only [wi, a0, a1, decide_true, decide_false, Bool.and_false, Bool.not_false, Bool.not_true, if_true, if_false, Bool.false_eq_true]
    · simp only [wi, a0, decide_false, Bool.false_and, Bool.not_false, if_true, if_false, Bool.false_eq_true]
  · simp [s94_0, t94_0, leF_eq]

theorem f94_eq (lo hi : Int) (l : List Int) (h : l.length ≤ 1000000000) : f94 (lo, hi, l, ()) = some ((first (fun i => !wi lo hi (l.getD i 0)) l.length 0).isNone, ()) := by
  have hl := l94 lo hi l h
  cases hf : first (fun i => !wi lo hi (l.getD i 0)) l.length 0 with
  | none =>
    rw [hf] at hl
    simp only [f94, t94, Tr.val_test, Tr.val_fin, hl, isRet, Option.isSome_some, Option.isNone_none, if_true, Bool.false_eq_true, if_false]
  | some k =>
    rw [hf] at hl
    simp only [f94, t94, Tr.val_test, Tr.val_fin, hl, isRet, r94_0, outR, Option.isSome_some, Option.isNone_some, if_true]

theorem f94_one (lo hi a : Int) : f94 (lo, hi, [a], ()) = some (wi lo hi a, ()) := by
  rw [f94_eq lo hi _ (by simp)]
  simp only [first, List.length, List.getD_cons_zero]
  by_cases h1 : wi lo hi a = true
  · simp [h1]
  · simp [h1]

theorem f94_two (lo hi a b : Int) : f94 (lo, hi, [a, b], ()) = some (wi lo hi a && wi lo hi b, ()) := by
  rw [f94_eq lo hi _ (by simp)]
  simp only [first, List.length, List.getD_cons_zero, List.getD_cons_succ]
  by_cases h1 : wi lo hi a = true
  · by_cases h2 : wi lo hi b = true
    · simp [h1, h2]
    · simp [h1, h2]
  · simp [h1]

theorem wn64 {x : Int} (h1 : -9223372036854775807 ≤ x) (h2 : x ≤ 9223372036854775807) : IntKind.wrap .i64 (0 - x) = -x := by
  rw [← wrap64_eq, wrap64_id (by omega) (by omega)]
  omega

theorem f117_eq (m : Int) (l : List Int) (h1 : -9223372036854775807 ≤ m) (h2 : m ≤ 9223372036854775807) (h : l.length ≤ 1000000000) : f117 (m, l, ()) = some (!(first (fun i => !wi (-m) m (l.getD i 0)) l.length 0).isNone, ()) := by
  simp only [f117, t117, Tr.val_test, Tr.val_fin, wn64 h1 h2, f94_eq _ _ _ h, g94, Option.isSome_some, Option.getD_some, if_true]

theorem f117_two (m a b : Int) (h1 : -9223372036854775807 ≤ m) (h2 : m ≤ 9223372036854775807) : f117 (m, [a, b], ()) = some (!(wi (-m) m a && wi (-m) m b), ()) := by
  have c94 : f94 (-m, m, [a, b], ()) = some (wi (-m) m a && wi (-m) m b, ()) := f94_two _ _ _ _
  simp only [f117, t117, Tr.val_test, Tr.val_fin, wn64 h1 h2, c94, g94, Option.isSome_some, Option.getD_some, if_true]

theorem f117_four (m a b c d : Int) (h1 : -9223372036854775807 ≤ m) (h2 : m ≤ 9223372036854775807) : f117 (m, [a, b, c, d], ()) = some (!(wi (-m) m a && wi (-m) m b && wi (-m) m c && wi (-m) m d), ()) := by
  rw [f117_eq m _ h1 h2 (by simp)]
  simp only [first, List.length, List.getD_cons_zero, List.getD_cons_succ]
  rcases Bool.eq_false_or_eq_true (wi (-m) m a) with k1 | k1 <;> rcases Bool.eq_false_or_eq_true (wi (-m) m b) with k2 | k2 <;> rcases Bool.eq_false_or_eq_true (wi (-m) m c) with k3 | k3 <;> rcases Bool.eq_false_or_eq_true (wi (-m) m d) with k4 | k4 <;> simp [k1, k2, k3, k4]

theorem f79_two (a b : Int) : f79 ([a, b], ()) = some (firstNZ [a, b], ()) := f79_eq _ (by simp)

abbrev RD := Int × Int × Unit
abbrev ZN := (Int × Int × Unit) × (Int × Int × Unit) × Unit
def rd (l : List RD) (i : Nat) : RD := l.getD i ((0 : Int), (0 : Int), ())
def zn (l : List ZN) (i : Nat) : ZN := l.getD i (((0 : Int), (0 : Int), ()), ((0 : Int), (0 : Int), ()), ())
def okP (x : Int) : Bool := wi (-1000) 1000 x
theorem okP_iff {x : Int} : okP x = true ↔ -1000 ≤ x ∧ x ≤ 1000 := wi_iff

def zE (z : ZN) : Int := if (okP z.1.1 && okP z.1.2.1 && okP z.2.1.1 && okP z.2.1.2.1) = true then (if z.1.1 ≤ z.1.2.1 then (if z.2.1.1 ≤ z.2.1.2.1 then 0 else 9) else 9) else 2
def pE (p : RD) : Int := if (okP p.1 && okP p.2.1) = true then 0 else 2

def firstE {α : Type} (e : Nat → Int) (n : Nat) : Int := match first (fun i => !decide (e i = 0)) n 0 with
  | some k => e k
  | none => 0

theorem firstE_zero {e : Nat → Int} {n : Nat} (h : firstE (α := Unit) e n = 0) : ∀ i, i < n → e i = 0 := by
  intro i hi
  unfold firstE at h
  cases hf : first (fun i => !decide (e i = 0)) n 0 with
  | none => simpa using first_none hf i (by omega) (by omega)
  | some k =>
    rw [hf] at h
    obtain ⟨_, _, k3, _⟩ := first_some hf
    have h : e k = 0 := h
    simp [h] at k3

theorem firstE_of {e : Nat → Int} {n : Nat} (h : ∀ i, i < n → e i = 0) : firstE (α := Unit) e n = 0 := by
  unfold firstE
  rw [first_of_none fun i _ hi => by simp [h i (by omega)]]

theorem l171 (l : List ZN) (h : l.length ≤ 1000000000) : l171_0 ((l, (l.length : Int), (0 : Int), ()), ()) = match first (fun i => !decide (zE (zn l i) = 0)) l.length 0 with
    | some k => some (.inr (((k : Int), zE (zn l k), ()), ()))
    | none => some (.inl ((), ())) := by
  refine itr_search (fun i => ((l, (l.length : Int), (i : Int), ()), ())) (fun i => !decide (zE (zn l i) = 0)) (fun k => (((k : Int), zE (zn l k), ()), ())) (n := l.length) ?_ ?_ (lt_rounds (by omega))
  · intro i hi
    have b0 : (!decide ((l.length : Int) ≤ (i : Int))) = true := nT (by omega)
    have b1 : (decide ((0 : Int) ≤ (i : Int)) && decide ((i : Int) < (l.length : Int))) = true := dA (by omega) (by omega)
    have hd : List.getD l i (((0 : Int), (0 : Int), ()), ((0 : Int), (0 : Int), ()), ()) = zn l i := rfl
    have e1 := f117_four 1000 (zn l i).1.1 (zn l i).1.2.1 (zn l i).2.1.1 (zn l i).2.1.2.1 (by omega) (by omega)
    have c79 : ∀ a b : Int, f79 ([a, b], ()) = some (firstNZ [a, b], ()) := f79_two
    simp only [s171_0, t171_0, Tr.val_test, Tr.val_fin, Tr.val_stop, leF_eq, eqF_eq, b0, b1, if_true, Int.toNat_natCast, wrap64_nat (show i ≤ 9223372036854775806 by omega), hd, e1, g117, f80_eq, g80, c79, g79, Option.isSome_some, Option.getD_some]
    rcases Bool.eq_false_or_eq_true (okP (zn l i).1.1 && okP (zn l i).1.2.1 && okP (zn l i).2.1.1 && okP (zn l i).2.1.2.1) with h1 | h1 <;>
      (have h1' := h1; unfold okP at h1'; by_cases h2 : (zn l i).1.1 ≤ (zn l i).1.2.1 <;> by_cases h3 : (zn l i).2.1.1 ≤ (zn l i).2.1.2.1 <;> simp [h1', h1, h2, h3, zE, firstNZ])
  · simp [s171_0, t171_0, leF_eq]

def zsE (l : List ZN) : Int := if 8 < l.length then 8 else firstE (α := Unit) (fun i => zE (zn l i)) l.length
def psE (l : List RD) : Int := if 20 < l.length then 8 else firstE (α := Unit) (fun i => pE (rd l i)) l.length

theorem f135_eq (l : List ZN) (h : l.length ≤ 1000000000) : f135 (l, ()) = some (zsE l, ()) := by
  have hl := l171 l h
  unfold zsE firstE
  by_cases h8 : 8 < l.length
  · have b0 : (!decide ((l.length : Int) ≤ 8)) = true := nT (by omega)
    simp only [f135, t135, Tr.val_test, Tr.val_fin, leF_eq, b0, if_true, if_pos h8]
  · have b0 : (!decide ((l.length : Int) ≤ 8)) = false := nF (by omega)
    rw [if_neg h8]
    cases hf : first (fun i => !decide (zE (zn l i) = 0)) l.length 0 with
    | none =>
      rw [hf] at hl
      simp only [f135, t135, Tr.val_test, Tr.val_fin, leF_eq, b0, hl, isRet, Option.isSome_some, if_true, Bool.false_eq_true, if_false]
    | some k =>
      rw [hf] at hl
      simp only [f135, t135, Tr.val_test, Tr.val_fin, leF_eq, b0, hl, isRet, r171_0, outR, Option.isSome_some, if_true, Bool.false_eq_true, if_false]

theorem l173 (l : List RD) (h : l.length ≤ 1000000000) : l173_0 ((l, (l.length : Int), (0 : Int), ()), ()) = match first (fun i => !decide (pE (rd l i) = 0)) l.length 0 with
    | some k => some (.inr (((k : Int), pE (rd l k), ()), ()))
    | none => some (.inl ((), ())) := by
  refine itr_search (fun i => ((l, (l.length : Int), (i : Int), ()), ())) (fun i => !decide (pE (rd l i) = 0)) (fun k => (((k : Int), pE (rd l k), ()), ())) (n := l.length) ?_ ?_ (lt_rounds (by omega))
  · intro i hi
    have b0 : (!decide ((l.length : Int) ≤ (i : Int))) = true := nT (by omega)
    have b1 : (decide ((0 : Int) ≤ (i : Int)) && decide ((i : Int) < (l.length : Int))) = true := dA (by omega) (by omega)
    have hd : List.getD l i ((0 : Int), (0 : Int), ()) = rd l i := rfl
    have e1 := f117_two 1000 (rd l i).1 (rd l i).2.1 (by omega) (by omega)
    simp only [s173_0, t173_0, Tr.val_test, Tr.val_fin, Tr.val_stop, leF_eq, eqF_eq, b0, b1, if_true, Int.toNat_natCast, wrap64_nat (show i ≤ 9223372036854775806 by omega), hd, e1, g117, f80_eq, g80, Option.isSome_some, Option.getD_some]
    rcases Bool.eq_false_or_eq_true (okP (rd l i).1 && okP (rd l i).2.1) with h1 | h1 <;>
      (have h1' := h1; unfold okP at h1'; simp [h1', h1, pE])
  · simp [s173_0, t173_0, leF_eq]

theorem f136_eq (l : List RD) (h : l.length ≤ 1000000000) : f136 (l, ()) = some (psE l, ()) := by
  have hl := l173 l h
  unfold psE firstE
  by_cases h8 : 20 < l.length
  · have b0 : (!decide ((l.length : Int) ≤ 20)) = true := nT (by omega)
    simp only [f136, t136, Tr.val_test, Tr.val_fin, leF_eq, b0, if_true, if_pos h8]
  · have b0 : (!decide ((l.length : Int) ≤ 20)) = false := nF (by omega)
    rw [if_neg h8]
    cases hf : first (fun i => !decide (pE (rd l i) = 0)) l.length 0 with
    | none =>
      rw [hf] at hl
      simp only [f136, t136, Tr.val_test, Tr.val_fin, leF_eq, b0, hl, isRet, Option.isSome_some, if_true, Bool.false_eq_true, if_false]
    | some k =>
      rw [hf] at hl
      simp only [f136, t136, Tr.val_test, Tr.val_fin, leF_eq, b0, hl, isRet, r173_0, outR, Option.isSome_some, if_true, Bool.false_eq_true, if_false]

/-! ### One line, one zone -/

def mx (a b : Int) : Int := if a < b then b else a
def mn (a b : Int) : Int := if b < a then b else a
/-- Both are on the same side, outside. -/
def bes (a c lo hi : Int) : Bool := if (!decide (lo ≤ mx a c)) = true then true else (!decide (mn a c ≤ hi))

theorem f177_x (a b c d lo hi : Int) : f177 (((a, b, ()), (c, d, ()), ()), (lo, hi, ()), (0 : Int), ()) = some (bes a c lo hi, ()) := by
  simp only [f177, t177, Tr.val_test, Tr.val_fin, Tr.val_stop, leF_eq]
  rw [if_pos (by rfl), if_pos (by rfl), if_pos (by rfl)]
  unfold bes
  show (if (!decide (lo ≤ mx a c)) = true then some (true, ()) else some ((!decide (mn a c ≤ hi)), ())) = _
  by_cases h : (!decide (lo ≤ mx a c)) = true
  · rw [if_pos h, if_pos h]
  · rw [if_neg h, if_neg h]

theorem f177_y (a b c d lo hi : Int) : f177 (((a, b, ()), (c, d, ()), ()), (lo, hi, ()), (1 : Int), ()) = some (bes b d lo hi, ()) := by
  simp only [f177, t177, Tr.val_test, Tr.val_fin, Tr.val_stop, leF_eq]
  rw [if_pos (by rfl), if_pos (by rfl), if_pos (by rfl)]
  unfold bes
  show (if (!decide (lo ≤ mx b d)) = true then some (true, ()) else some ((!decide (mn b d ≤ hi)), ())) = _
  by_cases h : (!decide (lo ≤ mx b d)) = true
  · rw [if_pos h, if_pos h]
  · rw [if_neg h, if_neg h]

/-- On which side of the line from p to q a place is. -/
def sdW (p q : RD) (x y : Int) : Int := wrap64 (wrap64 (wrap64 (q.1 - p.1) * wrap64 (y - p.2.1)) - wrap64 (wrap64 (q.2.1 - p.2.1) * wrap64 (x - p.1)))
def sd (p q : RD) (x y : Int) : Int := (q.1 - p.1) * (y - p.2.1) - (q.2.1 - p.2.1) * (x - p.1)

theorem mulB {x y : Int} (h1 : -2000 ≤ x) (h2 : x ≤ 2000) (h3 : -2000 ≤ y) (h4 : y ≤ 2000) : -4000000 ≤ x * y ∧ x * y ≤ 4000000 := by
  have a1 := Int.mul_nonneg (show 0 ≤ 2000 - x by omega) (show 0 ≤ 2000 - y by omega)
  have a2 := Int.mul_nonneg (show 0 ≤ 2000 + x by omega) (show 0 ≤ 2000 + y by omega)
  have a3 := Int.mul_nonneg (show 0 ≤ 2000 - x by omega) (show 0 ≤ 2000 + y by omega)
  have a4 := Int.mul_nonneg (show 0 ≤ 2000 + x by omega) (show 0 ≤ 2000 - y by omega)
  have e1 : (2000 - x) * (2000 - y) = 4000000 - 2000 * x - 2000 * y + x * y := by grind
  have e2 : (2000 + x) * (2000 + y) = 4000000 + 2000 * x + 2000 * y + x * y := by grind
  have e3 : (2000 - x) * (2000 + y) = 4000000 - 2000 * x + 2000 * y - x * y := by grind
  have e4 : (2000 + x) * (2000 - y) = 4000000 + 2000 * x - 2000 * y - x * y := by grind
  omega

def inB (x : Int) : Prop := -1000 ≤ x ∧ x ≤ 1000

theorem sdW_eq {p q : RD} {x y : Int} (h1 : inB p.1) (h2 : inB p.2.1) (h3 : inB q.1) (h4 : inB q.2.1) (h5 : inB x) (h6 : inB y) : sdW p q x y = sd p q x y := by
  unfold inB at *
  unfold sdW sd
  have w1 : wrap64 (q.1 - p.1) = q.1 - p.1 := wrap64_id (by omega) (by omega)
  have w2 : wrap64 (y - p.2.1) = y - p.2.1 := wrap64_id (by omega) (by omega)
  have w3 : wrap64 (q.2.1 - p.2.1) = q.2.1 - p.2.1 := wrap64_id (by omega) (by omega)
  have w4 : wrap64 (x - p.1) = x - p.1 := wrap64_id (by omega) (by omega)
  have b1 := mulB (x := q.1 - p.1) (y := y - p.2.1) (by omega) (by omega) (by omega) (by omega)
  have b2 := mulB (x := q.2.1 - p.2.1) (y := x - p.1) (by omega) (by omega) (by omega) (by omega)
  rw [w1, w2, w3, w4, wrap64_id (n := (q.1 - p.1) * (y - p.2.1)) (by omega) (by omega), wrap64_id (n := (q.2.1 - p.2.1) * (x - p.1)) (by omega) (by omega), wrap64_id (by omega) (by omega)]

theorem f179_eq (p q : RD) (x y : Int) : f179 (((p.1, p.2.1, ()), (q.1, q.2.1, ()), ()), (x, y, ()), ()) = some (sdW p q x y, ()) := rfl

def mnI (x m : Int) : Int := if x < m then x else m
def mxI (x m : Int) : Int := if m < x then x else m

theorem f180_four (a b c d : Int) : f180 ([a, b, c, d], ()) = some (mnI d (mnI c (mnI b a)), ()) := by
  have key : l180_0 (([a, b, c, d], a, (1 : Int), ()), ()) = some (.inl ((mnI d (mnI c (mnI b a)), ()), ())) := by
    refine itr_brk (fun i => match i with
      | 0 => (([a, b, c, d], a, (1 : Int), ()), ())
      | 1 => (([a, b, c, d], mnI b a, (2 : Int), ()), ())
      | 2 => (([a, b, c, d], mnI c (mnI b a), (3 : Int), ()), ())
      | _ => (([a, b, c, d], mnI d (mnI c (mnI b a)), (4 : Int), ()), ())) (n := 3) ?_ ?_ (lt_rounds (by omega))
    · intro i hi
      match i, hi with
      | 0, _ => rfl
      | 1, _ => rfl
      | 2, _ => rfl
    · rfl
  show (t180 [a, b, c, d]).val = _
  unfold t180
  simp only [Tr.val_test, Tr.val_fin, Tr.val_stop]
  have c0 : (!leF (1 : Int) (([a, b, c, d] : List Int).length : Int)) = false := rfl
  have c1 : (true && decide ((0 : Int) < (([a, b, c, d] : List Int).length : Int))) = true := rfl
  rw [c0, c1]
  have key' : l180_0 (([a, b, c, d], List.getD [a, b, c, d] 0 0, (1 : Int), ()), ()) = some (.inl ((mnI d (mnI c (mnI b a)), ()), ())) := key
  simp only [key', isBrk, b180_0, outB, if_true, Bool.false_eq_true, if_false]

theorem f181_four (a b c d : Int) : f181 ([a, b, c, d], ()) = some (mxI d (mxI c (mxI b a)), ()) := by
  have key : l181_0 (([a, b, c, d], a, (1 : Int), ()), ()) = some (.inl ((mxI d (mxI c (mxI b a)), ()), ())) := by
    refine itr_brk (fun i => match i with
      | 0 => (([a, b, c, d], a, (1 : Int), ()), ())
      | 1 => (([a, b, c, d], mxI b a, (2 : Int), ()), ())
      | 2 => (([a, b, c, d], mxI c (mxI b a), (3 : Int), ()), ())
      | _ => (([a, b, c, d], mxI d (mxI c (mxI b a)), (4 : Int), ()), ())) (n := 3) ?_ ?_ (lt_rounds (by omega))
    · intro i hi
      match i, hi with
      | 0, _ => rfl
      | 1, _ => rfl
      | 2, _ => rfl
    · rfl
  show (t181 [a, b, c, d]).val = _
  unfold t181
  simp only [Tr.val_test, Tr.val_fin, Tr.val_stop]
  have c0 : (!leF (1 : Int) (([a, b, c, d] : List Int).length : Int)) = false := rfl
  have c1 : (true && decide ((0 : Int) < (([a, b, c, d] : List Int).length : Int))) = true := rfl
  rw [c0, c1]
  have key' : l181_0 (([a, b, c, d], List.getD [a, b, c, d] 0 0, (1 : Int), ()), ()) = some (.inl ((mxI d (mxI c (mxI b a)), ()), ())) := key
  simp only [key', isBrk, b181_0, outB, if_true, Bool.false_eq_true, if_false]

end Go.Vm.Mo

namespace Go.Vm.Mo
open Go
set_option linter.unusedVariables false
set_option linter.unusedSimpArgs false

def mS (p q : RD) (z : ZN) : Int := mnI (sdW p q z.1.2.1 z.2.1.2.1) (mnI (sdW p q z.1.2.1 z.2.1.1) (mnI (sdW p q z.1.1 z.2.1.2.1) (sdW p q z.1.1 z.2.1.1)))
def MS (p q : RD) (z : ZN) : Int := mxI (sdW p q z.1.2.1 z.2.1.2.1) (mxI (sdW p q z.1.2.1 z.2.1.1) (mxI (sdW p q z.1.1 z.2.1.2.1) (sdW p q z.1.1 z.2.1.1)))

theorem l139 (p q : RD) (x0 x1 y0 y1 : Int) :
    l139_0 (((x0, y0, x0, y1, x1, y0, x1, y1, ()), (0 : Int), ()), (p.1, p.2.1, q.1, q.2.1, ()), ((0 : Int), (0 : Int), (0 : Int), (0 : Int), ()), ()) = some (.inl ((), (p.1, p.2.1, q.1, q.2.1, ()), (sdW p q x0 y0, sdW p q x0 y1, sdW p q x1 y0, sdW p q x1 y1, ()), ())) := by
  refine itr_brk (fun i => match i with
    | 0 => (((x0, y0, x0, y1, x1, y0, x1, y1, ()), (0 : Int), ()), (p.1, p.2.1, q.1, q.2.1, ()), ((0 : Int), (0 : Int), (0 : Int), (0 : Int), ()), ())
    | 1 => (((x0, y0, x0, y1, x1, y0, x1, y1, ()), (1 : Int), ()), (p.1, p.2.1, q.1, q.2.1, ()), (sdW p q x0 y0, (0 : Int), (0 : Int), (0 : Int), ()), ())
    | 2 => (((x0, y0, x0, y1, x1, y0, x1, y1, ()), (2 : Int), ()), (p.1, p.2.1, q.1, q.2.1, ()), (sdW p q x0 y0, sdW p q x0 y1, (0 : Int), (0 : Int), ()), ())
    | 3 => (((x0, y0, x0, y1, x1, y0, x1, y1, ()), (3 : Int), ()), (p.1, p.2.1, q.1, q.2.1, ()), (sdW p q x0 y0, sdW p q x0 y1, sdW p q x1 y0, (0 : Int), ()), ())
    | _ => (((x0, y0, x0, y1, x1, y0, x1, y1, ()), (4 : Int), ()), (p.1, p.2.1, q.1, q.2.1, ()), (sdW p q x0 y0, sdW p q x0 y1, sdW p q x1 y0, sdW p q x1 y1, ()), ())) (n := 4) ?_ ?_ (lt_rounds (by omega))
  · intro i hi
    match i, hi with
    | 0, _ => rfl
    | 1, _ => rfl
    | 2, _ => rfl
    | 3, _ => rfl
  · rfl

/-- Whether the line from p to q touches the zone, as the program says. -/
def tW (p q : RD) (z : ZN) : Bool := if bes p.1 q.1 z.1.1 z.1.2.1 = true then false else if bes p.2.1 q.2.1 z.2.1.1 z.2.1.2.1 = true then false else if decide (mS p q z ≤ 0) = true then decide (0 ≤ MS p q z) else false

theorem f139_eq (p q : RD) (z : ZN) : f139 (((p.1, p.2.1, ()), (q.1, q.2.1, ()), ()), ((z.1.1, z.1.2.1, ()), (z.2.1.1, z.2.1.2.1, ()), ()), ()) = some (tW p q z, ()) := by
  have e1 := f177_x p.1 p.2.1 q.1 q.2.1 z.1.1 z.1.2.1
  have e2 := f177_y p.1 p.2.1 q.1 q.2.1 z.2.1.1 z.2.1.2.1
  have e3 := l139 p q z.1.1 z.1.2.1 z.2.1.1 z.2.1.2.1
  have e4 : f180 ([sdW p q z.1.1 z.2.1.1, sdW p q z.1.1 z.2.1.2.1, sdW p q z.1.2.1 z.2.1.1, sdW p q z.1.2.1 z.2.1.2.1], ()) = some (mS p q z, ()) := f180_four _ _ _ _
  have e5 : f181 ([sdW p q z.1.1 z.2.1.1, sdW p q z.1.1 z.2.1.2.1, sdW p q z.1.2.1 z.2.1.1, sdW p q z.1.2.1 z.2.1.2.1], ()) = some (MS p q z, ()) := f181_four _ _ _ _
  have e6 : f178 (((z.1.1, z.1.2.1, ()), (z.2.1.1, z.2.1.2.1, ()), ()), ()) = some (((z.1.1, z.2.1.1, ()), (z.1.1, z.2.1.2.1, ()), (z.1.2.1, z.2.1.1, ()), (z.1.2.1, z.2.1.2.1, ()), ()), ()) := rfl
  simp only [f139, t139, Tr.val_test, Tr.val_fin, Tr.val_stop, leF_eq, e1, g177, e2, e6, g178, e3, isBrk, b139_0, outB, e4, g180, e5, g181, Option.isSome_some, Option.getD_some, if_true, tW]
  rcases Bool.eq_false_or_eq_true (bes p.1 q.1 z.1.1 z.1.2.1) with h1 | h1
  · simp only [h1, if_true]
  · rcases Bool.eq_false_or_eq_true (bes p.2.1 q.2.1 z.2.1.1 z.2.1.2.1) with h2 | h2
    · simp only [h1, h2, if_true, if_false, Bool.false_eq_true]
    · simp only [h1, h2, if_true, if_false, Bool.false_eq_true]
      rcases Bool.eq_false_or_eq_true (decide (mS p q z ≤ 0)) with h3 | h3
      · simp only [h3, if_true]
      · simp only [h3, if_false, Bool.false_eq_true]

/-! ### What that means -/

def Tch (p q : RD) (z : ZN) : Prop :=
  ((z.1.1 ≤ p.1 ∨ z.1.1 ≤ q.1) ∧ (p.1 ≤ z.1.2.1 ∨ q.1 ≤ z.1.2.1)) ∧ ((z.2.1.1 ≤ p.2.1 ∨ z.2.1.1 ≤ q.2.1) ∧ (p.2.1 ≤ z.2.1.2.1 ∨ q.2.1 ≤ z.2.1.2.1)) ∧
  (sd p q z.1.1 z.2.1.1 ≤ 0 ∨ sd p q z.1.1 z.2.1.2.1 ≤ 0 ∨ sd p q z.1.2.1 z.2.1.1 ≤ 0 ∨ sd p q z.1.2.1 z.2.1.2.1 ≤ 0) ∧
  (0 ≤ sd p q z.1.1 z.2.1.1 ∨ 0 ≤ sd p q z.1.1 z.2.1.2.1 ∨ 0 ≤ sd p q z.1.2.1 z.2.1.1 ∨ 0 ≤ sd p q z.1.2.1 z.2.1.2.1)

instance (p q : RD) (z : ZN) : Decidable (Tch p q z) := by unfold Tch; infer_instance

def zB (z : ZN) : Prop := inB z.1.1 ∧ inB z.1.2.1 ∧ inB z.2.1.1 ∧ inB z.2.1.2.1
def pB (p : RD) : Prop := inB p.1 ∧ inB p.2.1

theorem bes_iff {a c lo hi : Int} : bes a c lo hi = true ↔ ¬ ((lo ≤ a ∨ lo ≤ c) ∧ (a ≤ hi ∨ c ≤ hi)) := by
  unfold bes mx mn
  by_cases h1 : a < c <;> by_cases h2 : c < a <;> simp only [h1, h2, if_true, if_false]
  all_goals
    split
    · rename_i h
      simp only [Bool.not_eq_true', decide_eq_false_iff_not] at h
      simp only [true_iff]; omega
    · rename_i h
      simp only [Bool.not_eq_true', decide_eq_false_iff_not] at h ⊢
      omega

theorem mnI_le {x m : Int} : mnI x m ≤ 0 ↔ x ≤ 0 ∨ m ≤ 0 := by unfold mnI; split <;> omega
theorem mxI_ge {x m : Int} : 0 ≤ mxI x m ↔ 0 ≤ x ∨ 0 ≤ m := by unfold mxI; split <;> omega

theorem tW_iff {p q : RD} {z : ZN} (hp : pB p) (hq : pB q) (hz : zB z) : tW p q z = true ↔ Tch p q z := by
  obtain ⟨p1, p2⟩ := hp
  obtain ⟨q1, q2⟩ := hq
  obtain ⟨z1, z2, z3, z4⟩ := hz
  have e1 := sdW_eq p1 p2 q1 q2 z1 z3
  have e2 := sdW_eq p1 p2 q1 q2 z1 z4
  have e3 := sdW_eq p1 p2 q1 q2 z2 z3
  have e4 := sdW_eq p1 p2 q1 q2 z2 z4
  have m1 : mS p q z ≤ 0 ↔ (sd p q z.1.1 z.2.1.1 ≤ 0 ∨ sd p q z.1.1 z.2.1.2.1 ≤ 0 ∨ sd p q z.1.2.1 z.2.1.1 ≤ 0 ∨ sd p q z.1.2.1 z.2.1.2.1 ≤ 0) := by
    unfold mS
    rw [e1, e2, e3, e4, mnI_le, mnI_le, mnI_le]
    omega
  have m2 : 0 ≤ MS p q z ↔ (0 ≤ sd p q z.1.1 z.2.1.1 ∨ 0 ≤ sd p q z.1.1 z.2.1.2.1 ∨ 0 ≤ sd p q z.1.2.1 z.2.1.1 ∨ 0 ≤ sd p q z.1.2.1 z.2.1.2.1) := by
    unfold MS
    rw [e1, e2, e3, e4, mxI_ge, mxI_ge, mxI_ge]
    omega
  unfold tW Tch
  by_cases h1 : bes p.1 q.1 z.1.1 z.1.2.1 = true
  · rw [if_pos h1]
    have := bes_iff.1 h1
    simp only [Bool.false_eq_true, false_iff]
    exact fun h => this h.1
  · rw [if_neg h1]
    have k1 : (z.1.1 ≤ p.1 ∨ z.1.1 ≤ q.1) ∧ (p.1 ≤ z.1.2.1 ∨ q.1 ≤ z.1.2.1) := Decidable.by_contra fun h => h1 (bes_iff.2 h)
    by_cases h2 : bes p.2.1 q.2.1 z.2.1.1 z.2.1.2.1 = true
    · rw [if_pos h2]
      have := bes_iff.1 h2
      simp only [Bool.false_eq_true, false_iff]
      exact fun h => this h.2.1
    · rw [if_neg h2]
      have k2 : (z.2.1.1 ≤ p.2.1 ∨ z.2.1.1 ≤ q.2.1) ∧ (p.2.1 ≤ z.2.1.2.1 ∨ q.2.1 ≤ z.2.1.2.1) := Decidable.by_contra fun h => h2 (bes_iff.2 h)
      by_cases h3 : mS p q z ≤ 0
      · rw [if_pos (dT h3), decide_eq_true_eq, m2]
        exact ⟨fun h => ⟨k1, k2, m1.1 h3, h⟩, fun h => h.2.2.2⟩
      · rw [if_neg (by simp [h3])]
        simp only [Bool.false_eq_true, false_iff]
        exact fun h => h3 (m1.2 h.2.2.1)

theorem sd_swap (p q : RD) (x y : Int) : sd q p x y = - sd p q x y := by unfold sd; grind

theorem tch_swap {p q : RD} {z : ZN} : Tch p q z ↔ Tch q p z := by
  unfold Tch
  rw [sd_swap p q z.1.1 z.2.1.1, sd_swap p q z.1.1 z.2.1.2.1, sd_swap p q z.1.2.1 z.2.1.1, sd_swap p q z.1.2.1 z.2.1.2.1]
  constructor <;> (rintro ⟨⟨a1, a2⟩, ⟨b1, b2⟩, c, d⟩; refine ⟨⟨?_, ?_⟩, ⟨?_, ?_⟩, ?_, ?_⟩ <;> omega)

/-- A place in a zone. -/
def Ins (p : RD) (z : ZN) : Prop := (z.1.1 ≤ p.1 ∧ p.1 ≤ z.1.2.1) ∧ (z.2.1.1 ≤ p.2.1 ∧ p.2.1 ≤ z.2.1.2.1)

theorem ins_of_tch {p : RD} {z : ZN} (h : Tch p p z) : Ins p z := by
  obtain ⟨⟨a1, a2⟩, ⟨b1, b2⟩, _⟩ := h
  exact ⟨⟨by omega, by omega⟩, ⟨by omega, by omega⟩⟩

theorem mul_step {d a b : Int} (h : 0 ≤ d) (k : a ≤ b) : d * a ≤ d * b := Int.mul_le_mul_of_nonneg_left k h
theorem mul_step' {d a b : Int} (h : d ≤ 0) (k : a ≤ b) : d * b ≤ d * a := Int.mul_le_mul_of_nonpos_left h k

/-- A line from a place in a zone touches it. -/
theorem tch_of_ins {p q : RD} {z : ZN} (h : Ins p z) : Tch p q z := by
  obtain ⟨⟨a1, a2⟩, b1, b2⟩ := h
  refine ⟨⟨.inl a1, .inl a2⟩, ⟨.inl b1, .inl b2⟩, ?_, ?_⟩
  all_goals
    unfold sd
    rcases Int.le_total 0 (q.1 - p.1) with hx | hx <;> rcases Int.le_total 0 (q.2.1 - p.2.1) with hy | hy
  all_goals
    generalize q.1 - p.1 = dx at *
    generalize q.2.1 - p.2.1 = dy at *
  · have s1 := mul_step hx (show z.2.1.1 - p.2.1 ≤ 0 by omega)
    have s2 := mul_step hy (show 0 ≤ z.1.2.1 - p.1 by omega)
    rw [Int.mul_zero] at s1 s2
    exact .inr (.inr (.inl (by omega)))
  · have s1 := mul_step hx (show z.2.1.1 - p.2.1 ≤ 0 by omega)
    have s2 := mul_step' hy (show z.1.1 - p.1 ≤ 0 by omega)
    rw [Int.mul_zero] at s1 s2
    exact .inl (by omega)
  · have s1 := mul_step' hx (show 0 ≤ z.2.1.2.1 - p.2.1 by omega)
    have s2 := mul_step hy (show 0 ≤ z.1.2.1 - p.1 by omega)
    rw [Int.mul_zero] at s1 s2
    exact .inr (.inr (.inr (by omega)))
  · have s1 := mul_step' hx (show 0 ≤ z.2.1.2.1 - p.2.1 by omega)
    have s2 := mul_step' hy (show z.1.1 - p.1 ≤ 0 by omega)
    rw [Int.mul_zero] at s1 s2
    exact .inr (.inl (by omega))
  · have s1 := mul_step hx (show 0 ≤ z.2.1.2.1 - p.2.1 by omega)
    have s2 := mul_step hy (show z.1.1 - p.1 ≤ 0 by omega)
    rw [Int.mul_zero] at s1 s2
    exact .inr (.inl (by omega))
  · have s1 := mul_step hx (show 0 ≤ z.2.1.2.1 - p.2.1 by omega)
    have s2 := mul_step' hy (show 0 ≤ z.1.2.1 - p.1 by omega)
    rw [Int.mul_zero] at s1 s2
    exact .inr (.inr (.inr (by omega)))
  · have s1 := mul_step' hx (show z.2.1.1 - p.2.1 ≤ 0 by omega)
    have s2 := mul_step hy (show z.1.1 - p.1 ≤ 0 by omega)
    rw [Int.mul_zero] at s1 s2
    exact .inl (by omega)
  · have s1 := mul_step' hx (show z.2.1.1 - p.2.1 ≤ 0 by omega)
    have s2 := mul_step' hy (show 0 ≤ z.1.2.1 - p.1 by omega)
    rw [Int.mul_zero] at s1 s2
    exact .inr (.inr (.inl (by omega)))

end Go.Vm.Mo

namespace Go.Vm.Mo
open Go
set_option linter.unusedVariables false
set_option linter.unusedSimpArgs false

theorem isSome_first {bad : Nat → Bool} {n : Nat} : (first bad n 0).isSome = true ↔ ∃ i, i < n ∧ bad i = true := by
  cases h : first bad n 0 with
  | none =>
    simp only [Option.isSome_none, Bool.false_eq_true, false_iff]
    rintro ⟨i, hi, hb⟩
    rw [first_none h i (by omega) (by omega)] at hb; cases hb
  | some k =>
    obtain ⟨_, h2, h3, _⟩ := first_some h
    simp only [Option.isSome_some, true_iff]
    exact ⟨k, by omega, h3⟩

theorem isNone_first {bad : Nat → Bool} {n : Nat} : (first bad n 0).isNone = true ↔ ∀ i, i < n → bad i = false := by
  cases h : first bad n 0 with
  | none =>
    simp only [Option.isNone_none, true_iff]
    exact fun i hi => first_none h i (by omega) (by omega)
  | some k =>
    obtain ⟨_, h2, h3, _⟩ := first_some h
    simp only [Option.isNone_some, Bool.false_eq_true, false_iff]
    intro hb
    rw [hb k (by omega)] at h3; cases h3

theorem l176 (zs : List ZN) (p q : RD) (h : zs.length ≤ 1000000000) : l176_0 ((zs, (p.1, p.2.1, q.1, q.2.1, ()), (zs.length : Int), (0 : Int), ()), ()) = match first (fun k => tW p q (zn zs k)) zs.length 0 with
    | some k => some (.inr (((k : Int), ()), ()))
    | none => some (.inl ((), ())) := by
  refine itr_search (fun i => ((zs, (p.1, p.2.1, q.1, q.2.1, ()), (zs.length : Int), (i : Int), ()), ())) (fun k => tW p q (zn zs k)) (fun k => (((k : Int), ()), ())) (n := zs.length) ?_ ?_ (lt_rounds (by omega))
  · intro i hi
    have b0 : (!decide ((zs.length : Int) ≤ (i : Int))) = true := nT (by omega)
    have b1 : (decide ((0 : Int) ≤ (i : Int)) && decide ((i : Int) < (zs.length : Int))) = true := dA (by omega) (by omega)
    have hd : List.getD zs i (((0 : Int), (0 : Int), ()), ((0 : Int), (0 : Int), ()), ()) = zn zs i := rfl
    have e1 := f139_eq p q (zn zs i)
    simp only [s176_0, t176_0, Tr.val_test, Tr.val_fin, Tr.val_stop, leF_eq, b0, b1, if_true, Int.toNat_natCast, hd, e1, g139, Option.isSome_some, Option.getD_some, wrap64_nat (show i ≤ 9223372036854775806 by omega)]
  · simp [s176_0, t176_0, leF_eq]

def hit (zs : List ZN) (ps : List RD) (i : Nat) : Bool := (first (fun k => tW (rd ps (i - 1)) (rd ps i) (zn zs k)) zs.length 0).isSome
def clearB (zs : List ZN) (ps : List RD) : Bool := (first (hit zs ps) ps.length 0).isNone

theorem l175 (zs : List ZN) (ps : List RD) (h : zs.length ≤ 1000000000) (h2 : ps.length ≤ 1000000000) :
    l175_0 ((ps, (ps.length : Int), (0 : Int), ()), (), (ps, ()), (zs, ()), ((0 : Int), ()), ((0 : Int), ()), ()) = match first (hit zs ps) ps.length 0 with
    | some _ => some (.inr ((), (), (ps, ()), (zs, ()), ((0 : Int), ()), ((13 : Int), ()), ()))
    | none => some (.inl ((), (), (ps, ()), (zs, ()), ((0 : Int), ()), ((0 : Int), ()), ())) := by
  refine itr_search (fun i => ((ps, (ps.length : Int), (i : Int), ()), (), (ps, ()), (zs, ()), ((0 : Int), ()), ((0 : Int), ()), ())) (hit zs ps) (fun _ => ((), (), (ps, ()), (zs, ()), ((0 : Int), ()), ((13 : Int), ()), ())) (n := ps.length) ?_ ?_ (lt_rounds (by omega))
  · intro i hi
    have b0 : (!decide ((ps.length : Int) ≤ (i : Int))) = true := nT (by omega)
    have b1 : (decide ((0 : Int) ≤ (i : Int)) && decide ((i : Int) < (ps.length : Int))) = true := dA (by omega) (by omega)
    have w1 : wrap64 ((i : Int) - 1) = (i : Int) - 1 := wrap64_id (by omega) (by omega)
    have hj : (if (i : Int) - 1 < 0 then (0 : Int) else (i : Int) - 1) = ((i - 1 : Nat) : Int) := by split <;> omega
    have b2 : (decide ((0 : Int) ≤ ((i - 1 : Nat) : Int)) && decide (((i - 1 : Nat) : Int) < (ps.length : Int))) = true := dA (by omega) (by omega)
    have hd : ∀ j, List.getD ps j ((0 : Int), (0 : Int), ()) = rd ps j := fun _ => rfl
    have e1 := l176 zs (rd ps (i - 1)) (rd ps i) h
    simp only [s175_0, t175_0, Tr.val_test, Tr.val_fin, Tr.val_stop, leF_eq, b0, b1, b2, w1, hj, if_true, Int.toNat_natCast, hd, wrap64_nat (show i ≤ 9223372036854775806 by omega)]
    cases hf : first (fun k => tW (rd ps (i - 1)) (rd ps i) (zn zs k)) zs.length 0 with
    | none =>
      rw [hf] at e1
      have hh : hit zs ps i = false := by unfold hit; rw [hf]; rfl
      simp only [e1, hh, isRet, Option.isSome_some, if_true, if_false, Bool.false_eq_true]
    | some k =>
      rw [hf] at e1
      have hh : hit zs ps i = true := by unfold hit; rw [hf]; rfl
      have b3 : decide ((0 : Int) ≤ (k : Int)) = true := dT (by omega)
      simp only [e1, hh, isRet, r176_0, outR, b3, Option.isSome_some, if_true]
  · simp [s175_0, t175_0, leF_eq]

def zpE (zs : List ZN) (ps : List RD) : Int := firstNZ [zsE zs, psE ps]
def outC (zs : List ZN) (ps : List RD) : Int × Int × Unit := if zpE zs ps = 0 then (if clearB zs ps = true then ((ps.length : Int), 0, ()) else (0, 13, ())) else (0, zpE zs ps, ())

theorem f70_eq (zs : List ZN) (ps : List RD) (h : zs.length ≤ 1000000000) (h2 : ps.length ≤ 1000000000) : f70 (zs, ps, ()) = some (outC zs ps) := by
  have hl := l175 zs ps h h2
  have c79 : ∀ a b : Int, f79 ([a, b], ()) = some (firstNZ [a, b], ()) := f79_two
  have c135 := f135_eq zs h
  have c136 := f136_eq ps h2
  simp only [f70, t70, Tr.val_test, Tr.val_fin, Tr.val_stop, leF_eq, eqF_eq, c135, g135, c136, g136, c79, g79, Option.isSome_some, Option.getD_some, if_true]
  rw [show firstNZ [zsE zs, psE ps] = zpE zs ps from rfl]
  unfold outC clearB
  by_cases h0 : zpE zs ps = 0
  · have c0 : (!decide (zpE zs ps = 0)) = false := nF h0
    rw [if_pos h0]
    cases hf : first (hit zs ps) ps.length 0 with
    | none =>
      rw [hf] at hl
      simp only [c0, hl, isRet, Option.isSome_some, Option.isNone_none, if_true, if_false, Bool.false_eq_true]
    | some k =>
      rw [hf] at hl
      simp only [c0, hl, isRet, r175_0, outR, Option.isSome_some, Option.isNone_some, if_true, if_false, Bool.false_eq_true]
  · have c0 : (!decide (zpE zs ps = 0)) = true := nT h0
    rw [if_neg h0]
    simp only [c0, if_true]

/-! ### The reference -/

theorem f140_eq (d : Tys.data as140) : f140 d = some (okP d.1, ()) := by
  simp only [f140, t140, Tr.val_test, Tr.val_fin, f25_eq, g25, Option.isSome_some, Option.getD_some, if_true]
  rfl

theorem l73a (zs : List ZN) (ps : List RD) (h : zs.length ≤ 1000000000) : l73_0 ((zs, ps, (0 : Int), ()), ()) = match first (fun i => !decide (zE (zn zs i) = 0)) zs.length 0 with
    | some k => some (.inr ((zE (zn zs k), ()), ()))
    | none => some (.inl ((ps, ()), ())) := by
  refine itr_search (fun i => ((zs, ps, (i : Int), ()), ())) (fun i => !decide (zE (zn zs i) = 0)) (fun k => ((zE (zn zs k), ()), ())) (n := zs.length) ?_ ?_ (lt_rounds (by omega))
  · intro i hi
    have b0 : (!decide ((zs.length : Int) ≤ (i : Int))) = true := nT (by omega)
    have b1 : (decide ((0 : Int) ≤ (i : Int)) && decide ((i : Int) < (zs.length : Int))) = true := dA (by omega) (by omega)
    have hd : List.getD zs i (((0 : Int), (0 : Int), ()), ((0 : Int), (0 : Int), ()), ()) = zn zs i := rfl
    simp only [s73_0, t73_0, Tr.val_test, Tr.val_fin, Tr.val_stop, leF_eq, b0, b1, if_true, Int.toNat_natCast, hd, f140_eq, g140, Option.isSome_some, Option.getD_some, wrap64_nat (show i ≤ 9223372036854775806 by omega)]
    rcases Bool.eq_false_or_eq_true (okP (zn zs i).1.1) with k1 | k1 <;> simp only [k1, zE, Bool.not_true, Bool.not_false, Bool.true_and, Bool.false_and, if_true, if_false, Bool.false_eq_true]
    · rcases Bool.eq_false_or_eq_true (okP (zn zs i).1.2.1) with k2 | k2 <;> simp only [k2, Bool.not_true, Bool.not_false, Bool.true_and, Bool.false_and, if_true, if_false, Bool.false_eq_true]
      · rcases Bool.eq_false_or_eq_true (okP (zn zs i).2.1.1) with k3 | k3 <;> simp only [k3, Bool.not_true, Bool.not_false, Bool.true_and, Bool.false_and, if_true, if_false, Bool.false_eq_true]
        · rcases Bool.eq_false_or_eq_true (okP (zn zs i).2.1.2.1) with k4 | k4 <;> simp only [k4, Bool.not_true, Bool.not_false, if_true, if_false, Bool.false_eq_true]
          · by_cases h2 : (zn zs i).1.1 ≤ (zn zs i).1.2.1 <;> by_cases h3 : (zn zs i).2.1.1 ≤ (zn zs i).2.1.2.1 <;> simp [h2, h3]
          · simp
        · simp
      · simp
    · simp
  · simp [s73_0, t73_0, leF_eq]

theorem l73b (ps : List RD) (h : ps.length ≤ 1000000000) : l73_2 ((ps, (0 : Int), ()), ()) = match first (fun i => !decide (pE (rd ps i) = 0)) ps.length 0 with
    | some k => some (.inr ((pE (rd ps k), ()), ()))
    | none => some (.inl ((), ())) := by
  refine itr_search (fun i => ((ps, (i : Int), ()), ())) (fun i => !decide (pE (rd ps i) = 0)) (fun k => ((pE (rd ps k), ()), ())) (n := ps.length) ?_ ?_ (lt_rounds (by omega))
  · intro i hi
    have b0 : (!decide ((ps.length : Int) ≤ (i : Int))) = true := nT (by omega)
    have b1 : (decide ((0 : Int) ≤ (i : Int)) && decide ((i : Int) < (ps.length : Int))) = true := dA (by omega) (by omega)
    have hd : List.getD ps i ((0 : Int), (0 : Int), ()) = rd ps i := rfl
    simp only [s73_2, t73_2, Tr.val_test, Tr.val_fin, Tr.val_stop, leF_eq, b0, b1, if_true, Int.toNat_natCast, hd, f140_eq, g140, Option.isSome_some, Option.getD_some, wrap64_nat (show i ≤ 9223372036854775806 by omega)]
    rcases Bool.eq_false_or_eq_true (okP (rd ps i).1) with k1 | k1 <;> rcases Bool.eq_false_or_eq_true (okP (rd ps i).2.1) with k2 | k2 <;> simp [k1, k2, pE]
  · simp [s73_2, t73_2, leF_eq]

theorem f73_eq (zs : List ZN) (ps : List RD) (h : zs.length ≤ 1000000000) (h2 : ps.length ≤ 1000000000) : f73 (zs, ps, ()) = some (zpE zs ps, ()) := by
  have ha := l73a zs ps h
  have hb := l73b ps h2
  unfold zpE zsE psE firstE
  simp only [f73, t73, Tr.val_test, Tr.val_fin, Tr.val_stop, leF_eq, firstNZ]
  by_cases h8 : 8 < zs.length
  · have b0 : (!decide ((zs.length : Int) ≤ 8)) = true := nT (by omega)
    simp only [b0, if_pos h8, if_true]
    rfl
  · have b0 : (!decide ((zs.length : Int) ≤ 8)) = false := nF (by omega)
    simp only [b0, if_neg h8, if_false, Bool.false_eq_true]
    cases hf : first (fun i => !decide (zE (zn zs i) = 0)) zs.length 0 with
    | some k =>
      obtain ⟨_, _, k3, _⟩ := first_some hf
      have k3 : ¬ zE (zn zs k) = 0 := by simpa using k3
      rw [hf] at ha
      simp only [ha, isRet, r73_0, outR, Option.isSome_some, if_true, if_neg k3]
    | none =>
      rw [hf] at ha
      by_cases h20 : 20 < ps.length
      · have b1 : (!decide ((ps.length : Int) ≤ 20)) = true := nT (by omega)
        simp only [ha, isRet, b73_0, outB, b1, if_pos h20, Option.isSome_some, if_true, if_false, Bool.false_eq_true]
        rfl
      · have b1 : (!decide ((ps.length : Int) ≤ 20)) = false := nF (by omega)
        cases hf2 : first (fun i => !decide (pE (rd ps i) = 0)) ps.length 0 with
        | some k =>
          obtain ⟨_, _, k3, _⟩ := first_some hf2
          have k3 : ¬ pE (rd ps k) = 0 := by simpa using k3
          rw [hf2] at hb
          simp only [ha, hb, isRet, b73_0, outB, r73_2, outR, b1, if_neg h20, Option.isSome_some, if_true, if_false, Bool.false_eq_true, if_neg k3]
        | none =>
          rw [hf2] at hb
          simp only [ha, hb, isRet, b73_0, outB, b1, if_neg h20, Option.isSome_some, if_true, if_false, Bool.false_eq_true]

def incL (n s : Int) : Int := if (!leF s 0) = true then wrap64 (n + 1) else n
def incR (n s : Int) : Int := if (!leF 0 s) = true then wrap64 (n + 1) else n

theorem l141 (a b : RD) (x0 x1 y0 y1 : Int) :
    l141_0 (((0 : Int), (0 : Int), (0 : Int), ()), (a.1, a.2.1, ()), (b.1, b.2.1, ()), (x0, y0, x0, y1, x1, y0, x1, y1, ()), ()) =
      some (.inl ((incL (incL (incL (incL 0 (sdW a b x0 y0)) (sdW a b x0 y1)) (sdW a b x1 y0)) (sdW a b x1 y1), incR (incR (incR (incR 0 (sdW a b x0 y0)) (sdW a b x0 y1)) (sdW a b x1 y0)) (sdW a b x1 y1), ()), (a.1, a.2.1, ()), (b.1, b.2.1, ()), (x0, y0, x0, y1, x1, y0, x1, y1, ()), ())) := by
  refine itr_brk (fun i => match i with
    | 0 => (((0 : Int), (0 : Int), (0 : Int), ()), (a.1, a.2.1, ()), (b.1, b.2.1, ()), (x0, y0, x0, y1, x1, y0, x1, y1, ()), ())
    | 1 => ((incL 0 (sdW a b x0 y0), incR 0 (sdW a b x0 y0), (1 : Int), ()), (a.1, a.2.1, ()), (b.1, b.2.1, ()), (x0, y0, x0, y1, x1, y0, x1, y1, ()), ())
    | 2 => ((incL (incL 0 (sdW a b x0 y0)) (sdW a b x0 y1), incR (incR 0 (sdW a b x0 y0)) (sdW a b x0 y1), (2 : Int), ()), (a.1, a.2.1, ()), (b.1, b.2.1, ()), (x0, y0, x0, y1, x1, y0, x1, y1, ()), ())
    | 3 => ((incL (incL (incL 0 (sdW a b x0 y0)) (sdW a b x0 y1)) (sdW a b x1 y0), incR (incR (incR 0 (sdW a b x0 y0)) (sdW a b x0 y1)) (sdW a b x1 y0), (3 : Int), ()), (a.1, a.2.1, ()), (b.1, b.2.1, ()), (x0, y0, x0, y1, x1, y0, x1, y1, ()), ())
    | _ => ((incL (incL (incL (incL 0 (sdW a b x0 y0)) (sdW a b x0 y1)) (sdW a b x1 y0)) (sdW a b x1 y1), incR (incR (incR (incR 0 (sdW a b x0 y0)) (sdW a b x0 y1)) (sdW a b x1 y0)) (sdW a b x1 y1), (4 : Int), ()), (a.1, a.2.1, ()), (b.1, b.2.1, ()), (x0, y0, x0, y1, x1, y0, x1, y1, ()), ())) (n := 4) ?_ ?_ (lt_rounds (by omega))
  · have step : ∀ (L R s : Int) (q : Int) (B : (Int × Int × Unit) × (Int × Int × Unit) × (Int × Int × Int × Int × Int × Int × Int × Int × Unit) × Unit),
        (if (!leF s 0) = true then (if (!leF 0 s) = true then some (Out.again ((wrap64 (L + 1), wrap64 (R + 1), q, ()), B)) else some (Out.again ((wrap64 (L + 1), R, q, ()), B)))
          else (if (!leF 0 s) = true then some (Out.again ((L, wrap64 (R + 1), q, ()), B)) else some (Out.again ((L, R, q, ()), B))) : Option (Out sh141_0.data shb141_0.data shr141_0.data)) = some (Out.again ((incL L s, incR R s, q, ()), B)) := by
      intro L R s q B
      unfold incL incR
      by_cases h1 : (!leF s 0) = true <;> by_cases h2 : (!leF 0 s) = true <;> simp only [h1, h2, if_true, if_false, Bool.false_eq_true]
    intro i hi
    match i, hi with
    | 0, _ =>
      simp only [s141_0, t141_0, Tr.val_test, Tr.val_fin]
      rw [if_pos (by rfl), if_pos (by rfl), if_pos (by rfl), if_pos (by rfl)]
      exact step 0 0 (sdW a b x0 y0) 1 _
    | 1, _ =>
      simp only [s141_0, t141_0, Tr.val_test, Tr.val_fin]
      rw [if_pos (by rfl), if_pos (by rfl), if_pos (by rfl), if_pos (by rfl)]
      exact step _ _ (sdW a b x0 y1) 2 _
    | 2, _ =>
      simp only [s141_0, t141_0, Tr.val_test, Tr.val_fin]
      rw [if_pos (by rfl), if_pos (by rfl), if_pos (by rfl), if_pos (by rfl)]
      exact step _ _ (sdW a b x1 y0) 3 _
    | 3, _ =>
      simp only [s141_0, t141_0, Tr.val_test, Tr.val_fin]
      rw [if_pos (by rfl), if_pos (by rfl), if_pos (by rfl), if_pos (by rfl)]
      exact step _ _ (sdW a b x1 y1) 4 _
  · rfl

theorem inc4L (a b c d : Int) : (!leF 4 (incL (incL (incL (incL 0 a) b) c) d)) = true ↔ (a ≤ 0 ∨ b ≤ 0 ∨ c ≤ 0 ∨ d ≤ 0) := by
  unfold incL
  simp only [leF_eq, Bool.not_eq_true', decide_eq_false_iff_not]
  by_cases h1 : a ≤ 0 <;> by_cases h2 : b ≤ 0 <;> by_cases h3 : c ≤ 0 <;> by_cases h4 : d ≤ 0 <;> simp only [h1, h2, h3, h4, not_true_eq_false, not_false_eq_true, if_true, if_false, true_or, or_true, or_false, or_self, iff_true, iff_false] <;> decide

theorem inc4R (a b c d : Int) : (!leF 4 (incR (incR (incR (incR 0 a) b) c) d)) = true ↔ (0 ≤ a ∨ 0 ≤ b ∨ 0 ≤ c ∨ 0 ≤ d) := by
  unfold incR
  simp only [leF_eq, Bool.not_eq_true', decide_eq_false_iff_not]
  by_cases h1 : 0 ≤ a <;> by_cases h2 : 0 ≤ b <;> by_cases h3 : 0 ≤ c <;> by_cases h4 : 0 ≤ d <;> simp only [h1, h2, h3, h4, not_true_eq_false, not_false_eq_true, if_true, if_false, true_or, or_true, or_false, or_self, iff_true, iff_false] <;> decide

theorem f141_eq {a b : RD} {z : ZN} (ha : pB a) (hb : pB b) (hz : zB z) : f141 (((z.1.1, z.1.2.1, ()), (z.2.1.1, z.2.1.2.1, ()), ()), (a.1, a.2.1, ()), (b.1, b.2.1, ()), ()) = some (decide (Tch a b z), ()) := by
  obtain ⟨p1, p2⟩ := ha
  obtain ⟨q1, q2⟩ := hb
  obtain ⟨z1, z2, z3, z4⟩ := hz
  have e1 := sdW_eq p1 p2 q1 q2 z1 z3
  have e2 := sdW_eq p1 p2 q1 q2 z1 z4
  have e3 := sdW_eq p1 p2 q1 q2 z2 z3
  have e4 := sdW_eq p1 p2 q1 q2 z2 z4
  have hl := l141 a b z.1.1 z.1.2.1 z.2.1.1 z.2.1.2.1
  rw [e1, e2, e3, e4] at hl
  have m1 := inc4L (sd a b z.1.1 z.2.1.1) (sd a b z.1.1 z.2.1.2.1) (sd a b z.1.2.1 z.2.1.1) (sd a b z.1.2.1 z.2.1.2.1)
  have m2 := inc4R (sd a b z.1.1 z.2.1.1) (sd a b z.1.1 z.2.1.2.1) (sd a b z.1.2.1 z.2.1.1) (sd a b z.1.2.1 z.2.1.2.1)
  have hb1 : (!leF z.1.1 (if a.1 < b.1 then b.1 else a.1)) = true ↔ ¬ (z.1.1 ≤ a.1 ∨ z.1.1 ≤ b.1) := by rw [leF_eq]; simp only [Bool.not_eq_true', decide_eq_false_iff_not]; split <;> omega
  have hb2 : (!leF (if b.1 < a.1 then b.1 else a.1) z.1.2.1) = true ↔ ¬ (a.1 ≤ z.1.2.1 ∨ b.1 ≤ z.1.2.1) := by rw [leF_eq]; simp only [Bool.not_eq_true', decide_eq_false_iff_not]; split <;> omega
  have hb3 : (!leF z.2.1.1 (if a.2.1 < b.2.1 then b.2.1 else a.2.1)) = true ↔ ¬ (z.2.1.1 ≤ a.2.1 ∨ z.2.1.1 ≤ b.2.1) := by rw [leF_eq]; simp only [Bool.not_eq_true', decide_eq_false_iff_not]; split <;> omega
  have hb4 : (!leF (if b.2.1 < a.2.1 then b.2.1 else a.2.1) z.2.1.2.1) = true ↔ ¬ (a.2.1 ≤ z.2.1.2.1 ∨ b.2.1 ≤ z.2.1.2.1) := by rw [leF_eq]; simp only [Bool.not_eq_true', decide_eq_false_iff_not]; split <;> omega
  simp only [f141, t141, Tr.val_test, Tr.val_fin, Tr.val_stop, hl, isBrk, b141_0, outB, if_true]
  by_cases k1 : (z.1.1 ≤ a.1 ∨ z.1.1 ≤ b.1)
  · by_cases k2 : (a.1 ≤ z.1.2.1 ∨ b.1 ≤ z.1.2.1)
    · by_cases k3 : (z.2.1.1 ≤ a.2.1 ∨ z.2.1.1 ≤ b.2.1)
      · by_cases k4 : (a.2.1 ≤ z.2.1.2.1 ∨ b.2.1 ≤ z.2.1.2.1)
        · rw [if_neg (fun h => hb1.1 h k1), if_neg (fun h => hb2.1 h k2), if_neg (fun h => hb3.1 h k3), if_neg (fun h => hb4.1 h k4)]
          by_cases k5 : (sd a b z.1.1 z.2.1.1 ≤ 0 ∨ sd a b z.1.1 z.2.1.2.1 ≤ 0 ∨ sd a b z.1.2.1 z.2.1.1 ≤ 0 ∨ sd a b z.1.2.1 z.2.1.2.1 ≤ 0)
          · rw [if_pos (m1.2 k5)]
            congr 2
            rw [Bool.eq_iff_iff, m2, decide_eq_true_eq]
            exact ⟨fun h => ⟨⟨k1, k2⟩, ⟨k3, k4⟩, k5, h⟩, fun h => h.2.2.2⟩
          · rw [if_neg (fun h => k5 (m1.1 h)), dF (fun h : Tch a b z => k5 h.2.2.1)]
        · rw [if_neg (fun h => hb1.1 h k1), if_neg (fun h => hb2.1 h k2), if_neg (fun h => hb3.1 h k3), if_pos (hb4.2 k4), dF (fun h : Tch a b z => k4 h.2.1.2)]
      · rw [if_neg (fun h => hb1.1 h k1), if_neg (fun h => hb2.1 h k2), if_pos (hb3.2 k3), dF (fun h : Tch a b z => k3 h.2.1.1)]
    · rw [if_neg (fun h => hb1.1 h k1), if_pos (hb2.2 k2), dF (fun h : Tch a b z => k2 h.1.2)]
  · rw [if_pos (hb1.2 k1), dF (fun h : Tch a b z => k1 h.1.1)]

end Go.Vm.Mo

namespace Go.Vm.Mo
open Go
set_option linter.unusedVariables false
set_option linter.unusedSimpArgs false

def zsB (zs : List ZN) : Prop := ∀ k, k < zs.length → zB (zn zs k)
def psB (ps : List RD) : Prop := ∀ i, i < ps.length → pB (rd ps i)

theorem l74b (zs : List ZN) (ps : List RD) {k : Nat} (hk : k < zs.length) (h : zs.length ≤ 1000000000) (h2 : ps.length ≤ 1000000000) (hz : zsB zs) (hp : psB ps) : l74_2 ((zs, ps, (k : Int), (0 : Int), ()), ()) = match first (fun i => decide (Tch (rd ps i) (rd ps (i - 1)) (zn zs k))) ps.length 0 with
    | some _ => some (.inr ((false, ()), ()))
    | none => some (.inl ((zs, ps, (k : Int), ()), ())) := by
  refine itr_search (fun i => ((zs, ps, (k : Int), (i : Int), ()), ())) (fun i => decide (Tch (rd ps i) (rd ps (i - 1)) (zn zs k))) (fun _ => ((false, ()), ())) (n := ps.length) ?_ ?_ (lt_rounds (by omega))
  · intro i hi
    have b0 : (!decide ((ps.length : Int) ≤ (i : Int))) = true := nT (by omega)
    have b1 : (decide ((0 : Int) ≤ (i : Int)) && decide ((i : Int) < (ps.length : Int))) = true := dA (by omega) (by omega)
    have b2 : (decide ((0 : Int) ≤ (k : Int)) && decide ((k : Int) < (zs.length : Int))) = true := dA (by omega) (by omega)
    have w1 : wrap64 ((i : Int) - 1) = (i : Int) - 1 := wrap64_id (by omega) (by omega)
    have hj : (if 0 < (i : Int) - 1 then (i : Int) - 1 else (0 : Int)) = ((i - 1 : Nat) : Int) := by split <;> omega
    have b3 : (decide ((0 : Int) ≤ ((i - 1 : Nat) : Int)) && decide (((i - 1 : Nat) : Int) < (ps.length : Int))) = true := dA (by omega) (by omega)
    have hd : ∀ j, List.getD ps j ((0 : Int), (0 : Int), ()) = rd ps j := fun _ => rfl
    have hdz : List.getD zs k (((0 : Int), (0 : Int), ()), ((0 : Int), (0 : Int), ()), ()) = zn zs k := rfl
    have e1 := f141_eq (hp i hi) (hp (i - 1) (by omega)) (hz k hk)
    simp only [s74_2, t74_2, Tr.val_test, Tr.val_fin, Tr.val_stop, leF_eq, b0, b1, b2, b3, w1, hj, if_true, Int.toNat_natCast, hd, hdz, e1, g141, Option.isSome_some, Option.getD_some, wrap64_nat (show i ≤ 9223372036854775806 by omega)]
  · simp [s74_2, t74_2, leF_eq]

def hitZ (zs : List ZN) (ps : List RD) (k : Nat) : Bool := (first (fun i => decide (Tch (rd ps i) (rd ps (i - 1)) (zn zs k))) ps.length 0).isSome

theorem l74a (zs : List ZN) (ps : List RD) (h : zs.length ≤ 1000000000) (h2 : ps.length ≤ 1000000000) (hz : zsB zs) (hp : psB ps) : l74_0 ((zs, ps, (0 : Int), ()), ()) = match first (hitZ zs ps) zs.length 0 with
    | some _ => some (.inr ((false, ()), ()))
    | none => some (.inl ((), ())) := by
  refine itr_search (fun i => ((zs, ps, (i : Int), ()), ())) (hitZ zs ps) (fun _ => ((false, ()), ())) (n := zs.length) ?_ ?_ (lt_rounds (by omega))
  · intro i hi
    have b0 : (!decide ((zs.length : Int) ≤ (i : Int))) = true := nT (by omega)
    have e1 := l74b zs ps hi h h2 hz hp
    simp only [s74_0, t74_0, Tr.val_test, Tr.val_fin, Tr.val_stop, leF_eq, b0, if_true]
    cases hf : first (fun j => decide (Tch (rd ps j) (rd ps (j - 1)) (zn zs i))) ps.length 0 with
    | none =>
      rw [hf] at e1
      have hh : hitZ zs ps i = false := by unfold hitZ; rw [hf]; rfl
      simp only [e1, hh, isRet, b74_2, outB, Option.isSome_some, if_true, if_false, Bool.false_eq_true, wrap64_nat (show i ≤ 9223372036854775806 by omega)]
    | some k =>
      rw [hf] at e1
      have hh : hitZ zs ps i = true := by unfold hitZ; rw [hf]; rfl
      simp only [e1, hh, isRet, r74_2, outR, Option.isSome_some, if_true]
  · simp [s74_0, t74_0, leF_eq]

theorem f74_eq (zs : List ZN) (ps : List RD) (h : zs.length ≤ 1000000000) (h2 : ps.length ≤ 1000000000) (hz : zsB zs) (hp : psB ps) : f74 (zs, ps, ()) = some ((first (hitZ zs ps) zs.length 0).isNone, ()) := by
  have hl := l74a zs ps h h2 hz hp
  cases hf : first (hitZ zs ps) zs.length 0 with
  | none =>
    rw [hf] at hl
    simp only [f74, t74, Tr.val_test, Tr.val_fin, hl, isRet, Option.isSome_some, Option.isNone_none, if_true, if_false, Bool.false_eq_true]
  | some k =>
    rw [hf] at hl
    simp only [f74, t74, Tr.val_test, Tr.val_fin, hl, isRet, r74_0, outR, Option.isSome_some, Option.isNone_some, if_true]

/-- A path that touches nothing. -/
def CL (zs : List ZN) (ps : List RD) : Prop := ∀ k, k < zs.length → (∀ i, i < ps.length → ¬ Ins (rd ps i) (zn zs k)) ∧ ∀ i, i + 1 < ps.length → ¬ Tch (rd ps i) (rd ps (i + 1)) (zn zs k)

theorem clear_iff {zs : List ZN} {ps : List RD} (hz : zsB zs) (hp : psB ps) : clearB zs ps = true ↔ CL zs ps := by
  unfold clearB
  rw [isNone_first]
  constructor
  · intro h k hk
    have key : ∀ i, i < ps.length → ¬ Tch (rd ps (i - 1)) (rd ps i) (zn zs k) := by
      intro i hi ht
      have := h i hi
      have hs : hit zs ps i = true := isSome_first.2 ⟨k, hk, (tW_iff (hp _ (by omega)) (hp i hi) (hz k hk)).2 ht⟩
      rw [hs] at this; cases this
    exact ⟨fun i hi hin => key i hi (tch_swap.1 (tch_of_ins hin)), fun i hi => by have := key (i + 1) hi; simpa using this⟩
  · intro h i hi
    cases hb : hit zs ps i with
    | false => rfl
    | true =>
      obtain ⟨k, hk, ht⟩ := isSome_first.1 hb
      have ht := (tW_iff (hp _ (by omega)) (hp i hi) (hz k hk)).1 ht
      obtain ⟨c1, c2⟩ := h k hk
      rcases Nat.eq_zero_or_pos i with h0 | h0
      · subst h0
        exact absurd (ins_of_tch ht) (c1 0 hi)
      · have := c2 (i - 1) (by omega)
        rw [show i - 1 + 1 = i by omega] at this
        exact absurd ht this

theorem clearR_iff {zs : List ZN} {ps : List RD} : (first (hitZ zs ps) zs.length 0).isNone = true ↔ CL zs ps := by
  rw [isNone_first]
  constructor
  · intro h k hk
    have key : ∀ i, i < ps.length → ¬ Tch (rd ps i) (rd ps (i - 1)) (zn zs k) := by
      intro i hi ht
      have := h k hk
      have hs : hitZ zs ps k = true := isSome_first.2 ⟨i, hi, dT ht⟩
      rw [hs] at this; cases this
    exact ⟨fun i hi hin => key i hi (tch_of_ins hin), fun i hi ht => by have := key (i + 1) hi; exact this (tch_swap.1 (by simpa using ht))⟩
  · intro h k hk
    cases hb : hitZ zs ps k with
    | false => rfl
    | true =>
      obtain ⟨i, hi, ht⟩ := isSome_first.1 hb
      simp only [decide_eq_true_eq] at ht
      obtain ⟨c1, c2⟩ := h k hk
      rcases Nat.eq_zero_or_pos i with h0 | h0
      · subst h0
        exact absurd (ins_of_tch ht) (c1 0 hi)
      · have := c2 (i - 1) (by omega)
        rw [show i - 1 + 1 = i by omega] at this
        exact absurd (tch_swap.1 ht) this

/-! ### Valid ones -/

theorem nz2 {a b : Int} (h : firstNZ [a, b] = 0) : a = 0 ∧ b = 0 := by
  simp only [firstNZ] at h
  by_cases ha : a = 0
  · rw [if_pos ha] at h
    by_cases hb : b = 0
    · exact ⟨ha, hb⟩
    · rw [if_neg hb] at h; exact absurd h hb
  · rw [if_neg ha] at h; exact absurd h ha

theorem zE_zero {z : ZN} (h : zE z = 0) : zB z := by
  unfold zE at h
  by_cases hk : (okP z.1.1 && okP z.1.2.1 && okP z.2.1.1 && okP z.2.1.2.1) = true
  · simp only [Bool.and_eq_true] at hk
    obtain ⟨⟨⟨a, b⟩, c⟩, d⟩ := hk
    exact ⟨okP_iff.1 a, okP_iff.1 b, okP_iff.1 c, okP_iff.1 d⟩
  · rw [if_neg hk] at h; cases h

theorem pE_zero {p : RD} (h : pE p = 0) : pB p := by
  unfold pE at h
  by_cases hk : (okP p.1 && okP p.2.1) = true
  · simp only [Bool.and_eq_true] at hk
    exact ⟨okP_iff.1 hk.1, okP_iff.1 hk.2⟩
  · rw [if_neg hk] at h; cases h

theorem zsE_iff {zs : List ZN} : zsE zs = 0 ↔ zs.length ≤ 8 ∧ ∀ k, k < zs.length → zE (zn zs k) = 0 := by
  unfold zsE
  by_cases h8 : 8 < zs.length
  · rw [if_pos h8]
    exact ⟨fun h => absurd h (by decide), fun h => by omega⟩
  · rw [if_neg h8]
    exact ⟨fun h => ⟨by omega, fun k hk => firstE_zero (e := fun i => zE (zn zs i)) h k hk⟩, fun h => firstE_of (e := fun i => zE (zn zs i)) h.2⟩

theorem psE_iff {ps : List RD} : psE ps = 0 ↔ ps.length ≤ 20 ∧ ∀ k, k < ps.length → pE (rd ps k) = 0 := by
  unfold psE
  by_cases h8 : 20 < ps.length
  · rw [if_pos h8]
    exact ⟨fun h => absurd h (by decide), fun h => by omega⟩
  · rw [if_neg h8]
    exact ⟨fun h => ⟨by omega, fun k hk => firstE_zero (e := fun i => pE (rd ps i)) h k hk⟩, fun h => firstE_of (e := fun i => pE (rd ps i)) h.2⟩

theorem rd_mem {ps : List RD} {i : Nat} (h : i < ps.length) : rd ps i ∈ ps := by
  unfold rd
  rw [List.getD_eq_getElem?_getD, List.getElem?_eq_getElem h]
  exact List.getElem_mem h
theorem zn_mem {zs : List ZN} {i : Nat} (h : i < zs.length) : zn zs i ∈ zs := by
  unfold zn
  rw [List.getD_eq_getElem?_getD, List.getElem?_eq_getElem h]
  exact List.getElem_mem h
theorem mem_rd {ps : List RD} {p : RD} (h : p ∈ ps) : ∃ i, i < ps.length ∧ rd ps i = p := by
  obtain ⟨i, hi, e⟩ := List.getElem_of_mem h
  exact ⟨i, hi, by unfold rd; rw [List.getD_eq_getElem?_getD, List.getElem?_eq_getElem hi, e]; rfl⟩
theorem mem_zn {zs : List ZN} {z : ZN} (h : z ∈ zs) : ∃ i, i < zs.length ∧ zn zs i = z := by
  obtain ⟨i, hi, e⟩ := List.getElem_of_mem h
  exact ⟨i, hi, by unfold zn; rw [List.getD_eq_getElem?_getD, List.getElem?_eq_getElem hi, e]; rfl⟩

/-- Zones among others, places among others. -/
theorem zsE_sub {zs zs' : List ZN} (h : zsE zs = 0) (hl : zs'.length ≤ zs.length) (hs : ∀ z, z ∈ zs' → z ∈ zs) : zsE zs' = 0 := by
  obtain ⟨h1, h2⟩ := zsE_iff.1 h
  refine zsE_iff.2 ⟨by omega, fun k hk => ?_⟩
  obtain ⟨j, hj, e⟩ := mem_zn (hs _ (zn_mem hk))
  rw [← e]; exact h2 j hj
theorem psE_sub {ps ps' : List RD} (h : psE ps = 0) (hl : ps'.length ≤ ps.length) (hs : ∀ p, p ∈ ps' → p ∈ ps) : psE ps' = 0 := by
  obtain ⟨h1, h2⟩ := psE_iff.1 h
  refine psE_iff.2 ⟨by omega, fun k hk => ?_⟩
  obtain ⟨j, hj, e⟩ := mem_rd (hs _ (rd_mem hk))
  rw [← e]; exact h2 j hj

theorem CL_zones {zs zs' : List ZN} {ps : List RD} (h : CL zs ps) (hs : ∀ z, z ∈ zs' → z ∈ zs) : CL zs' ps := by
  intro k hk
  obtain ⟨j, hj, e⟩ := mem_zn (hs _ (zn_mem hk))
  have := h j hj
  rw [e] at this; exact this

theorem rd_take {ps : List RD} {n i : Nat} (h : i < (ps.take n).length) : rd (ps.take n) i = rd ps i := by
  have h' := h
  rw [List.length_take] at h'
  unfold rd
  rw [List.getD_eq_getElem?_getD, List.getD_eq_getElem?_getD, List.getElem?_take, if_pos (by omega)]

theorem CL_take {zs : List ZN} {ps : List RD} (h : CL zs ps) (n : Nat) : CL zs (ps.take n) := by
  intro k hk
  obtain ⟨h1, h2⟩ := h k hk
  have hlen : (ps.take n).length ≤ ps.length := by rw [List.length_take]; omega
  refine ⟨fun i hi => ?_, fun i hi => ?_⟩
  · rw [rd_take hi]; exact h1 i (by omega)
  · rw [rd_take hi, rd_take (show i < _ by omega)]; exact h2 i (by omega)

theorem rd_reverse {ps : List RD} {i : Nat} (h : i < ps.length) : rd ps.reverse i = rd ps (ps.length - 1 - i) := by
  unfold rd
  rw [List.getD_eq_getElem?_getD, List.getD_eq_getElem?_getD, List.getElem?_reverse h]

theorem CL_reverse {zs : List ZN} {ps : List RD} (h : CL zs ps) : CL zs ps.reverse := by
  intro k hk
  obtain ⟨h1, h2⟩ := h k hk
  refine ⟨fun i hi => ?_, fun i hi => ?_⟩
  · rw [List.length_reverse] at hi
    rw [rd_reverse hi]; exact h1 _ (by omega)
  · rw [List.length_reverse] at hi
    rw [rd_reverse (by omega), rd_reverse (by omega)]
    have := h2 (ps.length - 1 - (i + 1)) (by omega)
    rw [show ps.length - 1 - (i + 1) + 1 = ps.length - 1 - i by omega] at this
    exact fun ht => this (tch_swap.1 ht)

theorem CL_reverse_iff {zs : List ZN} {ps : List RD} : CL zs ps.reverse ↔ CL zs ps := ⟨fun h => by have := CL_reverse h; rwa [List.reverse_reverse] at this, CL_reverse⟩

end Go.Vm.Mo

namespace Go.Vm.Mo
open Go
set_option linter.unusedVariables false
set_option linter.unusedSimpArgs false

theorem f72_eq (l : List RD) (h : l.length ≤ 1000) : f72 (l, ()) = some (l, ()) := by
  simp only [f72, t72, Tr.val_test, Tr.val_fin, Tr.val_stop, List.nil_append]
  rw [if_pos (by simp only [Bool.and_eq_true, ble_eq_true']; omega)]

theorem back_next (ps : List RD) {j : Nat} (hj : j < ps.length) : ps.reverse.take j ++ [rd ps (ps.length - 1 - j)] = ps.reverse.take (j + 1) := by
  rw [List.take_add_one, List.getElem?_reverse hj]
  congr 1
  unfold rd
  rw [List.getD_eq_getElem?_getD, List.getElem?_eq_getElem (by omega)]
  rfl

theorem l13a (zs : List ZN) (ps : List RD) (v n e : Int) (h : ps.length ≤ 1000000) : l13_0 ((zs, ps, v, n, e, [], wrap64 ((ps.length : Int) - 1), ()), ()) = some (.inl ((zs, ps, v, n, e, ps.reverse, ()), ())) := by
  have w0 : wrap64 ((ps.length : Int) - 1) = (ps.length : Int) - 1 := wrap64_id (by omega) (by omega)
  have key := itr_brk (step := s13_0) (fun j => ((zs, ps, v, n, e, ps.reverse.take j, (ps.length : Int) - 1 - (j : Int), ()), ())) (n := ps.length) (m := rounds) (b := ((zs, ps, v, n, e, ps.reverse, ()), ())) ?_ ?_ (lt_rounds (by omega))
  · rw [w0]
    have e0 : (ps.length : Int) - 1 - ((0 : Nat) : Int) = (ps.length : Int) - 1 := by omega
    simp only [e0, List.take_zero] at key
    exact key
  · intro j hj
    have b0 : decide ((0 : Int) ≤ (ps.length : Int) - 1 - (j : Int)) = true := dT (by omega)
    have b1 : decide ((ps.length : Int) - 1 - (j : Int) < (ps.length : Int)) = true := dT (by omega)
    have hn : ((ps.length : Int) - 1 - (j : Int)).toNat = ps.length - 1 - j := by omega
    have hl : (ps.reverse.take j).length = j := by rw [List.length_take, List.length_reverse]; omega
    have b2 : (Nat.ble ((2 * ((ps.reverse.take j).length + 1) + 192) * 16) 281474976710656 && Nat.ble ((ps.reverse.take j).length + 1) 281474976710656) = true := by
      rw [hl]; simp only [Bool.and_eq_true, ble_eq_true']; omega
    have w1 : wrap64 ((ps.length : Int) - 1 - (j : Int) - 1) = (ps.length : Int) - 1 - ((j + 1 : Nat) : Int) := by rw [wrap64_id (by omega) (by omega)]; omega
    have hd : ∀ k, List.getD ps k ((0 : Int), (0 : Int), ()) = rd ps k := fun _ => rfl
    simp only [s13_0, t13_0, Tr.val_test, Tr.val_fin, Tr.val_stop, leF_eq, b0, b1, b2, Bool.true_and, if_true, hn, w1, hd]
    rw [← back_next ps hj]
  · have b0 : decide ((0 : Int) ≤ (ps.length : Int) - 1 - (ps.length : Int)) = false := dF (by omega)
    have ht : ps.reverse.take ps.length = ps.reverse := List.take_of_length_le (by rw [List.length_reverse]; exact Nat.le_refl _)
    simp only [s13_0, t13_0, Tr.val_test, Tr.val_fin, Tr.val_stop, leF_eq, b0, if_false, Bool.false_eq_true, ht]

theorem l13c (zs : List ZN) (ps : List RD) (v : Int) {k : Nat} (hk : k < zs.length) (h : zs.length ≤ 1000000000) (h2 : ps.length ≤ 1000000000) (hc : ∀ i, i < ps.length → ¬ Ins (rd ps i) (zn zs k)) : l13_4 ((zs, ps, v, (k : Int), (0 : Int), ()), ()) = some (.inl ((zs, ps, v, (k : Int), ()), ())) := by
  refine itr_brk (fun i => ((zs, ps, v, (k : Int), (i : Int), ()), ())) (n := ps.length) ?_ ?_ (lt_rounds (by omega))
  · intro i hi
    have b0 : (!decide ((ps.length : Int) ≤ (i : Int))) = true := nT (by omega)
    have b1 : (decide ((0 : Int) ≤ (i : Int)) && decide ((i : Int) < (ps.length : Int))) = true := dA (by omega) (by omega)
    have b2 : (decide ((0 : Int) ≤ (k : Int)) && decide ((k : Int) < (zs.length : Int))) = true := dA (by omega) (by omega)
    have hd : List.getD ps i ((0 : Int), (0 : Int), ()) = rd ps i := rfl
    have hdz : List.getD zs k (((0 : Int), (0 : Int), ()), ((0 : Int), (0 : Int), ()), ()) = zn zs k := rfl
    have hno := hc i hi
    simp only [s13_4, t13_4, Tr.val_test, Tr.val_fin, Tr.val_stop, leF_eq, b0, b1, b2, if_true, Int.toNat_natCast, hd, hdz, f25_eq, g25, Option.isSome_some, Option.getD_some, wrap64_nat (show i ≤ 9223372036854775806 by omega)]
    by_cases h1 : wi (zn zs k).1.1 (zn zs k).1.2.1 (rd ps i).1 = true
    · by_cases h3 : wi (zn zs k).2.1.1 (zn zs k).2.1.2.1 (rd ps i).2.1 = true
      · exact absurd ⟨wi_iff.1 h1, wi_iff.1 h3⟩ hno
      · rw [if_pos h1, if_neg h3]
    · rw [if_neg h1]
  · simp [s13_4, t13_4, leF_eq]

theorem l13b (zs : List ZN) (ps : List RD) (v : Int) (h : zs.length ≤ 1000000000) (h2 : ps.length ≤ 1000000000) (hc : CL zs ps) : l13_2 ((zs, ps, v, (0 : Int), ()), ()) = some (.inl ((zs, ps, v, ()), ())) := by
  refine itr_brk (fun i => ((zs, ps, v, (i : Int), ()), ())) (n := zs.length) ?_ ?_ (lt_rounds (by omega))
  · intro i hi
    have b0 : (!decide ((zs.length : Int) ≤ (i : Int))) = true := nT (by omega)
    have e1 := l13c zs ps v hi h h2 (hc i hi).1
    simp only [s13_2, t13_2, Tr.val_test, Tr.val_fin, Tr.val_stop, leF_eq, b0, e1, isRet, b13_4, outB, Option.isSome_some, if_true, if_false, Bool.false_eq_true, wrap64_nat (show i ≤ 9223372036854775806 by omega)]
  · simp [s13_2, t13_2, leF_eq]

def modF (a b : Int) : Int := if Int.tmod a b < 0 then wrap64 (Int.tmod a b + b) else Int.tmod a b

theorem f56_eq (a b : Int) (h : b ≠ 0) : f56 (a, b, ()) = some (modF a b, ()) := by
  have h0 : (b == (0 : Int)) = false := by simpa using h
  simp only [f56, t56, Tr.val_test, Tr.val_fin, Tr.val_stop, leF_eq, h0, Bool.false_eq_true, if_false, modF]
  by_cases h1 : Int.tmod a b < 0
  · have b1 : (!decide (0 ≤ Int.tmod a b)) = true := nT (by omega)
    simp only [b1, h1, if_true]
  · have b1 : (!decide (0 ≤ Int.tmod a b)) = false := nF (by omega)
    simp only [b1, h1, if_false, Bool.false_eq_true]

theorem modF_range {a b : Int} (h : 0 < b) (h2 : b ≤ 1000000000000) : 0 ≤ modF a b ∧ modF a b < b := by
  have h3 := Int.tmod_lt_of_pos a h
  have h4 := Int.lt_tmod_of_pos a h
  unfold modF
  split
  · rw [wrap64_id (by omega) (by omega)]; omega
  · omega

theorem cap32 {n : Nat} (h : n ≤ 1000) : (Nat.ble ((2 * n + 192) * 32) 281474976710656 && Nat.ble n 281474976710656) = true := by
  simp only [Bool.and_eq_true, ble_eq_true']; omega

theorem outC_clear {zs : List ZN} {ps : List RD} (h : zpE zs ps = 0) (hz : zsB zs) (hp : psB ps) (hc : CL zs ps) : outC zs ps = ((ps.length : Int), 0, ()) := by
  unfold outC
  rw [if_pos h, if_pos ((clear_iff hz hp).2 hc)]

theorem valid_of {zs : List ZN} {ps : List RD} (h : zpE zs ps = 0) : zsB zs ∧ psB ps ∧ zs.length ≤ 8 ∧ ps.length ≤ 20 := by
  obtain ⟨h1, h2⟩ := nz2 h
  obtain ⟨a1, a2⟩ := zsE_iff.1 h1
  obtain ⟨b1, b2⟩ := psE_iff.1 h2
  exact ⟨fun k hk => zE_zero (a2 k hk), fun k hk => pE_zero (b2 k hk), a1, b1⟩

theorem zpE_of {zs : List ZN} {ps : List RD} (h1 : zsE zs = 0) (h2 : psE ps = 0) : zpE zs ps = 0 := by
  unfold zpE; rw [h1, h2]; rfl

/-- What is left is clear with the error 0. -/
theorem outC_sub {zs zs' : List ZN} {ps ps' : List RD} (h : zpE zs ps = 0) (hl : zs'.length ≤ zs.length) (hs : ∀ z, z ∈ zs' → z ∈ zs) (hl2 : ps'.length ≤ ps.length) (hs2 : ∀ p, p ∈ ps' → p ∈ ps) (hc : CL zs' ps') : outC zs' ps' = ((ps'.length : Int), 0, ()) := by
  obtain ⟨h1, h2⟩ := nz2 h
  have h' := zpE_of (zsE_sub h1 hl hs) (psE_sub h2 hl2 hs2)
  obtain ⟨a1, a2, _⟩ := valid_of h'
  exact outC_clear h' a1 a2 hc

theorem f13_eq (zs : List ZN) (ps : List RD) (x : Int) (hl : zs.length ≤ 9223372036854775807) (hp : ps.length ≤ 9223372036854775807) : f13 (zs, ps, x, ()) = some (true, ()) := by
  by_cases k0 : 10 < zs.length
  · have b0 : (!decide ((zs.length : Int) ≤ 10)) = true := nT (by omega)
    simp only [f13, t13, Tr.val_test, Tr.val_fin, leF_eq, b0, if_true]
  · have b0 : (!decide ((zs.length : Int) ≤ 10)) = false := nF (by omega)
    by_cases k1 : 22 < ps.length
    · have b1 : (!decide ((ps.length : Int) ≤ 22)) = true := nT (by omega)
      simp only [f13, t13, Tr.val_test, Tr.val_fin, leF_eq, b0, b1, if_true, if_false, Bool.false_eq_true]
    · have b1 : (!decide ((ps.length : Int) ≤ 22)) = false := nF (by omega)
      have e72 := f72_eq ps (by omega)
      have e70 := f70_eq zs ps (by omega) (by omega)
      have e73 := f73_eq zs ps (by omega) (by omega)
      have c1 := cap32 (n := zs.length) (by omega)
      by_cases k2 : zpE zs ps = 0
      · obtain ⟨v1, v2, v3, v4⟩ := valid_of k2
        obtain ⟨z1, z2⟩ := nz2 k2
        have e74 := f74_eq zs ps (by omega) (by omega) v1 v2
        have e13 := fun n e => l13a zs ps x n e (by omega)
        have hrl : ps.reverse.length = ps.length := List.length_reverse
        have e70b := f70_eq zs ps.reverse (by omega) (by omega)
        have k2b : zpE zs ps.reverse = 0 := zpE_of z1 (psE_sub z2 (by omega) (fun p hm => List.mem_reverse.1 hm))
        obtain ⟨_, v2b, _, _⟩ := valid_of k2b
        have d0 : ∀ y : Int, (!decide (y = y)) = false := fun y => nF rfl
        by_cases k3 : CL zs ps
        · have r1 : outC zs ps = ((ps.length : Int), 0, ()) := outC_clear k2 v1 v2 k3
          have r2 : outC zs ps.reverse = ((ps.length : Int), 0, ()) := by rw [outC_clear k2b v1 v2b (CL_reverse k3), hrl]
          have r3 : (first (hitZ zs ps) zs.length 0).isNone = true := clearR_iff.2 k3
          have e13b := l13b zs ps x (by omega) (by omega) k3
          rw [r1] at e70
          rw [r2] at e70b
          rw [r3] at e74
          by_cases k4 : zs.length = 0
          · have c4 : decide ((zs.length : Int) = 0) = true := dT (by omega)
            simp only [f13, t13, Tr.val_test, Tr.val_fin, Tr.val_stop, leF_eq, eqF_eq, List.nil_append, Nat.zero_add, b0, b1, c1, e72, g72, e70, g70, e73, g73, k2, e74, g74, e13, isBrk, b13_0, outB, e70b, e13b, isRet, b13_2, c4, decide_true, Bool.not_true, Option.isSome_some, Option.getD_some, if_true, if_false, Bool.false_eq_true]
          · have c4 : decide ((zs.length : Int) = 0) = false := dF (by omega)
            by_cases k5 : ps.length = 0
            · have c5 : decide ((ps.length : Int) = 0) = true := dT (by omega)
              simp only [f13, t13, Tr.val_test, Tr.val_fin, Tr.val_stop, leF_eq, eqF_eq, List.nil_append, Nat.zero_add, b0, b1, c1, e72, g72, e70, g70, e73, g73, k2, e74, g74, e13, isBrk, b13_0, outB, e70b, e13b, isRet, b13_2, c4, c5, decide_true, Bool.not_true, Option.isSome_some, Option.getD_some, if_true, if_false, Bool.false_eq_true]
            · have c5 : decide ((ps.length : Int) = 0) = false := dF (by omega)
              have e56 := f56_eq x (zs.length : Int) (by omega)
              obtain ⟨m1, m2⟩ := modF_range (a := x) (b := (zs.length : Int)) (by omega) (by omega)
              obtain ⟨n, hn⟩ : ∃ n : Nat, modF x (zs.length : Int) = (n : Int) := ⟨(modF x (zs.length : Int)).toNat, by omega⟩
              rw [hn] at e56 m1 m2
              have hn2 : n < zs.length := by omega
              have c6 : (decide ((0 : Int) ≤ (n : Int)) && decide ((n : Int) ≤ (zs.length : Int))) = true := dA (by omega) (by omega)
              have w1 : wrap64 ((n : Int) + 1) = ((n + 1 : Nat) : Int) := wrap64_nat (by omega)
              have c7 : (decide ((0 : Int) ≤ ((n + 1 : Nat) : Int)) && decide (((n + 1 : Nat) : Int) ≤ (zs.length : Int))) = true := dA (by omega) (by omega)
              have c8 := cap32 (n := (zs.take n).length) (by rw [List.length_take]; omega)
              have c9 := cap32 (n := (zs.take n).length + (zs.drop (n + 1)).length) (by rw [List.length_take, List.length_drop]; omega)
              have w2 : wrap64 ((ps.length : Int) - 1) = ((ps.length - 1 : Nat) : Int) := by rw [wrap64_id (by omega) (by omega)]; omega
              simp only [w2] at e13
              have c10 : (decide ((0 : Int) ≤ ((ps.length - 1 : Nat) : Int)) && decide (((ps.length - 1 : Nat) : Int) ≤ (ps.length : Int))) = true := dA (by omega) (by omega)
              have htl : (ps.take (ps.length - 1)).length ≤ ps.length := by rw [List.length_take]; omega
              have e72b := f72_eq (ps.take (ps.length - 1)) (by omega)
              have hsub : ∀ z, z ∈ zs.take n ++ zs.drop (n + 1) → z ∈ zs := by
                intro z hz
                rcases List.mem_append.1 hz with hz | hz
                · exact List.mem_of_mem_take hz
                · exact List.mem_of_mem_drop hz
              have hlen : (zs.take n ++ zs.drop (n + 1)).length ≤ zs.length := by rw [List.length_append, List.length_take, List.length_drop]; omega
              have e70c := f70_eq (zs.take n ++ zs.drop (n + 1)) ps (by omega) (by omega)
              rw [outC_sub k2 hlen hsub (Nat.le_refl _) (fun _ h => h) (CL_zones k3 hsub)] at e70c
              have e70d := f70_eq zs (ps.take (ps.length - 1)) (by omega) (by omega)
              rw [outC_sub k2 (Nat.le_refl _) (fun _ h => h) htl (fun _ h => List.mem_of_mem_take h) (CL_take k3 _)] at e70d
              simp only [f13, t13, Tr.val_test, Tr.val_fin, Tr.val_stop, leF_eq, eqF_eq, List.nil_append, Nat.zero_add, b0, b1, c1, e72, g72, e70, g70, e73, g73, k2, e74, g74, e13, isBrk, b13_0, outB, e70b, e13b, isRet, b13_2, c4, c5, e56, g56, c6, w1, c7, Int.toNat_natCast, c8, c9, w2, c10, e72b, e70c, e70d, decide_true, Bool.not_true, Option.isSome_some, Option.getD_some, if_true, if_false, Bool.false_eq_true]
        · have r1 : outC zs ps = ((0 : Int), 13, ()) := by
            unfold outC
            rw [if_pos k2, if_neg (fun h => k3 ((clear_iff v1 v2).1 h))]
          have r2 : outC zs ps.reverse = ((0 : Int), 13, ()) := by
            unfold outC
            rw [if_pos k2b, if_neg (fun h => k3 (CL_reverse_iff.1 ((clear_iff v1 v2b).1 h)))]
          have r3 : (first (hitZ zs ps) zs.length 0).isNone = false := by
            cases hb : (first (hitZ zs ps) zs.length 0).isNone with
            | false => rfl
            | true => exact absurd (clearR_iff.1 hb) k3
          rw [r1] at e70
          rw [r2] at e70b
          rw [r3] at e74
          have d13 : (!decide ((13 : Int) = 0)) = true := by decide
          simp only [f13, t13, Tr.val_test, Tr.val_fin, Tr.val_stop, leF_eq, eqF_eq, List.nil_append, Nat.zero_add, b0, b1, c1, e72, g72, e70, g70, e73, g73, k2, e74, g74, e13, isBrk, b13_0, outB, e70b, d13, decide_true, Bool.not_true, Option.isSome_some, Option.getD_some, if_true, if_false, Bool.false_eq_true]
      · have c0 : (!decide (zpE zs ps = 0)) = true := nT k2
        have r1 : outC zs ps = ((0 : Int), zpE zs ps, ()) := by unfold outC; rw [if_neg k2]
        rw [r1] at e70
        simp only [f13, t13, Tr.val_test, Tr.val_fin, Tr.val_stop, leF_eq, eqF_eq, List.nil_append, Nat.zero_add, b0, b1, c1, e72, g72, e70, g70, e73, g73, c0, decide_true, Option.isSome_some, Option.getD_some, if_true, if_false, Bool.false_eq_true]

theorem law13 (d : Tys.data as13) (hw : Tys.Wf as13 d) : Pure1 Go.Proofs.Tryz.prog 13 as13 [.bool] d (true, ()) := by
  have hl : List.length d.1 ≤ 9223372036854775807 := hw.1.1
  have hp : List.length d.2.1 ≤ 9223372036854775807 := hw.2.1.1
  have h := f13_eq d.1 d.2.1 d.2.2.1 hl hp
  have hp : p13.pre d = true := by
    show Option.isSome (f13 d) = true
    rw [show f13 d = some (true, ()) from h]; rfl
  have hg : p13.fn d = (true, ()) := by
    show (f13 d).getD _ = _
    rw [show f13 d = some (true, ()) from h]; rfl
  have := ok13.runs d hp
  rw [hg] at this
  exact this

end Go.Vm.Mo
