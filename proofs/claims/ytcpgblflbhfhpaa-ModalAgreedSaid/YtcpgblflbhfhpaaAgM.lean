import Derived.Test.YtcpgblflbhfhpaaAgFa
import Derived.Test.YtcpgblflbhfhpaaA4
set_option linter.unusedVariables false
set_option linter.unusedSimpArgs false

namespace Go.Vm.Mo
open Go
set_option linter.unusedVariables false
set_option linter.unusedSimpArgs false

theorem first_map (bad : Nat → Bool) : ∀ (n i : Nat), first bad n (i + 1) = (first (fun k => bad (k + 1)) n i).map (· + 1)
  | 0, _ => rfl
  | n + 1, i => by
    simp only [first]
    split
    · rfl
    · exact first_map bad n (i + 1)

/-- The first that is not 0. -/
def firstNZ : List Int → Int
  | [] => 0
  | a :: l => if a = 0 then firstNZ l else a

theorem firstNZ_eq : ∀ l : List Int, (match first (fun i => !decide (l.getD i 0 = 0)) l.length 0 with
    | some k => l.getD k 0
    | none => 0) = firstNZ l
  | [] => rfl
  | a :: l => by
    simp only [List.length, first, firstNZ]
    by_cases ha : a = 0
    · subst ha
      have e := firstNZ_eq l
      have hf : first (fun i => !decide (((0 : Int) :: l).getD i 0 = 0)) l.length (0 + 1) = (first (fun i => !decide (l.getD i 0 = 0)) l.length 0).map (· + 1) := by
        rw [first_map]; rfl
      simp only [hf, List.getD_cons_zero, decide_true, Bool.not_true, Bool.false_eq_true, if_false, if_true]
      rw [← e]
      cases first (fun i => !decide (l.getD i 0 = 0)) l.length 0 with
      | none => rfl
      | some k => rfl
    · simp [ha]

theorem l46 (l : List Int) (h : l.length ≤ 1000000000) : l46_0 ((l, (l.length : Int), (0 : Int), ()), ()) = match first (fun i => !decide (l.getD i 0 = 0)) l.length 0 with
    | some k => some (.inr ((l.getD k 0, ()), ()))
    | none => some (.inl ((), ())) := by
  refine itr_search (fun i => ((l, (l.length : Int), (i : Int), ()), ())) (fun i => !decide (l.getD i 0 = 0)) (fun k => ((l.getD k 0, ()), ())) (n := l.length) ?_ ?_ (lt_rounds (by omega))
  · intro i hi
    simp only [s46_0, t46_0, Tr.val_test, leF_eq, eqF_eq]
    rw [if_pos (by simp; omega), if_pos (by simp; omega)]
    simp only [Int.toNat_natCast, wrap64_nat (show i ≤ 9223372036854775806 by omega)]
    rfl
  · simp [s46_0, t46_0, leF_eq]

theorem f46_eq (l : List Int) (h : l.length ≤ 1000000000) : f46 (l, ()) = some (firstNZ l, ()) := by
  simp only [f46, t46, Tr.val_test, r46_0, l46 l h, ← firstNZ_eq l]
  cases first (fun i => !decide (l.getD i 0 = 0)) l.length 0 with
  | none => rfl
  | some k => rfl

theorem f47_eq (d : Tys.data as47) : f47 d = some (if d.1 = true then d.2.1 else (0 : Int), ()) := by
  simp only [f47, t47, Tr.val_test]
  split <;> rfl

def wi (lo hi x : Int) : Bool := decide (lo ≤ x) && decide (x ≤ hi)

theorem f30_eq (d : Tys.data as30) : f30 d = some (wi d.2.1 d.2.2.1 d.1, ()) := by
  simp only [f30, t30, Tr.val_test, Tr.val_fin, leF_eq, decide_eq_true_eq, wi]
  split <;> simp [*]

theorem l50 (lo hi : Int) (l : List Int) (h : l.length ≤ 1000000000) : l50_0 ((lo, hi, l, (l.length : Int), (0 : Int), ()), ()) = match first (fun i => !wi lo hi (l.getD i 0)) l.length 0 with
    | some _ => some (.inr ((false, ()), ()))
    | none => some (.inl ((), ())) := by
  refine itr_search (fun i => ((lo, hi, l, (l.length : Int), (i : Int), ()), ())) (fun i => !wi lo hi (l.getD i 0)) (fun _ => ((false, ()), ())) (n := l.length) ?_ ?_ (lt_rounds (by omega))
  · intro i hi'
    simp only [s50_0, t50_0, Tr.val_test, Tr.val_fin, leF_eq, Int.toNat_natCast, wrap64_nat (show i ≤ 9223372036854775806 by omega)]
    rw [if_pos (by simp; omega), if_pos (by simp; omega)]
    by_cases a0 : lo ≤ l.getD i 0
    · by_cases a1 : l.getD i 0 ≤ hi
      · simp only [wi, a0, a1, decide_true, Bool.and_self, Bool.not_true, if_true, if_false, Bool.false_eq_true]
      · simp only [wi, a0, a1, decide_true, decide_false, Bool.and_false, Bool.not_false, Bool.not_true, if_true, if_false, Bool.false_eq_true]
    · simp only [wi, a0, decide_false, Bool.false_and, Bool.not_false, if_true, if_false, Bool.false_eq_true]
  · simp [s50_0, t50_0, leF_eq]

theorem f50_eq (lo hi : Int) (l : List Int) (h : l.length ≤ 1000000000) : f50 (lo, hi, l, ()) = some ((first (fun i => !wi lo hi (l.getD i 0)) l.length 0).isNone, ()) := by
  have hl := l50 lo hi l h
  cases hf : first (fun i => !wi lo hi (l.getD i 0)) l.length 0 with
  | none =>
    rw [hf] at hl
    simp only [f50, t50, Tr.val_test, Tr.val_fin, hl, isRet, Option.isSome_some, Option.isNone_none, if_true, Bool.false_eq_true, if_false]
  | some k =>
    rw [hf] at hl
    simp only [f50, t50, Tr.val_test, Tr.val_fin, hl, isRet, r50_0, outR, Option.isSome_some, Option.isNone_some, if_true]

theorem f50_two (lo hi a b : Int) : f50 (lo, hi, [a, b], ()) = some (wi lo hi a && wi lo hi b, ()) := by
  rw [f50_eq lo hi _ (by simp)]
  simp only [first, List.length, List.getD_cons_zero, List.getD_cons_succ]
  by_cases h1 : wi lo hi a = true
  · by_cases h2 : wi lo hi b = true
    · simp [h1, h2]
    · simp [h1, h2]
  · simp [h1]

theorem f84_eq (n m : Int) : f84 (n, m, ()) = some (if n = 0 then 10 else if ¬ n ≤ m then 8 else 0, ()) := by
  simp only [f84, t84, Tr.val_test, Tr.val_fin, g47, g46, f47_eq, Option.isSome_some, Option.getD_some, if_true]
  rw [f46_eq _ (by simp)]
  simp only [Option.isSome_some, Option.getD_some, if_true, eqF_eq, leF_eq, decide_eq_true_eq, Bool.not_eq_true', decide_eq_false_iff_not, firstNZ]
  by_cases h1 : n = 0
  · simp [h1]
  · by_cases h2 : n ≤ m
    · simp [h1, h2]
    · simp [h1, h2]

abbrev Rg := Int × Int × PUnit.{1}
def rAt (l : List Rg) (i : Nat) : Rg := l.getD i ((0 : Int), (0 : Int), ())

/-- The error of one range. -/
def rgE (lo hi : Int) (r : Rg) : Int := if wi lo hi r.1 = false then 2 else if wi lo hi r.2.1 = false then 2 else if ¬ r.1 ≤ r.2.1 then 9 else 0

def rsF (lo hi : Int) (l : List Rg) : Int := match first (fun i => !decide (rgE lo hi (rAt l i) = 0)) l.length 0 with
  | some k => rgE lo hi (rAt l k)
  | none => 0

theorem l105 (lo hi : Int) (l : List Rg) (h : l.length ≤ 1000000000) : l105_0 ((l, (l.length : Int), (0 : Int), ()), (lo, ()), (hi, ()), ()) = match first (fun i => !decide (rgE lo hi (rAt l i) = 0)) l.length 0 with
    | some k => some (.inr (((k : Int), rgE lo hi (rAt l k), ()), (lo, ()), (hi, ()), ()))
    | none => some (.inl ((), (lo, ()), (hi, ()), ())) := by
  refine itr_search (fun i => ((l, (l.length : Int), (i : Int), ()), (lo, ()), (hi, ()), ())) (fun i => !decide (rgE lo hi (rAt l i) = 0)) (fun k => (((k : Int), rgE lo hi (rAt l k), ()), (lo, ()), (hi, ()), ())) (n := l.length) ?_ ?_ (lt_rounds (by omega))
  · intro i hi'
    have e1 := f50_two lo hi (rAt l i).1 (rAt l i).2.1
    simp only [rAt] at e1
    simp only [s105_0, t105_0, Tr.val_test, Tr.val_fin, Tr.val_stop, leF_eq, eqF_eq, Int.toNat_natCast, wrap64_nat (show i ≤ 9223372036854775806 by omega)]
    rw [if_pos (by simp; omega), if_pos (by simp; omega)]
    simp only [g50, g47, g46, e1, f47_eq, Option.isSome_some, Option.getD_some, if_true]
    rw [f46_eq _ (by simp)]
    simp only [Option.isSome_some, Option.getD_some, if_true, firstNZ, rAt, rgE]
    by_cases a0 : wi lo hi (List.getD l i ((0 : Int), (0 : Int), ())).1 = true
    · by_cases a1 : wi lo hi (List.getD l i ((0 : Int), (0 : Int), ())).2.1 = true
      · by_cases a2 : (List.getD l i ((0 : Int), (0 : Int), ())).1 ≤ (List.getD l i ((0 : Int), (0 : Int), ())).2.1
        · simp only [a0, a1, a2]; simp
        · simp only [a0, a1, a2]; simp
      · simp only [a0, a1]; simp
    · simp only [a0]; simp
  · simp [s105_0, t105_0, leF_eq]

theorem f88_eq (lo hi : Int) (l : List Rg) (h : l.length ≤ 1000000000) : f88 (l, lo, hi, ()) = some (rsF lo hi l, ()) := by
  have hl := l105 lo hi l h
  unfold rsF
  cases hf : first (fun i => !decide (rgE lo hi (rAt l i) = 0)) l.length 0 with
  | none =>
    rw [hf] at hl
    simp only [f88, t88, Tr.val_test, Tr.val_fin, hl, isRet, Option.isSome_some, if_true, Bool.false_eq_true, if_false]
  | some k =>
    rw [hf] at hl
    simp only [f88, t88, Tr.val_test, Tr.val_fin, hl, isRet, r105_0, outR, Option.isSome_some, if_true]

/-- The error of ranges. -/
def rsE (l : List Rg) : Int := if l.length = 0 then 10 else if 12 < l.length then 8 else rsF (-1000000000) 1000000000 l

theorem f68_eq (l : List Rg) (h : l.length ≤ 1000000000) : f68 (l, ()) = some (rsE l, ()) := by
  have e0 := f84_eq (l.length : Int) 12
  have e1 := f88_eq (-1000000000) 1000000000 l h
  simp only [f68, t68, Tr.val_test, Tr.val_fin, g84, g88, e0, e1, Option.isSome_some, Option.getD_some, if_true, eqF_eq, rsE]
  by_cases h1 : l.length = 0
  · simp [h1]
  · by_cases h2 : 12 < l.length
    · have : ¬ (l.length : Int) = 0 := by omega
      have : ¬ (l.length : Int) ≤ 12 := by omega
      simp [*]
    · have : ¬ (l.length : Int) = 0 := by omega
      have : (l.length : Int) ≤ 12 := by omega
      simp [*]

theorem l38 (l : List Rg) (h : l.length ≤ 1000000000) : l38_0 ((l, (0 : Int), ()), ()) = match first (fun i => !decide (rgE (-1000000000) 1000000000 (rAt l i) = 0)) l.length 0 with
    | some k => some (.inr ((rgE (-1000000000) 1000000000 (rAt l k), ()), ()))
    | none => some (.inl ((), ())) := by
  refine itr_search (fun i => ((l, (i : Int), ()), ())) (fun i => !decide (rgE (-1000000000) 1000000000 (rAt l i) = 0)) (fun k => ((rgE (-1000000000) 1000000000 (rAt l k), ()), ())) (n := l.length) ?_ ?_ (lt_rounds (by omega))
  · intro i hi'
    simp only [s38_0, t38_0, Tr.val_test, Tr.val_fin, Tr.val_stop, leF_eq, eqF_eq, Int.toNat_natCast, wrap64_nat (show i ≤ 9223372036854775806 by omega)]
    rw [if_pos (by simp; omega), if_pos (by simp; omega)]
    simp only [g30, f30_eq, Option.isSome_some, Option.getD_some, if_true, rAt, rgE]
    by_cases a0 : wi (-1000000000) 1000000000 (List.getD l i ((0 : Int), (0 : Int), ())).1 = true
    · by_cases a1 : wi (-1000000000) 1000000000 (List.getD l i ((0 : Int), (0 : Int), ())).2.1 = true
      · by_cases a2 : (List.getD l i ((0 : Int), (0 : Int), ())).1 ≤ (List.getD l i ((0 : Int), (0 : Int), ())).2.1
        · simp only [a0, a1, a2]; simp
        · simp only [a0, a1, a2]; simp
      · simp only [a0, a1]; simp
    · simp only [a0]; simp
  · simp [s38_0, t38_0, leF_eq]

theorem f38_eq (l : List Rg) (h : l.length ≤ 1000000000) : f38 (l, ()) = some (rsE l, ()) := by
  have hl := l38 l h
  simp only [f38, t38, Tr.val_test, Tr.val_fin, leF_eq, eqF_eq, rsE]
  by_cases h1 : l.length = 0
  · simp [h1]
  · by_cases h2 : 12 < l.length
    · have : ¬ (l.length : Int) = 0 := by omega
      have : ¬ (l.length : Int) ≤ 12 := by omega
      simp [*]
    · have e1 : ¬ (l.length : Int) = 0 := by omega
      have e2 : (l.length : Int) ≤ 12 := by omega
      simp only [e1, e2, h1, h2, decide_true, decide_false, Bool.not_true, Bool.false_eq_true, if_false, rsF]
      cases hf : first (fun i => !decide (rgE (-1000000000) 1000000000 (rAt l i) = 0)) l.length 0 with
      | none =>
        rw [hf] at hl
        simp only [hl, isRet, Option.isSome_some, if_true, Bool.false_eq_true, if_false]
      | some k =>
        rw [hf] at hl
        simp only [hl, isRet, r38_0, outR, Option.isSome_some, if_true]

/-! What ranges have in common. -/

def mx (a b : Int) : Int := if a < b then b else a
def mn (a b : Int) : Int := if b < a then b else a
def cut (a : Int × Int) (r : Rg) : Int × Int := (mx a.1 r.1, mn a.2 r.2.1)
def cuts (a : Int × Int) (l : List Rg) : Int × Int := l.foldl cut a

theorem take_rAt (l : List Rg) {i : Nat} (h : i < l.length) : l.take (i + 1) = l.take i ++ [rAt l i] := by
  rw [List.take_succ_eq_append_getElem h]
  simp [rAt, List.getD, h]

theorem cuts_succ (a : Int × Int) (l : List Rg) {i : Nat} (h : i < l.length) : cuts a (l.take (i + 1)) = cut (cuts a (l.take i)) (rAt l i) := by
  rw [take_rAt l h, cuts, List.foldl_append]; rfl

theorem l69 (a b : Int) (l : List Rg) (h : l.length ≤ 1000000000) : l69_0 ((l, (l.length : Int), (0 : Int), ()), ((0 : Int), (0 : Int), ()), (a, b, ()), ()) = some (.inl ((), ((0 : Int), (0 : Int), ()), ((cuts (a, b) l).1, (cuts (a, b) l).2, ()), ())) := by
  have := itr_brk (step := s69_0) (fun i => ((l, (l.length : Int), (i : Int), ()), ((0 : Int), (0 : Int), ()), ((cuts (a, b) (l.take i)).1, (cuts (a, b) (l.take i)).2, ()), ())) (n := l.length) (m := rounds) (b := ((), ((0 : Int), (0 : Int), ()), ((cuts (a, b) l).1, (cuts (a, b) l).2, ()), ())) ?_ ?_ (lt_rounds (by omega))
  · exact this
  · intro i hi
    simp only [s69_0, t69_0, Tr.val_test, Tr.val_fin, leF_eq, Int.toNat_natCast, wrap64_nat (show i ≤ 9223372036854775806 by omega)]
    rw [if_pos (by simp; omega), if_pos (by simp; omega)]
    rw [cuts_succ (a, b) l hi]
    rfl
  · simp [s69_0, t69_0, leF_eq]

theorem f69_eq (a b : Int) (l : List Rg) (h : l.length ≤ 1000000000) : f69 ((a, b, ()), l, ()) = some (((cuts (a, b) l).1, (cuts (a, b) l).2, ()), decide ((cuts (a, b) l).1 ≤ (cuts (a, b) l).2), ()) := by
  simp only [f69, t69, Tr.val_test, Tr.val_fin, b69_0, l69 a b l h, isBrk, outB, if_true]

def meetB (a r : Rg) : Bool := decide (mx a.1 r.1 ≤ mn a.2.1 r.2.1)

theorem f69_one (a r : Rg) : f69 ((a.1, a.2.1, ()), [(r.1, r.2.1, ())], ()) = some ((mx a.1 r.1, mn a.2.1 r.2.1, ()), meetB a r, ()) := f69_eq a.1 a.2.1 [(r.1, r.2.1, ())] (by simp)

theorem f70_eq (a r : Rg) : f70 ((a.1, a.2.1, ()), (r.1, r.2.1, ()), ()) = some (meetB a r, ()) := by
  simp only [f70, t70, Tr.val_fin, leF_eq]
  rfl

def allC (l : List Rg) : Int × Int := cuts ((rAt l 0).1, (rAt l 0).2.1) (l.drop 1)

theorem f34_eq (l : List Rg) (h : l.length ≤ 1000000000) : f34 (l, ()) = some (if rsE l ≠ 0 then (((0 : Int), (0 : Int), ()), rsE l, ()) else if (allC l).1 ≤ (allC l).2 then (((allC l).1, (allC l).2, ()), (0 : Int), ()) else (((0 : Int), (0 : Int), ()), (13 : Int), ())) := by
  have e1 := f68_eq l h
  simp only [f34, t34, Tr.val_test, Tr.val_fin, g68, e1, Option.isSome_some, Option.getD_some, if_true, eqF_eq]
  by_cases h1 : rsE l = 0
  · have h2 : l.length ≠ 0 := by
      intro h2
      simp [rsE, h2] at h1
    have e2 := f69_eq (rAt l 0).1 (rAt l 0).2.1 (l.drop 1) (by simp; omega)
    simp only [rAt] at e2
    simp only [h1, decide_true, Bool.not_true, Bool.false_eq_true, if_false, ne_eq, not_true_eq_false, e2, g69, Option.isSome_some, Option.getD_some, if_true]
    rw [if_pos (by simp; omega), if_pos (by simp; omega)]
    simp only [allC, rAt]
    by_cases h3 : (cuts ((List.getD l 0 ((0 : Int), (0 : Int), ())).1, (List.getD l 0 ((0 : Int), (0 : Int), ())).2.1) (l.drop 1)).1 ≤ (cuts ((List.getD l 0 ((0 : Int), (0 : Int), ())).1, (List.getD l 0 ((0 : Int), (0 : Int), ())).2.1) (l.drop 1)).2
    · simp only [h3, decide_true, Bool.not_true, Bool.false_eq_true, if_false, if_true]
    · simp only [h3, decide_false, Bool.not_false, if_false, if_true]
  · simp only [h1, decide_false, Bool.not_false, if_true, ne_eq, not_false_eq_true]

theorem l39 (a b : Int) (l : List Rg) (h : l.length ≤ 1000000000) (h0 : 0 < l.length) : l39_0 ((l, (1 : Int), ()), ((0 : Int), (0 : Int), ()), (a, b, ()), ()) = some (.inl ((), ((0 : Int), (0 : Int), ()), ((cuts (a, b) (l.drop 1)).1, (cuts (a, b) (l.drop 1)).2, ()), ())) := by
  have hd : (l.drop 1).length = l.length - 1 := by simp
  have := itr_brk (step := s39_0) (fun i => ((l, ((i + 1 : Nat) : Int), ()), ((0 : Int), (0 : Int), ()), ((cuts (a, b) ((l.drop 1).take i)).1, (cuts (a, b) ((l.drop 1).take i)).2, ()), ())) (n := l.length - 1) (m := rounds) (b := ((), ((0 : Int), (0 : Int), ()), ((cuts (a, b) (l.drop 1)).1, (cuts (a, b) (l.drop 1)).2, ()), ())) ?_ ?_ (lt_rounds (by omega))
  · exact this
  · intro i hi
    have hw : wrap64 (((i + 1 : Nat) : Int) + 1) = ((i + 1 + 1 : Nat) : Int) := wrap64_nat (by omega)
    simp only [s39_0, t39_0, Tr.val_test, Tr.val_fin, leF_eq, Int.toNat_natCast, hw]
    rw [if_pos (by simp; omega), if_pos (by simp; omega)]
    rw [cuts_succ (a, b) (l.drop 1) (by omega)]
    have : rAt (l.drop 1) i = rAt l (i + 1) := by simp [rAt, List.getD, List.getElem?_drop, Nat.add_comm]
    rw [this]
    rfl
  · have e : (l.drop 1).take (l.length - 1) = l.drop 1 := by rw [← hd]; exact List.take_length
    simp only [e, show l.length - 1 + 1 = l.length by omega]
    simp [s39_0, t39_0, leF_eq]

theorem f39_eq (l : List Rg) (h : l.length ≤ 1000000000) (h0 : 0 < l.length) : f39 (l, ()) = some (if (allC l).1 ≤ (allC l).2 then (((allC l).1, (allC l).2, ()), true, ()) else (((0 : Int), (0 : Int), ()), false, ())) := by
  have e := l39 (rAt l 0).1 (rAt l 0).2.1 l h h0
  simp only [rAt] at e
  simp only [f39, t39, Tr.val_test, Tr.val_fin, b39_0, e, isBrk, outB, if_true, leF_eq]
  rw [if_pos (by simp; omega)]
  simp only [allC, rAt]
  by_cases h3 : (cuts ((List.getD l 0 ((0 : Int), (0 : Int), ())).1, (List.getD l 0 ((0 : Int), (0 : Int), ())).2.1) (l.drop 1)).1 ≤ (cuts ((List.getD l 0 ((0 : Int), (0 : Int), ())).1, (List.getD l 0 ((0 : Int), (0 : Int), ())).2.1) (l.drop 1)).2
  · simp only [h3, decide_true, Bool.not_true, Bool.false_eq_true, if_false, if_true]
  · simp only [h3, decide_false, Bool.not_false, if_false, if_true]

/-! Contradictions. -/

def sec (l : List Rg) (i : Nat) : Option Nat := first (fun j => !meetB (rAt l i) (rAt l (i + 1 + j))) (l.length - (i + 1)) 0
def pr (l : List Rg) (i : Nat) : List Int := match sec l i with
  | some j => [(i : Int), ((i + 1 + j : Nat) : Int)]
  | none => []

theorem q36_2 (l : List Rg) (h : l.length ≤ 1000000000) (i : Nat) (hi : i < l.length) : l36_2 ((l, (i : Int), ((i + 1 : Nat) : Int), l, (l.length : Int), (i : Int), ()), ((rAt l i).1, (rAt l i).2.1, ()), ()) = match sec l i with
    | some j => some (.inr (([(i : Int), ((i + 1 + j : Nat) : Int)], (0 : Int), ()), ((rAt l i).1, (rAt l i).2.1, ()), ()))
    | none => some (.inl ((l, l, (l.length : Int), (i : Int), ()), ((rAt l i).1, (rAt l i).2.1, ()), ())) := by
  refine itr_search (fun j => ((l, (i : Int), ((i + 1 + j : Nat) : Int), l, (l.length : Int), (i : Int), ()), ((rAt l i).1, (rAt l i).2.1, ()), ())) (fun j => !meetB (rAt l i) (rAt l (i + 1 + j))) (fun j => (([(i : Int), ((i + 1 + j : Nat) : Int)], (0 : Int), ()), ((rAt l i).1, (rAt l i).2.1, ()), ())) (n := l.length - (i + 1)) ?_ ?_ (lt_rounds (by omega))
  · intro j hj
    have e1 := f69_one (rAt l i) (rAt l (i + 1 + j))
    have hw : wrap64 (((i + 1 + j : Nat) : Int) + 1) = ((i + 1 + (j + 1) : Nat) : Int) := wrap64_nat (by omega)
    simp only [s36_2, t36_2, Tr.val_test, Tr.val_fin, Tr.val_stop, leF_eq, Int.toNat_natCast, hw]
    rw [if_pos (by simp; omega), if_pos (by simp; omega)]
    change (if Option.isSome (f69 (((rAt l i).1, (rAt l i).2.1, ()), [((rAt l (i + 1 + j)).1, (rAt l (i + 1 + j)).2.1, ())], ())) = true then (if (!(g69 (((rAt l i).1, (rAt l i).2.1, ()), [((rAt l (i + 1 + j)).1, (rAt l (i + 1 + j)).2.1, ())], ())).2.1) = true then _ else _) else _) = _
    simp only [g69, e1, Option.isSome_some, Option.getD_some, if_true]
  · have e : ((i + 1 + (l.length - (i + 1)) : Nat) : Int) = (l.length : Int) := by omega
    simp only [e]
    simp [s36_2, t36_2, leF_eq]

def con (l : List Rg) : Option Nat := first (fun i => (sec l i).isSome) l.length 0

theorem q36_0 (l : List Rg) (h : l.length ≤ 1000000000) : l36_0 ((l, l, (l.length : Int), (0 : Int), ()), ()) = match con l with
    | some i => some (.inr ((pr l i, (0 : Int), ()), ()))
    | none => some (.inl ((), ())) := by
  refine itr_search (fun i => ((l, l, (l.length : Int), (i : Int), ()), ())) (fun i => (sec l i).isSome) (fun i => ((pr l i, (0 : Int), ()), ())) (n := l.length) ?_ ?_ (lt_rounds (by omega))
  · intro i hi
    have e1 := q36_2 l h i hi
    simp only [rAt] at e1
    simp only [s36_0, t36_0, Tr.val_test, Tr.val_fin, Tr.val_stop, leF_eq, Int.toNat_natCast, wrap64_nat (show i ≤ 9223372036854775806 by omega)]
    rw [if_pos (by simp; omega), if_pos (by simp; omega)]
    cases hs : sec l i with
    | none =>
      rw [hs] at e1
      simp only [e1, b36_2, r36_2, isRet, outB, Option.isSome_some, Option.isSome_none, if_true, Bool.false_eq_true, if_false, wrap64_nat (show i ≤ 9223372036854775806 by omega)]
    | some j =>
      rw [hs] at e1
      simp only [e1, r36_2, isRet, outR, Option.isSome_some, if_true, pr, hs]
  · simp [s36_0, t36_0, leF_eq]

theorem f36_eq (l : List Rg) (h : l.length ≤ 1000000000) : f36 (l, ()) = some (if rsE l ≠ 0 then (([] : List Int), rsE l, ()) else match con l with
    | some i => (pr l i, (0 : Int), ())
    | none => ([], (12 : Int), ())) := by
  have e1 := f68_eq l h
  have e2 := q36_0 l h
  simp only [f36, t36, Tr.val_test, Tr.val_fin, Tr.val_stop, g68, e1, Option.isSome_some, Option.getD_some, if_true, eqF_eq]
  by_cases h1 : rsE l = 0
  · simp only [h1, decide_true, Bool.not_true, Bool.false_eq_true, if_false, ne_eq, not_true_eq_false]
    cases hc : con l with
    | none =>
      rw [hc] at e2
      simp only [e2, isRet, Option.isSome_some, if_true, Bool.false_eq_true, if_false]
    | some i =>
      rw [hc] at e2
      simp only [e2, isRet, r36_0, outR, Option.isSome_some, if_true]
  · simp only [h1, decide_false, Bool.not_false, if_true, ne_eq, not_false_eq_true]

theorem q40_2 (l : List Rg) (h : l.length ≤ 1000000000) (i : Nat) (hi : i < l.length) : l40_2 ((l, (i : Int), ((i + 1 : Nat) : Int), ()), ()) = match sec l i with
    | some j => some (.inr (([(i : Int), ((i + 1 + j : Nat) : Int)], ()), ()))
    | none => some (.inl ((l, (i : Int), ()), ())) := by
  refine itr_search (fun j => ((l, (i : Int), ((i + 1 + j : Nat) : Int), ()), ())) (fun j => !meetB (rAt l i) (rAt l (i + 1 + j))) (fun j => (([(i : Int), ((i + 1 + j : Nat) : Int)], ()), ())) (n := l.length - (i + 1)) ?_ ?_ (lt_rounds (by omega))
  · intro j hj
    have e1 := f70_eq (rAt l i) (rAt l (i + 1 + j))
    have hw : wrap64 (((i + 1 + j : Nat) : Int) + 1) = ((i + 1 + (j + 1) : Nat) : Int) := wrap64_nat (by omega)
    simp only [s40_2, t40_2, Tr.val_test, Tr.val_fin, Tr.val_stop, leF_eq, Int.toNat_natCast, hw]
    rw [if_pos (by simp; omega), if_pos (by simp; omega), if_pos (by simp; omega)]
    change (if Option.isSome (f70 (((rAt l i).1, (rAt l i).2.1, ()), ((rAt l (i + 1 + j)).1, (rAt l (i + 1 + j)).2.1, ()), ())) = true then (if (!(g70 (((rAt l i).1, (rAt l i).2.1, ()), ((rAt l (i + 1 + j)).1, (rAt l (i + 1 + j)).2.1, ()), ())).1) = true then _ else _) else _) = _
    simp only [g70, e1, Option.isSome_some, Option.getD_some, if_true]
  · have e : ((i + 1 + (l.length - (i + 1)) : Nat) : Int) = (l.length : Int) := by omega
    simp only [e]
    simp [s40_2, t40_2, leF_eq]

theorem q40_0 (l : List Rg) (h : l.length ≤ 1000000000) : l40_0 ((l, (0 : Int), ()), ()) = match con l with
    | some i => some (.inr ((pr l i, ()), ()))
    | none => some (.inl ((), ())) := by
  refine itr_search (fun i => ((l, (i : Int), ()), ())) (fun i => (sec l i).isSome) (fun i => ((pr l i, ()), ())) (n := l.length) ?_ ?_ (lt_rounds (by omega))
  · intro i hi
    have e1 := q40_2 l h i hi
    simp only [s40_0, t40_0, Tr.val_test, Tr.val_fin, Tr.val_stop, leF_eq, Int.toNat_natCast, wrap64_nat (show i ≤ 9223372036854775806 by omega)]
    rw [if_pos (by simp; omega)]
    cases hs : sec l i with
    | none =>
      rw [hs] at e1
      simp only [e1, b40_2, r40_2, isRet, outB, Option.isSome_some, Option.isSome_none, if_true, Bool.false_eq_true, if_false, wrap64_nat (show i ≤ 9223372036854775806 by omega)]
    | some j =>
      rw [hs] at e1
      simp only [e1, r40_2, isRet, outR, Option.isSome_some, if_true, pr, hs]
  · simp [s40_0, t40_0, leF_eq]

theorem f40_eq (l : List Rg) (h : l.length ≤ 1000000000) : f40 (l, ()) = some (match con l with
    | some i => (pr l i, ())
    | none => (([] : List Int), ())) := by
  have e2 := q40_0 l h
  simp only [f40, t40, Tr.val_test, Tr.val_fin, Tr.val_stop]
  cases hc : con l with
  | none =>
    rw [hc] at e2
    simp only [e2, isRet, Option.isSome_some, if_true, Bool.false_eq_true, if_false]
  | some i =>
    rw [hc] at e2
    simp only [e2, isRet, r40_0, outR, Option.isSome_some, if_true]

/-! All agree exactly if two and two agree. -/

theorem cuts_ge : ∀ (l : List Rg) (a : Int × Int), a.1 ≤ (cuts a l).1 ∧ (cuts a l).2 ≤ a.2 ∧ ∀ r ∈ l, r.1 ≤ (cuts a l).1 ∧ (cuts a l).2 ≤ r.2.1
  | [], a => ⟨Int.le_refl _, Int.le_refl _, fun r hr => by cases hr⟩
  | x :: l, a => by
    obtain ⟨h1, h2, h3⟩ := cuts_ge l (cut a x)
    have e : cuts a (x :: l) = cuts (cut a x) l := rfl
    rw [e]
    have c1 : a.1 ≤ (cut a x).1 ∧ x.1 ≤ (cut a x).1 := by simp only [cut, mx]; split <;> omega
    have c2 : (cut a x).2 ≤ a.2 ∧ (cut a x).2 ≤ x.2.1 := by simp only [cut, mn]; split <;> omega
    refine ⟨by omega, by omega, fun r hr => ?_⟩
    rcases List.mem_cons.1 hr with rfl | hr
    · omega
    · exact h3 r hr

theorem cuts_at : ∀ (l : List Rg) (a : Int × Int), ((cuts a l).1 = a.1 ∨ ∃ r ∈ l, (cuts a l).1 = r.1) ∧ ((cuts a l).2 = a.2 ∨ ∃ r ∈ l, (cuts a l).2 = r.2.1)
  | [], a => ⟨.inl rfl, .inl rfl⟩
  | x :: l, a => by
    obtain ⟨h1, h2⟩ := cuts_at l (cut a x)
    have e : cuts a (x :: l) = cuts (cut a x) l := rfl
    rw [e]
    have c1 : (cut a x).1 = a.1 ∨ (cut a x).1 = x.1 := by simp only [cut, mx]; split <;> simp
    have c2 : (cut a x).2 = a.2 ∨ (cut a x).2 = x.2.1 := by simp only [cut, mn]; split <;> simp
    constructor
    · rcases h1 with h1 | ⟨r, hr, h1⟩
      · rcases c1 with c1 | c1
        · exact .inl (h1.trans c1)
        · exact .inr ⟨x, List.mem_cons_self .., h1.trans c1⟩
      · exact .inr ⟨r, List.mem_cons_of_mem _ hr, h1⟩
    · rcases h2 with h2 | ⟨r, hr, h2⟩
      · rcases c2 with c2 | c2
        · exact .inl (h2.trans c2)
        · exact .inr ⟨x, List.mem_cons_self .., h2.trans c2⟩
      · exact .inr ⟨r, List.mem_cons_of_mem _ hr, h2⟩

theorem mem_rAt {l : List Rg} {r : Rg} (h : r ∈ l) : ∃ i, i < l.length ∧ rAt l i = r := by
  obtain ⟨i, hi, e⟩ := List.mem_iff_getElem.1 h
  exact ⟨i, hi, by simp [rAt, List.getD, hi, e]⟩

theorem rAt_mem {l : List Rg} {i : Nat} (h : i < l.length) : rAt l i ∈ l := by
  simp [rAt, List.getD, h]

theorem allC_cons (r : Rg) (l : List Rg) : allC (r :: l) = cuts (r.1, r.2.1) l := rfl

theorem allC_ge (l : List Rg) {i : Nat} (h : i < l.length) : (rAt l i).1 ≤ (allC l).1 ∧ (allC l).2 ≤ (rAt l i).2.1 := by
  have hm := rAt_mem h
  cases l with
  | nil => simp at h
  | cons x l =>
    rw [allC_cons]
    obtain ⟨h1, h2, h3⟩ := cuts_ge l (x.1, x.2.1)
    rcases List.mem_cons.1 hm with e | hm
    · rw [e]; exact ⟨h1, h2⟩
    · exact h3 _ hm

theorem allC_at (l : List Rg) (h : 0 < l.length) : (∃ i, i < l.length ∧ (allC l).1 = (rAt l i).1) ∧ ∃ i, i < l.length ∧ (allC l).2 = (rAt l i).2.1 := by
  cases l with
  | nil => simp at h
  | cons x l =>
    rw [allC_cons]
    obtain ⟨h1, h2⟩ := cuts_at l (x.1, x.2.1)
    constructor
    · rcases h1 with h1 | ⟨r, hr, h1⟩
      · exact ⟨0, by simp, h1⟩
      · obtain ⟨i, hi, e⟩ := mem_rAt (List.mem_cons_of_mem x hr)
        exact ⟨i, hi, by rw [e]; exact h1⟩
    · rcases h2 with h2 | ⟨r, hr, h2⟩
      · exact ⟨0, by simp, h2⟩
      · obtain ⟨i, hi, e⟩ := mem_rAt (List.mem_cons_of_mem x hr)
        exact ⟨i, hi, by rw [e]; exact h2⟩

theorem mx_le {a b c : Int} : mx a b ≤ c ↔ a ≤ c ∧ b ≤ c := by
  unfold mx
  by_cases h : a < b
  · rw [if_pos h]; omega
  · rw [if_neg h]; omega

theorem le_mn {a b c : Int} : c ≤ mn a b ↔ c ≤ a ∧ c ≤ b := by
  unfold mn
  by_cases h : b < a
  · rw [if_pos h]; omega
  · rw [if_neg h]; omega

theorem meetB_iff {a r : Rg} (ha : a.1 ≤ a.2.1) (hr : r.1 ≤ r.2.1) : meetB a r = true ↔ a.1 ≤ r.2.1 ∧ r.1 ≤ a.2.1 := by
  simp only [meetB, decide_eq_true_eq, mx_le, le_mn]
  omega

theorem rsE_ok {l : List Rg} (h : rsE l = 0) : 0 < l.length ∧ l.length ≤ 12 ∧ ∀ i, i < l.length → (rAt l i).1 ≤ (rAt l i).2.1 := by
  unfold rsE at h
  split at h
  · cases h
  · split at h
    · cases h
    · refine ⟨by omega, by omega, fun i hi => ?_⟩
      unfold rsF at h
      cases hf : first (fun i => !decide (rgE (-1000000000) 1000000000 (rAt l i) = 0)) l.length 0 with
      | some k =>
        rw [hf] at h
        have := (first_some hf).2.2.1
        simp [h] at this
      | none =>
        have := first_none hf i (Nat.zero_le _) (by omega)
        have : rgE (-1000000000) 1000000000 (rAt l i) = 0 := by simpa using this
        unfold rgE at this
        split at this
        · cases this
        · split at this
          · cases this
          · split at this
            · cases this
            · omega

theorem con_none {l : List Rg} (h : con l = none) {i k : Nat} (hik : i < k) (hk : k < l.length) : meetB (rAt l i) (rAt l k) = true := by
  have h1 := first_none h i (Nat.zero_le _) (by omega)
  have h2 : sec l i = none := by simpa using h1
  have h3 := first_none h2 (k - (i + 1)) (Nat.zero_le _) (by omega)
  rw [show i + 1 + (k - (i + 1)) = k by omega] at h3
  simpa using h3

theorem helly {l : List Rg} (h : rsE l = 0) : con l = none ↔ (allC l).1 ≤ (allC l).2 := by
  obtain ⟨h0, _, hv⟩ := rsE_ok h
  constructor
  · intro hc
    obtain ⟨⟨i, hi, e1⟩, ⟨k, hk, e2⟩⟩ := allC_at l h0
    rw [e1, e2]
    rcases Nat.lt_trichotomy i k with hlt | rfl | hgt
    · exact ((meetB_iff (hv i hi) (hv k hk)).1 (con_none hc hlt hk)).1
    · exact hv i hi
    · exact ((meetB_iff (hv k hk) (hv i hi)).1 (con_none hc hgt hi)).2
  · intro ha
    refine first_of_none fun i _ hi => ?_
    have : sec l i = none := by
      refine first_of_none fun j _ hj => ?_
      have a1 := allC_ge l (i := i) (by omega)
      have a2 := allC_ge l (i := i + 1 + j) (by omega)
      have : meetB (rAt l i) (rAt l (i + 1 + j)) = true := (meetB_iff (hv _ (by omega)) (hv _ (by omega))).2 ⟨by omega, by omega⟩
      rw [this]; rfl
    rw [this]; rfl

/-! Damaged modes. -/

def dam (a b : List Rg) : Nat → List Int
  | 0 => []
  | i + 1 => if meetB (rAt a i) (rAt b i) = true then dam a b i else dam a b i ++ [(i : Int)]

theorem dam_len (a b : List Rg) : ∀ i, (dam a b i).length ≤ i
  | 0 => Nat.le_refl _
  | i + 1 => by
    have := dam_len a b i
    simp only [dam]
    split
    · omega
    · simp; omega

theorem q37_0 (a b : List Rg) (h : a.length ≤ 1000) (hb : a.length ≤ b.length) : l37_0 ((b, [], a, (a.length : Int), (0 : Int), ()), ()) = some (.inl ((dam a b a.length, ()), ())) := by
  have := itr_brk (step := s37_0) (fun i => ((b, dam a b i, a, (a.length : Int), (i : Int), ()), ())) (n := a.length) (m := rounds) (b := ((dam a b a.length, ()), ())) ?_ ?_ (lt_rounds (by omega))
  · exact this
  · intro i hi
    have e1 := f69_one (rAt a i) (rAt b i)
    have hl := dam_len a b i
    simp only [s37_0, t37_0, Tr.val_test, Tr.val_fin, Tr.val_stop, leF_eq, Int.toNat_natCast, wrap64_nat (show i ≤ 9223372036854775806 by omega)]
    rw [if_pos (by simp; omega), if_pos (by simp; omega), if_pos (by simp; omega)]
    change (if Option.isSome (f69 (((rAt a i).1, (rAt a i).2.1, ()), [((rAt b i).1, (rAt b i).2.1, ())], ())) = true then (if (!(g69 (((rAt a i).1, (rAt a i).2.1, ()), [((rAt b i).1, (rAt b i).2.1, ())], ())).2.1) = true then _ else _) else _) = _
    simp only [g69, e1, Option.isSome_some, Option.getD_some, if_true, dam]
    cases hm : meetB (rAt a i) (rAt b i) with
    | true => rfl
    | false =>
      simp only [Bool.not_false, if_true, Bool.false_eq_true, if_false]
      rw [if_pos (by simp only [Bool.and_eq_true, ble_eq_true']; omega)]
  · simp [s37_0, t37_0, leF_eq]

def dmE (a b : List Rg) : Int := firstNZ [rsE a, rsE b, if a.length = b.length then 0 else 13]

theorem f37_eq (a b : List Rg) (ha : a.length ≤ 1000) (hb : b.length ≤ 1000) : f37 (a, b, ()) = some (if dmE a b ≠ 0 then (([] : List Int), dmE a b, ()) else (dam a b a.length, (0 : Int), ())) := by
  have e1 := f68_eq a (by omega)
  have e2 := f68_eq b (by omega)
  have e3 := f47_eq (!eqF (a.length : Int) (b.length : Int), (13 : Int), ())
  have e3' : (if (!eqF (a.length : Int) (b.length : Int)) = true then (13 : Int) else 0) = if a.length = b.length then 0 else 13 := by
    rw [eqF_eq]
    by_cases h : a.length = b.length
    · simp [h]
    · have : ¬ (a.length : Int) = (b.length : Int) := by omega
      simp [h, this]
  simp only [e3'] at e3
  simp only [f37, t37, Tr.val_test, Tr.val_fin, Tr.val_stop, g68, g47, e1, e2, e3, Option.isSome_some, Option.getD_some, if_true]
  have e4 := f46_eq [rsE a, rsE b, if a.length = b.length then 0 else 13] (by simp)
  simp only [g46, e4, Option.isSome_some, Option.getD_some, if_true, eqF_eq]
  change (if (!decide (dmE a b = 0)) = true then _ else _) = _
  by_cases h1 : dmE a b = 0
  · have hlen : a.length = b.length := by
      by_cases hl : a.length = b.length
      · exact hl
      · exfalso
        by_cases ra : rsE a = 0
        · by_cases rb : rsE b = 0
          · simp [dmE, firstNZ, ra, rb, hl] at h1
          · simp [dmE, firstNZ, ra, rb] at h1
        · simp [dmE, firstNZ, ra] at h1
    have e5 := q37_0 a b ha (by omega)
    simp only [h1, decide_true, Bool.not_true, Bool.false_eq_true, if_false, ne_eq, not_true_eq_false, e5, isBrk, b37_0, outB, if_true]
  · simp only [h1, decide_false, Bool.not_false, if_true, ne_eq, not_false_eq_true]
    rfl

theorem q41_0 (a b : List Rg) (h : a.length ≤ 1000) (hb : a.length ≤ b.length) : l41_0 ((a, b, [], (0 : Int), ()), ()) = some (.inl ((dam a b a.length, ()), ())) := by
  have := itr_brk (step := s41_0) (fun i => ((a, b, dam a b i, (i : Int), ()), ())) (n := a.length) (m := rounds) (b := ((dam a b a.length, ()), ())) ?_ ?_ (lt_rounds (by omega))
  · exact this
  · intro i hi
    have e1 := f70_eq (rAt a i) (rAt b i)
    have hl := dam_len a b i
    simp only [s41_0, t41_0, Tr.val_test, Tr.val_fin, Tr.val_stop, leF_eq, Int.toNat_natCast, wrap64_nat (show i ≤ 9223372036854775806 by omega)]
    rw [if_pos (by simp; omega), if_pos (by simp; omega), if_pos (by simp; omega)]
    change (if Option.isSome (f70 (((rAt a i).1, (rAt a i).2.1, ()), ((rAt b i).1, (rAt b i).2.1, ()), ())) = true then (if (!(g70 (((rAt a i).1, (rAt a i).2.1, ()), ((rAt b i).1, (rAt b i).2.1, ()), ())).1) = true then _ else _) else _) = _
    simp only [g70, e1, Option.isSome_some, Option.getD_some, if_true, dam]
    cases hm : meetB (rAt a i) (rAt b i) with
    | true => rfl
    | false =>
      simp only [Bool.not_false, if_true, Bool.false_eq_true, if_false]
      rw [if_pos (by simp only [Bool.and_eq_true, ble_eq_true']; omega)]
  · simp [s41_0, t41_0, leF_eq]

theorem f41_eq (a b : List Rg) (h : a.length ≤ 1000) (hb : a.length ≤ b.length) : f41 (a, b, ()) = some (dam a b a.length, ()) := by
  simp only [f41, t41, Tr.val_test, Tr.val_fin, Tr.val_stop, q41_0 a b h hb, isBrk, b41_0, outB, if_true]

theorem q14_0 (l : List Int) (h : l.length ≤ 1000000) : l14_0 ((l, l, (0 : Int), ()), ()) = some (.inl ((), ())) := by
  refine itr_brk (fun i => ((l, l, (i : Int), ()), ())) (n := l.length) ?_ ?_ (lt_rounds (by omega))
  · intro i hi
    simp only [s14_0, t14_0, Tr.val_test, Tr.val_fin, Tr.val_stop, leF_eq, eqF_eq, Int.toNat_natCast, wrap64_nat (show i ≤ 9223372036854775806 by omega)]
    rw [if_pos (by simp; omega), if_pos (by simp; omega), if_pos (by simp; omega)]
    simp
  · simp [s14_0, t14_0, leF_eq]

theorem f14_self (l : List Int) (h : l.length ≤ 1000000) : f14 (l, l, ()) = some (true, ()) := by
  simp only [f14, t14, Tr.val_test, Tr.val_fin, Tr.val_stop, q14_0 l h, isRet, eqF_eq, decide_true, Bool.not_true, Bool.false_eq_true, if_false, Option.isSome_some, if_true]

theorem f35_eq (l : List Rg) (h : l.length ≤ 1000) : f35 (l, ()) = some (l, ()) := by
  simp only [f35, t35, Tr.val_test, Tr.val_fin, Tr.val_stop, List.nil_append]
  by_cases h0 : l.length = 0
  · have : l = [] := List.eq_nil_of_length_eq_zero h0
    subst this; rfl
  · rw [if_neg (by rw [beq_eq_true']; exact h0), if_neg (by rw [ble_eq_true']; omega), if_pos (by simp only [Bool.and_eq_true, ble_eq_true']; omega), if_pos (by rw [beq_eq_true']; omega)]

/-! The law. -/

theorem pr_len (l : List Rg) (i : Nat) : (pr l i).length ≤ 2 := by
  unfold pr
  split <;> simp

theorem f6_eq (a b : List Rg) : f6 (a, b, ()) = some (true, ()) := by
  simp only [f6, t6, Tr.val_test, Tr.val_fin, Tr.val_stop, leF_eq]
  by_cases ha : a.length ≤ 14
  · by_cases hb : b.length ≤ 14
    · have ha1 : (a.length : Int) ≤ 14 := by omega
      have hb1 : (b.length : Int) ≤ 14 := by omega
      have c1 := f35_eq a (by omega)
      have c2 := f35_eq b (by omega)
      have c3 := f34_eq a (by omega)
      have c4 := f36_eq a (by omega)
      have c5 := f37_eq a b (by omega) (by omega)
      have c6 := f38_eq a (by omega)
      have c7 := f38_eq b (by omega)
      have c8 := f40_eq a (by omega)
      simp only [ha1, hb1, decide_true, Bool.not_true, Bool.false_eq_true, if_false, g35, c1, c2, Option.isSome_some, Option.getD_some, if_true, g34, g36, g37, g38, c3, c4, c5, c6, c7, eqF_eq]
      by_cases hr : rsE a = 0
      · obtain ⟨h0, h12, _⟩ := rsE_ok hr
        have c9 := f39_eq a (by omega) h0
        have cs := helly hr
        have fin : (if decide (rsE b = 0) = true then
            if (!decide ((a.length : Int) = (b.length : Int))) = true then
              if decide ((if dmE a b ≠ 0 then (([] : List Int), dmE a b, ()) else (dam a b a.length, (0 : Int), ())).2.1 = 13) = true then some (decide (((if dmE a b ≠ 0 then (([] : List Int), dmE a b, ()) else (dam a b a.length, (0 : Int), ())).1.length : Int) = 0), ())
              else some (false, ())
            else if decide ((if dmE a b ≠ 0 then (([] : List Int), dmE a b, ()) else (dam a b a.length, (0 : Int), ())).2.1 = 0) = true then
              if Option.isSome (f41 (a, b, ())) = true then
                if Option.isSome (f14 ((if dmE a b ≠ 0 then (([] : List Int), dmE a b, ()) else (dam a b a.length, (0 : Int), ())).1, (g41 (a, b, ())).1, ())) = true then some ((g14 ((if dmE a b ≠ 0 then (([] : List Int), dmE a b, ()) else (dam a b a.length, (0 : Int), ())).1, (g41 (a, b, ())).1, ())).1, ())
                else none
              else none
            else some (false, ())
          else if decide ((if dmE a b ≠ 0 then (([] : List Int), dmE a b, ()) else (dam a b a.length, (0 : Int), ())).2.1 = rsE b) = true then some (decide (((if dmE a b ≠ 0 then (([] : List Int), dmE a b, ()) else (dam a b a.length, (0 : Int), ())).1.length : Int) = 0), ())
          else some (false, ())) = some (true, ()) := by
          by_cases hrb : rsE b = 0
          · by_cases hl : a.length = b.length
            · have hd : dmE a b = 0 := by simp [dmE, firstNZ, hr, hrb, hl]
              have d1 := f41_eq a b (by omega) (by omega)
              have d2 := f14_self (dam a b a.length) (by have := dam_len a b a.length; omega)
              simp only [hrb, hd, hl, decide_true, Bool.not_true, Bool.false_eq_true, if_false, if_true, ne_eq, not_true_eq_false]
              simp only [hl] at d1 d2
              simp only [g41, g14, d1, d2, Option.isSome_some, Option.getD_some, if_true]
            · have hl' : ¬ (a.length : Int) = (b.length : Int) := by omega
              have hd : dmE a b = 13 := by simp [dmE, firstNZ, hr, hrb, hl]
              simp only [hrb, hd, hl', decide_true, decide_false, Bool.not_false, if_true, ne_eq]
              simp
          · have hd : dmE a b = rsE b := by simp [dmE, firstNZ, hr, hrb]
            simp only [hrb, hd, decide_true, decide_false, Bool.false_eq_true, if_false, if_true, ne_eq, not_false_eq_true]
            simp
        simp only [hr, decide_true, Bool.not_true, Bool.false_eq_true, if_false, ne_eq, not_true_eq_false, g39, c9, Option.isSome_some, Option.getD_some, if_true]
        by_cases hc : (allC a).1 ≤ (allC a).2
        · have hcn := cs.2 hc
          simp only [hc, hcn, if_true, decide_true, Bool.not_true, Bool.false_eq_true, if_false, beq_self_eq_true, Bool.and_self, Bool.and_true, List.length_nil]
          exact fin
        · have hcn : con a ≠ none := fun e => hc (cs.1 e)
          obtain ⟨i, hi⟩ := Option.ne_none_iff_exists'.1 hcn
          simp only [hi] at c8
          have d3 := f14_self (pr a i) (by have := pr_len a i; omega)
          simp only [hc, hi, if_false, if_true, decide_true, Bool.not_true, Bool.false_eq_true, beq_self_eq_true, Bool.and_self, Bool.and_true, g40, g14, c8, d3, Option.isSome_some, Option.getD_some]
          exact fin
      · have hd : dmE a b = rsE a := by simp [dmE, firstNZ, hr]
        simp only [hr, hd, decide_true, decide_false, Bool.not_false, if_true, ne_eq, not_false_eq_true, beq_self_eq_true, Bool.and_self, Bool.and_true, List.length_nil]
        rfl
    · have hb1 : ¬ (b.length : Int) ≤ 14 := by omega
      have ha1 : (a.length : Int) ≤ 14 := by omega
      simp only [ha1, hb1, decide_true, decide_false, Bool.not_true, Bool.not_false, Bool.false_eq_true, if_false, if_true]
  · have ha1 : ¬ (a.length : Int) ≤ 14 := by omega
    simp only [ha1, decide_false, Bool.not_false, if_true]

theorem law6 (d : Tys.data as6) : Pure1 Go.Proofs.Try.prog 6 as6 [.bool] d (true, ()) := by
  have h := f6_eq d.1 d.2.1
  have hp : p6.pre d = true := by
    show Option.isSome (f6 d) = true
    rw [show f6 d = some (true, ()) from h]; rfl
  have hg : p6.fn d = (true, ()) := by
    show (f6 d).getD _ = _
    rw [show f6 d = some (true, ()) from h]; rfl
  have := ok6.runs d hp
  rw [hg] at this
  exact this

end Go.Vm.Mo
