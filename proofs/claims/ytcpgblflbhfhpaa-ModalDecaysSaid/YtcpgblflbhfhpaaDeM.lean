import Derived.Test.YtcpgblflbhfhpaaDeFa
import Derived.Test.YtcpgblflbhfhpaaA4
set_option linter.unusedVariables false
set_option linter.unusedSimpArgs false

namespace Go.Vm.Mo
open Go
set_option linter.unusedVariables false
set_option linter.unusedSimpArgs false

theorem first_map (bad : Nat → Bool) : ∀ (n i : Nat), first bad n (i + 1) = (first (fun k => bad (k + 1)) n i).map (· + 1)
  | 0, _ => rfl
  | n + 1, i => by
    simp only [first]
    split
    · rfl
    · exact first_map bad n (i + 1)

/-- The first that is not 0. -/
def firstNZ : List Int → Int
  | [] => 0
  | a :: l => if a = 0 then firstNZ l else a

theorem firstNZ_eq : ∀ l : List Int, (match first (fun i => !decide (l.getD i 0 = 0)) l.length 0 with
    | some k => l.getD k 0
    | none => 0) = firstNZ l
  | [] => rfl
  | a :: l => by
    simp only [List.length, first, firstNZ]
    by_cases ha : a = 0
    · subst ha
      have e := firstNZ_eq l
      have hf : first (fun i => !decide (((0 : Int) :: l).getD i 0 = 0)) l.length (0 + 1) = (first (fun i => !decide (l.getD i 0 = 0)) l.length 0).map (· + 1) := by
        rw [first_map]; rfl
      simp only [hf, List.getD_cons_zero, decide_true, Bool.not_true, Bool.false_eq_true, if_false, if_true]
      rw [← e]
      cases first (fun i => !decide (l.getD i 0 = 0)) l.length 0 with
      | none => rfl
      | some k => rfl
    · simp [ha]

theorem l46 (l : List Int) (h : l.length ≤ 1000000000) : l46_0 ((l, (l.length : Int), (0 : Int), ()), ()) = match first (fun i => !decide (l.getD i 0 = 0)) l.length 0 with
    | some k => some (.inr ((l.getD k 0, ()), ()))
    | none => some (.inl ((), ())) := by
  refine itr_search (fun i => ((l, (l.length : Int), (i : Int), ()), ())) (fun i => !decide (l.getD i 0 = 0)) (fun k => ((l.getD k 0, ()), ())) (n := l.length) ?_ ?_ (lt_rounds (by omega))
  · intro i hi
    simp only [s46_0, t46_0, Tr.val_test, leF_eq, eqF_eq]
    rw [if_pos (by simp; omega), if_pos (by simp; omega)]
    simp only [Int.toNat_natCast, wrap64_nat (show i ≤ 9223372036854775806 by omega)]
    rfl
  · simp [s46_0, t46_0, leF_eq]

theorem f46_eq (l : List Int) (h : l.length ≤ 1000000000) : f46 (l, ()) = some (firstNZ l, ()) := by
  simp only [f46, t46, Tr.val_test, r46_0, l46 l h, ← firstNZ_eq l]
  cases first (fun i => !decide (l.getD i 0 = 0)) l.length 0 with
  | none => rfl
  | some k => rfl

theorem f47_eq (d : Tys.data as47) : f47 d = some (if d.1 = true then d.2.1 else (0 : Int), ()) := by
  simp only [f47, t47, Tr.val_test]
  split <;> rfl

def wi (lo hi x : Int) : Bool := decide (lo ≤ x) && decide (x ≤ hi)

theorem wi_iff {lo hi x : Int} : wi lo hi x = true ↔ lo ≤ x ∧ x ≤ hi := by simp [wi]

theorem f30_eq (d : Tys.data as30) : f30 d = some (wi d.2.1 d.2.2.1 d.1, ()) := by
  simp only [f30, t30, Tr.val_test, Tr.val_fin, leF_eq, decide_eq_true_eq, wi]
  split <;> simp [*]

theorem l50 (lo hi : Int) (l : List Int) (h : l.length ≤ 1000000000) : l50_0 ((lo, hi, l, (l.length : Int), (0 : Int), ()), ()) = match first (fun i => !wi lo hi (l.getD i 0)) l.length 0 with
    | some _ => some (.inr ((false, ()), ()))
    | none => some (.inl ((), ())) := by
  refine itr_search (fun i => ((lo, hi, l, (l.length : Int), (i : Int), ()), ())) (fun i => !wi lo hi (l.getD i 0)) (fun _ => ((false, ()), ())) (n := l.length) ?_ ?_ (lt_rounds (by omega))
  · intro i hi'
    simp only [s50_0, t50_0, Tr.val_test, Tr.val_fin, leF_eq, Int.toNat_natCast, wrap64_nat (show i ≤ 9223372036854775806 by omega)]
    rw [if_pos (by simp; omega), if_pos (by simp; omega)]
    by_cases a0 : lo ≤ l.getD i 0
    · by_cases a1 : l.getD i 0 ≤ hi
      · simp only [wi, a0, a1, decide_true, Bool.and_self, Bool.not_true, if_true, if_false, Bool.false_eq_true]
      · simp only [wi, a0, a1, decide_true, decide_false, Bool.and_false, Bool.not_false, Bool.not_true, if_true, if_false, Bool.false_eq_true]
    · simp only [wi, a0, decide_false, Bool.false_and, Bool.not_false, if_true, if_false, Bool.false_eq_true]
  · simp [s50_0, t50_0, leF_eq]

theorem f50_eq (lo hi : Int) (l : List Int) (h : l.length ≤ 1000000000) : f50 (lo, hi, l, ()) = some ((first (fun i => !wi lo hi (l.getD i 0)) l.length 0).isNone, ()) := by
  have hl := l50 lo hi l h
  cases hf : first (fun i => !wi lo hi (l.getD i 0)) l.length 0 with
  | none =>
    rw [hf] at hl
    simp only [f50, t50, Tr.val_test, Tr.val_fin, hl, isRet, Option.isSome_some, Option.isNone_none, if_true, Bool.false_eq_true, if_false]
  | some k =>
    rw [hf] at hl
    simp only [f50, t50, Tr.val_test, Tr.val_fin, hl, isRet, r50_0, outR, Option.isSome_some, Option.isNone_some, if_true]

theorem f50_one (lo hi a : Int) : f50 (lo, hi, [a], ()) = some (wi lo hi a, ()) := by
  rw [f50_eq lo hi _ (by simp)]
  simp only [first, List.length, List.getD_cons_zero]
  by_cases h1 : wi lo hi a = true
  · simp [h1]
  · simp [h1]

theorem f84_eq (n m : Int) : f84 (n, m, ()) = some (if n = 0 then 10 else if ¬ n ≤ m then 8 else 0, ()) := by
  simp only [f84, t84, Tr.val_test, Tr.val_fin, g47, g46, f47_eq, Option.isSome_some, Option.getD_some, if_true]
  rw [f46_eq _ (by simp)]
  simp only [Option.isSome_some, Option.getD_some, if_true, eqF_eq, leF_eq, decide_eq_true_eq, Bool.not_eq_true', decide_eq_false_iff_not, firstNZ]
  by_cases h1 : n = 0
  · simp [h1]
  · by_cases h2 : n ≤ m
    · simp [h1, h2]
    · simp [h1, h2]

abbrev Rg := Int × Int × PUnit.{1}
def rAt (l : List Rg) (i : Nat) : Rg := l.getD i ((0 : Int), (0 : Int), ())
def mx (a b : Int) : Int := if a < b then b else a

/-! Lowest terms. -/

theorem lt_r2 {n : Nat} (h : n ≤ 9223372036854775808) : n < rounds := by unfold rounds; omega

theorem mx_max (a b : Int) : mx a b = max a b := by unfold mx; omega

theorem q78_2 (l : List Int) (n i : Int) (a b : Int) (h : b.natAbs ≤ 9223372036854775808) : l78_2 ((a, b, l, n, i, ()), ()) = some (.inl ((euc a b, l, n, i, ()), ())) := by
  refine itr_euc (fun a b => ((a, b, l, n, i, ()), ())) (fun a => ((a, l, n, i, ()), ())) ?_ ?_ rounds a b (lt_r2 h)
  · intro a b hb
    simp [s78_2, t78_2, eqF_eq, hb]
  · intro a
    simp [s78_2, t78_2, eqF_eq]

theorem q78_0 (a b : Int) (hb : b.natAbs ≤ 9223372036854775807) : l78_0 ((a, [b], (1 : Int), (0 : Int), ()), ()) = some (.inl ((euc a b, ()), ())) := by
  have := itr_brk (step := s78_0) (fun i => ((if i = 0 then a else euc a b, [b], (1 : Int), (i : Int), ()), ())) (n := 1) (m := rounds) (b := ((euc a b, ()), ())) ?_ ?_ (lt_rounds (by omega))
  · exact this
  · intro i hi
    have h0 : i = 0 := by omega
    subst h0
    have e := q78_2 [b] 1 0 a b (by omega)
    simp only [s78_0, t78_0, Tr.val_test, Tr.val_fin, Tr.val_stop, leF_eq, if_true]
    rw [if_pos (by simp), if_pos (by simp)]
    change (if isBrk (l78_2 ((a, b, [b], (1 : Int), (0 : Int), ()), ())) = true then _ else _) = _
    rw [if_pos (by rw [e]; rfl)]
    change some (Out.again (((b78_2 ((a, b, [b], (1 : Int), (0 : Int), ()), ())).1.1, (b78_2 ((a, b, [b], (1 : Int), (0 : Int), ()), ())).1.2.1, (b78_2 ((a, b, [b], (1 : Int), (0 : Int), ()), ())).1.2.2.1, wrap64 ((b78_2 ((a, b, [b], (1 : Int), (0 : Int), ()), ())).1.2.2.2.1 + 1), ()), ())) = _
    simp only [b78_2, e, outB]
    rfl
  · simp [s78_0, t78_0, leF_eq]

theorem f78_two (a b : Int) (ha : a.natAbs ≤ 9223372036854775807) (hb : b.natAbs ≤ 9223372036854775807) : f78 (a, [b], ()) = some ((Int.gcd a b : Int), ()) := by
  have e := q78_0 a b hb
  simp only [f78, t78, Tr.val_test, Tr.val_fin, Tr.val_stop]
  change (if isBrk (l78_0 ((a, [b], (1 : Int), (0 : Int), ()), ())) = true then some ((if (b78_0 ((a, [b], (1 : Int), (0 : Int), ()), ())).1.1 < IntKind.wrap .i64 (0 - (b78_0 ((a, [b], (1 : Int), (0 : Int), ()), ())).1.1) then IntKind.wrap .i64 (0 - (b78_0 ((a, [b], (1 : Int), (0 : Int), ()), ())).1.1) else (b78_0 ((a, [b], (1 : Int), (0 : Int), ()), ())).1.1), ()) else none) = _
  simp only [b78_0, e, isBrk, outB, if_true]
  have := euc_gcd a b (by omega) (by omega) (by omega) (by omega)
  rw [← mx_max] at this
  rw [← wrap64_eq, Int.zero_sub]
  exact congrArg some (Prod.ext this rfl)

/-- A fraction in lowest terms. -/
def low (a b : Int) : Int × Int × Unit := (a.tdiv (Int.gcd a b), b.tdiv (Int.gcd a b), ())

theorem wrapI_id {n : Int} (h1 : -9223372036854775808 ≤ n) (h2 : n ≤ 9223372036854775807) : IntKind.wrap .i64 n = n := by rw [← wrap64_eq, wrap64_id h1 h2]

theorem low_wrap (a b : Int) (ha : a.natAbs ≤ 9223372036854775807) (hb : b.natAbs ≤ 9223372036854775807) : IntKind.wrap .i64 (a.tdiv (Int.gcd a b)) = (low a b).1 ∧ IntKind.wrap .i64 (b.tdiv (Int.gcd a b)) = (low a b).2.1 := by
  have h1 := tdiv_abs_le a (Int.gcd a b)
  have h2 := tdiv_abs_le b (Int.gcd a b)
  exact ⟨wrapI_id (by omega) (by omega), wrapI_id (by omega) (by omega)⟩

theorem f56_eq (a b : Int) (ha : a.natAbs ≤ 9223372036854775807) (hb : b.natAbs ≤ 9223372036854775807) (h0 : b ≠ 0) : f56 (a, b, ()) = some (low a b, ()) := by
  obtain ⟨e1, e2⟩ := low_wrap a b ha hb
  have e := f78_two b a hb ha
  rw [Int.gcd_comm] at e
  simp only [f56, t56, g78, e, Tr.val_test, Tr.val_fin, Option.isSome_some, Option.getD_some, if_true, e1, e2]
  rw [if_neg (by simpa using gcd_pos_right h0)]

theorem q66_0 (a b : Int) (hb : b.natAbs ≤ 9223372036854775807) : l66_0 ((a, b, ()), ()) = some (.inl ((euc a b, ()), ())) := by
  refine itr_euc (fun a b => ((a, b, ()), ())) (fun a => ((a, ()), ())) ?_ ?_ rounds a b (lt_rounds hb)
  · intro a b hb
    simp [s66_0, t66_0, eqF_eq, hb]
  · intro a
    simp [s66_0, t66_0, eqF_eq]

theorem f87_eq (d : Tys.data as87) : f87 d = some (mx d.1 (IntKind.wrap .i64 (0 - d.1)), ()) := rfl

theorem f66_eq (a b : Int) (ha : a.natAbs ≤ 9223372036854775807) (hb : b.natAbs ≤ 9223372036854775807) : f66 (a, b, ()) = some ((Int.gcd a b : Int), ()) := by
  simp only [f66, t66, b66_0, q66_0 a b hb, Tr.val_test, Tr.val_fin, isBrk, if_true, outB, g87, f87_eq, Option.isSome_some, Option.getD_some]
  rw [← wrap64_eq, Int.zero_sub, mx_max, euc_gcd _ _ (by omega) (by omega) (by omega) (by omega)]

theorem f65_eq (a b : Int) (ha : a.natAbs ≤ 9223372036854775807) (hb : b.natAbs ≤ 9223372036854775807) (h0 : 0 < b) : f65 (a, b, ()) = some (low a b, ()) := by
  obtain ⟨e1, e2⟩ := low_wrap a b ha hb
  simp only [f65, t65, g66, f66_eq a b ha hb, Tr.val_test, Tr.val_fin, leF_eq, Option.isSome_some, Option.getD_some, if_true, e1, e2]
  rw [if_neg (by simp; omega), if_neg (by simpa using gcd_pos_right (show b ≠ 0 by omega))]

/-! Decays: the errors. -/

def dcE (x : List Int) (off : Int) : Int := if x.length = 0 then 10 else if 60 < x.length then 8 else if (first (fun i => !wi (-10000) 10000 (x.getD i 0)) x.length 0).isSome then 2 else if wi 0 10000 off = false then 2 else 0

theorem wrapI_m : IntKind.wrap .i64 (-10000) = -10000 := wrapI_id (by decide) (by decide)

theorem f85_eq (x : List Int) (h : x.length ≤ 1000000000) : f85 ((10000 : Int), x, ()) = some (if (first (fun i => !wi (-10000) 10000 (x.getD i 0)) x.length 0).isSome = true then 2 else 0, ()) := by
  have e := f50_eq (-10000) 10000 x h
  simp only [f85, t85, Tr.val_test, Tr.val_fin, Tr.val_stop, g50, g47, Int.zero_sub, wrapI_m, e, f47_eq, Option.isSome_some, Option.getD_some, if_true]
  cases first (fun i => !wi (-10000) 10000 (x.getD i 0)) x.length 0 <;> simp

theorem f62_eq (x : List Int) (off : Int) (h : x.length ≤ 1000000000) : f62 ((x, off, ()), ()) = some (if dcE x off ≠ 0 then ((([], (0 : Int), ()), ()), dcE x off, ()) else (((x, off, ()), ()), (0 : Int), ())) := by
  have e0 := f50_one 0 10000 off
  have e1 := f84_eq (x.length : Int) 60
  have e2 := f85_eq x h
  simp only [f62, t62, Tr.val_test, Tr.val_fin, Tr.val_stop, g50, g84, g85, g47, g46, e0, e1, e2, f47_eq, Option.isSome_some, Option.getD_some, if_true]
  rw [f46_eq _ (by simp)]
  simp only [Option.isSome_some, Option.getD_some, if_true, firstNZ, eqF_eq, dcE]
  by_cases h1 : x.length = 0
  · simp [h1]
  · have h1' : ¬ (x.length : Int) = 0 := by omega
    by_cases h2 : 60 < x.length
    · have h2' : ¬ (x.length : Int) ≤ 60 := by omega
      simp [h1, h1', h2, h2']
    · have h2' : (x.length : Int) ≤ 60 := by omega
      by_cases h3 : (first (fun i => !wi (-10000) 10000 (x.getD i 0)) x.length 0).isSome = true
      · simp only [h1, h1', h2, h2', h3, if_true, if_false]; simp
      · by_cases h4 : wi 0 10000 off = true
        · simp only [h1, h1', h2, h2', h3, h4, if_true, if_false]; simp
        · simp only [h1, h1', h2, h2', h3, h4, if_true, if_false]; simp

theorem q23_0 (x : List Int) (off : Int) (h : x.length ≤ 1000000000) : l23_0 (((0 : Int), ()), (x, off, ()), ()) = match first (fun i => !wi (-10000) 10000 (x.getD i 0)) x.length 0 with
    | some _ => some (.inr (((2 : Int), ()), (x, off, ()), ()))
    | none => some (.inl ((), (x, off, ()), ())) := by
  refine itr_search (fun i => (((i : Int), ()), (x, off, ()), ())) (fun i => !wi (-10000) 10000 (x.getD i 0)) (fun _ => (((2 : Int), ()), (x, off, ()), ())) (n := x.length) ?_ ?_ (lt_rounds (by omega))
  · intro i hi
    simp only [s23_0, t23_0, Tr.val_test, Tr.val_fin, Tr.val_stop, leF_eq, Int.toNat_natCast, wrap64_nat (show i ≤ 9223372036854775806 by omega)]
    rw [if_pos (by simp; omega), if_pos (by simp; omega)]
    simp only [g30, f30_eq, Option.isSome_some, Option.getD_some, if_true]
  · simp [s23_0, t23_0, leF_eq]

theorem f23_eq (x : List Int) (off : Int) (h : x.length ≤ 1000000000) : f23 ((x, off, ()), ()) = some (dcE x off, ()) := by
  have hl := q23_0 x off h
  simp only [f23, t23, Tr.val_test, Tr.val_fin, Tr.val_stop, leF_eq, eqF_eq, dcE]
  by_cases h1 : x.length = 0
  · simp [h1]
  · have h1' : ¬ (x.length : Int) = 0 := by omega
    by_cases h2 : 60 < x.length
    · have h2' : ¬ (x.length : Int) ≤ 60 := by omega
      simp [h1, h1', h2, h2']
    · have h2' : (x.length : Int) ≤ 60 := by omega
      simp only [h1, h1', h2, h2', decide_true, decide_false, Bool.not_true, Bool.false_eq_true, if_false]
      cases h3 : first (fun i => !wi (-10000) 10000 (x.getD i 0)) x.length 0 with
      | some k =>
        rw [h3] at hl
        simp only [hl, isRet, r23_0, outR, Option.isSome_some, if_true]
      | none =>
        rw [h3] at hl
        simp only [hl, isRet, b23_0, outB, Option.isSome_some, Option.isSome_none, if_true, Bool.false_eq_true, if_false, g30, f30_eq, Option.getD_some]
        cases h4 : wi 0 10000 off with
        | true => simp
        | false => simp

/-- A valid decay. -/
structure Dc (x : List Int) (off : Int) : Prop where
  pos : 0 < x.length
  len : x.length ≤ 60
  val : ∀ i, i < x.length → -10000 ≤ x.getD i 0 ∧ x.getD i 0 ≤ 10000
  off0 : 0 ≤ off
  off1 : off ≤ 10000

theorem Dc.of {x : List Int} {off : Int} (h : dcE x off = 0) : Dc x off := by
  unfold dcE at h
  split at h
  · cases h
  · split at h
    · cases h
    · split at h
      · cases h
      · split at h
        · cases h
        · rename_i h1 h2 h3 h4
          have h4 := wi_iff.1 (by simpa using h4)
          refine ⟨by omega, by omega, fun i hi => ?_, h4.1, h4.2⟩
          have hn : first (fun i => !wi (-10000) 10000 (x.getD i 0)) x.length 0 = none := by
            cases e : first (fun i => !wi (-10000) 10000 (x.getD i 0)) x.length 0 with
            | none => rfl
            | some k => rw [e] at h3; exact absurd rfl h3
          have := first_none hn i (Nat.zero_le _) (by omega)
          exact wi_iff.1 (by simpa using this)

theorem Dc.neg {x : List Int} {off : Int} (h : Dc x off) : IntKind.wrap .i64 (0 - off) = -off := by
  have := h.off0
  have := h.off1
  rw [wrapI_id (by omega) (by omega)]; omega

/-! Crossings. -/

def lwB (x : List Int) (off : Int) (i : Nat) : Bool := decide (x.getD i 0 < -off)
def hgB (x : List Int) (off : Int) (i : Nat) : Bool := decide (off < x.getD i 0)
def nx (x : List Int) (off : Int) (t : Nat) : Option Nat := first (fun j => lwB x off (t + 1 + j) || hgB x off (t + 1 + j)) (x.length - (t + 1)) 0
def crN (x : List Int) (off : Int) (t : Nat) : List Rg := match nx x off t with
  | some j => if lwB x off (t + 1 + j) = true then [] else [((t : Int), ((t + 1 + j : Nat) : Int), ())]
  | none => []
def cr (x : List Int) (off : Int) (t : Nat) : List Rg := if lwB x off t = true then crN x off t else []
def crs (x : List Int) (off : Int) : Nat → List Rg
  | 0 => []
  | t + 1 => crs x off t ++ cr x off t

theorem crN_len (x : List Int) (off : Int) (t : Nat) : (crN x off t).length ≤ 1 := by
  unfold crN
  split
  · split <;> simp
  · simp

theorem cr_len (x : List Int) (off : Int) (t : Nat) : (cr x off t).length ≤ 1 := by
  unfold cr
  split
  · exact crN_len x off t
  · simp

theorem crs_len (x : List Int) (off : Int) : ∀ i, (crs x off i).length ≤ i
  | 0 => Nat.le_refl _
  | i + 1 => by
    have := crs_len x off i
    have := cr_len x off i
    simp only [crs, List.length_append]
    omega

theorem notLow {x : List Int} {off : Int} {i : Nat} : (!leF (-off) (x.getD i 0)) = lwB x off i := by
  rw [leF_eq, lwB, ← decide_not]
  exact decide_eq_decide.2 (by omega)

theorem isHigh {x : List Int} {off : Int} {i : Nat} : (!leF (x.getD i 0) off) = hgB x off i := by
  rw [leF_eq, hgB, ← decide_not]
  exact decide_eq_decide.2 (by omega)

theorem q25_2_1 {x : List Int} {off : Int} (hd : Dc x off) (C : List Rg) (hC : C.length ≤ 1000) (t : Nat) (ht : t < x.length) : l25_2_1 ((C, (t : Int), ((t + 1 : Nat) : Int), ()), (x, off, ()), ()) = some (.inl ((C ++ crN x off t, (t : Int), ()), (x, off, ()), ())) := by
  have hn := hd.len
  have hneg := hd.neg
  have := itr_until (step := s25_2_1) (fun j => ((C, (t : Int), ((t + 1 + j : Nat) : Int), ()), (x, off, ()), ())) (fun j => lwB x off (t + 1 + j) || hgB x off (t + 1 + j)) (fun j => ((C ++ (if lwB x off (t + 1 + j) = true then [] else [((t : Int), ((t + 1 + j : Nat) : Int), ())]), (t : Int), ()), (x, off, ()), ())) (n := x.length - (t + 1)) (m := rounds) (b := ((C, (t : Int), ()), (x, off, ()), ())) ?_ ?_ (lt_rounds (by omega))
  · refine Eq.trans this ?_
    unfold crN
    change (match nx x off t with
      | some k => some (Sum.inl ((C ++ (if lwB x off (t + 1 + k) = true then [] else [((t : Int), ((t + 1 + k : Nat) : Int), ())]), (t : Int), ()), (x, off, ()), ()))
      | none => some (Sum.inl ((C, (t : Int), ()), (x, off, ()), ()))) = _
    cases nx x off t with
    | none => simp
    | some j => rfl
  · intro j hj
    have hw : wrap64 (((t + 1 + j : Nat) : Int) + 1) = ((t + 1 + (j + 1) : Nat) : Int) := wrap64_nat (by omega)
    simp only [s25_2_1, t25_2_1, Tr.val_test, Tr.val_fin, Tr.val_stop, Int.toNat_natCast, hw, hneg, notLow, isHigh]
    rw [if_pos (by simp only [leF_eq]; simp; omega), if_pos (by simp; omega)]
    cases h1 : lwB x off (t + 1 + j) with
    | true => simp
    | false =>
      cases h2 : hgB x off (t + 1 + j) with
      | true =>
        simp only [Bool.false_eq_true, if_false, if_true, Bool.false_or]
        rw [if_pos (by simp only [Bool.and_eq_true, ble_eq_true']; omega)]
      | false => simp
  · have e : ((t + 1 + (x.length - (t + 1)) : Nat) : Int) = (x.length : Int) := by omega
    simp only [e]
    simp [s25_2_1, t25_2_1, leF_eq]

theorem q25_0 {x : List Int} {off : Int} (hd : Dc x off) : l25_0 (([], (0 : Int), ()), (x, off, ()), ()) = some (.inl ((crs x off x.length, ()), (x, off, ()), ())) := by
  have hn := hd.len
  have hneg := hd.neg
  refine itr_brk (fun i => ((crs x off i, (i : Int), ()), (x, off, ()), ())) (n := x.length) ?_ ?_ (lt_rounds (by omega))
  · intro i hi
    have hl := crs_len x off i
    have e := q25_2_1 hd (crs x off i) (by omega) i hi
    have hnl : leF (-off) (x.getD i 0) = !lwB x off i := by rw [← notLow, Bool.not_not]
    simp only [s25_0, t25_0, Tr.val_test, Tr.val_fin, Tr.val_stop, Int.toNat_natCast, wrap64_nat (show i ≤ 9223372036854775806 by omega), hneg, hnl]
    rw [if_pos (by simp only [leF_eq]; simp; omega), if_pos (by simp; omega)]
    cases h1 : lwB x off i with
    | true =>
      simp only [Bool.not_true, Bool.false_eq_true, if_false, b25_2_1, e, isBrk, outB, if_true, wrap64_nat (show i ≤ 9223372036854775806 by omega), crs, cr, h1]
    | false =>
      simp only [Bool.not_false, if_true, crs, cr, h1, Bool.false_eq_true, if_false, List.append_nil]
  · simp [s25_0, t25_0, leF_eq]

theorem f25_eq {x : List Int} {off : Int} (hd : Dc x off) : f25 ((x, off, ()), ()) = some (crs x off x.length, ()) := by
  simp only [f25, t25, Tr.val_test, Tr.val_fin, Tr.val_stop, b25_0, q25_0 hd, isBrk, outB, if_true]

/-! .. as they are found in one go. -/

def pg (x : List Int) (off : Int) : Nat → List Rg × Int
  | 0 => ([], -1)
  | i + 1 => if lwB x off i = true then ((pg x off i).1, (i : Int)) else if hgB x off i = true then (if (pg x off i).2 = -1 then pg x off i else ((pg x off i).1 ++ [((pg x off i).2, (i : Int), ())], -1)) else pg x off i

theorem pg_len (x : List Int) (off : Int) : ∀ i, (pg x off i).1.length ≤ i
  | 0 => Nat.le_refl _
  | i + 1 => by
    have := pg_len x off i
    simp only [pg]
    split
    · simp; omega
    · split
      · split
        · omega
        · simp; omega
      · omega

theorem low_high {x : List Int} {off : Int} (hd : Dc x off) {i : Nat} (h : lwB x off i = true) : hgB x off i = false := by
  have := hd.off0
  simp only [lwB, hgB, decide_eq_true_eq, decide_eq_false_iff_not] at h ⊢
  omega

theorem q63_0 {x : List Int} {off : Int} (hd : Dc x off) : l63_0 (([], (-1 : Int), x, (x.length : Int), (0 : Int), ()), (x, off, ()), ()) = some (.inl (((pg x off x.length).1, ()), (x, off, ()), ())) := by
  have hn := hd.len
  have hneg := hd.neg
  refine itr_brk (fun i => (((pg x off i).1, (pg x off i).2, x, (x.length : Int), (i : Int), ()), (x, off, ()), ())) (n := x.length) ?_ ?_ (lt_rounds (by omega))
  · intro i hi
    have hl := pg_len x off i
    simp only [s63_0, t63_0, Tr.val_test, Tr.val_fin, Tr.val_stop, Int.toNat_natCast, wrap64_nat (show i ≤ 9223372036854775806 by omega), hneg, notLow, isHigh]
    rw [if_pos (by simp only [leF_eq]; simp; omega), if_pos (by simp; omega)]
    cases h1 : lwB x off i with
    | true =>
      simp only [low_high hd h1, if_true, Bool.false_eq_true, if_false, pg, h1]
    | false =>
      cases h2 : hgB x off i with
      | true =>
        simp only [eqF_eq, Bool.false_eq_true, if_false, if_true, pg, h1, h2]
        by_cases h3 : (pg x off i).2 = -1
        · simp only [h3, decide_true, Bool.not_true, Bool.false_eq_true, if_false, if_true]
        · simp only [h3, decide_false, Bool.not_false, if_true, if_false]
          rw [if_pos (by simp only [Bool.and_eq_true, ble_eq_true']; omega)]
      | false =>
        simp only [Bool.false_eq_true, if_false, pg, h1, h2]
  · simp [s63_0, t63_0, leF_eq]

theorem nx_at {x : List Int} {off : Int} {t i : Nat} (hti : t < i) (hi : i < x.length) (hb : ∀ j, t < j → j < i → lwB x off j = false ∧ hgB x off j = false) (he : (lwB x off i || hgB x off i) = true) : nx x off t = some (i - (t + 1)) := by
  have ei : t + 1 + (i - (t + 1)) = i := by omega
  cases e : nx x off t with
  | none =>
    have := first_none e (i - (t + 1)) (Nat.zero_le _) (by omega)
    rw [ei, he] at this
    cases this
  | some k =>
    obtain ⟨_, h2, h3, h4⟩ := first_some e
    rcases Nat.lt_trichotomy k (i - (t + 1)) with h | h | h
    · obtain ⟨b1, b2⟩ := hb (t + 1 + k) (by omega) (by omega)
      simp [b1, b2] at h3
    · rw [h]
    · have := h4 (i - (t + 1)) (Nat.zero_le _) h
      rw [ei, he] at this
      cases this

theorem nx_none {x : List Int} {off : Int} {t : Nat} (hb : ∀ j, t < j → j < x.length → lwB x off j = false ∧ hgB x off j = false) : nx x off t = none := by
  refine first_of_none fun j _ hj => ?_
  obtain ⟨b1, b2⟩ := hb (t + 1 + j) (by omega) (by omega)
  simp [b1, b2]

def pend (x : List Int) (off : Int) (i : Nat) : List Rg := if (pg x off i).2 = -1 then [] else cr x off (pg x off i).2.toNat

theorem pg_inv {x : List Int} {off : Int} (hd : Dc x off) : ∀ i, i ≤ x.length → (pg x off i).1 ++ pend x off i = crs x off i ∧
    ((pg x off i).2 = -1 ∨ ∃ t : Nat, (pg x off i).2 = (t : Int) ∧ t < i ∧ lwB x off t = true ∧ ∀ j, t < j → j < i → lwB x off j = false ∧ hgB x off j = false)
  | 0, _ => ⟨rfl, .inl rfl⟩
  | i + 1, hi => by
    obtain ⟨h1, h2⟩ := pg_inv hd i (by omega)
    cases hl : lwB x off i with
    | true =>
      have ep : pg x off (i + 1) = ((pg x off i).1, (i : Int)) := by simp only [pg, hl, if_true]
      have hp0 : pend x off i = [] := by
        unfold pend
        split
        · rfl
        · rename_i hne
          rcases h2 with h2 | ⟨t, q1, q2, q3, q4⟩
          · exact absurd h2 hne
          · rw [q1, Int.toNat_natCast, cr, if_pos q3, crN, nx_at q2 (by omega) q4 (by rw [hl]; rfl)]
            simp only
            rw [show t + 1 + (i - (t + 1)) = i by omega, hl, if_pos rfl]
      have hp1 : pend x off (i + 1) = cr x off i := by
        unfold pend
        rw [ep, if_neg (by show ¬ (i : Int) = -1; omega)]
        simp only [Int.toNat_natCast]
      refine ⟨?_, .inr ⟨i, by rw [ep], by omega, hl, fun j a b => by omega⟩⟩
      rw [hp1, ep, crs, ← h1, hp0, List.append_nil]
    | false =>
      have hc : cr x off i = [] := by simp only [cr, hl, Bool.false_eq_true, if_false]
      cases hg : hgB x off i with
      | true =>
        by_cases hb : (pg x off i).2 = -1
        · have ep : pg x off (i + 1) = pg x off i := by simp only [pg, hl, hg, hb, Bool.false_eq_true, if_false, if_true]
          have hp : pend x off (i + 1) = [] := by unfold pend; rw [ep, if_pos hb]
          have hp0 : pend x off i = [] := by unfold pend; rw [if_pos hb]
          refine ⟨?_, .inl (by rw [ep]; exact hb)⟩
          rw [hp, ep, crs, hc, ← h1, hp0]; simp
        · have ep : pg x off (i + 1) = ((pg x off i).1 ++ [((pg x off i).2, (i : Int), ())], -1) := by simp only [pg, hl, hg, hb, Bool.false_eq_true, if_false, if_true]
          have hp : pend x off (i + 1) = [] := by unfold pend; rw [ep, if_pos rfl]
          rcases h2 with h2 | ⟨t, q1, q2, q3, q4⟩
          · exact absurd h2 hb
          · have hp0 : pend x off i = [((t : Int), (i : Int), ())] := by
              unfold pend
              rw [if_neg hb, q1, Int.toNat_natCast, cr, if_pos q3, crN, nx_at q2 (by omega) q4 (by rw [hg]; simp)]
              simp only
              rw [show t + 1 + (i - (t + 1)) = i by omega, hl, if_neg (by simp)]
            refine ⟨?_, .inl (by rw [ep])⟩
            rw [hp, ep, crs, hc, ← h1, hp0, q1, List.append_nil]
      | false =>
        have ep : pg x off (i + 1) = pg x off i := by simp only [pg, hl, hg, Bool.false_eq_true, if_false]
        have hp : pend x off (i + 1) = pend x off i := by unfold pend; rw [ep]
        refine ⟨by rw [hp, ep, crs, hc, h1, List.append_nil], ?_⟩
        rw [ep]
        rcases h2 with h2 | ⟨t, q1, q2, q3, q4⟩
        · exact .inl h2
        · refine .inr ⟨t, q1, by omega, q3, fun j a b => ?_⟩
          by_cases hj : j = i
          · subst hj; exact ⟨hl, hg⟩
          · exact q4 j a (by omega)

theorem pg_crs {x : List Int} {off : Int} (hd : Dc x off) : (pg x off x.length).1 = crs x off x.length := by
  obtain ⟨h1, h2⟩ := pg_inv hd x.length (Nat.le_refl _)
  have hp : pend x off x.length = [] := by
    unfold pend
    split
    · rfl
    · rename_i hne
      rcases h2 with h2 | ⟨t, q1, q2, q3, q4⟩
      · exact absurd h2 hne
      · rw [q1, Int.toNat_natCast, cr, if_pos q3, crN, nx_none q4]
  rw [← h1, hp, List.append_nil]

theorem f63_eq {x : List Int} {off : Int} (hd : Dc x off) : f63 (((x, off, ()), ()), ()) = some (crs x off x.length, ()) := by
  simp only [f63, t63, Tr.val_test, Tr.val_fin, Tr.val_stop, b63_0, q63_0 hd, isBrk, outB, if_true, pg_crs hd]

/-! What is known of crossings. -/

/-- A crossing of a decay. -/
def Cx (x : List Int) (off : Int) (r : Rg) : Prop := ∃ t k : Nat, r = ((t : Int), (k : Int), ()) ∧ t < k ∧ k < x.length ∧ lwB x off t = true ∧ hgB x off k = true ∧ ∀ j, t < j → j < k → lwB x off j = false

theorem cr_spec {x : List Int} {off : Int} {t : Nat} {r : Rg} (h : r ∈ cr x off t) : ∃ k : Nat, r = ((t : Int), (k : Int), ()) ∧ t < k ∧ k < x.length ∧ lwB x off t = true ∧ hgB x off k = true ∧ ∀ j, t < j → j < k → lwB x off j = false := by
  unfold cr at h
  split at h
  · rename_i hl
    unfold crN at h
    split at h
    · rename_i j hj
      split at h
      · cases h
      · rename_i hnl
        rw [List.mem_singleton] at h
        obtain ⟨_, h2, h3, h4⟩ := first_some hj
        refine ⟨t + 1 + j, h, by omega, by omega, hl, ?_, fun q a b => ?_⟩
        · simp only [Bool.or_eq_true] at h3
          exact h3.resolve_left hnl
        · have := h4 (q - (t + 1)) (Nat.zero_le _) (by omega)
          rw [show t + 1 + (q - (t + 1)) = q by omega] at this
          simp only [Bool.or_eq_false_iff] at this
          exact this.1
    · cases h
  · cases h

theorem crs_inv {x : List Int} {off : Int} (hd : Dc x off) : ∀ n, (∀ i, i < (crs x off n).length → Cx x off (rAt (crs x off n) i) ∧ (rAt (crs x off n) i).1 < (n : Int)) ∧
    (∀ i, i + 1 < (crs x off n).length → (rAt (crs x off n) i).2.1 < (rAt (crs x off n) (i + 1)).1)
  | 0 => ⟨fun i hi => by simp [crs] at hi, fun i hi => by simp [crs] at hi⟩
  | n + 1 => by
    obtain ⟨h1, h2⟩ := crs_inv hd n
    have hl := cr_len x off n
    have hlen : (crs x off (n + 1)).length = (crs x off n).length + (cr x off n).length := by simp [crs]
    have old : ∀ i, i < (crs x off n).length → rAt (crs x off (n + 1)) i = rAt (crs x off n) i := fun i hi => by
      simp only [crs, rAt, List.getD_eq_getElem?_getD, List.getElem?_append_left hi]
    have new : ∀ i, ¬ i < (crs x off n).length → i < (crs x off (n + 1)).length → i = (crs x off n).length ∧ rAt (crs x off (n + 1)) i ∈ cr x off n := fun i hi hi2 => by
      have e : i = (crs x off n).length := by omega
      refine ⟨e, ?_⟩
      have h0 : 0 < (cr x off n).length := by omega
      subst e
      simp only [crs, rAt, List.getD_eq_getElem?_getD, List.getElem?_append_right (Nat.le_refl _), Nat.sub_self, List.getElem?_eq_getElem h0, Option.getD_some]
      exact List.getElem_mem h0
    refine ⟨fun i hi => ?_, fun i hi => ?_⟩
    · by_cases hin : i < (crs x off n).length
      · rw [old i hin]
        obtain ⟨a, b⟩ := h1 i hin
        exact ⟨a, by omega⟩
      · obtain ⟨_, hm⟩ := new i hin hi
        obtain ⟨k, e, q1, q2, q3, q4, q5⟩ := cr_spec hm
        rw [e]
        exact ⟨⟨n, k, rfl, q1, q2, q3, q4, q5⟩, by show (n : Int) < ((n + 1 : Nat) : Int); omega⟩
    · by_cases hin : i + 1 < (crs x off n).length
      · rw [old i (by omega), old (i + 1) hin]
        exact h2 i hin
      · obtain ⟨e0, hm⟩ := new (i + 1) hin hi
        obtain ⟨k, e, q1, q2, q3, q4, q5⟩ := cr_spec hm
        rw [old i (by omega), e]
        obtain ⟨⟨t', k', e', p1, p2, p3, p4, p5⟩, hlt⟩ := h1 i (by omega)
        rw [e'] at hlt ⊢
        show (k' : Int) < (n : Int)
        have ht : t' < n := by have : (t' : Int) < (n : Int) := hlt; omega
        rcases Nat.lt_trichotomy k' n with h | h | h
        · omega
        · subst h
          have := low_high hd q3
          rw [this] at p4; cases p4
        · have := p5 n ht h
          rw [this] at q3; cases q3

/-! Swings. -/

def mxs (x : List Int) (s : Nat) : Nat → Int
  | 0 => x.getD s 0
  | n + 1 => mx (mxs x s n) (x.getD (s + (n + 1)) 0)

theorem mx_two {a b : Int} : mx a b = a ∨ mx a b = b := by unfold mx; split <;> simp
theorem mx_ge {a b : Int} : a ≤ mx a b ∧ b ≤ mx a b := by unfold mx; split <;> omega

theorem mxs_bound {x : List Int} {off : Int} (hd : Dc x off) (s : Nat) : ∀ n, s + n < x.length → -10000 ≤ mxs x s n ∧ mxs x s n ≤ 10000 ∧ x.getD s 0 ≤ mxs x s n
  | 0, h => ⟨(hd.val s h).1, (hd.val s h).2, Int.le_refl _⟩
  | n + 1, h => by
    obtain ⟨h1, h2, h3⟩ := mxs_bound hd s n (by omega)
    have h4 := hd.val (s + (n + 1)) h
    have h5 := mx_ge (a := mxs x s n) (b := x.getD (s + (n + 1)) 0)
    rcases mx_two (a := mxs x s n) (b := x.getD (s + (n + 1)) 0) with e | e <;> simp only [mxs] <;> omega

theorem q86_0 (l : List Int) (x : List Int) (s n : Nat) (hl : l.length = n + 1) (hn : n ≤ 1000000) (hx : ∀ i, i ≤ n → l.getD i 0 = x.getD (s + i) 0) : l86_0 ((l, l.getD 0 0, (1 : Int), ()), ()) = some (.inl ((mxs x s n, ()), ())) := by
  have := itr_brk (step := s86_0) (fun i => ((l, mxs x s i, ((i + 1 : Nat) : Int), ()), ())) (n := n) (m := rounds) (b := ((mxs x s n, ()), ())) ?_ ?_ (lt_rounds (by omega))
  · have e0 : l.getD 0 0 = mxs x s 0 := by rw [hx 0 (Nat.zero_le _)]; rfl
    rw [e0]; exact this
  · intro i hi
    have hw : wrap64 (((i + 1 : Nat) : Int) + 1) = ((i + 1 + 1 : Nat) : Int) := wrap64_nat (by omega)
    simp only [s86_0, t86_0, Tr.val_test, Tr.val_fin, Tr.val_stop, leF_eq, Int.toNat_natCast, hw]
    rw [if_pos (by simp; omega), if_pos (by simp; omega)]
    rw [hx (i + 1) (by omega)]
    rfl
  · simp [s86_0, t86_0, leF_eq, hl]

theorem f86_eq (l : List Int) (x : List Int) (s n : Nat) (hl : l.length = n + 1) (hn : n ≤ 1000000) (hx : ∀ i, i ≤ n → l.getD i 0 = x.getD (s + i) 0) : f86 (l, ()) = some (mxs x s n, ()) := by
  have e := q86_0 l x s n hl hn hx
  simp only [f86, t86, Tr.val_test, Tr.val_fin, Tr.val_stop, b86_0, e, isBrk, outB, if_true, leF_eq]
  rw [if_neg (by simp; omega), if_pos (by simp; omega)]

def hiN (C : List Rg) (i : Nat) : Nat := (rAt C i).2.1.toNat
def loN (C : List Rg) (i : Nat) : Nat := (rAt C i).1.toNat
def sw (x : List Int) (off : Int) (C : List Rg) (i : Nat) : Rg := (mxs x (hiN C i) (loN C (i + 1) - hiN C i) - off, mxs x (hiN C i) (loN C (i + 1) - hiN C i) + off, ())
def sws (x : List Int) (off : Int) (C : List Rg) (n : Nat) : List Rg := (List.range n).map (sw x off C)

theorem sws_len (x : List Int) (off : Int) (C : List Rg) (n : Nat) : (sws x off C n).length = n := by simp [sws]
theorem sws_succ (x : List Int) (off : Int) (C : List Rg) (n : Nat) : sws x off C (n + 1) = sws x off C n ++ [sw x off C n] := by simp [sws, List.range_succ]
theorem sws_get (x : List Int) (off : Int) (C : List Rg) {n i : Nat} (h : i < n) : rAt (sws x off C n) i = sw x off C i := by simp [sws, rAt, List.getD, h]

/-- Crossings one behind the other. -/
structure Cs (x : List Int) (off : Int) (C : List Rg) : Prop where
  len : C.length ≤ 60
  lo : ∀ i, i < C.length → (rAt C i).1 = (loN C i : Int)
  hi : ∀ i, i < C.length → (rAt C i).2.1 = (hiN C i : Int)
  lt : ∀ i, i < C.length → loN C i < hiN C i
  top : ∀ i, i < C.length → hiN C i < x.length
  up : ∀ i, i < C.length → off < x.getD (hiN C i) 0
  next : ∀ i, i + 1 < C.length → hiN C i < loN C (i + 1)

theorem crs_cs {x : List Int} {off : Int} (hd : Dc x off) : Cs x off (crs x off x.length) := by
  obtain ⟨h1, h2⟩ := crs_inv hd x.length
  have hl := crs_len x off x.length
  have hn := hd.len
  refine ⟨by omega, fun i hi => ?_, fun i hi => ?_, fun i hi => ?_, fun i hi => ?_, fun i hi => ?_, fun i hi => ?_⟩
  · obtain ⟨⟨t, k, e, _⟩, _⟩ := h1 i hi
    simp only [loN, e, Int.toNat_natCast]
  · obtain ⟨⟨t, k, e, _⟩, _⟩ := h1 i hi
    simp only [hiN, e, Int.toNat_natCast]
  · obtain ⟨⟨t, k, e, h, _⟩, _⟩ := h1 i hi
    simp only [loN, hiN, e, Int.toNat_natCast]; exact h
  · obtain ⟨⟨t, k, e, _, h, _⟩, _⟩ := h1 i hi
    simp only [hiN, e, Int.toNat_natCast]; exact h
  · obtain ⟨⟨t, k, e, _, _, _, h, _⟩, _⟩ := h1 i hi
    simp only [hiN, e, Int.toNat_natCast]
    simpa [hgB] using h
  · have := h2 i hi
    obtain ⟨⟨t, k, e, _⟩, _⟩ := h1 i (by omega)
    obtain ⟨⟨t', k', e', _⟩, _⟩ := h1 (i + 1) hi
    rw [e, e'] at this
    simp only [hiN, loN, e, e', Int.toNat_natCast]
    have : (k : Int) < (t' : Int) := this
    omega

theorem sw_bound {x : List Int} {off : Int} (hd : Dc x off) {C : List Rg} (hc : Cs x off C) {i : Nat} (h : i + 1 < C.length) : -10000 ≤ mxs x (hiN C i) (loN C (i + 1) - hiN C i) ∧ mxs x (hiN C i) (loN C (i + 1) - hiN C i) ≤ 10000 ∧ off < mxs x (hiN C i) (loN C (i + 1) - hiN C i) := by
  have h1 := hc.next i h
  have h2 := hc.lt (i + 1) h
  have h3 := hc.top (i + 1) h
  have h4 := mxs_bound hd (hiN C i) (loN C (i + 1) - hiN C i) (by omega)
  have h5 := hc.up i (by omega)
  exact ⟨h4.1, h4.2.1, by omega⟩

theorem q64_0 {x : List Int} {off : Int} (hd : Dc x off) {C : List Rg} (hc : Cs x off C) : l64_0 (([], C, wrap64 ((C.length : Int) - 1), (0 : Int), ()), (x, off, ()), ()) = some (.inl ((sws x off C (C.length - 1), ()), (x, off, ()), ())) := by
  have hC := hc.len
  have hX := hd.len
  have h01 := hd.off0
  have h02 := hd.off1
  have hw0 : wrap64 ((C.length : Int) - 1) = (C.length : Int) - 1 := wrap64_id (by omega) (by omega)
  rw [hw0]
  refine itr_brk (fun i => ((sws x off C i, C, (C.length : Int) - 1, (i : Int), ()), (x, off, ()), ())) (n := C.length - 1) ?_ ?_ (lt_rounds (by omega))
  · intro i hi
    have a1 := hc.next i (by omega)
    have a2 := hc.lt (i + 1) (by omega)
    have a3 := hc.top (i + 1) (by omega)
    have a4 := hc.hi i (by omega)
    have a5 := hc.lo (i + 1) (by omega)
    have a6 := sw_bound hd hc (i := i) (by omega)
    have hw : wrap64 ((i : Int) + 1) = ((i + 1 : Nat) : Int) := wrap64_nat (by omega)
    have hw2 : wrap64 ((loN C (i + 1) : Int) + 1) = ((loN C (i + 1) + 1 : Nat) : Int) := wrap64_nat (by omega)
    simp only [rAt] at a4 a5
    have em : f86 ((x.drop (hiN C i)).take (loN C (i + 1) + 1 - hiN C i), ()) = some (mxs x (hiN C i) (loN C (i + 1) - hiN C i), ()) := by
      refine f86_eq _ x (hiN C i) _ ?_ (by omega) fun q hq => ?_
      · simp only [List.length_take, List.length_drop]; omega
      · simp only [List.getD_eq_getElem?_getD, List.getElem?_take, List.getElem?_drop]
        rw [if_pos (by omega)]
    simp only [s64_0, t64_0, Tr.val_test, Tr.val_fin, Tr.val_stop, leF_eq, Int.toNat_natCast, hw, a4, a5, hw2]
    rw [if_pos (by simp; omega), if_pos (by simp; omega), if_pos (by simp; omega), if_pos (by simp; omega), if_pos (by simp; omega)]
    simp only [g86, em, Option.isSome_some, Option.getD_some, if_true, sws_len]
    rw [if_pos (by simp only [Bool.and_eq_true, ble_eq_true']; omega), wrap64_id (by omega) (by omega), wrap64_id (by omega) (by omega), sws_succ]
    rfl
  · simp only [s64_0, t64_0, Tr.val_test, Tr.val_fin, Tr.val_stop, leF_eq]
    rw [if_neg (by simp; omega)]

theorem f64_eq {x : List Int} {off : Int} (hd : Dc x off) : f64 (((x, off, ()), ()), ()) = some (sws x off (crs x off x.length) ((crs x off x.length).length - 1), ()) := by
  have e1 := f63_eq hd
  have e2 := q64_0 hd (crs_cs hd)
  simp only [f64, t64, Tr.val_test, Tr.val_fin, Tr.val_stop, g63, e1, Option.isSome_some, Option.getD_some, if_true, b64_0, e2, isBrk, outB]

theorem mx_self (a : Int) : mx a a = a := by unfold mx; split <;> rfl

theorem q26_2_1 {x : List Int} {off : Int} (hd : Dc x off) {C : List Rg} (hc : Cs x off C) (S : List Rg) {i : Nat} (hi : i + 1 < C.length) : l26_2_1 ((C, S, ((i + 1 : Nat) : Int), x.getD (hiN C i) 0, (hiN C i : Int), ()), (x, off, ()), ()) = some (.inl ((C, S, ((i + 1 : Nat) : Int), mxs x (hiN C i) (loN C (i + 1) - hiN C i), ()), (x, off, ()), ())) := by
  have hC := hc.len
  have hX := hd.len
  have a1 := hc.next i hi
  have a2 := hc.lt (i + 1) hi
  have a3 := hc.top (i + 1) hi
  have a5 := hc.lo (i + 1) hi
  simp only [rAt] at a5
  have := itr_brk (step := s26_2_1) (fun j => ((C, S, ((i + 1 : Nat) : Int), if j = 0 then x.getD (hiN C i) 0 else mxs x (hiN C i) (j - 1), ((hiN C i + j : Nat) : Int), ()), (x, off, ()), ())) (n := loN C (i + 1) - hiN C i + 1) (m := rounds) (b := ((C, S, ((i + 1 : Nat) : Int), mxs x (hiN C i) (loN C (i + 1) - hiN C i), ()), (x, off, ()), ())) ?_ ?_ (lt_rounds (by omega))
  · exact this
  · intro j hj
    have hw : wrap64 (((hiN C i + j : Nat) : Int) + 1) = ((hiN C i + (j + 1) : Nat) : Int) := wrap64_nat (by omega)
    simp only [s26_2_1, t26_2_1, Tr.val_test, Tr.val_fin, Tr.val_stop, leF_eq, Int.toNat_natCast, hw, a5]
    rw [if_pos (by simp; omega), if_pos (by simp; omega), if_pos (by simp; omega)]
    rw [if_neg (show ¬ j + 1 = 0 by omega), show j + 1 - 1 = j from rfl]
    change some (Out.again ((C, S, ((i + 1 : Nat) : Int), mx (if j = 0 then x.getD (hiN C i) 0 else mxs x (hiN C i) (j - 1)) (x.getD (hiN C i + j) 0), _, ()), (x, off, ()), ())) = _
    cases j with
    | zero => simp only [if_true, Nat.add_zero, mx_self, mxs]
    | succ j => simp only [if_neg (show ¬ j + 1 = 0 by omega), Nat.add_sub_cancel, mxs]
  · rw [if_neg (show ¬ loN C (i + 1) - hiN C i + 1 = 0 by omega), show loN C (i + 1) - hiN C i + 1 - 1 = loN C (i + 1) - hiN C i from rfl]
    simp only [s26_2_1, t26_2_1, Tr.val_test, Tr.val_fin, Tr.val_stop, leF_eq, Int.toNat_natCast, a5]
    rw [if_pos (by simp; omega), if_neg (by simp; omega)]

theorem q26_0 {x : List Int} {off : Int} (hd : Dc x off) {C : List Rg} (hc : Cs x off C) : l26_0 ((C, [], (1 : Int), ()), (x, off, ()), ()) = some (.inl ((sws x off C (C.length - 1), ()), (x, off, ()), ())) := by
  have hC := hc.len
  have hX := hd.len
  have h01 := hd.off0
  have h02 := hd.off1
  have := itr_brk (step := s26_0) (fun i => ((C, sws x off C i, ((i + 1 : Nat) : Int), ()), (x, off, ()), ())) (n := C.length - 1) (m := rounds) (b := ((sws x off C (C.length - 1), ()), (x, off, ()), ())) ?_ ?_ (lt_rounds (by omega))
  · exact this
  · intro i hi
    have a1 := hc.next i (by omega)
    have a2 := hc.lt (i + 1) (by omega)
    have a3 := hc.top (i + 1) (by omega)
    have a4 := hc.hi i (by omega)
    have a6 := sw_bound hd hc (i := i) (by omega)
    have a7 := q26_2_1 hd hc (sws x off C i) (i := i) (by omega)
    have hw : wrap64 (((i + 1 : Nat) : Int) - 1) = (i : Int) := by rw [wrap64_id (by omega) (by omega)]; omega
    have hw2 : wrap64 (((i + 1 : Nat) : Int) + 1) = ((i + 1 + 1 : Nat) : Int) := wrap64_nat (by omega)
    simp only [rAt] at a4
    simp only [s26_0, t26_0, Tr.val_test, Tr.val_fin, Tr.val_stop, leF_eq, Int.toNat_natCast, hw, a4]
    rw [if_pos (by simp; omega), if_pos (by simp; omega), if_pos (by simp; omega)]
    simp only [b26_2_1, a7, isBrk, outB, if_true, sws_len, hw2]
    rw [if_pos (by simp only [Bool.and_eq_true, ble_eq_true']; omega), wrap64_id (by omega) (by omega), wrap64_id (by omega) (by omega), sws_succ]
    rfl
  · simp only [s26_0, t26_0, Tr.val_test, Tr.val_fin, Tr.val_stop, leF_eq]
    rw [if_neg (by simp; omega)]

theorem f26_eq {x : List Int} {off : Int} (hd : Dc x off) : f26 ((x, off, ()), ()) = some (sws x off (crs x off x.length) ((crs x off x.length).length - 1), ()) := by
  have e1 := f25_eq hd
  have e2 := q26_0 hd (crs_cs hd)
  simp only [f26, t26, Tr.val_test, Tr.val_fin, Tr.val_stop, g25, e1, Option.isSome_some, Option.getD_some, if_true, b26_0, e2, isBrk, outB]

/-! Periods, ratios, the law. -/

theorem f51_eq (l : List Int) (h : l.length ≤ 1000) : f51 (l, ()) = some (l, ()) := by
  simp only [f51, t51, Tr.val_test, Tr.val_fin, Tr.val_stop, List.nil_append]
  by_cases h0 : l.length = 0
  · have : l = [] := List.eq_nil_of_length_eq_zero h0
    subst this; rfl
  · rw [if_neg (by rw [beq_eq_true']; exact h0), if_neg (by rw [ble_eq_true']; omega), if_pos (by simp only [Bool.and_eq_true, ble_eq_true']; omega), if_pos (by rw [beq_eq_true']; omega)]

theorem f19_eq (x : List Int) (off : Int) (h : x.length ≤ 1000) : f19 ((x, off, ()), ()) = some ((x, off, ()), ()) := by
  have e := f51_eq x h
  simp only [f19, t19, Tr.val_test, Tr.val_fin, Tr.val_stop, g51, e, Option.isSome_some, Option.getD_some, if_true]

theorem f17_eq (x : List Int) (off : Int) : f17 ((x, off, ()), ()) = some (decide ((x.length : Int) ≤ 62), ()) := by
  simp only [f17, t17, Tr.val_fin, leF_eq]

theorem f18_eq (x : List Int) (off : Int) (h : x.length ≤ 1000) : f18 ((x, off, ()), ()) = some (if dcE x off ≠ 0 then ([], dcE x off, ()) else (crs x off x.length, (0 : Int), ())) := by
  have e1 := f62_eq x off (by omega)
  by_cases h0 : dcE x off = 0
  · have e2 := f63_eq (Dc.of h0)
    simp only [h0, ne_eq, not_true_eq_false, if_false] at e1 ⊢
    simp only [f18, t18, Tr.val_test, Tr.val_fin, Tr.val_stop, g62, e1, Option.isSome_some, Option.getD_some, if_true, eqF_eq, decide_true, Bool.not_true, Bool.false_eq_true, if_false, g63, e2]
  · simp only [h0, ne_eq, not_false_eq_true, if_true] at e1 ⊢
    simp only [f18, t18, Tr.val_test, Tr.val_fin, Tr.val_stop, g62, e1, Option.isSome_some, Option.getD_some, if_true, eqF_eq, h0, decide_false, Bool.not_false]

theorem f21_eq (x : List Int) (off : Int) (h : x.length ≤ 1000) : f21 ((x, off, ()), ()) = some (if dcE x off ≠ 0 then ([], dcE x off, ()) else (sws x off (crs x off x.length) ((crs x off x.length).length - 1), (0 : Int), ())) := by
  have e1 := f62_eq x off (by omega)
  by_cases h0 : dcE x off = 0
  · have e2 := f64_eq (Dc.of h0)
    simp only [h0, ne_eq, not_true_eq_false, if_false] at e1 ⊢
    simp only [f21, t21, Tr.val_test, Tr.val_fin, Tr.val_stop, g62, e1, Option.isSome_some, Option.getD_some, if_true, eqF_eq, decide_true, Bool.not_true, Bool.false_eq_true, if_false, g64, e2]
  · simp only [h0, ne_eq, not_false_eq_true, if_true] at e1 ⊢
    simp only [f21, t21, Tr.val_test, Tr.val_fin, Tr.val_stop, g62, e1, Option.isSome_some, Option.getD_some, if_true, eqF_eq, h0, decide_false, Bool.not_false]

abbrev Fr := Int × Int × PUnit.{1}
abbrev Sp := Fr × Fr × PUnit.{1}
def noSp : Sp := ((0, 0, ()), (0, 0, ()), ())

/-- The period of crossings. -/
def perOf (C : List Rg) : Sp := (low ((rAt C (C.length - 1)).1 - (rAt C 0).2.1) ((C.length : Int) - 1), low ((rAt C (C.length - 1)).2.1 - (rAt C 0).1) ((C.length : Int) - 1), ())

theorem Cs.small {x : List Int} {off : Int} (hd : Dc x off) {C : List Rg} (hc : Cs x off C) {i : Nat} (hi : i < C.length) : 0 ≤ (rAt C i).1 ∧ (rAt C i).1 ≤ 60 ∧ 0 ≤ (rAt C i).2.1 ∧ (rAt C i).2.1 ≤ 60 := by
  have := hc.lo i hi
  have := hc.hi i hi
  have := hc.lt i hi
  have := hc.top i hi
  have := hd.len
  omega

theorem f20_eq (x : List Int) (off : Int) (h : x.length ≤ 1000) : f20 ((x, off, ()), ()) = some (if dcE x off ≠ 0 then (noSp, dcE x off, ()) else if (crs x off x.length).length < 2 then (noSp, (12 : Int), ()) else (perOf (crs x off x.length), (0 : Int), ())) := by
  have e1 := f62_eq x off (by omega)
  by_cases h0 : dcE x off = 0
  · have hd := Dc.of h0
    have e2 := f63_eq hd
    have hc := crs_cs hd
    generalize crs x off x.length = C at e2 hc
    have hl := hc.len
    have hw : wrap64 ((C.length : Int) - 1) = (C.length : Int) - 1 := wrap64_id (by omega) (by omega)
    simp only [h0, ne_eq, not_true_eq_false, if_false] at e1 ⊢
    simp only [f20, t20, Tr.val_test, Tr.val_fin, Tr.val_stop, g62, e1, Option.isSome_some, Option.getD_some, if_true, eqF_eq, leF_eq, decide_true, Bool.not_true, Bool.false_eq_true, if_false, g63, e2, hw]
    by_cases h2 : C.length < 2
    · rw [if_pos (by simp; omega), if_pos h2]; rfl
    · have s0 := hc.small hd (i := 0) (by omega)
      have s1 := hc.small hd (i := C.length - 1) (by omega)
      have ht : ((C.length : Int) - 1).toNat = C.length - 1 := by omega
      have f1 := f56_eq ((rAt C (C.length - 1)).1 - (rAt C 0).2.1) ((C.length : Int) - 1) (by omega) (by omega) (by omega)
      have f2 := f56_eq ((rAt C (C.length - 1)).2.1 - (rAt C 0).1) ((C.length : Int) - 1) (by omega) (by omega) (by omega)
      have w1 : wrap64 ((rAt C (C.length - 1)).1 - (rAt C 0).2.1) = (rAt C (C.length - 1)).1 - (rAt C 0).2.1 := wrap64_id (by omega) (by omega)
      have w2 : wrap64 ((rAt C (C.length - 1)).2.1 - (rAt C 0).1) = (rAt C (C.length - 1)).2.1 - (rAt C 0).1 := wrap64_id (by omega) (by omega)
      simp only [rAt] at f1 f2 w1 w2
      rw [if_neg (by simp; omega), if_pos (by simp; omega), if_pos (by simp; omega), if_neg h2]
      simp only [ht, w1, w2, g56, f1, f2, Option.isSome_some, Option.getD_some, if_true, perOf, rAt, low]
  · simp only [h0, ne_eq, not_false_eq_true, if_true] at e1 ⊢
    simp only [f20, t20, Tr.val_test, Tr.val_fin, Tr.val_stop, g62, e1, Option.isSome_some, Option.getD_some, if_true, eqF_eq, h0, decide_false, Bool.not_false]
    rfl

theorem f27_eq {x : List Int} {off : Int} (hd : Dc x off) : f27 ((x, off, ()), ()) = some (if (crs x off x.length).length < 2 then (noSp, false, ()) else (perOf (crs x off x.length), true, ())) := by
  have e2 := f25_eq hd
  have hc := crs_cs hd
  generalize crs x off x.length = C at e2 hc
  have hl := hc.len
  have hw : IntKind.wrap .i64 ((C.length : Int) - 1) = (C.length : Int) - 1 := wrapI_id (by omega) (by omega)
  simp only [f27, t27, Tr.val_test, Tr.val_fin, Tr.val_stop, Option.isSome_some, Option.getD_some, if_true, eqF_eq, leF_eq, decide_true, Bool.not_true, Bool.false_eq_true, if_false, g25, e2, hw]
  by_cases h2 : C.length < 2
  · rw [if_pos (by simp; omega), if_pos h2]; rfl
  · have s0 := hc.small hd (i := 0) (by omega)
    have s1 := hc.small hd (i := C.length - 1) (by omega)
    have ht : ((C.length : Int) - 1).toNat = C.length - 1 := by omega
    have f1 := f65_eq ((rAt C (C.length - 1)).1 - (rAt C 0).2.1) ((C.length : Int) - 1) (by omega) (by omega) (by omega)
    have f2 := f65_eq ((rAt C (C.length - 1)).2.1 - (rAt C 0).1) ((C.length : Int) - 1) (by omega) (by omega) (by omega)
    have w1 : wrap64 ((rAt C (C.length - 1)).1 - (rAt C 0).2.1) = (rAt C (C.length - 1)).1 - (rAt C 0).2.1 := wrap64_id (by omega) (by omega)
    have w2 : wrap64 ((rAt C (C.length - 1)).2.1 - (rAt C 0).1) = (rAt C (C.length - 1)).2.1 - (rAt C 0).1 := wrap64_id (by omega) (by omega)
    simp only [rAt] at f1 f2 w1 w2
    rw [if_neg (by simp; omega), if_pos (by simp; omega), if_pos (by simp; omega), if_neg h2]
    simp only [ht, w1, w2, g65, f1, f2, Option.isSome_some, Option.getD_some, if_true, perOf, rAt, low]

/-- The ratio of swings. -/
def ratOf (S : List Rg) : Sp := (low (rAt S (S.length - 1)).1 (rAt S 0).2.1, low (rAt S (S.length - 1)).2.1 (rAt S 0).1, ())

theorem sws_small {x : List Int} {off : Int} (hd : Dc x off) {C : List Rg} (hc : Cs x off C) {i : Nat} (hi : i < (sws x off C (C.length - 1)).length) : 0 < (rAt (sws x off C (C.length - 1)) i).1 ∧ (rAt (sws x off C (C.length - 1)) i).1 ≤ 20000 ∧ 0 < (rAt (sws x off C (C.length - 1)) i).2.1 ∧ (rAt (sws x off C (C.length - 1)) i).2.1 ≤ 20000 := by
  rw [sws_len] at hi
  have h := sw_bound hd hc (i := i) (by omega)
  have h0 := hd.off0
  have h1 := hd.off1
  rw [sws_get x off C hi]
  simp only [sw]
  omega

theorem f22_eq (x : List Int) (off : Int) (h : x.length ≤ 1000) : f22 ((x, off, ()), ()) = some (if dcE x off ≠ 0 then (noSp, dcE x off, ()) else if (sws x off (crs x off x.length) ((crs x off x.length).length - 1)).length < 2 then (noSp, (12 : Int), ()) else (ratOf (sws x off (crs x off x.length) ((crs x off x.length).length - 1)), (0 : Int), ())) := by
  have e1 := f62_eq x off (by omega)
  by_cases h0 : dcE x off = 0
  · have hd := Dc.of h0
    have e2 := f64_eq hd
    have hc := crs_cs hd
    have hsm := fun i => @sws_small x off hd _ hc i
    have hl : (sws x off (crs x off x.length) ((crs x off x.length).length - 1)).length ≤ 60 := by rw [sws_len]; have := hc.len; omega
    generalize sws x off (crs x off x.length) ((crs x off x.length).length - 1) = S at e2 hsm hl
    have hw : IntKind.wrap .i64 ((S.length : Int) - 1) = (S.length : Int) - 1 := wrapI_id (by omega) (by omega)
    simp only [h0, ne_eq, not_true_eq_false, if_false] at e1 ⊢
    simp only [f22, t22, Tr.val_test, Tr.val_fin, Tr.val_stop, g62, e1, Option.isSome_some, Option.getD_some, if_true, eqF_eq, leF_eq, decide_true, Bool.not_true, Bool.false_eq_true, if_false, g64, e2, hw]
    by_cases h2 : S.length < 2
    · rw [if_pos (by simp; omega), if_pos h2]; rfl
    · have s0 := hsm 0 (by omega)
      have s1 := hsm (S.length - 1) (by omega)
      have ht : ((S.length : Int) - 1).toNat = S.length - 1 := by omega
      have f1 := f56_eq (rAt S (S.length - 1)).1 (rAt S 0).2.1 (by omega) (by omega) (by omega)
      have f2 := f56_eq (rAt S (S.length - 1)).2.1 (rAt S 0).1 (by omega) (by omega) (by omega)
      simp only [rAt] at f1 f2
      rw [if_neg (by simp; omega), if_pos (by simp; omega), if_pos (by simp; omega), if_neg h2]
      simp only [ht, g56, f1, f2, Option.isSome_some, Option.getD_some, if_true, ratOf, rAt, low]
  · simp only [h0, ne_eq, not_false_eq_true, if_true] at e1 ⊢
    simp only [f22, t22, Tr.val_test, Tr.val_fin, Tr.val_stop, g62, e1, Option.isSome_some, Option.getD_some, if_true, eqF_eq, h0, decide_false, Bool.not_false]
    rfl

theorem f28_eq {x : List Int} {off : Int} (hd : Dc x off) : f28 ((x, off, ()), ()) = some (if (sws x off (crs x off x.length) ((crs x off x.length).length - 1)).length < 2 then (noSp, false, ()) else (ratOf (sws x off (crs x off x.length) ((crs x off x.length).length - 1)), true, ())) := by
  have e2 := f26_eq hd
  have hc := crs_cs hd
  have hsm := fun i => @sws_small x off hd _ hc i
  have hl : (sws x off (crs x off x.length) ((crs x off x.length).length - 1)).length ≤ 60 := by rw [sws_len]; have := hc.len; omega
  generalize sws x off (crs x off x.length) ((crs x off x.length).length - 1) = S at e2 hsm hl
  have hw : IntKind.wrap .i64 ((S.length : Int) - 1) = (S.length : Int) - 1 := wrapI_id (by omega) (by omega)
  simp only [f28, t28, Tr.val_test, Tr.val_fin, Tr.val_stop, Option.isSome_some, Option.getD_some, if_true, eqF_eq, leF_eq, decide_true, Bool.not_true, Bool.false_eq_true, if_false, g26, e2, hw]
  by_cases h2 : S.length < 2
  · rw [if_pos (by simp; omega), if_pos h2]; rfl
  · have s0 := hsm 0 (by omega)
    have s1 := hsm (S.length - 1) (by omega)
    have ht : ((S.length : Int) - 1).toNat = S.length - 1 := by omega
    have f1 := f65_eq (rAt S (S.length - 1)).1 (rAt S 0).2.1 (by omega) (by omega) (by omega)
    have f2 := f65_eq (rAt S (S.length - 1)).2.1 (rAt S 0).1 (by omega) (by omega) (by omega)
    simp only [rAt] at f1 f2
    rw [if_neg (by simp; omega), if_pos (by simp; omega), if_pos (by simp; omega), if_neg h2]
    simp only [ht, g65, f1, f2, Option.isSome_some, Option.getD_some, if_true, ratOf, rAt, low]

theorem q24_0 (l : List Rg) (h : l.length ≤ 1000000) : l24_0 ((l, l, (0 : Int), ()), ()) = some (.inl ((), ())) := by
  refine itr_brk (fun i => ((l, l, (i : Int), ()), ())) (n := l.length) ?_ ?_ (lt_rounds (by omega))
  · intro i hi
    simp only [s24_0, t24_0, Tr.val_test, Tr.val_fin, Tr.val_stop, leF_eq, eqF_eq, Int.toNat_natCast, wrap64_nat (show i ≤ 9223372036854775806 by omega)]
    rw [if_pos (by simp; omega), if_pos (by simp; omega), if_pos (by simp; omega)]
    simp
  · simp [s24_0, t24_0, leF_eq]

theorem f24_self (l : List Rg) (h : l.length ≤ 1000000) : f24 (l, l, ()) = some (true, ()) := by
  simp only [f24, t24, Tr.val_test, Tr.val_fin, Tr.val_stop, q24_0 l h, isRet, eqF_eq, decide_true, Bool.not_true, Bool.false_eq_true, if_false, Option.isSome_some, if_true]

theorem f4_eq (x : List Int) (off : Int) : f4 ((x, off, ()), ()) = some (true, ()) := by
  have c0 := f17_eq x off
  simp only [f4, t4, Tr.val_test, Tr.val_fin, Tr.val_stop, g17, c0, Option.isSome_some, Option.getD_some, if_true]
  by_cases hx : x.length ≤ 62
  · have hx1 : (x.length : Int) ≤ 62 := by omega
    have c1 := f19_eq x off (by omega)
    have c2 := f18_eq x off (by omega)
    have c3 := f20_eq x off (by omega)
    have c4 := f21_eq x off (by omega)
    have c5 := f22_eq x off (by omega)
    have c6 := f23_eq x off (by omega)
    simp only [hx1, decide_true, Bool.not_true, Bool.false_eq_true, if_false, g19, c1, Option.isSome_some, Option.getD_some, if_true, g18, g20, g21, g22, g23, c2, c3, c4, c5, c6, eqF_eq]
    by_cases h0 : dcE x off = 0
    · have hd := Dc.of h0
      have c7 := f25_eq hd
      have c8 := f26_eq hd
      have c9 := f27_eq hd
      have c10 := f28_eq hd
      have hl1 : (crs x off x.length).length ≤ 60 := (crs_cs hd).len
      have hl2 : (sws x off (crs x off x.length) ((crs x off x.length).length - 1)).length ≤ 60 := by rw [sws_len]; omega
      have c11 := f24_self (crs x off x.length) (by omega)
      have c12 := f24_self (sws x off (crs x off x.length) ((crs x off x.length).length - 1)) (by omega)
      simp only [h0, decide_true, Bool.not_true, Bool.false_eq_true, if_false, ne_eq, not_true_eq_false, g25, g26, g24, c7, c8, c11, c12, Option.isSome_some, Option.getD_some, if_true, g27, g28, c9, c10]
      generalize sws x off (crs x off x.length) ((crs x off x.length).length - 1) = S
      generalize crs x off x.length = C
      by_cases k1 : C.length < 2
      · by_cases k2 : S.length < 2
        · simp [k1, k2, noSp]
        · simp [k1, k2, noSp]
      · by_cases k2 : S.length < 2
        · simp [k1, k2, noSp]
        · simp [k1, k2, noSp]
    · simp [h0, noSp]
  · have hx1 : ¬ (x.length : Int) ≤ 62 := by omega
    simp only [hx1, decide_false, Bool.not_false, if_true]

theorem law4 (d : Tys.data as4) : Pure1 Go.Proofs.Try.prog 4 as4 [.bool] d (true, ()) := by
  have h := f4_eq d.1.1 d.1.2.1
  have hp : p4.pre d = true := by
    show Option.isSome (f4 d) = true
    rw [show f4 d = some (true, ()) from h]; rfl
  have hg : p4.fn d = (true, ()) := by
    show (f4 d).getD _ = _
    rw [show f4 d = some (true, ()) from h]; rfl
  have := ok4.runs d hp
  rw [hg] at this
  exact this

end Go.Vm.Mo
