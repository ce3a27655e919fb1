import Derived.Test.YtcpgblflbhfhpaaTrFa
import Derived.Test.YtcpgblflbhfhpaaA4
set_option linter.unusedVariables false
set_option linter.unusedSimpArgs false

namespace Go.Vm.Mo
open Go
set_option linter.unusedVariables false
set_option linter.unusedSimpArgs false

theorem first_map (bad : Nat → Bool) : ∀ (n i : Nat), first bad n (i + 1) = (first (fun k => bad (k + 1)) n i).map (· + 1)
  | 0, _ => rfl
  | n + 1, i => by
    simp only [first]
    split
    · rfl
    · exact first_map bad n (i + 1)

/-- The first that is not 0. -/
def firstNZ : List Int → Int
  | [] => 0
  | a :: l => if a = 0 then firstNZ l else a

theorem firstNZ_eq : ∀ l : List Int, (match first (fun i => !decide (l.getD i 0 = 0)) l.length 0 with
    | some k => l.getD k 0
    | none => 0) = firstNZ l
  | [] => rfl
  | a :: l => by
    simp only [List.length, first, firstNZ]
    by_cases ha : a = 0
    · subst ha
      have e := firstNZ_eq l
      have hf : first (fun i => !decide (((0 : Int) :: l).getD i 0 = 0)) l.length (0 + 1) = (first (fun i => !decide (l.getD i 0 = 0)) l.length 0).map (· + 1) := by
        rw [first_map]; rfl
      simp only [hf, List.getD_cons_zero, decide_true, Bool.not_true, Bool.false_eq_true, if_false, if_true]
      rw [← e]
      cases first (fun i => !decide (l.getD i 0 = 0)) l.length 0 with
      | none => rfl
      | some k => rfl
    · simp [ha]

theorem l46 (l : List Int) (h : l.length ≤ 1000000000) : l46_0 ((l, (l.length : Int), (0 : Int), ()), ()) = match first (fun i => !decide (l.getD i 0 = 0)) l.length 0 with
    | some k => some (.inr ((l.getD k 0, ()), ()))
    | none => some (.inl ((), ())) := by
  refine itr_search (fun i => ((l, (l.length : Int), (i : Int), ()), ())) (fun i => !decide (l.getD i 0 = 0)) (fun k => ((l.getD k 0, ()), ())) (n := l.length) ?_ ?_ (lt_rounds (by omega))
  · intro i hi
    simp only [s46_0, t46_0, Tr.val_test, leF_eq, eqF_eq]
    rw [if_pos (by simp; omega), if_pos (by simp; omega)]
    simp only [Int.toNat_natCast, wrap64_nat (show i ≤ 9223372036854775806 by omega)]
    rfl
  · simp [s46_0, t46_0, leF_eq]

theorem f46_eq (l : List Int) (h : l.length ≤ 1000000000) : f46 (l, ()) = some (firstNZ l, ()) := by
  simp only [f46, t46, Tr.val_test, r46_0, l46 l h, ← firstNZ_eq l]
  cases first (fun i => !decide (l.getD i 0 = 0)) l.length 0 with
  | none => rfl
  | some k => rfl

theorem f47_eq (d : Tys.data as47) : f47 d = some (if d.1 = true then d.2.1 else (0 : Int), ()) := by
  simp only [f47, t47, Tr.val_test]
  split <;> rfl

def wi (lo hi x : Int) : Bool := decide (lo ≤ x) && decide (x ≤ hi)

theorem wi_iff {lo hi x : Int} : wi lo hi x = true ↔ lo ≤ x ∧ x ≤ hi := by simp [wi]

theorem f30_eq (d : Tys.data as30) : f30 d = some (wi d.2.1 d.2.2.1 d.1, ()) := by
  simp only [f30, t30, Tr.val_test, Tr.val_fin, leF_eq, decide_eq_true_eq, wi]
  split <;> simp [*]

theorem l50 (lo hi : Int) (l : List Int) (h : l.length ≤ 1000000000) : l50_0 ((lo, hi, l, (l.length : Int), (0 : Int), ()), ()) = match first (fun i => !wi lo hi (l.getD i 0)) l.length 0 with
    | some _ => some (.inr ((false, ()), ()))
    | none => some (.inl ((), ())) := by
  refine itr_search (fun i => ((lo, hi, l, (l.length : Int), (i : Int), ()), ())) (fun i => !wi lo hi (l.getD i 0)) (fun _ => ((false, ()), ())) (n := l.length) ?_ ?_ (lt_rounds (by omega))
  · intro i hi'
    simp only [s50_0, t50_0, Tr.val_test, Tr.val_fin, leF_eq, Int.toNat_natCast, wrap64_nat (show i ≤ 9223372036854775806 by omega)]
    rw [if_pos (by simp; omega), if_pos (by simp; omega)]
    by_cases a0 : lo ≤ l.getD i 0
    · by_cases a1 : l.getD i 0 ≤ hi
      · simp only [wi, a0, a1, decide_true, Bool.and_self, Bool.not_true, if_true, if_false, Bool.false_eq_true]
      · simp only [wi, a0, a1, decide_true, decide_false, Bool.and_false, Bool.not_false, Bool.not_true, if_true, if_false, Bool.false_eq_true]
    · simp only [wi, a0, decide_false, Bool.false_and, Bool.not_false, if_true, if_false, Bool.false_eq_true]
  · simp [s50_0, t50_0, leF_eq]

theorem f50_eq (lo hi : Int) (l : List Int) (h : l.length ≤ 1000000000) : f50 (lo, hi, l, ()) = some ((first (fun i => !wi lo hi (l.getD i 0)) l.length 0).isNone, ()) := by
  have hl := l50 lo hi l h
  cases hf : first (fun i => !wi lo hi (l.getD i 0)) l.length 0 with
  | none =>
    rw [hf] at hl
    simp only [f50, t50, Tr.val_test, Tr.val_fin, hl, isRet, Option.isSome_some, Option.isNone_none, if_true, Bool.false_eq_true, if_false]
  | some k =>
    rw [hf] at hl
    simp only [f50, t50, Tr.val_test, Tr.val_fin, hl, isRet, r50_0, outR, Option.isSome_some, Option.isNone_some, if_true]

theorem f50_one (lo hi a : Int) : f50 (lo, hi, [a], ()) = some (wi lo hi a, ()) := by
  rw [f50_eq lo hi _ (by simp)]
  simp only [first, List.length, List.getD_cons_zero]
  by_cases h1 : wi lo hi a = true
  · simp [h1]
  · simp [h1]

theorem f84_eq (n m : Int) : f84 (n, m, ()) = some (if n = 0 then 10 else if ¬ n ≤ m then 8 else 0, ()) := by
  simp only [f84, t84, Tr.val_test, Tr.val_fin, g47, g46, f47_eq, Option.isSome_some, Option.getD_some, if_true]
  rw [f46_eq _ (by simp)]
  simp only [Option.isSome_some, Option.getD_some, if_true, eqF_eq, leF_eq, decide_eq_true_eq, Bool.not_eq_true', decide_eq_false_iff_not, firstNZ]
  by_cases h1 : n = 0
  · simp [h1]
  · by_cases h2 : n ≤ m
    · simp [h1, h2]
    · simp [h1, h2]

abbrev Rg := Int × Int × PUnit.{1}
def rAt (l : List Rg) (i : Nat) : Rg := l.getD i ((0 : Int), (0 : Int), ())
def mx (a b : Int) : Int := if a < b then b else a

theorem mem_rAt {l : List Rg} {r : Rg} (h : r ∈ l) : ∃ i, i < l.length ∧ rAt l i = r := by
  obtain ⟨i, hi, e⟩ := List.mem_iff_getElem.1 h
  exact ⟨i, hi, by simp [rAt, List.getD, hi, e]⟩

theorem lt_r2 {n : Nat} (h : n ≤ 9223372036854775808) : n < rounds := by unfold rounds; omega

theorem mx_max (a b : Int) : mx a b = max a b := by unfold mx; omega

theorem q78_2 (l : List Int) (n i : Int) (a b : Int) (h : b.natAbs ≤ 9223372036854775808) : l78_2 ((a, b, l, n, i, ()), ()) = some (.inl ((euc a b, l, n, i, ()), ())) := by
  refine itr_euc (fun a b => ((a, b, l, n, i, ()), ())) (fun a => ((a, l, n, i, ()), ())) ?_ ?_ rounds a b (lt_r2 h)
  · intro a b hb
    simp [s78_2, t78_2, eqF_eq, hb]
  · intro a
    simp [s78_2, t78_2, eqF_eq]

theorem q78_0 (a b : Int) (hb : b.natAbs ≤ 9223372036854775807) : l78_0 ((a, [b], (1 : Int), (0 : Int), ()), ()) = some (.inl ((euc a b, ()), ())) := by
  have := itr_brk (step := s78_0) (fun i => ((if i = 0 then a else euc a b, [b], (1 : Int), (i : Int), ()), ())) (n := 1) (m := rounds) (b := ((euc a b, ()), ())) ?_ ?_ (lt_rounds (by omega))
  · exact this
  · intro i hi
    have h0 : i = 0 := by omega
    subst h0
    have e := q78_2 [b] 1 0 a b (by omega)
    simp only [s78_0, t78_0, Tr.val_test, Tr.val_fin, Tr.val_stop, leF_eq, if_true]
    rw [if_pos (by simp), if_pos (by simp)]
    change (if isBrk (l78_2 ((a, b, [b], (1 : Int), (0 : Int), ()), ())) = true then _ else _) = _
    rw [if_pos (by rw [e]; rfl)]
    change some (Out.again (((b78_2 ((a, b, [b], (1 : Int), (0 : Int), ()), ())).1.1, (b78_2 ((a, b, [b], (1 : Int), (0 : Int), ()), ())).1.2.1, (b78_2 ((a, b, [b], (1 : Int), (0 : Int), ()), ())).1.2.2.1, wrap64 ((b78_2 ((a, b, [b], (1 : Int), (0 : Int), ()), ())).1.2.2.2.1 + 1), ()), ())) = _
    simp only [b78_2, e, outB]
    rfl
  · simp [s78_0, t78_0, leF_eq]

theorem f78_two (a b : Int) (ha : a.natAbs ≤ 9223372036854775807) (hb : b.natAbs ≤ 9223372036854775807) : f78 (a, [b], ()) = some ((Int.gcd a b : Int), ()) := by
  have e := q78_0 a b hb
  simp only [f78, t78, Tr.val_test, Tr.val_fin, Tr.val_stop]
  change (if isBrk (l78_0 ((a, [b], (1 : Int), (0 : Int), ()), ())) = true then some ((if (b78_0 ((a, [b], (1 : Int), (0 : Int), ()), ())).1.1 < IntKind.wrap .i64 (0 - (b78_0 ((a, [b], (1 : Int), (0 : Int), ()), ())).1.1) then IntKind.wrap .i64 (0 - (b78_0 ((a, [b], (1 : Int), (0 : Int), ()), ())).1.1) else (b78_0 ((a, [b], (1 : Int), (0 : Int), ()), ())).1.1), ()) else none) = _
  simp only [b78_0, e, isBrk, outB, if_true]
  have := euc_gcd a b (by omega) (by omega) (by omega) (by omega)
  rw [← mx_max] at this
  rw [← wrap64_eq, Int.zero_sub]
  exact congrArg some (Prod.ext this rfl)

/-- A fraction in lowest terms. -/
def low (a b : Int) : Int × Int × Unit := (a.tdiv (Int.gcd a b), b.tdiv (Int.gcd a b), ())

theorem wrapI_id {n : Int} (h1 : -9223372036854775808 ≤ n) (h2 : n ≤ 9223372036854775807) : IntKind.wrap .i64 n = n := by rw [← wrap64_eq, wrap64_id h1 h2]

theorem low_wrap (a b : Int) (ha : a.natAbs ≤ 9223372036854775807) (hb : b.natAbs ≤ 9223372036854775807) : IntKind.wrap .i64 (a.tdiv (Int.gcd a b)) = (low a b).1 ∧ IntKind.wrap .i64 (b.tdiv (Int.gcd a b)) = (low a b).2.1 := by
  have h1 := tdiv_abs_le a (Int.gcd a b)
  have h2 := tdiv_abs_le b (Int.gcd a b)
  exact ⟨wrapI_id (by omega) (by omega), wrapI_id (by omega) (by omega)⟩

theorem f56_eq (a b : Int) (ha : a.natAbs ≤ 9223372036854775807) (hb : b.natAbs ≤ 9223372036854775807) (h0 : b ≠ 0) : f56 (a, b, ()) = some (low a b, ()) := by
  obtain ⟨e1, e2⟩ := low_wrap a b ha hb
  have e := f78_two b a hb ha
  rw [Int.gcd_comm] at e
  simp only [f56, t56, g78, e, Tr.val_test, Tr.val_fin, Option.isSome_some, Option.getD_some, if_true, e1, e2]
  rw [if_neg (by simpa using gcd_pos_right h0)]

theorem q66_0 (a b : Int) (hb : b.natAbs ≤ 9223372036854775807) : l66_0 ((a, b, ()), ()) = some (.inl ((euc a b, ()), ())) := by
  refine itr_euc (fun a b => ((a, b, ()), ())) (fun a => ((a, ()), ())) ?_ ?_ rounds a b (lt_rounds hb)
  · intro a b hb
    simp [s66_0, t66_0, eqF_eq, hb]
  · intro a
    simp [s66_0, t66_0, eqF_eq]

theorem f87_eq (d : Tys.data as87) : f87 d = some (mx d.1 (IntKind.wrap .i64 (0 - d.1)), ()) := rfl

theorem f66_eq (a b : Int) (ha : a.natAbs ≤ 9223372036854775807) (hb : b.natAbs ≤ 9223372036854775807) : f66 (a, b, ()) = some ((Int.gcd a b : Int), ()) := by
  simp only [f66, t66, b66_0, q66_0 a b hb, Tr.val_test, Tr.val_fin, isBrk, if_true, outB, g87, f87_eq, Option.isSome_some, Option.getD_some]
  rw [← wrap64_eq, Int.zero_sub, mx_max, euc_gcd _ _ (by omega) (by omega) (by omega) (by omega)]

def dcE (x : List Int) (off : Int) : Int := if x.length = 0 then 10 else if 60 < x.length then 8 else if (first (fun i => !wi (-10000) 10000 (x.getD i 0)) x.length 0).isSome then 2 else if wi 0 10000 off = false then 2 else 0

theorem wrapI_m : IntKind.wrap .i64 (-10000) = -10000 := wrapI_id (by decide) (by decide)

theorem f85_eq (x : List Int) (h : x.length ≤ 1000000000) : f85 ((10000 : Int), x, ()) = some (if (first (fun i => !wi (-10000) 10000 (x.getD i 0)) x.length 0).isSome = true then 2 else 0, ()) := by
  have e := f50_eq (-10000) 10000 x h
  simp only [f85, t85, Tr.val_test, Tr.val_fin, Tr.val_stop, g50, g47, Int.zero_sub, wrapI_m, e, f47_eq, Option.isSome_some, Option.getD_some, if_true]
  cases first (fun i => !wi (-10000) 10000 (x.getD i 0)) x.length 0 <;> simp

theorem f62_eq (x : List Int) (off : Int) (h : x.length ≤ 1000000000) : f62 ((x, off, ()), ()) = some (if dcE x off ≠ 0 then ((([], (0 : Int), ()), ()), dcE x off, ()) else (((x, off, ()), ()), (0 : Int), ())) := by
  have e0 := f50_one 0 10000 off
  have e1 := f84_eq (x.length : Int) 60
  have e2 := f85_eq x h
  simp only [f62, t62, Tr.val_test, Tr.val_fin, Tr.val_stop, g50, g84, g85, g47, g46, e0, e1, e2, f47_eq, Option.isSome_some, Option.getD_some, if_true]
  rw [f46_eq _ (by simp)]
  simp only [Option.isSome_some, Option.getD_some, if_true, firstNZ, eqF_eq, dcE]
  by_cases h1 : x.length = 0
  · simp [h1]
  · have h1' : ¬ (x.length : Int) = 0 := by omega
    by_cases h2 : 60 < x.length
    · have h2' : ¬ (x.length : Int) ≤ 60 := by omega
      simp [h1, h1', h2, h2']
    · have h2' : (x.length : Int) ≤ 60 := by omega
      by_cases h3 : (first (fun i => !wi (-10000) 10000 (x.getD i 0)) x.length 0).isSome = true
      · simp only [h1, h1', h2, h2', h3, if_true, if_false]; simp
      · by_cases h4 : wi 0 10000 off = true
        · simp only [h1, h1', h2, h2', h3, h4, if_true, if_false]; simp
        · simp only [h1, h1', h2, h2', h3, h4, if_true, if_false]; simp

theorem q23_0 (x : List Int) (off : Int) (h : x.length ≤ 1000000000) : l23_0 (((0 : Int), ()), (x, off, ()), ()) = match first (fun i => !wi (-10000) 10000 (x.getD i 0)) x.length 0 with
    | some _ => some (.inr (((2 : Int), ()), (x, off, ()), ()))
    | none => some (.inl ((), (x, off, ()), ())) := by
  refine itr_search (fun i => (((i : Int), ()), (x, off, ()), ())) (fun i => !wi (-10000) 10000 (x.getD i 0)) (fun _ => (((2 : Int), ()), (x, off, ()), ())) (n := x.length) ?_ ?_ (lt_rounds (by omega))
  · intro i hi
    simp only [s23_0, t23_0, Tr.val_test, Tr.val_fin, Tr.val_stop, leF_eq, Int.toNat_natCast, wrap64_nat (show i ≤ 9223372036854775806 by omega)]
    rw [if_pos (by simp; omega), if_pos (by simp; omega)]
    simp only [g30, f30_eq, Option.isSome_some, Option.getD_some, if_true]
  · simp [s23_0, t23_0, leF_eq]

theorem f23_eq (x : List Int) (off : Int) (h : x.length ≤ 1000000000) : f23 ((x, off, ()), ()) = some (dcE x off, ()) := by
  have hl := q23_0 x off h
  simp only [f23, t23, Tr.val_test, Tr.val_fin, Tr.val_stop, leF_eq, eqF_eq, dcE]
  by_cases h1 : x.length = 0
  · simp [h1]
  · have h1' : ¬ (x.length : Int) = 0 := by omega
    by_cases h2 : 60 < x.length
    · have h2' : ¬ (x.length : Int) ≤ 60 := by omega
      simp [h1, h1', h2, h2']
    · have h2' : (x.length : Int) ≤ 60 := by omega
      simp only [h1, h1', h2, h2', decide_true, decide_false, Bool.not_true, Bool.false_eq_true, if_false]
      cases h3 : first (fun i => !wi (-10000) 10000 (x.getD i 0)) x.length 0 with
      | some k =>
        rw [h3] at hl
        simp only [hl, isRet, r23_0, outR, Option.isSome_some, if_true]
      | none =>
        rw [h3] at hl
        simp only [hl, isRet, b23_0, outB, Option.isSome_some, Option.isSome_none, if_true, Bool.false_eq_true, if_false, g30, f30_eq, Option.getD_some]
        cases h4 : wi 0 10000 off with
        | true => simp
        | false => simp

/-- A valid decay. -/
structure Dc (x : List Int) (off : Int) : Prop where
  pos : 0 < x.length
  len : x.length ≤ 60
  val : ∀ i, i < x.length → -10000 ≤ x.getD i 0 ∧ x.getD i 0 ≤ 10000
  off0 : 0 ≤ off
  off1 : off ≤ 10000

theorem Dc.of {x : List Int} {off : Int} (h : dcE x off = 0) : Dc x off := by
  unfold dcE at h
  split at h
  · cases h
  · split at h
    · cases h
    · split at h
      · cases h
      · split at h
        · cases h
        · rename_i h1 h2 h3 h4
          have h4 := wi_iff.1 (by simpa using h4)
          refine ⟨by omega, by omega, fun i hi => ?_, h4.1, h4.2⟩
          have hn : first (fun i => !wi (-10000) 10000 (x.getD i 0)) x.length 0 = none := by
            cases e : first (fun i => !wi (-10000) 10000 (x.getD i 0)) x.length 0 with
            | none => rfl
            | some k => rw [e] at h3; exact absurd rfl h3
          have := first_none hn i (Nat.zero_le _) (by omega)
          exact wi_iff.1 (by simpa using this)

theorem Dc.neg {x : List Int} {off : Int} (h : Dc x off) : IntKind.wrap .i64 (0 - off) = -off := by
  have := h.off0
  have := h.off1
  rw [wrapI_id (by omega) (by omega)]; omega

/-! Crossings. -/

def lwB (x : List Int) (off : Int) (i : Nat) : Bool := decide (x.getD i 0 < -off)
def hgB (x : List Int) (off : Int) (i : Nat) : Bool := decide (off < x.getD i 0)
def nx (x : List Int) (off : Int) (t : Nat) : Option Nat := first (fun j => lwB x off (t + 1 + j) || hgB x off (t + 1 + j)) (x.length - (t + 1)) 0
def crN (x : List Int) (off : Int) (t : Nat) : List Rg := match nx x off t with
  | some j => if lwB x off (t + 1 + j) = true then [] else [((t : Int), ((t + 1 + j : Nat) : Int), ())]
  | none => []
def cr (x : List Int) (off : Int) (t : Nat) : List Rg := if lwB x off t = true then crN x off t else []
def crs (x : List Int) (off : Int) : Nat → List Rg
  | 0 => []
  | t + 1 => crs x off t ++ cr x off t

theorem crN_len (x : List Int) (off : Int) (t : Nat) : (crN x off t).length ≤ 1 := by
  unfold crN
  split
  · split <;> simp
  · simp

theorem cr_len (x : List Int) (off : Int) (t : Nat) : (cr x off t).length ≤ 1 := by
  unfold cr
  split
  · exact crN_len x off t
  · simp

theorem crs_len (x : List Int) (off : Int) : ∀ i, (crs x off i).length ≤ i
  | 0 => Nat.le_refl _
  | i + 1 => by
    have := crs_len x off i
    have := cr_len x off i
    simp only [crs, List.length_append]
    omega

theorem notLow {x : List Int} {off : Int} {i : Nat} : (!leF (-off) (x.getD i 0)) = lwB x off i := by
  rw [leF_eq, lwB, ← decide_not]
  exact decide_eq_decide.2 (by omega)

theorem isHigh {x : List Int} {off : Int} {i : Nat} : (!leF (x.getD i 0) off) = hgB x off i := by
  rw [leF_eq, hgB, ← decide_not]
  exact decide_eq_decide.2 (by omega)

def pg (x : List Int) (off : Int) : Nat → List Rg × Int
  | 0 => ([], -1)
  | i + 1 => if lwB x off i = true then ((pg x off i).1, (i : Int)) else if hgB x off i = true then (if (pg x off i).2 = -1 then pg x off i else ((pg x off i).1 ++ [((pg x off i).2, (i : Int), ())], -1)) else pg x off i

theorem pg_len (x : List Int) (off : Int) : ∀ i, (pg x off i).1.length ≤ i
  | 0 => Nat.le_refl _
  | i + 1 => by
    have := pg_len x off i
    simp only [pg]
    split
    · simp; omega
    · split
      · split
        · omega
        · simp; omega
      · omega

theorem low_high {x : List Int} {off : Int} (hd : Dc x off) {i : Nat} (h : lwB x off i = true) : hgB x off i = false := by
  have := hd.off0
  simp only [lwB, hgB, decide_eq_true_eq, decide_eq_false_iff_not] at h ⊢
  omega

theorem q63_0 {x : List Int} {off : Int} (hd : Dc x off) : l63_0 (([], (-1 : Int), x, (x.length : Int), (0 : Int), ()), (x, off, ()), ()) = some (.inl (((pg x off x.length).1, ()), (x, off, ()), ())) := by
  have hn := hd.len
  have hneg := hd.neg
  refine itr_brk (fun i => (((pg x off i).1, (pg x off i).2, x, (x.length : Int), (i : Int), ()), (x, off, ()), ())) (n := x.length) ?_ ?_ (lt_rounds (by omega))
  · intro i hi
    have hl := pg_len x off i
    simp only [s63_0, t63_0, Tr.val_test, Tr.val_fin, Tr.val_stop, Int.toNat_natCast, wrap64_nat (show i ≤ 9223372036854775806 by omega), hneg, notLow, isHigh]
    rw [if_pos (by simp only [leF_eq]; simp; omega), if_pos (by simp; omega)]
    cases h1 : lwB x off i with
    | true =>
      simp only [low_high hd h1, if_true, Bool.false_eq_true, if_false, pg, h1]
    | false =>
      cases h2 : hgB x off i with
      | true =>
        simp only [eqF_eq, Bool.false_eq_true, if_false, if_true, pg, h1, h2]
        by_cases h3 : (pg x off i).2 = -1
        · simp only [h3, decide_true, Bool.not_true, Bool.false_eq_true, if_false, if_true]
        · simp only [h3, decide_false, Bool.not_false, if_true, if_false]
          rw [if_pos (by simp only [Bool.and_eq_true, ble_eq_true']; omega)]
      | false =>
        simp only [Bool.false_eq_true, if_false, pg, h1, h2]
  · simp [s63_0, t63_0, leF_eq]

theorem nx_at {x : List Int} {off : Int} {t i : Nat} (hti : t < i) (hi : i < x.length) (hb : ∀ j, t < j → j < i → lwB x off j = false ∧ hgB x off j = false) (he : (lwB x off i || hgB x off i) = true) : nx x off t = some (i - (t + 1)) := by
  have ei : t + 1 + (i - (t + 1)) = i := by omega
  cases e : nx x off t with
  | none =>
    have := first_none e (i - (t + 1)) (Nat.zero_le _) (by omega)
    rw [ei, he] at this
    cases this
  | some k =>
    obtain ⟨_, h2, h3, h4⟩ := first_some e
    rcases Nat.lt_trichotomy k (i - (t + 1)) with h | h | h
    · obtain ⟨b1, b2⟩ := hb (t + 1 + k) (by omega) (by omega)
      simp [b1, b2] at h3
    · rw [h]
    · have := h4 (i - (t + 1)) (Nat.zero_le _) h
      rw [ei, he] at this
      cases this

theorem nx_none {x : List Int} {off : Int} {t : Nat} (hb : ∀ j, t < j → j < x.length → lwB x off j = false ∧ hgB x off j = false) : nx x off t = none := by
  refine first_of_none fun j _ hj => ?_
  obtain ⟨b1, b2⟩ := hb (t + 1 + j) (by omega) (by omega)
  simp [b1, b2]

def pend (x : List Int) (off : Int) (i : Nat) : List Rg := if (pg x off i).2 = -1 then [] else cr x off (pg x off i).2.toNat

theorem pg_inv {x : List Int} {off : Int} (hd : Dc x off) : ∀ i, i ≤ x.length → (pg x off i).1 ++ pend x off i = crs x off i ∧
    ((pg x off i).2 = -1 ∨ ∃ t : Nat, (pg x off i).2 = (t : Int) ∧ t < i ∧ lwB x off t = true ∧ ∀ j, t < j → j < i → lwB x off j = false ∧ hgB x off j = false)
  | 0, _ => ⟨rfl, .inl rfl⟩
  | i + 1, hi => by
    obtain ⟨h1, h2⟩ := pg_inv hd i (by omega)
    cases hl : lwB x off i with
    | true =>
      have ep : pg x off (i + 1) = ((pg x off i).1, (i : Int)) := by simp only [pg, hl, if_true]
      have hp0 : pend x off i = [] := by
        unfold pend
        split
        · rfl
        · rename_i hne
          rcases h2 with h2 | ⟨t, q1, q2, q3, q4⟩
          · exact absurd h2 hne
          · rw [q1, Int.toNat_natCast, cr, if_pos q3, crN, nx_at q2 (by omega) q4 (by rw [hl]; rfl)]
            simp only
            rw [show t + 1 + (i - (t + 1)) = i by omega, hl, if_pos rfl]
      have hp1 : pend x off (i + 1) = cr x off i := by
        unfold pend
        rw [ep, if_neg (by show ¬ (i : Int) = -1; omega)]
        simp only [Int.toNat_natCast]
      refine ⟨?_, .inr ⟨i, by rw [ep], by omega, hl, fun j a b => by omega⟩⟩
      rw [hp1, ep, crs, ← h1, hp0, List.append_nil]
    | false =>
      have hc : cr x off i = [] := by simp only [cr, hl, Bool.false_eq_true, if_false]
      cases hg : hgB x off i with
      | true =>
        by_cases hb : (pg x off i).2 = -1
        · have ep : pg x off (i + 1) = pg x off i := by simp only [pg, hl, hg, hb, Bool.false_eq_true, if_false, if_true]
          have hp : pend x off (i + 1) = [] := by unfold pend; rw [ep, if_pos hb]
          have hp0 : pend x off i = [] := by unfold pend; rw [if_pos hb]
          refine ⟨?_, .inl (by rw [ep]; exact hb)⟩
          rw [hp, ep, crs, hc, ← h1, hp0]; simp
        · have ep : pg x off (i + 1) = ((pg x off i).1 ++ [((pg x off i).2, (i : Int), ())], -1) := by simp only [pg, hl, hg, hb, Bool.false_eq_true, if_false, if_true]
          have hp : pend x off (i + 1) = [] := by unfold pend; rw [ep, if_pos rfl]
          rcases h2 with h2 | ⟨t, q1, q2, q3, q4⟩
          · exact absurd h2 hb
          · have hp0 : pend x off i = [((t : Int), (i : Int), ())] := by
              unfold pend
              rw [if_neg hb, q1, Int.toNat_natCast, cr, if_pos q3, crN, nx_at q2 (by omega) q4 (by rw [hg]; simp)]
              simp only
              rw [show t + 1 + (i - (t + 1)) = i by omega, hl, if_neg (by simp)]
            refine ⟨?_, .inl (by rw [ep])⟩
            rw [hp, ep, crs, hc, ← h1, hp0, q1, List.append_nil]
      | false =>
        have ep : pg x off (i + 1) = pg x off i := by simp only [pg, hl, hg, Bool.false_eq_true, if_false]
        have hp : pend x off (i + 1) = pend x off i := by unfold pend; rw [ep]
        refine ⟨by rw [hp, ep, crs, hc, h1, List.append_nil], ?_⟩
        rw [ep]
        rcases h2 with h2 | ⟨t, q1, q2, q3, q4⟩
        · exact .inl h2
        · refine .inr ⟨t, q1, by omega, q3, fun j a b => ?_⟩
          by_cases hj : j = i
          · subst hj; exact ⟨hl, hg⟩
          · exact q4 j a (by omega)

theorem pg_crs {x : List Int} {off : Int} (hd : Dc x off) : (pg x off x.length).1 = crs x off x.length := by
  obtain ⟨h1, h2⟩ := pg_inv hd x.length (Nat.le_refl _)
  have hp : pend x off x.length = [] := by
    unfold pend
    split
    · rfl
    · rename_i hne
      rcases h2 with h2 | ⟨t, q1, q2, q3, q4⟩
      · exact absurd h2 hne
      · rw [q1, Int.toNat_natCast, cr, if_pos q3, crN, nx_none q4]
  rw [← h1, hp, List.append_nil]

theorem f63_eq {x : List Int} {off : Int} (hd : Dc x off) : f63 (((x, off, ()), ()), ()) = some (crs x off x.length, ()) := by
  simp only [f63, t63, Tr.val_test, Tr.val_fin, Tr.val_stop, b63_0, q63_0 hd, isBrk, outB, if_true, pg_crs hd]

/-- A crossing of a decay. -/
def Cx (x : List Int) (off : Int) (r : Rg) : Prop := ∃ t k : Nat, r = ((t : Int), (k : Int), ()) ∧ t < k ∧ k < x.length ∧ lwB x off t = true ∧ hgB x off k = true ∧ ∀ j, t < j → j < k → lwB x off j = false

theorem cr_spec {x : List Int} {off : Int} {t : Nat} {r : Rg} (h : r ∈ cr x off t) : ∃ k : Nat, r = ((t : Int), (k : Int), ()) ∧ t < k ∧ k < x.length ∧ lwB x off t = true ∧ hgB x off k = true ∧ ∀ j, t < j → j < k → lwB x off j = false := by
  unfold cr at h
  split at h
  · rename_i hl
    unfold crN at h
    split at h
    · rename_i j hj
      split at h
      · cases h
      · rename_i hnl
        rw [List.mem_singleton] at h
        obtain ⟨_, h2, h3, h4⟩ := first_some hj
        refine ⟨t + 1 + j, h, by omega, by omega, hl, ?_, fun q a b => ?_⟩
        · simp only [Bool.or_eq_true] at h3
          exact h3.resolve_left hnl
        · have := h4 (q - (t + 1)) (Nat.zero_le _) (by omega)
          rw [show t + 1 + (q - (t + 1)) = q by omega] at this
          simp only [Bool.or_eq_false_iff] at this
          exact this.1
    · cases h
  · cases h

theorem crs_inv {x : List Int} {off : Int} (hd : Dc x off) : ∀ n, (∀ i, i < (crs x off n).length → Cx x off (rAt (crs x off n) i) ∧ (rAt (crs x off n) i).1 < (n : Int)) ∧
    (∀ i, i + 1 < (crs x off n).length → (rAt (crs x off n) i).2.1 < (rAt (crs x off n) (i + 1)).1)
  | 0 => ⟨fun i hi => by simp [crs] at hi, fun i hi => by simp [crs] at hi⟩
  | n + 1 => by
    obtain ⟨h1, h2⟩ := crs_inv hd n
    have hl := cr_len x off n
    have hlen : (crs x off (n + 1)).length = (crs x off n).length + (cr x off n).length := by simp [crs]
    have old : ∀ i, i < (crs x off n).length → rAt (crs x off (n + 1)) i = rAt (crs x off n) i := fun i hi => by
      simp only [crs, rAt, List.getD_eq_getElem?_getD, List.getElem?_append_left hi]
    have new : ∀ i, ¬ i < (crs x off n).length → i < (crs x off (n + 1)).length → i = (crs x off n).length ∧ rAt (crs x off (n + 1)) i ∈ cr x off n := fun i hi hi2 => by
      have e : i = (crs x off n).length := by omega
      refine ⟨e, ?_⟩
      have h0 : 0 < (cr x off n).length := by omega
      subst e
      simp only [crs, rAt, List.getD_eq_getElem?_getD, List.getElem?_append_right (Nat.le_refl _), Nat.sub_self, List.getElem?_eq_getElem h0, Option.getD_some]
      exact List.getElem_mem h0
    refine ⟨fun i hi => ?_, fun i hi => ?_⟩
    · by_cases hin : i < (crs x off n).length
      · rw [old i hin]
        obtain ⟨a, b⟩ := h1 i hin
        exact ⟨a, by omega⟩
      · obtain ⟨_, hm⟩ := new i hin hi
        obtain ⟨k, e, q1, q2, q3, q4, q5⟩ := cr_spec hm
        rw [e]
        exact ⟨⟨n, k, rfl, q1, q2, q3, q4, q5⟩, by show (n : Int) < ((n + 1 : Nat) : Int); omega⟩
    · by_cases hin : i + 1 < (crs x off n).length
      · rw [old i (by omega), old (i + 1) hin]
        exact h2 i hin
      · obtain ⟨e0, hm⟩ := new (i + 1) hin hi
        obtain ⟨k, e, q1, q2, q3, q4, q5⟩ := cr_spec hm
        rw [old i (by omega), e]
        obtain ⟨⟨t', k', e', p1, p2, p3, p4, p5⟩, hlt⟩ := h1 i (by omega)
        rw [e'] at hlt ⊢
        show (k' : Int) < (n : Int)
        have ht : t' < n := by have : (t' : Int) < (n : Int) := hlt; omega
        rcases Nat.lt_trichotomy k' n with h | h | h
        · omega
        · subst h
          have := low_high hd q3
          rw [this] at p4; cases p4
        · have := p5 n ht h
          rw [this] at q3; cases q3

/-! Swings. -/

def mxs (x : List Int) (s : Nat) : Nat → Int
  | 0 => x.getD s 0
  | n + 1 => mx (mxs x s n) (x.getD (s + (n + 1)) 0)

theorem mx_two {a b : Int} : mx a b = a ∨ mx a b = b := by unfold mx; split <;> simp
theorem mx_ge {a b : Int} : a ≤ mx a b ∧ b ≤ mx a b := by unfold mx; split <;> omega

theorem mxs_bound {x : List Int} {off : Int} (hd : Dc x off) (s : Nat) : ∀ n, s + n < x.length → -10000 ≤ mxs x s n ∧ mxs x s n ≤ 10000 ∧ x.getD s 0 ≤ mxs x s n
  | 0, h => ⟨(hd.val s h).1, (hd.val s h).2, Int.le_refl _⟩
  | n + 1, h => by
    obtain ⟨h1, h2, h3⟩ := mxs_bound hd s n (by omega)
    have h4 := hd.val (s + (n + 1)) h
    have h5 := mx_ge (a := mxs x s n) (b := x.getD (s + (n + 1)) 0)
    rcases mx_two (a := mxs x s n) (b := x.getD (s + (n + 1)) 0) with e | e <;> simp only [mxs] <;> omega

theorem q86_0 (l : List Int) (x : List Int) (s n : Nat) (hl : l.length = n + 1) (hn : n ≤ 1000000) (hx : ∀ i, i ≤ n → l.getD i 0 = x.getD (s + i) 0) : l86_0 ((l, l.getD 0 0, (1 : Int), ()), ()) = some (.inl ((mxs x s n, ()), ())) := by
  have := itr_brk (step := s86_0) (fun i => ((l, mxs x s i, ((i + 1 : Nat) : Int), ()), ())) (n := n) (m := rounds) (b := ((mxs x s n, ()), ())) ?_ ?_ (lt_rounds (by omega))
  · have e0 : l.getD 0 0 = mxs x s 0 := by rw [hx 0 (Nat.zero_le _)]; rfl
    rw [e0]; exact this
  · intro i hi
    have hw : wrap64 (((i + 1 : Nat) : Int) + 1) = ((i + 1 + 1 : Nat) : Int) := wrap64_nat (by omega)
    simp only [s86_0, t86_0, Tr.val_test, Tr.val_fin, Tr.val_stop, leF_eq, Int.toNat_natCast, hw]
    rw [if_pos (by simp; omega), if_pos (by simp; omega)]
    rw [hx (i + 1) (by omega)]
    rfl
  · simp [s86_0, t86_0, leF_eq, hl]

theorem f86_eq (l : List Int) (x : List Int) (s n : Nat) (hl : l.length = n + 1) (hn : n ≤ 1000000) (hx : ∀ i, i ≤ n → l.getD i 0 = x.getD (s + i) 0) : f86 (l, ()) = some (mxs x s n, ()) := by
  have e := q86_0 l x s n hl hn hx
  simp only [f86, t86, Tr.val_test, Tr.val_fin, Tr.val_stop, b86_0, e, isBrk, outB, if_true, leF_eq]
  rw [if_neg (by simp; omega), if_pos (by simp; omega)]

def hiN (C : List Rg) (i : Nat) : Nat := (rAt C i).2.1.toNat
def loN (C : List Rg) (i : Nat) : Nat := (rAt C i).1.toNat
def sw (x : List Int) (off : Int) (C : List Rg) (i : Nat) : Rg := (mxs x (hiN C i) (loN C (i + 1) - hiN C i) - off, mxs x (hiN C i) (loN C (i + 1) - hiN C i) + off, ())
def sws (x : List Int) (off : Int) (C : List Rg) (n : Nat) : List Rg := (List.range n).map (sw x off C)

theorem sws_len (x : List Int) (off : Int) (C : List Rg) (n : Nat) : (sws x off C n).length = n := by simp [sws]
theorem sws_succ (x : List Int) (off : Int) (C : List Rg) (n : Nat) : sws x off C (n + 1) = sws x off C n ++ [sw x off C n] := by simp [sws, List.range_succ]
theorem sws_get (x : List Int) (off : Int) (C : List Rg) {n i : Nat} (h : i < n) : rAt (sws x off C n) i = sw x off C i := by simp [sws, rAt, List.getD, h]

/-- Crossings one behind the other. -/
structure Cs (x : List Int) (off : Int) (C : List Rg) : Prop where
  len : C.length ≤ 60
  lo : ∀ i, i < C.length → (rAt C i).1 = (loN C i : Int)
  hi : ∀ i, i < C.length → (rAt C i).2.1 = (hiN C i : Int)
  lt : ∀ i, i < C.length → loN C i < hiN C i
  top : ∀ i, i < C.length → hiN C i < x.length
  up : ∀ i, i < C.length → off < x.getD (hiN C i) 0
  next : ∀ i, i + 1 < C.length → hiN C i < loN C (i + 1)

theorem crs_cs {x : List Int} {off : Int} (hd : Dc x off) : Cs x off (crs x off x.length) := by
  obtain ⟨h1, h2⟩ := crs_inv hd x.length
  have hl := crs_len x off x.length
  have hn := hd.len
  refine ⟨by omega, fun i hi => ?_, fun i hi => ?_, fun i hi => ?_, fun i hi => ?_, fun i hi => ?_, fun i hi => ?_⟩
  · obtain ⟨⟨t, k, e, _⟩, _⟩ := h1 i hi
    simp only [loN, e, Int.toNat_natCast]
  · obtain ⟨⟨t, k, e, _⟩, _⟩ := h1 i hi
    simp only [hiN, e, Int.toNat_natCast]
  · obtain ⟨⟨t, k, e, h, _⟩, _⟩ := h1 i hi
    simp only [loN, hiN, e, Int.toNat_natCast]; exact h
  · obtain ⟨⟨t, k, e, _, h, _⟩, _⟩ := h1 i hi
    simp only [hiN, e, Int.toNat_natCast]; exact h
  · obtain ⟨⟨t, k, e, _, _, _, h, _⟩, _⟩ := h1 i hi
    simp only [hiN, e, Int.toNat_natCast]
    simpa [hgB] using h
  · have := h2 i hi
    obtain ⟨⟨t, k, e, _⟩, _⟩ := h1 i (by omega)
    obtain ⟨⟨t', k', e', _⟩, _⟩ := h1 (i + 1) hi
    rw [e, e'] at this
    simp only [hiN, loN, e, e', Int.toNat_natCast]
    have : (k : Int) < (t' : Int) := this
    omega

theorem sw_bound {x : List Int} {off : Int} (hd : Dc x off) {C : List Rg} (hc : Cs x off C) {i : Nat} (h : i + 1 < C.length) : -10000 ≤ mxs x (hiN C i) (loN C (i + 1) - hiN C i) ∧ mxs x (hiN C i) (loN C (i + 1) - hiN C i) ≤ 10000 ∧ off < mxs x (hiN C i) (loN C (i + 1) - hiN C i) := by
  have h1 := hc.next i h
  have h2 := hc.lt (i + 1) h
  have h3 := hc.top (i + 1) h
  have h4 := mxs_bound hd (hiN C i) (loN C (i + 1) - hiN C i) (by omega)
  have h5 := hc.up i (by omega)
  exact ⟨h4.1, h4.2.1, by omega⟩

theorem q64_0 {x : List Int} {off : Int} (hd : Dc x off) {C : List Rg} (hc : Cs x off C) : l64_0 (([], C, wrap64 ((C.length : Int) - 1), (0 : Int), ()), (x, off, ()), ()) = some (.inl ((sws x off C (C.length - 1), ()), (x, off, ()), ())) := by
  have hC := hc.len
  have hX := hd.len
  have h01 := hd.off0
  have h02 := hd.off1
  have hw0 : wrap64 ((C.length : Int) - 1) = (C.length : Int) - 1 := wrap64_id (by omega) (by omega)
  rw [hw0]
  refine itr_brk (fun i => ((sws x off C i, C, (C.length : Int) - 1, (i : Int), ()), (x, off, ()), ())) (n := C.length - 1) ?_ ?_ (lt_rounds (by omega))
  · intro i hi
    have a1 := hc.next i (by omega)
    have a2 := hc.lt (i + 1) (by omega)
    have a3 := hc.top (i + 1) (by omega)
    have a4 := hc.hi i (by omega)
    have a5 := hc.lo (i + 1) (by omega)
    have a6 := sw_bound hd hc (i := i) (by omega)
    have hw : wrap64 ((i : Int) + 1) = ((i + 1 : Nat) : Int) := wrap64_nat (by omega)
    have hw2 : wrap64 ((loN C (i + 1) : Int) + 1) = ((loN C (i + 1) + 1 : Nat) : Int) := wrap64_nat (by omega)
    simp only [rAt] at a4 a5
    have em : f86 ((x.drop (hiN C i)).take (loN C (i + 1) + 1 - hiN C i), ()) = some (mxs x (hiN C i) (loN C (i + 1) - hiN C i), ()) := by
      refine f86_eq _ x (hiN C i) _ ?_ (by omega) fun q hq => ?_
      · simp only [List.length_take, List.length_drop]; omega
      · simp only [List.getD_eq_getElem?_getD, List.getElem?_take, List.getElem?_drop]
        rw [if_pos (by omega)]
    simp only [s64_0, t64_0, Tr.val_test, Tr.val_fin, Tr.val_stop, leF_eq, Int.toNat_natCast, hw, a4, a5, hw2]
    rw [if_pos (by simp; omega), if_pos (by simp; omega), if_pos (by simp; omega), if_pos (by simp; omega), if_pos (by simp; omega)]
    simp only [g86, em, Option.isSome_some, Option.getD_some, if_true, sws_len]
    rw [if_pos (by simp only [Bool.and_eq_true, ble_eq_true']; omega), wrap64_id (by omega) (by omega), wrap64_id (by omega) (by omega), sws_succ]
    rfl
  · simp only [s64_0, t64_0, Tr.val_test, Tr.val_fin, Tr.val_stop, leF_eq]
    rw [if_neg (by simp; omega)]

theorem f64_eq {x : List Int} {off : Int} (hd : Dc x off) : f64 (((x, off, ()), ()), ()) = some (sws x off (crs x off x.length) ((crs x off x.length).length - 1), ()) := by
  have e1 := f63_eq hd
  have e2 := q64_0 hd (crs_cs hd)
  simp only [f64, t64, Tr.val_test, Tr.val_fin, Tr.val_stop, g63, e1, Option.isSome_some, Option.getD_some, if_true, b64_0, e2, isBrk, outB]

theorem mx_self (a : Int) : mx a a = a := by unfold mx; split <;> rfl

theorem f51_eq (l : List Int) (h : l.length ≤ 1000) : f51 (l, ()) = some (l, ()) := by
  simp only [f51, t51, Tr.val_test, Tr.val_fin, Tr.val_stop, List.nil_append]
  by_cases h0 : l.length = 0
  · have : l = [] := List.eq_nil_of_length_eq_zero h0
    subst this; rfl
  · rw [if_neg (by rw [beq_eq_true']; exact h0), if_neg (by rw [ble_eq_true']; omega), if_pos (by simp only [Bool.and_eq_true, ble_eq_true']; omega), if_pos (by rw [beq_eq_true']; omega)]

theorem f19_eq (x : List Int) (off : Int) (h : x.length ≤ 1000) : f19 ((x, off, ()), ()) = some ((x, off, ()), ()) := by
  have e := f51_eq x h
  simp only [f19, t19, Tr.val_test, Tr.val_fin, Tr.val_stop, g51, e, Option.isSome_some, Option.getD_some, if_true]

theorem f18_eq (x : List Int) (off : Int) (h : x.length ≤ 1000) : f18 ((x, off, ()), ()) = some (if dcE x off ≠ 0 then ([], dcE x off, ()) else (crs x off x.length, (0 : Int), ())) := by
  have e1 := f62_eq x off (by omega)
  by_cases h0 : dcE x off = 0
  · have e2 := f63_eq (Dc.of h0)
    simp only [h0, ne_eq, not_true_eq_false, if_false] at e1 ⊢
    simp only [f18, t18, Tr.val_test, Tr.val_fin, Tr.val_stop, g62, e1, Option.isSome_some, Option.getD_some, if_true, eqF_eq, decide_true, Bool.not_true, Bool.false_eq_true, if_false, g63, e2]
  · simp only [h0, ne_eq, not_false_eq_true, if_true] at e1 ⊢
    simp only [f18, t18, Tr.val_test, Tr.val_fin, Tr.val_stop, g62, e1, Option.isSome_some, Option.getD_some, if_true, eqF_eq, h0, decide_false, Bool.not_false]

theorem f21_eq (x : List Int) (off : Int) (h : x.length ≤ 1000) : f21 ((x, off, ()), ()) = some (if dcE x off ≠ 0 then ([], dcE x off, ()) else (sws x off (crs x off x.length) ((crs x off x.length).length - 1), (0 : Int), ())) := by
  have e1 := f62_eq x off (by omega)
  by_cases h0 : dcE x off = 0
  · have e2 := f64_eq (Dc.of h0)
    simp only [h0, ne_eq, not_true_eq_false, if_false] at e1 ⊢
    simp only [f21, t21, Tr.val_test, Tr.val_fin, Tr.val_stop, g62, e1, Option.isSome_some, Option.getD_some, if_true, eqF_eq, decide_true, Bool.not_true, Bool.false_eq_true, if_false, g64, e2]
  · simp only [h0, ne_eq, not_false_eq_true, if_true] at e1 ⊢
    simp only [f21, t21, Tr.val_test, Tr.val_fin, Tr.val_stop, g62, e1, Option.isSome_some, Option.getD_some, if_true, eqF_eq, h0, decide_false, Bool.not_false]

abbrev Fr := Int × Int × PUnit.{1}
abbrev Sp := Fr × Fr × PUnit.{1}
def noSp : Sp := ((0, 0, ()), (0, 0, ()), ())

/-- The period of crossings. -/
def perOf (C : List Rg) : Sp := (low ((rAt C (C.length - 1)).1 - (rAt C 0).2.1) ((C.length : Int) - 1), low ((rAt C (C.length - 1)).2.1 - (rAt C 0).1) ((C.length : Int) - 1), ())

theorem Cs.small {x : List Int} {off : Int} (hd : Dc x off) {C : List Rg} (hc : Cs x off C) {i : Nat} (hi : i < C.length) : 0 ≤ (rAt C i).1 ∧ (rAt C i).1 ≤ 60 ∧ 0 ≤ (rAt C i).2.1 ∧ (rAt C i).2.1 ≤ 60 := by
  have := hc.lo i hi
  have := hc.hi i hi
  have := hc.lt i hi
  have := hc.top i hi
  have := hd.len
  omega

theorem f20_eq (x : List Int) (off : Int) (h : x.length ≤ 1000) : f20 ((x, off, ()), ()) = some (if dcE x off ≠ 0 then (noSp, dcE x off, ()) else if (crs x off x.length).length < 2 then (noSp, (12 : Int), ()) else (perOf (crs x off x.length), (0 : Int), ())) := by
  have e1 := f62_eq x off (by omega)
  by_cases h0 : dcE x off = 0
  · have hd := Dc.of h0
    have e2 := f63_eq hd
    have hc := crs_cs hd
    generalize crs x off x.length = C at e2 hc
    have hl := hc.len
    have hw : wrap64 ((C.length : Int) - 1) = (C.length : Int) - 1 := wrap64_id (by omega) (by omega)
    simp only [h0, ne_eq, not_true_eq_false, if_false] at e1 ⊢
    simp only [f20, t20, Tr.val_test, Tr.val_fin, Tr.val_stop, g62, e1, Option.isSome_some, Option.getD_some, if_true, eqF_eq, leF_eq, decide_true, Bool.not_true, Bool.false_eq_true, if_false, g63, e2, hw]
    by_cases h2 : C.length < 2
    · rw [if_pos (by simp; omega), if_pos h2]; rfl
    · have s0 := hc.small hd (i := 0) (by omega)
      have s1 := hc.small hd (i := C.length - 1) (by omega)
      have ht : ((C.length : Int) - 1).toNat = C.length - 1 := by omega
      have f1 := f56_eq ((rAt C (C.length - 1)).1 - (rAt C 0).2.1) ((C.length : Int) - 1) (by omega) (by omega) (by omega)
      have f2 := f56_eq ((rAt C (C.length - 1)).2.1 - (rAt C 0).1) ((C.length : Int) - 1) (by omega) (by omega) (by omega)
      have w1 : wrap64 ((rAt C (C.length - 1)).1 - (rAt C 0).2.1) = (rAt C (C.length - 1)).1 - (rAt C 0).2.1 := wrap64_id (by omega) (by omega)
      have w2 : wrap64 ((rAt C (C.length - 1)).2.1 - (rAt C 0).1) = (rAt C (C.length - 1)).2.1 - (rAt C 0).1 := wrap64_id (by omega) (by omega)
      simp only [rAt] at f1 f2 w1 w2
      rw [if_neg (by simp; omega), if_pos (by simp; omega), if_pos (by simp; omega), if_neg h2]
      simp only [ht, w1, w2, g56, f1, f2, Option.isSome_some, Option.getD_some, if_true, perOf, rAt, low]
  · simp only [h0, ne_eq, not_false_eq_true, if_true] at e1 ⊢
    simp only [f20, t20, Tr.val_test, Tr.val_fin, Tr.val_stop, g62, e1, Option.isSome_some, Option.getD_some, if_true, eqF_eq, h0, decide_false, Bool.not_false]
    rfl

def fl (n d : Int) : Int := if Int.tmod n d < 0 then Int.tdiv n d - 1 else Int.tdiv n d

theorem fl_spec (n : Int) {d : Int} (h : 0 < d) : fl n d * d ≤ n ∧ n < fl n d * d + d := by
  have e := Int.mul_tdiv_add_tmod n d
  have h1 := Int.tmod_lt_of_pos n h
  have h2 := Int.lt_tmod_of_pos n h
  unfold fl
  rw [Int.mul_comm] at e
  split
  · rw [Int.sub_mul, Int.one_mul]; omega
  · omega

theorem f67_eq (n d : Int) (h : 0 < d) (hn : n.natAbs ≤ 1000000000000) : f67 (n, d, ()) = some (fl n d, ()) := by
  have h1 := Int.natAbs_tdiv_le_natAbs n d
  have w1 : IntKind.wrap .i64 (Int.tdiv n d) = Int.tdiv n d := wrapI_id (by omega) (by omega)
  have w2 : wrap64 (Int.tdiv n d - 1) = Int.tdiv n d - 1 := wrap64_id (by omega) (by omega)
  simp only [f67, t67, Tr.val_test, Tr.val_fin, Tr.val_stop, leF_eq, w1, w2, fl]
  rw [if_neg (by simp; omega)]
  by_cases hm : Int.tmod n d < 0
  · rw [if_pos (by simpa using hm), if_pos hm]
  · rw [if_neg (by simpa using hm), if_neg hm]

/-- Which of two quotients is greater. -/
def cq (n d m k : Int) : Int := if n * k < m * d then -1 else if n * k = m * d then 0 else 1

theorem cmp_go : ∀ (s : Nat) (n d m k : Int), 0 < d → 0 < k → d.toNat + k.toNat ≤ s → d ≤ 1000000000 → k ≤ 1000000000 → n.natAbs ≤ 1000000000 → m.natAbs ≤ 1000000000 → ∀ fuel : Nat, s < fuel →
    itr s33_0 fuel ((n, d, m, k, ()), ()) = some (.inr ((cq n d m k, ()), ())) := by
  intro s
  induction s with
  | zero => intro n d m k hd hk hs; omega
  | succ s ih =>
    intro n d m k hd hk hs hd1 hk1 hn hm fuel hf
    obtain ⟨f, rfl⟩ : ∃ f, fuel = f + 1 := ⟨fuel - 1, by omega⟩
    obtain ⟨a1, a2⟩ := fl_spec n hd
    obtain ⟨b1, b2⟩ := fl_spec m hk
    have e1 := f67_eq n d hd (by omega)
    have e2 := f67_eq m k hk (by omega)
    have w1 : wrap64 (fl n d * d) = fl n d * d := wrap64_id (by omega) (by omega)
    have w2 : wrap64 (fl m k * k) = fl m k * k := wrap64_id (by omega) (by omega)
    have w3 : wrap64 (n - fl n d * d) = n - fl n d * d := wrap64_id (by omega) (by omega)
    have w4 : wrap64 (m - fl m k * k) = m - fl m k * k := wrap64_id (by omega) (by omega)
    have hstep : s33_0 ((n, d, m, k, ()), ()) = if fl n d < fl m k then some (.ret (((-1 : Int), ()), ())) else if fl m k < fl n d then some (.ret (((1 : Int), ()), ())) else if n - fl n d * d = 0 then (if m - fl m k * k = 0 then some (.ret (((0 : Int), ()), ())) else some (.ret (((-1 : Int), ()), ()))) else if m - fl m k * k = 0 then some (.ret (((1 : Int), ()), ())) else some (.again ((k, m - fl m k * k, d, n - fl n d * d, ()), ())) := by
      simp only [s33_0, t33_0, Tr.val_test, Tr.val_fin, Tr.val_stop, g67, e1, e2, Option.isSome_some, Option.getD_some, if_true, leF_eq, eqF_eq, w1, w2, w3, w4, decide_eq_true_eq, Bool.not_eq_true', decide_eq_false_iff_not, Int.not_le]
    rw [itr, hstep]
    have hdk : 0 < d * k := Int.mul_pos hd hk
    by_cases h1 : fl n d < fl m k
    · rw [if_pos h1]
      have g1 : n * k < (fl n d * d + d) * k := Int.mul_lt_mul_of_pos_right a2 hk
      have g2 : (fl m k * k) * d ≤ m * d := Int.mul_le_mul_of_nonneg_right b1 (Int.le_of_lt hd)
      have g3 : (fl n d + 1) * (d * k) ≤ fl m k * (d * k) := Int.mul_le_mul_of_nonneg_right (by omega) (Int.le_of_lt hdk)
      have g4 : (fl n d * d + d) * k = (fl n d + 1) * (d * k) := by grind
      have g5 : (fl m k * k) * d = fl m k * (d * k) := by grind
      have : n * k < m * d := by omega
      simp only [cq, if_pos this]
    · rw [if_neg h1]
      by_cases h2 : fl m k < fl n d
      · rw [if_pos h2]
        have g1 : m * d < (fl m k * k + k) * d := Int.mul_lt_mul_of_pos_right b2 hd
        have g2 : (fl n d * d) * k ≤ n * k := Int.mul_le_mul_of_nonneg_right a1 (Int.le_of_lt hk)
        have g3 : (fl m k + 1) * (d * k) ≤ fl n d * (d * k) := Int.mul_le_mul_of_nonneg_right (by omega) (Int.le_of_lt hdk)
        have g4 : (fl m k * k + k) * d = (fl m k + 1) * (d * k) := by grind
        have g5 : (fl n d * d) * k = fl n d * (d * k) := by grind
        have : m * d < n * k := by omega
        simp only [cq, if_neg (show ¬ n * k < m * d by omega), if_neg (show ¬ n * k = m * d by omega)]
      · rw [if_neg h2]
        have hp : fl m k = fl n d := by omega
        rw [hp] at b1 b2 ⊢
        generalize fl n d = p at *
        have hk' : n * k - m * d = (n - p * d) * k - (m - p * k) * d := by grind
        have a3 : 0 ≤ n - p * d := by omega
        have a4 : n - p * d < d := by omega
        have b3 : 0 ≤ m - p * k := by omega
        have b4 : m - p * k < k := by omega
        generalize n - p * d = n' at *
        generalize m - p * k = m' at *
        by_cases h3 : n' = 0
        · rw [if_pos h3]
          subst h3
          by_cases h4 : m' = 0
          · rw [if_pos h4]
            subst h4
            have : n * k = m * d := by omega
            simp only [cq, if_neg (show ¬ n * k < m * d by omega), if_pos this]
          · rw [if_neg h4]
            have : 0 < m' * d := Int.mul_pos (by omega) hd
            simp only [cq, if_pos (show n * k < m * d by omega)]
        · rw [if_neg h3]
          by_cases h4 : m' = 0
          · rw [if_pos h4]
            subst h4
            have : 0 < n' * k := Int.mul_pos (by omega) hk
            simp only [cq, if_neg (show ¬ n * k < m * d by omega), if_neg (show ¬ n * k = m * d by omega)]
          · rw [if_neg h4]
            have := ih k m' d n' (by omega) (by omega) (by omega) (by omega) (by omega) (by omega) (by omega) f (by omega)
            simp only [this]
            have e5 : cq k m' d n' = cq n d m k := by
              unfold cq
              have c1 : k * n' = n' * k := Int.mul_comm _ _
              have c2 : d * m' = m' * d := Int.mul_comm _ _
              rw [c1, c2]
              by_cases q1 : n' * k < m' * d
              · rw [if_pos q1, if_pos (by omega)]
              · rw [if_neg q1, if_neg (show ¬ n * k < m * d by omega)]
                by_cases q2 : n' * k = m' * d
                · rw [if_pos q2, if_pos (by omega)]
                · rw [if_neg q2, if_neg (by omega)]
            rw [e5]

theorem f33_eq (n d m k : Int) (hd : 0 < d) (hk : 0 < k) (hd1 : d ≤ 1000000000) (hk1 : k ≤ 1000000000) (hn : n.natAbs ≤ 1000000000) (hm : m.natAbs ≤ 1000000000) : f33 (n, d, m, k, ()) = some (cq n d m k, ()) := by
  have e : l33_0 ((n, d, m, k, ()), ()) = some (.inr ((cq n d m k, ()), ())) := cmp_go (d.toNat + k.toNat) n d m k hd hk (Nat.le_refl _) hd1 hk1 hn hm rounds (lt_rounds (by omega))
  simp only [f33, t33, Tr.val_test, Tr.val_fin, Tr.val_stop, r33_0, e, endsRet, outR, if_true]

theorem low_one (a b : Int) (h : b ≠ 0) : Int.gcd (low a b).1 (low a b).2.1 = 1 := by
  have hg : 0 < Nat.gcd a.natAbs b.natAbs := Nat.gcd_pos_of_pos_right _ (by omega)
  unfold low Int.gcd
  simp only [Int.natAbs_tdiv, Int.natAbs_natCast]
  change Nat.gcd (a.natAbs / Nat.gcd a.natAbs b.natAbs) (b.natAbs / Nat.gcd a.natAbs b.natAbs) = 1
  rw [Nat.gcd_div (Nat.gcd_dvd_left _ _) (Nat.gcd_dvd_right _ _)]
  exact Nat.div_self hg

theorem f31_low (a b : Int) (ha : a.natAbs ≤ 1000000000) (hb : b.natAbs ≤ 1000000000) (h : 0 < b) : f31 (((low a b).1, (low a b).2.1, ()), ()) = some (true, ()) := by
  have h1 := tdiv_abs_le a (Int.gcd a b)
  have h2 := tdiv_abs_le b (Int.gcd a b)
  have h3 : 0 < (low a b).2.1 := low_pos h
  have e := f66_eq (low a b).1 (low a b).2.1 (by show (a.tdiv _).natAbs ≤ _; omega) (by show (b.tdiv _).natAbs ≤ _; omega)
  rw [low_one a b (by omega)] at e
  simp only [f31, t31, Tr.val_test, Tr.val_fin, Tr.val_stop, leF_eq, g66, e, Option.isSome_some, Option.getD_some, if_true, eqF_eq]
  rw [if_pos (by simp; exact h3)]
  rfl

theorem f32_low (a b : Int) (ha : a.natAbs ≤ 1000000000) (hb : b.natAbs ≤ 1000000000) (h : 0 < b) : f32 (((low a b).1, (low a b).2.1, ()), ()) = some (true, ()) := by
  have h1 := tdiv_abs_le a (Int.gcd a b)
  have h2 := tdiv_abs_le b (Int.gcd a b)
  have h3 : 0 < (low a b).2.1 := low_pos h
  have q1 : (low a b).1.natAbs ≤ 1000000000 := Nat.le_trans h1 ha
  have q2 : (low a b).2.1.natAbs ≤ 1000000000 := Nat.le_trans h2 hb
  have e1 : wi (-1000000000) 1000000000 (low a b).1 = true := wi_iff.2 (by omega)
  have e2 : wi 1 1000000000 (low a b).2.1 = true := wi_iff.2 (by omega)
  simp only [f32, t32, Tr.val_test, Tr.val_fin, Tr.val_stop, g30, f30_eq, e1, e2, Option.isSome_some, Option.getD_some, if_true]

def md (x m : Int) : Int := if Int.tmod x m < 0 then Int.tmod x m + m else Int.tmod x m

theorem md_range (x : Int) {m : Int} (h : 0 < m) : 0 ≤ md x m ∧ md x m < m := by
  have h1 := Int.tmod_lt_of_pos x h
  have h2 := Int.lt_tmod_of_pos x h
  unfold md
  split <;> omega

theorem f29_eq (x : Int) {m : Int} (h : 0 < m) (hm : m ≤ 1000000000) : f29 (x, m, ()) = some (md x m, ()) := by
  have h1 := Int.tmod_lt_of_pos x h
  have h2 := Int.lt_tmod_of_pos x h
  have n0 : (m == 0) = false := by simp; omega
  simp only [f29, t29, Tr.val_test, Tr.val_fin, Tr.val_stop, leF_eq, n0, Bool.false_eq_true, if_false, md]
  by_cases hn : Int.tmod x m < 0
  · have n1 : ¬ (0 ≤ Int.tmod x m) := by omega
    rw [wrap64_id (by omega) (by omega)]
    simp [hn, n1]
  · have n1 : 0 ≤ Int.tmod x m := by omega
    simp [hn, n1]

theorem f23_any (x : List Int) (off : Int) : f23 ((x, off, ()), ()) = some (dcE x off, ()) := by
  by_cases h : x.length ≤ 1000000000
  · exact f23_eq x off h
  · have h1 : ¬ (x.length : Int) = 0 := by omega
    have h2 : ¬ (x.length : Int) ≤ 60 := by omega
    simp only [f23, t23, Tr.val_test, Tr.val_fin, Tr.val_stop, leF_eq, eqF_eq, dcE, h1, h2, decide_false, Bool.not_false, Bool.false_eq_true, if_false, if_true]
    rw [if_neg (by omega), if_pos (by omega)]

/-- A true sample. -/
def ow (x : List Int) (off : Int) (e : List Int) (i : Nat) : Int := x.getD i 0 + md (e.getD (i % e.length) 0) (2 * off + 1) - off
def ows (x : List Int) (off : Int) (e : List Int) (n : Nat) : List Int := (List.range n).map (ow x off e)

theorem ows_len (x : List Int) (off : Int) (e : List Int) (n : Nat) : (ows x off e n).length = n := by simp [ows]
theorem ows_succ (x : List Int) (off : Int) (e : List Int) (n : Nat) : ows x off e (n + 1) = ows x off e n ++ [ow x off e n] := by simp [ows, List.range_succ]
theorem ows_get (x : List Int) (off : Int) (e : List Int) {n i : Nat} (h : i < n) : (ows x off e n).getD i 0 = ow x off e i := by simp [ows, List.getD, h]

theorem ow_near {x : List Int} {off : Int} (hd : Dc x off) (e : List Int) (i : Nat) : x.getD i 0 - off ≤ ow x off e i ∧ ow x off e i ≤ x.getD i 0 + off := by
  have h0 := hd.off0
  have := md_range (e.getD (i % e.length) 0) (m := 2 * off + 1) (by omega)
  unfold ow
  omega

def owB (x : List Int) (off : Int) (e : List Int) : Option Nat := first (fun i => !wi (-10000) 10000 (ow x off e i)) x.length 0

theorem q5_0 {x : List Int} {off : Int} (hd : Dc x off) (e : List Int) (he : 0 < e.length) (he2 : e.length ≤ 60) : l5_0 ((e, (0 : Int), ()), (x, off, ()), ([], (0 : Int), ()), ()) = match owB x off e with
    | some k => some (.inr ((true, ()), (x, off, ()), (ows x off e k, (0 : Int), ()), ()))
    | none => some (.inl ((), (x, off, ()), (ows x off e x.length, (0 : Int), ()), ())) := by
  have hX := hd.len
  have h01 := hd.off0
  have h02 := hd.off1
  refine itr_search (fun i => ((e, (i : Int), ()), (x, off, ()), (ows x off e i, (0 : Int), ()), ())) (fun i => !wi (-10000) 10000 (ow x off e i)) (fun k => ((true, ()), (x, off, ()), (ows x off e k, (0 : Int), ()), ())) (n := x.length) ?_ ?_ (lt_rounds (by omega))
  · intro i hi
    have hv := hd.val i hi
    have hn := ow_near hd e i
    unfold ow at hn
    have hm := md_range (e.getD (i % e.length) 0) (m := 2 * off + 1) (by omega)
    have ht : Int.tmod (i : Int) (e.length : Int) = ((i % e.length : Nat) : Int) := by rw [Int.tmod_eq_emod_of_nonneg (by omega)]; rfl
    have hlt : i % e.length < e.length := Nat.mod_lt _ he
    have w1 : wrap64 (wrap64 (2 * off) + 1) = 2 * off + 1 := by rw [wrap64_id (n := 2 * off) (by omega) (by omega), wrap64_id (by omega) (by omega)]
    have e1 := f29_eq (e.getD (i % e.length) 0) (m := 2 * off + 1) (by omega) (by omega)
    have w2 : wrap64 (x.getD i 0 + md (e.getD (i % e.length) 0) (2 * off + 1)) = x.getD i 0 + md (e.getD (i % e.length) 0) (2 * off + 1) := wrap64_id (by omega) (by omega)
    have w3 : wrap64 (x.getD i 0 + md (e.getD (i % e.length) 0) (2 * off + 1) - off) = ow x off e i := (wrap64_id (n := x.getD i 0 + md (e.getD (i % e.length) 0) (2 * off + 1) - off) (by omega) (by omega)).trans rfl
    simp only [s5_0, t5_0, Tr.val_test, Tr.val_fin, Tr.val_stop, leF_eq, Int.toNat_natCast, wrap64_nat (show i ≤ 9223372036854775806 by omega), ht, w1]
    rw [if_pos (by simp; omega), if_pos (by simp; omega), if_neg (by simp only [beq_iff_eq]; omega), if_pos (by simp only [Bool.and_eq_true, decide_eq_true_eq]; omega)]
    simp only [g29, e1, Option.isSome_some, Option.getD_some, if_true, w2, w3, g30, f30_eq, ows_len]
    cases hb : wi (-10000) 10000 (ow x off e i) with
    | false => simp
    | true =>
      simp only [Bool.not_true, Bool.false_eq_true, if_false]
      rw [if_pos (by simp only [Bool.and_eq_true, ble_eq_true']; omega), ows_succ]
  · simp [s5_0, t5_0, leF_eq]

theorem own_dc {x : List Int} {off : Int} (hd : Dc x off) {e : List Int} (h : owB x off e = none) : Dc (ows x off e x.length) 0 := by
  refine ⟨by rw [ows_len]; exact hd.pos, by rw [ows_len]; exact hd.len, fun i hi => ?_, by omega, by omega⟩
  rw [ows_len] at hi
  rw [ows_get x off e hi]
  have := first_none h i (Nat.zero_le _) (by omega)
  exact wi_iff.1 (by simpa using this)

/-- What is a crossing is found. -/
theorem crs_mem {x : List Int} {off : Int} {t k : Nat} (htk : t < k) (hk : k < x.length) (hl : lwB x off t = true) (hh : hgB x off k = true) (hkl : lwB x off k = false) (hb : ∀ j, t < j → j < k → lwB x off j = false ∧ hgB x off j = false) :
    ∀ n, t < n → ((t : Int), (k : Int), ()) ∈ crs x off n
  | 0, h => by omega
  | n + 1, h => by
    simp only [crs, List.mem_append]
    by_cases e : t = n
    · subst e
      right
      rw [cr, if_pos hl, crN, nx_at htk hk hb (by rw [hh]; simp)]
      simp only
      rw [show t + 1 + (k - (t + 1)) = k by omega, if_neg (by rw [hkl]; simp)]
      exact List.mem_singleton.2 rfl
    · exact .inl (crs_mem htk hk hl hh hkl hb n (by omega))

/-- The last place below, and the first one above behind it. -/
theorem cross_in (y : List Int) : ∀ (g t k : Nat), k - t ≤ g → t < k → lwB y 0 t = true → hgB y 0 k = true →
    ∃ a b, t ≤ a ∧ a < b ∧ b ≤ k ∧ lwB y 0 a = true ∧ hgB y 0 b = true ∧ ∀ j, a < j → j < b → lwB y 0 j = false ∧ hgB y 0 j = false
  | 0, t, k, hg, htk, _, _ => by omega
  | g + 1, t, k, hg, htk, hl, hh => by
    by_cases h1 : t + 1 = k
    · exact ⟨t, k, Nat.le_refl _, htk, Nat.le_refl _, hl, hh, fun j a b => by omega⟩
    · cases q : lwB y 0 (t + 1) with
      | true =>
        obtain ⟨a, b, p1, p2, p3, p4⟩ := cross_in y g (t + 1) k (by omega) (by omega) q hh
        exact ⟨a, b, by omega, p2, p3, p4⟩
      | false =>
        cases q2 : hgB y 0 (t + 1) with
        | true => exact ⟨t, t + 1, Nat.le_refl _, by omega, by omega, hl, q2, fun j a b => by omega⟩
        | false =>
          -- the first event behind t
          cases e : first (fun j => lwB y 0 (t + 1 + j) || hgB y 0 (t + 1 + j)) (k - (t + 1) + 1) 0 with
          | none =>
            have := first_none e (k - (t + 1)) (Nat.zero_le _) (by omega)
            rw [show t + 1 + (k - (t + 1)) = k by omega, hh] at this
            simp at this
          | some m =>
            obtain ⟨_, h2, h3, h4⟩ := first_some e
            have hno : ∀ j, t < j → j < t + 1 + m → lwB y 0 j = false ∧ hgB y 0 j = false := fun j a b => by
              have := h4 (j - (t + 1)) (Nat.zero_le _) (by omega)
              rw [show t + 1 + (j - (t + 1)) = j by omega] at this
              simpa using this
            cases q3 : lwB y 0 (t + 1 + m) with
            | true =>
              have hm0 : m ≠ 0 := fun e0 => by subst e0; rw [Nat.add_zero, q] at q3; cases q3
              have hlt : t + 1 + m < k := by
                rcases Nat.lt_or_ge (t + 1 + m) k with h | h
                · exact h
                · have : t + 1 + m = k := by omega
                  rw [this] at q3
                  simp only [lwB, hgB, decide_eq_true_eq] at q3 hh
                  omega
              obtain ⟨a, b, p1, p2, p3, p4⟩ := cross_in y g (t + 1 + m) k (by omega) hlt q3 hh
              exact ⟨a, b, by omega, p2, p3, p4⟩
            | false =>
              have : hgB y 0 (t + 1 + m) = true := by simpa [q3] using h3
              exact ⟨t, t + 1 + m, Nat.le_refl _, by omega, by omega, hl, this, hno⟩

def fnd (C D : List Rg) (i : Nat) : Option Nat := first (fun k => decide ((rAt C i).1 ≤ (rAt D k).1) && decide ((rAt D k).2.1 ≤ (rAt C i).2.1)) D.length 0

theorem fnd_some {x : List Int} {off : Int} (hd : Dc x off) {e : List Int} (h : owB x off e = none) {i : Nat} (hi : i < (crs x off x.length).length) : ∃ k, fnd (crs x off x.length) (crs (ows x off e x.length) 0 x.length) i = some k := by
  have ho := own_dc hd h
  obtain ⟨⟨t, k, er, htk, hk, hl, hh, _⟩, _⟩ := (crs_inv hd x.length).1 i hi
  have n1 := ow_near hd e t
  have n2 := ow_near hd e k
  have l1 : lwB (ows x off e x.length) 0 t = true := by
    simp only [lwB, decide_eq_true_eq] at hl ⊢
    rw [ows_get x off e (by omega)]; omega
  have l2 : hgB (ows x off e x.length) 0 k = true := by
    simp only [hgB, decide_eq_true_eq] at hh ⊢
    rw [ows_get x off e (by omega)]; omega
  obtain ⟨a, b, p1, p2, p3, p4, p5, p6⟩ := cross_in (ows x off e x.length) (k - t) t k (Nat.le_refl _) htk l1 l2
  have hbl : lwB (ows x off e x.length) 0 b = false := by
    simp only [lwB, hgB, decide_eq_true_eq, decide_eq_false_iff_not] at p5 ⊢; omega
  have hm := crs_mem p2 (by rw [ows_len]; omega) p4 p5 hbl p6 x.length (by omega)
  obtain ⟨q, hq, eq⟩ := mem_rAt hm
  cases ef : fnd (crs x off x.length) (crs (ows x off e x.length) 0 x.length) i with
  | some k' => exact ⟨k', rfl⟩
  | none =>
    exfalso
    have := first_none ef q (Nat.zero_le _) (by omega)
    rw [eq, er] at this
    simp only [Bool.and_eq_false_iff, decide_eq_false_iff_not] at this
    rcases this with h | h
    · exact h (by show (t : Int) ≤ (a : Int); omega)
    · exact h (by show (b : Int) ≤ (k : Int); omega)

def ins (C D : List Rg) (n : Nat) : List Rg := (List.range n).map fun i => rAt D ((fnd C D i).getD 0)

theorem ins_len (C D : List Rg) (n : Nat) : (ins C D n).length = n := by simp [ins]
theorem ins_succ (C D : List Rg) (n : Nat) : ins C D (n + 1) = ins C D n ++ [rAt D ((fnd C D n).getD 0)] := by simp [ins, List.range_succ]
theorem ins_get (C D : List Rg) {n i : Nat} (h : i < n) : rAt (ins C D n) i = rAt D ((fnd C D i).getD 0) := by simp [ins, rAt, List.getD, h]

abbrev Dt := List Int × Int × PUnit.{1}

theorem q5_4 (C D S I : List Rg) (hD : D.length ≤ 1000) (hI : I.length ≤ 1000) (X Y : Dt) {i : Nat} (hi : i < C.length) {k : Nat} (hf : fnd C D i = some k) :
    l5_4 ((C, D, S, I, (i : Int), false, (0 : Int), ()), (X.1, X.2.1, ()), (Y.1, Y.2.1, ()), ()) = some (.inl ((C, D, S, I ++ [rAt D k], (i : Int), true, ()), (X.1, X.2.1, ()), (Y.1, Y.2.1, ()), ())) := by
  obtain ⟨_, h2, h3, h4⟩ := first_some hf
  have := itr_brk (step := s5_4) (fun j => ((C, D, S, if j ≤ k then I else I ++ [rAt D k], (i : Int), decide (k < j), (j : Int), ()), (X.1, X.2.1, ()), (Y.1, Y.2.1, ()), ())) (n := k + 1) (m := rounds) (b := ((C, D, S, I ++ [rAt D k], (i : Int), true, ()), (X.1, X.2.1, ()), (Y.1, Y.2.1, ()), ())) ?_ ?_ (lt_rounds (by omega))
  · rw [l5_4]; simpa using this
  · intro j hj
    simp only [s5_4, t5_4, Tr.val_test, Tr.val_fin, Tr.val_stop, leF_eq, Int.toNat_natCast, wrap64_nat (show j ≤ 9223372036854775806 by omega)]
    rw [if_pos (by simp; omega), if_pos (by simp; omega), if_pos (by simp; omega), if_pos (by simp; omega)]
    rw [if_pos (show j ≤ k by omega)]
    have hdk : decide (k < j) = false := by simp; omega
    rw [hdk]
    by_cases e : j = k
    · subst e
      simp only [Bool.and_eq_true, decide_eq_true_eq, rAt] at h3
      split
      · split
        · rw [if_pos (by simp only [Bool.and_eq_true, ble_eq_true']; omega), if_neg (show ¬ j + 1 ≤ j by omega)]
          have : decide (j < j + 1) = true := by simp
          rw [this]
          rfl
        · rename_i hx; exact absurd h3.2 hx
      · rename_i hx; exact absurd h3.1 hx
    · have hb := h4 j (Nat.zero_le _) (by omega)
      rw [Bool.and_eq_false_iff] at hb
      simp only [rAt] at hb
      have hd1 : decide (k < j + 1) = false := by simp; omega
      rw [if_pos (show j + 1 ≤ k by omega), hd1]
      rcases hb with hb | hb
      · split
        · rename_i hx; exact absurd (hx.symm.trans hb) (by simp)
        · rfl
      · split
        · split
          · rename_i hx; exact absurd (hx.symm.trans hb) (by simp)
          · rfl
        · rfl
  · have hd1 : decide (k < k + 1) = true := by simp
    simp only [s5_4, t5_4, Tr.val_test, Tr.val_fin, Tr.val_stop, leF_eq, hd1, if_neg (show ¬ k + 1 ≤ k by omega), Bool.not_true, Bool.false_eq_true, if_false]
    split <;> rfl

theorem q5_2 {x : List Int} {off : Int} {C D S : List Rg} (hX : x.length ≤ 60) (hc : Cs x off C) (hD : D.length ≤ 1000) (Y : Dt) (hf : ∀ i, i < C.length → ∃ k, fnd C D i = some k) :
    l5_2 ((C, D, S, [], (0 : Int), ()), (x, off, ()), (Y.1, Y.2.1, ()), ()) = some (.inl ((C, S, ins C D C.length, ()), (x, off, ()), (Y.1, Y.2.1, ()), ())) := by
  have hC := hc.len
  refine itr_brk (fun i => ((C, D, S, ins C D i, (i : Int), ()), (x, off, ()), (Y.1, Y.2.1, ()), ())) (n := C.length) ?_ ?_ (lt_rounds (by omega))
  · intro i hi
    obtain ⟨k, hk⟩ := hf i hi
    have a1 := hc.lo i hi
    have a2 := hc.hi i hi
    have a3 := hc.lt i hi
    have a4 := hc.top i hi
    have e1 := q5_4 C D S (ins C D i) hD (by rw [ins_len]; omega) (x, off, ()) Y hi hk
    simp only at e1
    have w1 : wrap64 ((hiN C i : Int) - 1) = (hiN C i : Int) - 1 := wrap64_id (by omega) (by omega)
    have e2 : wi 0 ((hiN C i : Int) - 1) (loN C i : Int) = true := wi_iff.2 (by omega)
    simp only [rAt] at a1 a2
    simp only [s5_2, t5_2, Tr.val_test, Tr.val_fin, Tr.val_stop, leF_eq, Int.toNat_natCast, wrap64_nat (show i ≤ 9223372036854775806 by omega), a1, a2, w1, g30, f30_eq, e2, Option.isSome_some, Option.getD_some, if_true, Bool.not_true, Bool.false_eq_true, if_false]
    rw [if_pos (by simp; omega), if_pos (by simp; omega), if_neg (by simp; omega)]
    have fin : (if isBrk (l5_4 ((C, D, S, ins C D i, (i : Int), false, (0 : Int), ()), (x, off, ()), (Y.1, Y.2.1, ()), ())) = true then
        (if (!(b5_4 ((C, D, S, ins C D i, (i : Int), false, (0 : Int), ()), (x, off, ()), (Y.1, Y.2.1, ()), ())).1.2.2.2.2.2.1) = true then
          some (Out.ret ((false, ()), ((b5_4 ((C, D, S, ins C D i, (i : Int), false, (0 : Int), ()), (x, off, ()), (Y.1, Y.2.1, ()), ())).2.1.1, (b5_4 ((C, D, S, ins C D i, (i : Int), false, (0 : Int), ()), (x, off, ()), (Y.1, Y.2.1, ()), ())).2.1.2.1, ()), ((b5_4 ((C, D, S, ins C D i, (i : Int), false, (0 : Int), ()), (x, off, ()), (Y.1, Y.2.1, ()), ())).2.2.1.1, (b5_4 ((C, D, S, ins C D i, (i : Int), false, (0 : Int), ()), (x, off, ()), (Y.1, Y.2.1, ()), ())).2.2.1.2.1, ()), ()))
        else some (Out.again (((b5_4 ((C, D, S, ins C D i, (i : Int), false, (0 : Int), ()), (x, off, ()), (Y.1, Y.2.1, ()), ())).1.1, (b5_4 ((C, D, S, ins C D i, (i : Int), false, (0 : Int), ()), (x, off, ()), (Y.1, Y.2.1, ()), ())).1.2.1, (b5_4 ((C, D, S, ins C D i, (i : Int), false, (0 : Int), ()), (x, off, ()), (Y.1, Y.2.1, ()), ())).1.2.2.1, (b5_4 ((C, D, S, ins C D i, (i : Int), false, (0 : Int), ()), (x, off, ()), (Y.1, Y.2.1, ()), ())).1.2.2.2.1, wrap64 ((b5_4 ((C, D, S, ins C D i, (i : Int), false, (0 : Int), ()), (x, off, ()), (Y.1, Y.2.1, ()), ())).1.2.2.2.2.1 + 1), ()), ((b5_4 ((C, D, S, ins C D i, (i : Int), false, (0 : Int), ()), (x, off, ()), (Y.1, Y.2.1, ()), ())).2.1.1, (b5_4 ((C, D, S, ins C D i, (i : Int), false, (0 : Int), ()), (x, off, ()), (Y.1, Y.2.1, ()), ())).2.1.2.1, ()), ((b5_4 ((C, D, S, ins C D i, (i : Int), false, (0 : Int), ()), (x, off, ()), (Y.1, Y.2.1, ()), ())).2.2.1.1, (b5_4 ((C, D, S, ins C D i, (i : Int), false, (0 : Int), ()), (x, off, ()), (Y.1, Y.2.1, ()), ())).2.2.1.2.1, ()), ()) : Out sh5_2.data shb5_2.data shr5_2.data))
        else none) = some (Out.again ((C, D, S, ins C D (i + 1), ((i + 1 : Nat) : Int), ()), (x, off, ()), (Y.1, Y.2.1, ()), ())) := by
      have hk' : (fnd C D i).getD 0 = k := by rw [hk]; rfl
      simp only [b5_4, e1, isBrk, outB, if_true, Bool.not_true, Bool.false_eq_true, if_false, wrap64_nat (show i ≤ 9223372036854775806 by omega), ins_succ, hk']
    by_cases h0 : i = 0
    · rw [if_neg (by simp; omega)]
      exact fin
    · have w2 : wrap64 ((i : Int) - 1) = ((i - 1 : Nat) : Int) := by rw [wrap64_id (by omega) (by omega)]; omega
      have a5 := hc.next (i - 1) (by omega)
      have a6 := hc.hi (i - 1) (by omega)
      rw [show i - 1 + 1 = i by omega] at a5
      simp only [rAt] at a6
      rw [if_pos (by simp; omega), if_pos (by rw [w2]; simp; omega)]
      simp only [w2, Int.toNat_natCast, a6]
      rw [if_neg (by simp; omega)]
      exact fin
  · simp [s5_2, t5_2, leF_eq]

theorem mxs_near {x y : List Int} {off : Int} (h : ∀ i, i < x.length → x.getD i 0 - off ≤ y.getD i 0 ∧ y.getD i 0 ≤ x.getD i 0 + off) (s : Nat) : ∀ n, s + n < x.length → mxs x s n - off ≤ mxs y s n ∧ mxs y s n ≤ mxs x s n + off
  | 0, hn => h s hn
  | n + 1, hn => by
    have h1 := mxs_near h s n (by omega)
    have h2 := h (s + (n + 1)) hn
    simp only [mxs, mx]
    split <;> split <;> omega

theorem q5_8 {x y : List Int} {off : Int} {C S I : List Rg} (hc : Cs x off C) (hX : x.length ≤ 60) (hy : y.length = x.length) {i : Nat} (hi : i + 1 < C.length) (z : Int) : l5_8 ((C, S, I, (i : Int), y.getD (hiN C i) 0, (hiN C i : Int), ()), (x, off, ()), (y, z, ()), ()) = some (.inl ((C, S, I, (i : Int), mxs y (hiN C i) (loN C (i + 1) - hiN C i), ()), (x, off, ()), (y, z, ()), ())) := by
  have hC := hc.len
  have a1 := hc.next i hi
  have a2 := hc.lt (i + 1) hi
  have a3 := hc.top (i + 1) hi
  have a5 := hc.lo (i + 1) hi
  have wi1 : wrap64 ((i : Int) + 1) = ((i + 1 : Nat) : Int) := wrap64_nat (by omega)
  simp only [rAt] at a5
  have := itr_brk (step := s5_8) (fun j => ((C, S, I, (i : Int), if j = 0 then y.getD (hiN C i) 0 else mxs y (hiN C i) (j - 1), ((hiN C i + j : Nat) : Int), ()), (x, off, ()), (y, z, ()), ())) (n := loN C (i + 1) - hiN C i + 1) (m := rounds) (b := ((C, S, I, (i : Int), mxs y (hiN C i) (loN C (i + 1) - hiN C i), ()), (x, off, ()), (y, z, ()), ())) ?_ ?_ (lt_rounds (by omega))
  · exact this
  · intro j hj
    have hw : wrap64 (((hiN C i + j : Nat) : Int) + 1) = ((hiN C i + (j + 1) : Nat) : Int) := wrap64_nat (by omega)
    simp only [s5_8, t5_8, Tr.val_test, Tr.val_fin, Tr.val_stop, leF_eq, Int.toNat_natCast, hw, wi1, a5]
    rw [if_pos (by simp; omega), if_pos (by simp; omega), if_pos (by simp; omega)]
    rw [if_neg (show ¬ j + 1 = 0 by omega), show j + 1 - 1 = j from rfl]
    change some (Out.again ((C, S, I, (i : Int), mx (if j = 0 then y.getD (hiN C i) 0 else mxs y (hiN C i) (j - 1)) (y.getD (hiN C i + j) 0), _, ()), (x, off, ()), (y, z, ()), ())) = _
    cases j with
    | zero => simp only [if_true, Nat.add_zero, mx_self, mxs]
    | succ j => simp only [if_neg (show ¬ j + 1 = 0 by omega), Nat.add_sub_cancel, mxs]
  · rw [if_neg (show ¬ loN C (i + 1) - hiN C i + 1 = 0 by omega), show loN C (i + 1) - hiN C i + 1 - 1 = loN C (i + 1) - hiN C i from rfl]
    simp only [s5_8, t5_8, Tr.val_test, Tr.val_fin, Tr.val_stop, leF_eq, Int.toNat_natCast, wi1, a5]
    rw [if_pos (by simp; omega), if_neg (by simp; omega)]

theorem q5_6 {x y : List Int} {off : Int} {C I : List Rg} (hd : Dc x off) (hc : Cs x off C) (hy : y.length = x.length) (hn : ∀ i, i < x.length → x.getD i 0 - off ≤ y.getD i 0 ∧ y.getD i 0 ≤ x.getD i 0 + off) (z : Int) :
    l5_6 ((C, sws x off C (C.length - 1), I, (0 : Int), ()), (x, off, ()), (y, z, ()), ()) = some (.inl ((C, I, ()), (x, off, ()), (y, z, ()), ())) := by
  have hC := hc.len
  have hX := hd.len
  refine itr_brk (fun i => ((C, sws x off C (C.length - 1), I, (i : Int), ()), (x, off, ()), (y, z, ()), ())) (n := C.length - 1) ?_ ?_ (lt_rounds (by omega))
  · intro i hi
    have a1 := hc.next i (by omega)
    have a2 := hc.lt (i + 1) (by omega)
    have a3 := hc.top (i + 1) (by omega)
    have a4 := hc.hi i (by omega)
    have e1 := @q5_8 x y off C (sws x off C (C.length - 1)) I hc hX hy i (by omega) z
    have e2 := mxs_near hn (hiN C i) (loN C (i + 1) - hiN C i) (by omega)
    have e3 := sws_get x off C (n := C.length - 1) (i := i) hi
    simp only [rAt] at a4 e3
    simp only [s5_6, t5_6, Tr.val_test, Tr.val_fin, Tr.val_stop, leF_eq, Int.toNat_natCast, a4, sws_len]
    rw [if_pos (by simp; omega), if_pos (by simp; omega), if_pos (by simp; omega)]
    simp only [b5_8, e1, isBrk, outB, if_true, sws_len, Int.toNat_natCast, e3, sw, g30, f30_eq, Option.isSome_some, Option.getD_some]
    rw [if_pos (by simp; omega)]
    have e4 : wi (mxs x (hiN C i) (loN C (i + 1) - hiN C i) - off) (mxs x (hiN C i) (loN C (i + 1) - hiN C i) + off) (mxs y (hiN C i) (loN C (i + 1) - hiN C i)) = true := wi_iff.2 e2
    simp only [e4, Bool.not_true, Bool.false_eq_true, if_false, wrap64_nat (show i ≤ 9223372036854775806 by omega)]
  · simp only [s5_6, t5_6, Tr.val_test, Tr.val_fin, Tr.val_stop, leF_eq, sws_len]
    rw [if_neg (by simp)]

theorem cq_ge {n d m k : Int} (h : m * d ≤ n * k) : 0 ≤ cq n d m k := by
  unfold cq
  rw [if_neg (by omega)]
  split <;> omega

theorem cq_le {n d m k : Int} (h : n * k ≤ m * d) : cq n d m k ≤ 0 := by
  unfold cq
  split
  · omega
  · rw [if_pos (by omega)]; omega

theorem cq_low_ge {u v n : Int} (h : v ≤ u) (hn : 0 < n) : 0 ≤ cq u n (low v n).1 (low v n).2.1 := by
  refine cq_ge ?_
  have e : (low v n).1 * n = v * (low v n).2.1 := low_cross v n
  rw [e]
  exact Int.mul_le_mul_of_nonneg_right h (Int.le_of_lt (low_pos hn))

theorem cq_low_le {u v n : Int} (h : u ≤ v) (hn : 0 < n) : cq u n (low v n).1 (low v n).2.1 ≤ 0 := by
  refine cq_le ?_
  have e : (low v n).1 * n = v * (low v n).2.1 := low_cross v n
  rw [e]
  exact Int.mul_le_mul_of_nonneg_right h (Int.le_of_lt (low_pos hn))

theorem low_small (a b : Int) : (low a b).1.natAbs ≤ a.natAbs ∧ (low a b).2.1.natAbs ≤ b.natAbs := ⟨tdiv_abs_le a _, tdiv_abs_le b _⟩

theorem f33_low (u a n : Int) (hn : 0 < n) (hn1 : n ≤ 1000000000) (hu : u.natAbs ≤ 1000000000) (ha : a.natAbs ≤ 1000000000) : f33 (u, n, (low a n).1, (low a n).2.1, ()) = some (cq u n (low a n).1 (low a n).2.1, ()) := by
  have l := low_small a n
  have p : 0 < (low a n).2.1 := low_pos hn
  generalize (low a n).1 = v at *
  generalize (low a n).2.1 = w at *
  exact f33_eq u n v w hn p hn1 (by omega) hu (by omega)

/-- Crossings found inside. -/
theorem ins_in {C D : List Rg} {i : Nat} (hi : i < C.length) {k : Nat} (hf : fnd C D i = some k) : rAt (ins C D C.length) i = rAt D k ∧ k < D.length ∧ (rAt C i).1 ≤ (rAt D k).1 ∧ (rAt D k).2.1 ≤ (rAt C i).2.1 := by
  obtain ⟨_, h2, h3, _⟩ := first_some hf
  simp only [Bool.and_eq_true, decide_eq_true_eq] at h3
  exact ⟨by rw [ins_get C D hi, hf]; rfl, by omega, h3.1, h3.2⟩

theorem f5_eq (x : List Int) (off : Int) (e : List Int) : f5 ((x, off, ()), e, ()) = some (true, ()) := by
  have c0 := f23_any x off
  simp only [f5, t5, Tr.val_test, Tr.val_fin, Tr.val_stop, g23, c0, Option.isSome_some, Option.getD_some, if_true, eqF_eq, leF_eq]
  by_cases h0 : dcE x off = 0
  rotate_left
  · simp [h0]
  by_cases he : e.length = 0
  · simp [h0, he]
  by_cases he2 : e.length ≤ 60
  rotate_left
  · have : ¬ (e.length : Int) = 0 := by omega
    have : ¬ (e.length : Int) ≤ 60 := by omega
    simp only [*, decide_true, decide_false, Bool.not_true, Bool.not_false, Bool.false_eq_true, if_true, if_false]
  have i1 : ¬ (e.length : Int) = 0 := by omega
  have i2 : (e.length : Int) ≤ 60 := by omega
  have hd := Dc.of h0
  have c1 := q5_0 hd e (by omega) he2
  simp only [h0, i1, i2, decide_true, decide_false, Bool.not_true, Bool.false_eq_true, if_false]
  cases hb : owB x off e with
  | some k =>
    rw [hb] at c1
    simp only [c1, r5_0, isRet, outR, Option.isSome_some, if_true]
  | none =>
    rw [hb] at c1
    have ho := own_dc hd hb
    have hX := hd.len
    have hP := hd.pos
    have c2 := f19_eq x off (by omega)
    have c3 := f18_eq x off (by omega)
    have c4 := f19_eq (ows x off e x.length) 0 (by rw [ows_len]; omega)
    have c5 := f18_eq (ows x off e x.length) 0 (by rw [ows_len]; omega)
    have c6 := f21_eq x off (by omega)
    have ho0 : dcE (ows x off e x.length) 0 = 0 := by
      have w1 : wi 0 10000 0 = true := wi_iff.2 (by omega)
      have w2 : first (fun i => !wi (-10000) 10000 ((ows x off e x.length).getD i 0)) x.length 0 = none := first_of_none fun j _ hj => by
        have := ho.val j (by rw [ows_len]; omega)
        rw [wi_iff.2 this]; rfl
      simp only [dcE, ows_len, w1, w2, if_neg (show ¬ x.length = 0 by omega), if_neg (show ¬ 60 < x.length by omega), Option.isSome_none, Bool.false_eq_true, if_false, Bool.true_eq_false]
    simp only [ho0, h0, ne_eq, not_true_eq_false, if_false, ows_len] at c3 c5 c6
    have hfn : ∀ i, i < (crs x off x.length).length → ∃ k, fnd (crs x off x.length) (crs (ows x off e x.length) 0 x.length) i = some k := fun i hi => fnd_some hd hb hi
    have hcs := crs_cs hd
    have hDl : (crs (ows x off e x.length) 0 x.length).length ≤ 60 := by have := crs_len (ows x off e x.length) 0 x.length; omega
    have hcsD : Cs (ows x off e x.length) 0 (crs (ows x off e x.length) 0 x.length) := by have := crs_cs ho; rw [ows_len] at this; exact this
    have c7 := q5_2 (S := sws x off (crs x off x.length) ((crs x off x.length).length - 1)) hX hcs (by omega) (ows x off e x.length, (0 : Int), ()) hfn
    have c8 := q5_6 (I := ins (crs x off x.length) (crs (ows x off e x.length) 0 x.length) (crs x off x.length).length) hd hcs (ows_len x off e x.length) (fun i hi => by rw [ows_get x off e hi]; exact ow_near hd e i) 0
    have c9 := f20_eq x off (by omega)
    simp only [h0, ne_eq, not_true_eq_false, if_false] at c9
    have hsl := sws_len x off (crs x off x.length) ((crs x off x.length).length - 1)
    have hsm := fun i => @Cs.small x off hd _ hcs i
    have hsD := fun i => @Cs.small (ows x off e x.length) 0 ho _ hcsD i
    have hil := ins_len (crs x off x.length) (crs (ows x off e x.length) 0 x.length) (crs x off x.length).length
    have hin := fun i (hi : i < (crs x off x.length).length) => hfn i hi
    have hins : ∀ i, i < (crs x off x.length).length → ∃ k, rAt (ins (crs x off x.length) (crs (ows x off e x.length) 0 x.length) (crs x off x.length).length) i = rAt (crs (ows x off e x.length) 0 x.length) k ∧ k < (crs (ows x off e x.length) 0 x.length).length ∧ (rAt (crs x off x.length) i).1 ≤ (rAt (crs (ows x off e x.length) 0 x.length) k).1 ∧ (rAt (crs (ows x off e x.length) 0 x.length) k).2.1 ≤ (rAt (crs x off x.length) i).2.1 := fun i hi => by
      obtain ⟨k, hk⟩ := hfn i hi
      exact ⟨k, ins_in hi hk⟩
    have hcl := hcs.len
    simp only at c7 c8
    simp only [c1, b5_0, r5_0, isRet, outB, Option.isSome_some, if_true, Bool.false_eq_true, if_false, g19, c2, c4, Option.getD_some, g18, c3, c5, g21, c6, decide_true, Bool.not_true, hsl]
    have hw1 : wrap64 (((crs x off x.length).length : Int) - 1) = ((crs x off x.length).length : Int) - 1 := wrap64_id (by omega) (by omega)
    rw [if_neg (by
      rw [hw1]
      by_cases hz : 0 < ((crs x off x.length).length : Int) - 1
      · rw [if_pos hz]; simp; omega
      · rw [if_neg hz]; simp; omega)]
    simp only [c7, b5_2, isRet, outB, Option.isSome_some, if_true, Bool.false_eq_true, if_false, c8, b5_6, hil]
    generalize sws x off (crs x off x.length) ((crs x off x.length).length - 1) = S at *
    generalize ins (crs x off x.length) (crs (ows x off e x.length) 0 x.length) (crs x off x.length).length = I at *
    generalize crs (ows x off e x.length) 0 x.length = D at *
    generalize crs x off x.length = C at *
    by_cases h2 : C.length < 2
    · rw [if_pos (by simp; omega)]
    · rw [if_neg (by simp; omega)]
      simp only [h2, if_false] at c9
      have s0 := hsm 0 (by omega)
      have s1 := hsm (C.length - 1) (by omega)
      obtain ⟨k0, a0, a1, a2, a3⟩ := hins 0 (by omega)
      obtain ⟨k1, b0, b1, b2, b3⟩ := hins (C.length - 1) (by omega)
      have d0 := hsD k0 a1
      have d1 := hsD k1 b1
      have d2 := f31_low ((rAt C (C.length - 1)).1 - (rAt C 0).2.1) ((C.length : Int) - 1) (by omega) (by omega) (by omega)
      have d3 := f31_low ((rAt C (C.length - 1)).2.1 - (rAt C 0).1) ((C.length : Int) - 1) (by omega) (by omega) (by omega)
      have d4 := f32_low ((rAt C (C.length - 1)).1 - (rAt C 0).2.1) ((C.length : Int) - 1) (by omega) (by omega) (by omega)
      have d5 := f32_low ((rAt C (C.length - 1)).2.1 - (rAt C 0).1) ((C.length : Int) - 1) (by omega) (by omega) (by omega)
      have iw : IntKind.wrap .i64 ((C.length : Int) - 1) = (C.length : Int) - 1 := wrapI_id (by omega) (by omega)
      have it : ((C.length : Int) - 1).toNat = C.length - 1 := by omega
      rw [← b0] at d1 b2 b3
      rw [← a0] at d0 a2 a3
      have w1 : wrap64 ((rAt I (C.length - 1)).1 - (rAt I 0).2.1) = (rAt I (C.length - 1)).1 - (rAt I 0).2.1 := wrap64_id (by omega) (by omega)
      have w2 : wrap64 ((rAt I (C.length - 1)).2.1 - (rAt I 0).1) = (rAt I (C.length - 1)).2.1 - (rAt I 0).1 := wrap64_id (by omega) (by omega)
      have k1' := f33_low ((rAt I (C.length - 1)).1 - (rAt I 0).2.1) ((rAt C (C.length - 1)).1 - (rAt C 0).2.1) ((C.length : Int) - 1) (by omega) (by omega) (by omega) (by omega)
      have k2' := f33_low ((rAt I (C.length - 1)).2.1 - (rAt I 0).1) ((rAt C (C.length - 1)).2.1 - (rAt C 0).1) ((C.length : Int) - 1) (by omega) (by omega) (by omega) (by omega)
      have m1 : 0 ≤ cq ((rAt I (C.length - 1)).1 - (rAt I 0).2.1) ((C.length : Int) - 1) (low ((rAt C (C.length - 1)).1 - (rAt C 0).2.1) ((C.length : Int) - 1)).1 (low ((rAt C (C.length - 1)).1 - (rAt C 0).2.1) ((C.length : Int) - 1)).2.1 := cq_low_ge (by omega) (by omega)
      have m2 : cq ((rAt I (C.length - 1)).2.1 - (rAt I 0).1) ((C.length : Int) - 1) (low ((rAt C (C.length - 1)).2.1 - (rAt C 0).1) ((C.length : Int) - 1)).1 (low ((rAt C (C.length - 1)).2.1 - (rAt C 0).1) ((C.length : Int) - 1)).2.1 ≤ 0 := cq_low_le (by omega) (by omega)
      have u1 : rAt I (C.length - 1) = List.getD I (C.length - 1) ((0 : Int), (0 : Int), ()) := rfl
      have u0 : rAt I 0 = List.getD I 0 ((0 : Int), (0 : Int), ()) := rfl
      simp only [u1, u0] at w1 w2 m1 m2 k1' k2'
      simp only [g19, c2, g20, c9, Option.isSome_some, Option.getD_some, if_true, decide_true, Bool.not_true, Bool.false_eq_true, if_false, perOf, g31, g32, d2, d3, d4, d5, iw, it, hil]
      rw [if_pos (by simp; omega), if_pos (by simp; omega)]
      simp only [w1, w2, g33, k1', k2', Option.isSome_some, Option.getD_some, if_true, m1, m2, decide_true]

theorem law5 (d : Tys.data as5) : Pure1 Go.Proofs.Try.prog 5 as5 [.bool] d (true, ()) := by
  have h := f5_eq d.1.1 d.1.2.1 d.2.1
  have hp : p5.pre d = true := by
    show Option.isSome (f5 d) = true
    rw [show f5 d = some (true, ()) from h]; rfl
  have hg : p5.fn d = (true, ()) := by
    show (f5 d).getD _ = _
    rw [show f5 d = some (true, ()) from h]; rfl
  have := ok5.runs d hp
  rw [hg] at this
  exact this

end Go.Vm.Mo
