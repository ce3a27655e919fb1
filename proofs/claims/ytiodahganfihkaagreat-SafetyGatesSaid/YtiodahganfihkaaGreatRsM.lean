import Derived.Test.YtiodahganfihkaaGreatRsFd
import Derived.Test.YtiodahganfihkaaGreatA5
set_option linter.unusedVariables false
set_option linter.unusedSimpArgs false

namespace Go.Vm.Mo
open Go
set_option linter.unusedVariables false
set_option linter.unusedSimpArgs false

theorem dT {p : Prop} [Decidable p] (h : p) : decide p = true := decide_eq_true h
theorem dF {p : Prop} [Decidable p] (h : ¬ p) : decide p = false := decide_eq_false h
theorem nT {p : Prop} [Decidable p] (h : ¬ p) : (!decide p) = true := by rw [decide_eq_false h]; rfl
theorem nF {p : Prop} [Decidable p] (h : p) : (!decide p) = false := by rw [decide_eq_true h]; rfl
theorem dA {p q : Prop} [Decidable p] [Decidable q] (h : p) (k : q) : (decide p && decide q) = true := by rw [decide_eq_true h, decide_eq_true k]; rfl

theorem first_map (bad : Nat → Bool) : ∀ (n i : Nat), first bad n (i + 1) = (first (fun k => bad (k + 1)) n i).map (· + 1)
  | 0, _ => rfl
  | n + 1, i => by
    simp only [first]
    split
    · rfl
    · exact first_map bad n (i + 1)

def firstNZ : List Int → Int
  | [] => 0
  | a :: l => if a = 0 then firstNZ l else a

theorem firstNZ_eq : ∀ l : List Int, (match first (fun i => !decide (l.getD i 0 = 0)) l.length 0 with
    | some k => l.getD k 0
    | none => 0) = firstNZ l
  | [] => rfl
  | a :: l => by
    simp only [List.length, first, firstNZ]
    by_cases ha : a = 0
    · subst ha
      have e := firstNZ_eq l
      have hf : first (fun i => !decide (((0 : Int) :: l).getD i 0 = 0)) l.length (0 + 1) = (first (fun i => !decide (l.getD i 0 = 0)) l.length 0).map (· + 1) := by
        rw [first_map]; rfl
      simp only [hf, List.getD_cons_zero, decide_true, Bool.not_true, Bool.false_eq_true, if_false, if_true]
      rw [← e]
      cases first (fun i => !decide (l.getD i 0 = 0)) l.length 0 with
      | none => rfl
      | some k => rfl
    · simp [ha]

theorem l79 (l : List Int) (h : l.length ≤ 1000000000) : l79_0 ((l, (l.length : Int), (0 : Int), ()), ()) = match first (fun i => !decide (l.getD i 0 = 0)) l.length 0 with
    | some k => some (.inr ((l.getD k 0, ()), ()))
    | none => some (.inl ((), ())) := by
  refine itr_search (fun i => ((l, (l.length : Int), (i : Int), ()), ())) (fun i => !decide (l.getD i 0 = 0)) (fun k => ((l.getD k 0, ()), ())) (n := l.length) ?_ ?_ (lt_rounds (by omega))
  · intro i hi
    simp only [s79_0, t79_0, Tr.val_test, leF_eq, eqF_eq]
    rw [if_pos (by simp; omega), if_pos (by simp; omega)]
    simp only [Int.toNat_natCast, wrap64_nat (show i ≤ 9223372036854775806 by omega)]
    rfl
  · simp [s79_0, t79_0, leF_eq]

theorem f79_eq (l : List Int) (h : l.length ≤ 1000000000) : f79 (l, ()) = some (firstNZ l, ()) := by
  simp only [f79, t79, Tr.val_test, r79_0, l79 l h, ← firstNZ_eq l]
  cases first (fun i => !decide (l.getD i 0 = 0)) l.length 0 with
  | none => rfl
  | some k => rfl

theorem f80_eq (d : Tys.data as80) : f80 d = some (if d.1 = true then d.2.1 else (0 : Int), ()) := by
  simp only [f80, t80, Tr.val_test]
  split <;> rfl

def wi (lo hi x : Int) : Bool := decide (lo ≤ x) && decide (x ≤ hi)

theorem wi_iff {lo hi x : Int} : wi lo hi x = true ↔ lo ≤ x ∧ x ≤ hi := by simp [wi]

theorem f25_eq (d : Tys.data as25) : f25 d = some (wi d.2.1 d.2.2.1 d.1, ()) := by
  simp only [f25, t25, Tr.val_test, Tr.val_fin, leF_eq, decide_eq_true_eq, wi]
  split <;> simp [*]

theorem l94 (lo hi : Int) (l : List Int) (h : l.length ≤ 1000000000) : l94_0 ((lo, hi, l, (l.length : Int), (0 : Int), ()), ()) = match first (fun i => !wi lo hi (l.getD i 0)) l.length 0 with
    | some _ => some (.inr ((false, ()), ()))
    | none => some (.inl ((), ())) := by
  refine itr_search (fun i => ((lo, hi, l, (l.length : Int), (i : Int), ()), ())) (fun i => !wi lo hi (l.getD i 0)) (fun _ => ((false, ()), ())) (n := l.length) ?_ ?_ (lt_rounds (by omega))
  · intro i hi'
    simp only [s94_0, t94_0, Tr.val_test, Tr.val_fin, leF_eq, Int.toNat_natCast, wrap64_nat (show i ≤ 9223372036854775806 by omega)]
    rw [if_pos (by simp; omega), if_pos (by simp; omega)]
    by_cases a0 : lo ≤ l.getD i 0
    · by_cases a1 : l.getD i 0 ≤ hi
      · simp only [wi, a0, a1, decide_true, Bool.and_self, Bool.not_true, if_true, if_false, Bool.false_eq_true]
      · simp only [wi, a0, a1, decide_true, decide_false, Bool.and_false, Bool.not_false, Bool.not_true, if_true, if_false, Bool.false_eq_true]
    · simp only [wi, a0, decide_false, Bool.false_and, Bool.not_false, if_true, if_false, Bool.false_eq_true]
  · simp [s94_0, t94_0, leF_eq]

theorem f94_eq (lo hi : Int) (l : List Int) (h : l.length ≤ 1000000000) : f94 (lo, hi, l, ()) = some ((first (fun i => !wi lo hi (l.getD i 0)) l.length 0).isNone, ()) := by
  have hl := l94 lo hi l h
  cases hf : first (fun i => !wi lo hi (l.getD i 0)) l.length 0 with
  | none =>
    rw [hf] at hl
    simp only [f94, t94, Tr.val_test, Tr.val_fin, hl, isRet, Option.isSome_some, Option.isNone_none, if_true, Bool.false_eq_true, if_false]
  | some k =>
    rw [hf] at hl
    simp only [f94, t94, Tr.val_test, Tr.val_fin, hl, isRet, r94_0, outR, Option.isSome_some, Option.isNone_some, if_true]

theorem f94_one (lo hi a : Int) : f94 (lo, hi, [a], ()) = some (wi lo hi a, ()) := by
  rw [f94_eq lo hi _ (by simp)]
  simp only [first, List.length, List.getD_cons_zero]
  by_cases h1 : wi lo hi a = true
  · simp [h1]
  · simp [h1]

theorem f94_two (lo hi a b : Int) : f94 (lo, hi, [a, b], ()) = some (wi lo hi a && wi lo hi b, ()) := by
  rw [f94_eq lo hi _ (by simp)]
  simp only [first, List.length, List.getD_cons_zero, List.getD_cons_succ]
  by_cases h1 : wi lo hi a = true
  · by_cases h2 : wi lo hi b = true
    · simp [h1, h2]
    · simp [h1, h2]
  · simp [h1]

theorem q23_0 (l : List Int) (h : l.length ≤ 1000000) : l23_0 ((l, l, (0 : Int), ()), ()) = some (.inl ((), ())) := by
  refine itr_brk (fun i => ((l, l, (i : Int), ()), ())) (n := l.length) ?_ ?_ (lt_rounds (by omega))
  · intro i hi
    simp only [s23_0, t23_0, Tr.val_test, Tr.val_fin, Tr.val_stop, leF_eq, eqF_eq, Int.toNat_natCast, wrap64_nat (show i ≤ 9223372036854775806 by omega)]
    rw [if_pos (by simp; omega), if_pos (by simp; omega), if_pos (by simp; omega)]
    simp
  · simp [s23_0, t23_0, leF_eq]

theorem f23_self (l : List Int) (h : l.length ≤ 1000000) : f23 (l, l, ()) = some (true, ()) := by
  simp only [f23, t23, Tr.val_test, Tr.val_fin, Tr.val_stop, q23_0 l h, isRet, eqF_eq, decide_true, Bool.not_true, Bool.false_eq_true, if_false, Option.isSome_some, if_true]

theorem wn64 {x : Int} (h1 : -9223372036854775807 ≤ x) (h2 : x ≤ 9223372036854775807) : IntKind.wrap .i64 (0 - x) = -x := by
  rw [← wrap64_eq, wrap64_id (by omega) (by omega)]
  omega

theorem isSome_first {bad : Nat → Bool} {n : Nat} : (first bad n 0).isSome = true ↔ ∃ i, i < n ∧ bad i = true := by
  cases h : first bad n 0 with
  | none =>
    simp only [Option.isSome_none, Bool.false_eq_true, false_iff]
    rintro ⟨i, hi, hb⟩
    rw [first_none h i (by omega) (by omega)] at hb; cases hb
  | some k =>
    obtain ⟨_, h2, h3, _⟩ := first_some h
    simp only [Option.isSome_some, true_iff]
    exact ⟨k, by omega, h3⟩

theorem isNone_first {bad : Nat → Bool} {n : Nat} : (first bad n 0).isNone = true ↔ ∀ i, i < n → bad i = false := by
  cases h : first bad n 0 with
  | none =>
    simp only [Option.isNone_none, true_iff]
    exact fun i hi => first_none h i (by omega) (by omega)
  | some k =>
    obtain ⟨_, h2, h3, _⟩ := first_some h
    simp only [Option.isNone_some, Bool.false_eq_true, false_iff]
    intro hb
    rw [hb k (by omega)] at h3; cases h3

def firstE (e : Nat → Int) (n : Nat) : Int := match first (fun i => !decide (e i = 0)) n 0 with
  | some k => e k
  | none => 0

theorem firstE_zero {e : Nat → Int} {n : Nat} (h : firstE e n = 0) : ∀ i, i < n → e i = 0 := by
  intro i hi
  unfold firstE at h
  cases hf : first (fun i => !decide (e i = 0)) n 0 with
  | none => simpa using first_none hf i (by omega) (by omega)
  | some k =>
    rw [hf] at h
    obtain ⟨_, _, k3, _⟩ := first_some hf
    have h : e k = 0 := h
    simp [h] at k3

theorem firstE_of {e : Nat → Int} {n : Nat} (h : ∀ i, i < n → e i = 0) : firstE e n = 0 := by
  unfold firstE
  rw [first_of_none fun i _ hi => by simp [h i (by omega)]]

theorem f79_two (a b : Int) : f79 ([a, b], ()) = some (firstNZ [a, b], ()) := f79_eq _ (by simp)
theorem f79_three (a b c : Int) : f79 ([a, b, c], ()) = some (firstNZ [a, b, c], ()) := f79_eq _ (by simp)

theorem nz2 {a b : Int} (h : firstNZ [a, b] = 0) : a = 0 ∧ b = 0 := by
  simp only [firstNZ] at h
  by_cases ha : a = 0
  · rw [if_pos ha] at h
    by_cases hb : b = 0
    · exact ⟨ha, hb⟩
    · rw [if_neg hb] at h; exact absurd h hb
  · rw [if_neg ha] at h; exact absurd h ha

theorem strEq_eq (a b : ByteArray) : strEq a b = decide (a = b) := by
  unfold strEq
  rw [Bool.eq_iff_iff, decide_eq_true_eq, beq_iff_eq, ByteArray.toList_eq, ByteArray.toList_eq]
  exact ⟨fun h => ByteArray.ext (Array.toList_inj.1 h), fun h => by rw [h]⟩

def letter (c : Int) : Bool := (decide (97 ≤ c) && decide (c ≤ 122)) || (decide (65 ≤ c) && decide (c ≤ 90))
def digit (c : Int) : Bool := decide (48 ≤ c) && decide (c ≤ 57)

theorem f182_eq (d : Tys.data as182) : f182 d = some (letter d.1, ()) := by
  simp only [f182, t182, Tr.val_test, Tr.val_fin, letter]
  by_cases h1 : 97 ≤ d.1 <;> by_cases h2 : d.1 ≤ 122 <;> by_cases h3 : 65 ≤ d.1 <;> simp [h1, h2, h3]

theorem f183_eq (d : Tys.data as183) : f183 d = some (digit d.1, ()) := by
  simp only [f183, t183, Tr.val_test, Tr.val_fin, digit]
  by_cases h1 : 48 ≤ d.1 <;> simp [h1]

def bL (s : ByteArray) : List Int := s.data.toList.map fun b => (b.toNat : Int)
def chr (s : ByteArray) (i : Nat) : Int := ((s.data.toList.getD i 0).toNat : Int)

theorem bL_len (s : ByteArray) : (bL s).length = s.size := by unfold bL; rw [List.length_map, Array.length_toList]; rfl
theorem bL_get (s : ByteArray) (i : Nat) : (bL s).getD i 0 = chr s i := by
  unfold bL chr
  rw [List.getD_eq_getElem?_getD, List.getD_eq_getElem?_getD, List.getElem?_map]
  cases s.data.toList[i]? with
  | none => rfl
  | some b => rfl

def badC (s : ByteArray) (i : Nat) : Bool := !(letter (chr s i) || digit (chr s i) || decide (chr s i = 45))
def nm (s : ByteArray) : Bool := decide (1 ≤ s.size) && decide (s.size ≤ 12) && letter (chr s 0) && (first (badC s) s.size 0).isNone

theorem l142 (s : ByteArray) (h : s.size ≤ 1000) : l142_0 ((bL s, ((bL s).length : Int), (0 : Int), ()), ()) = match first (badC s) s.size 0 with
    | some _ => some (.inr ((false, ()), ()))
    | none => some (.inl ((), ())) := by
  rw [bL_len]
  refine itr_search (fun i => ((bL s, (s.size : Int), (i : Int), ()), ())) (badC s) (fun _ => ((false, ()), ())) (n := s.size) ?_ ?_ (lt_rounds (by omega))
  · intro i hi
    have b0 : (!decide ((s.size : Int) ≤ (i : Int))) = true := nT (by omega)
    have b1 : (decide ((0 : Int) ≤ (i : Int)) && decide ((i : Int) < ((bL s).length : Int))) = true := dA (by omega) (by rw [bL_len]; omega)
    simp only [s142_0, t142_0, Tr.val_test, Tr.val_fin, Tr.val_stop, leF_eq, b0, b1, if_true, Int.toNat_natCast, bL_get, f182_eq, g182, f183_eq, g183, Option.isSome_some, Option.getD_some, wrap64_nat (show i ≤ 9223372036854775806 by omega), badC]
    rcases Bool.eq_false_or_eq_true (letter (chr s i)) with h1 | h1 <;> rcases Bool.eq_false_or_eq_true (digit (chr s i)) with h2 | h2 <;> by_cases h3 : chr s i = 45 <;> simp [h1, h2, h3]
  · simp [s142_0, t142_0, leF_eq]

theorem f142_eq (d : Tys.data as142) : f142 d = some (nm d.1, ()) := by
  obtain ⟨s, u⟩ := d
  show (t142 s).val = some (nm s, ())
  unfold t142 nm
  by_cases h0 : s.size = 0
  · have b0 : eqF (s.size : Int) 0 = true := by rw [eqF_eq]; exact dT (by omega)
    simp only [Tr.val_test, Tr.val_fin, b0, if_true, h0]
    rfl
  · have b0 : eqF (s.size : Int) 0 = false := by rw [eqF_eq]; exact dF (by omega)
    have c0 : decide (1 ≤ s.size) = true := dT (by omega)
    by_cases h1 : 12 < s.size
    · have b1 : (!leF (s.size : Int) 12) = true := by rw [leF_eq]; exact nT (by omega)
      have c1 : decide (s.size ≤ 12) = false := dF (by omega)
      simp only [Tr.val_test, Tr.val_fin, b0, b1, c0, c1, if_true, if_false, Bool.false_eq_true, Bool.and_false, Bool.false_and]
    · have b1 : (!leF (s.size : Int) 12) = false := by rw [leF_eq]; exact nF (by omega)
      have c1 : decide (s.size ≤ 12) = true := dT (by omega)
      have b2 : (true && decide ((0 : Int) < (s.size : Int))) = true := by rw [dT (by omega)]; rfl
      have hl := l142 s (by omega)
      have e1 : f182 ((chr s 0 : Int), ()) = some (letter (chr s 0), ()) := f182_eq _
      simp only [Tr.val_test, Tr.val_fin, b0, b1, b2, c0, c1, if_true, if_false, Bool.false_eq_true, Bool.true_and]
      show (if (f182 ((chr s 0 : Int), ())).isSome = true then (if (!(g182 ((chr s 0 : Int), ())).1) = true then some (false, ()) else (if (l142_0 ((bL s, ((bL s).length : Int), (0 : Int), ()), ())).isSome = true then (if isRet (l142_0 ((bL s, ((bL s).length : Int), (0 : Int), ()), ())) = true then some ((r142_0 ((bL s, ((bL s).length : Int), (0 : Int), ()), ())).1.1, ()) else some (true, ())) else none)) else none) = _
      simp only [g182, e1, Option.isSome_some, Option.getD_some, if_true]
      rcases Bool.eq_false_or_eq_true (letter (chr s 0)) with h2 | h2
      · simp only [h2, Bool.not_true, Bool.false_eq_true, if_false, Bool.true_and]
        cases hf : first (badC s) s.size 0 with
        | none =>
          rw [hf] at hl
          simp only [hl, isRet, Option.isSome_some, if_true, Bool.false_eq_true, if_false, Option.isNone_none]
        | some k =>
          rw [hf] at hl
          simp only [hl, isRet, r142_0, outR, Option.isSome_some, if_true, Option.isNone_some]
      · simp only [h2, Bool.not_false, if_true, Bool.false_and]

def badR (s : ByteArray) (i : Nat) : Bool := !letter (chr s i) && (decide (i = 0) || !(decide (chr s i = 45) || digit (chr s i)))

theorem l95 (s : ByteArray) (h : s.size ≤ 1000) : l95_0 ((s, (0 : Int), ()), ()) = match first (badR s) s.size 0 with
    | some _ => some (.inr ((false, ()), ()))
    | none => some (.inl ((), ())) := by
  refine itr_search (fun i => ((s, (i : Int), ()), ())) (badR s) (fun _ => ((false, ()), ())) (n := s.size) ?_ ?_ (lt_rounds (by omega))
  · intro i hi
    have b0 : (!decide ((s.size : Int) ≤ (i : Int))) = true := nT (by omega)
    have b1 : (decide ((0 : Int) ≤ (i : Int)) && decide ((i : Int) < (s.size : Int))) = true := dA (by omega) (by omega)
    have hc : ((List.getD s.data.toList i (0 : UInt8)).toBitVec.toFin.1 : Int) = chr s i := rfl
    simp only [s95_0, t95_0, Tr.val_test, Tr.val_fin, Tr.val_stop, leF_eq, eqF_eq, b0, b1, if_true, Int.toNat_natCast, hc, wrap64_nat (show i ≤ 9223372036854775806 by omega), badR, letter, digit]
    have hi0 : ((i : Int) = 0) ↔ i = 0 := by omega
    obtain ⟨c, hc2⟩ : ∃ c, chr s i = c := ⟨_, rfl⟩
    simp only [hc2]
    by_cases a1 : 97 ≤ c <;> by_cases a2 : c ≤ 122 <;> by_cases a3 : 65 ≤ c <;> by_cases a4 : c ≤ 90 <;> by_cases a5 : i = 0 <;> by_cases a6 : c = 45 <;>
      first
        | (exfalso; omega)
        | (by_cases a7 : 48 ≤ c <;> by_cases a8 : c ≤ 57 <;> first
            | (exfalso; omega)
            | (simp [a1, a2, a3, a4, hi0, a5, a6, a7, a8]; done)
            | (simp [show c < 48 by omega, show ¬ 57 < c by omega, a1, a2, a3, a4, hi0, a5, a6, a7, a8]; done)
            | (simp [show ¬ c < 48 by omega, show 57 < c by omega, a1, a2, a3, a4, hi0, a5, a6, a7, a8]; done)
            | (simp [show ¬ c < 48 by omega, show ¬ 57 < c by omega, a1, a2, a3, a4, hi0, a5, a6, a7, a8]; done))
  · simp [s95_0, t95_0, leF_eq]

theorem badR_none (s : ByteArray) (h : 1 ≤ s.size) : (first (badR s) s.size 0).isNone = (letter (chr s 0) && (first (badC s) s.size 0).isNone) := by
  rw [Bool.eq_iff_iff, Bool.and_eq_true, isNone_first, isNone_first]
  constructor
  · intro hb
    have h0 := hb 0 (by omega)
    unfold badR at h0
    simp only [decide_true, Bool.true_or, Bool.and_true, Bool.not_eq_false'] at h0
    refine ⟨h0, fun i hi => ?_⟩
    have := hb i hi
    unfold badR at this
    unfold badC
    cases h1 : letter (chr s i) <;> cases h2 : digit (chr s i) <;> by_cases h3 : chr s i = 45 <;> simp_all
  · rintro ⟨h0, hb⟩ i hi
    have := hb i hi
    unfold badC at this
    unfold badR
    by_cases hi0 : i = 0
    · subst hi0; simp [h0]
    · cases h1 : letter (chr s i) <;> cases h2 : digit (chr s i) <;> by_cases h3 : chr s i = 45 <;> simp_all

theorem f95_eq (d : Tys.data as95) : f95 d = some (nm d.1, ()) := by
  obtain ⟨s, u⟩ := d
  show (t95 s).val = some (nm s, ())
  unfold t95 nm
  simp only [Tr.val_test, Tr.val_fin, Tr.val_stop, leF_eq]
  by_cases h0 : s.size = 0
  · have b0 : (!decide ((1 : Int) ≤ (s.size : Int))) = true := nT (by omega)
    simp only [b0, if_true, h0]
    rfl
  · have b0 : (!decide ((1 : Int) ≤ (s.size : Int))) = false := nF (by omega)
    have c0 : decide (1 ≤ s.size) = true := dT (by omega)
    by_cases h1 : 12 < s.size
    · have b1 : (!decide ((s.size : Int) ≤ 12)) = true := nT (by omega)
      have c1 : decide (s.size ≤ 12) = false := dF (by omega)
      simp only [b0, b1, c0, c1, if_true, if_false, Bool.false_eq_true, Bool.and_false, Bool.false_and]
    · have b1 : (!decide ((s.size : Int) ≤ 12)) = false := nF (by omega)
      have c1 : decide (s.size ≤ 12) = true := dT (by omega)
      have hl := l95 s (by omega)
      rw [Bool.and_assoc, ← badR_none s (by omega)]
      simp only [b0, b1, c0, c1, if_false, Bool.false_eq_true, Bool.true_and]
      cases hf : first (badR s) s.size 0 with
      | none =>
        rw [hf] at hl
        simp only [hl, isRet, Option.isSome_some, if_true, Bool.false_eq_true, if_false, Option.isNone_none]
      | some k =>
        rw [hf] at hl
        simp only [hl, isRet, r95_0, outR, Option.isSome_some, if_true, Option.isNone_some]

/-! ### Texts among others -/

def bs (l : List ByteArray) (i : Nat) : ByteArray := l.getD i { data := { toList := [] } }
def hasT (l : List ByteArray) (x : ByteArray) : Bool := l.any fun y => strEq y x

theorem bs_mem {l : List ByteArray} {i : Nat} (h : i < l.length) : bs l i ∈ l := by
  unfold bs
  rw [List.getD_eq_getElem?_getD, List.getElem?_eq_getElem h]
  exact List.getElem_mem h
theorem mem_bs {l : List ByteArray} {x : ByteArray} (h : x ∈ l) : ∃ i, i < l.length ∧ bs l i = x := by
  obtain ⟨i, hi, e⟩ := List.getElem_of_mem h
  exact ⟨i, hi, by unfold bs; rw [List.getD_eq_getElem?_getD, List.getElem?_eq_getElem hi, e]; rfl⟩
theorem hasT_iff {l : List ByteArray} {x : ByteArray} : hasT l x = true ↔ ∃ i, i < l.length ∧ bs l i = x := by
  unfold hasT
  rw [List.any_eq_true]
  constructor
  · rintro ⟨y, hy, e⟩
    rw [strEq_eq, decide_eq_true_eq] at e
    exact mem_bs (e ▸ hy)
  · rintro ⟨i, hi, e⟩
    exact ⟨x, e ▸ bs_mem hi, by rw [strEq_eq]; exact decide_eq_true rfl⟩

theorem hasT_first (l : List ByteArray) (x : ByteArray) : (first (fun i => strEq (bs l i) x) l.length 0).isSome = hasT l x := by
  rw [Bool.eq_iff_iff, isSome_first, hasT_iff]
  constructor <;> rintro ⟨i, hi, e⟩ <;> exact ⟨i, hi, by simpa [strEq_eq] using e⟩
theorem strEq_comm (a b : ByteArray) : strEq a b = strEq b a := by rw [strEq_eq, strEq_eq]; exact decide_eq_decide.2 ⟨Eq.symm, Eq.symm⟩

theorem l184 (l : List ByteArray) (x : ByteArray) (h : l.length ≤ 1000000000) : l184_0 ((l, x, (l.length : Int), (0 : Int), ()), ()) = match first (fun i => strEq (bs l i) x) l.length 0 with
    | some k => some (.inr (((k : Int), ()), ()))
    | none => some (.inl ((), ())) := by
  refine itr_search (fun i => ((l, x, (l.length : Int), (i : Int), ()), ())) (fun i => strEq (bs l i) x) (fun k => (((k : Int), ()), ())) (n := l.length) ?_ ?_ (lt_rounds (by omega))
  · intro i hi
    have b0 : (!decide ((l.length : Int) ≤ (i : Int))) = true := nT (by omega)
    have b1 : (decide ((0 : Int) ≤ (i : Int)) && decide ((i : Int) < (l.length : Int))) = true := dA (by omega) (by omega)
    have hd : List.getD l i ({ data := { toList := [] } } : ByteArray) = bs l i := rfl
    simp only [s184_0, t184_0, Tr.val_test, Tr.val_fin, Tr.val_stop, leF_eq, b0, b1, if_true, Int.toNat_natCast, hd, strEq_comm x, wrap64_nat (show i ≤ 9223372036854775806 by omega)]
  · simp [s184_0, t184_0, leF_eq]

theorem f143_eq (l : List ByteArray) (x : ByteArray) (h : l.length ≤ 1000000000) : f143 (l, x, ()) = some (hasT l x, ()) := by
  have hl := l184 l x h
  rw [← hasT_first]
  have e : f184 (l, x, ()) = some (match first (fun i => strEq (bs l i) x) l.length 0 with
    | some k => (k : Int)
    | none => -1, ()) := by
    simp only [f184, t184, Tr.val_test, Tr.val_fin]
    cases hf : first (fun i => strEq (bs l i) x) l.length 0 with
    | none =>
      rw [hf] at hl
      simp only [hl, isRet, Option.isSome_some, if_true, if_false, Bool.false_eq_true]
    | some k =>
      rw [hf] at hl
      simp only [hl, isRet, r184_0, outR, Option.isSome_some, if_true]
  simp only [f143, t143, Tr.val_test, Tr.val_fin, e, g184, leF_eq, Option.isSome_some, Option.getD_some, if_true]
  cases hf : first (fun i => strEq (bs l i) x) l.length 0 with
  | none => rfl
  | some k => simp

theorem l96 (l : List ByteArray) (x : ByteArray) (h : l.length ≤ 1000000000) : l96_0 ((l, x, (0 : Int), ()), ()) = match first (fun i => strEq (bs l i) x) l.length 0 with
    | some _ => some (.inr ((true, ()), ()))
    | none => some (.inl ((), ())) := by
  refine itr_search (fun i => ((l, x, (i : Int), ()), ())) (fun i => strEq (bs l i) x) (fun _ => ((true, ()), ())) (n := l.length) ?_ ?_ (lt_rounds (by omega))
  · intro i hi
    have b0 : (!decide ((l.length : Int) ≤ (i : Int))) = true := nT (by omega)
    have b1 : (decide ((0 : Int) ≤ (i : Int)) && decide ((i : Int) < (l.length : Int))) = true := dA (by omega) (by omega)
    have hd : List.getD l i ({ data := { toList := [] } } : ByteArray) = bs l i := rfl
    simp only [s96_0, t96_0, Tr.val_test, Tr.val_fin, Tr.val_stop, leF_eq, b0, b1, if_true, Int.toNat_natCast, hd, wrap64_nat (show i ≤ 9223372036854775806 by omega)]
  · simp [s96_0, t96_0, leF_eq]

theorem f96_eq (l : List ByteArray) (x : ByteArray) (h : l.length ≤ 1000000000) : f96 (l, x, ()) = some (hasT l x, ()) := by
  have hl := l96 l x h
  rw [← hasT_first]
  simp only [f96, t96, Tr.val_test, Tr.val_fin]
  cases hf : first (fun i => strEq (bs l i) x) l.length 0 with
  | none =>
    rw [hf] at hl
    simp only [hl, isRet, Option.isSome_some, Option.isSome_none, if_true, if_false, Bool.false_eq_true]
  | some k =>
    rw [hf] at hl
    simp only [hl, isRet, r96_0, outR, Option.isSome_some, if_true]

end Go.Vm.Mo

namespace Go.Vm.Mo
open Go
set_option linter.unusedVariables false
set_option linter.unusedSimpArgs false

abbrev GT := ByteArray × List ByteArray × Int × Unit
def gt (l : List GT) (i : Nat) : GT := l.getD i (({ data := { toList := [] } } : ByteArray), ([] : List ByteArray), (0 : Int), ())
def gNames (l : List GT) : List ByteArray := l.map fun g => g.1

theorem bs_names (l : List GT) (i : Nat) : bs (gNames l) i = (gt l i).1 := by
  unfold bs gNames gt
  rw [List.getD_eq_getElem?_getD, List.getD_eq_getElem?_getD, List.getElem?_map]
  cases l[i]? with
  | none => rfl
  | some b => rfl
theorem names_len (l : List GT) : (gNames l).length = l.length := List.length_map _

/-- The refusal of a name in its list. -/
def nE (ns : List ByteArray) (i : Nat) (e : Int) : Int := firstNZ [if (!nm (bs ns i)) = true then 4 else 0, if hasT (ns.take i) (bs ns i) = true then e else 0]

theorem take_len {A : Type} (l : List A) (i : Nat) : (l.take i).length ≤ l.length := by rw [List.length_take]; omega

theorem f83_eq (ns : List ByteArray) (i : Nat) (e : Int) (hi : i < ns.length) (h : ns.length ≤ 1000000000) : f83 (ns, (i : Int), e, ()) = some (nE ns i e, ()) := by
  have b1 : (decide ((0 : Int) ≤ (i : Int)) && decide ((i : Int) < (ns.length : Int))) = true := dA (by omega) (by omega)
  have b2 : (decide ((0 : Int) ≤ (i : Int)) && decide ((i : Int) ≤ (ns.length : Int))) = true := dA (by omega) (by omega)
  have hd : List.getD ns i ({ data := { toList := [] } } : ByteArray) = bs ns i := rfl
  have e1 : f142 (bs ns i, ()) = some (nm (bs ns i), ()) := f142_eq _
  have e2 : f143 (ns.take i, bs ns i, ()) = some (hasT (ns.take i) (bs ns i), ()) := f143_eq _ _ (by have := take_len ns i; omega)
  have e3 : f80 (!nm (bs ns i), (4 : Int), ()) = some (if (!nm (bs ns i)) = true then 4 else 0, ()) := f80_eq _
  have e4 : f80 (hasT (ns.take i) (bs ns i), e, ()) = some (if hasT (ns.take i) (bs ns i) = true then e else 0, ()) := f80_eq _
  have e5 : f79 ([if (!nm (bs ns i)) = true then (4 : Int) else 0, if hasT (ns.take i) (bs ns i) = true then e else 0], ()) = some (nE ns i e, ()) := f79_two _ _
  simp only [f83, t83, Tr.val_test, Tr.val_fin, b1, b2, hd, Int.toNat_natCast, if_true, e1, g142, Option.isSome_some, Option.getD_some, e2, g143, e3, g80, e4, e5, g79]

def rolesE (rs : List ByteArray) : Int := firstE (fun k => nE rs k 23) rs.length

theorem l81 (rs : List ByteArray) (a : ByteArray) (s : Int) (h : rs.length ≤ 1000000000) : l81_0 ((rs, (rs.length : Int), (0 : Int), ()), (a, rs, s, ()), ()) = match first (fun k => !decide (nE rs k 23 = 0)) rs.length 0 with
    | some k => some (.inr (((k : Int), nE rs k 23, ()), (a, rs, s, ()), ()))
    | none => some (.inl ((), (a, rs, s, ()), ())) := by
  refine itr_search (fun i => ((rs, (rs.length : Int), (i : Int), ()), (a, rs, s, ()), ())) (fun k => !decide (nE rs k 23 = 0)) (fun k => (((k : Int), nE rs k 23, ()), (a, rs, s, ()), ())) (n := rs.length) ?_ ?_ (lt_rounds (by omega))
  · intro i hi
    have b0 : (!decide ((rs.length : Int) ≤ (i : Int))) = true := nT (by omega)
    have b1 : (decide ((0 : Int) ≤ (i : Int)) && decide ((i : Int) < (rs.length : Int))) = true := dA (by omega) (by omega)
    simp only [s81_0, t81_0, Tr.val_test, Tr.val_fin, Tr.val_stop, leF_eq, eqF_eq, b0, b1, if_true, f83_eq rs i 23 hi h, g83, Option.isSome_some, Option.getD_some, wrap64_nat (show i ≤ 9223372036854775806 by omega)]
  · simp [s81_0, t81_0, leF_eq]

/-- The refusal of a gate, its name aside. -/
def gE (g : GT) : Int := if 4 < g.2.1.length then 8 else firstNZ [rolesE g.2.1, if (!wi 0 20 g.2.2.1) = true then 2 else 0]

theorem f131_eq (g : GT) : f131 ((g.1, g.2.1, g.2.2.1, ()), ()) = some (gE g, ()) := by
  obtain ⟨a, rs, s, u⟩ := g
  show (t131 a rs s).val = some (gE (a, rs, s, u), ())
  unfold t131 gE
  by_cases h : 4 < rs.length
  · have b0 : (!leF (rs.length : Int) 4) = true := by rw [leF_eq]; exact nT (by omega)
    simp only [Tr.val_test, Tr.val_fin, b0, if_true, h]
  · have b0 : (!leF (rs.length : Int) 4) = false := by rw [leF_eq]; exact nF (by omega)
    have hl := l81 rs a s (by omega)
    have e1 : f94 ((0 : Int), (20 : Int), [s], ()) = some (wi 0 20 s, ()) := f94_one _ _ _
    have e2 : f80 (!wi 0 20 s, (2 : Int), ()) = some (if (!wi 0 20 s) = true then 2 else 0, ()) := f80_eq _
    have e3 : ∀ x y : Int, f79 ([x, y], ()) = some (firstNZ [x, y], ()) := f79_two
    unfold rolesE firstE
    cases hf : first (fun k => !decide (nE rs k 23 = 0)) rs.length 0 with
    | none =>
      rw [hf] at hl
      simp only [Tr.val_test, Tr.val_fin, b0, if_true, if_false, Bool.false_eq_true, h, hl, isRet, b81_0, outB, Option.isSome_some, Option.getD_some, e1, g94, e2, g80, e3, g79]
    | some k =>
      rw [hf] at hl
      simp only [Tr.val_test, Tr.val_fin, b0, if_true, if_false, Bool.false_eq_true, h, hl, isRet, r81_0, outR, Option.isSome_some, Option.getD_some, e1, g94, e2, g80, e3, g79]

/-- The refusal of a gate among the gates. -/
def eG (l : List GT) (i : Nat) : Int := firstNZ [nE (gNames l) i 5, gE (gt l i)]

theorem l59 (l : List GT) (h : l.length ≤ 1000) : l59_0 ((l, l, (l.length : Int), (0 : Int), ()), (([] : List ByteArray), ()), ()) = some (.inl ((l, ()), (gNames l, ()), ())) := by
  have e0 : gNames l = gNames (l.take l.length) := by rw [List.take_length]
  rw [e0]
  refine itr_brk (fun i => ((l, l, (l.length : Int), (i : Int), ()), (gNames (l.take i), ()), ())) (n := l.length) ?_ ?_ (lt_rounds (by omega))
  · intro i hi
    have b0 : (!decide ((l.length : Int) ≤ (i : Int))) = true := nT (by omega)
    have b1 : (decide ((0 : Int) ≤ (i : Int)) && decide ((i : Int) < (l.length : Int))) = true := dA (by omega) (by omega)
    have hln : (gNames (l.take i)).length = i := by rw [names_len, List.length_take]; omega
    have b2 : (Nat.ble ((2 * (i + 1) + 192) * 16) 281474976710656 && Nat.ble (i + 1) 281474976710656) = true := by
      rw [Nat.ble_eq_true_of_le (by omega), Nat.ble_eq_true_of_le (by omega)]; rfl
    have hd : List.getD l i (({ data := { toList := [] } } : ByteArray), ([] : List ByteArray), (0 : Int), ()) = gt l i := rfl
    have ht : gNames (l.take i) ++ [(gt l i).1] = gNames (l.take (i + 1)) := by
      unfold gNames gt
      rw [List.getD_eq_getElem?_getD, List.getElem?_eq_getElem hi, List.take_succ_eq_append_getElem hi, List.map_append]
      rfl
    simp only [s59_0, t59_0, Tr.val_test, Tr.val_fin, Tr.val_stop, leF_eq, b0, b1, hln, b2, if_true, Int.toNat_natCast, hd, ht, wrap64_nat (show i ≤ 9223372036854775806 by omega)]
  · simp [s59_0, t59_0, leF_eq]

theorem l129 (l : List GT) (h : l.length ≤ 1000) : l129_0 ((l, (l.length : Int), (0 : Int), ()), (gNames l, ()), ()) = match first (fun i => !decide (eG l i = 0)) l.length 0 with
    | some k => some (.inr (((k : Int), eG l k, ()), (gNames l, ()), ()))
    | none => some (.inl ((), (gNames l, ()), ())) := by
  refine itr_search (fun i => ((l, (l.length : Int), (i : Int), ()), (gNames l, ()), ())) (fun i => !decide (eG l i = 0)) (fun k => (((k : Int), eG l k, ()), (gNames l, ()), ())) (n := l.length) ?_ ?_ (lt_rounds (by omega))
  · intro i hi
    have b0 : (!decide ((l.length : Int) ≤ (i : Int))) = true := nT (by omega)
    have b1 : (decide ((0 : Int) ≤ (i : Int)) && decide ((i : Int) < (l.length : Int))) = true := dA (by omega) (by omega)
    have hd : List.getD l i (({ data := { toList := [] } } : ByteArray), ([] : List ByteArray), (0 : Int), ()) = gt l i := rfl
    have e1 : f83 (gNames l, (i : Int), (5 : Int), ()) = some (nE (gNames l) i 5, ()) := f83_eq _ i 5 (by rw [names_len]; omega) (by rw [names_len]; omega)
    have e2 := f131_eq (gt l i)
    have e3 : f79 ([nE (gNames l) i 5, gE (gt l i)], ()) = some (eG l i, ()) := f79_two _ _
    simp only [s129_0, t129_0, Tr.val_test, Tr.val_fin, Tr.val_stop, leF_eq, eqF_eq, b0, b1, if_true, Int.toNat_natCast, hd, e1, g83, e2, g131, e3, g79, Option.isSome_some, Option.getD_some, wrap64_nat (show i ≤ 9223372036854775806 by omega)]
  · simp [s129_0, t129_0, leF_eq]

/-- The first gate refused, and its refusal. -/
def ckG (l : List GT) : Int × Int :=
  if l.length = 0 then (0, 10)
  else if 6 < l.length then (0, 8)
  else match first (fun i => !decide (eG l i = 0)) l.length 0 with
    | some k => ((k : Int), eG l k)
    | none => (0, 0)

theorem f59_eq (l : List GT) : f59 (l, ()) = some ((ckG l).1, (ckG l).2, ()) := by
  show (t59 l).val = _
  unfold t59 ckG
  have c80 : ∀ (b : Bool) (x : Int), f80 (b, x, ()) = some (if b = true then x else 0, ()) := fun b x => f80_eq _
  have c79 : ∀ x y : Int, f79 ([x, y], ()) = some (firstNZ [x, y], ()) := f79_two
  by_cases h0 : l.length = 0
  · have b0 : decide ((l.length : Int) = 0) = true := dT (by omega)
    have b1 : (!decide ((l.length : Int) ≤ 6)) = false := nF (by omega)
    have b2 : (!decide ((10 : Int) = 0)) = true := by decide
    simp only [Tr.val_test, Tr.val_fin, eqF_eq, leF_eq, b0, b1, c80, g80, c79, g79, Option.isSome_some, Option.getD_some, if_true, if_false, Bool.false_eq_true, firstNZ, h0, b2]
    rfl
  · have b0 : decide ((l.length : Int) = 0) = false := dF (by omega)
    by_cases h1 : 6 < l.length
    · have b1 : (!decide ((l.length : Int) ≤ 6)) = true := nT (by omega)
      have b2 : (!decide ((8 : Int) = 0)) = true := by decide
      simp only [Tr.val_test, Tr.val_fin, eqF_eq, leF_eq, b0, b1, c80, g80, c79, g79, Option.isSome_some, Option.getD_some, if_true, if_false, Bool.false_eq_true, firstNZ, h0, h1]
      rfl
    · have b1 : (!decide ((l.length : Int) ≤ 6)) = false := nF (by omega)
      have e1 := l59 l (by omega)
      have e2 := l129 l (by omega)
      simp only [Tr.val_test, Tr.val_fin, eqF_eq, leF_eq, b0, b1, c80, g80, c79, g79, Option.isSome_some, Option.getD_some, if_true, if_false, Bool.false_eq_true, firstNZ, h0, h1, e1, isBrk, b59_0, outB]
      cases hf : first (fun i => !decide (eG l i = 0)) l.length 0 with
      | none =>
        rw [hf] at e2
        simp only [e2, isRet, decide_true, Bool.not_true, Option.isSome_some, if_true, if_false, Bool.false_eq_true]
      | some k =>
        rw [hf] at e2
        simp only [e2, isRet, r129_0, outR, decide_true, Bool.not_true, Option.isSome_some, if_true, if_false, Bool.false_eq_true]

/-! ### The reference's gates -/

theorem l64d (l : List GT) (i : Nat) (hi : i < l.length) (h : l.length ≤ 1000) : l64_2 ((l, (i : Int), (0 : Int), ()), ()) = if hasT ((gNames l).take i) (bs (gNames l) i) = true then some (.inr (((i : Int), (5 : Int), ()), ())) else some (.inl ((l, (i : Int), ()), ())) := by
  have hs := itr_search (step := s64_2) (fun k => ((l, (i : Int), (k : Int), ()), ())) (fun k => strEq (bs ((gNames l).take i) k) (bs (gNames l) i)) (fun _ => (((i : Int), (5 : Int), ()), ())) (n := i) (m := rounds) (b := ((l, (i : Int), ()), ())) ?_ ?_ (lt_rounds (by omega))
  · have hl : ((gNames l).take i).length = i := by rw [List.length_take, names_len]; omega
    rw [← hasT_first, hl]
    have e0 : l64_2 ((l, (i : Int), (0 : Int), ()), ()) = itr s64_2 rounds ((l, (i : Int), ((0 : Nat) : Int), ()), ()) := rfl
    rw [e0, hs]
    cases first (fun k => strEq (bs ((gNames l).take i) k) (bs (gNames l) i)) i 0 with
    | none => rfl
    | some k => rfl
  · intro k hk
    have b0 : (!decide ((i : Int) ≤ (k : Int))) = true := nT (by omega)
    have b1 : (decide ((0 : Int) ≤ (k : Int)) && decide ((k : Int) < (l.length : Int))) = true := dA (by omega) (by omega)
    have b2 : (decide ((0 : Int) ≤ (i : Int)) && decide ((i : Int) < (l.length : Int))) = true := dA (by omega) (by omega)
    have hd : ∀ j, List.getD l j (({ data := { toList := [] } } : ByteArray), ([] : List ByteArray), (0 : Int), ()) = gt l j := fun _ => rfl
    have ht : bs ((gNames l).take i) k = (gt l k).1 := by
      rw [← bs_names]
      unfold bs
      rw [List.getD_eq_getElem?_getD, List.getD_eq_getElem?_getD, List.getElem?_take, if_pos hk]
    simp only [s64_2, t64_2, Tr.val_test, Tr.val_fin, Tr.val_stop, leF_eq, b0, b1, b2, if_true, Int.toNat_natCast, hd, ht, bs_names, wrap64_nat (show k ≤ 9223372036854775806 by omega)]
  · simp [s64_2, t64_2, leF_eq]

theorem nE_cases (ns : List ByteArray) (k : Nat) (e : Int) (he : e ≠ 0) : nE ns k e = if nm (bs ns k) = true then (if hasT (ns.take k) (bs ns k) = true then e else 0) else 4 := by
  unfold nE firstNZ
  cases h1 : nm (bs ns k) <;> cases h2 : hasT (ns.take k) (bs ns k) <;> simp [firstNZ, he]

theorem l64r (l : List GT) (i : Nat) (hi : i < l.length) (h : (gt l i).2.1.length ≤ 1000) (h' : l.length ≤ 1000) : l64_4 ((l, (i : Int), (0 : Int), ()), ()) = match first (fun k => !decide (nE (gt l i).2.1 k 23 = 0)) (gt l i).2.1.length 0 with
    | some k => some (.inr (((i : Int), nE (gt l i).2.1 k 23, ()), ()))
    | none => some (.inl ((l, (i : Int), ()), ())) := by
  have hd : List.getD l i (({ data := { toList := [] } } : ByteArray), ([] : List ByteArray), (0 : Int), ()) = gt l i := rfl
  have b2 : (decide ((0 : Int) ≤ (i : Int)) && decide ((i : Int) < (l.length : Int))) = true := dA (by omega) (by omega)
  refine itr_search (fun k => ((l, (i : Int), (k : Int), ()), ())) (fun k => !decide (nE (gt l i).2.1 k 23 = 0)) (fun k => (((i : Int), nE (gt l i).2.1 k 23, ()), ())) (n := (gt l i).2.1.length) ?_ ?_ (lt_rounds (by omega))
  · intro k hk
    have b0 : (!decide (((gt l i).2.1.length : Int) ≤ (k : Int))) = true := nT (by omega)
    have b1 : (decide ((0 : Int) ≤ (k : Int)) && decide ((k : Int) < ((gt l i).2.1.length : Int))) = true := dA (by omega) (by omega)
    have b3 : (decide ((0 : Int) ≤ (k : Int)) && decide ((k : Int) ≤ ((gt l i).2.1.length : Int))) = true := dA (by omega) (by omega)
    have hd2 : List.getD (gt l i).2.1 k ({ data := { toList := [] } } : ByteArray) = bs (gt l i).2.1 k := rfl
    have e1 : f95 (bs (gt l i).2.1 k, ()) = some (nm (bs (gt l i).2.1 k), ()) := f95_eq _
    have e2 : f96 ((gt l i).2.1.take k, bs (gt l i).2.1 k, ()) = some (hasT ((gt l i).2.1.take k) (bs (gt l i).2.1 k), ()) := f96_eq _ _ (by have := take_len (gt l i).2.1 k; omega)
    rw [nE_cases _ _ 23 (by decide)]
    simp only [s64_4, t64_4, Tr.val_test, Tr.val_fin, Tr.val_stop, leF_eq, b0, b1, b2, b3, if_true, Int.toNat_natCast, hd, hd2, e1, g95, e2, g96, Option.isSome_some, Option.getD_some, wrap64_nat (show k ≤ 9223372036854775806 by omega)]
    cases h1 : nm (bs (gt l i).2.1 k) <;> cases h2 : hasT ((gt l i).2.1.take k) (bs (gt l i).2.1 k) <;> simp
  · have b0 : (!decide (((gt l i).2.1.length : Int) ≤ ((gt l i).2.1.length : Int))) = false := nF (by omega)
    simp only [s64_4, t64_4, Tr.val_test, Tr.val_fin, Tr.val_stop, leF_eq, b0, b2, if_true, if_false, Bool.false_eq_true, Int.toNat_natCast, hd]

theorem eG_cases (l : List GT) (i : Nat) : eG l i = if nm (bs (gNames l) i) = true then (if hasT ((gNames l).take i) (bs (gNames l) i) = true then 5 else (if 4 < (gt l i).2.1.length then 8 else if rolesE (gt l i).2.1 = 0 then (if wi 0 20 (gt l i).2.2.1 = true then 0 else 2) else rolesE (gt l i).2.1)) else 4 := by
  unfold eG
  rw [nE_cases _ _ 5 (by decide)]
  cases h1 : nm (bs (gNames l) i)
  · simp [firstNZ]
  · cases h2 : hasT ((gNames l).take i) (bs (gNames l) i)
    · simp only [firstNZ, if_true, if_false, Bool.false_eq_true, gE]
      by_cases h3 : 4 < (gt l i).2.1.length
      · simp [h3]
      · by_cases h4 : rolesE (gt l i).2.1 = 0 <;> rcases Bool.eq_false_or_eq_true (wi 0 20 (gt l i).2.2.1) with h5 | h5 <;> simp [h3, h4, h5]
    · simp [firstNZ]

theorem l64 (l : List GT) (h : l.length ≤ 1000) : l64_0 ((l, (0 : Int), ()), ()) = match first (fun i => !decide (eG l i = 0)) l.length 0 with
    | some k => some (.inr (((k : Int), eG l k, ()), ()))
    | none => some (.inl ((), ())) := by
  refine itr_search (fun i => ((l, (i : Int), ()), ())) (fun i => !decide (eG l i = 0)) (fun k => (((k : Int), eG l k, ()), ())) (n := l.length) ?_ ?_ (lt_rounds (by omega))
  · intro i hi
    have b0 : (!decide ((l.length : Int) ≤ (i : Int))) = true := nT (by omega)
    have b1 : (decide ((0 : Int) ≤ (i : Int)) && decide ((i : Int) < (l.length : Int))) = true := dA (by omega) (by omega)
    have hd : List.getD l i (({ data := { toList := [] } } : ByteArray), ([] : List ByteArray), (0 : Int), ()) = gt l i := rfl
    have e1 : f95 ((gt l i).1, ()) = some (nm (bs (gNames l) i), ()) := by rw [bs_names]; exact f95_eq _
    have e2 := l64d l i hi h
    have e3 : f25 ((gt l i).2.2.1, (0 : Int), (20 : Int), ()) = some (wi 0 20 (gt l i).2.2.1, ()) := f25_eq _
    rw [eG_cases]
    simp only [s64_0, t64_0, Tr.val_test, Tr.val_fin, Tr.val_stop, leF_eq, b0, b1, if_true, Int.toNat_natCast, hd, e1, g95, Option.isSome_some, Option.getD_some, wrap64_nat (show i ≤ 9223372036854775806 by omega)]
    cases h1 : nm (bs (gNames l) i)
    · simp
    · cases h2 : hasT ((gNames l).take i) (bs (gNames l) i)
      · rw [h2] at e2
        simp only [Bool.false_eq_true, if_false] at e2
        simp only [e2, isRet, b64_2, outB, Option.isSome_some, if_true, if_false, Bool.false_eq_true, Bool.not_true, b1, Int.toNat_natCast, hd]
        by_cases h3 : 4 < (gt l i).2.1.length
        · have b3 : (!decide (((gt l i).2.1.length : Int) ≤ 4)) = true := nT (by omega)
          simp [b3, h3]
        · have b3 : (!decide (((gt l i).2.1.length : Int) ≤ 4)) = false := nF (by omega)
          have e4 := l64r l i hi (by omega) h
          simp only [b3, h3, if_false, Bool.false_eq_true]
          unfold rolesE firstE
          cases hf : first (fun k => !decide (nE (gt l i).2.1 k 23 = 0)) (gt l i).2.1.length 0 with
          | none =>
            rw [hf] at e4
            simp only [e4, isRet, b64_4, outB, Option.isSome_some, if_true, if_false, Bool.false_eq_true, b1, Int.toNat_natCast, hd, e3, g25, Option.getD_some, wrap64_nat (show i ≤ 9223372036854775806 by omega)]
            cases h5 : wi 0 20 (gt l i).2.2.1 <;> simp
          | some k =>
            rw [hf] at e4
            have hk := (first_some hf).2.2.1
            have hk' : ¬ nE (gt l i).2.1 k 23 = 0 := by simpa using hk
            simp only [e4, isRet, r64_4, outR, Option.isSome_some, if_true, if_false, hk', decide_false, Bool.not_false]
      · rw [h2] at e2
        simp only [if_true] at e2
        simp only [e2, isRet, r64_2, outR, Option.isSome_some, if_true, if_false, Bool.false_eq_true, Bool.not_true]
        simp
  · simp [s64_0, t64_0, leF_eq]

theorem f64_eq (l : List GT) : f64 (l, ()) = some ((ckG l).1, (ckG l).2, ()) := by
  show (t64 l).val = _
  unfold t64 ckG
  by_cases h0 : l.length = 0
  · have b0 : decide ((l.length : Int) = 0) = true := dT (by omega)
    simp only [Tr.val_test, Tr.val_fin, eqF_eq, b0, if_true, h0]
    rfl
  · have b0 : decide ((l.length : Int) = 0) = false := dF (by omega)
    by_cases h1 : 6 < l.length
    · have b1 : (!decide ((l.length : Int) ≤ 6)) = true := nT (by omega)
      simp only [Tr.val_test, Tr.val_fin, eqF_eq, leF_eq, b0, b1, if_true, if_false, Bool.false_eq_true, h0, h1]
    · have b1 : (!decide ((l.length : Int) ≤ 6)) = false := nF (by omega)
      have e2 := l64 l (by omega)
      simp only [Tr.val_test, Tr.val_fin, eqF_eq, leF_eq, b0, b1, if_true, if_false, Bool.false_eq_true, h0, h1]
      cases hf : first (fun i => !decide (eG l i = 0)) l.length 0 with
      | none =>
        rw [hf] at e2
        simp only [e2, isRet, Option.isSome_some, if_true, if_false, Bool.false_eq_true]
      | some k =>
        rw [hf] at e2
        simp only [e2, isRet, r64_0, outR, Option.isSome_some, if_true]

end Go.Vm.Mo

namespace Go.Vm.Mo
open Go
set_option linter.unusedVariables false
set_option linter.unusedSimpArgs false

abbrev SG := Int × ByteArray × ByteArray × Unit
def sg (l : List SG) (i : Nat) : SG := l.getD i ((0 : Int), ({ data := { toList := [] } } : ByteArray), ({ data := { toList := [] } } : ByteArray), ())
def sgEq (a b : SG) : Bool := a.1 == b.1 && (strEq a.2.1 b.2.1 && (strEq a.2.2.1 b.2.2.1 && true))

theorem sgEq_comm (a b : SG) : sgEq a b = sgEq b a := by
  unfold sgEq
  rw [strEq_comm a.2.1, strEq_comm a.2.2.1]
  congr 1
  exact Bool.eq_iff_iff.2 ⟨fun h => by rw [beq_iff_eq] at *; exact h.symm, fun h => by rw [beq_iff_eq] at *; exact h.symm⟩

theorem any_first {A : Type} (p : A → Bool) (l : List A) (d : A) : (first (fun i => p (l.getD i d)) l.length 0).isSome = l.any p := by
  rw [Bool.eq_iff_iff, isSome_first, List.any_eq_true]
  constructor
  · rintro ⟨i, hi, e⟩
    rw [List.getD_eq_getElem?_getD, List.getElem?_eq_getElem hi] at e
    exact ⟨l[i], List.getElem_mem hi, e⟩
  · rintro ⟨x, hx, e⟩
    obtain ⟨i, hi, ex⟩ := List.getElem_of_mem hx
    exact ⟨i, hi, by rw [List.getD_eq_getElem?_getD, List.getElem?_eq_getElem hi, ex]; exact e⟩

def hasS (l : List SG) (x : SG) : Bool := l.any fun y => sgEq y x

theorem hasS_first (l : List SG) (x : SG) : (first (fun i => sgEq (sg l i) x) l.length 0).isSome = hasS l x := any_first (fun y => sgEq y x) l _

theorem l199 (l : List SG) (x : SG) (h : l.length ≤ 1000) : l199_0 ((l, (l.length : Int), (0 : Int), ()), (x.1, x.2.1, x.2.2.1, ()), ()) = match first (fun i => sgEq (sg l i) x) l.length 0 with
    | some k => some (.inr (((k : Int), ()), (x.1, x.2.1, x.2.2.1, ()), ()))
    | none => some (.inl ((), (x.1, x.2.1, x.2.2.1, ()), ())) := by
  refine itr_search (fun i => ((l, (l.length : Int), (i : Int), ()), (x.1, x.2.1, x.2.2.1, ()), ())) (fun i => sgEq (sg l i) x) (fun k => (((k : Int), ()), (x.1, x.2.1, x.2.2.1, ()), ())) (n := l.length) ?_ ?_ (lt_rounds (by omega))
  · intro i hi
    have b0 : (!decide ((l.length : Int) ≤ (i : Int))) = true := nT (by omega)
    have b1 : (decide ((0 : Int) ≤ (i : Int)) && decide ((i : Int) < (l.length : Int))) = true := dA (by omega) (by omega)
    have hd : List.getD l i ((0 : Int), ({ data := { toList := [] } } : ByteArray), ({ data := { toList := [] } } : ByteArray), ()) = sg l i := rfl
    have hs : (x.1 == (sg l i).1 && (strEq x.2.1 (sg l i).2.1 && (strEq x.2.2.1 (sg l i).2.2.1 && true))) = sgEq (sg l i) x := by rw [sgEq_comm]; rfl
    simp only [s199_0, t199_0, Tr.val_test, Tr.val_fin, Tr.val_stop, leF_eq, b0, b1, if_true, Int.toNat_natCast, hd, hs, wrap64_nat (show i ≤ 9223372036854775806 by omega)]
  · simp [s199_0, t199_0, leF_eq]

theorem f168_eq (l : List SG) (x : SG) (h : l.length ≤ 1000) : f168 (l, (x.1, x.2.1, x.2.2.1, ()), ()) = some (hasS l x, ()) := by
  have hl := l199 l x h
  rw [← hasS_first]
  have e : f199 (l, (x.1, x.2.1, x.2.2.1, ()), ()) = some (match first (fun i => sgEq (sg l i) x) l.length 0 with
    | some k => (k : Int)
    | none => -1, ()) := by
    simp only [f199, t199, Tr.val_test, Tr.val_fin]
    cases hf : first (fun i => sgEq (sg l i) x) l.length 0 with
    | none =>
      rw [hf] at hl
      simp only [hl, isRet, Option.isSome_some, if_true, if_false, Bool.false_eq_true]
    | some k =>
      rw [hf] at hl
      simp only [hl, isRet, r199_0, outR, Option.isSome_some, if_true]
  simp only [f168, t168, Tr.val_test, Tr.val_fin, e, g199, leF_eq, Option.isSome_some, Option.getD_some, if_true]
  cases hf : first (fun i => sgEq (sg l i) x) l.length 0 with
  | none => rfl
  | some k => simp

/-- The refusal of a signature among the signatures. -/
def eS (n : Nat) (s : List SG) (i : Nat) : Int :=
  firstNZ [if (!wi 0 ((n : Int) - 1) (sg s i).1) = true then 6 else 0, if (!nm (sg s i).2.1) = true then 4 else if (!nm (sg s i).2.2.1) = true then 4 else 0, if hasS (s.take i) (sg s i) = true then 23 else 0]

def ckS (n : Nat) (s : List SG) : Int := if 20 < s.length then 8 else firstE (eS n s) s.length

theorem wsub {n : Nat} (h : n ≤ 1000) : wrap64 ((n : Int) - 1) = (n : Int) - 1 := by rw [wrap64_id] <;> omega

theorem l166 (n : Nat) (s : List SG) (hn : n ≤ 1000) (h : s.length ≤ 1000) : l166_0 ((s, (s.length : Int), (0 : Int), ()), ((n : Int), ()), (s, ()), ()) = match first (fun i => !decide (eS n s i = 0)) s.length 0 with
    | some k => some (.inr (((k : Int), eS n s k, ()), ((n : Int), ()), (s, ()), ()))
    | none => some (.inl ((), ((n : Int), ()), (s, ()), ())) := by
  refine itr_search (fun i => ((s, (s.length : Int), (i : Int), ()), ((n : Int), ()), (s, ()), ())) (fun i => !decide (eS n s i = 0)) (fun k => (((k : Int), eS n s k, ()), ((n : Int), ()), (s, ()), ())) (n := s.length) ?_ ?_ (lt_rounds (by omega))
  · intro i hi
    have b0 : (!decide ((s.length : Int) ≤ (i : Int))) = true := nT (by omega)
    have b1 : (decide ((0 : Int) ≤ (i : Int)) && decide ((i : Int) < (s.length : Int))) = true := dA (by omega) (by omega)
    have b2 : (decide ((0 : Int) ≤ (i : Int)) && decide ((i : Int) ≤ (s.length : Int))) = true := dA (by omega) (by omega)
    have hd : List.getD s i ((0 : Int), ({ data := { toList := [] } } : ByteArray), ({ data := { toList := [] } } : ByteArray), ()) = sg s i := rfl
    have e1 : f94 ((0 : Int), (n : Int) - 1, [(sg s i).1], ()) = some (wi 0 ((n : Int) - 1) (sg s i).1, ()) := f94_one _ _ _
    have e2 : f142 ((sg s i).2.1, ()) = some (nm (sg s i).2.1, ()) := f142_eq _
    have e3 : f142 ((sg s i).2.2.1, ()) = some (nm (sg s i).2.2.1, ()) := f142_eq _
    have e4 : f168 (s.take i, ((sg s i).1, (sg s i).2.1, (sg s i).2.2.1, ()), ()) = some (hasS (s.take i) (sg s i), ()) := f168_eq _ _ (by have := take_len s i; omega)
    have c80 : ∀ (b : Bool) (x : Int), f80 (b, x, ()) = some (if b = true then x else 0, ()) := fun b x => f80_eq _
    have c79 : ∀ x y z : Int, f79 ([x, y, z], ()) = some (firstNZ [x, y, z], ()) := f79_three
    simp only [s166_0, t166_0, Tr.val_test, Tr.val_fin, Tr.val_stop, leF_eq, eqF_eq, b0, b1, b2, if_true, Int.toNat_natCast, hd, wsub hn, e1, g94, e2, g142, e3, e4, g168, c80, g80, c79, g79, Option.isSome_some, Option.getD_some, wrap64_nat (show i ≤ 9223372036854775806 by omega), eS]
    rcases Bool.eq_false_or_eq_true (!nm (sg s i).2.1) with h1 | h1
    · simp only [h1, if_true]
    · simp only [h1, if_false, Bool.false_eq_true]
  · simp [s166_0, t166_0, leF_eq]

theorem f132_eq (n : Nat) (s : List SG) (hn : n ≤ 1000) : f132 (s, (n : Int), ()) = some (ckS n s, ()) := by
  show (t132 s (n : Int)).val = _
  unfold t132 ckS
  by_cases h : 20 < s.length
  · have b0 : (!leF (s.length : Int) 20) = true := by rw [leF_eq]; exact nT (by omega)
    simp only [Tr.val_test, Tr.val_fin, b0, if_true, h]
  · have b0 : (!leF (s.length : Int) 20) = false := by rw [leF_eq]; exact nF (by omega)
    have hl := l166 n s hn (by omega)
    unfold firstE
    cases hf : first (fun i => !decide (eS n s i = 0)) s.length 0 with
    | none =>
      rw [hf] at hl
      simp only [Tr.val_test, Tr.val_fin, b0, if_false, Bool.false_eq_true, h, hl, isRet, Option.isSome_some, if_true]
    | some k =>
      rw [hf] at hl
      simp only [Tr.val_test, Tr.val_fin, b0, if_false, Bool.false_eq_true, h, hl, isRet, r166_0, outR, Option.isSome_some, if_true]

theorem eS_cases (n : Nat) (s : List SG) (i : Nat) : eS n s i = if wi 0 ((n : Int) - 1) (sg s i).1 = true then (if nm (sg s i).2.1 = true then (if nm (sg s i).2.2.1 = true then (if hasS (s.take i) (sg s i) = true then 23 else 0) else 4) else 4) else 6 := by
  unfold eS
  rcases Bool.eq_false_or_eq_true (wi 0 ((n : Int) - 1) (sg s i).1) with h1 | h1 <;> rcases Bool.eq_false_or_eq_true (nm (sg s i).2.1) with h2 | h2 <;> rcases Bool.eq_false_or_eq_true (nm (sg s i).2.2.1) with h3 | h3 <;> rcases Bool.eq_false_or_eq_true (hasS (s.take i) (sg s i)) with h4 | h4 <;> simp [h1, h2, h3, h4, firstNZ]

theorem l65d (n : Nat) (s : List SG) (i : Nat) (hi : i < s.length) (h : s.length ≤ 1000) : l65_2 (((n : Int), s, (i : Int), (0 : Int), ()), ()) = if hasS (s.take i) (sg s i) = true then some (.inr (((23 : Int), ()), ())) else some (.inl (((n : Int), s, (i : Int), ()), ())) := by
  have hs := itr_search (step := s65_2) (fun k => (((n : Int), s, (i : Int), (k : Int), ()), ())) (fun k => sgEq (sg (s.take i) k) (sg s i)) (fun _ => (((23 : Int), ()), ())) (n := i) (m := rounds) (b := (((n : Int), s, (i : Int), ()), ())) ?_ ?_ (lt_rounds (by omega))
  · have hl : (s.take i).length = i := by rw [List.length_take]; omega
    rw [← hasS_first, hl]
    have e0 : l65_2 (((n : Int), s, (i : Int), (0 : Int), ()), ()) = itr s65_2 rounds (((n : Int), s, (i : Int), ((0 : Nat) : Int), ()), ()) := rfl
    rw [e0, hs]
    cases first (fun k => sgEq (sg (s.take i) k) (sg s i)) i 0 with
    | none => rfl
    | some k => rfl
  · intro k hk
    have b0 : (!decide ((i : Int) ≤ (k : Int))) = true := nT (by omega)
    have b1 : (decide ((0 : Int) ≤ (k : Int)) && decide ((k : Int) < (s.length : Int))) = true := dA (by omega) (by omega)
    have b2 : (decide ((0 : Int) ≤ (i : Int)) && decide ((i : Int) < (s.length : Int))) = true := dA (by omega) (by omega)
    have hd : ∀ j, List.getD s j ((0 : Int), ({ data := { toList := [] } } : ByteArray), ({ data := { toList := [] } } : ByteArray), ()) = sg s j := fun _ => rfl
    have ht : sg (s.take i) k = sg s k := by
      unfold sg
      rw [List.getD_eq_getElem?_getD, List.getD_eq_getElem?_getD, List.getElem?_take, if_pos hk]
    have hs : ((sg s k).1 == (sg s i).1 && (strEq (sg s k).2.1 (sg s i).2.1 && (strEq (sg s k).2.2.1 (sg s i).2.2.1 && true))) = sgEq (sg s k) (sg s i) := rfl
    simp only [s65_2, t65_2, Tr.val_test, Tr.val_fin, Tr.val_stop, leF_eq, b0, b1, b2, if_true, Int.toNat_natCast, hd, ht, hs, wrap64_nat (show k ≤ 9223372036854775806 by omega)]
  · simp [s65_2, t65_2, leF_eq]

theorem l65 (n : Nat) (s : List SG) (hn : n ≤ 1000) (h : s.length ≤ 1000) : l65_0 (((n : Int), s, (0 : Int), ()), ()) = match first (fun i => !decide (eS n s i = 0)) s.length 0 with
    | some k => some (.inr ((eS n s k, ()), ()))
    | none => some (.inl ((), ())) := by
  refine itr_search (fun i => (((n : Int), s, (i : Int), ()), ())) (fun i => !decide (eS n s i = 0)) (fun k => ((eS n s k, ()), ())) (n := s.length) ?_ ?_ (lt_rounds (by omega))
  · intro i hi
    have b0 : (!decide ((s.length : Int) ≤ (i : Int))) = true := nT (by omega)
    have b1 : (decide ((0 : Int) ≤ (i : Int)) && decide ((i : Int) < (s.length : Int))) = true := dA (by omega) (by omega)
    have hd : List.getD s i ((0 : Int), ({ data := { toList := [] } } : ByteArray), ({ data := { toList := [] } } : ByteArray), ()) = sg s i := rfl
    have e1 : f25 ((sg s i).1, (0 : Int), (n : Int) - 1, ()) = some (wi 0 ((n : Int) - 1) (sg s i).1, ()) := f25_eq _
    have e2 : f95 ((sg s i).2.1, ()) = some (nm (sg s i).2.1, ()) := f95_eq _
    have e3 : f95 ((sg s i).2.2.1, ()) = some (nm (sg s i).2.2.1, ()) := f95_eq _
    have e4 := l65d n s i hi h
    rw [eS_cases]
    simp only [s65_0, t65_0, Tr.val_test, Tr.val_fin, Tr.val_stop, leF_eq, b0, b1, if_true, Int.toNat_natCast, hd, wsub hn, e1, g25, e2, g95, e3, Option.isSome_some, Option.getD_some, wrap64_nat (show i ≤ 9223372036854775806 by omega)]
    rcases Bool.eq_false_or_eq_true (wi 0 ((n : Int) - 1) (sg s i).1) with h1 | h1
    · rcases Bool.eq_false_or_eq_true (nm (sg s i).2.1) with h2 | h2
      · rcases Bool.eq_false_or_eq_true (nm (sg s i).2.2.1) with h3 | h3
        · rcases Bool.eq_false_or_eq_true (hasS (s.take i) (sg s i)) with h4 | h4
          · rw [h4] at e4
            simp only [if_true] at e4
            simp [h1, h2, h3, h4, e4, isRet, r65_2, outR]
          · rw [h4] at e4
            simp only [if_false, Bool.false_eq_true] at e4
            simp [h1, h2, h3, h4, e4, isRet, b65_2, outB, wrap64_nat (show i ≤ 9223372036854775806 by omega)]
        · simp [h1, h2, h3]
      · simp [h1, h2]
    · simp [h1]
  · simp [s65_0, t65_0, leF_eq]

theorem f65_eq (n : Nat) (s : List SG) (hn : n ≤ 1000) : f65 ((n : Int), s, ()) = some (ckS n s, ()) := by
  show (t65 (n : Int) s).val = _
  unfold t65 ckS
  by_cases h : 20 < s.length
  · have b0 : (!leF (s.length : Int) 20) = true := by rw [leF_eq]; exact nT (by omega)
    simp only [Tr.val_test, Tr.val_fin, b0, if_true, h]
  · have b0 : (!leF (s.length : Int) 20) = false := by rw [leF_eq]; exact nF (by omega)
    have hl := l65 n s hn (by omega)
    unfold firstE
    cases hf : first (fun i => !decide (eS n s i = 0)) s.length 0 with
    | none =>
      rw [hf] at hl
      simp only [Tr.val_test, Tr.val_fin, b0, if_false, Bool.false_eq_true, h, hl, isRet, Option.isSome_some, if_true]
    | some k =>
      rw [hf] at hl
      simp only [Tr.val_test, Tr.val_fin, b0, if_false, Bool.false_eq_true, h, hl, isRet, r65_0, outR, Option.isSome_some, if_true]

/-! ### Roles that have not signed -/

/-- The places where it is so, of the first n. -/
def places (p : Nat → Bool) : Nat → List Int
  | 0 => []
  | n + 1 => if p n = true then places p n ++ [(n : Int)] else places p n

theorem places_len (p : Nat → Bool) : ∀ n, (places p n).length ≤ n
  | 0 => Nat.le_refl _
  | n + 1 => by
    have := places_len p n
    unfold places
    split
    · rw [List.length_append]; simp; omega
    · omega

def signs (g : Int) (r : ByteArray) (x : SG) : Bool := decide (x.1 = g) && strEq x.2.2.1 r
def unsigned (rs : List ByteArray) (g : Int) (s : List SG) (k : Nat) : Bool := !s.any (signs g (bs rs k))
def miss (rs : List ByteArray) (g : Int) (s : List SG) : List Int := places (unsigned rs g s) rs.length

theorem signs_first (g : Int) (r : ByteArray) (s : List SG) : (first (fun i => signs g r (sg s i)) s.length 0).isSome = s.any (signs g r) := any_first _ s _

theorem l200 (g : Int) (r : ByteArray) (s : List SG) (h : s.length ≤ 1000) : l200_0 ((s, (s.length : Int), (0 : Int), ()), (g, ()), (r, ()), ()) = match first (fun i => signs g r (sg s i)) s.length 0 with
    | some k => some (.inr (((k : Int), ()), (g, ()), (r, ()), ()))
    | none => some (.inl ((), (g, ()), (r, ()), ())) := by
  refine itr_search (fun i => ((s, (s.length : Int), (i : Int), ()), (g, ()), (r, ()), ())) (fun i => signs g r (sg s i)) (fun k => (((k : Int), ()), (g, ()), (r, ()), ())) (n := s.length) ?_ ?_ (lt_rounds (by omega))
  · intro i hi
    have b0 : (!decide ((s.length : Int) ≤ (i : Int))) = true := nT (by omega)
    have b1 : (decide ((0 : Int) ≤ (i : Int)) && decide ((i : Int) < (s.length : Int))) = true := dA (by omega) (by omega)
    have hd : List.getD s i ((0 : Int), ({ data := { toList := [] } } : ByteArray), ({ data := { toList := [] } } : ByteArray), ()) = sg s i := rfl
    simp only [s200_0, t200_0, Tr.val_test, Tr.val_fin, Tr.val_stop, leF_eq, eqF_eq, b0, b1, if_true, Int.toNat_natCast, hd, wrap64_nat (show i ≤ 9223372036854775806 by omega), signs]
    by_cases h1 : (sg s i).1 = g
    · have d1 : decide ((sg s i).1 = g) = true := dT h1
      simp only [d1, if_true, Bool.true_and]
    · have d1 : decide ((sg s i).1 = g) = false := dF h1
      simp only [d1, if_false, Bool.false_eq_true, Bool.false_and]
  · simp [s200_0, t200_0, leF_eq]

theorem l133 (rs : List ByteArray) (g : Int) (s : List SG) (h : s.length ≤ 1000) (hr : rs.length ≤ 1000) : l133_0 ((s, ([] : List Int), rs, (rs.length : Int), (0 : Int), ()), (g, ()), ()) = some (.inl ((miss rs g s, ()), (g, ()), ())) := by
  unfold miss
  refine itr_brk (fun k => ((s, places (unsigned rs g s) k, rs, (rs.length : Int), (k : Int), ()), (g, ()), ())) (n := rs.length) ?_ ?_ (lt_rounds (by omega))
  · intro k hk
    have b0 : (!decide ((rs.length : Int) ≤ (k : Int))) = true := nT (by omega)
    have b1 : (decide ((0 : Int) ≤ (k : Int)) && decide ((k : Int) < (rs.length : Int))) = true := dA (by omega) (by omega)
    have hp := places_len (unsigned rs g s) k
    have b2 : (Nat.ble ((2 * ((places (unsigned rs g s) k).length + 1) + 192) * 8) 281474976710656 && Nat.ble ((places (unsigned rs g s) k).length + 1) 281474976710656) = true := by
      rw [Nat.ble_eq_true_of_le (by omega), Nat.ble_eq_true_of_le (by omega)]; rfl
    have hd : List.getD rs k ({ data := { toList := [] } } : ByteArray) = bs rs k := rfl
    have hl := l200 g (bs rs k) s h
    have hu : places (unsigned rs g s) (k + 1) = if (first (fun i => signs g (bs rs k) (sg s i)) s.length 0).isSome = true then places (unsigned rs g s) k else places (unsigned rs g s) k ++ [(k : Int)] := by
      rw [signs_first, places]
      unfold unsigned
      rcases Bool.eq_false_or_eq_true (s.any (signs g (bs rs k))) with h1 | h1 <;> simp only [h1, Bool.not_true, Bool.not_false, if_true, if_false, Bool.false_eq_true]
    show s133_0 ((s, places (unsigned rs g s) k, rs, (rs.length : Int), (k : Int), ()), (g, ()), ()) = some (.again ((s, places (unsigned rs g s) (k + 1), rs, (rs.length : Int), ((k + 1 : Nat) : Int), ()), (g, ()), ()))
    rw [hu]
    cases hf : first (fun i => signs g (bs rs k) (sg s i)) s.length 0 with
    | none =>
      rw [hf] at hl
      simp only [s133_0, t133_0, Tr.val_test, Tr.val_fin, Tr.val_stop, leF_eq, b0, b1, b2, if_true, Int.toNat_natCast, hd, hl, isRet, b200_0, outB, Option.isSome_some, Option.isSome_none, if_false, Bool.false_eq_true, wrap64_nat (show k ≤ 9223372036854775806 by omega)]
    | some j =>
      rw [hf] at hl
      have b3 : (!decide ((0 : Int) ≤ (j : Int))) = false := nF (by omega)
      simp only [s133_0, t133_0, Tr.val_test, Tr.val_fin, Tr.val_stop, leF_eq, b0, b1, b3, if_true, Int.toNat_natCast, hd, hl, isRet, r200_0, outR, Option.isSome_some, if_false, Bool.false_eq_true, wrap64_nat (show k ≤ 9223372036854775806 by omega)]
  · simp [s133_0, t133_0, leF_eq]

theorem f133_eq (l : List GT) (g : Nat) (s : List SG) (hg : g < l.length) (h : s.length ≤ 1000) (hr : (gt l g).2.1.length ≤ 1000) : f133 (l, (g : Int), s, ()) = some (miss (gt l g).2.1 g s, ()) := by
  have b1 : (decide ((0 : Int) ≤ (g : Int)) && decide ((g : Int) < (l.length : Int))) = true := dA (by omega) (by omega)
  have hd : List.getD l g (({ data := { toList := [] } } : ByteArray), ([] : List ByteArray), (0 : Int), ()) = gt l g := rfl
  have hl := l133 (gt l g).2.1 g s h hr
  simp only [f133, t133, Tr.val_test, Tr.val_fin, b1, if_true, Int.toNat_natCast, hd, hl, isBrk, b133_0, outB]

/-- Whether it is so at one of the first n. -/
def anyN (p : Nat → Bool) : Nat → Bool
  | 0 => false
  | n + 1 => anyN p n || p n

theorem anyN_first (p : Nat → Bool) (n : Nat) : anyN p n = (first p n 0).isSome := by
  rw [Bool.eq_iff_iff, isSome_first]
  induction n with
  | zero => simp [anyN]
  | succ n ih =>
    simp only [anyN, Bool.or_eq_true, ih]
    constructor
    · rintro (⟨i, hi, e⟩ | e)
      · exact ⟨i, by omega, e⟩
      · exact ⟨n, by omega, e⟩
    · rintro ⟨i, hi, e⟩
      by_cases h : i = n
      · subst h; exact .inr e
      · exact .inl ⟨i, by omega, e⟩

theorem l66s (l : List GT) (g : Nat) (s : List SG) (m : List Int) (k : Nat) (hg : g < l.length) (hk : k < (gt l g).2.1.length) (h : s.length ≤ 1000) :
    l66_2_1 ((l, (g : Int), s, m, (k : Int), false, (0 : Int), ()), ()) = some (.inl ((l, (g : Int), s, m, (k : Int), s.any (signs g (bs (gt l g).2.1 k)), ()), ())) := by
  rw [← signs_first, ← anyN_first]
  have hd : List.getD l g (({ data := { toList := [] } } : ByteArray), ([] : List ByteArray), (0 : Int), ()) = gt l g := rfl
  have hd2 : ∀ j, List.getD s j ((0 : Int), ({ data := { toList := [] } } : ByteArray), ({ data := { toList := [] } } : ByteArray), ()) = sg s j := fun _ => rfl
  have hd3 : List.getD (gt l g).2.1 k ({ data := { toList := [] } } : ByteArray) = bs (gt l g).2.1 k := rfl
  have b1 : (decide ((0 : Int) ≤ (g : Int)) && decide ((g : Int) < (l.length : Int))) = true := dA (by omega) (by omega)
  have b2 : (decide ((0 : Int) ≤ (k : Int)) && decide ((k : Int) < ((gt l g).2.1.length : Int))) = true := dA (by omega) (by omega)
  refine itr_brk (fun j => ((l, (g : Int), s, m, (k : Int), anyN (fun i => signs g (bs (gt l g).2.1 k) (sg s i)) j, (j : Int), ()), ())) (n := s.length) ?_ ?_ (lt_rounds (by omega))
  · intro j hj
    have b0 : (!decide ((s.length : Int) ≤ (j : Int))) = true := nT (by omega)
    have b3 : (decide ((0 : Int) ≤ (j : Int)) && decide ((j : Int) < (s.length : Int))) = true := dA (by omega) (by omega)
    have hsg : signs g (bs (gt l g).2.1 k) (sg s j) = (decide ((sg s j).1 = (g : Int)) && strEq (sg s j).2.2.1 (bs (gt l g).2.1 k)) := rfl
    have ha : anyN (fun i => signs g (bs (gt l g).2.1 k) (sg s i)) (j + 1) = (anyN (fun i => signs g (bs (gt l g).2.1 k) (sg s i)) j || signs g (bs (gt l g).2.1 k) (sg s j)) := rfl
    show s66_2_1 ((l, (g : Int), s, m, (k : Int), anyN (fun i => signs g (bs (gt l g).2.1 k) (sg s i)) j, (j : Int), ()), ()) = some (.again ((l, (g : Int), s, m, (k : Int), anyN (fun i => signs g (bs (gt l g).2.1 k) (sg s i)) (j + 1), ((j + 1 : Nat) : Int), ()), ()))
    rw [ha]
    rcases Bool.eq_false_or_eq_true (anyN (fun i => signs g (bs (gt l g).2.1 k) (sg s i)) j) with h1 | h1
    · simp only [s66_2_1, t66_2_1, Tr.val_test, Tr.val_fin, Tr.val_stop, leF_eq, b0, h1, if_true, Bool.true_or, wrap64_nat (show j ≤ 9223372036854775806 by omega)]
    · by_cases h2 : (sg s j).1 = (g : Int)
      · have d2 : decide ((sg s j).1 = (g : Int)) = true := dT h2
        simp only [s66_2_1, t66_2_1, Tr.val_test, Tr.val_fin, Tr.val_stop, leF_eq, eqF_eq, b0, b1, b2, b3, h1, hd, hd2, hd3, d2, if_true, if_false, Bool.false_eq_true, Bool.false_or, Int.toNat_natCast, wrap64_nat (show j ≤ 9223372036854775806 by omega), hsg, Bool.true_and]
      · have d2 : decide ((sg s j).1 = (g : Int)) = false := dF h2
        simp only [s66_2_1, t66_2_1, Tr.val_test, Tr.val_fin, Tr.val_stop, leF_eq, eqF_eq, b0, b1, b2, b3, h1, hd, hd2, hd3, d2, if_true, if_false, Bool.false_eq_true, Bool.false_or, Int.toNat_natCast, wrap64_nat (show j ≤ 9223372036854775806 by omega), hsg, Bool.false_and]
  · simp [s66_2_1, t66_2_1, leF_eq]

theorem l66 (l : List GT) (g : Nat) (s : List SG) (hg : g < l.length) (h : s.length ≤ 1000) (hr : (gt l g).2.1.length ≤ 1000) : l66_0 ((l, (g : Int), s, ([] : List Int), (0 : Int), ()), ()) = some (.inl ((miss (gt l g).2.1 g s, ()), ())) := by
  have hd : List.getD l g (({ data := { toList := [] } } : ByteArray), ([] : List ByteArray), (0 : Int), ()) = gt l g := rfl
  have b1 : (decide ((0 : Int) ≤ (g : Int)) && decide ((g : Int) < (l.length : Int))) = true := dA (by omega) (by omega)
  unfold miss
  refine itr_brk (fun k => ((l, (g : Int), s, places (unsigned (gt l g).2.1 g s) k, (k : Int), ()), ())) (n := (gt l g).2.1.length) ?_ ?_ (lt_rounds (by omega))
  · intro k hk
    have b0 : (!decide (((gt l g).2.1.length : Int) ≤ (k : Int))) = true := nT (by omega)
    have hp := places_len (unsigned (gt l g).2.1 g s) k
    have b2 : (Nat.ble ((2 * ((places (unsigned (gt l g).2.1 g s) k).length + 1) + 192) * 8) 281474976710656 && Nat.ble ((places (unsigned (gt l g).2.1 g s) k).length + 1) 281474976710656) = true := by
      rw [Nat.ble_eq_true_of_le (by omega), Nat.ble_eq_true_of_le (by omega)]; rfl
    have hs := l66s l g s (places (unsigned (gt l g).2.1 g s) k) k hg hk h
    have hu : places (unsigned (gt l g).2.1 g s) (k + 1) = if (!s.any (signs g (bs (gt l g).2.1 k))) = true then places (unsigned (gt l g).2.1 g s) k ++ [(k : Int)] else places (unsigned (gt l g).2.1 g s) k := rfl
    show s66_0 ((l, (g : Int), s, places (unsigned (gt l g).2.1 g s) k, (k : Int), ()), ()) = some (.again ((l, (g : Int), s, places (unsigned (gt l g).2.1 g s) (k + 1), ((k + 1 : Nat) : Int), ()), ()))
    rw [hu]
    simp only [s66_0, t66_0, Tr.val_test, Tr.val_fin, Tr.val_stop, leF_eq, b0, b1, if_true, Int.toNat_natCast, hd, hs, isBrk, b66_2_1, outB, b2, wrap64_nat (show k ≤ 9223372036854775806 by omega)]
    rcases Bool.eq_false_or_eq_true (!s.any (signs g (bs (gt l g).2.1 k))) with h1 | h1 <;> simp only [h1, if_true, if_false, Bool.false_eq_true]
  · have b0 : (!decide (((gt l g).2.1.length : Int) ≤ ((gt l g).2.1.length : Int))) = false := nF (by omega)
    simp only [s66_0, t66_0, Tr.val_test, Tr.val_fin, Tr.val_stop, leF_eq, b0, b1, if_true, if_false, Bool.false_eq_true, Int.toNat_natCast, hd]

theorem f66_eq (l : List GT) (g : Nat) (s : List SG) (hg : g < l.length) (h : s.length ≤ 1000) (hr : (gt l g).2.1.length ≤ 1000) : f66 (l, (g : Int), s, ()) = some (miss (gt l g).2.1 g s, ()) := by
  have hl := l66 l g s hg h hr
  simp only [f66, t66, Tr.val_test, Tr.val_fin, hl, isBrk, b66_0, outB, if_true]

/-! ### Persons -/

/-- Who signed the gate, of the first n signatures, each once. -/
def ppl (g : Int) (s : List SG) : Nat → List ByteArray
  | 0 => []
  | n + 1 => if decide ((sg s n).1 = g) = true then (if hasT (ppl g s n) (sg s n).2.1 = true then ppl g s n else ppl g s n ++ [(sg s n).2.1]) else ppl g s n

theorem ppl_len (g : Int) (s : List SG) : ∀ n, (ppl g s n).length ≤ n
  | 0 => Nat.le_refl _
  | n + 1 => by
    have := ppl_len g s n
    unfold ppl
    split
    · split
      · omega
      · rw [List.length_append]; simp; omega
    · omega

theorem mput_keys (x : ByteArray) : ∀ l : List ByteArray, (mput (k := .str) (v := .bool) (l.map fun y => (y, true)) x true) = (if hasT l x = true then l else l ++ [x]).map fun y => (y, true)
  | [] => rfl
  | y :: l => by
    have ih := mput_keys x l
    show (match strEq x y with | true => (x, true) :: (l.map fun y => (y, true)) | false => (y, true) :: mput (k := .str) (v := .bool) (l.map fun y => (y, true)) x true) = _
    have hh : hasT (y :: l) x = (strEq y x || hasT l x) := rfl
    rw [hh]
    rw [strEq_comm y x]
    cases h1 : strEq x y with
    | true =>
      have : x = y := by rw [strEq_eq, decide_eq_true_eq] at h1; exact h1
      subst this
      simp
    | false =>
      simp only [Bool.false_or, ih]
      by_cases h2 : hasT l x = true
      · simp [h2]
      · simp [h2]

theorem l134 (g : Int) (s : List SG) (h : s.length ≤ 1000) : l134_0 ((g, s, (s.length : Int), (0 : Int), ()), ([] : List (ByteArray × Bool)), ()) = some (.inl ((), (ppl g s s.length).map (fun y => (y, true)), ())) := by
  refine itr_brk (fun k => ((g, s, (s.length : Int), (k : Int), ()), (ppl g s k).map (fun y => (y, true)), ())) (n := s.length) ?_ ?_ (lt_rounds (by omega))
  · intro k hk
    have b0 : (!decide ((s.length : Int) ≤ (k : Int))) = true := nT (by omega)
    have b1 : (decide ((0 : Int) ≤ (k : Int)) && decide ((k : Int) < (s.length : Int))) = true := dA (by omega) (by omega)
    have hd : List.getD s k ((0 : Int), ({ data := { toList := [] } } : ByteArray), ({ data := { toList := [] } } : ByteArray), ()) = sg s k := rfl
    have hm := mput_keys (sg s k).2.1 (ppl g s k)
    have hp : ppl g s (k + 1) = if decide ((sg s k).1 = g) = true then (if hasT (ppl g s k) (sg s k).2.1 = true then ppl g s k else ppl g s k ++ [(sg s k).2.1]) else ppl g s k := rfl
    show s134_0 ((g, s, (s.length : Int), (k : Int), ()), (ppl g s k).map (fun y => (y, true)), ()) = some (.again ((g, s, (s.length : Int), ((k + 1 : Nat) : Int), ()), (ppl g s (k + 1)).map (fun y => (y, true)), ()))
    rw [hp]
    rcases Bool.eq_false_or_eq_true (decide ((sg s k).1 = g)) with h1 | h1
    · simp only [s134_0, t134_0, Tr.val_test, Tr.val_fin, Tr.val_stop, leF_eq, eqF_eq, b0, b1, h1, if_true, Int.toNat_natCast, hd, wrap64_nat (show k ≤ 9223372036854775806 by omega)]
      rw [← hm]
    · simp only [s134_0, t134_0, Tr.val_test, Tr.val_fin, Tr.val_stop, leF_eq, eqF_eq, b0, b1, h1, if_true, if_false, Bool.false_eq_true, Int.toNat_natCast, hd, wrap64_nat (show k ≤ 9223372036854775806 by omega)]
  · simp [s134_0, t134_0, leF_eq]

theorem f134_eq (g : Int) (s : List SG) (h : s.length ≤ 1000) : f134 (g, s, ()) = some (((ppl g s s.length).length : Int), ()) := by
  have hl := l134 g s h
  simp only [f134, t134, Tr.val_test, Tr.val_fin, hl, isBrk, b134_0, outB, if_true, List.length_map]

theorem l69 (g : Int) (s : List SG) (h : s.length ≤ 1000) : l69_0 ((g, s, ([] : List ByteArray), (0 : Int), ()), ()) = some (.inl ((ppl g s s.length, ()), ())) := by
  refine itr_brk (fun k => ((g, s, ppl g s k, (k : Int), ()), ())) (n := s.length) ?_ ?_ (lt_rounds (by omega))
  · intro k hk
    have b0 : (!decide ((s.length : Int) ≤ (k : Int))) = true := nT (by omega)
    have b1 : (decide ((0 : Int) ≤ (k : Int)) && decide ((k : Int) < (s.length : Int))) = true := dA (by omega) (by omega)
    have hd : List.getD s k ((0 : Int), ({ data := { toList := [] } } : ByteArray), ({ data := { toList := [] } } : ByteArray), ()) = sg s k := rfl
    have hpl := ppl_len g s k
    have b2 : (Nat.ble ((2 * ((ppl g s k).length + 1) + 192) * 16) 281474976710656 && Nat.ble ((ppl g s k).length + 1) 281474976710656) = true := by
      rw [Nat.ble_eq_true_of_le (by omega), Nat.ble_eq_true_of_le (by omega)]; rfl
    have e1 : f96 (ppl g s k, (sg s k).2.1, ()) = some (hasT (ppl g s k) (sg s k).2.1, ()) := f96_eq _ _ (by omega)
    have hp : ppl g s (k + 1) = if decide ((sg s k).1 = g) = true then (if hasT (ppl g s k) (sg s k).2.1 = true then ppl g s k else ppl g s k ++ [(sg s k).2.1]) else ppl g s k := rfl
    show s69_0 ((g, s, ppl g s k, (k : Int), ()), ()) = some (.again ((g, s, ppl g s (k + 1), ((k + 1 : Nat) : Int), ()), ()))
    rw [hp]
    rcases Bool.eq_false_or_eq_true (decide ((sg s k).1 = g)) with h1 | h1
    · simp only [s69_0, t69_0, Tr.val_test, Tr.val_fin, Tr.val_stop, leF_eq, eqF_eq, b0, b1, b2, h1, if_true, Int.toNat_natCast, hd, e1, g96, Option.isSome_some, Option.getD_some, wrap64_nat (show k ≤ 9223372036854775806 by omega)]
      rcases Bool.eq_false_or_eq_true (hasT (ppl g s k) (sg s k).2.1) with h2 | h2
      · simp only [h2, Bool.not_true, if_true, if_false, Bool.false_eq_true]
      · simp only [h2, Bool.not_false, if_true, if_false, Bool.false_eq_true]
    · simp only [s69_0, t69_0, Tr.val_test, Tr.val_fin, Tr.val_stop, leF_eq, eqF_eq, b0, b1, h1, if_true, if_false, Bool.false_eq_true, Int.toNat_natCast, hd, wrap64_nat (show k ≤ 9223372036854775806 by omega)]
  · simp [s69_0, t69_0, leF_eq]

theorem f69_eq (g : Int) (s : List SG) (h : s.length ≤ 1000) : f69 (g, s, ()) = some (((ppl g s s.length).length : Int), ()) := by
  have hl := l69 g s h
  simp only [f69, t69, Tr.val_test, Tr.val_fin, hl, isBrk, b69_0, outB, if_true]

end Go.Vm.Mo

namespace Go.Vm.Mo
open Go
set_option linter.unusedVariables false
set_option linter.unusedSimpArgs false

def bigR (rs : List ByteArray) (k : Nat) : Bool := !decide ((bs rs k).size ≤ 30)
def bigG (g : GT) : Bool := !decide (g.1.size ≤ 30) || (!decide (g.2.1.length ≤ 6) || (first (bigR g.2.1) g.2.1.length 0).isSome)
def fewG (l : List GT) : Bool := decide (l.length ≤ 8) && (first (fun i => bigG (gt l i)) l.length 0).isNone
def bigS (x : SG) : Bool := !decide (x.2.1.size ≤ 30) || !decide (x.2.2.1.size ≤ 30)
def fewS (s : List SG) : Bool := decide (s.length ≤ 22) && (first (fun i => bigS (sg s i)) s.length 0).isNone

theorem natD {a b : Nat} : decide ((a : Int) ≤ (b : Int)) = decide (a ≤ b) := decide_eq_decide.2 Int.ofNat_le

theorem l57r (l : List GT) (i : Nat) (hi : i < l.length) (hr : (gt l i).2.1.length ≤ 1000) : l57_2 ((l, (i : Int), (0 : Int), ()), ()) = match first (bigR (gt l i).2.1) (gt l i).2.1.length 0 with
    | some _ => some (.inr ((false, ()), ()))
    | none => some (.inl ((l, (i : Int), ()), ())) := by
  have hd : List.getD l i (({ data := { toList := [] } } : ByteArray), ([] : List ByteArray), (0 : Int), ()) = gt l i := rfl
  have b1 : (decide ((0 : Int) ≤ (i : Int)) && decide ((i : Int) < (l.length : Int))) = true := dA (by omega) (by omega)
  refine itr_search (fun k => ((l, (i : Int), (k : Int), ()), ())) (bigR (gt l i).2.1) (fun _ => ((false, ()), ())) (n := (gt l i).2.1.length) ?_ ?_ (lt_rounds (by omega))
  · intro k hk
    have b0 : (!decide (((gt l i).2.1.length : Int) ≤ (k : Int))) = true := nT (by omega)
    have b2 : (decide ((0 : Int) ≤ (k : Int)) && decide ((k : Int) < ((gt l i).2.1.length : Int))) = true := dA (by omega) (by omega)
    have hd2 : List.getD (gt l i).2.1 k ({ data := { toList := [] } } : ByteArray) = bs (gt l i).2.1 k := rfl
    have hb : (!decide (((bs (gt l i).2.1 k).size : Int) ≤ 30)) = bigR (gt l i).2.1 k := by
      unfold bigR; rw [← natD]; rfl
    simp only [s57_2, t57_2, Tr.val_test, Tr.val_fin, Tr.val_stop, leF_eq, b0, b1, b2, if_true, Int.toNat_natCast, hd, hd2, hb, wrap64_nat (show k ≤ 9223372036854775806 by omega)]
  · have b0 : (!decide (((gt l i).2.1.length : Int) ≤ ((gt l i).2.1.length : Int))) = false := nF (by omega)
    simp only [s57_2, t57_2, Tr.val_test, Tr.val_fin, Tr.val_stop, leF_eq, b0, b1, if_true, if_false, Bool.false_eq_true, Int.toNat_natCast, hd]

theorem l57 (l : List GT) (h : l.length ≤ 1000) : l57_0 ((l, (0 : Int), ()), ()) = match first (fun i => bigG (gt l i)) l.length 0 with
    | some _ => some (.inr ((false, ()), ()))
    | none => some (.inl ((), ())) := by
  refine itr_search (fun i => ((l, (i : Int), ()), ())) (fun i => bigG (gt l i)) (fun _ => ((false, ()), ())) (n := l.length) ?_ ?_ (lt_rounds (by omega))
  · intro i hi
    have hd : List.getD l i (({ data := { toList := [] } } : ByteArray), ([] : List ByteArray), (0 : Int), ()) = gt l i := rfl
    have b0 : (!decide ((l.length : Int) ≤ (i : Int))) = true := nT (by omega)
    have b1 : (decide ((0 : Int) ≤ (i : Int)) && decide ((i : Int) < (l.length : Int))) = true := dA (by omega) (by omega)
    have h1 : (!decide (((gt l i).1.size : Int) ≤ 30)) = !decide ((gt l i).1.size ≤ 30) := by rw [← natD]; rfl
    have h2 : (!decide (((gt l i).2.1.length : Int) ≤ 6)) = !decide ((gt l i).2.1.length ≤ 6) := by rw [← natD]; rfl
    have hg : bigG (gt l i) = (!decide ((gt l i).1.size ≤ 30) || (!decide ((gt l i).2.1.length ≤ 6) || (first (bigR (gt l i).2.1) (gt l i).2.1.length 0).isSome)) := rfl
    rw [hg]
    simp only [s57_0, t57_0, Tr.val_test, Tr.val_fin, Tr.val_stop, leF_eq, b0, b1, if_true, Int.toNat_natCast, hd, h1, h2]
    by_cases k1 : (gt l i).1.size ≤ 30
    · by_cases k2 : (gt l i).2.1.length ≤ 6
      · have e := l57r l i hi (by omega)
        have k1' := nF k1
        have k2' := nF k2
        simp only [k1', k2', if_false, Bool.false_eq_true, Bool.false_or]
        cases hf : first (bigR (gt l i).2.1) (gt l i).2.1.length 0 with
        | none =>
          rw [hf] at e
          simp only [e, isRet, b57_2, outB, Option.isSome_some, Option.isSome_none, if_true, if_false, Bool.false_eq_true, wrap64_nat (show i ≤ 9223372036854775806 by omega)]
        | some j =>
          rw [hf] at e
          simp only [e, isRet, r57_2, outR, Option.isSome_some, if_true]
      · have k1' := nF k1
        have k2' := nT k2
        simp only [k1', k2', if_true, if_false, Bool.false_eq_true, Bool.false_or, Bool.true_or]
    · have k1' := nT k1
      simp only [k1', if_true, Bool.true_or]
  · simp [s57_0, t57_0, leF_eq]

theorem f57_eq (l : List GT) : f57 (l, ()) = some (fewG l, ()) := by
  show (t57 l).val = _
  unfold t57 fewG
  by_cases h : l.length ≤ 8
  · have b0 : (!leF (l.length : Int) 8) = false := by rw [leF_eq]; exact nF (by omega)
    have c0 : decide (l.length ≤ 8) = true := dT h
    have e := l57 l (by omega)
    simp only [Tr.val_test, Tr.val_fin, b0, c0, if_false, Bool.false_eq_true, Bool.true_and]
    cases hf : first (fun i => bigG (gt l i)) l.length 0 with
    | none =>
      rw [hf] at e
      simp only [e, isRet, Option.isSome_some, if_true, if_false, Bool.false_eq_true, Option.isNone_none]
    | some j =>
      rw [hf] at e
      simp only [e, isRet, r57_0, outR, Option.isSome_some, if_true, Option.isNone_some]
  · have b0 : (!leF (l.length : Int) 8) = true := by rw [leF_eq]; exact nT (by omega)
    have c0 : decide (l.length ≤ 8) = false := dF h
    simp only [Tr.val_test, Tr.val_fin, b0, c0, if_true, Bool.false_and]

theorem fewG_len {l : List GT} (h : fewG l = true) : l.length ≤ 8 := by
  unfold fewG at h
  rw [Bool.and_eq_true, decide_eq_true_eq] at h
  exact h.1
theorem fewG_roles {l : List GT} (h : fewG l = true) : ∀ i, i < l.length → (gt l i).2.1.length ≤ 6 := by
  unfold fewG at h
  rw [Bool.and_eq_true, isNone_first] at h
  intro i hi
  have := h.2 i hi
  unfold bigG at this
  rw [Bool.or_eq_false_iff, Bool.or_eq_false_iff] at this
  simpa using this.2.1

theorem l58 (s : List SG) (h : s.length ≤ 1000) : l58_0 ((s, (0 : Int), ()), ()) = match first (fun i => bigS (sg s i)) s.length 0 with
    | some _ => some (.inr ((false, ()), ()))
    | none => some (.inl ((), ())) := by
  refine itr_search (fun i => ((s, (i : Int), ()), ())) (fun i => bigS (sg s i)) (fun _ => ((false, ()), ())) (n := s.length) ?_ ?_ (lt_rounds (by omega))
  · intro i hi
    have hd : List.getD s i ((0 : Int), ({ data := { toList := [] } } : ByteArray), ({ data := { toList := [] } } : ByteArray), ()) = sg s i := rfl
    have b0 : (!decide ((s.length : Int) ≤ (i : Int))) = true := nT (by omega)
    have b1 : (decide ((0 : Int) ≤ (i : Int)) && decide ((i : Int) < (s.length : Int))) = true := dA (by omega) (by omega)
    have h1 : (!decide (((sg s i).2.1.size : Int) ≤ 30)) = !decide ((sg s i).2.1.size ≤ 30) := by rw [← natD]; rfl
    have h2 : (!decide (((sg s i).2.2.1.size : Int) ≤ 30)) = !decide ((sg s i).2.2.1.size ≤ 30) := by rw [← natD]; rfl
    have hg : bigS (sg s i) = (!decide ((sg s i).2.1.size ≤ 30) || !decide ((sg s i).2.2.1.size ≤ 30)) := rfl
    rw [hg]
    simp only [s58_0, t58_0, Tr.val_test, Tr.val_fin, Tr.val_stop, leF_eq, b0, b1, if_true, Int.toNat_natCast, hd, h1, h2, wrap64_nat (show i ≤ 9223372036854775806 by omega)]
    by_cases k1 : (sg s i).2.1.size ≤ 30
    · have k1' := nF k1
      simp only [k1', if_false, Bool.false_eq_true, Bool.false_or]
    · have k1' := nT k1
      simp only [k1', if_true, Bool.true_or]
  · simp [s58_0, t58_0, leF_eq]

theorem f58_eq (s : List SG) : f58 (s, ()) = some (fewS s, ()) := by
  show (t58 s).val = _
  unfold t58 fewS
  by_cases h : s.length ≤ 22
  · have b0 : (!leF (s.length : Int) 22) = false := by rw [leF_eq]; exact nF (by omega)
    have c0 : decide (s.length ≤ 22) = true := dT h
    have e := l58 s (by omega)
    simp only [Tr.val_test, Tr.val_fin, b0, c0, if_false, Bool.false_eq_true, Bool.true_and]
    cases hf : first (fun i => bigS (sg s i)) s.length 0 with
    | none =>
      rw [hf] at e
      simp only [e, isRet, Option.isSome_some, if_true, if_false, Bool.false_eq_true, Option.isNone_none]
    | some j =>
      rw [hf] at e
      simp only [e, isRet, r58_0, outR, Option.isSome_some, if_true, Option.isNone_some]
  · have b0 : (!leF (s.length : Int) 22) = true := by rw [leF_eq]; exact nT (by omega)
    have c0 : decide (s.length ≤ 22) = false := dF h
    simp only [Tr.val_test, Tr.val_fin, b0, c0, if_true, Bool.false_and]

theorem fewS_len {s : List SG} (h : fewS s = true) : s.length ≤ 22 := by
  unfold fewS at h
  rw [Bool.and_eq_true, decide_eq_true_eq] at h
  exact h.1

/-! ### Copies -/

theorem f89_eq (rs : List ByteArray) (h : rs.length ≤ 1000) : f89 (rs, ()) = some (rs, ()) := by
  have b2 : (Nat.ble ((2 * (0 + rs.length) + 192) * 16) 281474976710656 && Nat.ble (0 + rs.length) 281474976710656) = true := by
    rw [Nat.ble_eq_true_of_le (by omega), Nat.ble_eq_true_of_le (by omega)]; rfl
  simp only [f89, t89, Tr.val_test, Tr.val_fin, b2, if_true, List.nil_append]

theorem f62_eq (s : List SG) (h : s.length ≤ 1000) : f62 (s, ()) = some (s, ()) := by
  have b2 : (Nat.ble ((2 * (0 + s.length) + 192) * 40) 281474976710656 && Nat.ble (0 + s.length) 281474976710656) = true := by
    rw [Nat.ble_eq_true_of_le (by omega), Nat.ble_eq_true_of_le (by omega)]; rfl
  simp only [f62, t62, Tr.val_test, Tr.val_fin, b2, if_true, List.nil_append]

theorem l60 (l : List GT) (h : l.length ≤ 1000) (hr : ∀ i, i < l.length → (gt l i).2.1.length ≤ 1000) : l60_0 ((l, ([] : List GT), (0 : Int), ()), ()) = some (.inl ((l, ()), ())) := by
  have e0 : l60_0 ((l, ([] : List GT), (0 : Int), ()), ()) = some (.inl ((l.take l.length, ()), ())) := by
    refine itr_brk (fun i => ((l, l.take i, (i : Int), ()), ())) (n := l.length) ?_ ?_ (lt_rounds (by omega))
    · intro i hi
      have b0 : (!decide ((l.length : Int) ≤ (i : Int))) = true := nT (by omega)
      have b1 : (decide ((0 : Int) ≤ (i : Int)) && decide ((i : Int) < (l.length : Int))) = true := dA (by omega) (by omega)
      have hln : (l.take i).length = i := by rw [List.length_take]; omega
      have b2 : (Nat.ble ((2 * (i + 1) + 192) * 48) 281474976710656 && Nat.ble (i + 1) 281474976710656) = true := by
        rw [Nat.ble_eq_true_of_le (by omega), Nat.ble_eq_true_of_le (by omega)]; rfl
      have hd : List.getD l i (({ data := { toList := [] } } : ByteArray), ([] : List ByteArray), (0 : Int), ()) = gt l i := rfl
      have e1 : f89 ((gt l i).2.1, ()) = some ((gt l i).2.1, ()) := f89_eq _ (hr i hi)
      have ht : l.take i ++ [((gt l i).1, (gt l i).2.1, (gt l i).2.2.1, ())] = l.take (i + 1) := by
        rw [List.take_succ_eq_append_getElem hi]
        unfold gt
        rw [List.getD_eq_getElem?_getD, List.getElem?_eq_getElem hi]
        rfl
      simp only [s60_0, t60_0, Tr.val_test, Tr.val_fin, Tr.val_stop, leF_eq, b0, b1, hln, b2, e1, g89, Option.isSome_some, Option.getD_some, if_true, Int.toNat_natCast, hd, ht, wrap64_nat (show i ≤ 9223372036854775806 by omega)]
    · simp [s60_0, t60_0, leF_eq]
  rw [e0, List.take_length]

theorem f60_eq (l : List GT) (h : l.length ≤ 1000) (hr : ∀ i, i < l.length → (gt l i).2.1.length ≤ 1000) : f60 (l, ()) = some (l, ()) := by
  have e := l60 l h hr
  simp only [f60, t60, Tr.val_test, Tr.val_fin, e, isBrk, b60_0, outB, if_true]

/-! ### What is missing, and the level -/

theorem ckG_zero {l : List GT} (h : (ckG l).2 = 0) : 1 ≤ l.length ∧ (ckG l).1 = 0 := by
  unfold ckG at h ⊢
  by_cases h0 : l.length = 0
  · rw [if_pos h0] at h; cases h
  · rw [if_neg h0] at h ⊢
    by_cases h1 : 6 < l.length
    · rw [if_pos h1] at h; cases h
    · rw [if_neg h1] at h ⊢
      refine ⟨by omega, ?_⟩
      cases hf : first (fun i => !decide (eG l i = 0)) l.length 0 with
      | none => rfl
      | some k =>
        rw [hf] at h
        have h2 : eG l k = 0 := h
        have h3 : (!decide (eG l k = 0)) = true := (first_some hf).2.2.1
        rw [h2] at h3
        cases h3

def msE (l : List GT) (g : Int) (s : List SG) : Int := firstNZ [(ckG l).2, if (!wi 0 ((l.length : Int) - 1) g) = true then 6 else 0, ckS l.length s]

theorem nz3 {a b c : Int} (h : firstNZ [a, b, c] = 0) : a = 0 ∧ b = 0 ∧ c = 0 := by
  simp only [firstNZ] at h
  by_cases ha : a = 0
  · rw [if_pos ha] at h
    by_cases hb : b = 0
    · rw [if_pos hb] at h
      by_cases hc : c = 0
      · exact ⟨ha, hb, hc⟩
      · rw [if_neg hc] at h; exact absurd h hc
    · rw [if_neg hb] at h; exact absurd h hb
  · rw [if_neg ha] at h; exact absurd h ha

def msA (l : List GT) (g : Int) (s : List SG) : List Int := if msE l g s = 0 then miss (gt l g.toNat).2.1 g s else []

theorem f61_eq (l : List GT) (g : Int) (s : List SG) (h : l.length ≤ 1000) (hs : s.length ≤ 1000) (hr : ∀ i, i < l.length → (gt l i).2.1.length ≤ 1000) :
    f61 (l, g, s, ()) = some (msA l g s, msE l g s, ()) := by
  have e1 := f59_eq l
  have e2 : f94 ((0 : Int), (l.length : Int) - 1, [g], ()) = some (wi 0 ((l.length : Int) - 1) g, ()) := f94_one _ _ _
  have e3 : f80 (!wi 0 ((l.length : Int) - 1) g, (6 : Int), ()) = some (if (!wi 0 ((l.length : Int) - 1) g) = true then 6 else 0, ()) := f80_eq _
  have e4 := f132_eq l.length s h
  have e5 : f79 ([(ckG l).2, if (!wi 0 ((l.length : Int) - 1) g) = true then (6 : Int) else 0, ckS l.length s], ()) = some (msE l g s, ()) := f79_three _ _ _
  simp only [f61, t61, Tr.val_test, Tr.val_fin, wsub h, e1, g59, e2, g94, e3, g80, e4, g132, e5, g79, eqF_eq, Option.isSome_some, Option.getD_some, if_true]
  unfold msA
  by_cases h0 : msE l g s = 0
  · have b0 : (!decide (msE l g s = 0)) = false := nF h0
    obtain ⟨z1, z2, z3⟩ := nz3 h0
    have hw : wi 0 ((l.length : Int) - 1) g = true := by
      rcases Bool.eq_false_or_eq_true (wi 0 ((l.length : Int) - 1) g) with hw | hw
      · exact hw
      · rw [hw] at z2; cases z2
    obtain ⟨w1, w2⟩ := wi_iff.1 hw
    have hl := (ckG_zero z1).1
    have hg : ((g.toNat : Nat) : Int) = g := by omega
    have hgl : g.toNat < l.length := by omega
    have e6 : f133 (l, g, s, ()) = some (miss (gt l g.toNat).2.1 g s, ()) := by
      have := f133_eq l g.toNat s hgl hs (hr _ hgl)
      rw [hg] at this
      exact this
    simp only [b0, if_false, Bool.false_eq_true, e6, g133, Option.isSome_some, Option.getD_some, if_true]
    rw [if_pos h0, h0]
  · have b0 : (!decide (msE l g s = 0)) = true := nT h0
    simp only [b0, if_true, if_neg h0]

/-- Whether the gate holds. -/
def gPass (l : List GT) (s : List SG) (i : Nat) : Bool := decide ((miss (gt l i).2.1 i s).length ≤ 0) && decide ((gt l i).2.2.1 ≤ ((ppl i s s.length).length : Int))
def lvl (l : List GT) (s : List SG) : Int := match first (fun i => !gPass l s i) l.length 0 with
  | some k => k
  | none => l.length

theorem l63 (l : List GT) (s : List SG) (h : l.length ≤ 1000) (hs : s.length ≤ 1000) (hr : ∀ i, i < l.length → (gt l i).2.1.length ≤ 1000) : l63_0 ((l, s, (0 : Int), l, (l.length : Int), (0 : Int), ()), ()) = some (.inl ((lvl l s, ()), ())) := by
  have hu := itr_until (step := s63_0) (fun i => ((l, s, (i : Int), l, (l.length : Int), (i : Int), ()), ())) (fun i => !gPass l s i) (fun k => (((k : Int), ()), ())) (n := l.length) (m := rounds) (b := (((l.length : Int), ()), ())) ?_ ?_ (lt_rounds (by omega))
  · have e0 : l63_0 ((l, s, (0 : Int), l, (l.length : Int), (0 : Int), ()), ()) = itr s63_0 rounds ((l, s, ((0 : Nat) : Int), l, (l.length : Int), ((0 : Nat) : Int), ()), ()) := rfl
    rw [e0, hu]
    unfold lvl
    cases first (fun i => !gPass l s i) l.length 0 with
    | none => rfl
    | some k => rfl
  · intro i hi
    have b0 : (!decide ((l.length : Int) ≤ (i : Int))) = true := nT (by omega)
    have b1 : (decide ((0 : Int) ≤ (i : Int)) && decide ((i : Int) < (l.length : Int))) = true := dA (by omega) (by omega)
    have hd : List.getD l i (({ data := { toList := [] } } : ByteArray), ([] : List ByteArray), (0 : Int), ()) = gt l i := rfl
    have e1 := f133_eq l i s hi hs (hr i hi)
    have e2 := f134_eq i s hs
    have hp : gPass l s i = (decide ((miss (gt l i).2.1 i s).length ≤ 0) && decide ((gt l i).2.2.1 ≤ ((ppl i s s.length).length : Int))) := rfl
    have hn : decide (((miss (gt l i).2.1 i s).length : Int) ≤ 0) = decide ((miss (gt l i).2.1 i s).length ≤ 0) := natD
    rw [hp]
    simp only [s63_0, t63_0, Tr.val_test, Tr.val_fin, Tr.val_stop, leF_eq, b0, b1, if_true, Int.toNat_natCast, hd, e1, g133, e2, g134, hn, Option.isSome_some, Option.getD_some, wrap64_nat (show i ≤ 9223372036854775806 by omega)]
    rcases Bool.eq_false_or_eq_true (decide ((miss (gt l i).2.1 i s).length ≤ 0)) with h1 | h1
    · simp only [h1, Bool.not_true, if_false, Bool.false_eq_true, Bool.true_and]
    · simp only [h1, Bool.not_false, if_true, Bool.false_and]
  · simp [s63_0, t63_0, leF_eq]

def lvE (l : List GT) (s : List SG) : Int := firstNZ [(ckG l).2, ckS l.length s]
def lvA (l : List GT) (s : List SG) : Int := if lvE l s = 0 then lvl l s else 0

theorem f63_eq (l : List GT) (s : List SG) (h : l.length ≤ 1000) (hs : s.length ≤ 1000) (hr : ∀ i, i < l.length → (gt l i).2.1.length ≤ 1000) :
    f63 (l, s, ()) = some (lvA l s, lvE l s, ()) := by
  have e1 := f59_eq l
  have e4 := f132_eq l.length s h
  have e5 : f79 ([(ckG l).2, ckS l.length s], ()) = some (lvE l s, ()) := f79_two _ _
  have e6 := l63 l s h hs hr
  simp only [f63, t63, Tr.val_test, Tr.val_fin, e1, g59, e4, g132, e5, g79, eqF_eq, Option.isSome_some, Option.getD_some, if_true, e6, isBrk, b63_0, outB]
  unfold lvA
  by_cases h0 : lvE l s = 0
  · have b0 : (!decide (lvE l s = 0)) = false := nF h0
    simp only [b0, if_false, Bool.false_eq_true]
    rw [if_pos h0, h0]
  · have b0 : (!decide (lvE l s = 0)) = true := nT h0
    simp only [b0, if_true, if_neg h0]

theorem l67 (l : List GT) (s : List SG) (h : l.length ≤ 1000) (hs : s.length ≤ 1000) (hr : ∀ i, i < l.length → (gt l i).2.1.length ≤ 1000) : l67_0 ((l, s, (0 : Int), ()), ()) = match first (fun i => !gPass l s i) l.length 0 with
    | some k => some (.inr (((k : Int), ()), ()))
    | none => some (.inl ((l, ()), ())) := by
  refine itr_search (fun i => ((l, s, (i : Int), ()), ())) (fun i => !gPass l s i) (fun k => (((k : Int), ()), ())) (n := l.length) ?_ ?_ (lt_rounds (by omega))
  · intro i hi
    have b0 : (!decide ((l.length : Int) ≤ (i : Int))) = true := nT (by omega)
    have b1 : (decide ((0 : Int) ≤ (i : Int)) && decide ((i : Int) < (l.length : Int))) = true := dA (by omega) (by omega)
    have hd : List.getD l i (({ data := { toList := [] } } : ByteArray), ([] : List ByteArray), (0 : Int), ()) = gt l i := rfl
    have e1 := f66_eq l i s hi hs (hr i hi)
    have e2 := f69_eq i s hs
    have hp : gPass l s i = (decide ((miss (gt l i).2.1 i s).length ≤ 0) && decide ((gt l i).2.2.1 ≤ ((ppl i s s.length).length : Int))) := rfl
    have hn : decide (((miss (gt l i).2.1 i s).length : Int) ≤ 0) = decide ((miss (gt l i).2.1 i s).length ≤ 0) := natD
    rw [hp]
    simp only [s67_0, t67_0, Tr.val_test, Tr.val_fin, Tr.val_stop, leF_eq, b0, b1, if_true, Int.toNat_natCast, hd, e1, g66, e2, g69, hn, Option.isSome_some, Option.getD_some, wrap64_nat (show i ≤ 9223372036854775806 by omega)]
    rcases Bool.eq_false_or_eq_true (decide ((miss (gt l i).2.1 i s).length ≤ 0)) with h1 | h1
    · simp only [h1, Bool.not_true, if_false, Bool.false_eq_true, Bool.true_and]
    · simp only [h1, Bool.not_false, if_true, Bool.false_and]
  · simp [s67_0, t67_0, leF_eq]

theorem f67_eq (l : List GT) (s : List SG) (h : l.length ≤ 1000) (hs : s.length ≤ 1000) (hr : ∀ i, i < l.length → (gt l i).2.1.length ≤ 1000) : f67 (l, s, ()) = some (lvl l s, ()) := by
  have e := l67 l s h hs hr
  unfold lvl
  cases hf : first (fun i => !gPass l s i) l.length 0 with
  | none =>
    rw [hf] at e
    simp only [f67, t67, Tr.val_test, Tr.val_fin, e, isRet, b67_0, outB, Option.isSome_some, if_true, if_false, Bool.false_eq_true]
  | some k =>
    rw [hf] at e
    simp only [f67, t67, Tr.val_test, Tr.val_fin, e, isRet, r67_0, outR, Option.isSome_some, if_true]

end Go.Vm.Mo

namespace Go.Vm.Mo
open Go
set_option linter.unusedVariables false
set_option linter.unusedSimpArgs false

theorem f11_eq (l : List GT) (g : Int) (s : List SG) : f11 (l, g, s, ()) = some (true, ()) := by
  show (t11 l g s).val = _
  unfold t11
  have e1 := f57_eq l
  have e2 := f58_eq s
  rcases (Bool.eq_false_or_eq_true (fewG l)).symm with k1 | k1
  · simp only [Tr.val_test, Tr.val_fin, e1, g57, k1, Option.isSome_some, Option.getD_some, Bool.not_false, if_true]
  rcases (Bool.eq_false_or_eq_true (fewS s)).symm with k2 | k2
  · simp only [Tr.val_test, Tr.val_fin, e1, g57, e2, g58, k1, k2, Option.isSome_some, Option.getD_some, Bool.not_false, Bool.not_true, if_false, Bool.false_eq_true, if_true]
  have hl := fewG_len k1
  have hs := fewS_len k2
  have hr : ∀ i, i < l.length → (gt l i).2.1.length ≤ 1000 := fun i hi => by have := fewG_roles k1 i hi; omega
  have e3 := f60_eq l (by omega) hr
  have e4 := f62_eq s (by omega)
  have e5 := f59_eq l
  have e6 := f61_eq l g s (by omega) (by omega) hr
  have e7 := f63_eq l s (by omega) (by omega) hr
  have e8 := f64_eq l
  have e9 : f25 (g, (0 : Int), (l.length : Int) - 1, ()) = some (wi 0 ((l.length : Int) - 1) g, ()) := f25_eq _
  have e10 := f65_eq l.length s (by omega)
  have e11 := f67_eq l s (by omega) (by omega) hr
  have ws : wrap64 ((l.length : Int) - 1) = (l.length : Int) - 1 := wsub (by omega)
  have m1 : (!decide ((ckG l).2 = (ckG l).2)) = false := nF rfl
  have m2 : (!decide ((ckG l).1 = (ckG l).1)) = false := nF rfl
  simp only [Tr.val_test, Tr.val_fin, e1, g57, e2, g58, k1, k2, Option.isSome_some, Option.getD_some, Bool.not_true, if_false, Bool.false_eq_true, if_true, e3, g60, e4, g62, e5, g59, e6, g61, e7, g63, e8, g64, eqF_eq, leF_eq, m1, m2, ws, e9, g25, e10, g65]
  by_cases z : (ckG l).2 = 0
  · have d1 : decide ((ckG l).2 = 0) = true := dT z
    simp only [d1, if_true, decide_true, Bool.not_true]
    have hlv : lvE l s = ckS l.length s := by
      unfold lvE
      rw [z]
      simp only [firstNZ, if_true]
      by_cases q : ckS l.length s = 0
      · rw [if_pos q, q]
      · rw [if_neg q]
    rcases Bool.eq_false_or_eq_true (wi 0 ((l.length : Int) - 1) g) with w | w
    · have hms : msE l g s = ckS l.length s := by
        unfold msE
        rw [z, w]
        simp only [firstNZ, if_true, Bool.not_true, Bool.false_eq_true, if_false]
        by_cases q : ckS l.length s = 0
        · rw [if_pos q, q]
        · rw [if_neg q]
      simp only [w, Bool.not_true, if_false, Bool.false_eq_true]
      by_cases q : ckS l.length s = 0
      · have d2 : (!decide (ckS l.length s = 0)) = false := nF q
        obtain ⟨w1, w2⟩ := wi_iff.1 w
        have hg : ((g.toNat : Nat) : Int) = g := by omega
        have hgl : g.toNat < l.length := by omega
        have e12 : f66 (l, g, s, ()) = some (miss (gt l g.toNat).2.1 g s, ()) := by
          have := f66_eq l g.toNat s hgl (by omega) (hr _ hgl)
          rw [hg] at this
          exact this
        have hA : msA l g s = miss (gt l g.toNat).2.1 g s := by
          unfold msA; rw [hms, if_pos q]
        have hL : lvA l s = lvl l s := by
          unfold lvA; rw [hlv, if_pos q]
        have hml : (miss (gt l g.toNat).2.1 g s).length ≤ 1000000 := by
          have := places_len (unsigned (gt l g.toNat).2.1 g s) (gt l g.toNat).2.1.length
          have := fewG_roles k1 _ hgl
          unfold miss
          omega
        have e13 := f23_self (miss (gt l g.toNat).2.1 g s) hml
        have d3 : (!decide (msE l g s = 0)) = false := nF (by rw [hms]; exact q)
        have d4 : decide (lvE l s = 0) = true := dT (by rw [hlv]; exact q)
        have d5 : decide (lvl l s = lvl l s) = true := dT rfl
        simp only [d2, d3, d4, e12, g66, hA, hL, e13, g23, e11, g67, d5, Option.isSome_some, Option.getD_some, if_true, if_false, Bool.false_eq_true, Bool.not_true, decide_true]
      · have d2 : (!decide (ckS l.length s = 0)) = true := nT q
        have hA : msA l g s = [] := by
          unfold msA; rw [hms, if_neg q]
        have hL : lvA l s = 0 := by
          unfold lvA; rw [hlv, if_neg q]
        have d3 : (!decide (msE l g s = ckS l.length s)) = false := nF hms
        have d4 : decide (lvE l s = ckS l.length s) = true := dT hlv
        have d5 : (!decide (((([] : List Int).length : Nat) : Int) = 0)) = false := rfl
        have d6 : decide ((0 : Int) = 0) = true := rfl
        simp only [d2, d3, d4, hA, hL, d5, d6, if_true, if_false, Bool.false_eq_true, decide_true, Bool.not_true]
    · have hms : msE l g s = 6 := by
        unfold msE
        rw [z, w]
        rfl
      have hA : msA l g s = [] := by
        unfold msA; rw [hms]; rfl
      have d3 : (!decide (msE l g s = 6)) = false := nF hms
      have d5 : (!decide (((([] : List Int).length : Nat) : Int) = 0)) = false := rfl
      simp only [w, Bool.not_false, if_true, d3, hA, d5, if_false, Bool.false_eq_true, decide_true, Bool.not_true]
      by_cases q : ckS l.length s = 0
      · have d2 : (!decide (ckS l.length s = 0)) = false := nF q
        have hL : lvA l s = lvl l s := by
          unfold lvA; rw [hlv, if_pos q]
        have d4 : decide (lvE l s = 0) = true := dT (by rw [hlv]; exact q)
        have d6 : decide (lvl l s = lvl l s) = true := dT rfl
        simp only [d2, d4, hL, e11, g67, d6, Option.isSome_some, Option.getD_some, if_true, if_false, Bool.false_eq_true, decide_true, Bool.not_true]
      · have d2 : (!decide (ckS l.length s = 0)) = true := nT q
        have hL : lvA l s = 0 := by
          unfold lvA; rw [hlv, if_neg q]
        have d4 : decide (lvE l s = ckS l.length s) = true := dT hlv
        have d6 : decide ((0 : Int) = 0) = true := rfl
        simp only [d2, d4, hL, d6, if_true, decide_true, Bool.not_true]
  · have d1 : decide ((ckG l).2 = 0) = false := dF z
    have hms : msE l g s = (ckG l).2 := by
      unfold msE firstNZ
      rw [if_neg z]
    have hlv : lvE l s = (ckG l).2 := by
      unfold lvE firstNZ
      rw [if_neg z]
    have hA : msA l g s = [] := by
      unfold msA; rw [hms, if_neg z]
    have hL : lvA l s = 0 := by
      unfold lvA; rw [hlv, if_neg z]
    have d3 : (!decide (msE l g s = (ckG l).2)) = false := nF hms
    have d4 : decide (lvE l s = (ckG l).2) = true := dT hlv
    have d5 : (!decide (((([] : List Int).length : Nat) : Int) = 0)) = false := rfl
    have d6 : decide ((0 : Int) = 0) = true := rfl
    simp only [d1, d3, d4, hA, hL, d5, d6, if_true, if_false, Bool.false_eq_true, decide_true, Bool.not_true]

theorem law11 (d : Tys.data as11) (hw : Tys.Wf as11 d) : Pure1 Go.Proofs.Tryz.prog 11 as11 [.bool] d (true, ()) := by
  have h := f11_eq d.1 d.2.1 d.2.2.1
  have hp : p11.pre d = true := by
    show Option.isSome (f11 d) = true
    rw [show f11 d = some (true, ()) from h]; rfl
  have hg : p11.fn d = (true, ()) := by
    show (f11 d).getD _ = _
    rw [show f11 d = some (true, ()) from h]; rfl
  have := ok11.runs d hp
  rw [hg] at this
  exact this

end Go.Vm.Mo
