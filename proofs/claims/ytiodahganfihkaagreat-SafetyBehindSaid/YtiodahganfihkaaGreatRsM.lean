import Derived.Test.YtiodahganfihkaaGreatRsFe
import Derived.Test.YtiodahganfihkaaGreatA5
set_option linter.unusedVariables false
set_option linter.unusedSimpArgs false

namespace Go.Vm.Mo
open Go
set_option linter.unusedVariables false
set_option linter.unusedSimpArgs false

theorem dT {p : Prop} [Decidable p] (h : p) : decide p = true := decide_eq_true h
theorem dF {p : Prop} [Decidable p] (h : ¬ p) : decide p = false := decide_eq_false h
theorem nT {p : Prop} [Decidable p] (h : ¬ p) : (!decide p) = true := by rw [decide_eq_false h]; rfl
theorem nF {p : Prop} [Decidable p] (h : p) : (!decide p) = false := by rw [decide_eq_true h]; rfl
theorem dA {p q : Prop} [Decidable p] [Decidable q] (h : p) (k : q) : (decide p && decide q) = true := by rw [decide_eq_true h, decide_eq_true k]; rfl

theorem first_map (bad : Nat → Bool) : ∀ (n i : Nat), first bad n (i + 1) = (first (fun k => bad (k + 1)) n i).map (· + 1)
  | 0, _ => rfl
  | n + 1, i => by
    simp only [first]
    split
    · rfl
    · exact first_map bad n (i + 1)

def firstNZ : List Int → Int
  | [] => 0
  | a :: l => if a = 0 then firstNZ l else a

theorem firstNZ_eq : ∀ l : List Int, (match first (fun i => !decide (l.getD i 0 = 0)) l.length 0 with
    | some k => l.getD k 0
    | none => 0) = firstNZ l
  | [] => rfl
  | a :: l => by
    simp only [List.length, first, firstNZ]
    by_cases ha : a = 0
    · subst ha
      have e := firstNZ_eq l
      have hf : first (fun i => !decide (((0 : Int) :: l).getD i 0 = 0)) l.length (0 + 1) = (first (fun i => !decide (l.getD i 0 = 0)) l.length 0).map (· + 1) := by
        rw [first_map]; rfl
      simp only [hf, List.getD_cons_zero, decide_true, Bool.not_true, Bool.false_eq_true, if_false, if_true]
      rw [← e]
      cases first (fun i => !decide (l.getD i 0 = 0)) l.length 0 with
      | none => rfl
      | some k => rfl
    · simp [ha]

theorem l79 (l : List Int) (h : l.length ≤ 1000000000) : l79_0 ((l, (l.length : Int), (0 : Int), ()), ()) = match first (fun i => !decide (l.getD i 0 = 0)) l.length 0 with
    | some k => some (.inr ((l.getD k 0, ()), ()))
    | none => some (.inl ((), ())) := by
  refine itr_search (fun i => ((l, (l.length : Int), (i : Int), ()), ())) (fun i => !decide (l.getD i 0 = 0)) (fun k => ((l.getD k 0, ()), ())) (n := l.length) ?_ ?_ (lt_rounds (by omega))
  · intro i hi
    simp only [s79_0, t79_0, Tr.val_test, leF_eq, eqF_eq]
    rw [if_pos (by simp; omega), if_pos (by simp; omega)]
    simp only [Int.toNat_natCast, wrap64_nat (show i ≤ 9223372036854775806 by omega)]
    rfl
  · simp [s79_0, t79_0, leF_eq]

theorem f79_eq (l : List Int) (h : l.length ≤ 1000000000) : f79 (l, ()) = some (firstNZ l, ()) := by
  simp only [f79, t79, Tr.val_test, r79_0, l79 l h, ← firstNZ_eq l]
  cases first (fun i => !decide (l.getD i 0 = 0)) l.length 0 with
  | none => rfl
  | some k => rfl

theorem f80_eq (d : Tys.data as80) : f80 d = some (if d.1 = true then d.2.1 else (0 : Int), ()) := by
  simp only [f80, t80, Tr.val_test]
  split <;> rfl

def wi (lo hi x : Int) : Bool := decide (lo ≤ x) && decide (x ≤ hi)

theorem wi_iff {lo hi x : Int} : wi lo hi x = true ↔ lo ≤ x ∧ x ≤ hi := by simp [wi]

theorem f25_eq (d : Tys.data as25) : f25 d = some (wi d.2.1 d.2.2.1 d.1, ()) := by
  simp only [f25, t25, Tr.val_test, Tr.val_fin, leF_eq, decide_eq_true_eq, wi]
  split <;> simp [*]

theorem l94 (lo hi : Int) (l : List Int) (h : l.length ≤ 1000000000) : l94_0 ((lo, hi, l, (l.length : Int), (0 : Int), ()), ()) = match first (fun i => !wi lo hi (l.getD i 0)) l.length 0 with
    | some _ => some (.inr ((false, ()), ()))
    | none => some (.inl ((), ())) := by
  refine itr_search (fun i => ((lo, hi, l, (l.length : Int), (i : Int), ()), ())) (fun i => !wi lo hi (l.getD i 0)) (fun _ => ((false, ()), ())) (n := l.length) ?_ ?_ (lt_rounds (by omega))
  · intro i hi'
    simp only [s94_0, t94_0, Tr.val_test, Tr.val_fin, leF_eq, Int.toNat_natCast, wrap64_nat (show i ≤ 9223372036854775806 by omega)]
    rw [if_pos (by simp; omega), if_pos (by simp; omega)]
    by_cases a0 : lo ≤ l.getD i 0
    · by_cases a1 : l.getD i 0 ≤ hi
      · simp only [wi, a0, a1, decide_true, Bool.and_self, Bool.not_true, if_true, if_false, Bool.false_eq_true]
      · simp only [wi, a0, a1, decide_true, decide_false, Bool.and_false, Bool.not_false, Bool.not_true, if_true, if_false, Bool.false_eq_true]
    · simp only [wi, a0, decide_false, Bool.false_and, Bool.not_false, if_true, if_false, Bool.false_eq_true]
  · simp [s94_0, t94_0, leF_eq]

theorem f94_eq (lo hi : Int) (l : List Int) (h : l.length ≤ 1000000000) : f94 (lo, hi, l, ()) = some ((first (fun i => !wi lo hi (l.getD i 0)) l.length 0).isNone, ()) := by
  have hl := l94 lo hi l h
  cases hf : first (fun i => !wi lo hi (l.getD i 0)) l.length 0 with
  | none =>
    rw [hf] at hl
    simp only [f94, t94, Tr.val_test, Tr.val_fin, hl, isRet, Option.isSome_some, Option.isNone_none, if_true, Bool.false_eq_true, if_false]
  | some k =>
    rw [hf] at hl
    simp only [f94, t94, Tr.val_test, Tr.val_fin, hl, isRet, r94_0, outR, Option.isSome_some, Option.isNone_some, if_true]

theorem f94_one (lo hi a : Int) : f94 (lo, hi, [a], ()) = some (wi lo hi a, ()) := by
  rw [f94_eq lo hi _ (by simp)]
  simp only [first, List.length, List.getD_cons_zero]
  by_cases h1 : wi lo hi a = true
  · simp [h1]
  · simp [h1]

theorem f94_two (lo hi a b : Int) : f94 (lo, hi, [a, b], ()) = some (wi lo hi a && wi lo hi b, ()) := by
  rw [f94_eq lo hi _ (by simp)]
  simp only [first, List.length, List.getD_cons_zero, List.getD_cons_succ]
  by_cases h1 : wi lo hi a = true
  · by_cases h2 : wi lo hi b = true
    · simp [h1, h2]
    · simp [h1, h2]
  · simp [h1]

theorem wn64 {x : Int} (h1 : -9223372036854775807 ≤ x) (h2 : x ≤ 9223372036854775807) : IntKind.wrap .i64 (0 - x) = -x := by
  rw [← wrap64_eq, wrap64_id (by omega) (by omega)]
  omega

theorem isSome_first {bad : Nat → Bool} {n : Nat} : (first bad n 0).isSome = true ↔ ∃ i, i < n ∧ bad i = true := by
  cases h : first bad n 0 with
  | none =>
    simp only [Option.isSome_none, Bool.false_eq_true, false_iff]
    rintro ⟨i, hi, hb⟩
    rw [first_none h i (by omega) (by omega)] at hb; cases hb
  | some k =>
    obtain ⟨_, h2, h3, _⟩ := first_some h
    simp only [Option.isSome_some, true_iff]
    exact ⟨k, by omega, h3⟩

theorem isNone_first {bad : Nat → Bool} {n : Nat} : (first bad n 0).isNone = true ↔ ∀ i, i < n → bad i = false := by
  cases h : first bad n 0 with
  | none =>
    simp only [Option.isNone_none, true_iff]
    exact fun i hi => first_none h i (by omega) (by omega)
  | some k =>
    obtain ⟨_, h2, h3, _⟩ := first_some h
    simp only [Option.isNone_some, Bool.false_eq_true, false_iff]
    intro hb
    rw [hb k (by omega)] at h3; cases h3

def firstE (e : Nat → Int) (n : Nat) : Int := match first (fun i => !decide (e i = 0)) n 0 with
  | some k => e k
  | none => 0

theorem firstE_zero {e : Nat → Int} {n : Nat} (h : firstE e n = 0) : ∀ i, i < n → e i = 0 := by
  intro i hi
  unfold firstE at h
  cases hf : first (fun i => !decide (e i = 0)) n 0 with
  | none => simpa using first_none hf i (by omega) (by omega)
  | some k =>
    rw [hf] at h
    obtain ⟨_, _, k3, _⟩ := first_some hf
    have h : e k = 0 := h
    simp [h] at k3

theorem firstE_of {e : Nat → Int} {n : Nat} (h : ∀ i, i < n → e i = 0) : firstE e n = 0 := by
  unfold firstE
  rw [first_of_none fun i _ hi => by simp [h i (by omega)]]

theorem f79_two (a b : Int) : f79 ([a, b], ()) = some (firstNZ [a, b], ()) := f79_eq _ (by simp)
theorem f79_three (a b c : Int) : f79 ([a, b, c], ()) = some (firstNZ [a, b, c], ()) := f79_eq _ (by simp)

theorem nz2 {a b : Int} (h : firstNZ [a, b] = 0) : a = 0 ∧ b = 0 := by
  simp only [firstNZ] at h
  by_cases ha : a = 0
  · rw [if_pos ha] at h
    by_cases hb : b = 0
    · exact ⟨ha, hb⟩
    · rw [if_neg hb] at h; exact absurd h hb
  · rw [if_neg ha] at h; exact absurd h ha

theorem strEq_eq (a b : ByteArray) : strEq a b = decide (a = b) := by
  unfold strEq
  rw [Bool.eq_iff_iff, decide_eq_true_eq, beq_iff_eq, ByteArray.toList_eq, ByteArray.toList_eq]
  exact ⟨fun h => ByteArray.ext (Array.toList_inj.1 h), fun h => by rw [h]⟩

def letter (c : Int) : Bool := (decide (97 ≤ c) && decide (c ≤ 122)) || (decide (65 ≤ c) && decide (c ≤ 90))
def digit (c : Int) : Bool := decide (48 ≤ c) && decide (c ≤ 57)

theorem f182_eq (d : Tys.data as182) : f182 d = some (letter d.1, ()) := by
  simp only [f182, t182, Tr.val_test, Tr.val_fin, letter]
  by_cases h1 : 97 ≤ d.1 <;> by_cases h2 : d.1 ≤ 122 <;> by_cases h3 : 65 ≤ d.1 <;> simp [h1, h2, h3]

theorem f183_eq (d : Tys.data as183) : f183 d = some (digit d.1, ()) := by
  simp only [f183, t183, Tr.val_test, Tr.val_fin, digit]
  by_cases h1 : 48 ≤ d.1 <;> simp [h1]

def bL (s : ByteArray) : List Int := s.data.toList.map fun b => (b.toNat : Int)
def chr (s : ByteArray) (i : Nat) : Int := ((s.data.toList.getD i 0).toNat : Int)

theorem bL_len (s : ByteArray) : (bL s).length = s.size := by unfold bL; rw [List.length_map, Array.length_toList]; rfl
theorem bL_get (s : ByteArray) (i : Nat) : (bL s).getD i 0 = chr s i := by
  unfold bL chr
  rw [List.getD_eq_getElem?_getD, List.getD_eq_getElem?_getD, List.getElem?_map]
  cases s.data.toList[i]? with
  | none => rfl
  | some b => rfl

def badC (s : ByteArray) (i : Nat) : Bool := !(letter (chr s i) || digit (chr s i) || decide (chr s i = 45))
def nm (s : ByteArray) : Bool := decide (1 ≤ s.size) && decide (s.size ≤ 12) && letter (chr s 0) && (first (badC s) s.size 0).isNone

theorem l142 (s : ByteArray) (h : s.size ≤ 1000) : l142_0 ((bL s, ((bL s).length : Int), (0 : Int), ()), ()) = match first (badC s) s.size 0 with
    | some _ => some (.inr ((false, ()), ()))
    | none => some (.inl ((), ())) := by
  rw [bL_len]
  refine itr_search (fun i => ((bL s, (s.size : Int), (i : Int), ()), ())) (badC s) (fun _ => ((false, ()), ())) (n := s.size) ?_ ?_ (lt_rounds (by omega))
  · intro i hi
    have b0 : (!decide ((s.size : Int) ≤ (i : Int))) = true := nT (by omega)
    have b1 : (decide ((0 : Int) ≤ (i : Int)) && decide ((i : Int) < ((bL s).length : Int))) = true := dA (by omega) (by rw [bL_len]; omega)
    simp only [s142_0, t142_0, Tr.val_test, Tr.val_fin, Tr.val_stop, leF_eq, b0, b1, if_true, Int.toNat_natCast, bL_get, f182_eq, g182, f183_eq, g183, Option.isSome_some, Option.getD_some, wrap64_nat (show i ≤ 9223372036854775806 by omega), badC]
    rcases Bool.eq_false_or_eq_true (letter (chr s i)) with h1 | h1 <;> rcases Bool.eq_false_or_eq_true (digit (chr s i)) with h2 | h2 <;> by_cases h3 : chr s i = 45 <;> simp [h1, h2, h3]
  · simp [s142_0, t142_0, leF_eq]

theorem f142_eq (d : Tys.data as142) : f142 d = some (nm d.1, ()) := by
  obtain ⟨s, u⟩ := d
  show (t142 s).val = some (nm s, ())
  unfold t142 nm
  by_cases h0 : s.size = 0
  · have b0 : eqF (s.size : Int) 0 = true := by rw [eqF_eq]; exact dT (by omega)
    simp only [Tr.val_test, Tr.val_fin, b0, if_true, h0]
    rfl
  · have b0 : eqF (s.size : Int) 0 = false := by rw [eqF_eq]; exact dF (by omega)
    have c0 : decide (1 ≤ s.size) = true := dT (by omega)
    by_cases h1 : 12 < s.size
    · have b1 : (!leF (s.size : Int) 12) = true := by rw [leF_eq]; exact nT (by omega)
      have c1 : decide (s.size ≤ 12) = false := dF (by omega)
      simp only [Tr.val_test, Tr.val_fin, b0, b1, c0, c1, if_true, if_false, Bool.false_eq_true, Bool.and_false, Bool.false_and]
    · have b1 : (!leF (s.size : Int) 12) = false := by rw [leF_eq]; exact nF (by omega)
      have c1 : decide (s.size ≤ 12) = true := dT (by omega)
      have b2 : (true && decide ((0 : Int) < (s.size : Int))) = true := by rw [dT (by omega)]; rfl
      have hl := l142 s (by omega)
      have e1 : f182 ((chr s 0 : Int), ()) = some (letter (chr s 0), ()) := f182_eq _
      simp only [Tr.val_test, Tr.val_fin, b0, b1, b2, c0, c1, if_true, if_false, Bool.false_eq_true, Bool.true_and]
      show (if (f182 ((chr s 0 : Int), ())).isSome = true then (if (!(g182 ((chr s 0 : Int), ())).1) = true then some (false, ()) else (if (l142_0 ((bL s, ((bL s).length : Int), (0 : Int), ()), ())).isSome = true then (if isRet (l142_0 ((bL s, ((bL s).length : Int), (0 : Int), ()), ())) = true then some ((r142_0 ((bL s, ((bL s).length : Int), (0 : Int), ()), ())).1.1, ()) else some (true, ())) else none)) else none) = _
      simp only [g182, e1, Option.isSome_some, Option.getD_some, if_true]
      rcases Bool.eq_false_or_eq_true (letter (chr s 0)) with h2 | h2
      · simp only [h2, Bool.not_true, Bool.false_eq_true, if_false, Bool.true_and]
        cases hf : first (badC s) s.size 0 with
        | none =>
          rw [hf] at hl
          simp only [hl, isRet, Option.isSome_some, if_true, Bool.false_eq_true, if_false, Option.isNone_none]
        | some k =>
          rw [hf] at hl
          simp only [hl, isRet, r142_0, outR, Option.isSome_some, if_true, Option.isNone_some]
      · simp only [h2, Bool.not_false, if_true, Bool.false_and]

def badR (s : ByteArray) (i : Nat) : Bool := !letter (chr s i) && (decide (i = 0) || !(decide (chr s i = 45) || digit (chr s i)))

theorem l95 (s : ByteArray) (h : s.size ≤ 1000) : l95_0 ((s, (0 : Int), ()), ()) = match first (badR s) s.size 0 with
    | some _ => some (.inr ((false, ()), ()))
    | none => some (.inl ((), ())) := by
  refine itr_search (fun i => ((s, (i : Int), ()), ())) (badR s) (fun _ => ((false, ()), ())) (n := s.size) ?_ ?_ (lt_rounds (by omega))
  · intro i hi
    have b0 : (!decide ((s.size : Int) ≤ (i : Int))) = true := nT (by omega)
    have b1 : (decide ((0 : Int) ≤ (i : Int)) && decide ((i : Int) < (s.size : Int))) = true := dA (by omega) (by omega)
    have hc : ((List.getD s.data.toList i (0 : UInt8)).toBitVec.toFin.1 : Int) = chr s i := rfl
    simp only [s95_0, t95_0, Tr.val_test, Tr.val_fin, Tr.val_stop, leF_eq, eqF_eq, b0, b1, if_true, Int.toNat_natCast, hc, wrap64_nat (show i ≤ 9223372036854775806 by omega), badR, letter, digit]
    have hi0 : ((i : Int) = 0) ↔ i = 0 := by omega
    obtain ⟨c, hc2⟩ : ∃ c, chr s i = c := ⟨_, rfl⟩
    simp only [hc2]
    by_cases a1 : 97 ≤ c <;> by_cases a2 : c ≤ 122 <;> by_cases a3 : 65 ≤ c <;> by_cases a4 : c ≤ 90 <;> by_cases a5 : i = 0 <;> by_cases a6 : c = 45 <;>
      first
        | (exfalso; omega)
        | (by_cases a7 : 48 ≤ c <;> by_cases a8 : c ≤ 57 <;> first
            | (exfalso; omega)
            | (simp [a1, a2, a3, a4, hi0, a5, a6, a7, a8]; done)
            | (simp [show c < 48 by omega, show ¬ 57 < c by omega, a1, a2, a3, a4, hi0, a5, a6, a7, a8]; done)
            | (simp [show ¬ c < 48 by omega, show 57 < c by omega, a1, a2, a3, a4, hi0, a5, a6, a7, a8]; done)
            | (simp [show ¬ c < 48 by omega, show ¬ 57 < c by omega, a1, a2, a3, a4, hi0, a5, a6, a7, a8]; done))
  · simp [s95_0, t95_0, leF_eq]

theorem badR_none (s : ByteArray) (h : 1 ≤ s.size) : (first (badR s) s.size 0).isNone = (letter (chr s 0) && (first (badC s) s.size 0).isNone) := by
  rw [Bool.eq_iff_iff, Bool.and_eq_true, isNone_first, isNone_first]
  constructor
  · intro hb
    have h0 := hb 0 (by omega)
    unfold badR at h0
    simp only [decide_true, Bool.true_or, Bool.and_true, Bool.not_eq_false'] at h0
    refine ⟨h0, fun i hi => ?_⟩
    have := hb i hi
    unfold badR at this
    unfold badC
    cases h1 : letter (chr s i) <;> cases h2 : digit (chr s i) <;> by_cases h3 : chr s i = 45 <;> simp_all
  · rintro ⟨h0, hb⟩ i hi
    have := hb i hi
    unfold badC at this
    unfold badR
    by_cases hi0 : i = 0
    · subst hi0; simp [h0]
    · cases h1 : letter (chr s i) <;> cases h2 : digit (chr s i) <;> by_cases h3 : chr s i = 45 <;> simp_all

theorem f95_eq (d : Tys.data as95) : f95 d = some (nm d.1, ()) := by
  obtain ⟨s, u⟩ := d
  show (t95 s).val = some (nm s, ())
  unfold t95 nm
  simp only [Tr.val_test, Tr.val_fin, Tr.val_stop, leF_eq]
  by_cases h0 : s.size = 0
  · have b0 : (!decide ((1 : Int) ≤ (s.size : Int))) = true := nT (by omega)
    simp only [b0, if_true, h0]
    rfl
  · have b0 : (!decide ((1 : Int) ≤ (s.size : Int))) = false := nF (by omega)
    have c0 : decide (1 ≤ s.size) = true := dT (by omega)
    by_cases h1 : 12 < s.size
    · have b1 : (!decide ((s.size : Int) ≤ 12)) = true := nT (by omega)
      have c1 : decide (s.size ≤ 12) = false := dF (by omega)
      simp only [b0, b1, c0, c1, if_true, if_false, Bool.false_eq_true, Bool.and_false, Bool.false_and]
    · have b1 : (!decide ((s.size : Int) ≤ 12)) = false := nF (by omega)
      have c1 : decide (s.size ≤ 12) = true := dT (by omega)
      have hl := l95 s (by omega)
      rw [Bool.and_assoc, ← badR_none s (by omega)]
      simp only [b0, b1, c0, c1, if_false, Bool.false_eq_true, Bool.true_and]
      cases hf : first (badR s) s.size 0 with
      | none =>
        rw [hf] at hl
        simp only [hl, isRet, Option.isSome_some, if_true, Bool.false_eq_true, if_false, Option.isNone_none]
      | some k =>
        rw [hf] at hl
        simp only [hl, isRet, r95_0, outR, Option.isSome_some, if_true, Option.isNone_some]

/-! ### Texts among others -/

def bs (l : List ByteArray) (i : Nat) : ByteArray := l.getD i { data := { toList := [] } }
def hasT (l : List ByteArray) (x : ByteArray) : Bool := l.any fun y => strEq y x

theorem bs_mem {l : List ByteArray} {i : Nat} (h : i < l.length) : bs l i ∈ l := by
  unfold bs
  rw [List.getD_eq_getElem?_getD, List.getElem?_eq_getElem h]
  exact List.getElem_mem h
theorem mem_bs {l : List ByteArray} {x : ByteArray} (h : x ∈ l) : ∃ i, i < l.length ∧ bs l i = x := by
  obtain ⟨i, hi, e⟩ := List.getElem_of_mem h
  exact ⟨i, hi, by unfold bs; rw [List.getD_eq_getElem?_getD, List.getElem?_eq_getElem hi, e]; rfl⟩
theorem hasT_iff {l : List ByteArray} {x : ByteArray} : hasT l x = true ↔ ∃ i, i < l.length ∧ bs l i = x := by
  unfold hasT
  rw [List.any_eq_true]
  constructor
  · rintro ⟨y, hy, e⟩
    rw [strEq_eq, decide_eq_true_eq] at e
    exact mem_bs (e ▸ hy)
  · rintro ⟨i, hi, e⟩
    exact ⟨x, e ▸ bs_mem hi, by rw [strEq_eq]; exact decide_eq_true rfl⟩

theorem hasT_first (l : List ByteArray) (x : ByteArray) : (first (fun i => strEq (bs l i) x) l.length 0).isSome = hasT l x := by
  rw [Bool.eq_iff_iff, isSome_first, hasT_iff]
  constructor <;> rintro ⟨i, hi, e⟩ <;> exact ⟨i, hi, by simpa [strEq_eq] using e⟩
theorem strEq_comm (a b : ByteArray) : strEq a b = strEq b a := by rw [strEq_eq, strEq_eq]; exact decide_eq_decide.2 ⟨Eq.symm, Eq.symm⟩

theorem l184 (l : List ByteArray) (x : ByteArray) (h : l.length ≤ 1000000000) : l184_0 ((l, x, (l.length : Int), (0 : Int), ()), ()) = match first (fun i => strEq (bs l i) x) l.length 0 with
    | some k => some (.inr (((k : Int), ()), ()))
    | none => some (.inl ((), ())) := by
  refine itr_search (fun i => ((l, x, (l.length : Int), (i : Int), ()), ())) (fun i => strEq (bs l i) x) (fun k => (((k : Int), ()), ())) (n := l.length) ?_ ?_ (lt_rounds (by omega))
  · intro i hi
    have b0 : (!decide ((l.length : Int) ≤ (i : Int))) = true := nT (by omega)
    have b1 : (decide ((0 : Int) ≤ (i : Int)) && decide ((i : Int) < (l.length : Int))) = true := dA (by omega) (by omega)
    have hd : List.getD l i ({ data := { toList := [] } } : ByteArray) = bs l i := rfl
    simp only [s184_0, t184_0, Tr.val_test, Tr.val_fin, Tr.val_stop, leF_eq, b0, b1, if_true, Int.toNat_natCast, hd, strEq_comm x, wrap64_nat (show i ≤ 9223372036854775806 by omega)]
  · simp [s184_0, t184_0, leF_eq]

theorem f143_eq (l : List ByteArray) (x : ByteArray) (h : l.length ≤ 1000000000) : f143 (l, x, ()) = some (hasT l x, ()) := by
  have hl := l184 l x h
  rw [← hasT_first]
  have e : f184 (l, x, ()) = some (match first (fun i => strEq (bs l i) x) l.length 0 with
    | some k => (k : Int)
    | none => -1, ()) := by
    simp only [f184, t184, Tr.val_test, Tr.val_fin]
    cases hf : first (fun i => strEq (bs l i) x) l.length 0 with
    | none =>
      rw [hf] at hl
      simp only [hl, isRet, Option.isSome_some, if_true, if_false, Bool.false_eq_true]
    | some k =>
      rw [hf] at hl
      simp only [hl, isRet, r184_0, outR, Option.isSome_some, if_true]
  simp only [f143, t143, Tr.val_test, Tr.val_fin, e, g184, leF_eq, Option.isSome_some, Option.getD_some, if_true]
  cases hf : first (fun i => strEq (bs l i) x) l.length 0 with
  | none => rfl
  | some k => simp

theorem l96 (l : List ByteArray) (x : ByteArray) (h : l.length ≤ 1000000000) : l96_0 ((l, x, (0 : Int), ()), ()) = match first (fun i => strEq (bs l i) x) l.length 0 with
    | some _ => some (.inr ((true, ()), ()))
    | none => some (.inl ((), ())) := by
  refine itr_search (fun i => ((l, x, (i : Int), ()), ())) (fun i => strEq (bs l i) x) (fun _ => ((true, ()), ())) (n := l.length) ?_ ?_ (lt_rounds (by omega))
  · intro i hi
    have b0 : (!decide ((l.length : Int) ≤ (i : Int))) = true := nT (by omega)
    have b1 : (decide ((0 : Int) ≤ (i : Int)) && decide ((i : Int) < (l.length : Int))) = true := dA (by omega) (by omega)
    have hd : List.getD l i ({ data := { toList := [] } } : ByteArray) = bs l i := rfl
    simp only [s96_0, t96_0, Tr.val_test, Tr.val_fin, Tr.val_stop, leF_eq, b0, b1, if_true, Int.toNat_natCast, hd, wrap64_nat (show i ≤ 9223372036854775806 by omega)]
  · simp [s96_0, t96_0, leF_eq]

theorem f96_eq (l : List ByteArray) (x : ByteArray) (h : l.length ≤ 1000000000) : f96 (l, x, ()) = some (hasT l x, ()) := by
  have hl := l96 l x h
  rw [← hasT_first]
  simp only [f96, t96, Tr.val_test, Tr.val_fin]
  cases hf : first (fun i => strEq (bs l i) x) l.length 0 with
  | none =>
    rw [hf] at hl
    simp only [hl, isRet, Option.isSome_some, Option.isSome_none, if_true, if_false, Bool.false_eq_true]
  | some k =>
    rw [hf] at hl
    simp only [hl, isRet, r96_0, outR, Option.isSome_some, if_true]

end Go.Vm.Mo

namespace Go.Vm.Mo
open Go
set_option linter.unusedVariables false
set_option linter.unusedSimpArgs false

abbrev GT := ByteArray × List ByteArray × Int × Unit
def gt (l : List GT) (i : Nat) : GT := l.getD i (({ data := { toList := [] } } : ByteArray), ([] : List ByteArray), (0 : Int), ())
def gNames (l : List GT) : List ByteArray := l.map fun g => g.1

theorem bs_names (l : List GT) (i : Nat) : bs (gNames l) i = (gt l i).1 := by
  unfold bs gNames gt
  rw [List.getD_eq_getElem?_getD, List.getD_eq_getElem?_getD, List.getElem?_map]
  cases l[i]? with
  | none => rfl
  | some b => rfl
theorem names_len (l : List GT) : (gNames l).length = l.length := List.length_map _

/-- The refusal of a name in its list. -/
def nE (ns : List ByteArray) (i : Nat) (e : Int) : Int := firstNZ [if (!nm (bs ns i)) = true then 4 else 0, if hasT (ns.take i) (bs ns i) = true then e else 0]

theorem take_len {A : Type} (l : List A) (i : Nat) : (l.take i).length ≤ l.length := by rw [List.length_take]; omega

theorem f83_eq (ns : List ByteArray) (i : Nat) (e : Int) (hi : i < ns.length) (h : ns.length ≤ 1000000000) : f83 (ns, (i : Int), e, ()) = some (nE ns i e, ()) := by
  have b1 : (decide ((0 : Int) ≤ (i : Int)) && decide ((i : Int) < (ns.length : Int))) = true := dA (by omega) (by omega)
  have b2 : (decide ((0 : Int) ≤ (i : Int)) && decide ((i : Int) ≤ (ns.length : Int))) = true := dA (by omega) (by omega)
  have hd : List.getD ns i ({ data := { toList := [] } } : ByteArray) = bs ns i := rfl
  have e1 : f142 (bs ns i, ()) = some (nm (bs ns i), ()) := f142_eq _
  have e2 : f143 (ns.take i, bs ns i, ()) = some (hasT (ns.take i) (bs ns i), ()) := f143_eq _ _ (by have := take_len ns i; omega)
  have e3 : f80 (!nm (bs ns i), (4 : Int), ()) = some (if (!nm (bs ns i)) = true then 4 else 0, ()) := f80_eq _
  have e4 : f80 (hasT (ns.take i) (bs ns i), e, ()) = some (if hasT (ns.take i) (bs ns i) = true then e else 0, ()) := f80_eq _
  have e5 : f79 ([if (!nm (bs ns i)) = true then (4 : Int) else 0, if hasT (ns.take i) (bs ns i) = true then e else 0], ()) = some (nE ns i e, ()) := f79_two _ _
  simp only [f83, t83, Tr.val_test, Tr.val_fin, b1, b2, hd, Int.toNat_natCast, if_true, e1, g142, Option.isSome_some, Option.getD_some, e2, g143, e3, g80, e4, e5, g79]

def rolesE (rs : List ByteArray) : Int := firstE (fun k => nE rs k 23) rs.length

theorem l81 (rs : List ByteArray) (a : ByteArray) (s : Int) (h : rs.length ≤ 1000000000) : l81_0 ((rs, (rs.length : Int), (0 : Int), ()), (a, rs, s, ()), ()) = match first (fun k => !decide (nE rs k 23 = 0)) rs.length 0 with
    | some k => some (.inr (((k : Int), nE rs k 23, ()), (a, rs, s, ()), ()))
    | none => some (.inl ((), (a, rs, s, ()), ())) := by
  refine itr_search (fun i => ((rs, (rs.length : Int), (i : Int), ()), (a, rs, s, ()), ())) (fun k => !decide (nE rs k 23 = 0)) (fun k => (((k : Int), nE rs k 23, ()), (a, rs, s, ()), ())) (n := rs.length) ?_ ?_ (lt_rounds (by omega))
  · intro i hi
    have b0 : (!decide ((rs.length : Int) ≤ (i : Int))) = true := nT (by omega)
    have b1 : (decide ((0 : Int) ≤ (i : Int)) && decide ((i : Int) < (rs.length : Int))) = true := dA (by omega) (by omega)
    simp only [s81_0, t81_0, Tr.val_test, Tr.val_fin, Tr.val_stop, leF_eq, eqF_eq, b0, b1, if_true, f83_eq rs i 23 hi h, g83, Option.isSome_some, Option.getD_some, wrap64_nat (show i ≤ 9223372036854775806 by omega)]
  · simp [s81_0, t81_0, leF_eq]

/-- The refusal of a gate, its name aside. -/
def gE (g : GT) : Int := if 4 < g.2.1.length then 8 else firstNZ [rolesE g.2.1, if (!wi 0 20 g.2.2.1) = true then 2 else 0]

theorem f131_eq (g : GT) : f131 ((g.1, g.2.1, g.2.2.1, ()), ()) = some (gE g, ()) := by
  obtain ⟨a, rs, s, u⟩ := g
  show (t131 a rs s).val = some (gE (a, rs, s, u), ())
  unfold t131 gE
  by_cases h : 4 < rs.length
  · have b0 : (!leF (rs.length : Int) 4) = true := by rw [leF_eq]; exact nT (by omega)
    simp only [Tr.val_test, Tr.val_fin, b0, if_true, h]
  · have b0 : (!leF (rs.length : Int) 4) = false := by rw [leF_eq]; exact nF (by omega)
    have hl := l81 rs a s (by omega)
    have e1 : f94 ((0 : Int), (20 : Int), [s], ()) = some (wi 0 20 s, ()) := f94_one _ _ _
    have e2 : f80 (!wi 0 20 s, (2 : Int), ()) = some (if (!wi 0 20 s) = true then 2 else 0, ()) := f80_eq _
    have e3 : ∀ x y : Int, f79 ([x, y], ()) = some (firstNZ [x, y], ()) := f79_two
    unfold rolesE firstE
    cases hf : first (fun k => !decide (nE rs k 23 = 0)) rs.length 0 with
    | none =>
      rw [hf] at hl
      simp only [Tr.val_test, Tr.val_fin, b0, if_true, if_false, Bool.false_eq_true, h, hl, isRet, b81_0, outB, Option.isSome_some, Option.getD_some, e1, g94, e2, g80, e3, g79]
    | some k =>
      rw [hf] at hl
      simp only [Tr.val_test, Tr.val_fin, b0, if_true, if_false, Bool.false_eq_true, h, hl, isRet, r81_0, outR, Option.isSome_some, Option.getD_some, e1, g94, e2, g80, e3, g79]

/-- The refusal of a gate among the gates. -/
def eG (l : List GT) (i : Nat) : Int := firstNZ [nE (gNames l) i 5, gE (gt l i)]

theorem l59 (l : List GT) (h : l.length ≤ 1000) : l59_0 ((l, l, (l.length : Int), (0 : Int), ()), (([] : List ByteArray), ()), ()) = some (.inl ((l, ()), (gNames l, ()), ())) := by
  have e0 : gNames l = gNames (l.take l.length) := by rw [List.take_length]
  rw [e0]
  refine itr_brk (fun i => ((l, l, (l.length : Int), (i : Int), ()), (gNames (l.take i), ()), ())) (n := l.length) ?_ ?_ (lt_rounds (by omega))
  · intro i hi
    have b0 : (!decide ((l.length : Int) ≤ (i : Int))) = true := nT (by omega)
    have b1 : (decide ((0 : Int) ≤ (i : Int)) && decide ((i : Int) < (l.length : Int))) = true := dA (by omega) (by omega)
    have hln : (gNames (l.take i)).length = i := by rw [names_len, List.length_take]; omega
    have b2 : (Nat.ble ((2 * (i + 1) + 192) * 16) 281474976710656 && Nat.ble (i + 1) 281474976710656) = true := by
      rw [Nat.ble_eq_true_of_le (by omega), Nat.ble_eq_true_of_le (by omega)]; rfl
    have hd : List.getD l i (({ data := { toList := [] } } : ByteArray), ([] : List ByteArray), (0 : Int), ()) = gt l i := rfl
    have ht : gNames (l.take i) ++ [(gt l i).1] = gNames (l.take (i + 1)) := by
      unfold gNames gt
      rw [List.getD_eq_getElem?_getD, List.getElem?_eq_getElem hi, List.take_succ_eq_append_getElem hi, List.map_append]
      rfl
    simp only [s59_0, t59_0, Tr.val_test, Tr.val_fin, Tr.val_stop, leF_eq, b0, b1, hln, b2, if_true, Int.toNat_natCast, hd, ht, wrap64_nat (show i ≤ 9223372036854775806 by omega)]
  · simp [s59_0, t59_0, leF_eq]

theorem l129 (l : List GT) (h : l.length ≤ 1000) : l129_0 ((l, (l.length : Int), (0 : Int), ()), (gNames l, ()), ()) = match first (fun i => !decide (eG l i = 0)) l.length 0 with
    | some k => some (.inr (((k : Int), eG l k, ()), (gNames l, ()), ()))
    | none => some (.inl ((), (gNames l, ()), ())) := by
  refine itr_search (fun i => ((l, (l.length : Int), (i : Int), ()), (gNames l, ()), ())) (fun i => !decide (eG l i = 0)) (fun k => (((k : Int), eG l k, ()), (gNames l, ()), ())) (n := l.length) ?_ ?_ (lt_rounds (by omega))
  · intro i hi
    have b0 : (!decide ((l.length : Int) ≤ (i : Int))) = true := nT (by omega)
    have b1 : (decide ((0 : Int) ≤ (i : Int)) && decide ((i : Int) < (l.length : Int))) = true := dA (by omega) (by omega)
    have hd : List.getD l i (({ data := { toList := [] } } : ByteArray), ([] : List ByteArray), (0 : Int), ()) = gt l i := rfl
    have e1 : f83 (gNames l, (i : Int), (5 : Int), ()) = some (nE (gNames l) i 5, ()) := f83_eq _ i 5 (by rw [names_len]; omega) (by rw [names_len]; omega)
    have e2 := f131_eq (gt l i)
    have e3 : f79 ([nE (gNames l) i 5, gE (gt l i)], ()) = some (eG l i, ()) := f79_two _ _
    simp only [s129_0, t129_0, Tr.val_test, Tr.val_fin, Tr.val_stop, leF_eq, eqF_eq, b0, b1, if_true, Int.toNat_natCast, hd, e1, g83, e2, g131, e3, g79, Option.isSome_some, Option.getD_some, wrap64_nat (show i ≤ 9223372036854775806 by omega)]
  · simp [s129_0, t129_0, leF_eq]

/-- The first gate refused, and its refusal. -/
def ckG (l : List GT) : Int × Int :=
  if l.length = 0 then (0, 10)
  else if 6 < l.length then (0, 8)
  else match first (fun i => !decide (eG l i = 0)) l.length 0 with
    | some k => ((k : Int), eG l k)
    | none => (0, 0)

theorem f59_eq (l : List GT) : f59 (l, ()) = some ((ckG l).1, (ckG l).2, ()) := by
  show (t59 l).val = _
  unfold t59 ckG
  have c80 : ∀ (b : Bool) (x : Int), f80 (b, x, ()) = some (if b = true then x else 0, ()) := fun b x => f80_eq _
  have c79 : ∀ x y : Int, f79 ([x, y], ()) = some (firstNZ [x, y], ()) := f79_two
  by_cases h0 : l.length = 0
  · have b0 : decide ((l.length : Int) = 0) = true := dT (by omega)
    have b1 : (!decide ((l.length : Int) ≤ 6)) = false := nF (by omega)
    have b2 : (!decide ((10 : Int) = 0)) = true := by decide
    simp only [Tr.val_test, Tr.val_fin, eqF_eq, leF_eq, b0, b1, c80, g80, c79, g79, Option.isSome_some, Option.getD_some, if_true, if_false, Bool.false_eq_true, firstNZ, h0, b2]
    rfl
  · have b0 : decide ((l.length : Int) = 0) = false := dF (by omega)
    by_cases h1 : 6 < l.length
    · have b1 : (!decide ((l.length : Int) ≤ 6)) = true := nT (by omega)
      have b2 : (!decide ((8 : Int) = 0)) = true := by decide
      simp only [Tr.val_test, Tr.val_fin, eqF_eq, leF_eq, b0, b1, c80, g80, c79, g79, Option.isSome_some, Option.getD_some, if_true, if_false, Bool.false_eq_true, firstNZ, h0, h1]
      rfl
    · have b1 : (!decide ((l.length : Int) ≤ 6)) = false := nF (by omega)
      have e1 := l59 l (by omega)
      have e2 := l129 l (by omega)
      simp only [Tr.val_test, Tr.val_fin, eqF_eq, leF_eq, b0, b1, c80, g80, c79, g79, Option.isSome_some, Option.getD_some, if_true, if_false, Bool.false_eq_true, firstNZ, h0, h1, e1, isBrk, b59_0, outB]
      cases hf : first (fun i => !decide (eG l i = 0)) l.length 0 with
      | none =>
        rw [hf] at e2
        simp only [e2, isRet, decide_true, Bool.not_true, Option.isSome_some, if_true, if_false, Bool.false_eq_true]
      | some k =>
        rw [hf] at e2
        simp only [e2, isRet, r129_0, outR, decide_true, Bool.not_true, Option.isSome_some, if_true, if_false, Bool.false_eq_true]

/-! ### The reference's gates -/

theorem l64d (l : List GT) (i : Nat) (hi : i < l.length) (h : l.length ≤ 1000) : l64_2 ((l, (i : Int), (0 : Int), ()), ()) = if hasT ((gNames l).take i) (bs (gNames l) i) = true then some (.inr (((i : Int), (5 : Int), ()), ())) else some (.inl ((l, (i : Int), ()), ())) := by
  have hs := itr_search (step := s64_2) (fun k => ((l, (i : Int), (k : Int), ()), ())) (fun k => strEq (bs ((gNames l).take i) k) (bs (gNames l) i)) (fun _ => (((i : Int), (5 : Int), ()), ())) (n := i) (m := rounds) (b := ((l, (i : Int), ()), ())) ?_ ?_ (lt_rounds (by omega))
  · have hl : ((gNames l).take i).length = i := by rw [List.length_take, names_len]; omega
    rw [← hasT_first, hl]
    have e0 : l64_2 ((l, (i : Int), (0 : Int), ()), ()) = itr s64_2 rounds ((l, (i : Int), ((0 : Nat) : Int), ()), ()) := rfl
    rw [e0, hs]
    cases first (fun k => strEq (bs ((gNames l).take i) k) (bs (gNames l) i)) i 0 with
    | none => rfl
    | some k => rfl
  · intro k hk
    have b0 : (!decide ((i : Int) ≤ (k : Int))) = true := nT (by omega)
    have b1 : (decide ((0 : Int) ≤ (k : Int)) && decide ((k : Int) < (l.length : Int))) = true := dA (by omega) (by omega)
    have b2 : (decide ((0 : Int) ≤ (i : Int)) && decide ((i : Int) < (l.length : Int))) = true := dA (by omega) (by omega)
    have hd : ∀ j, List.getD l j (({ data := { toList := [] } } : ByteArray), ([] : List ByteArray), (0 : Int), ()) = gt l j := fun _ => rfl
    have ht : bs ((gNames l).take i) k = (gt l k).1 := by
      rw [← bs_names]
      unfold bs
      rw [List.getD_eq_getElem?_getD, List.getD_eq_getElem?_getD, List.getElem?_take, if_pos hk]
    simp only [s64_2, t64_2, Tr.val_test, Tr.val_fin, Tr.val_stop, leF_eq, b0, b1, b2, if_true, Int.toNat_natCast, hd, ht, bs_names, wrap64_nat (show k ≤ 9223372036854775806 by omega)]
  · simp [s64_2, t64_2, leF_eq]

theorem nE_cases (ns : List ByteArray) (k : Nat) (e : Int) (he : e ≠ 0) : nE ns k e = if nm (bs ns k) = true then (if hasT (ns.take k) (bs ns k) = true then e else 0) else 4 := by
  unfold nE firstNZ
  cases h1 : nm (bs ns k) <;> cases h2 : hasT (ns.take k) (bs ns k) <;> simp [firstNZ, he]

theorem l64r (l : List GT) (i : Nat) (hi : i < l.length) (h : (gt l i).2.1.length ≤ 1000) (h' : l.length ≤ 1000) : l64_4 ((l, (i : Int), (0 : Int), ()), ()) = match first (fun k => !decide (nE (gt l i).2.1 k 23 = 0)) (gt l i).2.1.length 0 with
    | some k => some (.inr (((i : Int), nE (gt l i).2.1 k 23, ()), ()))
    | none => some (.inl ((l, (i : Int), ()), ())) := by
  have hd : List.getD l i (({ data := { toList := [] } } : ByteArray), ([] : List ByteArray), (0 : Int), ()) = gt l i := rfl
  have b2 : (decide ((0 : Int) ≤ (i : Int)) && decide ((i : Int) < (l.length : Int))) = true := dA (by omega) (by omega)
  refine itr_search (fun k => ((l, (i : Int), (k : Int), ()), ())) (fun k => !decide (nE (gt l i).2.1 k 23 = 0)) (fun k => (((i : Int), nE (gt l i).2.1 k 23, ()), ())) (n := (gt l i).2.1.length) ?_ ?_ (lt_rounds (by omega))
  · intro k hk
    have b0 : (!decide (((gt l i).2.1.length : Int) ≤ (k : Int))) = true := nT (by omega)
    have b1 : (decide ((0 : Int) ≤ (k : Int)) && decide ((k : Int) < ((gt l i).2.1.length : Int))) = true := dA (by omega) (by omega)
    have b3 : (decide ((0 : Int) ≤ (k : Int)) && decide ((k : Int) ≤ ((gt l i).2.1.length : Int))) = true := dA (by omega) (by omega)
    have hd2 : List.getD (gt l i).2.1 k ({ data := { toList := [] } } : ByteArray) = bs (gt l i).2.1 k := rfl
    have e1 : f95 (bs (gt l i).2.1 k, ()) = some (nm (bs (gt l i).2.1 k), ()) := f95_eq _
    have e2 : f96 ((gt l i).2.1.take k, bs (gt l i).2.1 k, ()) = some (hasT ((gt l i).2.1.take k) (bs (gt l i).2.1 k), ()) := f96_eq _ _ (by have := take_len (gt l i).2.1 k; omega)
    rw [nE_cases _ _ 23 (by decide)]
    simp only [s64_4, t64_4, Tr.val_test, Tr.val_fin, Tr.val_stop, leF_eq, b0, b1, b2, b3, if_true, Int.toNat_natCast, hd, hd2, e1, g95, e2, g96, Option.isSome_some, Option.getD_some, wrap64_nat (show k ≤ 9223372036854775806 by omega)]
    cases h1 : nm (bs (gt l i).2.1 k) <;> cases h2 : hasT ((gt l i).2.1.take k) (bs (gt l i).2.1 k) <;> simp
  · have b0 : (!decide (((gt l i).2.1.length : Int) ≤ ((gt l i).2.1.length : Int))) = false := nF (by omega)
    simp only [s64_4, t64_4, Tr.val_test, Tr.val_fin, Tr.val_stop, leF_eq, b0, b2, if_true, if_false, Bool.false_eq_true, Int.toNat_natCast, hd]

theorem eG_cases (l : List GT) (i : Nat) : eG l i = if nm (bs (gNames l) i) = true then (if hasT ((gNames l).take i) (bs (gNames l) i) = true then 5 else (if 4 < (gt l i).2.1.length then 8 else if rolesE (gt l i).2.1 = 0 then (if wi 0 20 (gt l i).2.2.1 = true then 0 else 2) else rolesE (gt l i).2.1)) else 4 := by
  unfold eG
  rw [nE_cases _ _ 5 (by decide)]
  cases h1 : nm (bs (gNames l) i)
  · simp [firstNZ]
  · cases h2 : hasT ((gNames l).take i) (bs (gNames l) i)
    · simp only [firstNZ, if_true, if_false, Bool.false_eq_true, gE]
      by_cases h3 : 4 < (gt l i).2.1.length
      · simp [h3]
      · by_cases h4 : rolesE (gt l i).2.1 = 0 <;> rcases Bool.eq_false_or_eq_true (wi 0 20 (gt l i).2.2.1) with h5 | h5 <;> simp [h3, h4, h5]
    · simp [firstNZ]

theorem l64 (l : List GT) (h : l.length ≤ 1000) : l64_0 ((l, (0 : Int), ()), ()) = match first (fun i => !decide (eG l i = 0)) l.length 0 with
    | some k => some (.inr (((k : Int), eG l k, ()), ()))
    | none => some (.inl ((), ())) := by
  refine itr_search (fun i => ((l, (i : Int), ()), ())) (fun i => !decide (eG l i = 0)) (fun k => (((k : Int), eG l k, ()), ())) (n := l.length) ?_ ?_ (lt_rounds (by omega))
  · intro i hi
    have b0 : (!decide ((l.length : Int) ≤ (i : Int))) = true := nT (by omega)
    have b1 : (decide ((0 : Int) ≤ (i : Int)) && decide ((i : Int) < (l.length : Int))) = true := dA (by omega) (by omega)
    have hd : List.getD l i (({ data := { toList := [] } } : ByteArray), ([] : List ByteArray), (0 : Int), ()) = gt l i := rfl
    have e1 : f95 ((gt l i).1, ()) = some (nm (bs (gNames l) i), ()) := by rw [bs_names]; exact f95_eq _
    have e2 := l64d l i hi h
    have e3 : f25 ((gt l i).2.2.1, (0 : Int), (20 : Int), ()) = some (wi 0 20 (gt l i).2.2.1, ()) := f25_eq _
    rw [eG_cases]
    simp only [s64_0, t64_0, Tr.val_test, Tr.val_fin, Tr.val_stop, leF_eq, b0, b1, if_true, Int.toNat_natCast, hd, e1, g95, Option.isSome_some, Option.getD_some, wrap64_nat (show i ≤ 9223372036854775806 by omega)]
    cases h1 : nm (bs (gNames l) i)
    · simp
    · cases h2 : hasT ((gNames l).take i) (bs (gNames l) i)
      · rw [h2] at e2
        simp only [Bool.false_eq_true, if_false] at e2
        simp only [e2, isRet, b64_2, outB, Option.isSome_some, if_true, if_false, Bool.false_eq_true, Bool.not_true, b1, Int.toNat_natCast, hd]
        by_cases h3 : 4 < (gt l i).2.1.length
        · have b3 : (!decide (((gt l i).2.1.length : Int) ≤ 4)) = true := nT (by omega)
          simp [b3, h3]
        · have b3 : (!decide (((gt l i).2.1.length : Int) ≤ 4)) = false := nF (by omega)
          have e4 := l64r l i hi (by omega) h
          simp only [b3, h3, if_false, Bool.false_eq_true]
          unfold rolesE firstE
          cases hf : first (fun k => !decide (nE (gt l i).2.1 k 23 = 0)) (gt l i).2.1.length 0 with
          | none =>
            rw [hf] at e4
            simp only [e4, isRet, b64_4, outB, Option.isSome_some, if_true, if_false, Bool.false_eq_true, b1, Int.toNat_natCast, hd, e3, g25, Option.getD_some, wrap64_nat (show i ≤ 9223372036854775806 by omega)]
            cases h5 : wi 0 20 (gt l i).2.2.1 <;> simp
          | some k =>
            rw [hf] at e4
            have hk := (first_some hf).2.2.1
            have hk' : ¬ nE (gt l i).2.1 k 23 = 0 := by simpa using hk
            simp only [e4, isRet, r64_4, outR, Option.isSome_some, if_true, if_false, hk', decide_false, Bool.not_false]
      · rw [h2] at e2
        simp only [if_true] at e2
        simp only [e2, isRet, r64_2, outR, Option.isSome_some, if_true, if_false, Bool.false_eq_true, Bool.not_true]
        simp
  · simp [s64_0, t64_0, leF_eq]

theorem f64_eq (l : List GT) : f64 (l, ()) = some ((ckG l).1, (ckG l).2, ()) := by
  show (t64 l).val = _
  unfold t64 ckG
  by_cases h0 : l.length = 0
  · have b0 : decide ((l.length : Int) = 0) = true := dT (by omega)
    simp only [Tr.val_test, Tr.val_fin, eqF_eq, b0, if_true, h0]
    rfl
  · have b0 : decide ((l.length : Int) = 0) = false := dF (by omega)
    by_cases h1 : 6 < l.length
    · have b1 : (!decide ((l.length : Int) ≤ 6)) = true := nT (by omega)
      simp only [Tr.val_test, Tr.val_fin, eqF_eq, leF_eq, b0, b1, if_true, if_false, Bool.false_eq_true, h0, h1]
    · have b1 : (!decide ((l.length : Int) ≤ 6)) = false := nF (by omega)
      have e2 := l64 l (by omega)
      simp only [Tr.val_test, Tr.val_fin, eqF_eq, leF_eq, b0, b1, if_true, if_false, Bool.false_eq_true, h0, h1]
      cases hf : first (fun i => !decide (eG l i = 0)) l.length 0 with
      | none =>
        rw [hf] at e2
        simp only [e2, isRet, Option.isSome_some, if_true, if_false, Bool.false_eq_true]
      | some k =>
        rw [hf] at e2
        simp only [e2, isRet, r64_0, outR, Option.isSome_some, if_true]

end Go.Vm.Mo

namespace Go.Vm.Mo
open Go
set_option linter.unusedVariables false
set_option linter.unusedSimpArgs false

abbrev SG := Int × ByteArray × ByteArray × Unit
def sg (l : List SG) (i : Nat) : SG := l.getD i ((0 : Int), ({ data := { toList := [] } } : ByteArray), ({ data := { toList := [] } } : ByteArray), ())
def sgEq (a b : SG) : Bool := a.1 == b.1 && (strEq a.2.1 b.2.1 && (strEq a.2.2.1 b.2.2.1 && true))

theorem sgEq_comm (a b : SG) : sgEq a b = sgEq b a := by
  unfold sgEq
  rw [strEq_comm a.2.1, strEq_comm a.2.2.1]
  congr 1
  exact Bool.eq_iff_iff.2 ⟨fun h => by rw [beq_iff_eq] at *; exact h.symm, fun h => by rw [beq_iff_eq] at *; exact h.symm⟩

theorem any_first {A : Type} (p : A → Bool) (l : List A) (d : A) : (first (fun i => p (l.getD i d)) l.length 0).isSome = l.any p := by
  rw [Bool.eq_iff_iff, isSome_first, List.any_eq_true]
  constructor
  · rintro ⟨i, hi, e⟩
    rw [List.getD_eq_getElem?_getD, List.getElem?_eq_getElem hi] at e
    exact ⟨l[i], List.getElem_mem hi, e⟩
  · rintro ⟨x, hx, e⟩
    obtain ⟨i, hi, ex⟩ := List.getElem_of_mem hx
    exact ⟨i, hi, by rw [List.getD_eq_getElem?_getD, List.getElem?_eq_getElem hi, ex]; exact e⟩

def hasS (l : List SG) (x : SG) : Bool := l.any fun y => sgEq y x

theorem hasS_first (l : List SG) (x : SG) : (first (fun i => sgEq (sg l i) x) l.length 0).isSome = hasS l x := any_first (fun y => sgEq y x) l _

theorem l199 (l : List SG) (x : SG) (h : l.length ≤ 1000) : l199_0 ((l, (l.length : Int), (0 : Int), ()), (x.1, x.2.1, x.2.2.1, ()), ()) = match first (fun i => sgEq (sg l i) x) l.length 0 with
    | some k => some (.inr (((k : Int), ()), (x.1, x.2.1, x.2.2.1, ()), ()))
    | none => some (.inl ((), (x.1, x.2.1, x.2.2.1, ()), ())) := by
  refine itr_search (fun i => ((l, (l.length : Int), (i : Int), ()), (x.1, x.2.1, x.2.2.1, ()), ())) (fun i => sgEq (sg l i) x) (fun k => (((k : Int), ()), (x.1, x.2.1, x.2.2.1, ()), ())) (n := l.length) ?_ ?_ (lt_rounds (by omega))
  · intro i hi
    have b0 : (!decide ((l.length : Int) ≤ (i : Int))) = true := nT (by omega)
    have b1 : (decide ((0 : Int) ≤ (i : Int)) && decide ((i : Int) < (l.length : Int))) = true := dA (by omega) (by omega)
    have hd : List.getD l i ((0 : Int), ({ data := { toList := [] } } : ByteArray), ({ data := { toList := [] } } : ByteArray), ()) = sg l i := rfl
    have hs : (x.1 == (sg l i).1 && (strEq x.2.1 (sg l i).2.1 && (strEq x.2.2.1 (sg l i).2.2.1 && true))) = sgEq (sg l i) x := by rw [sgEq_comm]; rfl
    simp only [s199_0, t199_0, Tr.val_test, Tr.val_fin, Tr.val_stop, leF_eq, b0, b1, if_true, Int.toNat_natCast, hd, hs, wrap64_nat (show i ≤ 9223372036854775806 by omega)]
  · simp [s199_0, t199_0, leF_eq]

theorem f168_eq (l : List SG) (x : SG) (h : l.length ≤ 1000) : f168 (l, (x.1, x.2.1, x.2.2.1, ()), ()) = some (hasS l x, ()) := by
  have hl := l199 l x h
  rw [← hasS_first]
  have e : f199 (l, (x.1, x.2.1, x.2.2.1, ()), ()) = some (match first (fun i => sgEq (sg l i) x) l.length 0 with
    | some k => (k : Int)
    | none => -1, ()) := by
    simp only [f199, t199, Tr.val_test, Tr.val_fin]
    cases hf : first (fun i => sgEq (sg l i) x) l.length 0 with
    | none =>
      rw [hf] at hl
      simp only [hl, isRet, Option.isSome_some, if_true, if_false, Bool.false_eq_true]
    | some k =>
      rw [hf] at hl
      simp only [hl, isRet, r199_0, outR, Option.isSome_some, if_true]
  simp only [f168, t168, Tr.val_test, Tr.val_fin, e, g199, leF_eq, Option.isSome_some, Option.getD_some, if_true]
  cases hf : first (fun i => sgEq (sg l i) x) l.length 0 with
  | none => rfl
  | some k => simp

/-- The refusal of a signature among the signatures. -/
def eS (n : Nat) (s : List SG) (i : Nat) : Int :=
  firstNZ [if (!wi 0 ((n : Int) - 1) (sg s i).1) = true then 6 else 0, if (!nm (sg s i).2.1) = true then 4 else if (!nm (sg s i).2.2.1) = true then 4 else 0, if hasS (s.take i) (sg s i) = true then 23 else 0]

def ckS (n : Nat) (s : List SG) : Int := if 20 < s.length then 8 else firstE (eS n s) s.length

theorem wsub {n : Nat} (h : n ≤ 1000) : wrap64 ((n : Int) - 1) = (n : Int) - 1 := by rw [wrap64_id] <;> omega

theorem l166 (n : Nat) (s : List SG) (hn : n ≤ 1000) (h : s.length ≤ 1000) : l166_0 ((s, (s.length : Int), (0 : Int), ()), ((n : Int), ()), (s, ()), ()) = match first (fun i => !decide (eS n s i = 0)) s.length 0 with
    | some k => some (.inr (((k : Int), eS n s k, ()), ((n : Int), ()), (s, ()), ()))
    | none => some (.inl ((), ((n : Int), ()), (s, ()), ())) := by
  refine itr_search (fun i => ((s, (s.length : Int), (i : Int), ()), ((n : Int), ()), (s, ()), ())) (fun i => !decide (eS n s i = 0)) (fun k => (((k : Int), eS n s k, ()), ((n : Int), ()), (s, ()), ())) (n := s.length) ?_ ?_ (lt_rounds (by omega))
  · intro i hi
    have b0 : (!decide ((s.length : Int) ≤ (i : Int))) = true := nT (by omega)
    have b1 : (decide ((0 : Int) ≤ (i : Int)) && decide ((i : Int) < (s.length : Int))) = true := dA (by omega) (by omega)
    have b2 : (decide ((0 : Int) ≤ (i : Int)) && decide ((i : Int) ≤ (s.length : Int))) = true := dA (by omega) (by omega)
    have hd : List.getD s i ((0 : Int), ({ data := { toList := [] } } : ByteArray), ({ data := { toList := [] } } : ByteArray), ()) = sg s i := rfl
    have e1 : f94 ((0 : Int), (n : Int) - 1, [(sg s i).1], ()) = some (wi 0 ((n : Int) - 1) (sg s i).1, ()) := f94_one _ _ _
    have e2 : f142 ((sg s i).2.1, ()) = some (nm (sg s i).2.1, ()) := f142_eq _
    have e3 : f142 ((sg s i).2.2.1, ()) = some (nm (sg s i).2.2.1, ()) := f142_eq _
    have e4 : f168 (s.take i, ((sg s i).1, (sg s i).2.1, (sg s i).2.2.1, ()), ()) = some (hasS (s.take i) (sg s i), ()) := f168_eq _ _ (by have := take_len s i; omega)
    have c80 : ∀ (b : Bool) (x : Int), f80 (b, x, ()) = some (if b = true then x else 0, ()) := fun b x => f80_eq _
    have c79 : ∀ x y z : Int, f79 ([x, y, z], ()) = some (firstNZ [x, y, z], ()) := f79_three
    simp only [s166_0, t166_0, Tr.val_test, Tr.val_fin, Tr.val_stop, leF_eq, eqF_eq, b0, b1, b2, if_true, Int.toNat_natCast, hd, wsub hn, e1, g94, e2, g142, e3, e4, g168, c80, g80, c79, g79, Option.isSome_some, Option.getD_some, wrap64_nat (show i ≤ 9223372036854775806 by omega), eS]
    rcases Bool.eq_false_or_eq_true (!nm (sg s i).2.1) with h1 | h1
    · simp only [h1, if_true]
    · simp only [h1, if_false, Bool.false_eq_true]
  · simp [s166_0, t166_0, leF_eq]

theorem f132_eq (n : Nat) (s : List SG) (hn : n ≤ 1000) : f132 (s, (n : Int), ()) = some (ckS n s, ()) := by
  show (t132 s (n : Int)).val = _
  unfold t132 ckS
  by_cases h : 20 < s.length
  · have b0 : (!leF (s.length : Int) 20) = true := by rw [leF_eq]; exact nT (by omega)
    simp only [Tr.val_test, Tr.val_fin, b0, if_true, h]
  · have b0 : (!leF (s.length : Int) 20) = false := by rw [leF_eq]; exact nF (by omega)
    have hl := l166 n s hn (by omega)
    unfold firstE
    cases hf : first (fun i => !decide (eS n s i = 0)) s.length 0 with
    | none =>
      rw [hf] at hl
      simp only [Tr.val_test, Tr.val_fin, b0, if_false, Bool.false_eq_true, h, hl, isRet, Option.isSome_some, if_true]
    | some k =>
      rw [hf] at hl
      simp only [Tr.val_test, Tr.val_fin, b0, if_false, Bool.false_eq_true, h, hl, isRet, r166_0, outR, Option.isSome_some, if_true]

theorem eS_cases (n : Nat) (s : List SG) (i : Nat) : eS n s i = if wi 0 ((n : Int) - 1) (sg s i).1 = true then (if nm (sg s i).2.1 = true then (if nm (sg s i).2.2.1 = true then (if hasS (s.take i) (sg s i) = true then 23 else 0) else 4) else 4) else 6 := by
  unfold eS
  rcases Bool.eq_false_or_eq_true (wi 0 ((n : Int) - 1) (sg s i).1) with h1 | h1 <;> rcases Bool.eq_false_or_eq_true (nm (sg s i).2.1) with h2 | h2 <;> rcases Bool.eq_false_or_eq_true (nm (sg s i).2.2.1) with h3 | h3 <;> rcases Bool.eq_false_or_eq_true (hasS (s.take i) (sg s i)) with h4 | h4 <;> simp [h1, h2, h3, h4, firstNZ]

theorem l65d (n : Nat) (s : List SG) (i : Nat) (hi : i < s.length) (h : s.length ≤ 1000) : l65_2 (((n : Int), s, (i : Int), (0 : Int), ()), ()) = if hasS (s.take i) (sg s i) = true then some (.inr (((23 : Int), ()), ())) else some (.inl (((n : Int), s, (i : Int), ()), ())) := by
  have hs := itr_search (step := s65_2) (fun k => (((n : Int), s, (i : Int), (k : Int), ()), ())) (fun k => sgEq (sg (s.take i) k) (sg s i)) (fun _ => (((23 : Int), ()), ())) (n := i) (m := rounds) (b := (((n : Int), s, (i : Int), ()), ())) ?_ ?_ (lt_rounds (by omega))
  · have hl : (s.take i).length = i := by rw [List.length_take]; omega
    rw [← hasS_first, hl]
    have e0 : l65_2 (((n : Int), s, (i : Int), (0 : Int), ()), ()) = itr s65_2 rounds (((n : Int), s, (i : Int), ((0 : Nat) : Int), ()), ()) := rfl
    rw [e0, hs]
    cases first (fun k => sgEq (sg (s.take i) k) (sg s i)) i 0 with
    | none => rfl
    | some k => rfl
  · intro k hk
    have b0 : (!decide ((i : Int) ≤ (k : Int))) = true := nT (by omega)
    have b1 : (decide ((0 : Int) ≤ (k : Int)) && decide ((k : Int) < (s.length : Int))) = true := dA (by omega) (by omega)
    have b2 : (decide ((0 : Int) ≤ (i : Int)) && decide ((i : Int) < (s.length : Int))) = true := dA (by omega) (by omega)
    have hd : ∀ j, List.getD s j ((0 : Int), ({ data := { toList := [] } } : ByteArray), ({ data := { toList := [] } } : ByteArray), ()) = sg s j := fun _ => rfl
    have ht : sg (s.take i) k = sg s k := by
      unfold sg
      rw [List.getD_eq_getElem?_getD, List.getD_eq_getElem?_getD, List.getElem?_take, if_pos hk]
    have hs : ((sg s k).1 == (sg s i).1 && (strEq (sg s k).2.1 (sg s i).2.1 && (strEq (sg s k).2.2.1 (sg s i).2.2.1 && true))) = sgEq (sg s k) (sg s i) := rfl
    simp only [s65_2, t65_2, Tr.val_test, Tr.val_fin, Tr.val_stop, leF_eq, b0, b1, b2, if_true, Int.toNat_natCast, hd, ht, hs, wrap64_nat (show k ≤ 9223372036854775806 by omega)]
  · simp [s65_2, t65_2, leF_eq]

theorem l65 (n : Nat) (s : List SG) (hn : n ≤ 1000) (h : s.length ≤ 1000) : l65_0 (((n : Int), s, (0 : Int), ()), ()) = match first (fun i => !decide (eS n s i = 0)) s.length 0 with
    | some k => some (.inr ((eS n s k, ()), ()))
    | none => some (.inl ((), ())) := by
  refine itr_search (fun i => (((n : Int), s, (i : Int), ()), ())) (fun i => !decide (eS n s i = 0)) (fun k => ((eS n s k, ()), ())) (n := s.length) ?_ ?_ (lt_rounds (by omega))
  · intro i hi
    have b0 : (!decide ((s.length : Int) ≤ (i : Int))) = true := nT (by omega)
    have b1 : (decide ((0 : Int) ≤ (i : Int)) && decide ((i : Int) < (s.length : Int))) = true := dA (by omega) (by omega)
    have hd : List.getD s i ((0 : Int), ({ data := { toList := [] } } : ByteArray), ({ data := { toList := [] } } : ByteArray), ()) = sg s i := rfl
    have e1 : f25 ((sg s i).1, (0 : Int), (n : Int) - 1, ()) = some (wi 0 ((n : Int) - 1) (sg s i).1, ()) := f25_eq _
    have e2 : f95 ((sg s i).2.1, ()) = some (nm (sg s i).2.1, ()) := f95_eq _
    have e3 : f95 ((sg s i).2.2.1, ()) = some (nm (sg s i).2.2.1, ()) := f95_eq _
    have e4 := l65d n s i hi h
    rw [eS_cases]
    simp only [s65_0, t65_0, Tr.val_test, Tr.val_fin, Tr.val_stop, leF_eq, b0, b1, if_true, Int.toNat_natCast, hd, wsub hn, e1, g25, e2, g95, e3, Option.isSome_some, Option.getD_some, wrap64_nat (show i ≤ 9223372036854775806 by omega)]
    rcases Bool.eq_false_or_eq_true (wi 0 ((n : Int) - 1) (sg s i).1) with h1 | h1
    · rcases Bool.eq_false_or_eq_true (nm (sg s i).2.1) with h2 | h2
      · rcases Bool.eq_false_or_eq_true (nm (sg s i).2.2.1) with h3 | h3
        · rcases Bool.eq_false_or_eq_true (hasS (s.take i) (sg s i)) with h4 | h4
          · rw [h4] at e4
            simp only [if_true] at e4
            simp [h1, h2, h3, h4, e4, isRet, r65_2, outR]
          · rw [h4] at e4
            simp only [if_false, Bool.false_eq_true] at e4
            simp [h1, h2, h3, h4, e4, isRet, b65_2, outB, wrap64_nat (show i ≤ 9223372036854775806 by omega)]
        · simp [h1, h2, h3]
      · simp [h1, h2]
    · simp [h1]
  · simp [s65_0, t65_0, leF_eq]

theorem f65_eq (n : Nat) (s : List SG) (hn : n ≤ 1000) : f65 ((n : Int), s, ()) = some (ckS n s, ()) := by
  show (t65 (n : Int) s).val = _
  unfold t65 ckS
  by_cases h : 20 < s.length
  · have b0 : (!leF (s.length : Int) 20) = true := by rw [leF_eq]; exact nT (by omega)
    simp only [Tr.val_test, Tr.val_fin, b0, if_true, h]
  · have b0 : (!leF (s.length : Int) 20) = false := by rw [leF_eq]; exact nF (by omega)
    have hl := l65 n s hn (by omega)
    unfold firstE
    cases hf : first (fun i => !decide (eS n s i = 0)) s.length 0 with
    | none =>
      rw [hf] at hl
      simp only [Tr.val_test, Tr.val_fin, b0, if_false, Bool.false_eq_true, h, hl, isRet, Option.isSome_some, if_true]
    | some k =>
      rw [hf] at hl
      simp only [Tr.val_test, Tr.val_fin, b0, if_false, Bool.false_eq_true, h, hl, isRet, r65_0, outR, Option.isSome_some, if_true]

/-! ### Roles that have not signed -/

/-- The places where it is so, of the first n. -/
def places (p : Nat → Bool) : Nat → List Int
  | 0 => []
  | n + 1 => if p n = true then places p n ++ [(n : Int)] else places p n

theorem places_len (p : Nat → Bool) : ∀ n, (places p n).length ≤ n
  | 0 => Nat.le_refl _
  | n + 1 => by
    have := places_len p n
    unfold places
    split
    · rw [List.length_append]; simp; omega
    · omega

def signs (g : Int) (r : ByteArray) (x : SG) : Bool := decide (x.1 = g) && strEq x.2.2.1 r
def unsigned (rs : List ByteArray) (g : Int) (s : List SG) (k : Nat) : Bool := !s.any (signs g (bs rs k))
def miss (rs : List ByteArray) (g : Int) (s : List SG) : List Int := places (unsigned rs g s) rs.length

theorem signs_first (g : Int) (r : ByteArray) (s : List SG) : (first (fun i => signs g r (sg s i)) s.length 0).isSome = s.any (signs g r) := any_first _ s _

theorem l200 (g : Int) (r : ByteArray) (s : List SG) (h : s.length ≤ 1000) : l200_0 ((s, (s.length : Int), (0 : Int), ()), (g, ()), (r, ()), ()) = match first (fun i => signs g r (sg s i)) s.length 0 with
    | some k => some (.inr (((k : Int), ()), (g, ()), (r, ()), ()))
    | none => some (.inl ((), (g, ()), (r, ()), ())) := by
  refine itr_search (fun i => ((s, (s.length : Int), (i : Int), ()), (g, ()), (r, ()), ())) (fun i => signs g r (sg s i)) (fun k => (((k : Int), ()), (g, ()), (r, ()), ())) (n := s.length) ?_ ?_ (lt_rounds (by omega))
  · intro i hi
    have b0 : (!decide ((s.length : Int) ≤ (i : Int))) = true := nT (by omega)
    have b1 : (decide ((0 : Int) ≤ (i : Int)) && decide ((i : Int) < (s.length : Int))) = true := dA (by omega) (by omega)
    have hd : List.getD s i ((0 : Int), ({ data := { toList := [] } } : ByteArray), ({ data := { toList := [] } } : ByteArray), ()) = sg s i := rfl
    simp only [s200_0, t200_0, Tr.val_test, Tr.val_fin, Tr.val_stop, leF_eq, eqF_eq, b0, b1, if_true, Int.toNat_natCast, hd, wrap64_nat (show i ≤ 9223372036854775806 by omega), signs]
    by_cases h1 : (sg s i).1 = g
    · have d1 : decide ((sg s i).1 = g) = true := dT h1
      simp only [d1, if_true, Bool.true_and]
    · have d1 : decide ((sg s i).1 = g) = false := dF h1
      simp only [d1, if_false, Bool.false_eq_true, Bool.false_and]
  · simp [s200_0, t200_0, leF_eq]

theorem l133 (rs : List ByteArray) (g : Int) (s : List SG) (h : s.length ≤ 1000) (hr : rs.length ≤ 1000) : l133_0 ((s, ([] : List Int), rs, (rs.length : Int), (0 : Int), ()), (g, ()), ()) = some (.inl ((miss rs g s, ()), (g, ()), ())) := by
  unfold miss
  refine itr_brk (fun k => ((s, places (unsigned rs g s) k, rs, (rs.length : Int), (k : Int), ()), (g, ()), ())) (n := rs.length) ?_ ?_ (lt_rounds (by omega))
  · intro k hk
    have b0 : (!decide ((rs.length : Int) ≤ (k : Int))) = true := nT (by omega)
    have b1 : (decide ((0 : Int) ≤ (k : Int)) && decide ((k : Int) < (rs.length : Int))) = true := dA (by omega) (by omega)
    have hp := places_len (unsigned rs g s) k
    have b2 : (Nat.ble ((2 * ((places (unsigned rs g s) k).length + 1) + 192) * 8) 281474976710656 && Nat.ble ((places (unsigned rs g s) k).length + 1) 281474976710656) = true := by
      rw [Nat.ble_eq_true_of_le (by omega), Nat.ble_eq_true_of_le (by omega)]; rfl
    have hd : List.getD rs k ({ data := { toList := [] } } : ByteArray) = bs rs k := rfl
    have hl := l200 g (bs rs k) s h
    have hu : places (unsigned rs g s) (k + 1) = if (first (fun i => signs g (bs rs k) (sg s i)) s.length 0).isSome = true then places (unsigned rs g s) k else places (unsigned rs g s) k ++ [(k : Int)] := by
      rw [signs_first, places]
      unfold unsigned
      rcases Bool.eq_false_or_eq_true (s.any (signs g (bs rs k))) with h1 | h1 <;> simp only [h1, Bool.not_true, Bool.not_false, if_true, if_false, Bool.false_eq_true]
    show s133_0 ((s, places (unsigned rs g s) k, rs, (rs.length : Int), (k : Int), ()), (g, ()), ()) = some (.again ((s, places (unsigned rs g s) (k + 1), rs, (rs.length : Int), ((k + 1 : Nat) : Int), ()), (g, ()), ()))
    rw [hu]
    cases hf : first (fun i => signs g (bs rs k) (sg s i)) s.length 0 with
    | none =>
      rw [hf] at hl
      simp only [s133_0, t133_0, Tr.val_test, Tr.val_fin, Tr.val_stop, leF_eq, b0, b1, b2, if_true, Int.toNat_natCast, hd, hl, isRet, b200_0, outB, Option.isSome_some, Option.isSome_none, if_false, Bool.false_eq_true, wrap64_nat (show k ≤ 9223372036854775806 by omega)]
    | some j =>
      rw [hf] at hl
      have b3 : (!decide ((0 : Int) ≤ (j : Int))) = false := nF (by omega)
      simp only [s133_0, t133_0, Tr.val_test, Tr.val_fin, Tr.val_stop, leF_eq, b0, b1, b3, if_true, Int.toNat_natCast, hd, hl, isRet, r200_0, outR, Option.isSome_some, if_false, Bool.false_eq_true, wrap64_nat (show k ≤ 9223372036854775806 by omega)]
  · simp [s133_0, t133_0, leF_eq]

theorem f133_eq (l : List GT) (g : Nat) (s : List SG) (hg : g < l.length) (h : s.length ≤ 1000) (hr : (gt l g).2.1.length ≤ 1000) : f133 (l, (g : Int), s, ()) = some (miss (gt l g).2.1 g s, ()) := by
  have b1 : (decide ((0 : Int) ≤ (g : Int)) && decide ((g : Int) < (l.length : Int))) = true := dA (by omega) (by omega)
  have hd : List.getD l g (({ data := { toList := [] } } : ByteArray), ([] : List ByteArray), (0 : Int), ()) = gt l g := rfl
  have hl := l133 (gt l g).2.1 g s h hr
  simp only [f133, t133, Tr.val_test, Tr.val_fin, b1, if_true, Int.toNat_natCast, hd, hl, isBrk, b133_0, outB]

/-- Whether it is so at one of the first n. -/
def anyN (p : Nat → Bool) : Nat → Bool
  | 0 => false
  | n + 1 => anyN p n || p n

theorem anyN_first (p : Nat → Bool) (n : Nat) : anyN p n = (first p n 0).isSome := by
  rw [Bool.eq_iff_iff, isSome_first]
  induction n with
  | zero => simp [anyN]
  | succ n ih =>
    simp only [anyN, Bool.or_eq_true, ih]
    constructor
    · rintro (⟨i, hi, e⟩ | e)
      · exact ⟨i, by omega, e⟩
      · exact ⟨n, by omega, e⟩
    · rintro ⟨i, hi, e⟩
      by_cases h : i = n
      · subst h; exact .inr e
      · exact .inl ⟨i, by omega, e⟩

/-- Who signed the gate, of the first n signatures, each once. -/
def ppl (g : Int) (s : List SG) : Nat → List ByteArray
  | 0 => []
  | n + 1 => if decide ((sg s n).1 = g) = true then (if hasT (ppl g s n) (sg s n).2.1 = true then ppl g s n else ppl g s n ++ [(sg s n).2.1]) else ppl g s n

theorem ppl_len (g : Int) (s : List SG) : ∀ n, (ppl g s n).length ≤ n
  | 0 => Nat.le_refl _
  | n + 1 => by
    have := ppl_len g s n
    unfold ppl
    split
    · split
      · omega
      · rw [List.length_append]; simp; omega
    · omega

theorem mput_keys (x : ByteArray) : ∀ l : List ByteArray, (mput (k := .str) (v := .bool) (l.map fun y => (y, true)) x true) = (if hasT l x = true then l else l ++ [x]).map fun y => (y, true)
  | [] => rfl
  | y :: l => by
    have ih := mput_keys x l
    show (match strEq x y with | true => (x, true) :: (l.map fun y => (y, true)) | false => (y, true) :: mput (k := .str) (v := .bool) (l.map fun y => (y, true)) x true) = _
    have hh : hasT (y :: l) x = (strEq y x || hasT l x) := rfl
    rw [hh]
    rw [strEq_comm y x]
    cases h1 : strEq x y with
    | true =>
      have : x = y := by rw [strEq_eq, decide_eq_true_eq] at h1; exact h1
      subst this
      simp
    | false =>
      simp only [Bool.false_or, ih]
      by_cases h2 : hasT l x = true
      · simp [h2]
      · simp [h2]

theorem l134 (g : Int) (s : List SG) (h : s.length ≤ 1000) : l134_0 ((g, s, (s.length : Int), (0 : Int), ()), ([] : List (ByteArray × Bool)), ()) = some (.inl ((), (ppl g s s.length).map (fun y => (y, true)), ())) := by
  refine itr_brk (fun k => ((g, s, (s.length : Int), (k : Int), ()), (ppl g s k).map (fun y => (y, true)), ())) (n := s.length) ?_ ?_ (lt_rounds (by omega))
  · intro k hk
    have b0 : (!decide ((s.length : Int) ≤ (k : Int))) = true := nT (by omega)
    have b1 : (decide ((0 : Int) ≤ (k : Int)) && decide ((k : Int) < (s.length : Int))) = true := dA (by omega) (by omega)
    have hd : List.getD s k ((0 : Int), ({ data := { toList := [] } } : ByteArray), ({ data := { toList := [] } } : ByteArray), ()) = sg s k := rfl
    have hm := mput_keys (sg s k).2.1 (ppl g s k)
    have hp : ppl g s (k + 1) = if decide ((sg s k).1 = g) = true then (if hasT (ppl g s k) (sg s k).2.1 = true then ppl g s k else ppl g s k ++ [(sg s k).2.1]) else ppl g s k := rfl
    show s134_0 ((g, s, (s.length : Int), (k : Int), ()), (ppl g s k).map (fun y => (y, true)), ()) = some (.again ((g, s, (s.length : Int), ((k + 1 : Nat) : Int), ()), (ppl g s (k + 1)).map (fun y => (y, true)), ()))
    rw [hp]
    rcases Bool.eq_false_or_eq_true (decide ((sg s k).1 = g)) with h1 | h1
    · simp only [s134_0, t134_0, Tr.val_test, Tr.val_fin, Tr.val_stop, leF_eq, eqF_eq, b0, b1, h1, if_true, Int.toNat_natCast, hd, wrap64_nat (show k ≤ 9223372036854775806 by omega)]
      rw [← hm]
    · simp only [s134_0, t134_0, Tr.val_test, Tr.val_fin, Tr.val_stop, leF_eq, eqF_eq, b0, b1, h1, if_true, if_false, Bool.false_eq_true, Int.toNat_natCast, hd, wrap64_nat (show k ≤ 9223372036854775806 by omega)]
  · simp [s134_0, t134_0, leF_eq]

theorem f134_eq (g : Int) (s : List SG) (h : s.length ≤ 1000) : f134 (g, s, ()) = some (((ppl g s s.length).length : Int), ()) := by
  have hl := l134 g s h
  simp only [f134, t134, Tr.val_test, Tr.val_fin, hl, isBrk, b134_0, outB, if_true, List.length_map]

theorem l69 (g : Int) (s : List SG) (h : s.length ≤ 1000) : l69_0 ((g, s, ([] : List ByteArray), (0 : Int), ()), ()) = some (.inl ((ppl g s s.length, ()), ())) := by
  refine itr_brk (fun k => ((g, s, ppl g s k, (k : Int), ()), ())) (n := s.length) ?_ ?_ (lt_rounds (by omega))
  · intro k hk
    have b0 : (!decide ((s.length : Int) ≤ (k : Int))) = true := nT (by omega)
    have b1 : (decide ((0 : Int) ≤ (k : Int)) && decide ((k : Int) < (s.length : Int))) = true := dA (by omega) (by omega)
    have hd : List.getD s k ((0 : Int), ({ data := { toList := [] } } : ByteArray), ({ data := { toList := [] } } : ByteArray), ()) = sg s k := rfl
    have hpl := ppl_len g s k
    have b2 : (Nat.ble ((2 * ((ppl g s k).length + 1) + 192) * 16) 281474976710656 && Nat.ble ((ppl g s k).length + 1) 281474976710656) = true := by
      rw [Nat.ble_eq_true_of_le (by omega), Nat.ble_eq_true_of_le (by omega)]; rfl
    have e1 : f96 (ppl g s k, (sg s k).2.1, ()) = some (hasT (ppl g s k) (sg s k).2.1, ()) := f96_eq _ _ (by omega)
    have hp : ppl g s (k + 1) = if decide ((sg s k).1 = g) = true then (if hasT (ppl g s k) (sg s k).2.1 = true then ppl g s k else ppl g s k ++ [(sg s k).2.1]) else ppl g s k := rfl
    show s69_0 ((g, s, ppl g s k, (k : Int), ()), ()) = some (.again ((g, s, ppl g s (k + 1), ((k + 1 : Nat) : Int), ()), ()))
    rw [hp]
    rcases Bool.eq_false_or_eq_true (decide ((sg s k).1 = g)) with h1 | h1
    · simp only [s69_0, t69_0, Tr.val_test, Tr.val_fin, Tr.val_stop, leF_eq, eqF_eq, b0, b1, b2, h1, if_true, Int.toNat_natCast, hd, e1, g96, Option.isSome_some, Option.getD_some, wrap64_nat (show k ≤ 9223372036854775806 by omega)]
      rcases Bool.eq_false_or_eq_true (hasT (ppl g s k) (sg s k).2.1) with h2 | h2
      · simp only [h2, Bool.not_true, if_true, if_false, Bool.false_eq_true]
      · simp only [h2, Bool.not_false, if_true, if_false, Bool.false_eq_true]
    · simp only [s69_0, t69_0, Tr.val_test, Tr.val_fin, Tr.val_stop, leF_eq, eqF_eq, b0, b1, h1, if_true, if_false, Bool.false_eq_true, Int.toNat_natCast, hd, wrap64_nat (show k ≤ 9223372036854775806 by omega)]
  · simp [s69_0, t69_0, leF_eq]

theorem f69_eq (g : Int) (s : List SG) (h : s.length ≤ 1000) : f69 (g, s, ()) = some (((ppl g s s.length).length : Int), ()) := by
  have hl := l69 g s h
  simp only [f69, t69, Tr.val_test, Tr.val_fin, hl, isBrk, b69_0, outB, if_true]

end Go.Vm.Mo

namespace Go.Vm.Mo
open Go
set_option linter.unusedVariables false
set_option linter.unusedSimpArgs false

def bigR (rs : List ByteArray) (k : Nat) : Bool := !decide ((bs rs k).size ≤ 30)
def bigG (g : GT) : Bool := !decide (g.1.size ≤ 30) || (!decide (g.2.1.length ≤ 6) || (first (bigR g.2.1) g.2.1.length 0).isSome)
def fewG (l : List GT) : Bool := decide (l.length ≤ 8) && (first (fun i => bigG (gt l i)) l.length 0).isNone
def bigS (x : SG) : Bool := !decide (x.2.1.size ≤ 30) || !decide (x.2.2.1.size ≤ 30)
def fewS (s : List SG) : Bool := decide (s.length ≤ 22) && (first (fun i => bigS (sg s i)) s.length 0).isNone

theorem natD {a b : Nat} : decide ((a : Int) ≤ (b : Int)) = decide (a ≤ b) := decide_eq_decide.2 Int.ofNat_le

theorem l57r (l : List GT) (i : Nat) (hi : i < l.length) (hr : (gt l i).2.1.length ≤ 1000) : l57_2 ((l, (i : Int), (0 : Int), ()), ()) = match first (bigR (gt l i).2.1) (gt l i).2.1.length 0 with
    | some _ => some (.inr ((false, ()), ()))
    | none => some (.inl ((l, (i : Int), ()), ())) := by
  have hd : List.getD l i (({ data := { toList := [] } } : ByteArray), ([] : List ByteArray), (0 : Int), ()) = gt l i := rfl
  have b1 : (decide ((0 : Int) ≤ (i : Int)) && decide ((i : Int) < (l.length : Int))) = true := dA (by omega) (by omega)
  refine itr_search (fun k => ((l, (i : Int), (k : Int), ()), ())) (bigR (gt l i).2.1) (fun _ => ((false, ()), ())) (n := (gt l i).2.1.length) ?_ ?_ (lt_rounds (by omega))
  · intro k hk
    have b0 : (!decide (((gt l i).2.1.length : Int) ≤ (k : Int))) = true := nT (by omega)
    have b2 : (decide ((0 : Int) ≤ (k : Int)) && decide ((k : Int) < ((gt l i).2.1.length : Int))) = true := dA (by omega) (by omega)
    have hd2 : List.getD (gt l i).2.1 k ({ data := { toList := [] } } : ByteArray) = bs (gt l i).2.1 k := rfl
    have hb : (!decide (((bs (gt l i).2.1 k).size : Int) ≤ 30)) = bigR (gt l i).2.1 k := by
      unfold bigR; rw [← natD]; rfl
    simp only [s57_2, t57_2, Tr.val_test, Tr.val_fin, Tr.val_stop, leF_eq, b0, b1, b2, if_true, Int.toNat_natCast, hd, hd2, hb, wrap64_nat (show k ≤ 9223372036854775806 by omega)]
  · have b0 : (!decide (((gt l i).2.1.length : Int) ≤ ((gt l i).2.1.length : Int))) = false := nF (by omega)
    simp only [s57_2, t57_2, Tr.val_test, Tr.val_fin, Tr.val_stop, leF_eq, b0, b1, if_true, if_false, Bool.false_eq_true, Int.toNat_natCast, hd]

theorem l57 (l : List GT) (h : l.length ≤ 1000) : l57_0 ((l, (0 : Int), ()), ()) = match first (fun i => bigG (gt l i)) l.length 0 with
    | some _ => some (.inr ((false, ()), ()))
    | none => some (.inl ((), ())) := by
  refine itr_search (fun i => ((l, (i : Int), ()), ())) (fun i => bigG (gt l i)) (fun _ => ((false, ()), ())) (n := l.length) ?_ ?_ (lt_rounds (by omega))
  · intro i hi
    have hd : List.getD l i (({ data := { toList := [] } } : ByteArray), ([] : List ByteArray), (0 : Int), ()) = gt l i := rfl
    have b0 : (!decide ((l.length : Int) ≤ (i : Int))) = true := nT (by omega)
    have b1 : (decide ((0 : Int) ≤ (i : Int)) && decide ((i : Int) < (l.length : Int))) = true := dA (by omega) (by omega)
    have h1 : (!decide (((gt l i).1.size : Int) ≤ 30)) = !decide ((gt l i).1.size ≤ 30) := by rw [← natD]; rfl
    have h2 : (!decide (((gt l i).2.1.length : Int) ≤ 6)) = !decide ((gt l i).2.1.length ≤ 6) := by rw [← natD]; rfl
    have hg : bigG (gt l i) = (!decide ((gt l i).1.size ≤ 30) || (!decide ((gt l i).2.1.length ≤ 6) || (first (bigR (gt l i).2.1) (gt l i).2.1.length 0).isSome)) := rfl
    rw [hg]
    simp only [s57_0, t57_0, Tr.val_test, Tr.val_fin, Tr.val_stop, leF_eq, b0, b1, if_true, Int.toNat_natCast, hd, h1, h2]
    by_cases k1 : (gt l i).1.size ≤ 30
    · by_cases k2 : (gt l i).2.1.length ≤ 6
      · have e := l57r l i hi (by omega)
        have k1' := nF k1
        have k2' := nF k2
        simp only [k1', k2', if_false, Bool.false_eq_true, Bool.false_or]
        cases hf : first (bigR (gt l i).2.1) (gt l i).2.1.length 0 with
        | none =>
          rw [hf] at e
          simp only [e, isRet, b57_2, outB, Option.isSome_some, Option.isSome_none, if_true, if_false, Bool.false_eq_true, wrap64_nat (show i ≤ 9223372036854775806 by omega)]
        | some j =>
          rw [hf] at e
          simp only [e, isRet, r57_2, outR, Option.isSome_some, if_true]
      · have k1' := nF k1
        have k2' := nT k2
        simp only [k1', k2', if_true, if_false, Bool.false_eq_true, Bool.false_or, Bool.true_or]
    · have k1' := nT k1
      simp only [k1', if_true, Bool.true_or]
  · simp [s57_0, t57_0, leF_eq]

theorem f57_eq (l : List GT) : f57 (l, ()) = some (fewG l, ()) := by
  show (t57 l).val = _
  unfold t57 fewG
  by_cases h : l.length ≤ 8
  · have b0 : (!leF (l.length : Int) 8) = false := by rw [leF_eq]; exact nF (by omega)
    have c0 : decide (l.length ≤ 8) = true := dT h
    have e := l57 l (by omega)
    simp only [Tr.val_test, Tr.val_fin, b0, c0, if_false, Bool.false_eq_true, Bool.true_and]
    cases hf : first (fun i => bigG (gt l i)) l.length 0 with
    | none =>
      rw [hf] at e
      simp only [e, isRet, Option.isSome_some, if_true, if_false, Bool.false_eq_true, Option.isNone_none]
    | some j =>
      rw [hf] at e
      simp only [e, isRet, r57_0, outR, Option.isSome_some, if_true, Option.isNone_some]
  · have b0 : (!leF (l.length : Int) 8) = true := by rw [leF_eq]; exact nT (by omega)
    have c0 : decide (l.length ≤ 8) = false := dF h
    simp only [Tr.val_test, Tr.val_fin, b0, c0, if_true, Bool.false_and]

theorem fewG_len {l : List GT} (h : fewG l = true) : l.length ≤ 8 := by
  unfold fewG at h
  rw [Bool.and_eq_true, decide_eq_true_eq] at h
  exact h.1
theorem fewG_roles {l : List GT} (h : fewG l = true) : ∀ i, i < l.length → (gt l i).2.1.length ≤ 6 := by
  unfold fewG at h
  rw [Bool.and_eq_true, isNone_first] at h
  intro i hi
  have := h.2 i hi
  unfold bigG at this
  rw [Bool.or_eq_false_iff, Bool.or_eq_false_iff] at this
  simpa using this.2.1

theorem fewS_len {s : List SG} (h : fewS s = true) : s.length ≤ 22 := by
  unfold fewS at h
  rw [Bool.and_eq_true, decide_eq_true_eq] at h
  exact h.1

/-! ### Copies -/

theorem f89_eq (rs : List ByteArray) (h : rs.length ≤ 1000) : f89 (rs, ()) = some (rs, ()) := by
  have b2 : (Nat.ble ((2 * (0 + rs.length) + 192) * 16) 281474976710656 && Nat.ble (0 + rs.length) 281474976710656) = true := by
    rw [Nat.ble_eq_true_of_le (by omega), Nat.ble_eq_true_of_le (by omega)]; rfl
  simp only [f89, t89, Tr.val_test, Tr.val_fin, b2, if_true, List.nil_append]

theorem l60 (l : List GT) (h : l.length ≤ 1000) (hr : ∀ i, i < l.length → (gt l i).2.1.length ≤ 1000) : l60_0 ((l, ([] : List GT), (0 : Int), ()), ()) = some (.inl ((l, ()), ())) := by
  have e0 : l60_0 ((l, ([] : List GT), (0 : Int), ()), ()) = some (.inl ((l.take l.length, ()), ())) := by
    refine itr_brk (fun i => ((l, l.take i, (i : Int), ()), ())) (n := l.length) ?_ ?_ (lt_rounds (by omega))
    · intro i hi
      have b0 : (!decide ((l.length : Int) ≤ (i : Int))) = true := nT (by omega)
      have b1 : (decide ((0 : Int) ≤ (i : Int)) && decide ((i : Int) < (l.length : Int))) = true := dA (by omega) (by omega)
      have hln : (l.take i).length = i := by rw [List.length_take]; omega
      have b2 : (Nat.ble ((2 * (i + 1) + 192) * 48) 281474976710656 && Nat.ble (i + 1) 281474976710656) = true := by
        rw [Nat.ble_eq_true_of_le (by omega), Nat.ble_eq_true_of_le (by omega)]; rfl
      have hd : List.getD l i (({ data := { toList := [] } } : ByteArray), ([] : List ByteArray), (0 : Int), ()) = gt l i := rfl
      have e1 : f89 ((gt l i).2.1, ()) = some ((gt l i).2.1, ()) := f89_eq _ (hr i hi)
      have ht : l.take i ++ [((gt l i).1, (gt l i).2.1, (gt l i).2.2.1, ())] = l.take (i + 1) := by
        rw [List.take_succ_eq_append_getElem hi]
        unfold gt
        rw [List.getD_eq_getElem?_getD, List.getElem?_eq_getElem hi]
        rfl
      simp only [s60_0, t60_0, Tr.val_test, Tr.val_fin, Tr.val_stop, leF_eq, b0, b1, hln, b2, e1, g89, Option.isSome_some, Option.getD_some, if_true, Int.toNat_natCast, hd, ht, wrap64_nat (show i ≤ 9223372036854775806 by omega)]
    · simp [s60_0, t60_0, leF_eq]
  rw [e0, List.take_length]

theorem f60_eq (l : List GT) (h : l.length ≤ 1000) (hr : ∀ i, i < l.length → (gt l i).2.1.length ≤ 1000) : f60 (l, ()) = some (l, ()) := by
  have e := l60 l h hr
  simp only [f60, t60, Tr.val_test, Tr.val_fin, e, isBrk, b60_0, outB, if_true]

/-! ### What is missing, and the level -/

theorem ckG_zero {l : List GT} (h : (ckG l).2 = 0) : 1 ≤ l.length ∧ (ckG l).1 = 0 := by
  unfold ckG at h ⊢
  by_cases h0 : l.length = 0
  · rw [if_pos h0] at h; cases h
  · rw [if_neg h0] at h ⊢
    by_cases h1 : 6 < l.length
    · rw [if_pos h1] at h; cases h
    · rw [if_neg h1] at h ⊢
      refine ⟨by omega, ?_⟩
      cases hf : first (fun i => !decide (eG l i = 0)) l.length 0 with
      | none => rfl
      | some k =>
        rw [hf] at h
        have h2 : eG l k = 0 := h
        have h3 : (!decide (eG l k = 0)) = true := (first_some hf).2.2.1
        rw [h2] at h3
        cases h3

def msE (l : List GT) (g : Int) (s : List SG) : Int := firstNZ [(ckG l).2, if (!wi 0 ((l.length : Int) - 1) g) = true then 6 else 0, ckS l.length s]

theorem nz3 {a b c : Int} (h : firstNZ [a, b, c] = 0) : a = 0 ∧ b = 0 ∧ c = 0 := by
  simp only [firstNZ] at h
  by_cases ha : a = 0
  · rw [if_pos ha] at h
    by_cases hb : b = 0
    · rw [if_pos hb] at h
      by_cases hc : c = 0
      · exact ⟨ha, hb, hc⟩
      · rw [if_neg hc] at h; exact absurd h hc
    · rw [if_neg hb] at h; exact absurd h hb
  · rw [if_neg ha] at h; exact absurd h ha

def msA (l : List GT) (g : Int) (s : List SG) : List Int := if msE l g s = 0 then miss (gt l g.toNat).2.1 g s else []

theorem f61_eq (l : List GT) (g : Int) (s : List SG) (h : l.length ≤ 1000) (hs : s.length ≤ 1000) (hr : ∀ i, i < l.length → (gt l i).2.1.length ≤ 1000) :
    f61 (l, g, s, ()) = some (msA l g s, msE l g s, ()) := by
  have e1 := f59_eq l
  have e2 : f94 ((0 : Int), (l.length : Int) - 1, [g], ()) = some (wi 0 ((l.length : Int) - 1) g, ()) := f94_one _ _ _
  have e3 : f80 (!wi 0 ((l.length : Int) - 1) g, (6 : Int), ()) = some (if (!wi 0 ((l.length : Int) - 1) g) = true then 6 else 0, ()) := f80_eq _
  have e4 := f132_eq l.length s h
  have e5 : f79 ([(ckG l).2, if (!wi 0 ((l.length : Int) - 1) g) = true then (6 : Int) else 0, ckS l.length s], ()) = some (msE l g s, ()) := f79_three _ _ _
  simp only [f61, t61, Tr.val_test, Tr.val_fin, wsub h, e1, g59, e2, g94, e3, g80, e4, g132, e5, g79, eqF_eq, Option.isSome_some, Option.getD_some, if_true]
  unfold msA
  by_cases h0 : msE l g s = 0
  · have b0 : (!decide (msE l g s = 0)) = false := nF h0
    obtain ⟨z1, z2, z3⟩ := nz3 h0
    have hw : wi 0 ((l.length : Int) - 1) g = true := by
      rcases Bool.eq_false_or_eq_true (wi 0 ((l.length : Int) - 1) g) with hw | hw
      · exact hw
      · rw [hw] at z2; cases z2
    obtain ⟨w1, w2⟩ := wi_iff.1 hw
    have hl := (ckG_zero z1).1
    have hg : ((g.toNat : Nat) : Int) = g := by omega
    have hgl : g.toNat < l.length := by omega
    have e6 : f133 (l, g, s, ()) = some (miss (gt l g.toNat).2.1 g s, ()) := by
      have := f133_eq l g.toNat s hgl hs (hr _ hgl)
      rw [hg] at this
      exact this
    simp only [b0, if_false, Bool.false_eq_true, e6, g133, Option.isSome_some, Option.getD_some, if_true]
    rw [if_pos h0, h0]
  · have b0 : (!decide (msE l g s = 0)) = true := nT h0
    simp only [b0, if_true, if_neg h0]

/-- Whether the gate holds. -/
def gPass (l : List GT) (s : List SG) (i : Nat) : Bool := decide ((miss (gt l i).2.1 i s).length ≤ 0) && decide ((gt l i).2.2.1 ≤ ((ppl i s s.length).length : Int))
def lvl (l : List GT) (s : List SG) : Int := match first (fun i => !gPass l s i) l.length 0 with
  | some k => k
  | none => l.length

theorem l63 (l : List GT) (s : List SG) (h : l.length ≤ 1000) (hs : s.length ≤ 1000) (hr : ∀ i, i < l.length → (gt l i).2.1.length ≤ 1000) : l63_0 ((l, s, (0 : Int), l, (l.length : Int), (0 : Int), ()), ()) = some (.inl ((lvl l s, ()), ())) := by
  have hu := itr_until (step := s63_0) (fun i => ((l, s, (i : Int), l, (l.length : Int), (i : Int), ()), ())) (fun i => !gPass l s i) (fun k => (((k : Int), ()), ())) (n := l.length) (m := rounds) (b := (((l.length : Int), ()), ())) ?_ ?_ (lt_rounds (by omega))
  · have e0 : l63_0 ((l, s, (0 : Int), l, (l.length : Int), (0 : Int), ()), ()) = itr s63_0 rounds ((l, s, ((0 : Nat) : Int), l, (l.length : Int), ((0 : Nat) : Int), ()), ()) := rfl
    rw [e0, hu]
    unfold lvl
    cases first (fun i => !gPass l s i) l.length 0 with
    | none => rfl
    | some k => rfl
  · intro i hi
    have b0 : (!decide ((l.length : Int) ≤ (i : Int))) = true := nT (by omega)
    have b1 : (decide ((0 : Int) ≤ (i : Int)) && decide ((i : Int) < (l.length : Int))) = true := dA (by omega) (by omega)
    have hd : List.getD l i (({ data := { toList := [] } } : ByteArray), ([] : List ByteArray), (0 : Int), ()) = gt l i := rfl
    have e1 := f133_eq l i s hi hs (hr i hi)
    have e2 := f134_eq i s hs
    have hp : gPass l s i = (decide ((miss (gt l i).2.1 i s).length ≤ 0) && decide ((gt l i).2.2.1 ≤ ((ppl i s s.length).length : Int))) := rfl
    have hn : decide (((miss (gt l i).2.1 i s).length : Int) ≤ 0) = decide ((miss (gt l i).2.1 i s).length ≤ 0) := natD
    rw [hp]
    simp only [s63_0, t63_0, Tr.val_test, Tr.val_fin, Tr.val_stop, leF_eq, b0, b1, if_true, Int.toNat_natCast, hd, e1, g133, e2, g134, hn, Option.isSome_some, Option.getD_some, wrap64_nat (show i ≤ 9223372036854775806 by omega)]
    rcases Bool.eq_false_or_eq_true (decide ((miss (gt l i).2.1 i s).length ≤ 0)) with h1 | h1
    · simp only [h1, Bool.not_true, if_false, Bool.false_eq_true, Bool.true_and]
    · simp only [h1, Bool.not_false, if_true, Bool.false_and]
  · simp [s63_0, t63_0, leF_eq]

def lvE (l : List GT) (s : List SG) : Int := firstNZ [(ckG l).2, ckS l.length s]
def lvA (l : List GT) (s : List SG) : Int := if lvE l s = 0 then lvl l s else 0

theorem f63_eq (l : List GT) (s : List SG) (h : l.length ≤ 1000) (hs : s.length ≤ 1000) (hr : ∀ i, i < l.length → (gt l i).2.1.length ≤ 1000) :
    f63 (l, s, ()) = some (lvA l s, lvE l s, ()) := by
  have e1 := f59_eq l
  have e4 := f132_eq l.length s h
  have e5 : f79 ([(ckG l).2, ckS l.length s], ()) = some (lvE l s, ()) := f79_two _ _
  have e6 := l63 l s h hs hr
  simp only [f63, t63, Tr.val_test, Tr.val_fin, e1, g59, e4, g132, e5, g79, eqF_eq, Option.isSome_some, Option.getD_some, if_true, e6, isBrk, b63_0, outB]
  unfold lvA
  by_cases h0 : lvE l s = 0
  · have b0 : (!decide (lvE l s = 0)) = false := nF h0
    simp only [b0, if_false, Bool.false_eq_true]
    rw [if_pos h0, h0]
  · have b0 : (!decide (lvE l s = 0)) = true := nT h0
    simp only [b0, if_true, if_neg h0]

end Go.Vm.Mo

namespace Go.Vm.Mo
open Go
set_option linter.unusedVariables false
set_option linter.unusedSimpArgs false

theorem sgEq_iff {a b : SG} : sgEq a b = true ↔ a = b := by
  obtain ⟨a1, a2, a3, u⟩ := a
  obtain ⟨b1, b2, b3, v⟩ := b
  simp [sgEq, strEq_eq]

theorem hasS_iff {l : List SG} {x : SG} : hasS l x = true ↔ x ∈ l := by
  unfold hasS
  rw [List.any_eq_true]
  constructor
  · rintro ⟨y, hy, e⟩
    rw [sgEq_iff] at e
    exact e ▸ hy
  · exact fun h => ⟨x, h, sgEq_iff.2 rfl⟩

theorem hasT_mem {l : List ByteArray} {x : ByteArray} : hasT l x = true ↔ x ∈ l :=
  hasT_iff.trans ⟨fun ⟨_, hi, e⟩ => e ▸ bs_mem hi, mem_bs⟩

theorem sg_get {s : List SG} {i : Nat} (h : i < s.length) : sg s i = s[i] := by
  unfold sg
  rw [List.getD_eq_getElem?_getD, List.getElem?_eq_getElem h]
  rfl
theorem sg_mem {s : List SG} {i : Nat} (h : i < s.length) : sg s i ∈ s := by
  rw [sg_get h]; exact List.getElem_mem h

def okS (n : Nat) (x : SG) : Prop := wi 0 ((n : Int) - 1) x.1 = true ∧ nm x.2.1 = true ∧ nm x.2.2.1 = true

theorem eS_zero {n : Nat} {s : List SG} {i : Nat} : eS n s i = 0 ↔ okS n (sg s i) ∧ hasS (s.take i) (sg s i) = false := by
  rw [eS_cases]
  unfold okS
  rcases Bool.eq_false_or_eq_true (wi 0 ((n : Int) - 1) (sg s i).1) with h1 | h1 <;> rcases Bool.eq_false_or_eq_true (nm (sg s i).2.1) with h2 | h2 <;> rcases Bool.eq_false_or_eq_true (nm (sg s i).2.2.1) with h3 | h3 <;> rcases Bool.eq_false_or_eq_true (hasS (s.take i) (sg s i)) with h4 | h4 <;> simp [h1, h2, h3, h4]

theorem ckS_iff {n : Nat} {s : List SG} : ckS n s = 0 ↔ s.length ≤ 20 ∧ (∀ x, x ∈ s → okS n x) ∧ s.Nodup := by
  unfold ckS
  by_cases h : 20 < s.length
  · rw [if_pos h]
    exact ⟨fun h => absurd h (by decide), fun h2 => absurd h2.1 (by omega)⟩
  · rw [if_neg h]
    constructor
    · intro h0
      have hz := firstE_zero h0
      refine ⟨by omega, ?_, ?_⟩
      · intro x hx
        obtain ⟨i, hi, e⟩ := List.getElem_of_mem hx
        have := (eS_zero.1 (hz i hi)).1
        rw [sg_get hi, e] at this
        exact this
      · unfold List.Nodup
        rw [List.pairwise_iff_getElem]
        intro i j hi hj hij he
        have h2 := (eS_zero.1 (hz j hj)).2
        have : sg s j ∈ s.take j := by
          rw [sg_get hj, ← he]
          rw [List.mem_take_iff_getElem]
          exact ⟨i, by omega, rfl⟩
        rw [← hasS_iff, h2] at this
        cases this
    · rintro ⟨_, h1, h2⟩
      refine firstE_of fun i hi => eS_zero.2 ⟨h1 _ (sg_mem hi), ?_⟩
      cases hb : hasS (s.take i) (sg s i) with
      | false => rfl
      | true =>
        rw [hasS_iff, List.mem_take_iff_getElem] at hb
        obtain ⟨j, hj, e⟩ := hb
        unfold List.Nodup at h2
        rw [List.pairwise_iff_getElem] at h2
        have := h2 j i (by omega) hi (by omega)
        rw [e, sg_get hi] at this
        exact absurd rfl this

theorem ckS_sub {n : Nat} {s s' : List SG} (h : ckS n s = 0) (hs : s'.Sublist s) : ckS n s' = 0 := by
  obtain ⟨h1, h2, h3⟩ := ckS_iff.1 h
  exact ckS_iff.2 ⟨Nat.le_trans hs.length_le h1, fun x hx => h2 x (hs.subset hx), List.Pairwise.sublist hs h3⟩

theorem ckS_reverse {n : Nat} {s : List SG} (h : ckS n s = 0) : ckS n s.reverse = 0 := by
  obtain ⟨h1, h2, h3⟩ := ckS_iff.1 h
  refine ckS_iff.2 ⟨by rw [List.length_reverse]; exact h1, fun x hx => h2 x (List.mem_reverse.1 hx), ?_⟩
  unfold List.Nodup
  rw [List.pairwise_reverse]
  exact List.Pairwise.imp (fun {a b} hab => Ne.symm hab) h3

theorem nodup_len {A : Type} : ∀ (l l' : List A), l.Nodup → (∀ x, x ∈ l → x ∈ l') → l.length ≤ l'.length
  | [], _, _, _ => Nat.zero_le _
  | a :: l, l', hn, hs => by
    obtain ⟨s, t, rfl⟩ := List.append_of_mem (hs a List.mem_cons_self)
    have hn' := List.nodup_cons.1 hn
    have := nodup_len l (s ++ t) hn'.2 (fun x hx => by
      have := hs x (List.mem_cons_of_mem _ hx)
      rw [List.mem_append, List.mem_cons] at this
      rw [List.mem_append]
      rcases this with h | h | h
      · exact .inl h
      · subst h; exact absurd hx hn'.1
      · exact .inr h)
    rw [List.length_append] at this
    simp only [List.length_cons, List.length_append]
    omega

theorem ppl_mem {g : Int} {s : List SG} {y : ByteArray} : ∀ {n : Nat}, y ∈ ppl g s n ↔ ∃ i, i < n ∧ (sg s i).1 = g ∧ (sg s i).2.1 = y
  | 0 => by
    constructor
    · intro h; cases h
    · rintro ⟨i, hi, _⟩; omega
  | n + 1 => by
    have ih := @ppl_mem g s y n
    have e : ppl g s (n + 1) = if decide ((sg s n).1 = g) = true then (if hasT (ppl g s n) (sg s n).2.1 = true then ppl g s n else ppl g s n ++ [(sg s n).2.1]) else ppl g s n := rfl
    have hstep : (∃ i, i < n + 1 ∧ (sg s i).1 = g ∧ (sg s i).2.1 = y) ↔ (∃ i, i < n ∧ (sg s i).1 = g ∧ (sg s i).2.1 = y) ∨ ((sg s n).1 = g ∧ (sg s n).2.1 = y) := by
      constructor
      · rintro ⟨i, hi, h⟩
        by_cases hin : i = n
        · subst hin; exact .inr h
        · exact .inl ⟨i, by omega, h⟩
      · rintro (⟨i, hi, h⟩ | h)
        · exact ⟨i, by omega, h⟩
        · exact ⟨n, by omega, h⟩
    rw [hstep, ← ih, e]
    by_cases h1 : (sg s n).1 = g
    · rw [if_pos (decide_eq_true h1)]
      by_cases h2 : hasT (ppl g s n) (sg s n).2.1 = true
      · rw [if_pos h2]
        constructor
        · exact .inl
        · rintro (h | ⟨_, h⟩)
          · exact h
          · exact h ▸ hasT_mem.1 h2
      · rw [if_neg h2, List.mem_append, List.mem_singleton]
        constructor
        · rintro (h | h)
          · exact .inl h
          · exact .inr ⟨h1, h.symm⟩
        · rintro (h | ⟨_, h⟩)
          · exact .inl h
          · exact .inr h.symm
    · rw [if_neg (by simp [h1])]
      constructor
      · exact .inl
      · rintro (h | ⟨h, _⟩)
        · exact h
        · exact absurd h h1

theorem ppl_nodup {g : Int} {s : List SG} : ∀ n, (ppl g s n).Nodup
  | 0 => List.nodup_nil
  | n + 1 => by
    have ih := @ppl_nodup g s n
    have e : ppl g s (n + 1) = if decide ((sg s n).1 = g) = true then (if hasT (ppl g s n) (sg s n).2.1 = true then ppl g s n else ppl g s n ++ [(sg s n).2.1]) else ppl g s n := rfl
    rw [e]
    split
    · split
      · exact ih
      · rename_i h2
        unfold List.Nodup
        rw [List.pairwise_append]
        refine ⟨ih, List.pairwise_singleton _ _, ?_⟩
        intro a ha b hb hab
        rw [List.mem_singleton] at hb
        subst hb
        exact h2 (hasT_mem.2 (hab ▸ ha))
    · exact ih

theorem pc_mono {g : Int} {s s' : List SG} (h : ∀ x, x ∈ s' → x ∈ s) : (ppl g s' s'.length).length ≤ (ppl g s s.length).length := by
  refine nodup_len _ _ (ppl_nodup _) fun y hy => ?_
  obtain ⟨i, hi, h1, h2⟩ := ppl_mem.1 hy
  obtain ⟨j, hj, e⟩ := List.getElem_of_mem (h _ (sg_mem hi))
  exact ppl_mem.2 ⟨j, hj, by rw [sg_get hj, e]; exact h1, by rw [sg_get hj, e]; exact h2⟩

theorem places_nil {p : Nat → Bool} : ∀ {n : Nat}, (places p n).length ≤ 0 ↔ ∀ k, k < n → p k = false
  | 0 => ⟨fun _ k hk => by omega, fun _ => Nat.le_refl _⟩
  | n + 1 => by
    have ih := @places_nil p n
    have e : places p (n + 1) = if p n = true then places p n ++ [(n : Int)] else places p n := rfl
    rw [e]
    by_cases h : p n = true
    · rw [if_pos h]
      constructor
      · intro h2; rw [List.length_append] at h2; simp at h2
      · intro h2; rw [h2 n (by omega)] at h; cases h
    · rw [if_neg h, ih]
      constructor
      · intro h2 k hk
        by_cases hkn : k = n
        · subst hkn; simpa using h
        · exact h2 k (by omega)
      · exact fun h2 k hk => h2 k (by omega)

theorem any_mono {A : Type} {p : A → Bool} {s s' : List A} (h : ∀ x, x ∈ s' → x ∈ s) (ha : s'.any p = true) : s.any p = true := by
  rw [List.any_eq_true] at *
  obtain ⟨x, hx, e⟩ := ha
  exact ⟨x, h x hx, e⟩

theorem gPass_mono {l : List GT} {s s' : List SG} {i : Nat} (h : ∀ x, x ∈ s' → x ∈ s) (hp : gPass l s' i = true) : gPass l s i = true := by
  unfold gPass at *
  rw [Bool.and_eq_true, decide_eq_true_eq, decide_eq_true_eq] at *
  obtain ⟨h1, h2⟩ := hp
  refine ⟨?_, by have := @pc_mono i s s' h; omega⟩
  unfold miss at *
  rw [places_nil] at *
  intro k hk
  have := h1 k hk
  unfold unsigned at *
  rw [Bool.not_eq_false'] at *
  exact any_mono h this

def lvlN (l : List GT) (s : List SG) : Nat := match first (fun i => !gPass l s i) l.length 0 with
  | some k => k
  | none => l.length

theorem lvl_nat (l : List GT) (s : List SG) : lvl l s = (lvlN l s : Int) := by
  unfold lvl lvlN
  cases first (fun i => !gPass l s i) l.length 0 with
  | none => rfl
  | some k => rfl

theorem lvlN_spec (l : List GT) (s : List SG) : lvlN l s ≤ l.length ∧ (∀ i, i < lvlN l s → gPass l s i = true) ∧ (lvlN l s < l.length → gPass l s (lvlN l s) = false) := by
  unfold lvlN
  cases h : first (fun i => !gPass l s i) l.length 0 with
  | none =>
    refine ⟨Nat.le_refl _, fun i hi => ?_, fun h => absurd h (Nat.lt_irrefl _)⟩
    have := first_none h i (by omega) (by have : i < l.length := hi; omega)
    simpa using this
  | some k =>
    obtain ⟨h1, h2, h3, h4⟩ := first_some h
    refine ⟨?_, fun i hi => ?_, fun _ => ?_⟩
    · show k ≤ l.length; omega
    · have hi : i < k := hi
      have := h4 i (by omega) hi
      simpa using this
    · have : (!gPass l s k) = true := h3
      show gPass l s k = false
      simpa using this

theorem lvlN_mono {l : List GT} {s s' : List SG} (h : ∀ x, x ∈ s' → x ∈ s) : lvlN l s' ≤ lvlN l s := by
  obtain ⟨a1, a2, a3⟩ := lvlN_spec l s
  obtain ⟨b1, b2, b3⟩ := lvlN_spec l s'
  by_cases hc : lvlN l s' ≤ lvlN l s
  · exact hc
  · have h1 := a3 (by omega)
    have h2 := gPass_mono h (b2 (lvlN l s) (by omega))
    rw [h1] at h2
    cases h2

theorem lvlN_le {l : List GT} {s : List SG} {g : Nat} (h : g < l.length) (hp : gPass l s g = false) : lvlN l s ≤ g := by
  obtain ⟨a1, a2, a3⟩ := lvlN_spec l s
  by_cases hc : lvlN l s ≤ g
  · exact hc
  · rw [a2 g (by omega)] at hp; cases hp

/-- A gate that asks for something does not hold without a signature of it. -/
theorem gPass_none {l : List GT} {s : List SG} {g : Nat} (hs : ∀ x, x ∈ s → x.1 ≠ (g : Int)) (h : 0 < (gt l g).2.1.length ∨ 0 < (gt l g).2.2.1) : gPass l s g = false := by
  cases hb : gPass l s g with
  | false => rfl
  | true =>
    unfold gPass at hb
    rw [Bool.and_eq_true, decide_eq_true_eq, decide_eq_true_eq] at hb
    obtain ⟨h1, h2⟩ := hb
    rcases h with h | h
    · unfold miss at h1
      rw [places_nil] at h1
      have := h1 0 h
      unfold unsigned at this
      rw [Bool.not_eq_false', List.any_eq_true] at this
      obtain ⟨x, hx, e⟩ := this
      unfold signs at e
      rw [Bool.and_eq_true, decide_eq_true_eq] at e
      exact absurd e.1 (hs x hx)
    · have : ppl (g : Int) s s.length = [] := by
        cases hc : ppl (g : Int) s s.length with
        | nil => rfl
        | cons y t =>
          have hy : y ∈ ppl (g : Int) s s.length := by rw [hc]; exact List.mem_cons_self
          obtain ⟨i, hi, e1, _⟩ := ppl_mem.1 hy
          exact absurd e1 (hs _ (sg_mem hi))
      rw [this] at h2
      simp at h2
      omega

end Go.Vm.Mo

namespace Go.Vm.Mo
open Go
set_option linter.unusedVariables false
set_option linter.unusedSimpArgs false

theorem f56_eq (x : Int) (n : Nat) (h0 : 1 ≤ n) (h1 : n ≤ 1000) : ∃ m : Nat, m < n ∧ f56 (x, (n : Int), ()) = some ((m : Int), ()) := by
  have a1 := Int.tmod_lt_of_pos x (show (0 : Int) < (n : Int) by omega)
  have a2 := Int.lt_tmod_of_pos x (show (0 : Int) < (n : Int) by omega)
  have b0 : ((n : Int) == 0) = false := by
    rw [beq_eq_false_iff_ne]; omega
  by_cases h : 0 ≤ Int.tmod x (n : Int)
  · have b1 : (!decide ((0 : Int) ≤ Int.tmod x (n : Int))) = false := nF h
    refine ⟨(Int.tmod x (n : Int)).toNat, by omega, ?_⟩
    simp only [f56, t56, Tr.val_test, Tr.val_fin, leF_eq, b0, b1, if_false, Bool.false_eq_true]
    rw [Int.toNat_of_nonneg h]
  · have b1 : (!decide ((0 : Int) ≤ Int.tmod x (n : Int))) = true := nT h
    refine ⟨(Int.tmod x (n : Int) + (n : Int)).toNat, by omega, ?_⟩
    simp only [f56, t56, Tr.val_test, Tr.val_fin, leF_eq, b0, b1, if_true, if_false, Bool.false_eq_true]
    rw [wrap64_id (by omega) (by omega), Int.toNat_of_nonneg (by omega)]

theorem f68_eq (l : List GT) : f68 (l, ()) = some ((ckG l).2, ()) := by
  have e := f64_eq l
  simp only [f68, t68, Tr.val_test, Tr.val_fin, e, g64, Option.isSome_some, Option.getD_some, if_true]

theorem alloc40 {n : Nat} (h : n ≤ 1000) : (Nat.ble ((2 * n + 192) * 40) 281474976710656 && Nat.ble n 281474976710656) = true := by
  rw [Nat.ble_eq_true_of_le (by omega), Nat.ble_eq_true_of_le (by omega)]; rfl

/-- The gates and signatures that the law speaks of. -/
structure Gd (l : List GT) (s : List SG) : Prop where
  few : fewG l = true
  gates : (ckG l).2 = 0
  signs : ckS l.length s = 0

theorem Gd.c63 {l : List GT} {s : List SG} (h : Gd l s) (s' : List SG) (hs : ckS l.length s' = 0) : f63 (l, s', ()) = some ((lvlN l s' : Int), (0 : Int), ()) := by
  have hl := fewG_len h.few
  have hr : ∀ i, i < l.length → (gt l i).2.1.length ≤ 1000 := fun i hi => by have := fewG_roles h.few i hi; omega
  have := (ckS_iff.1 hs).1
  rw [f63_eq l s' (by omega) (by omega) hr]
  have e : lvE l s' = 0 := by unfold lvE; rw [h.gates, hs]; rfl
  unfold lvA
  rw [e, if_pos rfl, lvl_nat]

theorem Gd.c61 {l : List GT} {s : List SG} (h : Gd l s) (i : Nat) (hi : i < l.length) : f61 (l, (i : Int), s, ()) = some (miss (gt l i).2.1 i s, (0 : Int), ()) := by
  have hl := fewG_len h.few
  have hr : ∀ i, i < l.length → (gt l i).2.1.length ≤ 1000 := fun i hi => by have := fewG_roles h.few i hi; omega
  have := (ckS_iff.1 h.signs).1
  rw [f61_eq l i s (by omega) (by omega) hr]
  have hw : wi 0 ((l.length : Int) - 1) (i : Int) = true := wi_iff.2 ⟨by omega, by omega⟩
  have e : msE l i s = 0 := by unfold msE; rw [h.gates, h.signs, hw]; rfl
  unfold msA
  rw [e, if_pos rfl, Int.toNat_natCast]

theorem l12a {l : List GT} {s : List SG} (h : Gd l s) (x y : Int) : l12_0 ((l, s, (lvlN l s : Int), (0 : Int), ()), (x, y, ()), ()) = some (.inl ((l, s, (lvlN l s : Int), ()), (x, y, ()), ())) := by
  have hl := fewG_len h.few
  have hs := (ckS_iff.1 h.signs).1
  obtain ⟨n1, n2, n3⟩ := lvlN_spec l s
  refine itr_brk (fun i => ((l, s, (lvlN l s : Int), (i : Int), ()), (x, y, ()), ())) (n := lvlN l s) ?_ ?_ (lt_rounds (by omega))
  · intro i hi
    have b0 : (!decide ((lvlN l s : Int) ≤ (i : Int))) = true := nT (by omega)
    have b1 : (decide ((0 : Int) ≤ (i : Int)) && decide ((i : Int) < (l.length : Int))) = true := dA (by omega) (by omega)
    have hd : List.getD l i (({ data := { toList := [] } } : ByteArray), ([] : List ByteArray), (0 : Int), ()) = gt l i := rfl
    have e60 := f60_eq l (by omega) (fun i hi => by have := fewG_roles h.few i hi; omega)
    have e61 := h.c61 i (by omega)
    have e69 := f69_eq (i : Int) s (by omega)
    have al := alloc40 (show s.length ≤ 1000 by omega)
    have hp := n2 i hi
    unfold gPass at hp
    rw [Bool.and_eq_true, decide_eq_true_eq, decide_eq_true_eq] at hp
    have b2 : (!decide (((miss (gt l i).2.1 i s).length : Int) = 0)) = false := nF (by omega)
    have b3 : (!decide ((gt l i).2.2.1 ≤ ((ppl (i : Int) s s.length).length : Int))) = false := nF hp.2
    have b4 : (!decide ((0 : Int) = 0)) = false := rfl
    simp only [s12_0, t12_0, Tr.val_test, Tr.val_fin, Tr.val_stop, leF_eq, eqF_eq, Nat.zero_add, List.nil_append, b0, b1, al, e60, g60, e61, g61, e69, g69, Int.toNat_natCast, hd, b2, b3, b4, Option.isSome_some, Option.getD_some, if_true, if_false, Bool.false_eq_true, wrap64_nat (show i ≤ 9223372036854775806 by omega), decide_true, Bool.not_true]
  · simp [s12_0, t12_0, leF_eq]

def fwS (g : Nat) (s : List SG) : List SG := s.filter fun q => !decide (q.1 = (g : Int))

theorem l12c (l : List GT) (s : List SG) (N : Int) (g : Nat) (x y : Int) (h : s.length ≤ 1000) : l12_2 ((l, s, N, ([] : List SG), ([] : List SG), (g : Int), (s.length : Int) - 1, ()), (x, y, ()), ()) = some (.inl ((l, s, N, s.reverse, fwS g s.reverse, (g : Int), ()), (x, y, ()), ())) := by
  have key := itr_brk (step := s12_2) (fun k => ((l, s, N, (s.drop (s.length - k)).reverse, fwS g (s.drop (s.length - k)).reverse, (g : Int), (s.length : Int) - 1 - (k : Int), ()), (x, y, ()), ())) (n := s.length) (m := rounds) (b := ((l, s, N, s.reverse, fwS g s.reverse, (g : Int), ()), (x, y, ()), ())) ?_ ?_ (lt_rounds (by omega))
  · have e1 : itr s12_2 rounds ((l, s, N, (s.drop (s.length - 0)).reverse, fwS g (s.drop (s.length - 0)).reverse, (g : Int), (s.length : Int) - 1 - ((0 : Nat) : Int), ()), (x, y, ()), ()) = some (.inl ((l, s, N, s.reverse, fwS g s.reverse, (g : Int), ()), (x, y, ()), ())) := key
    have h0 : s.drop (s.length - 0) = [] := by simp
    rw [h0, show (s.length : Int) - 1 - ((0 : Nat) : Int) = (s.length : Int) - 1 by omega] at e1
    exact e1
  · intro k hk
    have b0 : decide ((0 : Int) ≤ (s.length : Int) - 1 - (k : Int)) = true := dT (by omega)
    have b1 : (decide ((0 : Int) ≤ (s.length : Int) - 1 - (k : Int)) && decide ((s.length : Int) - 1 - (k : Int) < (s.length : Int))) = true := dA (by omega) (by omega)
    have b2 : decide ((s.length : Int) - 1 - (k : Int) < (s.length : Int)) = true := dT (by omega)
    have hj : ((s.length : Int) - 1 - (k : Int)).toNat = s.length - 1 - k := by omega
    have hd : List.getD s (s.length - 1 - k) ((0 : Int), ({ data := { toList := [] } } : ByteArray), ({ data := { toList := [] } } : ByteArray), ()) = sg s (s.length - 1 - k) := rfl
    have hdr : (s.drop (s.length - (k + 1))).reverse = (s.drop (s.length - k)).reverse ++ [sg s (s.length - 1 - k)] := by
      have hi : s.length - 1 - k < s.length := by omega
      rw [show s.length - (k + 1) = s.length - 1 - k by omega, List.drop_eq_getElem_cons hi, show s.length - 1 - k + 1 = s.length - k by omega, List.reverse_cons, sg_get hi]
    have hfw : fwS g ((s.drop (s.length - k)).reverse ++ [sg s (s.length - 1 - k)]) = if (!decide ((sg s (s.length - 1 - k)).1 = (g : Int))) = true then fwS g (s.drop (s.length - k)).reverse ++ [sg s (s.length - 1 - k)] else fwS g (s.drop (s.length - k)).reverse := by
      unfold fwS
      rw [List.filter_append]
      by_cases hq : (sg s (s.length - 1 - k)).1 = (g : Int)
      · simp [hq]
      · simp [hq]
    have l1 : ((s.drop (s.length - k)).reverse).length = k := by rw [List.length_reverse, List.length_drop]; omega
    have l2 : (fwS g (s.drop (s.length - k)).reverse).length ≤ k := by
      unfold fwS
      exact Nat.le_trans (List.length_filter_le _ _) (by omega)
    have a1 := alloc40 (show k + 1 ≤ 1000 by omega)
    have a2 := alloc40 (show (fwS g (s.drop (s.length - k)).reverse).length + 1 ≤ 1000 by omega)
    have hw : wrap64 ((s.length : Int) - 1 - (k : Int) - 1) = (s.length : Int) - 1 - ((k + 1 : Nat) : Int) := by
      rw [wrap64_id (by omega) (by omega)]; omega
    have he : ((sg s (s.length - 1 - k)).1, (sg s (s.length - 1 - k)).2.1, (sg s (s.length - 1 - k)).2.2.1, ()) = sg s (s.length - 1 - k) := rfl
    show s12_2 ((l, s, N, (s.drop (s.length - k)).reverse, fwS g (s.drop (s.length - k)).reverse, (g : Int), (s.length : Int) - 1 - (k : Int), ()), (x, y, ()), ()) = some (.again ((l, s, N, (s.drop (s.length - (k + 1))).reverse, fwS g (s.drop (s.length - (k + 1))).reverse, (g : Int), (s.length : Int) - 1 - ((k + 1 : Nat) : Int), ()), (x, y, ()), ()))
    rw [hdr, hfw]
    simp only [s12_2, t12_2, Tr.val_test, Tr.val_fin, Tr.val_stop, leF_eq, eqF_eq, b0, b2, Bool.and_self, hj, hd, l1, a1, a2, hw, he, if_true]
    rcases Bool.eq_false_or_eq_true (!decide ((sg s (s.length - 1 - k)).1 = (g : Int))) with hq | hq <;> simp only [hq, if_true, if_false, Bool.false_eq_true]
  · have b0 : decide ((0 : Int) ≤ (s.length : Int) - 1 - (s.length : Int)) = false := dF (by omega)
    have h0 : s.drop (s.length - s.length) = s := by rw [Nat.sub_self]; rfl
    simp only [s12_2, t12_2, Tr.val_test, Tr.val_fin, Tr.val_stop, leF_eq, b0, h0, if_false, Bool.false_eq_true]

theorem f12_eq (l : List GT) (s : List SG) (x y : Int) : f12 (l, s, (x, y, ()), ()) = some (true, ()) := by
  show (t12 l s x y).val = _
  unfold t12
  have e57 := f57_eq l
  have e68 := f68_eq l
  rcases (Bool.eq_false_or_eq_true (fewG l)).symm with k1 | k1
  · simp only [Tr.val_test, Tr.val_fin, e57, g57, k1, Option.isSome_some, Option.getD_some, Bool.not_false, if_true]
  have hl := fewG_len k1
  by_cases k2 : (ckG l).2 = 0
  · have c2 : (!decide ((ckG l).2 = 0)) = false := nF k2
    by_cases k3 : s.length ≤ 20
    · have c3 : (!decide ((s.length : Int) ≤ 20)) = false := nF (by omega)
      have e65 := f65_eq l.length s (by omega)
      by_cases k4 : ckS l.length s = 0
      · have c4 : (!decide (ckS l.length s = 0)) = false := nF k4
        have G : Gd l s := ⟨k1, k2, k4⟩
        have hr : ∀ i, i < l.length → (gt l i).2.1.length ≤ 1000 := fun i hi => by have := fewG_roles k1 i hi; omega
        have hl1 := (ckG_zero k2).1
        have e60 := f60_eq l (by omega) hr
        have al := alloc40 (show s.length ≤ 1000 by omega)
        have e63 := G.c63 s k4
        obtain ⟨n1, n2, n3⟩ := lvlN_spec l s
        have e25 : f25 ((lvlN l s : Int), (0 : Int), (l.length : Int), ()) = some (true, ()) := by
          rw [f25_eq]
          show some (wi 0 (l.length : Int) (lvlN l s : Int), ()) = _
          rw [wi_iff.2 ⟨by omega, by omega⟩]
        have e120 := l12a G x y
        obtain ⟨g, hg, e56⟩ := f56_eq x l.length hl1 (by omega)
        have e122 := l12c l s (lvlN l s : Int) g x y (by omega)
        have ws : wrap64 ((s.length : Int) - 1) = (s.length : Int) - 1 := wsub (by omega)
        have e63a := G.c63 s.reverse (ckS_reverse k4)
        have hfs : ∀ q, q ∈ fwS g s.reverse → q ∈ s := fun q hq => List.mem_reverse.1 (List.mem_filter.1 hq).1
        have e63b := G.c63 (fwS g s.reverse) (ckS_sub (ckS_reverse k4) List.filter_sublist)
        have hrev : lvlN l s.reverse = lvlN l s := Nat.le_antisymm (lvlN_mono fun q hq => List.mem_reverse.1 hq) (lvlN_mono fun q hq => List.mem_reverse.2 hq)
        rw [hrev] at e63a
        have hb := lvlN_mono (l := l) hfs
        have c5 : (!decide ((lvlN l (fwS g s.reverse) : Int) ≤ (lvlN l s : Int))) = false := nF (by omega)
        have c6 : (decide ((0 : Int) ≤ (g : Int)) && decide ((g : Int) < (l.length : Int))) = true := dA (by omega) (by omega)
        have hd : ∀ i, List.getD l i (({ data := { toList := [] } } : ByteArray), ([] : List ByteArray), (0 : Int), ()) = gt l i := fun _ => rfl
        have hno : ∀ q, q ∈ fwS g s.reverse → q.1 ≠ (g : Int) := fun q hq => by simpa using (List.mem_filter.1 hq).2
        have c7 : 0 < (gt l g).2.1.length ∨ 0 < (gt l g).2.2.1 → (!decide ((lvlN l (fwS g s.reverse) : Int) ≤ (g : Int))) = false := fun hh => by
          have := lvlN_le hg (gPass_none hno hh)
          exact nF (by omega)
        -- one signature fewer
        have hless : s.length = 0 ∨ ∃ k : Nat, k < s.length ∧ f56 (y, (s.length : Int), ()) = some ((k : Int), ()) := by
          by_cases h0 : s.length = 0
          · exact .inl h0
          · exact .inr (f56_eq y s.length (by omega) (by omega))
        have T : ∀ (P : Prop), (s.length = 0 → P) → (∀ k : Nat, k < s.length → f56 (y, (s.length : Int), ()) = some ((k : Int), ()) → P) → P := fun P p q => by
          rcases hless with h | ⟨k, h1, h2⟩
          · exact p h
          · exact q k h1 h2
        have N1 : (!decide ((l.length : Int) ≤ (lvlN l s : Int))) = true → f61 (l, (lvlN l s : Int), s, ()) = some (miss (gt l (lvlN l s)).2.1 (lvlN l s) s, (0 : Int), ()) := fun hh => G.c61 (lvlN l s) (by simpa using hh)
        have e69 := f69_eq (lvlN l s : Int) s (by omega)
        have R1 : (!decide (((gt l g).2.1.length : Int) ≤ 0)) = true → (!decide ((lvlN l (fwS g s.reverse) : Int) ≤ (g : Int))) = false := fun hh => c7 (.inl (by simp at hh; simpa [List.length_pos_iff] using hh))
        have R2 : (!decide ((gt l g).2.2.1 ≤ 0)) = true → (!decide ((lvlN l (fwS g s.reverse) : Int) ≤ (g : Int))) = false := fun hh => c7 (.inr (by simpa using hh))
        have N2 : (!decide ((l.length : Int) ≤ (lvlN l s : Int))) = true → decide (((miss (gt l (lvlN l s)).2.1 (lvlN l s) s).length : Int) = 0) = true → (decide ((0 : Int) ≤ (lvlN l s : Int)) && decide ((lvlN l s : Int) < (l.length : Int))) = true ∧ decide ((gt l (lvlN l s)).2.2.1 ≤ ((ppl (lvlN l s : Int) s s.length).length : Int)) = false := fun h1 h2 => by
          have h1' : lvlN l s < l.length := by simpa using h1
          have := n3 h1'
          unfold gPass at this
          rw [decide_eq_true_eq] at h2
          rw [dT (show (miss (gt l (lvlN l s)).2.1 (lvlN l s) s).length ≤ 0 by omega), Bool.true_and] at this
          exact ⟨dA (by omega) (by omega), this⟩
        have z0 : (!decide ((0 : Int) = 0)) = false := rfl
        have w0 : (!decide ((lvlN l s : Int) = (lvlN l s : Int))) = false := nF rfl
        clear hless c7 n1 n2 n3 hno hb hfs hrev
        refine T _ (fun h0 => ?_) (fun k hk e56k => ?_)
        · have d0 : decide ((s.length : Int) = 0) = true := dT (by omega)
          rcases Bool.eq_false_or_eq_true (!decide ((l.length : Int) ≤ (lvlN l s : Int))) with m1 | m1
          · have e61 := N1 m1
            rcases Bool.eq_false_or_eq_true (decide (((miss (gt l (lvlN l s)).2.1 (lvlN l s) s).length : Int) = 0)) with m2 | m2
            · obtain ⟨m3, m4⟩ := N2 m1 m2
              rcases Bool.eq_false_or_eq_true (!decide (((gt l g).2.1.length : Int) ≤ 0)) with r1 | r1
              · have r2 := R1 r1
                simp only [Tr.val_test, Tr.val_fin, leF_eq, eqF_eq, Nat.zero_add, List.nil_append, e57, g57, k1, e68, g68, c2, c3, e65, g65, c4, e60, g60, al, e63, g63, z0, e25, g25, e120, isRet, isBrk, b12_0, b12_2, outB, e56, g56, ws, e122, e63a, e63b, w0, c5, c6, hd, Int.toNat_natCast, d0, m1, e61, g61, m2, e69, g69, m3, m4, r1, r2, Option.isSome_some, Option.getD_some, if_true, if_false, Bool.false_eq_true, Bool.not_true, Bool.not_false, decide_true]
              · rcases Bool.eq_false_or_eq_true (!decide ((gt l g).2.2.1 ≤ 0)) with r3 | r3
                · have r2 := R2 r3
                  simp only [Tr.val_test, Tr.val_fin, leF_eq, eqF_eq, Nat.zero_add, List.nil_append, e57, g57, k1, e68, g68, c2, c3, e65, g65, c4, e60, g60, al, e63, g63, z0, e25, g25, e120, isRet, isBrk, b12_0, b12_2, outB, e56, g56, ws, e122, e63a, e63b, w0, c5, c6, hd, Int.toNat_natCast, d0, m1, e61, g61, m2, e69, g69, m3, m4, r1, r2, r3, Option.isSome_some, Option.getD_some, if_true, if_false, Bool.false_eq_true, Bool.not_true, Bool.not_false, decide_true]
                · simp only [Tr.val_test, Tr.val_fin, leF_eq, eqF_eq, Nat.zero_add, List.nil_append, e57, g57, k1, e68, g68, c2, c3, e65, g65, c4, e60, g60, al, e63, g63, z0, e25, g25, e120, isRet, isBrk, b12_0, b12_2, outB, e56, g56, ws, e122, e63a, e63b, w0, c5, c6, hd, Int.toNat_natCast, d0, m1, e61, g61, m2, e69, g69, m3, m4, r1, r3, Option.isSome_some, Option.getD_some, if_true, if_false, Bool.false_eq_true, Bool.not_true, Bool.not_false, decide_true]
            · rcases Bool.eq_false_or_eq_true (!decide (((gt l g).2.1.length : Int) ≤ 0)) with r1 | r1
              · have r2 := R1 r1
                simp only [Tr.val_test, Tr.val_fin, leF_eq, eqF_eq, Nat.zero_add, List.nil_append, e57, g57, k1, e68, g68, c2, c3, e65, g65, c4, e60, g60, al, e63, g63, z0, e25, g25, e120, isRet, isBrk, b12_0, b12_2, outB, e56, g56, ws, e122, e63a, e63b, w0, c5, c6, hd, Int.toNat_natCast, d0, m1, e61, g61, m2, r1, r2, Option.isSome_some, Option.getD_some, if_true, if_false, Bool.false_eq_true, Bool.not_true, Bool.not_false, decide_true]
              · rcases Bool.eq_false_or_eq_true (!decide ((gt l g).2.2.1 ≤ 0)) with r3 | r3
                · have r2 := R2 r3
                  simp only [Tr.val_test, Tr.val_fin, leF_eq, eqF_eq, Nat.zero_add, List.nil_append, e57, g57, k1, e68, g68, c2, c3, e65, g65, c4, e60, g60, al, e63, g63, z0, e25, g25, e120, isRet, isBrk, b12_0, b12_2, outB, e56, g56, ws, e122, e63a, e63b, w0, c5, c6, hd, Int.toNat_natCast, d0, m1, e61, g61, m2, r1, r2, r3, Option.isSome_some, Option.getD_some, if_true, if_false, Bool.false_eq_true, Bool.not_true, Bool.not_false, decide_true]
                · simp only [Tr.val_test, Tr.val_fin, leF_eq, eqF_eq, Nat.zero_add, List.nil_append, e57, g57, k1, e68, g68, c2, c3, e65, g65, c4, e60, g60, al, e63, g63, z0, e25, g25, e120, isRet, isBrk, b12_0, b12_2, outB, e56, g56, ws, e122, e63a, e63b, w0, c5, c6, hd, Int.toNat_natCast, d0, m1, e61, g61, m2, r1, r3, Option.isSome_some, Option.getD_some, if_true, if_false, Bool.false_eq_true, Bool.not_true, Bool.not_false, decide_true]
          · rcases Bool.eq_false_or_eq_true (!decide (((gt l g).2.1.length : Int) ≤ 0)) with r1 | r1
            · have r2 := R1 r1
              simp only [Tr.val_test, Tr.val_fin, leF_eq, eqF_eq, Nat.zero_add, List.nil_append, e57, g57, k1, e68, g68, c2, c3, e65, g65, c4, e60, g60, al, e63, g63, z0, e25, g25, e120, isRet, isBrk, b12_0, b12_2, outB, e56, g56, ws, e122, e63a, e63b, w0, c5, c6, hd, Int.toNat_natCast, d0, m1, r1, r2, Option.isSome_some, Option.getD_some, if_true, if_false, Bool.false_eq_true, Bool.not_true, Bool.not_false, decide_true]
            · rcases Bool.eq_false_or_eq_true (!decide ((gt l g).2.2.1 ≤ 0)) with r3 | r3
              · have r2 := R2 r3
                simp only [Tr.val_test, Tr.val_fin, leF_eq, eqF_eq, Nat.zero_add, List.nil_append, e57, g57, k1, e68, g68, c2, c3, e65, g65, c4, e60, g60, al, e63, g63, z0, e25, g25, e120, isRet, isBrk, b12_0, b12_2, outB, e56, g56, ws, e122, e63a, e63b, w0, c5, c6, hd, Int.toNat_natCast, d0, m1, r1, r2, r3, Option.isSome_some, Option.getD_some, if_true, if_false, Bool.false_eq_true, Bool.not_true, Bool.not_false, decide_true]
              · simp only [Tr.val_test, Tr.val_fin, leF_eq, eqF_eq, Nat.zero_add, List.nil_append, e57, g57, k1, e68, g68, c2, c3, e65, g65, c4, e60, g60, al, e63, g63, z0, e25, g25, e120, isRet, isBrk, b12_0, b12_2, outB, e56, g56, ws, e122, e63a, e63b, w0, c5, c6, hd, Int.toNat_natCast, d0, m1, r1, r3, Option.isSome_some, Option.getD_some, if_true, if_false, Bool.false_eq_true, Bool.not_true, Bool.not_false, decide_true]
        · have d0 : decide ((s.length : Int) = 0) = false := dF (by omega)
          have lt1 : (s.take k).length ≤ s.length := take_len s k
          have ld1 : (s.drop (k + 1)).length ≤ s.length := by rw [List.length_drop]; omega
          have q1 : (decide ((0 : Int) ≤ (k : Int)) && decide ((k : Int) ≤ (s.length : Int))) = true := dA (by omega) (by omega)
          have q2 := alloc40 (show (s.take k).length ≤ 1000 by omega)
          have q3 : wrap64 ((k : Int) + 1) = ((k + 1 : Nat) : Int) := wrap64_nat (by omega)
          have q4 : (decide ((0 : Int) ≤ ((k + 1 : Nat) : Int)) && decide (((k + 1 : Nat) : Int) ≤ (s.length : Int))) = true := dA (by omega) (by omega)
          have q5 := alloc40 (show (s.take k).length + (s.drop (k + 1)).length ≤ 1000 by omega)
          have hsub : (s.take k ++ s.drop (k + 1)).Sublist s := by
            have h1 : (s.take k ++ s.drop (k + 1)).Sublist (s.take k ++ s.drop k) := by
              refine List.Sublist.append_left ?_ _
              rw [← List.drop_drop]
              exact List.drop_sublist _ _
            rw [List.take_append_drop] at h1
            exact h1
          have e63c := G.c63 (s.take k ++ s.drop (k + 1)) (ckS_sub k4 hsub)
          have hc := lvlN_mono (l := l) (s := s) (s' := s.take k ++ s.drop (k + 1)) (fun q hq => hsub.subset hq)
          have q6 : decide ((lvlN l (s.take k ++ s.drop (k + 1)) : Int) ≤ (lvlN l s : Int)) = true := dT (by omega)
          clear hsub hc lt1 ld1
          rcases Bool.eq_false_or_eq_true (!decide ((l.length : Int) ≤ (lvlN l s : Int))) with m1 | m1
          · have e61 := N1 m1
            rcases Bool.eq_false_or_eq_true (decide (((miss (gt l (lvlN l s)).2.1 (lvlN l s) s).length : Int) = 0)) with m2 | m2
            · obtain ⟨m3, m4⟩ := N2 m1 m2
              rcases Bool.eq_false_or_eq_true (!decide (((gt l g).2.1.length : Int) ≤ 0)) with r1 | r1
              · have r2 := R1 r1
                simp only [Tr.val_test, Tr.val_fin, leF_eq, eqF_eq, Nat.zero_add, List.nil_append, e57, g57, k1, e68, g68, c2, c3, e65, g65, c4, e60, g60, al, e63, g63, z0, e25, g25, e120, isRet, isBrk, b12_0, b12_2, outB, e56, g56, ws, e122, e63a, e63b, w0, c5, c6, hd, Int.toNat_natCast, d0, e56k, q1, q2, q3, q4, q5, e63c, q6, m1, e61, g61, m2, e69, g69, m3, m4, r1, r2, Option.isSome_some, Option.getD_some, if_true, if_false, Bool.false_eq_true, Bool.not_true, Bool.not_false, decide_true]
              · rcases Bool.eq_false_or_eq_true (!decide ((gt l g).2.2.1 ≤ 0)) with r3 | r3
                · have r2 := R2 r3
                  simp only [Tr.val_test, Tr.val_fin, leF_eq, eqF_eq, Nat.zero_add, List.nil_append, e57, g57, k1, e68, g68, c2, c3, e65, g65, c4, e60, g60, al, e63, g63, z0, e25, g25, e120, isRet, isBrk, b12_0, b12_2, outB, e56, g56, ws, e122, e63a, e63b, w0, c5, c6, hd, Int.toNat_natCast, d0, e56k, q1, q2, q3, q4, q5, e63c, q6, m1, e61, g61, m2, e69, g69, m3, m4, r1, r2, r3, Option.isSome_some, Option.getD_some, if_true, if_false, Bool.false_eq_true, Bool.not_true, Bool.not_false, decide_true]
                · simp only [Tr.val_test, Tr.val_fin, leF_eq, eqF_eq, Nat.zero_add, List.nil_append, e57, g57, k1, e68, g68, c2, c3, e65, g65, c4, e60, g60, al, e63, g63, z0, e25, g25, e120, isRet, isBrk, b12_0, b12_2, outB, e56, g56, ws, e122, e63a, e63b, w0, c5, c6, hd, Int.toNat_natCast, d0, e56k, q1, q2, q3, q4, q5, e63c, q6, m1, e61, g61, m2, e69, g69, m3, m4, r1, r3, Option.isSome_some, Option.getD_some, if_true, if_false, Bool.false_eq_true, Bool.not_true, Bool.not_false, decide_true]
            · rcases Bool.eq_false_or_eq_true (!decide (((gt l g).2.1.length : Int) ≤ 0)) with r1 | r1
              · have r2 := R1 r1
                simp only [Tr.val_test, Tr.val_fin, leF_eq, eqF_eq, Nat.zero_add, List.nil_append, e57, g57, k1, e68, g68, c2, c3, e65, g65, c4, e60, g60, al, e63, g63, z0, e25, g25, e120, isRet, isBrk, b12_0, b12_2, outB, e56, g56, ws, e122, e63a, e63b, w0, c5, c6, hd, Int.toNat_natCast, d0, e56k, q1, q2, q3, q4, q5, e63c, q6, m1, e61, g61, m2, r1, r2, Option.isSome_some, Option.getD_some, if_true, if_false, Bool.false_eq_true, Bool.not_true, Bool.not_false, decide_true]
              · rcases Bool.eq_false_or_eq_true (!decide ((gt l g).2.2.1 ≤ 0)) with r3 | r3
                · have r2 := R2 r3
                  simp only [Tr.val_test, Tr.val_fin, leF_eq, eqF_eq, Nat.zero_add, List.nil_append, e57, g57, k1, e68, g68, c2, c3, e65, g65, c4, e60, g60, al, e63, g63, z0, e25, g25, e120, isRet, isBrk, b12_0, b12_2, outB, e56, g56, ws, e122, e63a, e63b, w0, c5, c6, hd, Int.toNat_natCast, d0, e56k, q1, q2, q3, q4, q5, e63c, q6, m1, e61, g61, m2, r1, r2, r3, Option.isSome_some, Option.getD_some, if_true, if_false, Bool.false_eq_true, Bool.not_true, Bool.not_false, decide_true]
                · simp only [Tr.val_test, Tr.val_fin, leF_eq, eqF_eq, Nat.zero_add, List.nil_append, e57, g57, k1, e68, g68, c2, c3, e65, g65, c4, e60, g60, al, e63, g63, z0, e25, g25, e120, isRet, isBrk, b12_0, b12_2, outB, e56, g56, ws, e122, e63a, e63b, w0, c5, c6, hd, Int.toNat_natCast, d0, e56k, q1, q2, q3, q4, q5, e63c, q6, m1, e61, g61, m2, r1, r3, Option.isSome_some, Option.getD_some, if_true, if_false, Bool.false_eq_true, Bool.not_true, Bool.not_false, decide_true]
          · rcases Bool.eq_false_or_eq_true (!decide (((gt l g).2.1.length : Int) ≤ 0)) with r1 | r1
            · have r2 := R1 r1
              simp only [Tr.val_test, Tr.val_fin, leF_eq, eqF_eq, Nat.zero_add, List.nil_append, e57, g57, k1, e68, g68, c2, c3, e65, g65, c4, e60, g60, al, e63, g63, z0, e25, g25, e120, isRet, isBrk, b12_0, b12_2, outB, e56, g56, ws, e122, e63a, e63b, w0, c5, c6, hd, Int.toNat_natCast, d0, e56k, q1, q2, q3, q4, q5, e63c, q6, m1, r1, r2, Option.isSome_some, Option.getD_some, if_true, if_false, Bool.false_eq_true, Bool.not_true, Bool.not_false, decide_true]
            · rcases Bool.eq_false_or_eq_true (!decide ((gt l g).2.2.1 ≤ 0)) with r3 | r3
              · have r2 := R2 r3
                simp only [Tr.val_test, Tr.val_fin, leF_eq, eqF_eq, Nat.zero_add, List.nil_append, e57, g57, k1, e68, g68, c2, c3, e65, g65, c4, e60, g60, al, e63, g63, z0, e25, g25, e120, isRet, isBrk, b12_0, b12_2, outB, e56, g56, ws, e122, e63a, e63b, w0, c5, c6, hd, Int.toNat_natCast, d0, e56k, q1, q2, q3, q4, q5, e63c, q6, m1, r1, r2, r3, Option.isSome_some, Option.getD_some, if_true, if_false, Bool.false_eq_true, Bool.not_true, Bool.not_false, decide_true]
              · simp only [Tr.val_test, Tr.val_fin, leF_eq, eqF_eq, Nat.zero_add, List.nil_append, e57, g57, k1, e68, g68, c2, c3, e65, g65, c4, e60, g60, al, e63, g63, z0, e25, g25, e120, isRet, isBrk, b12_0, b12_2, outB, e56, g56, ws, e122, e63a, e63b, w0, c5, c6, hd, Int.toNat_natCast, d0, e56k, q1, q2, q3, q4, q5, e63c, q6, m1, r1, r3, Option.isSome_some, Option.getD_some, if_true, if_false, Bool.false_eq_true, Bool.not_true, Bool.not_false, decide_true]
      · have c4 : (!decide (ckS l.length s = 0)) = true := nT k4
        simp only [Tr.val_test, Tr.val_fin, leF_eq, eqF_eq, e57, g57, k1, e68, g68, c2, c3, e65, g65, c4, Option.isSome_some, Option.getD_some, Bool.not_true, if_true, if_false, Bool.false_eq_true]
    · have c3 : (!decide ((s.length : Int) ≤ 20)) = true := nT (by omega)
      simp only [Tr.val_test, Tr.val_fin, leF_eq, eqF_eq, e57, g57, k1, e68, g68, c2, c3, Option.isSome_some, Option.getD_some, Bool.not_true, if_true, if_false, Bool.false_eq_true]
  · have c2 : (!decide ((ckG l).2 = 0)) = true := nT k2
    simp only [Tr.val_test, Tr.val_fin, eqF_eq, e57, g57, k1, e68, g68, c2, Option.isSome_some, Option.getD_some, Bool.not_true, if_true, if_false, Bool.false_eq_true]

theorem law12 (d : Tys.data as12) (hw : Tys.Wf as12 d) : Pure1 Go.Proofs.Tryz.prog 12 as12 [.bool] d (true, ()) := by
  have h := f12_eq d.1 d.2.1 d.2.2.1.1 d.2.2.1.2.1
  have hp : p12.pre d = true := by
    show Option.isSome (f12 d) = true
    rw [show f12 d = some (true, ()) from h]; rfl
  have hg : p12.fn d = (true, ()) := by
    show (f12 d).getD _ = _
    rw [show f12 d = some (true, ()) from h]; rfl
  have := ok12.runs d hp
  rw [hg] at this
  exact this

end Go.Vm.Mo
