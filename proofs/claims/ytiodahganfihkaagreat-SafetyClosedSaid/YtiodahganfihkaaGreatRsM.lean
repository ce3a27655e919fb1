import Derived.Test.YtiodahganfihkaaGreatRsFg
import Derived.Test.YtiodahganfihkaaGreatA5
set_option linter.unusedVariables false
set_option linter.unusedSimpArgs false

namespace Go.Vm.Mo
open Go
set_option linter.unusedVariables false
set_option linter.unusedSimpArgs false

theorem dT {p : Prop} [Decidable p] (h : p) : decide p = true := decide_eq_true h
theorem dF {p : Prop} [Decidable p] (h : ¬ p) : decide p = false := decide_eq_false h
theorem nT {p : Prop} [Decidable p] (h : ¬ p) : (!decide p) = true := by rw [decide_eq_false h]; rfl
theorem nF {p : Prop} [Decidable p] (h : p) : (!decide p) = false := by rw [decide_eq_true h]; rfl
theorem dA {p q : Prop} [Decidable p] [Decidable q] (h : p) (k : q) : (decide p && decide q) = true := by rw [decide_eq_true h, decide_eq_true k]; rfl

theorem first_map (bad : Nat → Bool) : ∀ (n i : Nat), first bad n (i + 1) = (first (fun k => bad (k + 1)) n i).map (· + 1)
  | 0, _ => rfl
  | n + 1, i => by
    simp only [first]
    split
    · rfl
    · exact first_map bad n (i + 1)

def firstNZ : List Int → Int
  | [] => 0
  | a :: l => if a = 0 then firstNZ l else a

theorem firstNZ_eq : ∀ l : List Int, (match first (fun i => !decide (l.getD i 0 = 0)) l.length 0 with
    | some k => l.getD k 0
    | none => 0) = firstNZ l
  | [] => rfl
  | a :: l => by
    simp only [List.length, first, firstNZ]
    by_cases ha : a = 0
    · subst ha
      have e := firstNZ_eq l
      have hf : first (fun i => !decide (((0 : Int) :: l).getD i 0 = 0)) l.length (0 + 1) = (first (fun i => !decide (l.getD i 0 = 0)) l.length 0).map (· + 1) := by
        rw [first_map]; rfl
      simp only [hf, List.getD_cons_zero, decide_true, Bool.not_true, Bool.false_eq_true, if_false, if_true]
      rw [← e]
      cases first (fun i => !decide (l.getD i 0 = 0)) l.length 0 with
      | none => rfl
      | some k => rfl
    · simp [ha]

theorem l79 (l : List Int) (h : l.length ≤ 1000000000) : l79_0 ((l, (l.length : Int), (0 : Int), ()), ()) = match first (fun i => !decide (l.getD i 0 = 0)) l.length 0 with
    | some k => some (.inr ((l.getD k 0, ()), ()))
    | none => some (.inl ((), ())) := by
  refine itr_search (fun i => ((l, (l.length : Int), (i : Int), ()), ())) (fun i => !decide (l.getD i 0 = 0)) (fun k => ((l.getD k 0, ()), ())) (n := l.length) ?_ ?_ (lt_rounds (by omega))
  · intro i hi
    simp only [s79_0, t79_0, Tr.val_test, leF_eq, eqF_eq]
    rw [if_pos (by simp; omega), if_pos (by simp; omega)]
    simp only [Int.toNat_natCast, wrap64_nat (show i ≤ 9223372036854775806 by omega)]
    rfl
  · simp [s79_0, t79_0, leF_eq]

theorem f79_eq (l : List Int) (h : l.length ≤ 1000000000) : f79 (l, ()) = some (firstNZ l, ()) := by
  simp only [f79, t79, Tr.val_test, r79_0, l79 l h, ← firstNZ_eq l]
  cases first (fun i => !decide (l.getD i 0 = 0)) l.length 0 with
  | none => rfl
  | some k => rfl

theorem f80_eq (d : Tys.data as80) : f80 d = some (if d.1 = true then d.2.1 else (0 : Int), ()) := by
  simp only [f80, t80, Tr.val_test]
  split <;> rfl

def wi (lo hi x : Int) : Bool := decide (lo ≤ x) && decide (x ≤ hi)

theorem wi_iff {lo hi x : Int} : wi lo hi x = true ↔ lo ≤ x ∧ x ≤ hi := by simp [wi]

theorem f25_eq (d : Tys.data as25) : f25 d = some (wi d.2.1 d.2.2.1 d.1, ()) := by
  simp only [f25, t25, Tr.val_test, Tr.val_fin, leF_eq, decide_eq_true_eq, wi]
  split <;> simp [*]

theorem l94 (lo hi : Int) (l : List Int) (h : l.length ≤ 1000000000) : l94_0 ((lo, hi, l, (l.length : Int), (0 : Int), ()), ()) = match first (fun i => !wi lo hi (l.getD i 0)) l.length 0 with
    | some _ => some (.inr ((false, ()), ()))
    | none => some (.inl ((), ())) := by
  refine itr_search (fun i => ((lo, hi, l, (l.length : Int), (i : Int), ()), ())) (fun i => !wi lo hi (l.getD i 0)) (fun _ => ((false, ()), ())) (n := l.length) ?_ ?_ (lt_rounds (by omega))
  · intro i hi'
    simp only [s94_0, t94_0, Tr.val_test, Tr.val_fin, leF_eq, Int.toNat_natCast, wrap64_nat (show i ≤ 9223372036854775806 by omega)]
    rw [if_pos (by simp; omega), if_pos (by simp; omega)]
    by_cases a0 : lo ≤ l.getD i 0
    · by_cases a1 : l.getD i 0 ≤ hi
      · simp only [wi, a0, a1, decide_true, Bool.and_self, Bool.not_true, if_true, if_false, Bool.false_eq_true]
      · simp only [wi, a0, a1, decide_true, decide_false, Bool.and_false, Bool.not_false, Bool.not_true, if_true, if_false, Bool.false_eq_true]
    · simp only [wi, a0, decide_false, Bool.false_and, Bool.not_false, if_true, if_false, Bool.false_eq_true]
  · simp [s94_0, t94_0, leF_eq]

theorem f94_eq (lo hi : Int) (l : List Int) (h : l.length ≤ 1000000000) : f94 (lo, hi, l, ()) = some ((first (fun i => !wi lo hi (l.getD i 0)) l.length 0).isNone, ()) := by
  have hl := l94 lo hi l h
  cases hf : first (fun i => !wi lo hi (l.getD i 0)) l.length 0 with
  | none =>
    rw [hf] at hl
    simp only [f94, t94, Tr.val_test, Tr.val_fin, hl, isRet, Option.isSome_some, Option.isNone_none, if_true, Bool.false_eq_true, if_false]
  | some k =>
    rw [hf] at hl
    simp only [f94, t94, Tr.val_test, Tr.val_fin, hl, isRet, r94_0, outR, Option.isSome_some, Option.isNone_some, if_true]

theorem f94_one (lo hi a : Int) : f94 (lo, hi, [a], ()) = some (wi lo hi a, ()) := by
  rw [f94_eq lo hi _ (by simp)]
  simp only [first, List.length, List.getD_cons_zero]
  by_cases h1 : wi lo hi a = true
  · simp [h1]
  · simp [h1]

theorem f94_two (lo hi a b : Int) : f94 (lo, hi, [a, b], ()) = some (wi lo hi a && wi lo hi b, ()) := by
  rw [f94_eq lo hi _ (by simp)]
  simp only [first, List.length, List.getD_cons_zero, List.getD_cons_succ]
  by_cases h1 : wi lo hi a = true
  · by_cases h2 : wi lo hi b = true
    · simp [h1, h2]
    · simp [h1, h2]
  · simp [h1]

theorem wn64 {x : Int} (h1 : -9223372036854775807 ≤ x) (h2 : x ≤ 9223372036854775807) : IntKind.wrap .i64 (0 - x) = -x := by
  rw [← wrap64_eq, wrap64_id (by omega) (by omega)]
  omega

theorem isSome_first {bad : Nat → Bool} {n : Nat} : (first bad n 0).isSome = true ↔ ∃ i, i < n ∧ bad i = true := by
  cases h : first bad n 0 with
  | none =>
    simp only [Option.isSome_none, Bool.false_eq_true, false_iff]
    rintro ⟨i, hi, hb⟩
    rw [first_none h i (by omega) (by omega)] at hb; cases hb
  | some k =>
    obtain ⟨_, h2, h3, _⟩ := first_some h
    simp only [Option.isSome_some, true_iff]
    exact ⟨k, by omega, h3⟩

theorem isNone_first {bad : Nat → Bool} {n : Nat} : (first bad n 0).isNone = true ↔ ∀ i, i < n → bad i = false := by
  cases h : first bad n 0 with
  | none =>
    simp only [Option.isNone_none, true_iff]
    exact fun i hi => first_none h i (by omega) (by omega)
  | some k =>
    obtain ⟨_, h2, h3, _⟩ := first_some h
    simp only [Option.isNone_some, Bool.false_eq_true, false_iff]
    intro hb
    rw [hb k (by omega)] at h3; cases h3

def firstE (e : Nat → Int) (n : Nat) : Int := match first (fun i => !decide (e i = 0)) n 0 with
  | some k => e k
  | none => 0

theorem firstE_zero {e : Nat → Int} {n : Nat} (h : firstE e n = 0) : ∀ i, i < n → e i = 0 := by
  intro i hi
  unfold firstE at h
  cases hf : first (fun i => !decide (e i = 0)) n 0 with
  | none => simpa using first_none hf i (by omega) (by omega)
  | some k =>
    rw [hf] at h
    obtain ⟨_, _, k3, _⟩ := first_some hf
    have h : e k = 0 := h
    simp [h] at k3

theorem firstE_of {e : Nat → Int} {n : Nat} (h : ∀ i, i < n → e i = 0) : firstE e n = 0 := by
  unfold firstE
  rw [first_of_none fun i _ hi => by simp [h i (by omega)]]

theorem f79_two (a b : Int) : f79 ([a, b], ()) = some (firstNZ [a, b], ()) := f79_eq _ (by simp)
theorem f79_three (a b c : Int) : f79 ([a, b, c], ()) = some (firstNZ [a, b, c], ()) := f79_eq _ (by simp)

theorem nz2 {a b : Int} (h : firstNZ [a, b] = 0) : a = 0 ∧ b = 0 := by
  simp only [firstNZ] at h
  by_cases ha : a = 0
  · rw [if_pos ha] at h
    by_cases hb : b = 0
    · exact ⟨ha, hb⟩
    · rw [if_neg hb] at h; exact absurd h hb
  · rw [if_neg ha] at h; exact absurd h ha

theorem strEq_eq (a b : ByteArray) : strEq a b = decide (a = b) := by
  unfold strEq
  rw [Bool.eq_iff_iff, decide_eq_true_eq, beq_iff_eq, ByteArray.toList_eq, ByteArray.toList_eq]
  exact ⟨fun h => ByteArray.ext (Array.toList_inj.1 h), fun h => by rw [h]⟩

def letter (c : Int) : Bool := (decide (97 ≤ c) && decide (c ≤ 122)) || (decide (65 ≤ c) && decide (c ≤ 90))
def digit (c : Int) : Bool := decide (48 ≤ c) && decide (c ≤ 57)

theorem f182_eq (d : Tys.data as182) : f182 d = some (letter d.1, ()) := by
  simp only [f182, t182, Tr.val_test, Tr.val_fin, letter]
  by_cases h1 : 97 ≤ d.1 <;> by_cases h2 : d.1 ≤ 122 <;> by_cases h3 : 65 ≤ d.1 <;> simp [h1, h2, h3]

theorem f183_eq (d : Tys.data as183) : f183 d = some (digit d.1, ()) := by
  simp only [f183, t183, Tr.val_test, Tr.val_fin, digit]
  by_cases h1 : 48 ≤ d.1 <;> simp [h1]

def bL (s : ByteArray) : List Int := s.data.toList.map fun b => (b.toNat : Int)
def chr (s : ByteArray) (i : Nat) : Int := ((s.data.toList.getD i 0).toNat : Int)

theorem bL_len (s : ByteArray) : (bL s).length = s.size := by unfold bL; rw [List.length_map, Array.length_toList]; rfl
theorem bL_get (s : ByteArray) (i : Nat) : (bL s).getD i 0 = chr s i := by
  unfold bL chr
  rw [List.getD_eq_getElem?_getD, List.getD_eq_getElem?_getD, List.getElem?_map]
  cases s.data.toList[i]? with
  | none => rfl
  | some b => rfl

def badC (s : ByteArray) (i : Nat) : Bool := !(letter (chr s i) || digit (chr s i) || decide (chr s i = 45))
def nm (s : ByteArray) : Bool := decide (1 ≤ s.size) && decide (s.size ≤ 12) && letter (chr s 0) && (first (badC s) s.size 0).isNone

theorem l142 (s : ByteArray) (h : s.size ≤ 1000) : l142_0 ((bL s, ((bL s).length : Int), (0 : Int), ()), ()) = match first (badC s) s.size 0 with
    | some _ => some (.inr ((false, ()), ()))
    | none => some (.inl ((), ())) := by
  rw [bL_len]
  refine itr_search (fun i => ((bL s, (s.size : Int), (i : Int), ()), ())) (badC s) (fun _ => ((false, ()), ())) (n := s.size) ?_ ?_ (lt_rounds (by omega))
  · intro i hi
    have b0 : (!decide ((s.size : Int) ≤ (i : Int))) = true := nT (by omega)
    have b1 : (decide ((0 : Int) ≤ (i : Int)) && decide ((i : Int) < ((bL s).length : Int))) = true := dA (by omega) (by rw [bL_len]; omega)
    simp only [s142_0, t142_0, Tr.val_test, Tr.val_fin, Tr.val_stop, leF_eq, b0, b1, if_true, Int.toNat_natCast, bL_get, f182_eq, g182, f183_eq, g183, Option.isSome_some, Option.getD_some, wrap64_nat (show i ≤ 9223372036854775806 by omega), badC]
    rcases Bool.eq_false_or_eq_true (letter (chr s i)) with h1 | h1 <;> rcases Bool.eq_false_or_eq_true (digit (chr s i)) with h2 | h2 <;> by_cases h3 : chr s i = 45 <;> simp [h1, h2, h3]
  · simp [s142_0, t142_0, leF_eq]

theorem f142_eq (d : Tys.data as142) : f142 d = some (nm d.1, ()) := by
  obtain ⟨s, u⟩ := d
  show (t142 s).val = some (nm s, ())
  unfold t142 nm
  by_cases h0 : s.size = 0
  · have b0 : eqF (s.size : Int) 0 = true := by rw [eqF_eq]; exact dT (by omega)
    simp only [Tr.val_test, Tr.val_fin, b0, if_true, h0]
    rfl
  · have b0 : eqF (s.size : Int) 0 = false := by rw [eqF_eq]; exact dF (by omega)
    have c0 : decide (1 ≤ s.size) = true := dT (by omega)
    by_cases h1 : 12 < s.size
    · have b1 : (!leF (s.size : Int) 12) = true := by rw [leF_eq]; exact nT (by omega)
      have c1 : decide (s.size ≤ 12) = false := dF (by omega)
      simp only [Tr.val_test, Tr.val_fin, b0, b1, c0, c1, if_true, if_false, Bool.false_eq_true, Bool.and_false, Bool.false_and]
    · have b1 : (!leF (s.size : Int) 12) = false := by rw [leF_eq]; exact nF (by omega)
      have c1 : decide (s.size ≤ 12) = true := dT (by omega)
      have b2 : (true && decide ((0 : Int) < (s.size : Int))) = true := by rw [dT (by omega)]; rfl
      have hl := l142 s (by omega)
      have e1 : f182 ((chr s 0 : Int), ()) = some (letter (chr s 0), ()) := f182_eq _
      simp only [Tr.val_test, Tr.val_fin, b0, b1, b2, c0, c1, if_true, if_false, Bool.false_eq_true, Bool.true_and]
      show (if (f182 ((chr s 0 : Int), ())).isSome = true then (if (!(g182 ((chr s 0 : Int), ())).1) = true then some (false, ()) else (if (l142_0 ((bL s, ((bL s).length : Int), (0 : Int), ()), ())).isSome = true then (if isRet (l142_0 ((bL s, ((bL s).length : Int), (0 : Int), ()), ())) = true then some ((r142_0 ((bL s, ((bL s).length : Int), (0 : Int), ()), ())).1.1, ()) else some (true, ())) else none)) else none) = _
      simp only [g182, e1, Option.isSome_some, Option.getD_some, if_true]
      rcases Bool.eq_false_or_eq_true (letter (chr s 0)) with h2 | h2
      · simp only [h2, Bool.not_true, Bool.false_eq_true, if_false, Bool.true_and]
        cases hf : first (badC s) s.size 0 with
        | none =>
          rw [hf] at hl
          simp only [hl, isRet, Option.isSome_some, if_true, Bool.false_eq_true, if_false, Option.isNone_none]
        | some k =>
          rw [hf] at hl
          simp only [hl, isRet, r142_0, outR, Option.isSome_some, if_true, Option.isNone_some]
      · simp only [h2, Bool.not_false, if_true, Bool.false_and]

def badR (s : ByteArray) (i : Nat) : Bool := !letter (chr s i) && (decide (i = 0) || !(decide (chr s i = 45) || digit (chr s i)))

theorem l95 (s : ByteArray) (h : s.size ≤ 1000) : l95_0 ((s, (0 : Int), ()), ()) = match first (badR s) s.size 0 with
    | some _ => some (.inr ((false, ()), ()))
    | none => some (.inl ((), ())) := by
  refine itr_search (fun i => ((s, (i : Int), ()), ())) (badR s) (fun _ => ((false, ()), ())) (n := s.size) ?_ ?_ (lt_rounds (by omega))
  · intro i hi
    have b0 : (!decide ((s.size : Int) ≤ (i : Int))) = true := nT (by omega)
    have b1 : (decide ((0 : Int) ≤ (i : Int)) && decide ((i : Int) < (s.size : Int))) = true := dA (by omega) (by omega)
    have hc : ((List.getD s.data.toList i (0 : UInt8)).toBitVec.toFin.1 : Int) = chr s i := rfl
    simp only [s95_0, t95_0, Tr.val_test, Tr.val_fin, Tr.val_stop, leF_eq, eqF_eq, b0, b1, if_true, Int.toNat_natCast, hc, wrap64_nat (show i ≤ 9223372036854775806 by omega), badR, letter, digit]
    have hi0 : ((i : Int) = 0) ↔ i = 0 := by omega
    obtain ⟨c, hc2⟩ : ∃ c, chr s i = c := ⟨_, rfl⟩
    simp only [hc2]
    by_cases a1 : 97 ≤ c <;> by_cases a2 : c ≤ 122 <;> by_cases a3 : 65 ≤ c <;> by_cases a4 : c ≤ 90 <;> by_cases a5 : i = 0 <;> by_cases a6 : c = 45 <;>
      first
        | (exfalso; omega)
        | (by_cases a7 : 48 ≤ c <;> by_cases a8 : c ≤ 57 <;> first
            | (exfalso; omega)
            | (simp [a1, a2, a3, a4, hi0, a5, a6, a7, a8]; done)
            | (simp [show c < 48 by omega, show ¬ 57 < c by omega, a1, a2, a3, a4, hi0, a5, a6, a7, a8]; done)
            | (simp [show ¬ c < 48 by omega, show 57 < c by omega, a1, a2, a3, a4, hi0, a5, a6, a7, a8]; done)
            | (simp [show ¬ c < 48 by omega, show ¬ 57 < c by omega, a1, a2, a3, a4, hi0, a5, a6, a7, a8]; done))
  · simp [s95_0, t95_0, leF_eq]

theorem badR_none (s : ByteArray) (h : 1 ≤ s.size) : (first (badR s) s.size 0).isNone = (letter (chr s 0) && (first (badC s) s.size 0).isNone) := by
  rw [Bool.eq_iff_iff, Bool.and_eq_true, isNone_first, isNone_first]
  constructor
  · intro hb
    have h0 := hb 0 (by omega)
    unfold badR at h0
    simp only [decide_true, Bool.true_or, Bool.and_true, Bool.not_eq_false'] at h0
    refine ⟨h0, fun i hi => ?_⟩
    have := hb i hi
    unfold badR at this
    unfold badC
    cases h1 : letter (chr s i) <;> cases h2 : digit (chr s i) <;> by_cases h3 : chr s i = 45 <;> simp_all
  · rintro ⟨h0, hb⟩ i hi
    have := hb i hi
    unfold badC at this
    unfold badR
    by_cases hi0 : i = 0
    · subst hi0; simp [h0]
    · cases h1 : letter (chr s i) <;> cases h2 : digit (chr s i) <;> by_cases h3 : chr s i = 45 <;> simp_all

theorem f95_eq (d : Tys.data as95) : f95 d = some (nm d.1, ()) := by
  obtain ⟨s, u⟩ := d
  show (t95 s).val = some (nm s, ())
  unfold t95 nm
  simp only [Tr.val_test, Tr.val_fin, Tr.val_stop, leF_eq]
  by_cases h0 : s.size = 0
  · have b0 : (!decide ((1 : Int) ≤ (s.size : Int))) = true := nT (by omega)
    simp only [b0, if_true, h0]
    rfl
  · have b0 : (!decide ((1 : Int) ≤ (s.size : Int))) = false := nF (by omega)
    have c0 : decide (1 ≤ s.size) = true := dT (by omega)
    by_cases h1 : 12 < s.size
    · have b1 : (!decide ((s.size : Int) ≤ 12)) = true := nT (by omega)
      have c1 : decide (s.size ≤ 12) = false := dF (by omega)
      simp only [b0, b1, c0, c1, if_true, if_false, Bool.false_eq_true, Bool.and_false, Bool.false_and]
    · have b1 : (!decide ((s.size : Int) ≤ 12)) = false := nF (by omega)
      have c1 : decide (s.size ≤ 12) = true := dT (by omega)
      have hl := l95 s (by omega)
      rw [Bool.and_assoc, ← badR_none s (by omega)]
      simp only [b0, b1, c0, c1, if_false, Bool.false_eq_true, Bool.true_and]
      cases hf : first (badR s) s.size 0 with
      | none =>
        rw [hf] at hl
        simp only [hl, isRet, Option.isSome_some, if_true, Bool.false_eq_true, if_false, Option.isNone_none]
      | some k =>
        rw [hf] at hl
        simp only [hl, isRet, r95_0, outR, Option.isSome_some, if_true, Option.isNone_some]

/-! ### Texts among others -/

def bs (l : List ByteArray) (i : Nat) : ByteArray := l.getD i { data := { toList := [] } }
def hasT (l : List ByteArray) (x : ByteArray) : Bool := l.any fun y => strEq y x

theorem bs_mem {l : List ByteArray} {i : Nat} (h : i < l.length) : bs l i ∈ l := by
  unfold bs
  rw [List.getD_eq_getElem?_getD, List.getElem?_eq_getElem h]
  exact List.getElem_mem h
theorem mem_bs {l : List ByteArray} {x : ByteArray} (h : x ∈ l) : ∃ i, i < l.length ∧ bs l i = x := by
  obtain ⟨i, hi, e⟩ := List.getElem_of_mem h
  exact ⟨i, hi, by unfold bs; rw [List.getD_eq_getElem?_getD, List.getElem?_eq_getElem hi, e]; rfl⟩
theorem hasT_iff {l : List ByteArray} {x : ByteArray} : hasT l x = true ↔ ∃ i, i < l.length ∧ bs l i = x := by
  unfold hasT
  rw [List.any_eq_true]
  constructor
  · rintro ⟨y, hy, e⟩
    rw [strEq_eq, decide_eq_true_eq] at e
    exact mem_bs (e ▸ hy)
  · rintro ⟨i, hi, e⟩
    exact ⟨x, e ▸ bs_mem hi, by rw [strEq_eq]; exact decide_eq_true rfl⟩

theorem hasT_first (l : List ByteArray) (x : ByteArray) : (first (fun i => strEq (bs l i) x) l.length 0).isSome = hasT l x := by
  rw [Bool.eq_iff_iff, isSome_first, hasT_iff]
  constructor <;> rintro ⟨i, hi, e⟩ <;> exact ⟨i, hi, by simpa [strEq_eq] using e⟩
theorem strEq_comm (a b : ByteArray) : strEq a b = strEq b a := by rw [strEq_eq, strEq_eq]; exact decide_eq_decide.2 ⟨Eq.symm, Eq.symm⟩

theorem l184 (l : List ByteArray) (x : ByteArray) (h : l.length ≤ 1000000000) : l184_0 ((l, x, (l.length : Int), (0 : Int), ()), ()) = match first (fun i => strEq (bs l i) x) l.length 0 with
    | some k => some (.inr (((k : Int), ()), ()))
    | none => some (.inl ((), ())) := by
  refine itr_search (fun i => ((l, x, (l.length : Int), (i : Int), ()), ())) (fun i => strEq (bs l i) x) (fun k => (((k : Int), ()), ())) (n := l.length) ?_ ?_ (lt_rounds (by omega))
  · intro i hi
    have b0 : (!decide ((l.length : Int) ≤ (i : Int))) = true := nT (by omega)
    have b1 : (decide ((0 : Int) ≤ (i : Int)) && decide ((i : Int) < (l.length : Int))) = true := dA (by omega) (by omega)
    have hd : List.getD l i ({ data := { toList := [] } } : ByteArray) = bs l i := rfl
    simp only [s184_0, t184_0, Tr.val_test, Tr.val_fin, Tr.val_stop, leF_eq, b0, b1, if_true, Int.toNat_natCast, hd, strEq_comm x, wrap64_nat (show i ≤ 9223372036854775806 by omega)]
  · simp [s184_0, t184_0, leF_eq]

theorem f143_eq (l : List ByteArray) (x : ByteArray) (h : l.length ≤ 1000000000) : f143 (l, x, ()) = some (hasT l x, ()) := by
  have hl := l184 l x h
  rw [← hasT_first]
  have e : f184 (l, x, ()) = some (match first (fun i => strEq (bs l i) x) l.length 0 with
    | some k => (k : Int)
    | none => -1, ()) := by
    simp only [f184, t184, Tr.val_test, Tr.val_fin]
    cases hf : first (fun i => strEq (bs l i) x) l.length 0 with
    | none =>
      rw [hf] at hl
      simp only [hl, isRet, Option.isSome_some, if_true, if_false, Bool.false_eq_true]
    | some k =>
      rw [hf] at hl
      simp only [hl, isRet, r184_0, outR, Option.isSome_some, if_true]
  simp only [f143, t143, Tr.val_test, Tr.val_fin, e, g184, leF_eq, Option.isSome_some, Option.getD_some, if_true]
  cases hf : first (fun i => strEq (bs l i) x) l.length 0 with
  | none => rfl
  | some k => simp

theorem l96 (l : List ByteArray) (x : ByteArray) (h : l.length ≤ 1000000000) : l96_0 ((l, x, (0 : Int), ()), ()) = match first (fun i => strEq (bs l i) x) l.length 0 with
    | some _ => some (.inr ((true, ()), ()))
    | none => some (.inl ((), ())) := by
  refine itr_search (fun i => ((l, x, (i : Int), ()), ())) (fun i => strEq (bs l i) x) (fun _ => ((true, ()), ())) (n := l.length) ?_ ?_ (lt_rounds (by omega))
  · intro i hi
    have b0 : (!decide ((l.length : Int) ≤ (i : Int))) = true := nT (by omega)
    have b1 : (decide ((0 : Int) ≤ (i : Int)) && decide ((i : Int) < (l.length : Int))) = true := dA (by omega) (by omega)
    have hd : List.getD l i ({ data := { toList := [] } } : ByteArray) = bs l i := rfl
    simp only [s96_0, t96_0, Tr.val_test, Tr.val_fin, Tr.val_stop, leF_eq, b0, b1, if_true, Int.toNat_natCast, hd, wrap64_nat (show i ≤ 9223372036854775806 by omega)]
  · simp [s96_0, t96_0, leF_eq]

theorem f96_eq (l : List ByteArray) (x : ByteArray) (h : l.length ≤ 1000000000) : f96 (l, x, ()) = some (hasT l x, ()) := by
  have hl := l96 l x h
  rw [← hasT_first]
  simp only [f96, t96, Tr.val_test, Tr.val_fin]
  cases hf : first (fun i => strEq (bs l i) x) l.length 0 with
  | none =>
    rw [hf] at hl
    simp only [hl, isRet, Option.isSome_some, Option.isSome_none, if_true, if_false, Bool.false_eq_true]
  | some k =>
    rw [hf] at hl
    simp only [hl, isRet, r96_0, outR, Option.isSome_some, if_true]

/-- The refusal of a name in its list. -/
def nE (ns : List ByteArray) (i : Nat) (e : Int) : Int := firstNZ [if (!nm (bs ns i)) = true then 4 else 0, if hasT (ns.take i) (bs ns i) = true then e else 0]

theorem take_len {A : Type} (l : List A) (i : Nat) : (l.take i).length ≤ l.length := by rw [List.length_take]; omega

theorem f83_eq (ns : List ByteArray) (i : Nat) (e : Int) (hi : i < ns.length) (h : ns.length ≤ 1000000000) : f83 (ns, (i : Int), e, ()) = some (nE ns i e, ()) := by
  have b1 : (decide ((0 : Int) ≤ (i : Int)) && decide ((i : Int) < (ns.length : Int))) = true := dA (by omega) (by omega)
  have b2 : (decide ((0 : Int) ≤ (i : Int)) && decide ((i : Int) ≤ (ns.length : Int))) = true := dA (by omega) (by omega)
  have hd : List.getD ns i ({ data := { toList := [] } } : ByteArray) = bs ns i := rfl
  have e1 : f142 (bs ns i, ()) = some (nm (bs ns i), ()) := f142_eq _
  have e2 : f143 (ns.take i, bs ns i, ()) = some (hasT (ns.take i) (bs ns i), ()) := f143_eq _ _ (by have := take_len ns i; omega)
  have e3 : f80 (!nm (bs ns i), (4 : Int), ()) = some (if (!nm (bs ns i)) = true then 4 else 0, ()) := f80_eq _
  have e4 : f80 (hasT (ns.take i) (bs ns i), e, ()) = some (if hasT (ns.take i) (bs ns i) = true then e else 0, ()) := f80_eq _
  have e5 : f79 ([if (!nm (bs ns i)) = true then (4 : Int) else 0, if hasT (ns.take i) (bs ns i) = true then e else 0], ()) = some (nE ns i e, ()) := f79_two _ _
  simp only [f83, t83, Tr.val_test, Tr.val_fin, b1, b2, hd, Int.toNat_natCast, if_true, e1, g142, Option.isSome_some, Option.getD_some, e2, g143, e3, g80, e4, e5, g79]

theorem nE_cases (ns : List ByteArray) (k : Nat) (e : Int) (he : e ≠ 0) : nE ns k e = if nm (bs ns k) = true then (if hasT (ns.take k) (bs ns k) = true then e else 0) else 4 := by
  unfold nE firstNZ
  cases h1 : nm (bs ns k) <;> cases h2 : hasT (ns.take k) (bs ns k) <;> simp [firstNZ, he]

end Go.Vm.Mo

namespace Go.Vm.Mo
open Go
set_option linter.unusedVariables false
set_option linter.unusedSimpArgs false

theorem wrapU {n : Nat} (h : n < 18446744073709551616) : IntKind.wrap .u64 (n : Int) = n := by
  have h1 : (2 : Int) ^ 64 = 18446744073709551616 := by decide
  simp only [IntKind.wrap, IntKind.bits, IntKind.signed, h1, Bool.false_and, Bool.false_eq_true, if_false]
  omega
theorem wrapI {n : Nat} (h : n < 9223372036854775808) : IntKind.wrap .i64 (n : Int) = n := by
  rw [← wrap64_eq, wrap64_id (by omega) (by omega)]

theorem ofIntN {n : Nat} (h : n < 18446744073709551616) : (BitVec.ofInt 64 (n : Int)).toNat = n := by
  rw [BitVec.toNat_ofInt]
  omega

theorem lt64 {n : Nat} (h : n < 256) : n < 18446744073709551616 := by omega

theorem andU {a b : Nat} (ha : a < 256) (hb : b < 256) : andV .u64 (a : Int) (b : Int) = ((a &&& b : Nat) : Int) := by
  have hl : a &&& b < 256 := Nat.and_lt_two_pow (n := 8) a hb
  show IntKind.wrap .u64 ((BitVec.ofInt 64 (a : Int) &&& BitVec.ofInt 64 (b : Int)).toNat : Int) = _
  rw [BitVec.toNat_and, ofIntN (lt64 ha), ofIntN (lt64 hb), wrapU (lt64 hl)]
theorem andI {a b : Nat} (ha : a < 256) (hb : b < 256) : andV .i64 (a : Int) (b : Int) = ((a &&& b : Nat) : Int) := by
  have hl : a &&& b < 256 := Nat.and_lt_two_pow (n := 8) a hb
  show IntKind.wrap .i64 ((BitVec.ofInt 64 (a : Int) &&& BitVec.ofInt 64 (b : Int)).toNat : Int) = _
  rw [BitVec.toNat_and, ofIntN (lt64 ha), ofIntN (lt64 hb), wrapI (by omega)]
theorem orU {a b : Nat} (ha : a < 256) (hb : b < 256) : orV .u64 (a : Int) (b : Int) = ((a ||| b : Nat) : Int) := by
  have hl : a ||| b < 256 := Nat.or_lt_two_pow (n := 8) ha hb
  show IntKind.wrap .u64 ((BitVec.ofInt 64 (a : Int) ||| BitVec.ofInt 64 (b : Int)).toNat : Int) = _
  rw [BitVec.toNat_or, ofIntN (lt64 ha), ofIntN (lt64 hb), wrapU (lt64 hl)]
theorem orI {a b : Nat} (ha : a < 256) (hb : b < 256) : orV .i64 (a : Int) (b : Int) = ((a ||| b : Nat) : Int) := by
  have hl : a ||| b < 256 := Nat.or_lt_two_pow (n := 8) ha hb
  show IntKind.wrap .i64 ((BitVec.ofInt 64 (a : Int) ||| BitVec.ofInt 64 (b : Int)).toNat : Int) = _
  rw [BitVec.toNat_or, ofIntN (lt64 ha), ofIntN (lt64 hb), wrapI (by omega)]

/-- The flags of a without those of b. -/
def without (a b : Nat) : Nat := a &&& (a ^^^ b)

theorem tb_without (a b i : Nat) : (without a b).testBit i = (a.testBit i && !b.testBit i) := by
  unfold without
  rw [Nat.testBit_and, Nat.testBit_xor]
  cases a.testBit i <;> cases b.testBit i <;> rfl
theorem without_lt {a b : Nat} (ha : a < 256) : without a b < 256 := Nat.lt_of_le_of_lt Nat.and_le_left ha

theorem andNotU {a b : Nat} (ha : a < 256) (hb : b < 256) : andNotV .u64 (a : Int) (b : Int) = ((without a b : Nat) : Int) := by
  show IntKind.wrap .u64 ((BitVec.ofInt 64 (a : Int) &&& ~~~BitVec.ofInt 64 (b : Int)).toNat : Int) = _
  have e : (BitVec.ofInt 64 (a : Int) &&& ~~~BitVec.ofInt 64 (b : Int)).toNat = without a b := by
    apply Nat.eq_of_testBit_eq
    intro i
    rw [tb_without, BitVec.testBit_toNat, BitVec.getLsbD_and, BitVec.getLsbD_not, ← BitVec.testBit_toNat, ← BitVec.testBit_toNat, ofIntN (lt64 ha), ofIntN (lt64 hb)]
    by_cases hi : i < 64
    · simp [hi]
    · have : a.testBit i = false := Nat.testBit_lt_two_pow (Nat.lt_of_lt_of_le ha (Nat.le_trans (show 256 ≤ 2 ^ 64 by decide) (Nat.pow_le_pow_right (by decide) (by omega))))
      simp [this]
  rw [e, wrapU (lt64 (without_lt ha))]

theorem shN8 {k : IntKind} (hk : k.bits = 64) {i : Nat} (h : i < 64) : shN k (i : Int) = i := by
  rw [shN_eq, hk]
  show min (i : Int).toNat 64 = i
  omega

theorem pow8 {i : Nat} (h : i < 8) : 2 ^ i < 256 := Nat.pow_lt_pow_right (a := 2) (m := i) (n := 8) (by decide) h

theorem shlU {i : Nat} (h : i < 8) : shlV .u64 (1 : Int) (i : Int) = ((2 ^ i : Nat) : Int) := by
  unfold shlV
  rw [shN8 rfl (by omega), Int.one_mul]
  exact wrapU (lt64 (pow8 h))
theorem shlI {i : Nat} (h : i < 9) : shlV .i64 (1 : Int) (i : Int) = ((2 ^ i : Nat) : Int) := by
  unfold shlV
  rw [shN8 rfl (by omega), Int.one_mul]
  refine wrapI ?_
  have : 2 ^ i ≤ 2 ^ 8 := Nat.pow_le_pow_right (by decide) (by omega)
  have : (2 : Nat) ^ 8 = 256 := by decide
  omega
theorem shrI {s i : Nat} (h : i < 8) : shrV .i64 (s : Int) (i : Int) = ((s >>> i : Nat) : Int) := by
  unfold shrV
  rw [shN8 rfl (by omega), Nat.shiftRight_eq_div_pow]
  show Int.fdiv (s : Int) ((2 ^ i : Nat) : Int) = _
  rw [Int.fdiv_eq_ediv_of_nonneg _ (Int.natCast_nonneg _)]
  rfl

theorem bitI {s i : Nat} (hs : s < 256) (h : i < 8) : andV .i64 (shrV .i64 (s : Int) (i : Int)) (1 : Int) = if s.testBit i = true then 1 else 0 := by
  rw [shrI h]
  have h1 : s >>> i < 256 := Nat.lt_of_le_of_lt (Nat.shiftRight_le _ _) hs
  have := andI (a := s >>> i) (b := 1) h1 (by decide)
  rw [show ((1 : Nat) : Int) = 1 from rfl] at this
  rw [this, Nat.and_one_is_mod, Nat.testBit_eq_decide_div_mod_eq, Nat.shiftRight_eq_div_pow]
  by_cases hb : s / 2 ^ i % 2 = 1
  · rw [hb]; simp
  · have : s / 2 ^ i % 2 = 0 := by omega
    rw [this]; simp

theorem subBit : ∀ s, s < 256 → ∀ i, i < 8 → s.testBit i = true → 2 ^ i ≤ s ∧ s - 2 ^ i = without s (2 ^ i) := by decide +kernel

theorem bitsExt {a b : Nat} (ha : a < 256) (hb : b < 256) (h : ∀ i, i < 8 → a.testBit i = b.testBit i) : a = b := by
  apply Nat.eq_of_testBit_eq
  intro i
  by_cases hi : i < 8
  · exact h i hi
  · have hp : 256 ≤ 2 ^ i := by
      have : 2 ^ 8 ≤ 2 ^ i := Nat.pow_le_pow_right (by decide) (by omega)
      exact this
    rw [Nat.testBit_lt_two_pow (Nat.lt_of_lt_of_le ha hp), Nat.testBit_lt_two_pow (Nat.lt_of_lt_of_le hb hp)]

end Go.Vm.Mo

namespace Go.Vm.Mo
open Go
set_option linter.unusedVariables false
set_option linter.unusedSimpArgs false

def li (l : List Int) (k : Nat) : Int := l.getD k 0

/-- The refusal of a flag's index in its list. -/
def iE (n : Nat) (l : List Int) (k : Nat) : Int :=
  firstNZ [if (!wi 0 ((n : Int) - 1) (li l k)) = true then 6 else 0, if (decide (0 < k) && decide (li l k ≤ li l (k - 1))) = true then 9 else 0]
def iErr (n : Nat) (l : List Int) : Int := firstE (iE n l) l.length

theorem wsub {n : Nat} (h : n ≤ 1000) : wrap64 ((n : Int) - 1) = (n : Int) - 1 := by rw [wrap64_id] <;> omega

theorem l111 (n : Nat) (l : List Int) (hn : n ≤ 1000) (h : l.length ≤ 1000) : l111_0 ((l, (l.length : Int), (0 : Int), ()), ((n : Int), ()), (l, ()), ()) = match first (fun k => !decide (iE n l k = 0)) l.length 0 with
    | some k => some (.inr (((k : Int), iE n l k, ()), ((n : Int), ()), (l, ()), ()))
    | none => some (.inl ((), ((n : Int), ()), (l, ()), ())) := by
  refine itr_search (fun i => ((l, (l.length : Int), (i : Int), ()), ((n : Int), ()), (l, ()), ())) (fun k => !decide (iE n l k = 0)) (fun k => (((k : Int), iE n l k, ()), ((n : Int), ()), (l, ()), ())) (n := l.length) ?_ ?_ (lt_rounds (by omega))
  · intro i hi
    have b0 : (!decide ((l.length : Int) ≤ (i : Int))) = true := nT (by omega)
    have b1 : (decide ((0 : Int) ≤ (i : Int)) && decide ((i : Int) < (l.length : Int))) = true := dA (by omega) (by omega)
    have hd : ∀ j, List.getD l j (0 : Int) = li l j := fun _ => rfl
    have e1 : f94 ((0 : Int), (n : Int) - 1, [li l i], ()) = some (wi 0 ((n : Int) - 1) (li l i), ()) := f94_one _ _ _
    have c80 : ∀ (b : Bool) (x : Int), f80 (b, x, ()) = some (if b = true then x else 0, ()) := fun b x => f80_eq _
    have c79 : ∀ x y : Int, f79 ([x, y], ()) = some (firstNZ [x, y], ()) := f79_two
    by_cases h0 : i = 0
    · have b2 : (!decide ((i : Int) ≤ 0)) = false := nF (by omega)
      have b3 : decide (0 < i) = false := dF (by omega)
      simp only [s111_0, t111_0, Tr.val_test, Tr.val_fin, Tr.val_stop, leF_eq, eqF_eq, b0, b1, b2, if_true, if_false, Bool.false_eq_true, Int.toNat_natCast, hd, wsub hn, e1, g94, c80, g80, c79, g79, Option.isSome_some, Option.getD_some, wrap64_nat (show i ≤ 9223372036854775806 by omega), iE, b3, Bool.false_and]
    · have b2 : (!decide ((i : Int) ≤ 0)) = true := nT (by omega)
      have b3 : decide (0 < i) = true := dT (by omega)
      have hw : wrap64 ((i : Int) - 1) = ((i - 1 : Nat) : Int) := by rw [wrap64_id (by omega) (by omega)]; omega
      have b4 : (decide ((0 : Int) ≤ ((i - 1 : Nat) : Int)) && decide (((i - 1 : Nat) : Int) < (l.length : Int))) = true := dA (by omega) (by omega)
      simp only [s111_0, t111_0, Tr.val_test, Tr.val_fin, Tr.val_stop, leF_eq, eqF_eq, b0, b1, b2, if_true, if_false, Bool.false_eq_true, Int.toNat_natCast, hd, wsub hn, hw, b4, e1, g94, c80, g80, c79, g79, Option.isSome_some, Option.getD_some, wrap64_nat (show i ≤ 9223372036854775806 by omega), iE, b3, Bool.true_and]
  · simp [s111_0, t111_0, leF_eq]

theorem f144_eq (n : Nat) (l : List Int) (hn : n ≤ 1000) (h : l.length ≤ 1000) : f144 (l, (n : Int), ()) = some (iErr n l, ()) := by
  have hl := l111 n l hn h
  unfold iErr firstE
  cases hf : first (fun k => !decide (iE n l k = 0)) l.length 0 with
  | none =>
    rw [hf] at hl
    simp only [f144, t144, Tr.val_test, Tr.val_fin, hl, isRet, Option.isSome_some, if_true, if_false, Bool.false_eq_true]
  | some k =>
    rw [hf] at hl
    simp only [f144, t144, Tr.val_test, Tr.val_fin, hl, isRet, r111_0, outR, Option.isSome_some, if_true]

theorem iE_cases (n : Nat) (l : List Int) (k : Nat) : iE n l k = if wi 0 ((n : Int) - 1) (li l k) = true then (if (decide (0 < k) && decide (li l k ≤ li l (k - 1))) = true then 9 else 0) else 6 := by
  unfold iE
  rcases Bool.eq_false_or_eq_true (wi 0 ((n : Int) - 1) (li l k)) with h1 | h1 <;> rcases Bool.eq_false_or_eq_true (decide (0 < k) && decide (li l k ≤ li l (k - 1))) with h2 | h2 <;> simp only [h1, h2, firstNZ, Bool.not_true, Bool.not_false, if_true, if_false, Bool.false_eq_true] <;> rfl

theorem l150 (n : Nat) (l : List Int) (hn : n ≤ 1000) (h : l.length ≤ 1000) : l150_0 ((l, (n : Int), (0 : Int), ()), ()) = match first (fun k => !decide (iE n l k = 0)) l.length 0 with
    | some k => some (.inr ((iE n l k, ()), ()))
    | none => some (.inl ((), ())) := by
  refine itr_search (fun i => ((l, (n : Int), (i : Int), ()), ())) (fun k => !decide (iE n l k = 0)) (fun k => ((iE n l k, ()), ())) (n := l.length) ?_ ?_ (lt_rounds (by omega))
  · intro i hi
    have b0 : (!decide ((l.length : Int) ≤ (i : Int))) = true := nT (by omega)
    have b1 : (decide ((0 : Int) ≤ (i : Int)) && decide ((i : Int) < (l.length : Int))) = true := dA (by omega) (by omega)
    have hd : ∀ j, List.getD l j (0 : Int) = li l j := fun _ => rfl
    have e1 : f25 (li l i, (0 : Int), (n : Int) - 1, ()) = some (wi 0 ((n : Int) - 1) (li l i), ()) := f25_eq _
    have z9 : (!decide ((9 : Int) = 0)) = true := rfl
    have z6 : (!decide ((6 : Int) = 0)) = true := rfl
    have z0 : (!decide ((0 : Int) = 0)) = false := rfl
    rw [iE_cases]
    rcases Bool.eq_false_or_eq_true (wi 0 ((n : Int) - 1) (li l i)) with h1 | h1
    · by_cases h0 : i = 0
      · have b2 : (!decide ((i : Int) ≤ 0)) = false := nF (by omega)
        have b3 : decide (0 < i) = false := dF (by omega)
        simp only [s150_0, t150_0, Tr.val_test, Tr.val_fin, Tr.val_stop, leF_eq, eqF_eq, b0, b1, b2, if_true, if_false, Bool.false_eq_true, Int.toNat_natCast, hd, wsub hn, e1, g25, h1, Bool.not_true, Option.isSome_some, Option.getD_some, wrap64_nat (show i ≤ 9223372036854775806 by omega), b3, Bool.false_and, z0, decide_true]
      · have b2 : (!decide ((i : Int) ≤ 0)) = true := nT (by omega)
        have b3 : decide (0 < i) = true := dT (by omega)
        have hw : wrap64 ((i : Int) - 1) = ((i - 1 : Nat) : Int) := by rw [wrap64_id (by omega) (by omega)]; omega
        have b4 : (decide ((0 : Int) ≤ ((i - 1 : Nat) : Int)) && decide (((i - 1 : Nat) : Int) < (l.length : Int))) = true := dA (by omega) (by omega)
        rcases Bool.eq_false_or_eq_true (decide (li l i ≤ li l (i - 1))) with h2 | h2 <;>
        simp only [s150_0, t150_0, Tr.val_test, Tr.val_fin, Tr.val_stop, leF_eq, eqF_eq, b0, b1, b2, if_true, if_false, Bool.false_eq_true, Int.toNat_natCast, hd, wsub hn, hw, b4, e1, g25, h1, h2, Bool.not_true, Option.isSome_some, Option.getD_some, wrap64_nat (show i ≤ 9223372036854775806 by omega), b3, Bool.true_and, z0, z9, decide_true]
    · simp only [s150_0, t150_0, Tr.val_test, Tr.val_fin, Tr.val_stop, leF_eq, eqF_eq, b0, b1, if_true, if_false, Bool.false_eq_true, Int.toNat_natCast, hd, wsub hn, e1, g25, h1, Bool.not_false, Option.isSome_some, Option.getD_some, z6]
  · simp [s150_0, t150_0, leF_eq]

theorem f150_eq (n : Nat) (l : List Int) (hn : n ≤ 1000) (h : l.length ≤ 1000) : f150 (l, (n : Int), ()) = some (iErr n l, ()) := by
  have hl := l150 n l hn h
  unfold iErr firstE
  cases hf : first (fun k => !decide (iE n l k = 0)) l.length 0 with
  | none =>
    rw [hf] at hl
    simp only [f150, t150, Tr.val_test, Tr.val_fin, hl, isRet, Option.isSome_some, if_true, if_false, Bool.false_eq_true]
  | some k =>
    rw [hf] at hl
    simp only [f150, t150, Tr.val_test, Tr.val_fin, hl, isRet, r150_0, outR, Option.isSome_some, if_true]

/-! ### Sets of flags -/

/-- All of the list are flags. -/
def Fl (n : Nat) (l : List Int) : Prop := ∀ i, i < l.length → 0 ≤ li l i ∧ li l i ≤ (n : Int) - 1

theorem fl_of {n : Nat} {l : List Int} (h : iErr n l = 0) : Fl n l := by
  intro i hi
  have := firstE_zero h i hi
  rw [iE_cases] at this
  rcases Bool.eq_false_or_eq_true (wi 0 ((n : Int) - 1) (li l i)) with h1 | h1
  · exact wi_iff.1 h1
  · rw [h1] at this
    cases this

def maskN (l : List Int) : Nat → Nat
  | 0 => 0
  | k + 1 => maskN l k ||| 2 ^ (li l k).toNat
def mask (l : List Int) : Nat := maskN l l.length

theorem maskN_lt {n : Nat} {l : List Int} (hn : n ≤ 8) (h : Fl n l) : ∀ k, k ≤ l.length → maskN l k < 256
  | 0, _ => by unfold maskN; omega
  | k + 1, hk => by
    have ih := maskN_lt hn h k (by omega)
    have := h k (by omega)
    exact Nat.or_lt_two_pow (n := 8) ih (pow8 (by omega))
theorem mask_lt {n : Nat} {l : List Int} (hn : n ≤ 8) (h : Fl n l) : mask l < 256 := maskN_lt hn h _ (Nat.le_refl _)

theorem tb_maskN (l : List Int) (j : Nat) : ∀ k, (maskN l k).testBit j = true ↔ ∃ i, i < k ∧ (li l i).toNat = j
  | 0 => by
    unfold maskN
    rw [Nat.zero_testBit]
    constructor
    · intro h; cases h
    · rintro ⟨i, hi, _⟩; omega
  | k + 1 => by
    have ih := tb_maskN l j k
    unfold maskN
    rw [Nat.testBit_or, Bool.or_eq_true, ih, Nat.testBit_two_pow, decide_eq_true_eq]
    constructor
    · rintro (⟨i, hi, h⟩ | h)
      · exact ⟨i, by omega, h⟩
      · exact ⟨k, by omega, h⟩
    · rintro ⟨i, hi, h⟩
      by_cases hik : i = k
      · subst hik; exact .inr h
      · exact .inl ⟨i, by omega, h⟩
theorem tb_mask (l : List Int) (j : Nat) : (mask l).testBit j = true ↔ ∃ i, i < l.length ∧ (li l i).toNat = j := tb_maskN l j _

theorem toNat_flag {n : Nat} {l : List Int} {i : Nat} (h : Fl n l) (hi : i < l.length) : ((li l i).toNat : Int) = li l i := Int.toNat_of_nonneg (h i hi).1

theorem l145 {n : Nat} {l : List Int} (hn : n ≤ 8) (h : Fl n l) (hl : l.length ≤ 1000) : l145_0 (((0 : Int), l, (l.length : Int), (0 : Int), ()), ()) = some (.inl (((mask l : Int), ()), ())) := by
  refine itr_brk (fun k => (((maskN l k : Int), l, (l.length : Int), (k : Int), ()), ())) (n := l.length) ?_ ?_ (lt_rounds (by omega))
  · intro i hi
    have b0 : (!decide ((l.length : Int) ≤ (i : Int))) = true := nT (by omega)
    have b1 : (decide ((0 : Int) ≤ (i : Int)) && decide ((i : Int) < (l.length : Int))) = true := dA (by omega) (by omega)
    have hd : ∀ j, List.getD l j (0 : Int) = li l j := fun _ => rfl
    have hv := h i hi
    have b2 : decide (li l i < 0) = false := dF (by omega)
    have e1 : shlV .u64 (1 : Int) (li l i) = ((2 ^ (li l i).toNat : Nat) : Int) := by
      have := shlU (i := (li l i).toNat) (by omega)
      rw [toNat_flag h hi] at this
      exact this
    have e2 : orV .u64 (maskN l i : Int) ((2 ^ (li l i).toNat : Nat) : Int) = ((maskN l (i + 1) : Nat) : Int) := orU (maskN_lt hn h i (by omega)) (pow8 (by omega))
    simp only [s145_0, t145_0, Tr.val_test, Tr.val_fin, Tr.val_stop, leF_eq, b0, b1, b2, if_true, if_false, Bool.false_eq_true, Int.toNat_natCast, hd, e1, e2, wrap64_nat (show i ≤ 9223372036854775806 by omega)]
  · simp [s145_0, t145_0, leF_eq, mask]

theorem f145_eq {n : Nat} {l : List Int} (hn : n ≤ 8) (h : Fl n l) (hl : l.length ≤ 1000) : f145 (l, ()) = some ((mask l : Int), ()) := by
  have e := l145 hn h hl
  simp only [f145, t145, Tr.val_test, Tr.val_fin, e, isBrk, b145_0, outB, if_true]

/-! ### Tests -/

abbrev TS := List Int × List Int × Unit

def inL (l : List Int) (x : Int) : Bool := (first (fun i => decide (li l i = x)) l.length 0).isSome
def clash (t : TS) : Bool := (first (fun i => inL t.2.1 (li t.1 i)) t.1.length 0).isSome
def tE (n : Nat) (t : TS) : Int := firstNZ [iErr n t.1, iErr n t.2.1, if clash t = true then 13 else 0]

theorem clash_iff {n : Nat} {t : TS} (h1 : Fl n t.1) (h2 : Fl n t.2.1) : clash t = true ↔ ∃ j, (mask t.1).testBit j = true ∧ (mask t.2.1).testBit j = true := by
  unfold clash
  rw [isSome_first]
  constructor
  · rintro ⟨i, hi, h⟩
    unfold inL at h
    rw [isSome_first] at h
    obtain ⟨k, hk, h⟩ := h
    rw [decide_eq_true_eq] at h
    exact ⟨(li t.1 i).toNat, (tb_mask _ _).2 ⟨i, hi, rfl⟩, (tb_mask _ _).2 ⟨k, hk, by rw [h]⟩⟩
  · rintro ⟨j, ha, hb⟩
    obtain ⟨i, hi, ei⟩ := (tb_mask _ _).1 ha
    obtain ⟨k, hk, ek⟩ := (tb_mask _ _).1 hb
    refine ⟨i, hi, ?_⟩
    unfold inL
    rw [isSome_first]
    refine ⟨k, hk, ?_⟩
    rw [decide_eq_true_eq, ← toNat_flag h2 hk, ← toNat_flag h1 hi, ek, ei]

theorem and_zero {a b : Nat} : a &&& b = 0 ↔ ¬ ∃ j, a.testBit j = true ∧ b.testBit j = true := by
  constructor
  · rintro h ⟨j, h1, h2⟩
    have : (a &&& b).testBit j = true := by rw [Nat.testBit_and, h1, h2]; rfl
    rw [h, Nat.zero_testBit] at this
    cases this
  · intro h
    apply Nat.eq_of_testBit_eq
    intro j
    rw [Nat.testBit_and, Nat.zero_testBit]
    cases h1 : a.testBit j with
    | false => rfl
    | true =>
      cases h2 : b.testBit j with
      | false => rfl
      | true => exact absurd ⟨j, h1, h2⟩ h

theorem f86_eq (n : Nat) (t : TS) (hn : n ≤ 8) (h1 : t.1.length ≤ 1000) (h2 : t.2.1.length ≤ 1000) : f86 ((t.1, t.2.1, ()), (n : Int), ()) = some (tE n t, ()) := by
  have e1 := f144_eq n t.1 (by omega) h1
  have e2 := f144_eq n t.2.1 (by omega) h2
  have c80 : ∀ (b : Bool) (x : Int), f80 (b, x, ()) = some (if b = true then x else 0, ()) := fun b x => f80_eq _
  have c79 : ∀ x y : Int, f79 ([x, y], ()) = some (firstNZ [x, y], ()) := f79_two
  unfold tE
  by_cases k1 : iErr n t.1 = 0
  · by_cases k2 : iErr n t.2.1 = 0
    · have v1 := fl_of k1
      have v2 := fl_of k2
      have e3 := f145_eq hn v1 h1
      have e4 := f145_eq hn v2 h2
      have e5 : andV .u64 (mask t.1 : Int) (mask t.2.1 : Int) = ((mask t.1 &&& mask t.2.1 : Nat) : Int) := andU (mask_lt hn v1) (mask_lt hn v2)
      have e6 : (!((mask t.1 &&& mask t.2.1 : Nat) : Int) == 0) = clash t := by
        rw [Bool.eq_iff_iff, clash_iff v1 v2]
        constructor
        · intro h
          simp only [Bool.not_eq_true', beq_eq_false_iff_ne] at h
          have h : ¬ (mask t.1 &&& mask t.2.1 = 0) := fun h' => h (by rw [h']; rfl)
          rw [and_zero] at h
          exact Classical.byContradiction h
        · intro h
          have h : ¬ (mask t.1 &&& mask t.2.1 = 0) := fun h' => and_zero.1 h' h
          simp only [Bool.not_eq_true', beq_eq_false_iff_ne]
          omega
      have e7 : firstNZ [iErr n t.1, iErr n t.2.1] = 0 := by rw [k1, k2]; rfl
      have e8 : firstNZ [iErr n t.1, iErr n t.2.1, if clash t = true then (13 : Int) else 0] = if clash t = true then 13 else 0 := by
        rw [k1, k2]
        cases clash t <;> rfl
      have z0 : (!decide ((0 : Int) = 0)) = false := rfl
      rw [e8]
      simp only [f86, t86, Tr.val_test, Tr.val_fin, e1, g144, e2, c79, g79, e7, eqF_eq, z0, e3, g145, e4, e5, e6, c80, g80, Option.isSome_some, Option.getD_some, if_true, if_false, Bool.false_eq_true, decide_true, Bool.not_true]
    · have e7 : firstNZ [iErr n t.1, iErr n t.2.1] = iErr n t.2.1 := by rw [k1]; simp only [firstNZ, if_true, if_neg k2]
      have e8 : firstNZ [iErr n t.1, iErr n t.2.1, if clash t = true then (13 : Int) else 0] = iErr n t.2.1 := by rw [k1]; simp only [firstNZ, if_true, if_neg k2]
      have b0 : (!decide (iErr n t.2.1 = 0)) = true := nT k2
      rw [e8]
      simp only [f86, t86, Tr.val_test, Tr.val_fin, e1, g144, e2, c79, g79, e7, eqF_eq, b0, Option.isSome_some, Option.getD_some, if_true]
  · have e7 : firstNZ [iErr n t.1, iErr n t.2.1] = iErr n t.1 := by simp only [firstNZ, if_neg k1]
    have e8 : firstNZ [iErr n t.1, iErr n t.2.1, if clash t = true then (13 : Int) else 0] = iErr n t.1 := by simp only [firstNZ, if_neg k1]
    have b0 : (!decide (iErr n t.1 = 0)) = true := nT k1
    rw [e8]
    simp only [f86, t86, Tr.val_test, Tr.val_fin, e1, g144, e2, c79, g79, e7, eqF_eq, b0, Option.isSome_some, Option.getD_some, if_true]

theorem f51_eq (l : List Int) (x : Int) (h : l.length ≤ 1000) : f51 (l, x, ()) = some (inL l x, ()) := by
  have hl : l51_0 ((l, x, (0 : Int), ()), ()) = match first (fun i => decide (li l i = x)) l.length 0 with
      | some _ => some (.inr ((true, ()), ()))
      | none => some (.inl ((), ())) := by
    refine itr_search (fun i => ((l, x, (i : Int), ()), ())) (fun i => decide (li l i = x)) (fun _ => ((true, ()), ())) (n := l.length) ?_ ?_ (lt_rounds (by omega))
    · intro i hi
      have b0 : (!decide ((l.length : Int) ≤ (i : Int))) = true := nT (by omega)
      have b1 : (decide ((0 : Int) ≤ (i : Int)) && decide ((i : Int) < (l.length : Int))) = true := dA (by omega) (by omega)
      have hd : ∀ j, List.getD l j (0 : Int) = li l j := fun _ => rfl
      simp only [s51_0, t51_0, Tr.val_test, Tr.val_fin, Tr.val_stop, leF_eq, eqF_eq, b0, b1, if_true, Int.toNat_natCast, hd, wrap64_nat (show i ≤ 9223372036854775806 by omega)]
    · simp [s51_0, t51_0, leF_eq]
  unfold inL
  cases hf : first (fun i => decide (li l i = x)) l.length 0 with
  | none =>
    rw [hf] at hl
    simp only [f51, t51, Tr.val_test, Tr.val_fin, hl, isRet, Option.isSome_some, Option.isSome_none, if_true, if_false, Bool.false_eq_true]
  | some k =>
    rw [hf] at hl
    simp only [f51, t51, Tr.val_test, Tr.val_fin, hl, isRet, r51_0, outR, Option.isSome_some, if_true]

theorem l97 (t : TS) (h1 : t.1.length ≤ 1000) (h2 : t.2.1.length ≤ 1000) : l97_0 (((0 : Int), ()), (t.1, t.2.1, ()), ()) = match first (fun i => inL t.2.1 (li t.1 i)) t.1.length 0 with
    | some _ => some (.inr (((13 : Int), ()), (t.1, t.2.1, ()), ()))
    | none => some (.inl ((), (t.1, t.2.1, ()), ())) := by
  refine itr_search (fun i => (((i : Int), ()), (t.1, t.2.1, ()), ())) (fun i => inL t.2.1 (li t.1 i)) (fun _ => (((13 : Int), ()), (t.1, t.2.1, ()), ())) (n := t.1.length) ?_ ?_ (lt_rounds (by omega))
  · intro i hi
    have b0 : (!decide ((t.1.length : Int) ≤ (i : Int))) = true := nT (by omega)
    have b1 : (decide ((0 : Int) ≤ (i : Int)) && decide ((i : Int) < (t.1.length : Int))) = true := dA (by omega) (by omega)
    have hd : ∀ j, List.getD t.1 j (0 : Int) = li t.1 j := fun _ => rfl
    have e1 := f51_eq t.2.1 (li t.1 i) h2
    simp only [s97_0, t97_0, Tr.val_test, Tr.val_fin, Tr.val_stop, leF_eq, b0, b1, if_true, Int.toNat_natCast, hd, e1, g51, Option.isSome_some, Option.getD_some, wrap64_nat (show i ≤ 9223372036854775806 by omega)]
  · simp [s97_0, t97_0, leF_eq]

theorem f97_eq (n : Nat) (t : TS) (hn : n ≤ 8) (h1 : t.1.length ≤ 1000) (h2 : t.2.1.length ≤ 1000) : f97 ((t.1, t.2.1, ()), (n : Int), ()) = some (tE n t, ()) := by
  have e1 := f150_eq n t.1 (by omega) h1
  have e2 := f150_eq n t.2.1 (by omega) h2
  have hl := l97 t h1 h2
  unfold tE
  by_cases k1 : iErr n t.1 = 0
  · have b0 : (!decide (iErr n t.1 = 0)) = false := nF k1
    by_cases k2 : iErr n t.2.1 = 0
    · have b1 : (!decide (iErr n t.2.1 = 0)) = false := nF k2
      have e8 : firstNZ [iErr n t.1, iErr n t.2.1, if clash t = true then (13 : Int) else 0] = if clash t = true then 13 else 0 := by
        rw [k1, k2]
        cases clash t <;> rfl
      rw [e8]
      unfold clash
      cases hf : first (fun i => inL t.2.1 (li t.1 i)) t.1.length 0 with
      | none =>
        rw [hf] at hl
        simp only [f97, t97, Tr.val_test, Tr.val_fin, e1, g150, e2, eqF_eq, b0, b1, hl, isRet, Option.isSome_some, Option.isSome_none, Option.getD_some, if_true, if_false, Bool.false_eq_true]
      | some k =>
        rw [hf] at hl
        simp only [f97, t97, Tr.val_test, Tr.val_fin, e1, g150, e2, eqF_eq, b0, b1, hl, isRet, r97_0, outR, Option.isSome_some, Option.getD_some, if_true, if_false, Bool.false_eq_true]
    · have e8 : firstNZ [iErr n t.1, iErr n t.2.1, if clash t = true then (13 : Int) else 0] = iErr n t.2.1 := by rw [k1]; simp only [firstNZ, if_true, if_neg k2]
      have b1 : (!decide (iErr n t.2.1 = 0)) = true := nT k2
      rw [e8]
      simp only [f97, t97, Tr.val_test, Tr.val_fin, e1, g150, e2, eqF_eq, b0, b1, Option.isSome_some, Option.getD_some, if_true, if_false, Bool.false_eq_true]
  · have e8 : firstNZ [iErr n t.1, iErr n t.2.1, if clash t = true then (13 : Int) else 0] = iErr n t.1 := by simp only [firstNZ, if_neg k1]
    have b0 : (!decide (iErr n t.1 = 0)) = true := nT k1
    rw [e8]
    simp only [f97, t97, Tr.val_test, Tr.val_fin, e1, g150, eqF_eq, b0, Option.isSome_some, Option.getD_some, if_true]

end Go.Vm.Mo

namespace Go.Vm.Mo
open Go
set_option linter.unusedVariables false
set_option linter.unusedSimpArgs false

abbrev AC := ByteArray × TS × TS × Unit
def acA (l : List AC) (i : Nat) : AC := l.getD i (({ data := { toList := [] } } : ByteArray), (([] : List Int), ([] : List Int), ()), (([] : List Int), ([] : List Int), ()), ())
def ts (l : List TS) (i : Nat) : TS := l.getD i (([] : List Int), ([] : List Int), ())
def acN (l : List AC) : List ByteArray := l.map fun a => a.1

theorem bs_acN (l : List AC) (i : Nat) : bs (acN l) i = (acA l i).1 := by
  unfold bs acN acA
  rw [List.getD_eq_getElem?_getD, List.getD_eq_getElem?_getD, List.getElem?_map]
  cases l[i]? with
  | none => rfl
  | some b => rfl
theorem acN_len (l : List AC) : (acN l).length = l.length := List.length_map _

structure SzT (t : TS) : Prop where
  on : t.1.length ≤ 1000
  off : t.2.1.length ≤ 1000
structure Sz (la : List AC) (lt : List TS) : Prop where
  needs : ∀ i, i < la.length → SzT (acA la i).2.1
  does : ∀ i, i < la.length → SzT (acA la i).2.2.1
  harms : ∀ i, i < lt.length → SzT (ts lt i)

def fE (fl : List ByteArray) (i : Nat) : Int := nE fl i 5
def aE (n : Nat) (la : List AC) (i : Nat) : Int := firstNZ [nE (acN la) i 5, tE n (acA la i).2.1, tE n (acA la i).2.2.1]
def hE (n : Nat) (lt : List TS) (i : Nat) : Int := tE n (ts lt i)

def large (fl : List ByteArray) (la : List AC) (lt : List TS) : Bool := !decide (fl.length ≤ 8) || (!decide (la.length ≤ 10) || !decide (lt.length ≤ 4))

/-- The place and the refusal of a machine. -/
def ckM (fl : List ByteArray) (la : List AC) (lt : List TS) : Int × Int :=
  if fl.length = 0 then (0, 10)
  else if large fl la lt = true then (0, 8)
  else match first (fun i => !decide (fE fl i = 0)) fl.length 0 with
    | some k => ((k : Int), fE fl k)
    | none => match first (fun i => !decide (aE fl.length la i = 0)) la.length 0 with
      | some k => ((k : Int), aE fl.length la k)
      | none => match first (fun i => !decide (hE fl.length lt i = 0)) lt.length 0 with
        | some k => ((k : Int), hE fl.length lt k)
        | none => (0, 0)

theorem l81 (fl : List ByteArray) (la : List AC) (lt : List TS) (h : fl.length ≤ 1000) : l81_0 ((fl, (fl.length : Int), (0 : Int), ()), (fl, la, lt, ()), ()) = match first (fun i => !decide (fE fl i = 0)) fl.length 0 with
    | some k => some (.inr (((k : Int), fE fl k, ()), (fl, la, lt, ()), ()))
    | none => some (.inl ((), (fl, la, lt, ()), ())) := by
  refine itr_search (fun i => ((fl, (fl.length : Int), (i : Int), ()), (fl, la, lt, ()), ())) (fun i => !decide (fE fl i = 0)) (fun k => (((k : Int), fE fl k, ()), (fl, la, lt, ()), ())) (n := fl.length) ?_ ?_ (lt_rounds (by omega))
  · intro i hi
    have b0 : (!decide ((fl.length : Int) ≤ (i : Int))) = true := nT (by omega)
    have b1 : (decide ((0 : Int) ≤ (i : Int)) && decide ((i : Int) < (fl.length : Int))) = true := dA (by omega) (by omega)
    have e1 : f83 (fl, (i : Int), (5 : Int), ()) = some (fE fl i, ()) := f83_eq fl i 5 hi (by omega)
    simp only [s81_0, t81_0, Tr.val_test, Tr.val_fin, Tr.val_stop, leF_eq, eqF_eq, b0, b1, if_true, e1, g83, Option.isSome_some, Option.getD_some, wrap64_nat (show i ≤ 9223372036854775806 by omega)]
  · simp [s81_0, t81_0, leF_eq]

theorem l16 (fl : List ByteArray) (la : List AC) (lt : List TS) (n : Int) (h : la.length ≤ 1000) : l16_0 ((la, (la.length : Int), (0 : Int), ()), (fl, la, lt, ()), (n, ()), (([] : List ByteArray), ()), ()) = some (.inl ((), (fl, la, lt, ()), (n, ()), (acN la, ()), ())) := by
  have e0 : l16_0 ((la, (la.length : Int), (0 : Int), ()), (fl, la, lt, ()), (n, ()), (([] : List ByteArray), ()), ()) = some (.inl ((), (fl, la, lt, ()), (n, ()), (acN (la.take la.length), ()), ())) := by
    refine itr_brk (fun i => ((la, (la.length : Int), (i : Int), ()), (fl, la, lt, ()), (n, ()), (acN (la.take i), ()), ())) (n := la.length) ?_ ?_ (lt_rounds (by omega))
    · intro i hi
      have b0 : (!decide ((la.length : Int) ≤ (i : Int))) = true := nT (by omega)
      have b1 : (decide ((0 : Int) ≤ (i : Int)) && decide ((i : Int) < (la.length : Int))) = true := dA (by omega) (by omega)
      have hln : (acN (la.take i)).length = i := by rw [acN_len, List.length_take]; omega
      have b2 : (Nat.ble ((2 * (i + 1) + 192) * 16) 281474976710656 && Nat.ble (i + 1) 281474976710656) = true := by
        rw [Nat.ble_eq_true_of_le (by omega), Nat.ble_eq_true_of_le (by omega)]; rfl
      have hd : List.getD la i (({ data := { toList := [] } } : ByteArray), (([] : List Int), ([] : List Int), ()), (([] : List Int), ([] : List Int), ()), ()) = acA la i := rfl
      have ht : acN (la.take i) ++ [(acA la i).1] = acN (la.take (i + 1)) := by
        unfold acN acA
        rw [List.getD_eq_getElem?_getD, List.getElem?_eq_getElem hi, List.take_succ_eq_append_getElem hi, List.map_append]
        rfl
      simp only [s16_0, t16_0, Tr.val_test, Tr.val_fin, Tr.val_stop, leF_eq, b0, b1, hln, b2, if_true, Int.toNat_natCast, hd, ht, wrap64_nat (show i ≤ 9223372036854775806 by omega)]
    · simp [s16_0, t16_0, leF_eq]
  rw [e0, List.take_length]

theorem l84 (n : Nat) (la : List AC) (hn : n ≤ 8) (h : la.length ≤ 1000) (H1 : ∀ i, i < la.length → SzT (acA la i).2.1) (H2 : ∀ i, i < la.length → SzT (acA la i).2.2.1) : l84_0 ((la, (la.length : Int), (0 : Int), ()), (acN la, ()), ((n : Int), ()), ()) = match first (fun i => !decide (aE n la i = 0)) la.length 0 with
    | some k => some (.inr (((k : Int), aE n la k, ()), (acN la, ()), ((n : Int), ()), ()))
    | none => some (.inl ((), (acN la, ()), ((n : Int), ()), ())) := by
  refine itr_search (fun i => ((la, (la.length : Int), (i : Int), ()), (acN la, ()), ((n : Int), ()), ())) (fun i => !decide (aE n la i = 0)) (fun k => (((k : Int), aE n la k, ()), (acN la, ()), ((n : Int), ()), ())) (n := la.length) ?_ ?_ (lt_rounds (by omega))
  · intro i hi
    have b0 : (!decide ((la.length : Int) ≤ (i : Int))) = true := nT (by omega)
    have b1 : (decide ((0 : Int) ≤ (i : Int)) && decide ((i : Int) < (la.length : Int))) = true := dA (by omega) (by omega)
    have hd : List.getD la i (({ data := { toList := [] } } : ByteArray), (([] : List Int), ([] : List Int), ()), (([] : List Int), ([] : List Int), ()), ()) = acA la i := rfl
    have e1 : f83 (acN la, (i : Int), (5 : Int), ()) = some (nE (acN la) i 5, ()) := f83_eq _ i 5 (by rw [acN_len]; omega) (by rw [acN_len]; omega)
    have e2 := f86_eq n (acA la i).2.1 hn (H1 i hi).on (H1 i hi).off
    have e3 := f86_eq n (acA la i).2.2.1 hn (H2 i hi).on (H2 i hi).off
    have e4 : f79 ([nE (acN la) i 5, tE n (acA la i).2.1, tE n (acA la i).2.2.1], ()) = some (aE n la i, ()) := f79_three _ _ _
    simp only [s84_0, t84_0, Tr.val_test, Tr.val_fin, Tr.val_stop, leF_eq, eqF_eq, b0, b1, if_true, Int.toNat_natCast, hd, e1, g83, e2, g86, e3, e4, g79, Option.isSome_some, Option.getD_some, wrap64_nat (show i ≤ 9223372036854775806 by omega)]
  · simp [s84_0, t84_0, leF_eq]

theorem l87 (n : Nat) (lt : List TS) (hn : n ≤ 8) (h : lt.length ≤ 1000) (H : ∀ i, i < lt.length → SzT (ts lt i)) : l87_0 ((lt, (lt.length : Int), (0 : Int), ()), ((n : Int), ()), ()) = match first (fun i => !decide (hE n lt i = 0)) lt.length 0 with
    | some k => some (.inr (((k : Int), hE n lt k, ()), ((n : Int), ()), ()))
    | none => some (.inl ((), ((n : Int), ()), ())) := by
  refine itr_search (fun i => ((lt, (lt.length : Int), (i : Int), ()), ((n : Int), ()), ())) (fun i => !decide (hE n lt i = 0)) (fun k => (((k : Int), hE n lt k, ()), ((n : Int), ()), ())) (n := lt.length) ?_ ?_ (lt_rounds (by omega))
  · intro i hi
    have b0 : (!decide ((lt.length : Int) ≤ (i : Int))) = true := nT (by omega)
    have b1 : (decide ((0 : Int) ≤ (i : Int)) && decide ((i : Int) < (lt.length : Int))) = true := dA (by omega) (by omega)
    have hd : List.getD lt i (([] : List Int), ([] : List Int), ()) = ts lt i := rfl
    have e2 : f86 (((ts lt i).1, (ts lt i).2.1, ()), (n : Int), ()) = some (hE n lt i, ()) := f86_eq n (ts lt i) hn (H i hi).on (H i hi).off
    simp only [s87_0, t87_0, Tr.val_test, Tr.val_fin, Tr.val_stop, leF_eq, eqF_eq, b0, b1, if_true, Int.toNat_natCast, hd, e2, g86, Option.isSome_some, Option.getD_some, wrap64_nat (show i ≤ 9223372036854775806 by omega)]
  · simp [s87_0, t87_0, leF_eq]

theorem natDn {a : Nat} (b : Nat) : (!decide ((a : Int) ≤ (b : Int))) = !decide (a ≤ b) := by rw [decide_eq_decide.2 (Int.ofNat_le (m := a) (n := b))]

theorem f16_eq (fl : List ByteArray) (la : List AC) (lt : List TS) (h1 : fl.length ≤ 1000) (h2 : la.length ≤ 1000) (h3 : lt.length ≤ 1000) (S : Sz la lt) : f16 ((fl, la, lt, ()), ()) = some ((ckM fl la lt).1, (ckM fl la lt).2, ()) := by
  show (t16 fl la lt).val = _
  unfold t16 ckM
  have c80 : ∀ (b : Bool) (x : Int), f80 (b, x, ()) = some (if b = true then x else 0, ()) := fun b x => f80_eq _
  have c79 : ∀ x y : Int, f79 ([x, y], ()) = some (firstNZ [x, y], ()) := f79_two
  have m1 : (!decide ((fl.length : Int) ≤ 8)) = !decide (fl.length ≤ 8) := natDn 8
  have m2 : (!decide ((la.length : Int) ≤ 10)) = !decide (la.length ≤ 10) := natDn 10
  have m3 : (!decide ((lt.length : Int) ≤ 4)) = !decide (lt.length ≤ 4) := natDn 4
  have z10 : (!decide ((10 : Int) = 0)) = true := rfl
  have z8 : (!decide ((8 : Int) = 0)) = true := rfl
  have z0 : (!decide ((0 : Int) = 0)) = false := rfl
  have n1 : firstNZ [10, 8] = 10 := rfl
  have n2 : firstNZ [10, 0] = 10 := rfl
  have n3 : firstNZ [0, 8] = 8 := rfl
  have n4 : firstNZ [0, 0] = 0 := rfl
  by_cases h0 : fl.length = 0
  · have b0 : decide ((fl.length : Int) = 0) = true := dT (by omega)
    rw [if_pos h0]
    rcases Bool.eq_false_or_eq_true (!decide (fl.length ≤ 8)) with k1 | k1 <;> rcases Bool.eq_false_or_eq_true (!decide (la.length ≤ 10)) with k2 | k2 <;> rcases Bool.eq_false_or_eq_true (!decide (lt.length ≤ 4)) with k3 | k3 <;>
      simp only [Tr.val_test, Tr.val_fin, eqF_eq, leF_eq, m1, m2, m3, b0, k1, k2, k3, c80, g80, c79, g79, n1, n2, z10, Option.isSome_some, Option.getD_some, if_true, if_false, Bool.false_eq_true]
  · have b0 : decide ((fl.length : Int) = 0) = false := dF (by omega)
    rw [if_neg h0]
    rcases (Bool.eq_false_or_eq_true (large fl la lt)).symm with kl | kl
    · have k : (!decide (fl.length ≤ 8)) = false ∧ (!decide (la.length ≤ 10)) = false ∧ (!decide (lt.length ≤ 4)) = false := by
        unfold large at kl
        rw [Bool.or_eq_false_iff, Bool.or_eq_false_iff] at kl
        exact kl
      obtain ⟨k1, k2, k3⟩ := k
      have hn : fl.length ≤ 8 := by simpa using k1
      have e1 := l81 fl la lt h1
      have e2 := l16 fl la lt fl.length h2
      have e3 := l84 fl.length la hn h2 S.needs S.does
      have e4 := l87 fl.length lt hn h3 S.harms
      rw [kl, if_neg Bool.false_ne_true]
      cases hf : first (fun i => !decide (fE fl i = 0)) fl.length 0 with
      | some k =>
        rw [hf] at e1
        have hk := (first_some hf).2.2.1
        simp only [Tr.val_test, Tr.val_fin, eqF_eq, leF_eq, m1, m2, m3, b0, k1, k2, k3, c80, g80, c79, g79, n4, z0, e1, isRet, r81_0, outR, hk, Option.isSome_some, Option.getD_some, if_true, if_false, Bool.false_eq_true, decide_true, Bool.not_true]
      | none =>
        rw [hf] at e1
        cases hf2 : first (fun i => !decide (aE fl.length la i = 0)) la.length 0 with
        | some k =>
          rw [hf2] at e3
          have hk := (first_some hf2).2.2.1
          simp only [Tr.val_test, Tr.val_fin, eqF_eq, leF_eq, m1, m2, m3, b0, k1, k2, k3, c80, g80, c79, g79, n4, z0, e1, isRet, isBrk, b81_0, outB, e2, b16_0, e3, r84_0, outR, hk, Option.isSome_some, Option.getD_some, if_true, if_false, Bool.false_eq_true, decide_true, Bool.not_true]
        | none =>
          rw [hf2] at e3
          cases hf3 : first (fun i => !decide (hE fl.length lt i = 0)) lt.length 0 with
          | some k =>
            rw [hf3] at e4
            simp only [Tr.val_test, Tr.val_fin, eqF_eq, leF_eq, m1, m2, m3, b0, k1, k2, k3, c80, g80, c79, g79, n4, z0, e1, isRet, isBrk, b81_0, outB, e2, b16_0, e3, b84_0, e4, r87_0, outR, Option.isSome_some, Option.getD_some, if_true, if_false, Bool.false_eq_true, decide_true, Bool.not_true]
          | none =>
            rw [hf3] at e4
            simp only [Tr.val_test, Tr.val_fin, eqF_eq, leF_eq, m1, m2, m3, b0, k1, k2, k3, c80, g80, c79, g79, n4, z0, e1, isRet, isBrk, b81_0, outB, e2, b16_0, e3, b84_0, e4, Option.isSome_some, Option.getD_some, if_true, if_false, Bool.false_eq_true, decide_true, Bool.not_true]
    · rw [if_pos kl]
      unfold large at kl
      rcases Bool.eq_false_or_eq_true (!decide (fl.length ≤ 8)) with k1 | k1 <;> rcases Bool.eq_false_or_eq_true (!decide (la.length ≤ 10)) with k2 | k2 <;> rcases Bool.eq_false_or_eq_true (!decide (lt.length ≤ 4)) with k3 | k3 <;>
        first
          | (rw [k1, k2, k3] at kl; cases kl; done)
          | simp only [Tr.val_test, Tr.val_fin, eqF_eq, leF_eq, m1, m2, m3, b0, k1, k2, k3, c80, g80, c79, g79, n3, z8, Option.isSome_some, Option.getD_some, if_true, if_false, Bool.false_eq_true]

/-! ### The reference's machines -/

theorem q21a (fl : List ByteArray) (la : List AC) (lt : List TS) (h : fl.length ≤ 1000) : l21_0 (((0 : Int), ()), (fl, la, lt, ()), ()) = match first (fun i => !decide (fE fl i = 0)) fl.length 0 with
    | some k => some (.inr (((k : Int), fE fl k, ()), (fl, la, lt, ()), ()))
    | none => some (.inl ((), (fl, la, lt, ()), ())) := by
  refine itr_search (fun i => (((i : Int), ()), (fl, la, lt, ()), ())) (fun i => !decide (fE fl i = 0)) (fun k => (((k : Int), fE fl k, ()), (fl, la, lt, ()), ())) (n := fl.length) ?_ ?_ (lt_rounds (by omega))
  · intro i hi
    have b0 : (!decide ((fl.length : Int) ≤ (i : Int))) = true := nT (by omega)
    have b1 : (decide ((0 : Int) ≤ (i : Int)) && decide ((i : Int) < (fl.length : Int))) = true := dA (by omega) (by omega)
    have b3 : (decide ((0 : Int) ≤ (i : Int)) && decide ((i : Int) ≤ (fl.length : Int))) = true := dA (by omega) (by omega)
    have hd2 : List.getD fl i ({ data := { toList := [] } } : ByteArray) = bs fl i := rfl
    have e1 : f95 (bs fl i, ()) = some (nm (bs fl i), ()) := f95_eq _
    have e2 : f96 (fl.take i, bs fl i, ()) = some (hasT (fl.take i) (bs fl i), ()) := f96_eq _ _ (by have := take_len fl i; omega)
    unfold fE
    rw [nE_cases _ _ 5 (by decide)]
    simp only [s21_0, t21_0, Tr.val_test, Tr.val_fin, Tr.val_stop, leF_eq, b0, b1, b3, if_true, Int.toNat_natCast, hd2, e1, g95, e2, g96, Option.isSome_some, Option.getD_some, wrap64_nat (show i ≤ 9223372036854775806 by omega)]
    cases h1 : nm (bs fl i) <;> cases h2 : hasT (fl.take i) (bs fl i) <;> simp
  · simp [s21_0, t21_0, leF_eq]

theorem q21d (fl : List ByteArray) (la : List AC) (lt : List TS) (i : Nat) (hi : i < la.length) (h : la.length ≤ 1000) :
    l21_4 (((i : Int), (0 : Int), ()), (fl, la, lt, ()), ((acA la i).1, (acA la i).2.1.1, (acA la i).2.1.2.1, (acA la i).2.2.1.1, (acA la i).2.2.1.2.1, ()), ()) = if hasT ((acN la).take i) (bs (acN la) i) = true then some (.inr (((i : Int), (5 : Int), ()), (fl, la, lt, ()), ((acA la i).1, (acA la i).2.1.1, (acA la i).2.1.2.1, (acA la i).2.2.1.1, (acA la i).2.2.1.2.1, ()), ())) else some (.inl (((i : Int), ()), (fl, la, lt, ()), ((acA la i).1, (acA la i).2.1.1, (acA la i).2.1.2.1, (acA la i).2.2.1.1, (acA la i).2.2.1.2.1, ()), ())) := by
  have hs := itr_search (step := s21_4) (fun k => (((i : Int), (k : Int), ()), (fl, la, lt, ()), ((acA la i).1, (acA la i).2.1.1, (acA la i).2.1.2.1, (acA la i).2.2.1.1, (acA la i).2.2.1.2.1, ()), ())) (fun k => strEq (bs ((acN la).take i) k) (bs (acN la) i)) (fun _ => (((i : Int), (5 : Int), ()), (fl, la, lt, ()), ((acA la i).1, (acA la i).2.1.1, (acA la i).2.1.2.1, (acA la i).2.2.1.1, (acA la i).2.2.1.2.1, ()), ())) (n := i) (m := rounds) (b := (((i : Int), ()), (fl, la, lt, ()), ((acA la i).1, (acA la i).2.1.1, (acA la i).2.1.2.1, (acA la i).2.2.1.1, (acA la i).2.2.1.2.1, ()), ())) ?_ ?_ (lt_rounds (by omega))
  · have hl : ((acN la).take i).length = i := by rw [List.length_take, acN_len]; omega
    rw [← hasT_first, hl]
    have e0 : l21_4 (((i : Int), (0 : Int), ()), (fl, la, lt, ()), ((acA la i).1, (acA la i).2.1.1, (acA la i).2.1.2.1, (acA la i).2.2.1.1, (acA la i).2.2.1.2.1, ()), ()) = itr s21_4 rounds (((i : Int), ((0 : Nat) : Int), ()), (fl, la, lt, ()), ((acA la i).1, (acA la i).2.1.1, (acA la i).2.1.2.1, (acA la i).2.2.1.1, (acA la i).2.2.1.2.1, ()), ()) := rfl
    rw [e0, hs]
    cases first (fun k => strEq (bs ((acN la).take i) k) (bs (acN la) i)) i 0 with
    | none => rfl
    | some k => rfl
  · intro k hk
    have b0 : (!decide ((i : Int) ≤ (k : Int))) = true := nT (by omega)
    have b1 : (decide ((0 : Int) ≤ (k : Int)) && decide ((k : Int) < (la.length : Int))) = true := dA (by omega) (by omega)
    have hd : List.getD la k (({ data := { toList := [] } } : ByteArray), (([] : List Int), ([] : List Int), ()), (([] : List Int), ([] : List Int), ()), ()) = acA la k := rfl
    have ht : bs ((acN la).take i) k = (acA la k).1 := by
      rw [← bs_acN]
      unfold bs
      rw [List.getD_eq_getElem?_getD, List.getD_eq_getElem?_getD, List.getElem?_take, if_pos hk]
    rw [ht, bs_acN]
    simp only [s21_4, t21_4, Tr.val_test, Tr.val_fin, Tr.val_stop, leF_eq, b0, b1, if_true, Int.toNat_natCast, hd, wrap64_nat (show k ≤ 9223372036854775806 by omega)]
  · simp [s21_4, t21_4, leF_eq]

theorem aE_cases (n : Nat) (la : List AC) (i : Nat) : aE n la i = if nm (bs (acN la) i) = true then (if hasT ((acN la).take i) (bs (acN la) i) = true then 5 else (if tE n (acA la i).2.1 = 0 then tE n (acA la i).2.2.1 else tE n (acA la i).2.1)) else 4 := by
  unfold aE
  rw [nE_cases _ _ 5 (by decide)]
  cases h1 : nm (bs (acN la) i)
  · simp [firstNZ]
  · cases h2 : hasT ((acN la).take i) (bs (acN la) i)
    · by_cases h3 : tE n (acA la i).2.1 = 0 <;> by_cases h4 : tE n (acA la i).2.2.1 = 0 <;> simp [firstNZ, h3, h4]
    · simp [firstNZ]

theorem q21b (fl : List ByteArray) (la : List AC) (lt : List TS) (hn : fl.length ≤ 8) (h : la.length ≤ 1000) (H1 : ∀ i, i < la.length → SzT (acA la i).2.1) (H2 : ∀ i, i < la.length → SzT (acA la i).2.2.1) : l21_2 (((0 : Int), ()), (fl, la, lt, ()), ()) = match first (fun i => !decide (aE fl.length la i = 0)) la.length 0 with
    | some k => some (.inr (((k : Int), aE fl.length la k, ()), (fl, la, lt, ()), ()))
    | none => some (.inl ((), (fl, la, lt, ()), ())) := by
  refine itr_search (fun i => (((i : Int), ()), (fl, la, lt, ()), ())) (fun i => !decide (aE fl.length la i = 0)) (fun k => (((k : Int), aE fl.length la k, ()), (fl, la, lt, ()), ())) (n := la.length) ?_ ?_ (lt_rounds (by omega))
  · intro i hi
    have b0 : (!decide ((la.length : Int) ≤ (i : Int))) = true := nT (by omega)
    have b1 : (decide ((0 : Int) ≤ (i : Int)) && decide ((i : Int) < (la.length : Int))) = true := dA (by omega) (by omega)
    have hd : List.getD la i (({ data := { toList := [] } } : ByteArray), (([] : List Int), ([] : List Int), ()), (([] : List Int), ([] : List Int), ()), ()) = acA la i := rfl
    have e1 : f95 ((acA la i).1, ()) = some (nm (bs (acN la) i), ()) := by rw [bs_acN]; exact f95_eq _
    have e2 := q21d fl la lt i hi h
    have e3 := f97_eq fl.length (acA la i).2.1 hn (H1 i hi).on (H1 i hi).off
    have e4 := f97_eq fl.length (acA la i).2.2.1 hn (H2 i hi).on (H2 i hi).off
    rw [aE_cases]
    simp only [s21_2, t21_2, Tr.val_test, Tr.val_fin, Tr.val_stop, leF_eq, eqF_eq, b0, b1, if_true, Int.toNat_natCast, hd, e1, g95, Option.isSome_some, Option.getD_some]
    rcases Bool.eq_false_or_eq_true (nm (bs (acN la) i)) with h1 | h1
    · rcases Bool.eq_false_or_eq_true (hasT ((acN la).take i) (bs (acN la) i)) with h2 | h2
      · rw [h2] at e2
        simp only [if_true] at e2
        simp only [h1, h2, e2, isRet, r21_4, outR, Option.isSome_some, if_true, if_false, Bool.false_eq_true, Bool.not_true]
        simp
      · rw [h2] at e2
        simp only [Bool.false_eq_true, if_false] at e2
        simp only [h1, h2, e2, isRet, b21_4, outB, e3, g97, e4, Option.isSome_some, Option.getD_some, if_true, if_false, Bool.false_eq_true, Bool.not_true, wrap64_nat (show i ≤ 9223372036854775806 by omega)]
        by_cases h3 : tE fl.length (acA la i).2.1 = 0
        · by_cases h4 : tE fl.length (acA la i).2.2.1 = 0 <;> simp [h3, h4]
        · simp [h3]
    · simp only [h1, Bool.not_false, if_true, if_false, Bool.false_eq_true]
      simp
  · simp [s21_2, t21_2, leF_eq]

theorem q21c (fl : List ByteArray) (la : List AC) (lt : List TS) (hn : fl.length ≤ 8) (h : lt.length ≤ 1000) (H : ∀ i, i < lt.length → SzT (ts lt i)) : l21_6 (((0 : Int), ()), (fl, la, lt, ()), ()) = match first (fun i => !decide (hE fl.length lt i = 0)) lt.length 0 with
    | some k => some (.inr (((k : Int), hE fl.length lt k, ()), (fl, la, lt, ()), ()))
    | none => some (.inl ((), (fl, la, lt, ()), ())) := by
  refine itr_search (fun i => (((i : Int), ()), (fl, la, lt, ()), ())) (fun i => !decide (hE fl.length lt i = 0)) (fun k => (((k : Int), hE fl.length lt k, ()), (fl, la, lt, ()), ())) (n := lt.length) ?_ ?_ (lt_rounds (by omega))
  · intro i hi
    have b0 : (!decide ((lt.length : Int) ≤ (i : Int))) = true := nT (by omega)
    have b1 : (decide ((0 : Int) ≤ (i : Int)) && decide ((i : Int) < (lt.length : Int))) = true := dA (by omega) (by omega)
    have hd : List.getD lt i (([] : List Int), ([] : List Int), ()) = ts lt i := rfl
    have e2 : f97 (((ts lt i).1, (ts lt i).2.1, ()), (fl.length : Int), ()) = some (hE fl.length lt i, ()) := f97_eq _ (ts lt i) hn (H i hi).on (H i hi).off
    simp only [s21_6, t21_6, Tr.val_test, Tr.val_fin, Tr.val_stop, leF_eq, eqF_eq, b0, b1, if_true, Int.toNat_natCast, hd, e2, g97, Option.isSome_some, Option.getD_some, wrap64_nat (show i ≤ 9223372036854775806 by omega)]
  · simp [s21_6, t21_6, leF_eq]

theorem f21_eq (fl : List ByteArray) (la : List AC) (lt : List TS) (h1 : fl.length ≤ 1000) (h2 : la.length ≤ 1000) (h3 : lt.length ≤ 1000) (S : Sz la lt) : f21 ((fl, la, lt, ()), ()) = some ((ckM fl la lt).1, (ckM fl la lt).2, ()) := by
  show (t21 fl la lt).val = _
  unfold t21 ckM
  have m1 : (!decide ((fl.length : Int) ≤ 8)) = !decide (fl.length ≤ 8) := natDn 8
  have m2 : (!decide ((la.length : Int) ≤ 10)) = !decide (la.length ≤ 10) := natDn 10
  have m3 : (!decide ((lt.length : Int) ≤ 4)) = !decide (lt.length ≤ 4) := natDn 4
  by_cases h0 : fl.length = 0
  · have b0 : decide ((fl.length : Int) = 0) = true := dT (by omega)
    rw [if_pos h0]
    simp only [Tr.val_test, Tr.val_fin, eqF_eq, b0, if_true]
  · have b0 : decide ((fl.length : Int) = 0) = false := dF (by omega)
    rw [if_neg h0]
    rcases (Bool.eq_false_or_eq_true (large fl la lt)).symm with kl | kl
    · have k : (!decide (fl.length ≤ 8)) = false ∧ (!decide (la.length ≤ 10)) = false ∧ (!decide (lt.length ≤ 4)) = false := by
        unfold large at kl
        rw [Bool.or_eq_false_iff, Bool.or_eq_false_iff] at kl
        exact kl
      obtain ⟨k1, k2, k3⟩ := k
      have hn : fl.length ≤ 8 := by simpa using k1
      have e1 := q21a fl la lt h1
      have e3 := q21b fl la lt hn h2 S.needs S.does
      have e4 := q21c fl la lt hn h3 S.harms
      rw [kl, if_neg Bool.false_ne_true]
      cases hf : first (fun i => !decide (fE fl i = 0)) fl.length 0 with
      | some k =>
        rw [hf] at e1
        simp only [Tr.val_test, Tr.val_fin, eqF_eq, leF_eq, m1, m2, m3, b0, k1, k2, k3, e1, isRet, r21_0, outR, Option.isSome_some, if_true, if_false, Bool.false_eq_true]
      | none =>
        rw [hf] at e1
        cases hf2 : first (fun i => !decide (aE fl.length la i = 0)) la.length 0 with
        | some k =>
          rw [hf2] at e3
          simp only [Tr.val_test, Tr.val_fin, eqF_eq, leF_eq, m1, m2, m3, b0, k1, k2, k3, e1, isRet, b21_0, outB, e3, r21_2, outR, Option.isSome_some, if_true, if_false, Bool.false_eq_true]
        | none =>
          rw [hf2] at e3
          cases hf3 : first (fun i => !decide (hE fl.length lt i = 0)) lt.length 0 with
          | some k =>
            rw [hf3] at e4
            simp only [Tr.val_test, Tr.val_fin, eqF_eq, leF_eq, m1, m2, m3, b0, k1, k2, k3, e1, isRet, b21_0, outB, e3, b21_2, e4, r21_6, outR, Option.isSome_some, if_true, if_false, Bool.false_eq_true]
          | none =>
            rw [hf3] at e4
            simp only [Tr.val_test, Tr.val_fin, eqF_eq, leF_eq, m1, m2, m3, b0, k1, k2, k3, e1, isRet, b21_0, outB, e3, b21_2, e4, Option.isSome_some, if_true, if_false, Bool.false_eq_true]
    · rw [if_pos kl]
      unfold large at kl
      rcases Bool.eq_false_or_eq_true (!decide (fl.length ≤ 8)) with k1 | k1 <;> rcases Bool.eq_false_or_eq_true (!decide (la.length ≤ 10)) with k2 | k2 <;> rcases Bool.eq_false_or_eq_true (!decide (lt.length ≤ 4)) with k3 | k3 <;>
        first
          | (rw [k1, k2, k3] at kl; cases kl; done)
          | simp only [Tr.val_test, Tr.val_fin, eqF_eq, leF_eq, m1, m2, m3, b0, k1, k2, k3, if_true, if_false, Bool.false_eq_true]

end Go.Vm.Mo

namespace Go.Vm.Mo
open Go
set_option linter.unusedVariables false
set_option linter.unusedSimpArgs false

theorem nz3 {a b c : Int} (h : firstNZ [a, b, c] = 0) : a = 0 ∧ b = 0 ∧ c = 0 := by
  simp only [firstNZ] at h
  by_cases ha : a = 0
  · rw [if_pos ha] at h
    by_cases hb : b = 0
    · rw [if_pos hb] at h
      by_cases hc : c = 0
      · exact ⟨ha, hb, hc⟩
      · rw [if_neg hc] at h; exact absurd h hc
    · rw [if_neg hb] at h; exact absurd h hb
  · rw [if_neg ha] at h; exact absurd h ha

/-- A machine without errors. -/
structure Ok (fl : List ByteArray) (la : List AC) (lt : List TS) : Prop where
  n : fl.length ≤ 8
  needs : ∀ i, i < la.length → tE fl.length (acA la i).2.1 = 0
  does : ∀ i, i < la.length → tE fl.length (acA la i).2.2.1 = 0
  harms : ∀ i, i < lt.length → tE fl.length (ts lt i) = 0

theorem ckM_zero {fl : List ByteArray} {la : List AC} {lt : List TS} (h : (ckM fl la lt).2 = 0) : Ok fl la lt := by
  unfold ckM at h
  by_cases h0 : fl.length = 0
  · rw [if_pos h0] at h; cases h
  rw [if_neg h0] at h
  rcases Bool.eq_false_or_eq_true (large fl la lt) with kl | kl
  · rw [if_pos kl] at h; cases h
  rw [kl, if_neg Bool.false_ne_true] at h
  have k : (!decide (fl.length ≤ 8)) = false ∧ (!decide (la.length ≤ 10)) = false ∧ (!decide (lt.length ≤ 4)) = false := by
    unfold large at kl
    rw [Bool.or_eq_false_iff, Bool.or_eq_false_iff] at kl
    exact kl
  have hn : fl.length ≤ 8 := by simpa using k.1
  cases hf : first (fun i => !decide (fE fl i = 0)) fl.length 0 with
  | some k =>
    rw [hf] at h
    have hk := (first_some hf).2.2.1
    have h : fE fl k = 0 := h
    simp [h] at hk
  | none =>
    rw [hf] at h
    cases hf2 : first (fun i => !decide (aE fl.length la i = 0)) la.length 0 with
    | some k =>
      rw [hf2] at h
      have hk := (first_some hf2).2.2.1
      have h : aE fl.length la k = 0 := h
      simp [h] at hk
    | none =>
      rw [hf2] at h
      cases hf3 : first (fun i => !decide (hE fl.length lt i = 0)) lt.length 0 with
      | some k =>
        rw [hf3] at h
        have hk := (first_some hf3).2.2.1
        have h : hE fl.length lt k = 0 := h
        simp [h] at hk
      | none =>
        have a : ∀ i, i < la.length → aE fl.length la i = 0 := fun i hi => by simpa using first_none hf2 i (by omega) (by omega)
        have b : ∀ i, i < lt.length → hE fl.length lt i = 0 := fun i hi => by simpa using first_none hf3 i (by omega) (by omega)
        exact ⟨hn, fun i hi => (nz3 (a i hi)).2.1, fun i hi => (nz3 (a i hi)).2.2, b⟩

/-- A test without errors. -/
structure OkT (n : Nat) (t : TS) : Prop where
  n8 : n ≤ 8
  on : Fl n t.1
  off : Fl n t.2.1
  apart : ¬ ∃ j, (mask t.1).testBit j = true ∧ (mask t.2.1).testBit j = true

theorem okT_of {n : Nat} {t : TS} (hn : n ≤ 8) (h : tE n t = 0) : OkT n t := by
  obtain ⟨h1, h2, h3⟩ := nz3 h
  have v1 := fl_of h1
  have v2 := fl_of h2
  refine ⟨hn, v1, v2, fun hj => ?_⟩
  rw [if_pos ((clash_iff v1 v2).2 hj)] at h3
  cases h3

theorem p2le {n : Nat} (h : n ≤ 8) : 2 ^ n ≤ 256 := by
  have : 2 ^ n ≤ 2 ^ 8 := Nat.pow_le_pow_right (by decide) h
  exact this

def stB (n : Nat) (st : Int) : Bool := wi 0 (((2 ^ n : Nat) : Int) - 1) st

theorem f91_eq (fl : List ByteArray) (la : List AC) (lt : List TS) (st : Int) (hn : fl.length ≤ 8) : f91 ((fl, la, lt, ()), st, ()) = some (stB fl.length st, ()) := by
  have hp := p2le hn
  have b0 : decide ((fl.length : Int) < 0) = false := dF (by omega)
  have e1 := shlI (i := fl.length) (by omega)
  have e2 : wrap64 (((2 ^ fl.length : Nat) : Int) - 1) = ((2 ^ fl.length : Nat) : Int) - 1 := by
    generalize 2 ^ fl.length = p at hp
    rw [wrap64_id (by omega) (by omega)]
  have e3 : f94 ((0 : Int), ((2 ^ fl.length : Nat) : Int) - 1, [st], ()) = some (stB fl.length st, ()) := f94_one _ _ _
  simp only [f91, t91, Tr.val_test, Tr.val_fin, b0, e1, e2, e3, g94, Option.isSome_some, Option.getD_some, if_true, if_false, Bool.false_eq_true]

theorem f116_eq (fl : List ByteArray) (la : List AC) (lt : List TS) (st : Int) (hn : fl.length ≤ 8) : f116 ((fl, la, lt, ()), st, ()) = some (stB fl.length st, ()) := by
  have hp := p2le hn
  have b0 : decide ((fl.length : Int) < 0) = false := dF (by omega)
  have e1 := shlI (i := fl.length) (by omega)
  have e2 : wrap64 (((2 ^ fl.length : Nat) : Int) - 1) = ((2 ^ fl.length : Nat) : Int) - 1 := by
    generalize 2 ^ fl.length = p at hp
    rw [wrap64_id (by omega) (by omega)]
  have e3 : f25 (st, (0 : Int), ((2 ^ fl.length : Nat) : Int) - 1, ()) = some (stB fl.length st, ()) := f25_eq _
  simp only [f116, t116, Tr.val_test, Tr.val_fin, b0, e1, e2, e3, g25, Option.isSome_some, Option.getD_some, if_true, if_false, Bool.false_eq_true]

/-- The refusal of a machine or a state. -/
def sE (fl : List ByteArray) (la : List AC) (lt : List TS) (st : Int) : Int :=
  if (ckM fl la lt).2 = 0 then (if (!stB fl.length st) = true then 2 else 0) else (ckM fl la lt).2

structure Sm (fl : List ByteArray) (la : List AC) (lt : List TS) : Prop where
  f : fl.length ≤ 1000
  a : la.length ≤ 1000
  t : lt.length ≤ 1000
  s : Sz la lt

theorem f18_eq (fl : List ByteArray) (la : List AC) (lt : List TS) (st : Int) (S : Sm fl la lt) : f18 ((fl, la, lt, ()), st, ()) = some (sE fl la lt st, ()) := by
  have e1 := f16_eq fl la lt S.f S.a S.t S.s
  unfold sE
  by_cases h : (ckM fl la lt).2 = 0
  · have b0 : (!decide ((ckM fl la lt).2 = 0)) = false := nF h
    have e2 := f91_eq fl la lt st (ckM_zero h).n
    have e3 : f80 (!stB fl.length st, (2 : Int), ()) = some (if (!stB fl.length st) = true then 2 else 0, ()) := f80_eq _
    rw [if_pos h]
    simp only [f18, t18, Tr.val_test, Tr.val_fin, e1, g16, eqF_eq, b0, e2, g91, e3, g80, Option.isSome_some, Option.getD_some, if_true, if_false, Bool.false_eq_true]
  · have b0 : (!decide ((ckM fl la lt).2 = 0)) = true := nT h
    rw [if_neg h]
    simp only [f18, t18, Tr.val_test, Tr.val_fin, e1, g16, eqF_eq, b0, Option.isSome_some, Option.getD_some, if_true]

theorem f22_eq (fl : List ByteArray) (la : List AC) (lt : List TS) (st : Int) (S : Sm fl la lt) : f22 ((fl, la, lt, ()), st, ()) = some (sE fl la lt st, ()) := by
  have e1 := f21_eq fl la lt S.f S.a S.t S.s
  have e2 : f98 ((fl, la, lt, ()), ()) = some ((ckM fl la lt).2, ()) := by
    simp only [f98, t98, Tr.val_test, Tr.val_fin, e1, g21, Option.isSome_some, Option.getD_some, if_true]
  unfold sE
  by_cases h : (ckM fl la lt).2 = 0
  · have b0 : (!decide ((ckM fl la lt).2 = 0)) = false := nF h
    have e3 := f116_eq fl la lt st (ckM_zero h).n
    have e4 : f99 ((fl, la, lt, ()), st, ()) = some (if (!stB fl.length st) = true then 2 else 0, ()) := by
      simp only [f99, t99, Tr.val_test, Tr.val_fin, e3, g116, Option.isSome_some, Option.getD_some, if_true]
      rcases Bool.eq_false_or_eq_true (!stB fl.length st) with h1 | h1 <;> simp only [h1, if_true, if_false, Bool.false_eq_true]
    rw [if_pos h]
    simp only [f22, t22, Tr.val_test, Tr.val_fin, e2, g98, eqF_eq, b0, e4, g99, Option.isSome_some, Option.getD_some, if_true, if_false, Bool.false_eq_true]
  · have b0 : (!decide ((ckM fl la lt).2 = 0)) = true := nT h
    rw [if_neg h]
    simp only [f22, t22, Tr.val_test, Tr.val_fin, e2, g98, eqF_eq, b0, Option.isSome_some, Option.getD_some, if_true]

theorem sE_zero {fl : List ByteArray} {la : List AC} {lt : List TS} {st : Int} (h : sE fl la lt st = 0) : (ckM fl la lt).2 = 0 ∧ ∃ s : Nat, s < 256 ∧ st = (s : Int) := by
  unfold sE at h
  by_cases h0 : (ckM fl la lt).2 = 0
  · rw [if_pos h0] at h
    refine ⟨h0, ?_⟩
    rcases Bool.eq_false_or_eq_true (stB fl.length st) with h1 | h1
    · obtain ⟨w1, w2⟩ := wi_iff.1 h1
      have hp := p2le (ckM_zero h0).n
      generalize 2 ^ fl.length = p at hp w2
      exact ⟨st.toNat, by omega, by omega⟩
    · rw [h1] at h; cases h
  · rw [if_neg h0] at h; exact absurd h h0

/-! ### What a test asks, and does -/

def hold (s : Nat) (t : TS) : Bool := decide (s &&& mask t.1 = mask t.1) && decide (s &&& mask t.2.1 = 0)
def new (s : Nat) (t : TS) : Nat := without s (mask t.2.1) ||| mask t.1

theorem new_lt {n : Nat} {t : TS} (h : OkT n t) {s : Nat} (hs : s < 256) : new s t < 256 := Nat.or_lt_two_pow (n := 8) (without_lt hs) (mask_lt h.n8 h.on)

theorem beqD (a b : Nat) : (((a : Nat) : Int) == ((b : Nat) : Int)) = decide (a = b) := by
  rw [Bool.eq_iff_iff, beq_iff_eq, decide_eq_true_eq]
  omega

theorem f148_eq {n : Nat} {t : TS} (h : OkT n t) {s : Nat} (hs : s < 256) : f148 ((s : Int), ((mask t.1 : Int), (mask t.2.1 : Int), ()), ()) = some (hold s t, ()) := by
  have e1 := andU hs (mask_lt h.n8 h.on)
  have e2 := andU hs (mask_lt h.n8 h.off)
  have e3 := beqD (s &&& mask t.1) (mask t.1)
  have e4 : (((s &&& mask t.2.1 : Nat) : Int) == 0) = decide (s &&& mask t.2.1 = 0) := beqD (s &&& mask t.2.1) 0
  simp only [f148, t148, Tr.val_test, Tr.val_fin, e1, e2, e3, e4, hold]
  rcases Bool.eq_false_or_eq_true (decide (s &&& mask t.1 = mask t.1)) with h1 | h1 <;> simp only [h1, if_true, if_false, Bool.false_eq_true, Bool.true_and, Bool.false_and]

theorem f149_eq {n : Nat} {t : TS} (h : OkT n t) {s : Nat} (hs : s < 256) : f149 ((s : Int), ((mask t.1 : Int), (mask t.2.1 : Int), ()), ()) = some (((new s t : Nat) : Int), ()) := by
  have e1 := andNotU hs (mask_lt h.n8 h.off)
  have e2 := orU (without_lt (b := mask t.2.1) hs) (mask_lt h.n8 h.on)
  simp only [f149, t149, Tr.val_test, Tr.val_fin, e1, e2, new]

theorem hold_iff {s : Nat} {t : TS} : hold s t = true ↔ (∀ j, (mask t.1).testBit j = true → s.testBit j = true) ∧ (∀ j, (mask t.2.1).testBit j = true → s.testBit j = false) := by
  unfold hold
  rw [Bool.and_eq_true, decide_eq_true_eq, decide_eq_true_eq, and_zero]
  constructor
  · rintro ⟨h1, h2⟩
    refine ⟨fun j hj => ?_, fun j hj => ?_⟩
    · rw [← h1, Nat.testBit_and, Bool.and_eq_true] at hj
      exact hj.1
    · cases h : s.testBit j with
      | false => rfl
      | true => exact absurd ⟨j, h, hj⟩ h2
  · rintro ⟨h1, h2⟩
    constructor
    · apply Nat.eq_of_testBit_eq
      intro j
      rw [Nat.testBit_and]
      cases h : (mask t.1).testBit j with
      | false => rw [Bool.and_false]
      | true => rw [h1 j h]; rfl
    · rintro ⟨j, a, b⟩
      rw [h2 j b] at a
      cases a

/-! ### The reference's tests -/

def offB (s : Nat) (l : List Int) (i : Nat) : Bool := !s.testBit (li l i).toNat
def onB (s : Nat) (l : List Int) (i : Nat) : Bool := s.testBit (li l i).toNat

theorem holdR {s : Nat} {t : TS} : hold s t = ((first (offB s t.1) t.1.length 0).isNone && (first (onB s t.2.1) t.2.1.length 0).isNone) := by
  rw [Bool.eq_iff_iff, hold_iff, Bool.and_eq_true, isNone_first, isNone_first]
  constructor
  · rintro ⟨h1, h2⟩
    refine ⟨fun i hi => ?_, fun i hi => ?_⟩
    · unfold offB
      rw [h1 _ ((tb_mask _ _).2 ⟨i, hi, rfl⟩)]
      rfl
    · exact h2 _ ((tb_mask _ _).2 ⟨i, hi, rfl⟩)
  · rintro ⟨h1, h2⟩
    refine ⟨fun j hj => ?_, fun j hj => ?_⟩
    · obtain ⟨i, hi, e⟩ := (tb_mask _ _).1 hj
      have := h1 i hi
      unfold offB at this
      rw [e] at this
      simpa using this
    · obtain ⟨i, hi, e⟩ := (tb_mask _ _).1 hj
      have := h2 i hi
      unfold onB at this
      rw [e] at this
      exact this

theorem bitE {s x : Int} {n : Nat} (hn : n ≤ 8) {k : Nat} (hs : s = (k : Int)) (hk : k < 256) (h0 : 0 ≤ x) (h1 : x ≤ (n : Int) - 1) : andV .i64 (shrV .i64 s x) (1 : Int) = if k.testBit x.toNat = true then 1 else 0 := by
  have := bitI (s := k) (i := x.toNat) hk (by omega)
  rw [Int.toNat_of_nonneg h0] at this
  rw [hs]
  exact this

theorem l100a {n : Nat} {t : TS} (h : OkT n t) {s : Nat} (hs : s < 256) (h1 : t.1.length ≤ 1000) : l100_0 (((s : Int), (0 : Int), ()), (t.1, t.2.1, ()), ()) = match first (offB s t.1) t.1.length 0 with
    | some _ => some (.inr ((false, ()), (t.1, t.2.1, ()), ()))
    | none => some (.inl (((s : Int), ()), (t.1, t.2.1, ()), ())) := by
  refine itr_search (fun i => (((s : Int), (i : Int), ()), (t.1, t.2.1, ()), ())) (offB s t.1) (fun _ => ((false, ()), (t.1, t.2.1, ()), ())) (n := t.1.length) ?_ ?_ (lt_rounds (by omega))
  · intro i hi
    have b0 : (!decide ((t.1.length : Int) ≤ (i : Int))) = true := nT (by omega)
    have b1 : (decide ((0 : Int) ≤ (i : Int)) && decide ((i : Int) < (t.1.length : Int))) = true := dA (by omega) (by omega)
    have hd : ∀ j, List.getD t.1 j (0 : Int) = li t.1 j := fun _ => rfl
    have hv := h.on i hi
    have b2 : decide (li t.1 i < 0) = false := dF (by omega)
    have e1 := bitE h.n8 rfl hs hv.1 hv.2
    have e2 : decide ((if s.testBit (li t.1 i).toNat = true then (1 : Int) else 0) = 0) = offB s t.1 i := by
      unfold offB
      cases s.testBit (li t.1 i).toNat <;> rfl
    simp only [s100_0, t100_0, Tr.val_test, Tr.val_fin, Tr.val_stop, leF_eq, eqF_eq, b0, b1, b2, if_true, if_false, Bool.false_eq_true, Int.toNat_natCast, hd, e1, e2, wrap64_nat (show i ≤ 9223372036854775806 by omega)]
  · simp [s100_0, t100_0, leF_eq]

theorem l100b {n : Nat} {t : TS} (h : OkT n t) {s : Nat} (hs : s < 256) (h2 : t.2.1.length ≤ 1000) : l100_2 (((s : Int), (0 : Int), ()), (t.1, t.2.1, ()), ()) = match first (onB s t.2.1) t.2.1.length 0 with
    | some _ => some (.inr ((false, ()), (t.1, t.2.1, ()), ()))
    | none => some (.inl ((), (t.1, t.2.1, ()), ())) := by
  refine itr_search (fun i => (((s : Int), (i : Int), ()), (t.1, t.2.1, ()), ())) (onB s t.2.1) (fun _ => ((false, ()), (t.1, t.2.1, ()), ())) (n := t.2.1.length) ?_ ?_ (lt_rounds (by omega))
  · intro i hi
    have b0 : (!decide ((t.2.1.length : Int) ≤ (i : Int))) = true := nT (by omega)
    have b1 : (decide ((0 : Int) ≤ (i : Int)) && decide ((i : Int) < (t.2.1.length : Int))) = true := dA (by omega) (by omega)
    have hd : ∀ j, List.getD t.2.1 j (0 : Int) = li t.2.1 j := fun _ => rfl
    have hv := h.off i hi
    have b2 : decide (li t.2.1 i < 0) = false := dF (by omega)
    have e1 := bitE h.n8 rfl hs hv.1 hv.2
    have e2 : decide ((if s.testBit (li t.2.1 i).toNat = true then (1 : Int) else 0) = 1) = onB s t.2.1 i := by
      unfold onB
      cases s.testBit (li t.2.1 i).toNat <;> rfl
    simp only [s100_2, t100_2, Tr.val_test, Tr.val_fin, Tr.val_stop, leF_eq, eqF_eq, b0, b1, b2, if_true, if_false, Bool.false_eq_true, Int.toNat_natCast, hd, e1, e2, wrap64_nat (show i ≤ 9223372036854775806 by omega)]
  · simp [s100_2, t100_2, leF_eq]

theorem f100_eq {n : Nat} {t : TS} (h : OkT n t) {s : Nat} (hs : s < 256) (z : SzT t) : f100 ((t.1, t.2.1, ()), (s : Int), ()) = some (hold s t, ()) := by
  have e1 := l100a h hs z.on
  have e2 := l100b h hs z.off
  rw [holdR]
  cases hf : first (offB s t.1) t.1.length 0 with
  | some k =>
    rw [hf] at e1
    simp only [f100, t100, Tr.val_test, Tr.val_fin, e1, isRet, r100_0, outR, Option.isSome_some, Option.isNone_some, if_true, Bool.false_and]
  | none =>
    rw [hf] at e1
    cases hf2 : first (onB s t.2.1) t.2.1.length 0 with
    | some k =>
      rw [hf2] at e2
      simp only [f100, t100, Tr.val_test, Tr.val_fin, e1, isRet, b100_0, outB, e2, r100_2, outR, Option.isSome_some, Option.isNone_some, Option.isNone_none, if_true, if_false, Bool.false_eq_true, Bool.true_and]
    | none =>
      rw [hf2] at e2
      simp only [f100, t100, Tr.val_test, Tr.val_fin, e1, isRet, b100_0, outB, e2, Option.isSome_some, Option.isNone_none, if_true, if_false, Bool.false_eq_true, Bool.true_and]

/-! ### The reference's next state -/

def orN (s : Nat) (l : List Int) : Nat → Nat
  | 0 => s
  | k + 1 => orN s l k ||| 2 ^ (li l k).toNat
def subN (s : Nat) (l : List Int) : Nat → Nat
  | 0 => s
  | k + 1 => if (subN s l k).testBit (li l k).toNat = true then without (subN s l k) (2 ^ (li l k).toNat) else subN s l k

theorem tb_orN (s : Nat) (l : List Int) (j : Nat) : ∀ k, (orN s l k).testBit j = (s.testBit j || (maskN l k).testBit j)
  | 0 => by unfold orN maskN; rw [Nat.zero_testBit, Bool.or_false]
  | k + 1 => by
    unfold orN maskN
    rw [Nat.testBit_or, Nat.testBit_or, tb_orN s l j k, Bool.or_assoc]

theorem tb_subN (s : Nat) (l : List Int) (j : Nat) : ∀ k, (subN s l k).testBit j = (s.testBit j && !(maskN l k).testBit j)
  | 0 => by unfold subN maskN; rw [Nat.zero_testBit, Bool.not_false, Bool.and_true]
  | k + 1 => by
    have ih := tb_subN s l j k
    unfold subN maskN
    rw [Nat.testBit_or, Nat.testBit_two_pow]
    split
    · rw [tb_without, ih, Nat.testBit_two_pow]
      cases s.testBit j <;> cases (maskN l k).testBit j <;> cases decide ((li l k).toNat = j) <;> rfl
    · rename_i hb
      by_cases hj : (li l k).toNat = j
      · rw [hj] at hb
        have hb : (subN s l k).testBit j = false := by simpa using hb
        rw [hb, decide_eq_true hj, Bool.or_true, Bool.not_true, Bool.and_false]
      · rw [ih, decide_eq_false hj, Bool.or_false]

theorem orN_lt {n : Nat} {l : List Int} (hn : n ≤ 8) (h : Fl n l) {s : Nat} (hs : s < 256) : ∀ k, k ≤ l.length → orN s l k < 256
  | 0, _ => hs
  | k + 1, hk => by
    have := h k (by omega)
    exact Nat.or_lt_two_pow (n := 8) (orN_lt hn h hs k (by omega)) (pow8 (by omega))
theorem subN_lt {l : List Int} {s : Nat} (hs : s < 256) : ∀ k, subN s l k < 256
  | 0 => hs
  | k + 1 => by
    have ih := @subN_lt l s hs k
    unfold subN
    split
    · exact without_lt ih
    · exact ih

theorem new_eq {n : Nat} {t : TS} (h : OkT n t) {s : Nat} (hs : s < 256) : subN (orN s t.1 t.1.length) t.2.1 t.2.1.length = new s t := by
  apply Nat.eq_of_testBit_eq
  intro j
  rw [tb_subN, tb_orN]
  unfold new
  rw [Nat.testBit_or, tb_without]
  show ((s.testBit j || (mask t.1).testBit j) && !(mask t.2.1).testBit j) = ((s.testBit j && !(mask t.2.1).testBit j) || (mask t.1).testBit j)
  cases h1 : (mask t.1).testBit j with
  | false => simp
  | true =>
    cases h2 : (mask t.2.1).testBit j with
    | false => simp
    | true => exact absurd ⟨j, h1, h2⟩ h.apart

theorem l26a {n : Nat} (nme : ByteArray) (u : TS) {t : TS} (h : OkT n t) {s : Nat} (hs : s < 256) (h1 : t.1.length ≤ 1000) : l26_0 (((s : Int), (0 : Int), ()), (nme, u.1, u.2.1, t.1, t.2.1, ()), ()) = some (.inl (((orN s t.1 t.1.length : Int), ()), (nme, u.1, u.2.1, t.1, t.2.1, ()), ())) := by
  refine itr_brk (fun i => (((orN s t.1 i : Int), (i : Int), ()), (nme, u.1, u.2.1, t.1, t.2.1, ()), ())) (n := t.1.length) ?_ ?_ (lt_rounds (by omega))
  · intro i hi
    have b0 : (!decide ((t.1.length : Int) ≤ (i : Int))) = true := nT (by omega)
    have b1 : (decide ((0 : Int) ≤ (i : Int)) && decide ((i : Int) < (t.1.length : Int))) = true := dA (by omega) (by omega)
    have hd : ∀ j, List.getD t.1 j (0 : Int) = li t.1 j := fun _ => rfl
    have hv := h.on i hi
    have h8 := h.n8
    have b2 : decide (li t.1 i < 0) = false := dF (by omega)
    have e1 : shlV .i64 (1 : Int) (li t.1 i) = ((2 ^ (li t.1 i).toNat : Nat) : Int) := by
      have := shlI (i := (li t.1 i).toNat) (by omega)
      rw [toNat_flag h.on hi] at this
      exact this
    have e2 : orV .i64 (orN s t.1 i : Int) ((2 ^ (li t.1 i).toNat : Nat) : Int) = ((orN s t.1 (i + 1) : Nat) : Int) := orI (orN_lt h.n8 h.on hs i (by omega)) (pow8 (by omega))
    simp only [s26_0, t26_0, Tr.val_test, Tr.val_fin, Tr.val_stop, leF_eq, b0, b1, b2, if_true, if_false, Bool.false_eq_true, Int.toNat_natCast, hd, e1, e2, wrap64_nat (show i ≤ 9223372036854775806 by omega)]
  · simp [s26_0, t26_0, leF_eq]

theorem l26b {n : Nat} (nme : ByteArray) (u : TS) {t : TS} (h : OkT n t) {s : Nat} (hs : s < 256) (h2 : t.2.1.length ≤ 1000) : l26_2 (((s : Int), (0 : Int), ()), (nme, u.1, u.2.1, t.1, t.2.1, ()), ()) = some (.inl (((subN s t.2.1 t.2.1.length : Int), ()), (nme, u.1, u.2.1, t.1, t.2.1, ()), ())) := by
  refine itr_brk (fun i => (((subN s t.2.1 i : Int), (i : Int), ()), (nme, u.1, u.2.1, t.1, t.2.1, ()), ())) (n := t.2.1.length) ?_ ?_ (lt_rounds (by omega))
  · intro i hi
    have b0 : (!decide ((t.2.1.length : Int) ≤ (i : Int))) = true := nT (by omega)
    have b1 : (decide ((0 : Int) ≤ (i : Int)) && decide ((i : Int) < (t.2.1.length : Int))) = true := dA (by omega) (by omega)
    have hd : ∀ j, List.getD t.2.1 j (0 : Int) = li t.2.1 j := fun _ => rfl
    have hv := h.off i hi
    have h8 := h.n8
    have b2 : decide (li t.2.1 i < 0) = false := dF (by omega)
    have hl := @subN_lt t.2.1 s hs i
    have e1 := bitE h.n8 rfl hl hv.1 hv.2
    have e3 : shlV .i64 (1 : Int) (li t.2.1 i) = ((2 ^ (li t.2.1 i).toNat : Nat) : Int) := by
      have := shlI (i := (li t.2.1 i).toNat) (by omega)
      rw [toNat_flag h.off hi] at this
      exact this
    have hsub : subN s t.2.1 (i + 1) = if (subN s t.2.1 i).testBit (li t.2.1 i).toNat = true then without (subN s t.2.1 i) (2 ^ (li t.2.1 i).toNat) else subN s t.2.1 i := rfl
    show s26_2 (((subN s t.2.1 i : Int), (i : Int), ()), (nme, u.1, u.2.1, t.1, t.2.1, ()), ()) = some (.again (((subN s t.2.1 (i + 1) : Int), ((i + 1 : Nat) : Int), ()), (nme, u.1, u.2.1, t.1, t.2.1, ()), ()))
    rw [hsub]
    rcases Bool.eq_false_or_eq_true ((subN s t.2.1 i).testBit (li t.2.1 i).toNat) with hb | hb
    · obtain ⟨q1, q2⟩ := subBit _ hl (li t.2.1 i).toNat (by omega) hb
      have e4 : wrap64 ((subN s t.2.1 i : Int) - ((2 ^ (li t.2.1 i).toNat : Nat) : Int)) = ((without (subN s t.2.1 i) (2 ^ (li t.2.1 i).toNat) : Nat) : Int) := by
        rw [← q2]
        generalize 2 ^ (li t.2.1 i).toNat = p at q1
        rw [wrap64_id (by omega) (by omega)]
        omega
      have z1 : decide ((1 : Int) = 1) = true := rfl
      rw [hb] at e1
      simp only [if_true] at e1
      simp only [s26_2, t26_2, Tr.val_test, Tr.val_fin, Tr.val_stop, leF_eq, eqF_eq, b0, b1, b2, if_true, if_false, Bool.false_eq_true, Int.toNat_natCast, hd, e1, e3, e4, hb, decide_true, wrap64_nat (show i ≤ 9223372036854775806 by omega)]
    · have z1 : decide ((0 : Int) = 1) = false := rfl
      rw [hb] at e1
      simp only [if_false, Bool.false_eq_true] at e1
      simp only [s26_2, t26_2, Tr.val_test, Tr.val_fin, Tr.val_stop, leF_eq, eqF_eq, b0, b1, b2, if_true, if_false, Bool.false_eq_true, Int.toNat_natCast, hd, e1, z1, hb, wrap64_nat (show i ≤ 9223372036854775806 by omega)]
  · simp [s26_2, t26_2, leF_eq]

end Go.Vm.Mo

namespace Go.Vm.Mo
open Go
set_option linter.unusedVariables false
set_option linter.unusedSimpArgs false

/-- The places where it is so, of the first n. -/
def places (p : Nat → Bool) : Nat → List Int
  | 0 => []
  | n + 1 => if p n = true then places p n ++ [(n : Int)] else places p n

theorem places_len (p : Nat → Bool) : ∀ n, (places p n).length ≤ n
  | 0 => Nat.le_refl _
  | n + 1 => by
    have := places_len p n
    unfold places
    split
    · rw [List.length_append]; simp; omega
    · omega

abbrev MT := Int × Int × Unit
abbrev MA := MT × MT × Unit
def mkT (t : TS) : MT := ((mask t.1 : Int), (mask t.2.1 : Int), ())
def mkA (a : AC) : MA := (mkT a.2.1, mkT a.2.2.1, ())
def ma (l : List MA) (i : Nat) : MA := l.getD i (((0 : Int), (0 : Int), ()), ((0 : Int), (0 : Int), ()), ())

theorem ma_map {la : List AC} {i : Nat} (h : i < la.length) : ma (la.map mkA) i = mkA (acA la i) := by
  unfold ma acA
  rw [List.getD_eq_getElem?_getD, List.getD_eq_getElem?_getD, List.getElem?_map, List.getElem?_eq_getElem h]
  rfl

theorem f146_eq {n : Nat} {t : TS} (h : OkT n t) (z : SzT t) : f146 ((t.1, t.2.1, ()), ()) = some (mkT t, ()) := by
  have e1 := f145_eq h.n8 h.on z.on
  have e2 := f145_eq h.n8 h.off z.off
  simp only [f146, t146, Tr.val_test, Tr.val_fin, e1, g145, e2, Option.isSome_some, Option.getD_some, if_true, mkT]

structure OkM (fl : List ByteArray) (la : List AC) (lt : List TS) : Prop where
  needs : ∀ i, i < la.length → OkT fl.length (acA la i).2.1
  does : ∀ i, i < la.length → OkT fl.length (acA la i).2.2.1
  harms : ∀ i, i < lt.length → OkT fl.length (ts lt i)

theorem okM_of {fl : List ByteArray} {la : List AC} {lt : List TS} (h : (ckM fl la lt).2 = 0) : OkM fl la lt := by
  have o := ckM_zero h
  exact ⟨fun i hi => okT_of o.n (o.needs i hi), fun i hi => okT_of o.n (o.does i hi), fun i hi => okT_of o.n (o.harms i hi)⟩

theorem l92a (fl : List ByteArray) (la : List AC) (lt : List TS) (st : Int) (S : Sm fl la lt) (O : OkM fl la lt) : l92_0 ((st, la, (la.length : Int), (0 : Int), ()), (fl, la, lt, ()), (), (([] : List MA), ()), ()) = some (.inl ((st, ()), (fl, la, lt, ()), (), (la.map mkA, ()), ())) := by
  have e0 : l92_0 ((st, la, (la.length : Int), (0 : Int), ()), (fl, la, lt, ()), (), (([] : List MA), ()), ()) = some (.inl ((st, ()), (fl, la, lt, ()), (), ((la.take la.length).map mkA, ()), ())) := by
    refine itr_brk (fun i => ((st, la, (la.length : Int), (i : Int), ()), (fl, la, lt, ()), (), ((la.take i).map mkA, ()), ())) (n := la.length) ?_ ?_ (lt_rounds (by have := S.a; omega))
    · intro i hi
      have hz := S.a
      have b0 : (!decide ((la.length : Int) ≤ (i : Int))) = true := nT (by omega)
      have b1 : (decide ((0 : Int) ≤ (i : Int)) && decide ((i : Int) < (la.length : Int))) = true := dA (by omega) (by omega)
      have hln : ((la.take i).map mkA).length = i := by rw [List.length_map, List.length_take]; omega
      have b2 : (Nat.ble ((2 * (i + 1) + 192) * 32) 281474976710656 && Nat.ble (i + 1) 281474976710656) = true := by
        rw [Nat.ble_eq_true_of_le (by omega), Nat.ble_eq_true_of_le (by omega)]; rfl
      have hd : List.getD la i (({ data := { toList := [] } } : ByteArray), (([] : List Int), ([] : List Int), ()), (([] : List Int), ([] : List Int), ()), ()) = acA la i := rfl
      have e1 := f146_eq (O.needs i hi) (S.s.needs i hi)
      have e2 := f146_eq (O.does i hi) (S.s.does i hi)
      have ht : (la.take i).map mkA ++ [(((mkT (acA la i).2.1).1, (mkT (acA la i).2.1).2.1, ()), ((mkT (acA la i).2.2.1).1, (mkT (acA la i).2.2.1).2.1, ()), ())] = (la.take (i + 1)).map mkA := by
        unfold acA
        rw [List.getD_eq_getElem?_getD, List.getElem?_eq_getElem hi, List.take_succ_eq_append_getElem hi, List.map_append]
        rfl
      simp only [s92_0, t92_0, Tr.val_test, Tr.val_fin, Tr.val_stop, leF_eq, b0, b1, hln, b2, if_true, Int.toNat_natCast, hd, e1, g146, e2, ht, Option.isSome_some, Option.getD_some, wrap64_nat (show i ≤ 9223372036854775806 by omega)]
    · simp [s92_0, t92_0, leF_eq]
  rw [e0, List.take_length]

theorem l92b (lt : List TS) (n : Nat) (A : List MA) (st : Int) (hl : lt.length ≤ 1000) (Z : ∀ i, i < lt.length → SzT (ts lt i)) (O : ∀ i, i < lt.length → OkT n (ts lt i)) : l92_2 ((st, lt, (lt.length : Int), (0 : Int), ()), (), (A, ([] : List MT), ()), ()) = some (.inl ((st, ()), (), (A, lt.map mkT, ()), ())) := by
  have e0 : l92_2 ((st, lt, (lt.length : Int), (0 : Int), ()), (), (A, ([] : List MT), ()), ()) = some (.inl ((st, ()), (), (A, (lt.take lt.length).map mkT, ()), ())) := by
    refine itr_brk (fun i => ((st, lt, (lt.length : Int), (i : Int), ()), (), (A, (lt.take i).map mkT, ()), ())) (n := lt.length) ?_ ?_ (lt_rounds (by omega))
    · intro i hi
      have b0 : (!decide ((lt.length : Int) ≤ (i : Int))) = true := nT (by omega)
      have b1 : (decide ((0 : Int) ≤ (i : Int)) && decide ((i : Int) < (lt.length : Int))) = true := dA (by omega) (by omega)
      have hln : ((lt.take i).map mkT).length = i := by rw [List.length_map, List.length_take]; omega
      have b2 : (Nat.ble ((2 * (i + 1) + 192) * 16) 281474976710656 && Nat.ble (i + 1) 281474976710656) = true := by
        rw [Nat.ble_eq_true_of_le (by omega), Nat.ble_eq_true_of_le (by omega)]; rfl
      have hd : List.getD lt i (([] : List Int), ([] : List Int), ()) = ts lt i := rfl
      have e1 := f146_eq (O i hi) (Z i hi)
      have ht : (lt.take i).map mkT ++ [((mkT (ts lt i)).1, (mkT (ts lt i)).2.1, ())] = (lt.take (i + 1)).map mkT := by
        unfold ts
        rw [List.getD_eq_getElem?_getD, List.getElem?_eq_getElem hi, List.take_succ_eq_append_getElem hi, List.map_append]
        rfl
      simp only [s92_2, t92_2, Tr.val_test, Tr.val_fin, Tr.val_stop, leF_eq, b0, b1, hln, b2, if_true, Int.toNat_natCast, hd, e1, g146, ht, Option.isSome_some, Option.getD_some, wrap64_nat (show i ≤ 9223372036854775806 by omega)]
    · simp [s92_2, t92_2, leF_eq]
  rw [e0, List.take_length]

theorem f92_bad {fl : List ByteArray} {la : List AC} {lt : List TS} {st : Int} (S : Sm fl la lt) (h : sE fl la lt st ≠ 0) : f92 ((fl, la, lt, ()), st, ()) = some ((([] : List MA), ([] : List MT), ()), (0 : Int), sE fl la lt st, ()) := by
  have e1 := f18_eq fl la lt st S
  have b0 : (!decide (sE fl la lt st = 0)) = true := nT h
  simp only [f92, t92, Tr.val_test, Tr.val_fin, e1, g18, eqF_eq, b0, Option.isSome_some, Option.getD_some, if_true]

theorem f92_ok {fl : List ByteArray} {la : List AC} {lt : List TS} {s : Nat} (S : Sm fl la lt) (h : sE fl la lt (s : Int) = 0) (hs : s < 256) : f92 ((fl, la, lt, ()), (s : Int), ()) = some ((la.map mkA, lt.map mkT, ()), (s : Int), (0 : Int), ()) := by
  have e1 := f18_eq fl la lt s S
  have b0 : (!decide (sE fl la lt (s : Int) = 0)) = false := nF h
  have O := okM_of (sE_zero h).1
  have e2 := l92a fl la lt s S O
  have e3 := l92b lt fl.length (la.map mkA) s S.t S.s.harms O.harms
  have e4 := wrapU (lt64 hs)
  simp only [f92, t92, Tr.val_test, Tr.val_fin, e1, g18, eqF_eq, b0, e2, isBrk, b92_0, outB, e3, b92_2, e4, Option.isSome_some, Option.getD_some, if_true, if_false, Bool.false_eq_true]

/-! ### Actions -/

def can (la : List AC) (s i : Nat) : Bool := hold s (acA la i).2.1

theorem f26_eq (fl : List ByteArray) (la : List AC) (lt : List TS) (s a : Nat) (hs : s < 256) (ha : a < la.length) (S : Sm fl la lt) (O : OkM fl la lt) : f26 ((fl, la, lt, ()), (s : Int), (a : Int), ()) = some (if can la s a = true then ((new s (acA la a).2.2.1 : Nat) : Int) else 0, can la s a, ()) := by
  have b1 : (decide ((0 : Int) ≤ (a : Int)) && decide ((a : Int) < (la.length : Int))) = true := dA (by omega) (by omega)
  have hd : List.getD la a (({ data := { toList := [] } } : ByteArray), (([] : List Int), ([] : List Int), ()), (([] : List Int), ([] : List Int), ()), ()) = acA la a := rfl
  have e1 : f100 (((acA la a).2.1.1, (acA la a).2.1.2.1, ()), (s : Int), ()) = some (can la s a, ()) := f100_eq (O.needs a ha) hs (S.s.needs a ha)
  have o := O.does a ha
  have z := S.s.does a ha
  have e2 := l26a (acA la a).1 (acA la a).2.1 o hs z.on
  have e3 := l26b (acA la a).1 (acA la a).2.1 o (orN_lt o.n8 o.on hs (acA la a).2.2.1.1.length (Nat.le_refl _)) z.off
  rw [new_eq o hs] at e3
  simp only [f26, t26, Tr.val_test, Tr.val_fin, b1, Int.toNat_natCast, hd, e1, g100, Option.isSome_some, Option.getD_some, if_true]
  rcases Bool.eq_false_or_eq_true (can la s a) with h1 | h1
  · simp only [h1, e2, isBrk, b26_0, outB, e3, b26_2, if_true, if_false, Bool.false_eq_true, Bool.not_true]
  · simp only [h1, Bool.not_false, if_true, if_false, Bool.false_eq_true]

end Go.Vm.Mo

namespace Go.Vm.Mo
open Go
set_option linter.unusedVariables false
set_option linter.unusedSimpArgs false

def short (t : TS) : Bool := decide (t.1.length ≤ 10) && decide (t.2.1.length ≤ 10)
def fB (fl : List ByteArray) (i : Nat) : Bool := !decide ((bs fl i).size ≤ 30)
def aB (la : List AC) (i : Nat) : Bool := !decide ((acA la i).1.size ≤ 30) || (!short (acA la i).2.1 || !short (acA la i).2.2.1)
def hB (lt : List TS) (i : Nat) : Bool := !short (ts lt i)

theorem natDm {a : Nat} (b : Nat) : decide ((a : Int) ≤ (b : Int)) = decide (a ≤ b) := decide_eq_decide.2 (Int.ofNat_le (m := a) (n := b))

theorem f78_eq (t : TS) : f78 ((t.1, t.2.1, ()), ()) = some (short t, ()) := by
  have m1 : decide ((t.1.length : Int) ≤ 10) = decide (t.1.length ≤ 10) := natDm 10
  have m2 : decide ((t.2.1.length : Int) ≤ 10) = decide (t.2.1.length ≤ 10) := natDm 10
  simp only [f78, t78, Tr.val_test, Tr.val_fin, leF_eq, m1, m2, short]
  rcases Bool.eq_false_or_eq_true (decide (t.1.length ≤ 10)) with h1 | h1 <;> simp only [h1, if_true, if_false, Bool.false_eq_true, Bool.true_and, Bool.false_and]

theorem short_sz {t : TS} (h : short t = true) : SzT t := by
  unfold short at h
  rw [Bool.and_eq_true, decide_eq_true_eq, decide_eq_true_eq] at h
  exact ⟨by omega, by omega⟩

theorem l15a (fl : List ByteArray) (la : List AC) (lt : List TS) (h : fl.length ≤ 1000) : l15_0 (((0 : Int), ()), (fl, la, lt, ()), ()) = match first (fB fl) fl.length 0 with
    | some _ => some (.inr ((false, ()), (fl, la, lt, ()), ()))
    | none => some (.inl ((), (fl, la, lt, ()), ())) := by
  refine itr_search (fun i => (((i : Int), ()), (fl, la, lt, ()), ())) (fB fl) (fun _ => ((false, ()), (fl, la, lt, ()), ())) (n := fl.length) ?_ ?_ (lt_rounds (by omega))
  · intro i hi
    have b0 : (!decide ((fl.length : Int) ≤ (i : Int))) = true := nT (by omega)
    have b1 : (decide ((0 : Int) ≤ (i : Int)) && decide ((i : Int) < (fl.length : Int))) = true := dA (by omega) (by omega)
    have hd2 : List.getD fl i ({ data := { toList := [] } } : ByteArray) = bs fl i := rfl
    have m1 : (!decide (((bs fl i).size : Int) ≤ 30)) = fB fl i := natDn 30
    simp only [s15_0, t15_0, Tr.val_test, Tr.val_fin, Tr.val_stop, leF_eq, b0, b1, if_true, Int.toNat_natCast, hd2, m1, wrap64_nat (show i ≤ 9223372036854775806 by omega)]
  · simp [s15_0, t15_0, leF_eq]

theorem l15b (fl : List ByteArray) (la : List AC) (lt : List TS) (h : la.length ≤ 1000) : l15_2 (((0 : Int), ()), (fl, la, lt, ()), ()) = match first (aB la) la.length 0 with
    | some _ => some (.inr ((false, ()), (fl, la, lt, ()), ()))
    | none => some (.inl ((), (fl, la, lt, ()), ())) := by
  refine itr_search (fun i => (((i : Int), ()), (fl, la, lt, ()), ())) (aB la) (fun _ => ((false, ()), (fl, la, lt, ()), ())) (n := la.length) ?_ ?_ (lt_rounds (by omega))
  · intro i hi
    have b0 : (!decide ((la.length : Int) ≤ (i : Int))) = true := nT (by omega)
    have b1 : (decide ((0 : Int) ≤ (i : Int)) && decide ((i : Int) < (la.length : Int))) = true := dA (by omega) (by omega)
    have hd : List.getD la i (({ data := { toList := [] } } : ByteArray), (([] : List Int), ([] : List Int), ()), (([] : List Int), ([] : List Int), ()), ()) = acA la i := rfl
    have m1 : (!decide (((acA la i).1.size : Int) ≤ 30)) = !decide ((acA la i).1.size ≤ 30) := natDn 30
    have e1 := f78_eq (acA la i).2.1
    have e2 := f78_eq (acA la i).2.2.1
    simp only [s15_2, t15_2, Tr.val_test, Tr.val_fin, Tr.val_stop, leF_eq, b0, b1, if_true, Int.toNat_natCast, hd, m1, e1, g78, e2, Option.isSome_some, Option.getD_some, wrap64_nat (show i ≤ 9223372036854775806 by omega), aB]
    rcases Bool.eq_false_or_eq_true (!decide ((acA la i).1.size ≤ 30)) with h1 | h1
    · simp only [h1, if_true, Bool.true_or]
    · rcases Bool.eq_false_or_eq_true (!short (acA la i).2.1) with h2 | h2
      · simp only [h1, h2, if_true, if_false, Bool.false_eq_true, Bool.true_or, Bool.false_or]
      · simp only [h1, h2, if_false, Bool.false_eq_true, Bool.false_or]
  · simp [s15_2, t15_2, leF_eq]

theorem l15c (fl : List ByteArray) (la : List AC) (lt : List TS) (h : lt.length ≤ 1000) : l15_4 (((0 : Int), ()), (fl, la, lt, ()), ()) = match first (hB lt) lt.length 0 with
    | some _ => some (.inr ((false, ()), (fl, la, lt, ()), ()))
    | none => some (.inl ((), (fl, la, lt, ()), ())) := by
  refine itr_search (fun i => (((i : Int), ()), (fl, la, lt, ()), ())) (hB lt) (fun _ => ((false, ()), (fl, la, lt, ()), ())) (n := lt.length) ?_ ?_ (lt_rounds (by omega))
  · intro i hi
    have b0 : (!decide ((lt.length : Int) ≤ (i : Int))) = true := nT (by omega)
    have b1 : (decide ((0 : Int) ≤ (i : Int)) && decide ((i : Int) < (lt.length : Int))) = true := dA (by omega) (by omega)
    have hd : List.getD lt i (([] : List Int), ([] : List Int), ()) = ts lt i := rfl
    have e1 := f78_eq (ts lt i)
    have hh : (!short (ts lt i)) = hB lt i := rfl
    simp only [s15_4, t15_4, Tr.val_test, Tr.val_fin, Tr.val_stop, leF_eq, b0, b1, if_true, Int.toNat_natCast, hd, e1, g78, hh, Option.isSome_some, Option.getD_some, wrap64_nat (show i ≤ 9223372036854775806 by omega)]
  · simp [s15_4, t15_4, leF_eq]

theorem f15_ex (fl : List ByteArray) (la : List AC) (lt : List TS) : f15 ((fl, la, lt, ()), ()) = some (false, ()) ∨ (f15 ((fl, la, lt, ()), ()) = some (true, ()) ∧ Sm fl la lt) := by
  have m1 : (!decide ((fl.length : Int) ≤ 10)) = !decide (fl.length ≤ 10) := natDn 10
  have m2 : (!decide ((la.length : Int) ≤ 12)) = !decide (la.length ≤ 12) := natDn 12
  have m3 : (!decide ((lt.length : Int) ≤ 6)) = !decide (lt.length ≤ 6) := natDn 6
  have key : f15 ((fl, la, lt, ()), ()) = (t15 fl la lt).val := rfl
  rw [key]
  unfold t15
  rcases Bool.eq_false_or_eq_true (!decide (fl.length ≤ 10)) with k1 | k1
  · left
    simp only [Tr.val_test, Tr.val_fin, leF_eq, m1, k1, if_true]
  rcases Bool.eq_false_or_eq_true (!decide (la.length ≤ 12)) with k2 | k2
  · left
    simp only [Tr.val_test, Tr.val_fin, leF_eq, m1, m2, k1, k2, if_true, if_false, Bool.false_eq_true]
  rcases Bool.eq_false_or_eq_true (!decide (lt.length ≤ 6)) with k3 | k3
  · left
    simp only [Tr.val_test, Tr.val_fin, leF_eq, m1, m2, m3, k1, k2, k3, if_true, if_false, Bool.false_eq_true]
  have h1 : fl.length ≤ 10 := by simpa using k1
  have h2 : la.length ≤ 12 := by simpa using k2
  have h3 : lt.length ≤ 6 := by simpa using k3
  have e1 := l15a fl la lt (by omega)
  have e2 := l15b fl la lt (by omega)
  have e3 := l15c fl la lt (by omega)
  cases hf : first (fB fl) fl.length 0 with
  | some k =>
    left
    rw [hf] at e1
    simp only [Tr.val_test, Tr.val_fin, leF_eq, m1, m2, m3, k1, k2, k3, e1, isRet, r15_0, outR, Option.isSome_some, if_true, if_false, Bool.false_eq_true]
  | none =>
    rw [hf] at e1
    cases hf2 : first (aB la) la.length 0 with
    | some k =>
      left
      rw [hf2] at e2
      simp only [Tr.val_test, Tr.val_fin, leF_eq, m1, m2, m3, k1, k2, k3, e1, isRet, b15_0, outB, e2, r15_2, outR, Option.isSome_some, if_true, if_false, Bool.false_eq_true]
    | none =>
      rw [hf2] at e2
      cases hf3 : first (hB lt) lt.length 0 with
      | some k =>
        left
        rw [hf3] at e3
        simp only [Tr.val_test, Tr.val_fin, leF_eq, m1, m2, m3, k1, k2, k3, e1, isRet, b15_0, outB, e2, b15_2, e3, r15_4, outR, Option.isSome_some, if_true, if_false, Bool.false_eq_true]
      | none =>
        right
        rw [hf3] at e3
        refine ⟨by simp only [Tr.val_test, Tr.val_fin, leF_eq, m1, m2, m3, k1, k2, k3, e1, isRet, b15_0, outB, e2, b15_2, e3, Option.isSome_some, if_true, if_false, Bool.false_eq_true], ⟨by omega, by omega, by omega, ⟨?_, ?_, ?_⟩⟩⟩
        · intro i hi
          have := first_none hf2 i (by omega) (by omega)
          unfold aB at this
          rw [Bool.or_eq_false_iff, Bool.or_eq_false_iff] at this
          exact short_sz (by simpa using this.2.1)
        · intro i hi
          have := first_none hf2 i (by omega) (by omega)
          unfold aB at this
          rw [Bool.or_eq_false_iff, Bool.or_eq_false_iff] at this
          exact short_sz (by simpa using this.2.2)
        · intro i hi
          have := first_none hf3 i (by omega) (by omega)
          unfold hB at this
          exact short_sz (by simpa using this)

/-! ### Copies -/

theorem f89_eq (rs : List ByteArray) (h : rs.length ≤ 1000) : f89 (rs, ()) = some (rs, ()) := by
  have b2 : (Nat.ble ((2 * (0 + rs.length) + 192) * 16) 281474976710656 && Nat.ble (0 + rs.length) 281474976710656) = true := by
    rw [Nat.ble_eq_true_of_le (by omega), Nat.ble_eq_true_of_le (by omega)]; rfl
  simp only [f89, t89, Tr.val_test, Tr.val_fin, b2, if_true, List.nil_append]
theorem f35_eq (l : List Int) (h : l.length ≤ 1000) : f35 (l, ()) = some (l, ()) := by
  have b2 : (Nat.ble ((2 * (0 + l.length) + 192) * 8) 281474976710656 && Nat.ble (0 + l.length) 281474976710656) = true := by
    rw [Nat.ble_eq_true_of_le (by omega), Nat.ble_eq_true_of_le (by omega)]; rfl
  simp only [f35, t35, Tr.val_test, Tr.val_fin, b2, if_true, List.nil_append]
theorem f90_eq (t : TS) (z : SzT t) : f90 ((t.1, t.2.1, ()), ()) = some ((t.1, t.2.1, ()), ()) := by
  have e1 := f35_eq t.1 z.on
  have e2 := f35_eq t.2.1 z.off
  simp only [f90, t90, Tr.val_test, Tr.val_fin, e1, g35, e2, Option.isSome_some, Option.getD_some, if_true]

theorem l17a (fl : List ByteArray) (la : List AC) (lt : List TS) (S : Sm fl la lt) : l17_0 (((0 : Int), ()), (fl, la, lt, ()), (), (fl, ([] : List AC), ()), ()) = some (.inl ((), (fl, la, lt, ()), (), (fl, la, ()), ())) := by
  have hz := S.a
  have e0 : l17_0 (((0 : Int), ()), (fl, la, lt, ()), (), (fl, ([] : List AC), ()), ()) = some (.inl ((), (fl, la, lt, ()), (), (fl, la.take la.length, ()), ())) := by
    refine itr_brk (fun i => (((i : Int), ()), (fl, la, lt, ()), (), (fl, la.take i, ()), ())) (n := la.length) ?_ ?_ (lt_rounds (by omega))
    · intro i hi
      have b0 : (!decide ((la.length : Int) ≤ (i : Int))) = true := nT (by omega)
      have b1 : (decide ((0 : Int) ≤ (i : Int)) && decide ((i : Int) < (la.length : Int))) = true := dA (by omega) (by omega)
      have hln : (la.take i).length = i := by rw [List.length_take]; omega
      have b2 : (Nat.ble ((2 * (i + 1) + 192) * 112) 281474976710656 && Nat.ble (i + 1) 281474976710656) = true := by
        rw [Nat.ble_eq_true_of_le (by omega), Nat.ble_eq_true_of_le (by omega)]; rfl
      have hd : List.getD la i (({ data := { toList := [] } } : ByteArray), (([] : List Int), ([] : List Int), ()), (([] : List Int), ([] : List Int), ()), ()) = acA la i := rfl
      have e1 := f90_eq _ (S.s.needs i hi)
      have e2 := f90_eq _ (S.s.does i hi)
      have ht : la.take i ++ [((acA la i).1, ((acA la i).2.1.1, (acA la i).2.1.2.1, ()), ((acA la i).2.2.1.1, (acA la i).2.2.1.2.1, ()), ())] = la.take (i + 1) := by
        rw [List.take_succ_eq_append_getElem hi]
        unfold acA
        rw [List.getD_eq_getElem?_getD, List.getElem?_eq_getElem hi]
        rfl
      simp only [s17_0, t17_0, Tr.val_test, Tr.val_fin, Tr.val_stop, leF_eq, b0, b1, hln, b2, e1, g90, e2, Option.isSome_some, Option.getD_some, if_true, Int.toNat_natCast, hd, ht, wrap64_nat (show i ≤ 9223372036854775806 by omega)]
    · simp [s17_0, t17_0, leF_eq]
  rw [e0, List.take_length]

theorem l17b (fl : List ByteArray) (la : List AC) (lt : List TS) (S : Sm fl la lt) : l17_2 (((0 : Int), ()), (fl, la, lt, ()), (), (fl, la, ([] : List TS), ()), ()) = some (.inl ((), (fl, la, lt, ()), (), (fl, la, lt, ()), ())) := by
  have hz := S.t
  have e0 : l17_2 (((0 : Int), ()), (fl, la, lt, ()), (), (fl, la, ([] : List TS), ()), ()) = some (.inl ((), (fl, la, lt, ()), (), (fl, la, lt.take lt.length, ()), ())) := by
    refine itr_brk (fun i => (((i : Int), ()), (fl, la, lt, ()), (), (fl, la, lt.take i, ()), ())) (n := lt.length) ?_ ?_ (lt_rounds (by omega))
    · intro i hi
      have b0 : (!decide ((lt.length : Int) ≤ (i : Int))) = true := nT (by omega)
      have b1 : (decide ((0 : Int) ≤ (i : Int)) && decide ((i : Int) < (lt.length : Int))) = true := dA (by omega) (by omega)
      have hln : (lt.take i).length = i := by rw [List.length_take]; omega
      have b2 : (Nat.ble ((2 * (i + 1) + 192) * 48) 281474976710656 && Nat.ble (i + 1) 281474976710656) = true := by
        rw [Nat.ble_eq_true_of_le (by omega), Nat.ble_eq_true_of_le (by omega)]; rfl
      have hd : List.getD lt i (([] : List Int), ([] : List Int), ()) = ts lt i := rfl
      have e1 := f90_eq _ (S.s.harms i hi)
      have ht : lt.take i ++ [((ts lt i).1, (ts lt i).2.1, ())] = lt.take (i + 1) := by
        rw [List.take_succ_eq_append_getElem hi]
        unfold ts
        rw [List.getD_eq_getElem?_getD, List.getElem?_eq_getElem hi]
        rfl
      simp only [s17_2, t17_2, Tr.val_test, Tr.val_fin, Tr.val_stop, leF_eq, b0, b1, hln, b2, e1, g90, Option.isSome_some, Option.getD_some, if_true, Int.toNat_natCast, hd, ht, wrap64_nat (show i ≤ 9223372036854775806 by omega)]
    · simp [s17_2, t17_2, leF_eq]
  rw [e0, List.take_length]

theorem f17_eq (fl : List ByteArray) (la : List AC) (lt : List TS) (S : Sm fl la lt) : f17 ((fl, la, lt, ()), ()) = some ((fl, la, lt, ()), ()) := by
  have e1 := f89_eq fl S.f
  have e2 := l17a fl la lt S
  have e3 := l17b fl la lt S
  simp only [f17, t17, Tr.val_test, Tr.val_fin, e1, g89, e2, isBrk, b17_0, outB, e3, b17_2, Option.isSome_some, Option.getD_some, if_true]

end Go.Vm.Mo

namespace Go.Vm.Mo
open Go
set_option linter.unusedVariables false
set_option linter.unusedSimpArgs false

def cE (n : Nat) (l : List Int) (k : Nat) : Int :=
  firstNZ [if (!stB n (li l k)) = true then 2 else 0, if (decide (0 < k) && decide (li l k ≤ li l (k - 1))) = true then 9 else 0]

theorem cE_cases (n : Nat) (l : List Int) (k : Nat) : cE n l k = if stB n (li l k) = true then (if (decide (0 < k) && decide (li l k ≤ li l (k - 1))) = true then 9 else 0) else 2 := by
  unfold cE
  rcases Bool.eq_false_or_eq_true (stB n (li l k)) with h1 | h1 <;> rcases Bool.eq_false_or_eq_true (decide (0 < k) && decide (li l k ≤ li l (k - 1))) with h2 | h2 <;> simp only [h1, h2, firstNZ, Bool.not_true, Bool.not_false, if_true, if_false, Bool.false_eq_true] <;> rfl

theorem l111s (fl : List ByteArray) (la : List AC) (lt : List TS) (l : List Int) (hn : fl.length ≤ 8) (h : l.length ≤ 1000) : l111_0_1 ((l, (l.length : Int), (0 : Int), ()), (fl, la, lt, ()), (l, ()), ()) = match first (fun k => !decide (cE fl.length l k = 0)) l.length 0 with
    | some k => some (.inr (((k : Int), cE fl.length l k, ()), (fl, la, lt, ()), (l, ()), ()))
    | none => some (.inl ((), (fl, la, lt, ()), (l, ()), ())) := by
  refine itr_search (fun i => ((l, (l.length : Int), (i : Int), ()), (fl, la, lt, ()), (l, ()), ())) (fun k => !decide (cE fl.length l k = 0)) (fun k => (((k : Int), cE fl.length l k, ()), (fl, la, lt, ()), (l, ()), ())) (n := l.length) ?_ ?_ (lt_rounds (by omega))
  · intro i hi
    have b0 : (!decide ((l.length : Int) ≤ (i : Int))) = true := nT (by omega)
    have b1 : (decide ((0 : Int) ≤ (i : Int)) && decide ((i : Int) < (l.length : Int))) = true := dA (by omega) (by omega)
    have hd : ∀ j, List.getD l j (0 : Int) = li l j := fun _ => rfl
    have e1 := f91_eq fl la lt (li l i) hn
    have c80 : ∀ (b : Bool) (x : Int), f80 (b, x, ()) = some (if b = true then x else 0, ()) := fun b x => f80_eq _
    have c79 : ∀ x y : Int, f79 ([x, y], ()) = some (firstNZ [x, y], ()) := f79_two
    by_cases h0 : i = 0
    · have b2 : (!decide ((i : Int) ≤ 0)) = false := nF (by omega)
      have b3 : decide (0 < i) = false := dF (by omega)
      simp only [s111_0_1, t111_0_1, Tr.val_test, Tr.val_fin, Tr.val_stop, leF_eq, eqF_eq, b0, b1, b2, if_true, if_false, Bool.false_eq_true, Int.toNat_natCast, hd, e1, g91, c80, g80, c79, g79, Option.isSome_some, Option.getD_some, wrap64_nat (show i ≤ 9223372036854775806 by omega), cE, b3, Bool.false_and]
    · have b2 : (!decide ((i : Int) ≤ 0)) = true := nT (by omega)
      have b3 : decide (0 < i) = true := dT (by omega)
      have hw : wrap64 ((i : Int) - 1) = ((i - 1 : Nat) : Int) := by rw [wrap64_id (by omega) (by omega)]; omega
      have b4 : (decide ((0 : Int) ≤ ((i - 1 : Nat) : Int)) && decide (((i - 1 : Nat) : Int) < (l.length : Int))) = true := dA (by omega) (by omega)
      simp only [s111_0_1, t111_0_1, Tr.val_test, Tr.val_fin, Tr.val_stop, leF_eq, eqF_eq, b0, b1, b2, if_true, if_false, Bool.false_eq_true, Int.toNat_natCast, hd, hw, b4, e1, g91, c80, g80, c79, g79, Option.isSome_some, Option.getD_some, wrap64_nat (show i ≤ 9223372036854775806 by omega), cE, b3, Bool.true_and]
  · simp [s111_0_1, t111_0_1, leF_eq]

theorem l36a (fl : List ByteArray) (la : List AC) (lt : List TS) (st : Int) (l : List Int) (hn : fl.length ≤ 8) (h : l.length ≤ 1000) : l36_0 ((st, l, (0 : Int), ()), (fl, la, lt, ()), ()) = match first (fun k => !decide (cE fl.length l k = 0)) l.length 0 with
    | some k => some (.inr (((k : Int), cE fl.length l k, ()), (fl, la, lt, ()), ()))
    | none => some (.inl ((st, l, ()), (fl, la, lt, ()), ())) := by
  refine itr_search (fun i => ((st, l, (i : Int), ()), (fl, la, lt, ()), ())) (fun k => !decide (cE fl.length l k = 0)) (fun k => (((k : Int), cE fl.length l k, ()), (fl, la, lt, ()), ())) (n := l.length) ?_ ?_ (lt_rounds (by omega))
  · intro i hi
    have b0 : (!decide ((l.length : Int) ≤ (i : Int))) = true := nT (by omega)
    have b1 : (decide ((0 : Int) ≤ (i : Int)) && decide ((i : Int) < (l.length : Int))) = true := dA (by omega) (by omega)
    have hd : ∀ j, List.getD l j (0 : Int) = li l j := fun _ => rfl
    have e1 := f116_eq fl la lt (li l i) hn
    have z9 : (!decide ((9 : Int) = 0)) = true := rfl
    have z2 : (!decide ((2 : Int) = 0)) = true := rfl
    have z0 : (!decide ((0 : Int) = 0)) = false := rfl
    rw [cE_cases]
    rcases Bool.eq_false_or_eq_true (stB fl.length (li l i)) with h1 | h1
    · by_cases h0 : i = 0
      · have b2 : (!decide ((i : Int) ≤ 0)) = false := nF (by omega)
        have b3 : decide (0 < i) = false := dF (by omega)
        simp only [s36_0, t36_0, Tr.val_test, Tr.val_fin, Tr.val_stop, leF_eq, eqF_eq, b0, b1, b2, if_true, if_false, Bool.false_eq_true, Int.toNat_natCast, hd, e1, g116, h1, Bool.not_true, Option.isSome_some, Option.getD_some, wrap64_nat (show i ≤ 9223372036854775806 by omega), b3, Bool.false_and, z0, decide_true]
      · have b2 : (!decide ((i : Int) ≤ 0)) = true := nT (by omega)
        have b3 : decide (0 < i) = true := dT (by omega)
        have hw : wrap64 ((i : Int) - 1) = ((i - 1 : Nat) : Int) := by rw [wrap64_id (by omega) (by omega)]; omega
        have b4 : (decide ((0 : Int) ≤ ((i - 1 : Nat) : Int)) && decide (((i - 1 : Nat) : Int) < (l.length : Int))) = true := dA (by omega) (by omega)
        rcases Bool.eq_false_or_eq_true (decide (li l i ≤ li l (i - 1))) with h2 | h2 <;>
        simp only [s36_0, t36_0, Tr.val_test, Tr.val_fin, Tr.val_stop, leF_eq, eqF_eq, b0, b1, b2, if_true, if_false, Bool.false_eq_true, Int.toNat_natCast, hd, hw, b4, e1, g116, h1, h2, Bool.not_true, Option.isSome_some, Option.getD_some, wrap64_nat (show i ≤ 9223372036854775806 by omega), b3, Bool.true_and, z0, z9, decide_true]
    · simp only [s36_0, t36_0, Tr.val_test, Tr.val_fin, Tr.val_stop, leF_eq, eqF_eq, b0, b1, if_true, if_false, Bool.false_eq_true, Int.toNat_natCast, hd, e1, g116, h1, Bool.not_false, Option.isSome_some, Option.getD_some, z2]
  · simp [s36_0, t36_0, leF_eq]

/-! ### Whether it is in the set -/

theorem l159 (l : List Int) (x : Int) (h : l.length ≤ 1000) : l159_0 ((l, x, (l.length : Int), (0 : Int), ()), ()) = match first (fun i => decide (li l i = x)) l.length 0 with
    | some k => some (.inr (((k : Int), ()), ()))
    | none => some (.inl ((), ())) := by
  refine itr_search (fun i => ((l, x, (l.length : Int), (i : Int), ()), ())) (fun i => decide (li l i = x)) (fun k => (((k : Int), ()), ())) (n := l.length) ?_ ?_ (lt_rounds (by omega))
  · intro i hi
    have b0 : (!decide ((l.length : Int) ≤ (i : Int))) = true := nT (by omega)
    have b1 : (decide ((0 : Int) ≤ (i : Int)) && decide ((i : Int) < (l.length : Int))) = true := dA (by omega) (by omega)
    have hd : ∀ j, List.getD l j (0 : Int) = li l j := fun _ => rfl
    have hc : decide (x = li l i) = decide (li l i = x) := decide_eq_decide.2 ⟨Eq.symm, Eq.symm⟩
    simp only [s159_0, t159_0, Tr.val_test, Tr.val_fin, Tr.val_stop, leF_eq, eqF_eq, b0, b1, if_true, Int.toNat_natCast, hd, hc, wrap64_nat (show i ≤ 9223372036854775806 by omega)]
  · simp [s159_0, t159_0, leF_eq]

theorem f113_eq (l : List Int) (x : Int) (h : l.length ≤ 1000) : f113 (l, x, ()) = some (inL l x, ()) := by
  have hl := l159 l x h
  have e : f159 (l, x, ()) = some (match first (fun i => decide (li l i = x)) l.length 0 with
    | some k => (k : Int)
    | none => -1, ()) := by
    simp only [f159, t159, Tr.val_test, Tr.val_fin]
    cases hf : first (fun i => decide (li l i = x)) l.length 0 with
    | none =>
      rw [hf] at hl
      simp only [hl, isRet, Option.isSome_some, if_true, if_false, Bool.false_eq_true]
    | some k =>
      rw [hf] at hl
      simp only [hl, isRet, r159_0, outR, Option.isSome_some, if_true]
  unfold inL
  simp only [f113, t113, Tr.val_test, Tr.val_fin, e, g159, leF_eq, Option.isSome_some, Option.getD_some, if_true]
  cases hf : first (fun i => decide (li l i = x)) l.length 0 with
  | none => rfl
  | some k => simp

/-! ### Harm, and open ends -/

def mt (l : List MT) (i : Nat) : MT := l.getD i ((0 : Int), (0 : Int), ())
theorem mt_map {lt : List TS} {i : Nat} (h : i < lt.length) : mt (lt.map mkT) i = mkT (ts lt i) := by
  unfold mt ts
  rw [List.getD_eq_getElem?_getD, List.getD_eq_getElem?_getD, List.getElem?_map, List.getElem?_eq_getElem h]
  rfl

def harmed (lt : List TS) (s : Nat) : Bool := (first (fun i => hold s (ts lt i)) lt.length 0).isSome
def openA (la : List AC) (l : List Int) (s i : Nat) : Bool := can la s i && !inL l ((new s (acA la i).2.2.1 : Nat) : Int)
def dE (la : List AC) (lt : List TS) (l : List Int) (s : Nat) : Int := if harmed lt s = true then 22 else if (first (openA la l s) la.length 0).isSome = true then 21 else 0

theorem f104_eq {fl : List ByteArray} {la : List AC} {lt : List TS} (S : Sm fl la lt) (O : OkM fl la lt) {s : Nat} (hs : s < 256) : f104 ((s : Int), lt.map mkT, ()) = some (harmed lt s, ()) := by
  have hz := S.t
  have hl : l197_0 ((lt.map mkT, (s : Int), ((lt.map mkT).length : Int), (0 : Int), ()), ()) = match first (fun i => hold s (ts lt i)) lt.length 0 with
      | some k => some (.inr (((k : Int), ()), ()))
      | none => some (.inl ((), ())) := by
    rw [List.length_map]
    refine itr_search (fun i => ((lt.map mkT, (s : Int), (lt.length : Int), (i : Int), ()), ())) (fun i => hold s (ts lt i)) (fun k => (((k : Int), ()), ())) (n := lt.length) ?_ ?_ (lt_rounds (by omega))
    · intro i hi
      have b0 : (!decide ((lt.length : Int) ≤ (i : Int))) = true := nT (by omega)
      have b1 : (decide ((0 : Int) ≤ (i : Int)) && decide ((i : Int) < ((lt.map mkT).length : Int))) = true := dA (by omega) (by rw [List.length_map]; omega)
      have hd : List.getD (lt.map mkT) i ((0 : Int), (0 : Int), ()) = mkT (ts lt i) := mt_map hi
      have e1 := f148_eq (O.harms i hi) hs
      simp only [s197_0, t197_0, Tr.val_test, Tr.val_fin, Tr.val_stop, leF_eq, b0, b1, if_true, Int.toNat_natCast, hd, mkT, e1, g148, Option.isSome_some, Option.getD_some, wrap64_nat (show i ≤ 9223372036854775806 by omega)]
    · simp [s197_0, t197_0, leF_eq]
  unfold harmed
  cases hf : first (fun i => hold s (ts lt i)) lt.length 0 with
  | none =>
    rw [hf] at hl
    simp only [f104, t104, Tr.val_test, Tr.val_fin, hl, isRet, Option.isSome_some, Option.isSome_none, if_true, if_false, Bool.false_eq_true]
  | some k =>
    rw [hf] at hl
    have d1 : decide ((0 : Int) ≤ (k : Int)) = true := dT (by omega)
    simp only [f104, t104, Tr.val_test, Tr.val_fin, hl, isRet, r197_0, outR, leF_eq, d1, Option.isSome_some, if_true]

theorem l147c (fl : List ByteArray) (la : List AC) (lt : List TS) (s : Nat) (l : List Int) (hs : s < 256) (S : Sm fl la lt) (O : OkM fl la lt) (h : l.length ≤ 1000) : l147_0 ((la.map mkA, ((la.map mkA).length : Int), (0 : Int), ()), (), ((s : Int), ()), (l, ()), ((0 : Int), ()), ()) = match first (openA la l s) la.length 0 with
    | some _ => some (.inr ((), (), ((s : Int), ()), (l, ()), ((21 : Int), ()), ()))
    | none => some (.inl ((), (), ((s : Int), ()), (l, ()), ((0 : Int), ()), ())) := by
  have hz := S.a
  rw [List.length_map]
  refine itr_search (fun i => ((la.map mkA, (la.length : Int), (i : Int), ()), (), ((s : Int), ()), (l, ()), ((0 : Int), ()), ())) (openA la l s) (fun _ => ((), (), ((s : Int), ()), (l, ()), ((21 : Int), ()), ())) (n := la.length) ?_ ?_ (lt_rounds (by omega))
  · intro i hi
    have b0 : (!decide ((la.length : Int) ≤ (i : Int))) = true := nT (by omega)
    have b1 : (decide ((0 : Int) ≤ (i : Int)) && decide ((i : Int) < ((la.map mkA).length : Int))) = true := dA (by omega) (by rw [List.length_map]; omega)
    have hd : List.getD (la.map mkA) i (((0 : Int), (0 : Int), ()), ((0 : Int), (0 : Int), ()), ()) = mkA (acA la i) := ma_map hi
    have e1 := f148_eq (O.needs i hi) hs
    have e2 := f149_eq (O.does i hi) hs
    have e3 : IntKind.wrap .i64 ((new s (acA la i).2.2.1 : Nat) : Int) = ((new s (acA la i).2.2.1 : Nat) : Int) := wrapI (by have := new_lt (O.does i hi) hs; omega)
    have e4 := f113_eq l ((new s (acA la i).2.2.1 : Nat) : Int) h
    have ho : openA la l s i = (hold s (acA la i).2.1 && !inL l ((new s (acA la i).2.2.1 : Nat) : Int)) := rfl
    rw [ho]
    simp only [s147_0, t147_0, Tr.val_test, Tr.val_fin, Tr.val_stop, leF_eq, b0, b1, if_true, Int.toNat_natCast, hd, mkA, mkT, e1, g148, e2, g149, e3, e4, g113, Option.isSome_some, Option.getD_some, wrap64_nat (show i ≤ 9223372036854775806 by omega)]
    rcases Bool.eq_false_or_eq_true (hold s (acA la i).2.1) with h1 | h1
    · rcases Bool.eq_false_or_eq_true (!inL l ((new s (acA la i).2.2.1 : Nat) : Int)) with h2 | h2 <;> simp only [h1, h2, if_true, if_false, Bool.false_eq_true, Bool.true_and]
    · simp only [h1, if_false, Bool.false_eq_true, Bool.false_and]
  · simp [s147_0, t147_0, leF_eq]

theorem f115_eq {fl : List ByteArray} {la : List AC} {lt : List TS} (S : Sm fl la lt) (O : OkM fl la lt) {s : Nat} (hs : s < 256) (l : List Int) (h : l.length ≤ 1000) : f115 ((la.map mkA, lt.map mkT, ()), (s : Int), l, ()) = some (dE la lt l s, ()) := by
  have e1 := f104_eq S O hs
  have e2 := l147c fl la lt s l hs S O h
  unfold dE
  rcases Bool.eq_false_or_eq_true (harmed lt s) with h1 | h1
  · simp only [f115, t115, Tr.val_test, Tr.val_fin, e1, g104, h1, Option.isSome_some, Option.getD_some, if_true]
  · cases hf : first (openA la l s) la.length 0 with
    | none =>
      rw [hf] at e2
      simp only [f115, t115, Tr.val_test, Tr.val_fin, e1, g104, h1, e2, isRet, Option.isSome_some, Option.isSome_none, Option.getD_some, if_true, if_false, Bool.false_eq_true]
    | some k =>
      rw [hf] at e2
      simp only [f115, t115, Tr.val_test, Tr.val_fin, e1, g104, h1, e2, isRet, r147_0, outR, Option.isSome_some, Option.getD_some, if_true, if_false, Bool.false_eq_true]

/-- All of the set are states. -/
def Sts (l : List Int) : Prop := ∀ i, i < l.length → ((li l i).toNat : Int) = li l i ∧ (li l i).toNat < 256

theorem sts_of {n : Nat} {l : List Int} (hn : n ≤ 8) (h : first (fun k => !decide (cE n l k = 0)) l.length 0 = none) : Sts l := by
  intro i hi
  have h0 : cE n l i = 0 := by simpa using first_none h i (by omega) (by omega)
  rw [cE_cases] at h0
  rcases Bool.eq_false_or_eq_true (stB n (li l i)) with h1 | h1
  · obtain ⟨w1, w2⟩ := wi_iff.1 h1
    have hp := p2le hn
    generalize 2 ^ n = p at hp w2
    exact ⟨by omega, by omega⟩
  · rw [h1] at h0; cases h0

theorem l111t {fl : List ByteArray} {la : List AC} {lt : List TS} (S : Sm fl la lt) (O : OkM fl la lt) (l : List Int) (h : l.length ≤ 1000) (hv : Sts l) : l111_0_2 ((l, (l.length : Int), (0 : Int), ()), (la.map mkA, lt.map mkT, ()), (l, ()), ()) = match first (fun k => !decide (dE la lt l (li l k).toNat = 0)) l.length 0 with
    | some k => some (.inr (((k : Int), dE la lt l (li l k).toNat, ()), (la.map mkA, lt.map mkT, ()), (l, ()), ()))
    | none => some (.inl ((), (la.map mkA, lt.map mkT, ()), (l, ()), ())) := by
  refine itr_search (fun i => ((l, (l.length : Int), (i : Int), ()), (la.map mkA, lt.map mkT, ()), (l, ()), ())) (fun k => !decide (dE la lt l (li l k).toNat = 0)) (fun k => (((k : Int), dE la lt l (li l k).toNat, ()), (la.map mkA, lt.map mkT, ()), (l, ()), ())) (n := l.length) ?_ ?_ (lt_rounds (by omega))
  · intro i hi
    have b0 : (!decide ((l.length : Int) ≤ (i : Int))) = true := nT (by omega)
    have b1 : (decide ((0 : Int) ≤ (i : Int)) && decide ((i : Int) < (l.length : Int))) = true := dA (by omega) (by omega)
    have hd : ∀ j, List.getD l j (0 : Int) = li l j := fun _ => rfl
    obtain ⟨v1, v2⟩ := hv i hi
    have e0 : IntKind.wrap .u64 (li l i) = (((li l i).toNat : Nat) : Int) := by
      have := wrapU (n := (li l i).toNat) (lt64 v2)
      rw [v1] at this
      rw [v1, this]
    have e1 := f115_eq S O v2 l h
    simp only [s111_0_2, t111_0_2, Tr.val_test, Tr.val_fin, Tr.val_stop, leF_eq, eqF_eq, b0, b1, if_true, Int.toNat_natCast, hd, e0, e1, g115, Option.isSome_some, Option.getD_some, wrap64_nat (show i ≤ 9223372036854775806 by omega)]
  · simp [s111_0_2, t111_0_2, leF_eq]

/-- The place and the refusal of a set. -/
def ckC (n : Nat) (la : List AC) (lt : List TS) (st : Int) (l : List Int) : Int × Int :=
  match first (fun k => !decide (cE n l k = 0)) l.length 0 with
  | some k => ((k : Int), cE n l k)
  | none => if (!inL l st) = true then (0, 6) else match first (fun k => !decide (dE la lt l (li l k).toNat = 0)) l.length 0 with
    | some k => ((k : Int), dE la lt l (li l k).toNat)
    | none => (0, 0)

theorem f34_bad {fl : List ByteArray} {la : List AC} {lt : List TS} {st : Int} (l : List Int) (S : Sm fl la lt) (h : sE fl la lt st ≠ 0) : f34 ((fl, la, lt, ()), st, l, ()) = some ((0 : Int), sE fl la lt st, ()) := by
  have e1 := f92_bad S h
  have b0 : (!decide (sE fl la lt st = 0)) = true := nT h
  simp only [f34, t34, Tr.val_test, Tr.val_fin, e1, g92, eqF_eq, b0, Option.isSome_some, Option.getD_some, if_true]

theorem f34_ok {fl : List ByteArray} {la : List AC} {lt : List TS} {s : Nat} (l : List Int) (S : Sm fl la lt) (h : sE fl la lt (s : Int) = 0) (hs : s < 256) (hl : l.length ≤ 1000) : f34 ((fl, la, lt, ()), (s : Int), l, ()) = some ((ckC fl.length la lt s l).1, (ckC fl.length la lt s l).2, ()) := by
  have h0 := (sE_zero h).1
  have O := okM_of h0
  have hn := (ckM_zero h0).n
  have e1 := f92_ok S h hs
  have e2 := l111s fl la lt l hn hl
  have e3 := f113_eq l (s : Int) hl
  have z0 : (!decide ((0 : Int) = 0)) = false := rfl
  unfold ckC
  cases hf : first (fun k => !decide (cE fl.length l k = 0)) l.length 0 with
  | some k =>
    rw [hf] at e2
    have hk := (first_some hf).2.2.1
    simp only [f34, t34, Tr.val_test, Tr.val_fin, e1, g92, eqF_eq, z0, e2, isRet, r111_0_1, outR, hk, Option.isSome_some, Option.getD_some, if_true, if_false, Bool.false_eq_true, decide_true, Bool.not_true]
  | none =>
    rw [hf] at e2
    have hv := sts_of hn hf
    have e4 := l111t S O l hl hv
    rcases Bool.eq_false_or_eq_true (!inL l (s : Int)) with h1 | h1
    · simp only [f34, t34, Tr.val_test, Tr.val_fin, e1, g92, eqF_eq, z0, e2, isRet, b111_0_1, outB, e3, g113, h1, Option.isSome_some, Option.getD_some, if_true, if_false, Bool.false_eq_true, decide_true, Bool.not_true]
    · cases hf2 : first (fun k => !decide (dE la lt l (li l k).toNat = 0)) l.length 0 with
      | some k =>
        rw [hf2] at e4
        simp only [f34, t34, Tr.val_test, Tr.val_fin, e1, g92, eqF_eq, z0, e2, isRet, b111_0_1, outB, e3, g113, h1, e4, r111_0_2, outR, Option.isSome_some, Option.getD_some, if_true, if_false, Bool.false_eq_true, decide_true, Bool.not_true]
      | none =>
        rw [hf2] at e4
        simp only [f34, t34, Tr.val_test, Tr.val_fin, e1, g92, eqF_eq, z0, e2, isRet, b111_0_1, outB, e3, g113, h1, e4, Option.isSome_some, Option.getD_some, if_true, if_false, Bool.false_eq_true, decide_true, Bool.not_true]

/-! ### The reference -/

theorem f32_eq {fl : List ByteArray} {la : List AC} {lt : List TS} (S : Sm fl la lt) (O : OkM fl la lt) {s : Nat} (hs : s < 256) : f32 ((fl, la, lt, ()), (s : Int), ()) = some (harmed lt s, ()) := by
  have hz := S.t
  have hl : l32_0 (((s : Int), (0 : Int), ()), (fl, la, lt, ()), ()) = match first (fun i => hold s (ts lt i)) lt.length 0 with
      | some _ => some (.inr ((true, ()), (fl, la, lt, ()), ()))
      | none => some (.inl ((), (fl, la, lt, ()), ())) := by
    refine itr_search (fun i => (((s : Int), (i : Int), ()), (fl, la, lt, ()), ())) (fun i => hold s (ts lt i)) (fun _ => ((true, ()), (fl, la, lt, ()), ())) (n := lt.length) ?_ ?_ (lt_rounds (by omega))
    · intro i hi
      have b0 : (!decide ((lt.length : Int) ≤ (i : Int))) = true := nT (by omega)
      have b1 : (decide ((0 : Int) ≤ (i : Int)) && decide ((i : Int) < (lt.length : Int))) = true := dA (by omega) (by omega)
      have hd : List.getD lt i (([] : List Int), ([] : List Int), ()) = ts lt i := rfl
      have e1 := f100_eq (O.harms i hi) hs (S.s.harms i hi)
      simp only [s32_0, t32_0, Tr.val_test, Tr.val_fin, Tr.val_stop, leF_eq, b0, b1, if_true, Int.toNat_natCast, hd, e1, g100, Option.isSome_some, Option.getD_some, wrap64_nat (show i ≤ 9223372036854775806 by omega)]
    · simp [s32_0, t32_0, leF_eq]
  unfold harmed
  cases hf : first (fun i => hold s (ts lt i)) lt.length 0 with
  | none =>
    rw [hf] at hl
    simp only [f32, t32, Tr.val_test, Tr.val_fin, hl, isRet, Option.isSome_some, Option.isSome_none, if_true, if_false, Bool.false_eq_true]
  | some k =>
    rw [hf] at hl
    simp only [f32, t32, Tr.val_test, Tr.val_fin, hl, isRet, r32_0, outR, Option.isSome_some, if_true]

theorem l36c {fl : List ByteArray} {la : List AC} {lt : List TS} (S : Sm fl la lt) (O : OkM fl la lt) (l : List Int) (h : l.length ≤ 1000) (hv : Sts l) (k : Nat) (hk : k < l.length) : l36_4 ((l, (k : Int), (0 : Int), ()), (fl, la, lt, ()), ()) = match first (openA la l (li l k).toNat) la.length 0 with
    | some _ => some (.inr (((k : Int), (21 : Int), ()), (fl, la, lt, ()), ()))
    | none => some (.inl ((l, (k : Int), ()), (fl, la, lt, ()), ())) := by
  have hz := S.a
  obtain ⟨v1, v2⟩ := hv k hk
  refine itr_search (fun i => ((l, (k : Int), (i : Int), ()), (fl, la, lt, ()), ())) (openA la l (li l k).toNat) (fun _ => (((k : Int), (21 : Int), ()), (fl, la, lt, ()), ())) (n := la.length) ?_ ?_ (lt_rounds (by omega))
  · intro i hi
    have b0 : (!decide ((la.length : Int) ≤ (i : Int))) = true := nT (by omega)
    have b1 : (decide ((0 : Int) ≤ (k : Int)) && decide ((k : Int) < (l.length : Int))) = true := dA (by omega) (by omega)
    have hd : ∀ j, List.getD l j (0 : Int) = li l j := fun _ => rfl
    have e1 : f26 ((fl, la, lt, ()), li l k, (i : Int), ()) = some (if can la (li l k).toNat i = true then ((new (li l k).toNat (acA la i).2.2.1 : Nat) : Int) else 0, can la (li l k).toNat i, ()) := by
      have := f26_eq fl la lt (li l k).toNat i v2 hi S O
      rw [v1] at this
      exact this
    have ho : openA la l (li l k).toNat i = (can la (li l k).toNat i && !inL l ((new (li l k).toNat (acA la i).2.2.1 : Nat) : Int)) := rfl
    rw [ho]
    rcases Bool.eq_false_or_eq_true (can la (li l k).toNat i) with h1 | h1
    · rw [h1, if_pos rfl] at e1
      have e4 := f51_eq l ((new (li l k).toNat (acA la i).2.2.1 : Nat) : Int) h
      rcases Bool.eq_false_or_eq_true (!inL l ((new (li l k).toNat (acA la i).2.2.1 : Nat) : Int)) with h2 | h2 <;>
      simp only [s36_4, t36_4, Tr.val_test, Tr.val_fin, Tr.val_stop, leF_eq, b0, b1, if_true, if_false, Bool.false_eq_true, Int.toNat_natCast, hd, e1, g26, h1, e4, g51, h2, Option.isSome_some, Option.getD_some, Bool.true_and, wrap64_nat (show i ≤ 9223372036854775806 by omega)]
    · rw [h1, if_neg Bool.false_ne_true] at e1
      simp only [s36_4, t36_4, Tr.val_test, Tr.val_fin, Tr.val_stop, leF_eq, b0, b1, if_true, if_false, Bool.false_eq_true, Int.toNat_natCast, hd, e1, g26, h1, Option.isSome_some, Option.getD_some, Bool.false_and, wrap64_nat (show i ≤ 9223372036854775806 by omega)]
  · simp [s36_4, t36_4, leF_eq]

theorem l36b {fl : List ByteArray} {la : List AC} {lt : List TS} (S : Sm fl la lt) (O : OkM fl la lt) (l : List Int) (h : l.length ≤ 1000) (hv : Sts l) : l36_2 ((l, (0 : Int), ()), (fl, la, lt, ()), ()) = match first (fun k => !decide (dE la lt l (li l k).toNat = 0)) l.length 0 with
    | some k => some (.inr (((k : Int), dE la lt l (li l k).toNat, ()), (fl, la, lt, ()), ()))
    | none => some (.inl ((), (fl, la, lt, ()), ())) := by
  refine itr_search (fun i => ((l, (i : Int), ()), (fl, la, lt, ()), ())) (fun k => !decide (dE la lt l (li l k).toNat = 0)) (fun k => (((k : Int), dE la lt l (li l k).toNat, ()), (fl, la, lt, ()), ())) (n := l.length) ?_ ?_ (lt_rounds (by omega))
  · intro i hi
    have b0 : (!decide ((l.length : Int) ≤ (i : Int))) = true := nT (by omega)
    have b1 : (decide ((0 : Int) ≤ (i : Int)) && decide ((i : Int) < (l.length : Int))) = true := dA (by omega) (by omega)
    have hd : ∀ j, List.getD l j (0 : Int) = li l j := fun _ => rfl
    obtain ⟨v1, v2⟩ := hv i hi
    have e1 : f32 ((fl, la, lt, ()), li l i, ()) = some (harmed lt (li l i).toNat, ()) := by
      have := f32_eq S O v2
      rw [v1] at this
      exact this
    have e2 := l36c S O l h hv i hi
    have z22 : (!decide ((22 : Int) = 0)) = true := rfl
    have z21 : (!decide ((21 : Int) = 0)) = true := rfl
    have z0 : (!decide ((0 : Int) = 0)) = false := rfl
    have hdE : dE la lt l (li l i).toNat = if harmed lt (li l i).toNat = true then 22 else if (first (openA la l (li l i).toNat) la.length 0).isSome = true then 21 else 0 := rfl
    rw [hdE]
    rcases Bool.eq_false_or_eq_true (harmed lt (li l i).toNat) with h1 | h1
    · simp only [s36_2, t36_2, Tr.val_test, Tr.val_fin, Tr.val_stop, leF_eq, b0, b1, if_true, Int.toNat_natCast, hd, e1, g32, h1, z22, Option.isSome_some, Option.getD_some]
    · cases hf : first (openA la l (li l i).toNat) la.length 0 with
      | none =>
        rw [hf] at e2
        simp only [s36_2, t36_2, Tr.val_test, Tr.val_fin, Tr.val_stop, leF_eq, b0, b1, if_true, if_false, Bool.false_eq_true, Int.toNat_natCast, hd, e1, g32, h1, e2, isRet, b36_4, outB, z0, Option.isSome_some, Option.isSome_none, Option.getD_some, decide_true, Bool.not_true, wrap64_nat (show i ≤ 9223372036854775806 by omega)]
      | some k =>
        rw [hf] at e2
        simp only [s36_2, t36_2, Tr.val_test, Tr.val_fin, Tr.val_stop, leF_eq, b0, b1, if_true, if_false, Bool.false_eq_true, Int.toNat_natCast, hd, e1, g32, h1, e2, isRet, r36_4, outR, z21, Option.isSome_some, Option.getD_some]
  · simp [s36_2, t36_2, leF_eq]

theorem f36_eq {fl : List ByteArray} {la : List AC} {lt : List TS} {s : Nat} (l : List Int) (S : Sm fl la lt) (h : sE fl la lt (s : Int) = 0) (hs : s < 256) (hl : l.length ≤ 1000) : f36 ((fl, la, lt, ()), (s : Int), l, ()) = some ((ckC fl.length la lt s l).1, (ckC fl.length la lt s l).2, ()) := by
  have h0 := (sE_zero h).1
  have O := okM_of h0
  have hn := (ckM_zero h0).n
  have e2 := l36a fl la lt s l hn hl
  have e3 := f51_eq l (s : Int) hl
  unfold ckC
  cases hf : first (fun k => !decide (cE fl.length l k = 0)) l.length 0 with
  | some k =>
    rw [hf] at e2
    simp only [f36, t36, Tr.val_test, Tr.val_fin, e2, isRet, r36_0, outR, Option.isSome_some, if_true]
  | none =>
    rw [hf] at e2
    have hv := sts_of hn hf
    have e4 := l36b S O l hl hv
    rcases Bool.eq_false_or_eq_true (!inL l (s : Int)) with h1 | h1
    · simp only [f36, t36, Tr.val_test, Tr.val_fin, e2, isRet, b36_0, outB, e3, g51, h1, Option.isSome_some, Option.getD_some, if_true, if_false, Bool.false_eq_true]
    · cases hf2 : first (fun k => !decide (dE la lt l (li l k).toNat = 0)) l.length 0 with
      | some k =>
        rw [hf2] at e4
        simp only [f36, t36, Tr.val_test, Tr.val_fin, e2, isRet, b36_0, outB, e3, g51, h1, e4, r36_2, outR, Option.isSome_some, Option.getD_some, if_true, if_false, Bool.false_eq_true]
      | none =>
        rw [hf2] at e4
        simp only [f36, t36, Tr.val_test, Tr.val_fin, e2, isRet, b36_0, outB, e3, g51, h1, e4, Option.isSome_some, Option.getD_some, if_true, if_false, Bool.false_eq_true]

/-! ### The law -/

theorem f5_eq (fl : List ByteArray) (la : List AC) (lt : List TS) (st : Int) (l : List Int) : f5 ((fl, la, lt, ()), st, l, ()) = some (true, ()) := by
  show (t5 fl la lt st l).val = _
  unfold t5
  rcases f15_ex fl la lt with e15 | ⟨e15, S⟩
  · simp only [Tr.val_test, Tr.val_fin, e15, g15, Option.isSome_some, Option.getD_some, Bool.not_false, if_true]
  by_cases hl : 300 < l.length
  · have b0 : (!decide ((l.length : Int) ≤ 300)) = true := nT (by omega)
    simp only [Tr.val_test, Tr.val_fin, e15, g15, leF_eq, b0, Option.isSome_some, Option.getD_some, Bool.not_true, if_true, if_false, Bool.false_eq_true]
  have b0 : (!decide ((l.length : Int) ≤ 300)) = false := nF (by omega)
  have e17 := f17_eq fl la lt S
  have e35 := f35_eq l (by omega)
  have e22 := f22_eq fl la lt st S
  by_cases h : sE fl la lt st = 0
  · obtain ⟨h0, s, hs, rfl⟩ := sE_zero h
    have c0 : (!decide (sE fl la lt (s : Int) = 0)) = false := nF h
    have e34 := f34_ok l S h hs (by omega)
    have e36 := f36_eq l S h hs (by omega)
    simp only [Tr.val_test, Tr.val_fin, e15, g15, leF_eq, eqF_eq, b0, e17, g17, e35, g35, e34, g34, e22, g22, c0, e36, g36, Option.isSome_some, Option.getD_some, Bool.not_true, if_true, if_false, Bool.false_eq_true, decide_true]
  · have c0 : (!decide (sE fl la lt st = 0)) = true := nT h
    have e34 := f34_bad l S h
    have z0 : decide ((0 : Int) = 0) = true := rfl
    simp only [Tr.val_test, Tr.val_fin, e15, g15, leF_eq, eqF_eq, b0, e17, g17, e35, g35, e34, g34, e22, g22, c0, z0, Option.isSome_some, Option.getD_some, Bool.not_true, if_true, if_false, Bool.false_eq_true, decide_true]

theorem law5 (d : Tys.data as5) (hw : Tys.Wf as5 d) : Pure1 Go.Proofs.Tryz.prog 5 as5 [.bool] d (true, ()) := by
  have h := f5_eq d.1.1 d.1.2.1 d.1.2.2.1 d.2.1 d.2.2.1
  have hp : p5.pre d = true := by
    show Option.isSome (f5 d) = true
    rw [show f5 d = some (true, ()) from h]; rfl
  have hg : p5.fn d = (true, ()) := by
    show (f5 d).getD _ = _
    rw [show f5 d = some (true, ()) from h]; rfl
  have := ok5.runs d hp
  rw [hg] at this
  exact this

end Go.Vm.Mo
