import Derived.Test.YtkhlccjbpejpjaaRsFc
import Derived.Test.YtkhlccjbpejpjaaA4
set_option linter.unusedVariables false
set_option linter.unusedSimpArgs false

namespace Go.Vm.Mo
open Go
set_option linter.unusedVariables false
set_option linter.unusedSimpArgs false

theorem first_map (bad : Nat → Bool) : ∀ (n i : Nat), first bad n (i + 1) = (first (fun k => bad (k + 1)) n i).map (· + 1)
  | 0, _ => rfl
  | n + 1, i => by
    simp only [first]
    split
    · rfl
    · exact first_map bad n (i + 1)

/-- The first that is not 0. -/
def firstNZ : List Int → Int
  | [] => 0
  | a :: l => if a = 0 then firstNZ l else a

theorem firstNZ_eq : ∀ l : List Int, (match first (fun i => !decide (l.getD i 0 = 0)) l.length 0 with
    | some k => l.getD k 0
    | none => 0) = firstNZ l
  | [] => rfl
  | a :: l => by
    simp only [List.length, first, firstNZ]
    by_cases ha : a = 0
    · subst ha
      have e := firstNZ_eq l
      have hf : first (fun i => !decide (((0 : Int) :: l).getD i 0 = 0)) l.length (0 + 1) = (first (fun i => !decide (l.getD i 0 = 0)) l.length 0).map (· + 1) := by
        rw [first_map]; rfl
      simp only [hf, List.getD_cons_zero, decide_true, Bool.not_true, Bool.false_eq_true, if_false, if_true]
      rw [← e]
      cases first (fun i => !decide (l.getD i 0 = 0)) l.length 0 with
      | none => rfl
      | some k => rfl
    · simp [ha]

theorem l88 (l : List Int) (h : l.length ≤ 1000000000) : l88_0 ((l, (l.length : Int), (0 : Int), ()), ()) = match first (fun i => !decide (l.getD i 0 = 0)) l.length 0 with
    | some k => some (.inr ((l.getD k 0, ()), ()))
    | none => some (.inl ((), ())) := by
  refine itr_search (fun i => ((l, (l.length : Int), (i : Int), ()), ())) (fun i => !decide (l.getD i 0 = 0)) (fun k => ((l.getD k 0, ()), ())) (n := l.length) ?_ ?_ (lt_rounds (by omega))
  · intro i hi
    simp only [s88_0, t88_0, Tr.val_test, leF_eq, eqF_eq]
    rw [if_pos (by simp; omega), if_pos (by simp; omega)]
    simp only [Int.toNat_natCast, wrap64_nat (show i ≤ 9223372036854775806 by omega)]
    rfl
  · simp [s88_0, t88_0, leF_eq]

theorem f88_eq (l : List Int) (h : l.length ≤ 1000000000) : f88 (l, ()) = some (firstNZ l, ()) := by
  simp only [f88, t88, Tr.val_test, r88_0, l88 l h, ← firstNZ_eq l]
  cases first (fun i => !decide (l.getD i 0 = 0)) l.length 0 with
  | none => rfl
  | some k => rfl

theorem f86_eq (d : Tys.data as86) : f86 d = some (if d.1 = true then d.2.1 else (0 : Int), ()) := by
  simp only [f86, t86, Tr.val_test]
  split <;> rfl

def wi (lo hi x : Int) : Bool := decide (lo ≤ x) && decide (x ≤ hi)

theorem wi_iff {lo hi x : Int} : wi lo hi x = true ↔ lo ≤ x ∧ x ≤ hi := by simp [wi]

theorem f22_eq (d : Tys.data as22) : f22 d = some (wi d.2.1 d.2.2.1 d.1, ()) := by
  simp only [f22, t22, Tr.val_test, Tr.val_fin, leF_eq, decide_eq_true_eq, wi]
  split <;> simp [*]

theorem l100 (lo hi : Int) (l : List Int) (h : l.length ≤ 1000000000) : l100_0 ((lo, hi, l, (l.length : Int), (0 : Int), ()), ()) = match first (fun i => !wi lo hi (l.getD i 0)) l.length 0 with
    | some _ => some (.inr ((false, ()), ()))
    | none => some (.inl ((), ())) := by
  refine itr_search (fun i => ((lo, hi, l, (l.length : Int), (i : Int), ()), ())) (fun i => !wi lo hi (l.getD i 0)) (fun _ => ((false, ()), ())) (n := l.length) ?_ ?_ (lt_rounds (by omega))
  · intro i hi'
    simp only [s100_0, t100_0, Tr.val_test, Tr.val_fin, leF_eq, Int.toNat_natCast, wrap64_nat (show i ≤ 9223372036854775806 by omega)]
    rw [if_pos (by simp; omega), if_pos (by simp; omega)]
    by_cases a0 : lo ≤ l.getD i 0
    · by_cases a1 : l.getD i 0 ≤ hi
      · simp only [wi, a0, a1, decide_true, Bool.and_self, Bool.not_true, if_true, if_false, Bool.false_eq_true]
      · simp only [wi, a0, a1, decide_true, decide_false, Bool.and_false, Bool.not_false, Bool.not_true, if_true, if_false, Bool.false_eq_true]
    · simp only [wi, a0, decide_false, Bool.false_and, Bool.not_false, if_true, if_false, Bool.false_eq_true]
  · simp [s100_0, t100_0, leF_eq]

theorem f100_eq (lo hi : Int) (l : List Int) (h : l.length ≤ 1000000000) : f100 (lo, hi, l, ()) = some ((first (fun i => !wi lo hi (l.getD i 0)) l.length 0).isNone, ()) := by
  have hl := l100 lo hi l h
  cases hf : first (fun i => !wi lo hi (l.getD i 0)) l.length 0 with
  | none =>
    rw [hf] at hl
    simp only [f100, t100, Tr.val_test, Tr.val_fin, hl, isRet, Option.isSome_some, Option.isNone_none, if_true, Bool.false_eq_true, if_false]
  | some k =>
    rw [hf] at hl
    simp only [f100, t100, Tr.val_test, Tr.val_fin, hl, isRet, r100_0, outR, Option.isSome_some, Option.isNone_some, if_true]

theorem f14_eq (l : List Int) (h : l.length ≤ 1000) : f14 (l, ()) = some (l, ()) := by
  simp only [f14, t14, Tr.val_test, Tr.val_fin, Tr.val_stop, List.nil_append]
  by_cases h0 : l.length = 0
  · have : l = [] := List.eq_nil_of_length_eq_zero h0
    subst this; rfl
  · rw [if_neg (by rw [beq_eq_true']; exact h0), if_neg (by rw [ble_eq_true']; omega), if_pos (by simp only [Bool.and_eq_true, ble_eq_true']; omega), if_pos (by rw [beq_eq_true']; omega)]

theorem wn64 {x : Int} (h1 : -9223372036854775807 ≤ x) (h2 : x ≤ 9223372036854775807) : IntKind.wrap .i64 (0 - x) = -x := by
  rw [← wrap64_eq, wrap64_id (by omega) (by omega)]
  omega

/-! Channels. -/

abbrev ch (c : List (List Int)) (i : Nat) : List Int := c.getD i []

theorem f88_two (a b : Int) : f88 ([a, b], ()) = some (if a = 0 then b else a, ()) := by
  rw [f88_eq _ (by simp)]
  simp only [firstNZ]
  by_cases h : a = 0
  · by_cases h2 : b = 0
    · simp [h, h2]
    · simp [h, h2]
  · simp [h]

/-! Copies; how many samples. -/

theorem copy_len (c : List (List Int)) (i : Nat) : (c.take i).length ≤ i := by simp; omega

theorem take_ch (c : List (List Int)) {i : Nat} (h : i < c.length) : c.take (i + 1) = c.take i ++ [ch c i] := by
  rw [List.take_succ_eq_append_getElem h]
  simp [ch, List.getD, h]

theorem l46 (c : List (List Int)) (h : c.length ≤ 1000) (hc : ∀ i, (ch c i).length ≤ 1000) : l46_0 ((c, [], (0 : Int), ()), ()) = some (.inl ((c, ()), ())) := by
  have := itr_brk (step := s46_0) (fun i => ((c, c.take i, (i : Int), ()), ())) (n := c.length) (m := rounds) (b := ((c, ()), ())) ?_ ?_ (lt_rounds (by omega))
  · exact this
  · intro i hi
    have e1 := f14_eq (ch c i) (hc i)
    simp only [ch] at e1
    simp only [s46_0, t46_0, Tr.val_test, Tr.val_fin, Tr.val_stop, leF_eq, Int.toNat_natCast, wrap64_nat (show i ≤ 9223372036854775806 by omega)]
    rw [if_pos (by simp; omega), if_pos (by simp; omega)]
    simp only [g14, e1, Option.isSome_some, Option.getD_some, if_true]
    have hl := copy_len c i
    rw [if_pos (by simp only [Bool.and_eq_true, ble_eq_true']; omega), take_ch c hi]
  · simp [s46_0, t46_0, leF_eq]

theorem f46_eq (c : List (List Int)) (h : c.length ≤ 1000) (hc : ∀ i, (ch c i).length ≤ 1000) : f46 (c, ()) = some (c, ()) := by
  simp only [f46, t46, Tr.val_test, Tr.val_fin, Tr.val_stop, l46 c h hc, isBrk, b46_0, outB, if_true]

def fitF (c : List (List Int)) : Option Nat := first (fun i => !decide (((ch c i).length : Int) ≤ 62)) c.length 0

def fits (c : List (List Int)) : Bool := (fitF c).isNone && decide ((c.length : Int) ≤ 9)

def dvF (x : Int) (l : List Int) : Nat → Int
  | 0 => x
  | i + 1 => euc (dvF x l i) (l.getD i 0)

theorem lt_r3 {n : Nat} (h : n ≤ 9223372036854775808) : n < rounds := by unfold rounds; omega

theorem l56i (l : List Int) (n i : Int) (a b : Int) (h : b.natAbs ≤ 9223372036854775808) : l92_2 ((a, b, l, n, i, ()), ()) = some (.inl ((euc a b, l, n, i, ()), ())) := by
  refine itr_euc (fun a b => ((a, b, l, n, i, ()), ())) (fun a => ((a, l, n, i, ()), ())) ?_ ?_ rounds a b (lt_r3 h)
  · intro a b hb
    simp [s92_2, t92_2, eqF_eq, hb]
  · intro a
    simp [s92_2, t92_2, eqF_eq]

theorem l92 (x : Int) (l : List Int) (h : l.length ≤ 1000000000) (hb : ∀ i, i < l.length → (l.getD i 0).natAbs ≤ 9223372036854775808) : l92_0 ((x, l, (l.length : Int), (0 : Int), ()), ()) = some (.inl ((dvF x l l.length, ()), ())) := by
  refine itr_brk (fun i => ((dvF x l i, l, (l.length : Int), (i : Int), ()), ())) (n := l.length) ?_ ?_ (lt_rounds (by omega))
  · intro i hi
    have e := l56i l (l.length : Int) (i : Int) (dvF x l i) (l.getD i 0) (hb i hi)
    simp only [s92_0, t92_0, Tr.val_test, Tr.val_fin, Tr.val_stop, leF_eq, Int.toNat_natCast]
    rw [if_pos (by simp; omega), if_pos (by simp; omega)]
    simp only [e, isBrk, b92_2, outB, if_true, wrap64_nat (show i ≤ 9223372036854775806 by omega), dvF]
  · simp [s92_0, t92_0, leF_eq]

def absW (x : Int) : Int := if x < IntKind.wrap .i64 (0 - x) then IntKind.wrap .i64 (0 - x) else x

theorem absW_eq {x : Int} (h : x.natAbs ≤ 9223372036854775807) : absW x = (x.natAbs : Int) := by
  unfold absW
  rw [wn64 (by omega) (by omega)]
  by_cases hx : x < -x
  · rw [if_pos hx]; omega
  · rw [if_neg hx]; omega

theorem f92_eq (x : Int) (l : List Int) (h : l.length ≤ 1000000000) (hb : ∀ i, i < l.length → (l.getD i 0).natAbs ≤ 9223372036854775808) : f92 (x, l, ()) = some (absW (dvF x l l.length), ()) := by
  simp only [f92, t92, Tr.val_test, Tr.val_fin, Tr.val_stop, l92 x l h hb, isBrk, b92_0, outB, if_true, absW]

theorem gcd_le64 {a b : Nat} (ha : a ≤ 9223372036854775807) (hb : b ≤ 9223372036854775807) : Nat.gcd a b ≤ 9223372036854775807 := by
  by_cases h : b = 0
  · subst h; simpa using ha
  · exact Nat.le_trans (Nat.gcd_le_right _ (by omega)) hb

theorem f92_one (x a : Int) (hx : x.natAbs ≤ 9223372036854775807) (ha : a.natAbs ≤ 9223372036854775807) : f92 (x, [a], ()) = some (((Nat.gcd x.natAbs a.natAbs : Nat) : Int), ()) := by
  rw [f92_eq x [a] (by simp) (fun i hi => by
    have : i = 0 := by simp at hi; exact hi
    subst this; simp; omega)]
  have e : (dvF x [a] [a].length).natAbs = Nat.gcd x.natAbs a.natAbs := by
    simp only [List.length, dvF, List.getD_cons_zero, euc_abs]
  rw [absW_eq (by rw [e]; exact gcd_le64 hx ha), e]

def smP (f : Nat → Int) : Nat → Int
  | 0 => 0
  | k + 1 => smP f k + f k

theorem mulB {x y : Int} {A B : Nat} (hx : x.natAbs ≤ A) (hy : y.natAbs ≤ B) : (x * y).natAbs ≤ A * B := by
  rw [Int.natAbs_mul]
  exact Nat.mul_le_mul hx hy

theorem smP_congr {f g : Nat → Int} : ∀ n, (∀ i, i < n → f i = g i) → smP f n = smP g n
  | 0, _ => rfl
  | n + 1, h => by simp only [smP]; rw [smP_congr n fun i hi => h i (by omega), h n (by omega)]

theorem smP_add (f g : Nat → Int) : ∀ n, smP (fun i => f i + g i) n = smP f n + smP g n
  | 0 => rfl
  | n + 1 => by simp only [smP]; rw [smP_add f g n]; omega

theorem smP_mul (a : Int) (f : Nat → Int) : ∀ n, smP (fun i => a * f i) n = a * smP f n
  | 0 => by simp [smP]
  | n + 1 => by simp only [smP]; rw [smP_mul a f n, Int.mul_add]

theorem smP_const (a : Int) : ∀ n : Nat, smP (fun _ => a) n = (n : Int) * a
  | 0 => by simp [smP]
  | n + 1 => by simp only [smP]; rw [smP_const a n]; simp [Int.add_mul]

theorem smP_nn {f : Nat → Int} : ∀ n, (∀ i, i < n → 0 ≤ f i) → 0 ≤ smP f n
  | 0, _ => Int.le_refl _
  | n + 1, h => by
    have := smP_nn n fun i hi => h i (by omega)
    have := h n (by omega)
    simp only [smP]; omega

theorem smP_ge {f : Nat → Int} : ∀ n, (∀ i, i < n → 0 ≤ f i) → ∀ k, k < n → f k ≤ smP f n
  | n + 1, h, k, hk => by
    have h1 := h n (by omega)
    simp only [smP]
    by_cases hkn : k = n
    · have := smP_nn n fun i hi => h i (by omega)
      subst hkn; omega
    · have := smP_ge n (fun i hi => h i (by omega)) k (by omega)
      omega

theorem wrapK {n : Int} (h1 : n.natAbs ≤ 9223372036854775807) : IntKind.wrap .i64 n = n := by rw [← wrap64_eq, wrap64_id (by omega) (by omega)]

theorem tdiv_le (a : Int) (b : Nat) : (a.tdiv (b : Int)).natAbs ≤ a.natAbs := by
  rw [Int.natAbs_tdiv]
  exact Nat.div_le_self _ _

def fr (x y : Int) : Int × Int × PUnit := (x.tdiv (Nat.gcd x.natAbs y.natAbs : Nat), y.tdiv (Nat.gcd x.natAbs y.natAbs : Nat), ())

theorem f141_eq (x y : Int) (hx : x.natAbs ≤ 9223372036854775807) (hy : y.natAbs ≤ 9223372036854775807) (h0 : y ≠ 0) : f141 (x, y, ()) = some (fr x y, ()) := by
  have e := f92_one y x hy hx
  rw [Nat.gcd_comm] at e
  have hg : Nat.gcd x.natAbs y.natAbs ≠ 0 := by
    have := Nat.gcd_pos_of_pos_right x.natAbs (show 0 < y.natAbs by omega)
    omega
  have hz : (((Nat.gcd x.natAbs y.natAbs : Nat) : Int) == (0 : Int)) = false := by
    rw [beq_eq_false_iff_ne]; omega
  have v1 : IntKind.wrap .i64 (x.tdiv (Nat.gcd x.natAbs y.natAbs : Nat)) = x.tdiv (Nat.gcd x.natAbs y.natAbs : Nat) := wrapK (by have := tdiv_le x (Nat.gcd x.natAbs y.natAbs); omega)
  have v2 : IntKind.wrap .i64 (y.tdiv (Nat.gcd x.natAbs y.natAbs : Nat)) = y.tdiv (Nat.gcd x.natAbs y.natAbs : Nat) := wrapK (by have := tdiv_le y (Nat.gcd x.natAbs y.natAbs); omega)
  simp only [f141, t141, Tr.val_test, Tr.val_fin, Tr.val_stop, g92, e, hz, v1, v2, Option.isSome_some, Option.getD_some, Bool.false_eq_true, ↓reduceIte]
  rfl

end Go.Vm.Mo

namespace Go.Vm.Mo
open Go
set_option linter.unusedVariables false
set_option linter.unusedSimpArgs false

def px (c : List (List Int)) (y x : Nat) : Int := (ch c y).getD x 0
def pxF (lo hi : Int) (r : List Int) : Option Nat := first (fun i => !wi lo hi (r.getD i 0)) r.length 0
def rowIn (lo hi : Int) (r : List Int) : Bool := (pxF lo hi r).isNone

def shB (c : List (List Int)) (n : Int) (i : Nat) : Bool := decide ((ch c i).length = 0) || !decide (((ch c i).length : Int) = n)
def shF (c : List (List Int)) (n : Int) : Option Nat := first (shB c n) c.length 0
def rgF (c : List (List Int)) : Option Nat := first (fun i => !rowIn 0 255 (ch c i)) c.length 0
def brF (c : List (List Int)) : Option Nat := first (fun i => !rowIn 0 0 (ch c i)) c.length 0

def Sm (c : List (List Int)) : Prop := c.length ≤ 1000 ∧ ∀ i, (ch c i).length ≤ 1000

theorem l136a (c : List (List Int)) (n : Int) (h : Sm c) : l136_0_1 ((c, (c.length : Int), (0 : Int), ()), (n, ()), ()) = match shF c n with
    | some k => some (.inr (((k : Int), (10 : Int), ()), (n, ()), ()))
    | none => some (.inl ((), (n, ()), ())) := by
  have hl := h.1
  refine itr_search (fun i => ((c, (c.length : Int), (i : Int), ()), (n, ()), ())) (shB c n) (fun k => (((k : Int), (10 : Int), ()), (n, ()), ())) (n := c.length) ?_ ?_ (lt_rounds (by omega))
  · intro i hi
    simp only [s136_0_1, t136_0_1, Tr.val_test, Tr.val_fin, Tr.val_stop, leF_eq, eqF_eq, Int.toNat_natCast, wrap64_nat (show i ≤ 9223372036854775806 by omega)]
    rw [if_pos (by simp; omega), if_pos (by simp; omega)]
    simp only [g86, f86_eq, Option.isSome_some, Option.getD_some, if_true, shB, ch]
    by_cases a0 : (List.getD c i []).length = 0
    · have a0' : ((List.getD c i []).length : Int) = 0 := by omega
      rw [if_pos (by rw [decide_eq_true_eq]; exact a0')]
      simp only [a0, decide_true, Bool.true_or, if_true]
      rfl
    · have a0' : ¬ ((List.getD c i []).length : Int) = 0 := by omega
      rw [if_neg (by rw [decide_eq_true_eq]; exact a0')]
      by_cases a1 : ((List.getD c i []).length : Int) = n
      · simp only [a0, a1, decide_true, decide_false, Bool.not_true, Bool.false_or, Bool.false_eq_true, if_false]
      · simp only [a0, a1, decide_false, Bool.not_false, Bool.false_or, if_true]
        rfl
  · simp [s136_0_1, t136_0_1, leF_eq]

theorem rowIn_eq (lo hi : Int) (r : List Int) (h : r.length ≤ 1000) : f100 (lo, hi, r, ()) = some (rowIn lo hi r, ()) := f100_eq lo hi r (by omega)

theorem l136b (c : List (List Int)) (h : Sm c) : l136_0_2 ((c, (c.length : Int), (0 : Int), ()), ()) = match rgF c with
    | some k => some (.inr (((k : Int), (2 : Int), ()), ()))
    | none => some (.inl ((), ())) := by
  have hl := h.1
  refine itr_search (fun i => ((c, (c.length : Int), (i : Int), ()), ())) (fun i => !rowIn 0 255 (ch c i)) (fun k => (((k : Int), (2 : Int), ()), ())) (n := c.length) ?_ ?_ (lt_rounds (by omega))
  · intro i hi
    have e := rowIn_eq 0 255 (ch c i) (h.2 i)
    simp only [ch] at e
    simp only [s136_0_2, t136_0_2, Tr.val_test, Tr.val_fin, Tr.val_stop, leF_eq, eqF_eq, Int.toNat_natCast, wrap64_nat (show i ≤ 9223372036854775806 by omega)]
    rw [if_pos (by simp; omega), if_pos (by simp; omega)]
    simp only [g100, e, g86, f86_eq, Option.isSome_some, Option.getD_some, if_true, ch]
    by_cases hq : rowIn 0 255 (List.getD c i []) = true
    · simp only [hq, Bool.not_true, Bool.false_eq_true, if_false, decide_true]
    · have hq' := Bool.eq_false_iff.2 hq
      simp only [hq', Bool.not_false, if_true]
      rfl
  · simp [s136_0_2, t136_0_2, leF_eq]

theorem l149 (c : List (List Int)) (h : Sm c) : l149_0 ((c, (c.length : Int), (0 : Int), ()), ()) = match brF c with
    | some k => some (.inr (((k : Int), ()), ()))
    | none => some (.inl ((), ())) := by
  have hl := h.1
  refine itr_search (fun i => ((c, (c.length : Int), (i : Int), ()), ())) (fun i => !rowIn 0 0 (ch c i)) (fun k => (((k : Int), ()), ())) (n := c.length) ?_ ?_ (lt_rounds (by omega))
  · intro i hi
    have e := rowIn_eq 0 0 (ch c i) (h.2 i)
    simp only [ch] at e
    simp only [s149_0, t149_0, Tr.val_test, Tr.val_fin, Tr.val_stop, leF_eq, eqF_eq, Int.toNat_natCast, wrap64_nat (show i ≤ 9223372036854775806 by omega)]
    rw [if_pos (by simp; omega), if_pos (by simp; omega)]
    simp only [g100, e, Option.isSome_some, Option.getD_some, if_true, ch]
  · simp [s149_0, t149_0, leF_eq]

def imW (c : List (List Int)) : Int := if (c.length : Int) ≤ 10 ∧ ((ch c 0).length : Int) ≤ 10 then 0 else 8
def imS (c : List (List Int)) : Int := if (shF c ((ch c 0).length : Int)).isSome = true then 10 else 0
def imR (c : List (List Int)) : Int := if (rgF c).isSome = true then 2 else 0
def imB (c : List (List Int)) : Int := if (brF c).isSome = true then 0 else 11
def imE (c : List (List Int)) : Int := if c.length = 0 then 10 else if imS c ≠ 0 then imS c else if imW c ≠ 0 then imW c else if imR c ≠ 0 then imR c else imB c

theorem f88_four (a b c d : Int) : f88 ([a, b, c, d], ()) = some (if a ≠ 0 then a else if b ≠ 0 then b else if c ≠ 0 then c else d, ()) := by
  rw [f88_eq _ (by simp)]
  simp only [firstNZ]
  by_cases h : a = 0
  · by_cases h2 : b = 0
    · by_cases h3 : c = 0
      · by_cases h4 : d = 0
        · simp [h, h2, h3, h4]
        · simp [h, h2, h3, h4]
      · simp [h, h2, h3]
    · simp [h, h2]
  · simp [h]

theorem f118_eq (c : List (List Int)) (h : Sm c) : f118 (c, ()) = some (imE c, ()) := by
  have hl := h.1
  by_cases h0 : c.length = 0
  · have e : decide ((c.length : Int) = 0) = true := by rw [decide_eq_true_eq]; omega
    have hE : imE c = 10 := if_pos h0
    rw [hE]
    simp only [f118, t118, Tr.val_test, Tr.val_fin, eqF_eq, e, if_true]
  have e : decide ((c.length : Int) = 0) = false := by rw [decide_eq_false_iff_not]; omega
  have e0 : (true && decide ((0 : Int) < (c.length : Int))) = true := by simp; omega
  have a1 := l136a c ((ch c 0).length : Int) h
  have a2 := l136b c h
  have a3 := l149 c h
  simp only [ch] at a1
  have k := f88_four (imS c) (imW c) (imR c) (imB c)
  have hE : imE c = (if imS c ≠ 0 then imS c else if imW c ≠ 0 then imW c else if imR c ≠ 0 then imR c else imB c) := by unfold imE; rw [if_neg h0]
  rw [← hE] at k
  cases hs : shF c ((List.getD c 0 []).length : Int) with
  | none =>
    cases hg : rgF c with
    | none =>
      cases hb : brF c with
      | none =>
        by_cases hh : (c.length : Int) ≤ 10
        · by_cases hv : ((List.getD c 0 []).length : Int) ≤ 10
          · rw [hs] at a1; rw [hg] at a2; rw [hb] at a3
            have vS : imS c = 0 := by unfold imS; simp only [ch]; rw [hs]; rfl
            have vR : imR c = 0 := by unfold imR; rw [hg]; rfl
            have vB : imB c = 11 := by unfold imB; rw [hb]; rfl
            have vW : imW c = 0 := by unfold imW; rw [if_pos ⟨hh, hv⟩]
            rw [vS, vW, vR, vB] at k
            simp only [f118, t118, Tr.val_test, Tr.val_fin, Tr.val_stop, leF_eq, eqF_eq, e, e0, a1, a2, a3, isRet, r136_0_1, b136_0_1, r136_0_2, r149_0, outR, outB, hh, hv, g86, f86_eq, g88, k, Option.isSome_some, Option.getD_some, decide_true, decide_false, Bool.not_true, Bool.not_false, Bool.false_eq_true, if_true, if_false]
          · rw [hs] at a1; rw [hg] at a2; rw [hb] at a3
            have vS : imS c = 0 := by unfold imS; simp only [ch]; rw [hs]; rfl
            have vR : imR c = 0 := by unfold imR; rw [hg]; rfl
            have vB : imB c = 11 := by unfold imB; rw [hb]; rfl
            have vW : imW c = 8 := by unfold imW; rw [if_neg (fun q => hv q.2)]
            rw [vS, vW, vR, vB] at k
            simp only [f118, t118, Tr.val_test, Tr.val_fin, Tr.val_stop, leF_eq, eqF_eq, e, e0, a1, a2, a3, isRet, r136_0_1, b136_0_1, r136_0_2, r149_0, outR, outB, hh, hv, g86, f86_eq, g88, k, Option.isSome_some, Option.getD_some, decide_true, decide_false, Bool.not_true, Bool.not_false, Bool.false_eq_true, if_true, if_false]
        · rw [hs] at a1; rw [hg] at a2; rw [hb] at a3
          have vS : imS c = 0 := by unfold imS; simp only [ch]; rw [hs]; rfl
          have vR : imR c = 0 := by unfold imR; rw [hg]; rfl
          have vB : imB c = 11 := by unfold imB; rw [hb]; rfl
          have vW : imW c = 8 := by unfold imW; rw [if_neg (fun q => hh q.1)]
          rw [vS, vW, vR, vB] at k
          simp only [f118, t118, Tr.val_test, Tr.val_fin, Tr.val_stop, leF_eq, eqF_eq, e, e0, a1, a2, a3, isRet, r136_0_1, b136_0_1, r136_0_2, r149_0, outR, outB, hh, g86, f86_eq, g88, k, Option.isSome_some, Option.getD_some, decide_true, decide_false, Bool.not_true, Bool.not_false, Bool.false_eq_true, if_true, if_false]
      | some kb =>
        by_cases hh : (c.length : Int) ≤ 10
        · by_cases hv : ((List.getD c 0 []).length : Int) ≤ 10
          · rw [hs] at a1; rw [hg] at a2; rw [hb] at a3
            have vS : imS c = 0 := by unfold imS; simp only [ch]; rw [hs]; rfl
            have vR : imR c = 0 := by unfold imR; rw [hg]; rfl
            have vB : imB c = 0 := by unfold imB; rw [hb]; rfl
            have vW : imW c = 0 := by unfold imW; rw [if_pos ⟨hh, hv⟩]
            rw [vS, vW, vR, vB] at k
            have kp : ((0 : Int) ≤ (kb : Int)) = True := by simp
            simp only [f118, t118, Tr.val_test, Tr.val_fin, Tr.val_stop, leF_eq, eqF_eq, e, e0, a1, a2, a3, isRet, r136_0_1, b136_0_1, r136_0_2, r149_0, outR, outB, hh, hv, kp, g86, f86_eq, g88, k, Option.isSome_some, Option.getD_some, decide_true, decide_false, Bool.not_true, Bool.not_false, Bool.false_eq_true, if_true, if_false]
          · rw [hs] at a1; rw [hg] at a2; rw [hb] at a3
            have vS : imS c = 0 := by unfold imS; simp only [ch]; rw [hs]; rfl
            have vR : imR c = 0 := by unfold imR; rw [hg]; rfl
            have vB : imB c = 0 := by unfold imB; rw [hb]; rfl
            have vW : imW c = 8 := by unfold imW; rw [if_neg (fun q => hv q.2)]
            rw [vS, vW, vR, vB] at k
            have kp : ((0 : Int) ≤ (kb : Int)) = True := by simp
            simp only [f118, t118, Tr.val_test, Tr.val_fin, Tr.val_stop, leF_eq, eqF_eq, e, e0, a1, a2, a3, isRet, r136_0_1, b136_0_1, r136_0_2, r149_0, outR, outB, hh, hv, kp, g86, f86_eq, g88, k, Option.isSome_some, Option.getD_some, decide_true, decide_false, Bool.not_true, Bool.not_false, Bool.false_eq_true, if_true, if_false]
        · rw [hs] at a1; rw [hg] at a2; rw [hb] at a3
          have vS : imS c = 0 := by unfold imS; simp only [ch]; rw [hs]; rfl
          have vR : imR c = 0 := by unfold imR; rw [hg]; rfl
          have vB : imB c = 0 := by unfold imB; rw [hb]; rfl
          have vW : imW c = 8 := by unfold imW; rw [if_neg (fun q => hh q.1)]
          rw [vS, vW, vR, vB] at k
          have kp : ((0 : Int) ≤ (kb : Int)) = True := by simp
          simp only [f118, t118, Tr.val_test, Tr.val_fin, Tr.val_stop, leF_eq, eqF_eq, e, e0, a1, a2, a3, isRet, r136_0_1, b136_0_1, r136_0_2, r149_0, outR, outB, hh, kp, g86, f86_eq, g88, k, Option.isSome_some, Option.getD_some, decide_true, decide_false, Bool.not_true, Bool.not_false, Bool.false_eq_true, if_true, if_false]
    | some kg =>
      cases hb : brF c with
      | none =>
        by_cases hh : (c.length : Int) ≤ 10
        · by_cases hv : ((List.getD c 0 []).length : Int) ≤ 10
          · rw [hs] at a1; rw [hg] at a2; rw [hb] at a3
            have vS : imS c = 0 := by unfold imS; simp only [ch]; rw [hs]; rfl
            have vR : imR c = 2 := by unfold imR; rw [hg]; rfl
            have vB : imB c = 11 := by unfold imB; rw [hb]; rfl
            have vW : imW c = 0 := by unfold imW; rw [if_pos ⟨hh, hv⟩]
            rw [vS, vW, vR, vB] at k
            simp only [f118, t118, Tr.val_test, Tr.val_fin, Tr.val_stop, leF_eq, eqF_eq, e, e0, a1, a2, a3, isRet, r136_0_1, b136_0_1, r136_0_2, r149_0, outR, outB, hh, hv, g86, f86_eq, g88, k, Option.isSome_some, Option.getD_some, decide_true, decide_false, Bool.not_true, Bool.not_false, Bool.false_eq_true, if_true, if_false]
          · rw [hs] at a1; rw [hg] at a2; rw [hb] at a3
            have vS : imS c = 0 := by unfold imS; simp only [ch]; rw [hs]; rfl
            have vR : imR c = 2 := by unfold imR; rw [hg]; rfl
            have vB : imB c = 11 := by unfold imB; rw [hb]; rfl
            have vW : imW c = 8 := by unfold imW; rw [if_neg (fun q => hv q.2)]
            rw [vS, vW, vR, vB] at k
            simp only [f118, t118, Tr.val_test, Tr.val_fin, Tr.val_stop, leF_eq, eqF_eq, e, e0, a1, a2, a3, isRet, r136_0_1, b136_0_1, r136_0_2, r149_0, outR, outB, hh, hv, g86, f86_eq, g88, k, Option.isSome_some, Option.getD_some, decide_true, decide_false, Bool.not_true, Bool.not_false, Bool.false_eq_true, if_true, if_false]
        · rw [hs] at a1; rw [hg] at a2; rw [hb] at a3
          have vS : imS c = 0 := by unfold imS; simp only [ch]; rw [hs]; rfl
          have vR : imR c = 2 := by unfold imR; rw [hg]; rfl
          have vB : imB c = 11 := by unfold imB; rw [hb]; rfl
          have vW : imW c = 8 := by unfold imW; rw [if_neg (fun q => hh q.1)]
          rw [vS, vW, vR, vB] at k
          simp only [f118, t118, Tr.val_test, Tr.val_fin, Tr.val_stop, leF_eq, eqF_eq, e, e0, a1, a2, a3, isRet, r136_0_1, b136_0_1, r136_0_2, r149_0, outR, outB, hh, g86, f86_eq, g88, k, Option.isSome_some, Option.getD_some, decide_true, decide_false, Bool.not_true, Bool.not_false, Bool.false_eq_true, if_true, if_false]
      | some kb =>
        by_cases hh : (c.length : Int) ≤ 10
        · by_cases hv : ((List.getD c 0 []).length : Int) ≤ 10
          · rw [hs] at a1; rw [hg] at a2; rw [hb] at a3
            have vS : imS c = 0 := by unfold imS; simp only [ch]; rw [hs]; rfl
            have vR : imR c = 2 := by unfold imR; rw [hg]; rfl
            have vB : imB c = 0 := by unfold imB; rw [hb]; rfl
            have vW : imW c = 0 := by unfold imW; rw [if_pos ⟨hh, hv⟩]
            rw [vS, vW, vR, vB] at k
            have kp : ((0 : Int) ≤ (kb : Int)) = True := by simp
            simp only [f118, t118, Tr.val_test, Tr.val_fin, Tr.val_stop, leF_eq, eqF_eq, e, e0, a1, a2, a3, isRet, r136_0_1, b136_0_1, r136_0_2, r149_0, outR, outB, hh, hv, kp, g86, f86_eq, g88, k, Option.isSome_some, Option.getD_some, decide_true, decide_false, Bool.not_true, Bool.not_false, Bool.false_eq_true, if_true, if_false]
          · rw [hs] at a1; rw [hg] at a2; rw [hb] at a3
            have vS : imS c = 0 := by unfold imS; simp only [ch]; rw [hs]; rfl
            have vR : imR c = 2 := by unfold imR; rw [hg]; rfl
            have vB : imB c = 0 := by unfold imB; rw [hb]; rfl
            have vW : imW c = 8 := by unfold imW; rw [if_neg (fun q => hv q.2)]
            rw [vS, vW, vR, vB] at k
            have kp : ((0 : Int) ≤ (kb : Int)) = True := by simp
            simp only [f118, t118, Tr.val_test, Tr.val_fin, Tr.val_stop, leF_eq, eqF_eq, e, e0, a1, a2, a3, isRet, r136_0_1, b136_0_1, r136_0_2, r149_0, outR, outB, hh, hv, kp, g86, f86_eq, g88, k, Option.isSome_some, Option.getD_some, decide_true, decide_false, Bool.not_true, Bool.not_false, Bool.false_eq_true, if_true, if_false]
        · rw [hs] at a1; rw [hg] at a2; rw [hb] at a3
          have vS : imS c = 0 := by unfold imS; simp only [ch]; rw [hs]; rfl
          have vR : imR c = 2 := by unfold imR; rw [hg]; rfl
          have vB : imB c = 0 := by unfold imB; rw [hb]; rfl
          have vW : imW c = 8 := by unfold imW; rw [if_neg (fun q => hh q.1)]
          rw [vS, vW, vR, vB] at k
          have kp : ((0 : Int) ≤ (kb : Int)) = True := by simp
          simp only [f118, t118, Tr.val_test, Tr.val_fin, Tr.val_stop, leF_eq, eqF_eq, e, e0, a1, a2, a3, isRet, r136_0_1, b136_0_1, r136_0_2, r149_0, outR, outB, hh, kp, g86, f86_eq, g88, k, Option.isSome_some, Option.getD_some, decide_true, decide_false, Bool.not_true, Bool.not_false, Bool.false_eq_true, if_true, if_false]
  | some ks =>
    cases hg : rgF c with
    | none =>
      cases hb : brF c with
      | none =>
        by_cases hh : (c.length : Int) ≤ 10
        · by_cases hv : ((List.getD c 0 []).length : Int) ≤ 10
          · rw [hs] at a1; rw [hg] at a2; rw [hb] at a3
            have vS : imS c = 10 := by unfold imS; simp only [ch]; rw [hs]; rfl
            have vR : imR c = 0 := by unfold imR; rw [hg]; rfl
            have vB : imB c = 11 := by unfold imB; rw [hb]; rfl
            have vW : imW c = 0 := by unfold imW; rw [if_pos ⟨hh, hv⟩]
            rw [vS, vW, vR, vB] at k
            simp only [f118, t118, Tr.val_test, Tr.val_fin, Tr.val_stop, leF_eq, eqF_eq, e, e0, a1, a2, a3, isRet, r136_0_1, b136_0_1, r136_0_2, r149_0, outR, outB, hh, hv, g86, f86_eq, g88, k, Option.isSome_some, Option.getD_some, decide_true, decide_false, Bool.not_true, Bool.not_false, Bool.false_eq_true, if_true, if_false]
          · rw [hs] at a1; rw [hg] at a2; rw [hb] at a3
            have vS : imS c = 10 := by unfold imS; simp only [ch]; rw [hs]; rfl
            have vR : imR c = 0 := by unfold imR; rw [hg]; rfl
            have vB : imB c = 11 := by unfold imB; rw [hb]; rfl
            have vW : imW c = 8 := by unfold imW; rw [if_neg (fun q => hv q.2)]
            rw [vS, vW, vR, vB] at k
            simp only [f118, t118, Tr.val_test, Tr.val_fin, Tr.val_stop, leF_eq, eqF_eq, e, e0, a1, a2, a3, isRet, r136_0_1, b136_0_1, r136_0_2, r149_0, outR, outB, hh, hv, g86, f86_eq, g88, k, Option.isSome_some, Option.getD_some, decide_true, decide_false, Bool.not_true, Bool.not_false, Bool.false_eq_true, if_true, if_false]
        · rw [hs] at a1; rw [hg] at a2; rw [hb] at a3
          have vS : imS c = 10 := by unfold imS; simp only [ch]; rw [hs]; rfl
          have vR : imR c = 0 := by unfold imR; rw [hg]; rfl
          have vB : imB c = 11 := by unfold imB; rw [hb]; rfl
          have vW : imW c = 8 := by unfold imW; rw [if_neg (fun q => hh q.1)]
          rw [vS, vW, vR, vB] at k
          simp only [f118, t118, Tr.val_test, Tr.val_fin, Tr.val_stop, leF_eq, eqF_eq, e, e0, a1, a2, a3, isRet, r136_0_1, b136_0_1, r136_0_2, r149_0, outR, outB, hh, g86, f86_eq, g88, k, Option.isSome_some, Option.getD_some, decide_true, decide_false, Bool.not_true, Bool.not_false, Bool.false_eq_true, if_true, if_false]
      | some kb =>
        by_cases hh : (c.length : Int) ≤ 10
        · by_cases hv : ((List.getD c 0 []).length : Int) ≤ 10
          · rw [hs] at a1; rw [hg] at a2; rw [hb] at a3
            have vS : imS c = 10 := by unfold imS; simp only [ch]; rw [hs]; rfl
            have vR : imR c = 0 := by unfold imR; rw [hg]; rfl
            have vB : imB c = 0 := by unfold imB; rw [hb]; rfl
            have vW : imW c = 0 := by unfold imW; rw [if_pos ⟨hh, hv⟩]
            rw [vS, vW, vR, vB] at k
            have kp : ((0 : Int) ≤ (kb : Int)) = True := by simp
            simp only [f118, t118, Tr.val_test, Tr.val_fin, Tr.val_stop, leF_eq, eqF_eq, e, e0, a1, a2, a3, isRet, r136_0_1, b136_0_1, r136_0_2, r149_0, outR, outB, hh, hv, kp, g86, f86_eq, g88, k, Option.isSome_some, Option.getD_some, decide_true, decide_false, Bool.not_true, Bool.not_false, Bool.false_eq_true, if_true, if_false]
          · rw [hs] at a1; rw [hg] at a2; rw [hb] at a3
            have vS : imS c = 10 := by unfold imS; simp only [ch]; rw [hs]; rfl
            have vR : imR c = 0 := by unfold imR; rw [hg]; rfl
            have vB : imB c = 0 := by unfold imB; rw [hb]; rfl
            have vW : imW c = 8 := by unfold imW; rw [if_neg (fun q => hv q.2)]
            rw [vS, vW, vR, vB] at k
            have kp : ((0 : Int) ≤ (kb : Int)) = True := by simp
            simp only [f118, t118, Tr.val_test, Tr.val_fin, Tr.val_stop, leF_eq, eqF_eq, e, e0, a1, a2, a3, isRet, r136_0_1, b136_0_1, r136_0_2, r149_0, outR, outB, hh, hv, kp, g86, f86_eq, g88, k, Option.isSome_some, Option.getD_some, decide_true, decide_false, Bool.not_true, Bool.not_false, Bool.false_eq_true, if_true, if_false]
        · rw [hs] at a1; rw [hg] at a2; rw [hb] at a3
          have vS : imS c = 10 := by unfold imS; simp only [ch]; rw [hs]; rfl
          have vR : imR c = 0 := by unfold imR; rw [hg]; rfl
          have vB : imB c = 0 := by unfold imB; rw [hb]; rfl
          have vW : imW c = 8 := by unfold imW; rw [if_neg (fun q => hh q.1)]
          rw [vS, vW, vR, vB] at k
          have kp : ((0 : Int) ≤ (kb : Int)) = True := by simp
          simp only [f118, t118, Tr.val_test, Tr.val_fin, Tr.val_stop, leF_eq, eqF_eq, e, e0, a1, a2, a3, isRet, r136_0_1, b136_0_1, r136_0_2, r149_0, outR, outB, hh, kp, g86, f86_eq, g88, k, Option.isSome_some, Option.getD_some, decide_true, decide_false, Bool.not_true, Bool.not_false, Bool.false_eq_true, if_true, if_false]
    | some kg =>
      cases hb : brF c with
      | none =>
        by_cases hh : (c.length : Int) ≤ 10
        · by_cases hv : ((List.getD c 0 []).length : Int) ≤ 10
          · rw [hs] at a1; rw [hg] at a2; rw [hb] at a3
            have vS : imS c = 10 := by unfold imS; simp only [ch]; rw [hs]; rfl
            have vR : imR c = 2 := by unfold imR; rw [hg]; rfl
            have vB : imB c = 11 := by unfold imB; rw [hb]; rfl
            have vW : imW c = 0 := by unfold imW; rw [if_pos ⟨hh, hv⟩]
            rw [vS, vW, vR, vB] at k
            simp only [f118, t118, Tr.val_test, Tr.val_fin, Tr.val_stop, leF_eq, eqF_eq, e, e0, a1, a2, a3, isRet, r136_0_1, b136_0_1, r136_0_2, r149_0, outR, outB, hh, hv, g86, f86_eq, g88, k, Option.isSome_some, Option.getD_some, decide_true, decide_false, Bool.not_true, Bool.not_false, Bool.false_eq_true, if_true, if_false]
          · rw [hs] at a1; rw [hg] at a2; rw [hb] at a3
            have vS : imS c = 10 := by unfold imS; simp only [ch]; rw [hs]; rfl
            have vR : imR c = 2 := by unfold imR; rw [hg]; rfl
            have vB : imB c = 11 := by unfold imB; rw [hb]; rfl
            have vW : imW c = 8 := by unfold imW; rw [if_neg (fun q => hv q.2)]
            rw [vS, vW, vR, vB] at k
            simp only [f118, t118, Tr.val_test, Tr.val_fin, Tr.val_stop, leF_eq, eqF_eq, e, e0, a1, a2, a3, isRet, r136_0_1, b136_0_1, r136_0_2, r149_0, outR, outB, hh, hv, g86, f86_eq, g88, k, Option.isSome_some, Option.getD_some, decide_true, decide_false, Bool.not_true, Bool.not_false, Bool.false_eq_true, if_true, if_false]
        · rw [hs] at a1; rw [hg] at a2; rw [hb] at a3
          have vS : imS c = 10 := by unfold imS; simp only [ch]; rw [hs]; rfl
          have vR : imR c = 2 := by unfold imR; rw [hg]; rfl
          have vB : imB c = 11 := by unfold imB; rw [hb]; rfl
          have vW : imW c = 8 := by unfold imW; rw [if_neg (fun q => hh q.1)]
          rw [vS, vW, vR, vB] at k
          simp only [f118, t118, Tr.val_test, Tr.val_fin, Tr.val_stop, leF_eq, eqF_eq, e, e0, a1, a2, a3, isRet, r136_0_1, b136_0_1, r136_0_2, r149_0, outR, outB, hh, g86, f86_eq, g88, k, Option.isSome_some, Option.getD_some, decide_true, decide_false, Bool.not_true, Bool.not_false, Bool.false_eq_true, if_true, if_false]
      | some kb =>
        by_cases hh : (c.length : Int) ≤ 10
        · by_cases hv : ((List.getD c 0 []).length : Int) ≤ 10
          · rw [hs] at a1; rw [hg] at a2; rw [hb] at a3
            have vS : imS c = 10 := by unfold imS; simp only [ch]; rw [hs]; rfl
            have vR : imR c = 2 := by unfold imR; rw [hg]; rfl
            have vB : imB c = 0 := by unfold imB; rw [hb]; rfl
            have vW : imW c = 0 := by unfold imW; rw [if_pos ⟨hh, hv⟩]
            rw [vS, vW, vR, vB] at k
            have kp : ((0 : Int) ≤ (kb : Int)) = True := by simp
            simp only [f118, t118, Tr.val_test, Tr.val_fin, Tr.val_stop, leF_eq, eqF_eq, e, e0, a1, a2, a3, isRet, r136_0_1, b136_0_1, r136_0_2, r149_0, outR, outB, hh, hv, kp, g86, f86_eq, g88, k, Option.isSome_some, Option.getD_some, decide_true, decide_false, Bool.not_true, Bool.not_false, Bool.false_eq_true, if_true, if_false]
          · rw [hs] at a1; rw [hg] at a2; rw [hb] at a3
            have vS : imS c = 10 := by unfold imS; simp only [ch]; rw [hs]; rfl
            have vR : imR c = 2 := by unfold imR; rw [hg]; rfl
            have vB : imB c = 0 := by unfold imB; rw [hb]; rfl
            have vW : imW c = 8 := by unfold imW; rw [if_neg (fun q => hv q.2)]
            rw [vS, vW, vR, vB] at k
            have kp : ((0 : Int) ≤ (kb : Int)) = True := by simp
            simp only [f118, t118, Tr.val_test, Tr.val_fin, Tr.val_stop, leF_eq, eqF_eq, e, e0, a1, a2, a3, isRet, r136_0_1, b136_0_1, r136_0_2, r149_0, outR, outB, hh, hv, kp, g86, f86_eq, g88, k, Option.isSome_some, Option.getD_some, decide_true, decide_false, Bool.not_true, Bool.not_false, Bool.false_eq_true, if_true, if_false]
        · rw [hs] at a1; rw [hg] at a2; rw [hb] at a3
          have vS : imS c = 10 := by unfold imS; simp only [ch]; rw [hs]; rfl
          have vR : imR c = 2 := by unfold imR; rw [hg]; rfl
          have vB : imB c = 0 := by unfold imB; rw [hb]; rfl
          have vW : imW c = 8 := by unfold imW; rw [if_neg (fun q => hh q.1)]
          rw [vS, vW, vR, vB] at k
          have kp : ((0 : Int) ≤ (kb : Int)) = True := by simp
          simp only [f118, t118, Tr.val_test, Tr.val_fin, Tr.val_stop, leF_eq, eqF_eq, e, e0, a1, a2, a3, isRet, r136_0_1, b136_0_1, r136_0_2, r149_0, outR, outB, hh, kp, g86, f86_eq, g88, k, Option.isSome_some, Option.getD_some, decide_true, decide_false, Bool.not_true, Bool.not_false, Bool.false_eq_true, if_true, if_false]

/-! The reference's errors. -/

theorem l70a (c : List (List Int)) (h : Sm c) (h0 : 0 < c.length) : l70_0 ((c, (0 : Int), ()), ()) = match first (fun i => !decide (((ch c i).length : Int) = ((ch c 0).length : Int))) c.length 0 with
    | some _ => some (.inr (((10 : Int), ()), ()))
    | none => some (.inl ((c, ()), ())) := by
  have hl := h.1
  refine itr_search (fun i => ((c, (i : Int), ()), ())) (fun i => !decide (((ch c i).length : Int) = ((ch c 0).length : Int))) (fun k => (((10 : Int), ()), ())) (n := c.length) ?_ ?_ (lt_rounds (by omega))
  · intro i hi
    have e0 : (true && decide ((0 : Int) < (c.length : Int))) = true := by simp; omega
    simp only [s70_0, t70_0, Tr.val_test, Tr.val_fin, Tr.val_stop, leF_eq, eqF_eq, Int.toNat_natCast, wrap64_nat (show i ≤ 9223372036854775806 by omega), e0, if_true, ch]
    rw [if_pos (by simp; omega), if_pos (by simp; omega)]
  · simp [s70_0, t70_0, leF_eq]

def rsW (s : Int) (r : List Int) : Nat → Int
  | 0 => s
  | i + 1 => wrap64 (rsW s r i + r.getD i 0)
def totW (c : List (List Int)) : Nat → Int
  | 0 => 0
  | y + 1 => rsW (totW c y) (ch c y) (ch c y).length

theorem l70c (c : List (List Int)) (h : Sm c) (s : Int) (y : Nat) (hy : y < c.length) : l70_4 ((c, s, (y : Int), (0 : Int), ()), ()) = match pxF 0 255 (ch c y) with
    | some _ => some (.inr (((2 : Int), ()), ()))
    | none => some (.inl ((c, rsW s (ch c y) (ch c y).length, (y : Int), ()), ())) := by
  have hl := h.1
  have hr := h.2 y
  refine itr_search (fun i => ((c, rsW s (ch c y) i, (y : Int), (i : Int), ()), ())) (fun i => !wi 0 255 ((ch c y).getD i 0)) (fun k => (((2 : Int), ()), ())) (n := (ch c y).length) ?_ ?_ (lt_rounds (by omega))
  · intro i hi
    have e1 : (decide ((0 : Int) ≤ (y : Int)) && decide ((y : Int) < (c.length : Int))) = true := by simp; omega
    simp only [ch] at hi hr
    simp only [s70_4, t70_4, Tr.val_test, Tr.val_fin, Tr.val_stop, leF_eq, eqF_eq, Int.toNat_natCast, wrap64_nat (show i ≤ 9223372036854775806 by omega), e1, if_true, ch]
    rw [if_pos (by simp only [Bool.not_eq_true', decide_eq_false_iff_not]; omega), if_pos (by simp only [Bool.and_eq_true, decide_eq_true_eq]; omega)]
    simp only [g22, f22_eq, Option.isSome_some, Option.getD_some, if_true]
    rfl
  · have e1 : (decide ((0 : Int) ≤ (y : Int)) && decide ((y : Int) < (c.length : Int))) = true := by simp; omega
    simp only [s70_4, t70_4, Tr.val_test, Tr.val_fin, Tr.val_stop, leF_eq, eqF_eq, Int.toNat_natCast, e1, if_true, ch]
    rw [if_neg (by simp)]

theorem l70b (c : List (List Int)) (h : Sm c) : l70_2 ((c, (0 : Int), (0 : Int), ()), ()) = match rgF c with
    | some _ => some (.inr (((2 : Int), ()), ()))
    | none => some (.inl ((totW c c.length, ()), ())) := by
  have hl := h.1
  refine itr_search (fun y => ((c, totW c y, (y : Int), ()), ())) (fun i => !rowIn 0 255 (ch c i)) (fun k => (((2 : Int), ()), ())) (n := c.length) ?_ ?_ (lt_rounds (by omega))
  · intro y hy
    have e := l70c c h (totW c y) y hy
    simp only [s70_2, t70_2, Tr.val_test, Tr.val_fin, Tr.val_stop, leF_eq, Int.toNat_natCast]
    rw [if_pos (by simp; omega)]
    unfold rowIn
    cases hp : pxF 0 255 (ch c y) with
    | none =>
      rw [hp] at e
      simp only [e, isRet, b70_4, outB, Option.isSome_some, Option.isNone_none, if_true, Bool.false_eq_true, Bool.not_true, if_false, wrap64_nat (show y ≤ 9223372036854775806 by omega)]
      rfl
    | some k =>
      rw [hp] at e
      simp only [e, isRet, r70_4, outR, Option.isSome_some, Option.isNone_some, if_true, Bool.not_false]
  · simp [s70_2, t70_2, leF_eq]

theorem rsW_eq {s : Int} {r : List Int} {B : Int} (hs : 0 ≤ s ∧ s ≤ B) (hr : ∀ i, 0 ≤ r.getD i 0 ∧ r.getD i 0 ≤ 255) : ∀ n : Nat, n ≤ 1000 → B ≤ 1000000000 → rsW s r n = s + smP (fun i => r.getD i 0) n ∧ 0 ≤ smP (fun i => r.getD i 0) n ∧ smP (fun i => r.getD i 0) n ≤ 255 * (n : Int)
  | 0, _, _ => by simp [rsW, smP]
  | n + 1, hn, hB => by
    obtain ⟨h1, h2, h3⟩ := rsW_eq hs hr n (by omega) hB
    have h4 := hr n
    simp only [rsW, smP, h1]
    refine ⟨?_, by omega, by omega⟩
    rw [wrap64_id (by omega) (by omega)]
    omega

theorem getD_out {l : List Int} {x : Nat} (h : l.length ≤ x) : l.getD x 0 = 0 := by simp [List.getD, List.getElem?_eq_none h]

def Bp (c : List (List Int)) : Prop := ∀ y x, 0 ≤ px c y x ∧ px c y x ≤ 255

theorem bp_of {c : List (List Int)} (h : rgF c = none) : Bp c := by
  intro y x
  unfold px
  by_cases hy : y < c.length
  · have h1 := first_none h y (Nat.zero_le _) (by omega)
    have h2 : rowIn 0 255 (ch c y) = true := by simpa using h1
    have h3 : pxF 0 255 (ch c y) = none := by simpa [rowIn] using h2
    by_cases hx : x < (ch c y).length
    · have h4 := first_none h3 x (Nat.zero_le _) (by omega)
      have : wi 0 255 ((ch c y).getD x 0) = true := by simpa using h4
      exact wi_iff.1 this
    · have := getD_out (l := ch c y) (x := x) (by omega)
      omega
  · have : ch c y = [] := by simp [ch, List.getD, List.getElem?_eq_none (Nat.le_of_not_lt hy)]
    rw [this]; simp

def rS (c : List (List Int)) (y n : Nat) : Int := smP (fun x => px c y x) n
def totS (c : List (List Int)) (H : Nat) : Int := smP (fun y => rS c y (ch c y).length) H

theorem totW_eq {c : List (List Int)} (hB : Bp c) (hr : ∀ i, (ch c i).length ≤ 10) : ∀ H : Nat, H ≤ 1000 → totW c H = totS c H ∧ 0 ≤ totS c H ∧ totS c H ≤ 2550 * (H : Int)
  | 0, _ => by simp [totW, totS, smP]
  | H + 1, hH => by
    obtain ⟨h1, h2, h3⟩ := totW_eq hB hr H (by omega)
    obtain ⟨g1, g2, g3⟩ := rsW_eq (s := totW c H) (r := ch c H) (B := 2550000) ⟨by omega, by omega⟩ (fun i => hB H i) (ch c H).length (by have := hr H; omega) (by omega)
    have := hr H
    simp only [totW, g1]
    have e : totS c (H + 1) = totS c H + smP (fun i => (ch c H).getD i 0) (ch c H).length := rfl
    rw [e, h1]
    exact ⟨rfl, by omega, by omega⟩

/-- All dark exactly if the sum is 0. -/
theorem dark_iff {c : List (List Int)} (hB : Bp c) : brF c = none ↔ totS c c.length = 0 := by
  have nn : ∀ y n, 0 ≤ rS c y n := fun y n => smP_nn n fun x _ => (hB y x).1
  constructor
  · intro h
    have z : ∀ y, y < c.length → rS c y (ch c y).length = 0 := by
      intro y hy
      have h1 := first_none h y (Nat.zero_le _) (by omega)
      have h2 : rowIn 0 0 (ch c y) = true := by simpa using h1
      have h3 : pxF 0 0 (ch c y) = none := by simpa [rowIn] using h2
      have h4 : ∀ x, x < (ch c y).length → px c y x = 0 := by
        intro x hx
        have := first_none h3 x (Nat.zero_le _) (by omega)
        have : wi 0 0 ((ch c y).getD x 0) = true := by simpa using this
        have := wi_iff.1 this
        unfold px; omega
      unfold rS
      rw [smP_congr (g := fun _ => 0) _ h4, smP_const]; simp
    unfold totS
    rw [smP_congr (g := fun _ => 0) _ z, smP_const]; simp
  · intro h
    refine first_of_none fun y _ hy => ?_
    have h1 := smP_ge (f := fun y => rS c y (ch c y).length) c.length (fun y _ => nn y _) y (by omega)
    have h2 : rS c y (ch c y).length = 0 := by
      have := nn y (ch c y).length
      unfold totS at h
      omega
    have h3 : pxF 0 0 (ch c y) = none := first_of_none fun x _ hx => by
      have := smP_ge (f := fun x => px c y x) (ch c y).length (fun x _ => (hB y x).1) x (by omega)
      have h5 := (hB y x).1
      unfold rS at h2
      have : wi 0 0 ((ch c y).getD x 0) = true := wi_iff.2 (by unfold px at *; omega)
      rw [this]; rfl
    unfold rowIn
    rw [h3]
    rfl

theorem f70_eq (c : List (List Int)) (h : Sm c) : f70 (c, ()) = some (imE c, ()) := by
  have hl := h.1
  by_cases h0 : c.length = 0
  · have e : decide ((c.length : Int) = 0) = true := by rw [decide_eq_true_eq]; omega
    have hE : imE c = 10 := if_pos h0
    rw [hE]
    simp only [f70, t70, Tr.val_test, Tr.val_fin, eqF_eq, e, if_true]
  have e : decide ((c.length : Int) = 0) = false := by rw [decide_eq_false_iff_not]; omega
  have e0 : (true && decide ((0 : Int) < (c.length : Int))) = true := by simp; omega
  by_cases hw : (ch c 0).length = 0
  · have ew : decide (((List.getD c 0 []).length : Int) = 0) = true := by rw [decide_eq_true_eq]; simp only [ch] at hw; omega
    have hs : imS c = 10 := by
      unfold imS
      cases hq : shF c ((ch c 0).length : Int) with
      | some k => rfl
      | none =>
        have := first_none hq 0 (Nat.le_refl _) (by omega)
        simp only [shB, hw, decide_true, Bool.true_or] at this
        cases this
    simp only [f70, t70, Tr.val_test, Tr.val_fin, Tr.val_stop, eqF_eq, e, e0, ew, Bool.false_eq_true, if_false, if_true, imE, h0, hs]
    rfl
  have ew : decide (((List.getD c 0 []).length : Int) = 0) = false := by rw [decide_eq_false_iff_not]; simp only [ch] at hw; omega
  have l1 := l70a c h (by omega)
  have same : first (fun i => !decide (((ch c i).length : Int) = ((ch c 0).length : Int))) c.length 0 = shF c ((ch c 0).length : Int) := by
    unfold shF
    refine first_congr fun i _ hi => ?_
    unfold shB
    by_cases hz : (ch c i).length = 0
    · have : ¬ ((ch c i).length : Int) = ((ch c 0).length : Int) := by omega
      rw [decide_eq_true hz, decide_eq_false this]; rfl
    · rw [decide_eq_false hz, Bool.false_or]
  rw [same] at l1
  cases hs : shF c ((ch c 0).length : Int) with
  | some k =>
    rw [hs] at l1
    have hS : imS c = 10 := by unfold imS; rw [hs]; rfl
    simp only [f70, t70, Tr.val_test, Tr.val_fin, Tr.val_stop, eqF_eq, e, e0, ew, l1, isRet, r70_0, outR, Option.isSome_some, Bool.false_eq_true, if_false, if_true, imE, h0, hS]
    rfl
  | none =>
    rw [hs] at l1
    have hS : imS c = 0 := by unfold imS; rw [hs]; rfl
    by_cases hh : (c.length : Int) ≤ 10
    · by_cases hv : ((List.getD c 0 []).length : Int) ≤ 10
      · have hW : imW c = 0 := by unfold imW; rw [if_pos ⟨hh, hv⟩]
        have l2 := l70b c h
        cases hr : rgF c with
        | some k =>
          rw [hr] at l2
          have hR : imR c = 2 := by unfold imR; rw [hr]; rfl
          simp only [f70, t70, Tr.val_test, Tr.val_fin, Tr.val_stop, leF_eq, eqF_eq, e, e0, ew, l1, isRet, b70_0, outB, hh, hv, decide_true, Bool.not_true, l2, r70_2, outR, Option.isSome_some, Bool.false_eq_true, if_false, if_true, imE, h0, hS, hW, hR, ne_eq, not_true_eq_false]
          rfl
        | none =>
          rw [hr] at l2
          have hR : imR c = 0 := by unfold imR; rw [hr]; rfl
          have hB := bp_of hr
          have hrows : ∀ i, (ch c i).length ≤ 10 := by
            intro i
            by_cases hi : i < c.length
            · have := first_none hs i (Nat.zero_le _) (by omega)
              simp only [shB, Bool.or_eq_false_iff, Bool.not_eq_false', decide_eq_true_eq] at this
              simp only [ch] at *
              omega
            · have : ch c i = [] := by simp [ch, List.getD, List.getElem?_eq_none (Nat.le_of_not_lt hi)]
              rw [this]; simp
          have ht := (totW_eq hB hrows c.length (by omega)).1
          have hd := dark_iff hB
          have fin : (if decide (totW c c.length = 0) = true then some ((11 : Int), ()) else some ((0 : Int), ())) = some (imB c, ()) := by
            rw [ht]
            unfold imB
            cases hq : brF c with
            | none => rw [if_pos (by rw [decide_eq_true_eq]; exact hd.1 hq)]; rfl
            | some k => rw [if_neg (by rw [decide_eq_true_eq]; intro q; have := hd.2 q; rw [hq] at this; cases this)]; rfl
          simp only [f70, t70, Tr.val_test, Tr.val_fin, Tr.val_stop, leF_eq, eqF_eq, e, e0, ew, l1, isRet, b70_0, outB, hh, hv, decide_true, Bool.not_true, l2, b70_2, Option.isSome_some, Bool.false_eq_true, if_false, if_true, imE, h0, hS, hW, hR, ne_eq, not_true_eq_false]
          exact fin
      · have hW : imW c = 8 := by unfold imW; rw [if_neg (fun q => hv q.2)]
        simp only [f70, t70, Tr.val_test, Tr.val_fin, Tr.val_stop, leF_eq, eqF_eq, e, e0, ew, l1, isRet, b70_0, outB, hh, hv, decide_true, decide_false, Bool.not_true, Bool.not_false, Option.isSome_some, Bool.false_eq_true, if_false, if_true, imE, h0, hS, hW, ne_eq, not_true_eq_false]
        rfl
    · have hW : imW c = 8 := by unfold imW; rw [if_neg (fun q => hh q.1)]
      simp only [f70, t70, Tr.val_test, Tr.val_fin, Tr.val_stop, leF_eq, eqF_eq, e, e0, ew, l1, isRet, b70_0, outB, hh, decide_false, Bool.not_false, Option.isSome_some, Bool.false_eq_true, if_false, if_true, imE, h0, hS, hW, ne_eq, not_true_eq_false]
      rfl

end Go.Vm.Mo

namespace Go.Vm.Mo
open Go
set_option linter.unusedVariables false
set_option linter.unusedSimpArgs false

structure Im (c : List (List Int)) (H W : Nat) : Prop where
  h0 : 0 < H
  h1 : H ≤ 10
  w0 : 0 < W
  w1 : W ≤ 10
  len : c.length = H
  row : ∀ y, y < H → (ch c y).length = W
  bd : ∀ y x, 0 ≤ px c y x ∧ px c y x ≤ 255
  lit : ∃ y x, y < H ∧ x < W ∧ px c y x ≠ 0

theorem im_of {c : List (List Int)} (h : imE c = 0) : ∃ H W, Im c H W := by
  unfold imE at h
  split at h
  · cases h
  · rename_i h0
    split at h
    · exact absurd h (by assumption)
    · rename_i hS
      split at h
      · exact absurd h (by assumption)
      · rename_i hW
        split at h
        · exact absurd h (by assumption)
        · rename_i hR
          have hS' : shF c ((ch c 0).length : Int) = none := by
            unfold imS at hS
            cases hq : shF c ((ch c 0).length : Int) with
            | none => rfl
            | some k => rw [hq] at hS; simp at hS
          have hR' : rgF c = none := by
            unfold imR at hR
            cases hq : rgF c with
            | none => rfl
            | some k => rw [hq] at hR; simp at hR
          have hW' : (c.length : Int) ≤ 10 ∧ ((ch c 0).length : Int) ≤ 10 := by
            unfold imW at hW
            by_cases q : (c.length : Int) ≤ 10 ∧ ((ch c 0).length : Int) ≤ 10
            · exact q
            · rw [if_neg q] at hW; simp at hW
          have hB : ∃ k, brF c = some k := by
            unfold imB at h
            cases hq : brF c with
            | none => rw [hq] at h; cases h
            | some k => exact ⟨k, rfl⟩
          have hrow : ∀ y, y < c.length → (ch c y).length = (ch c 0).length ∧ (ch c y).length ≠ 0 := by
            intro y hy
            have := first_none hS' y (Nat.zero_le _) (by omega)
            simp only [shB, Bool.or_eq_false_iff, Bool.not_eq_false', decide_eq_true_eq, decide_eq_false_iff_not] at this
            exact ⟨by omega, this.1⟩
          obtain ⟨k, hk⟩ := hB
          obtain ⟨_, k2, k3, _⟩ := first_some hk
          have k3 : rowIn 0 0 (ch c k) = false := by simpa using k3
          have hlit : ∃ x, x < (ch c k).length ∧ px c k x ≠ 0 := by
            unfold rowIn at k3
            cases hq : pxF 0 0 (ch c k) with
            | none => rw [hq] at k3; cases k3
            | some x =>
              obtain ⟨_, x2, x3, _⟩ := first_some hq
              refine ⟨x, by omega, fun q => ?_⟩
              have : wi 0 0 ((ch c k).getD x 0) = true := wi_iff.2 (by unfold px at q; omega)
              rw [this] at x3; cases x3
          obtain ⟨x, x1, x2⟩ := hlit
          have e0 := hrow 0 (by omega)
          have ek := hrow k (by omega)
          exact ⟨c.length, (ch c 0).length, ⟨by omega, by omega, by omega, by omega, rfl, fun y hy => (hrow y hy).1, bp_of hR', ⟨k, x, by omega, by omega, x2⟩⟩⟩

theorem Im.sm {c : List (List Int)} {H W : Nat} (m : Im c H W) : Sm c := by
  refine ⟨by have := m.len; have := m.h1; omega, fun i => ?_⟩
  by_cases hi : i < H
  · have := m.row i hi; have := m.w1; omega
  · have : ch c i = [] := by simp [ch, List.getD, List.getElem?_eq_none (show c.length ≤ i by rw [m.len]; omega)]
    rw [this]; simp

def imX (c : List (List Int)) (H W : Nat) : Int := smP (fun y => smP (fun x => (x : Int) * px c y x) W) H
def imY (c : List (List Int)) (H W : Nat) : Int := smP (fun y => smP (fun x => (y : Int) * px c y x) W) H
def imT (c : List (List Int)) (H W : Nat) : Int := smP (fun y => smP (fun x => px c y x) W) H

theorem smP_nb {f : Nat → Int} {B : Int} (n : Nat) (h : ∀ i, i < n → 0 ≤ f i ∧ f i ≤ B) : 0 ≤ smP f n ∧ smP f n ≤ (n : Int) * B := by
  refine ⟨smP_nn n fun i hi => (h i hi).1, ?_⟩
  have h2 := smP_nn (f := fun i => B + (-1) * f i) n fun i hi => by have := h i hi; omega
  rw [smP_add (fun _ => B) (fun i => (-1) * f i), smP_const, smP_mul (-1) f] at h2
  omega

theorem xp_bd {c : List (List Int)} {H W : Nat} (m : Im c H W) (a : Nat) (ha : a ≤ 10) (y x : Nat) : 0 ≤ (a : Int) * px c y x ∧ (a : Int) * px c y x ≤ 2550 := by
  have hp := m.bd y x
  have h1 := Int.mul_nonneg (show 0 ≤ (a : Int) by omega) hp.1
  have h2 := Int.mul_nonneg (show 0 ≤ 10 - (a : Int) by omega) hp.1
  rw [Int.sub_mul] at h2
  omega

theorem row_bd {c : List (List Int)} {H W : Nat} (m : Im c H W) (y n : Nat) (hn : n ≤ 10) (hy : y ≤ 10) :
    (0 ≤ smP (fun x => (x : Int) * px c y x) n ∧ smP (fun x => (x : Int) * px c y x) n ≤ 25500) ∧
    (0 ≤ smP (fun x => (y : Int) * px c y x) n ∧ smP (fun x => (y : Int) * px c y x) n ≤ 25500) ∧
    (0 ≤ smP (fun x => px c y x) n ∧ smP (fun x => px c y x) n ≤ 2550) := by
  have h1 := smP_nb (f := fun x => (x : Int) * px c y x) (B := 2550) n fun x hx => xp_bd m x (by omega) y x
  have h2 := smP_nb (f := fun x => (y : Int) * px c y x) (B := 2550) n fun x _ => xp_bd m y hy y x
  have h3 := smP_nb (f := fun x => px c y x) (B := 255) n fun x _ => m.bd y x
  omega

theorem tot_bd {c : List (List Int)} {H W : Nat} (m : Im c H W) (n : Nat) (hn : n ≤ 10) :
    (0 ≤ imX c n W ∧ imX c n W ≤ 255000) ∧ (0 ≤ imY c n W ∧ imY c n W ≤ 255000) ∧ (0 ≤ imT c n W ∧ imT c n W ≤ 25500) := by
  have hw := m.w1
  have h1 := smP_nb (f := fun y => smP (fun x => (x : Int) * px c y x) W) (B := 25500) n fun y hy => (row_bd m y W hw (by omega)).1
  have h2 := smP_nb (f := fun y => smP (fun x => (y : Int) * px c y x) W) (B := 25500) n fun y hy => (row_bd m y W hw (by omega)).2.1
  have h3 := smP_nb (f := fun y => smP (fun x => px c y x) W) (B := 2550) n fun y hy => (row_bd m y W hw (by omega)).2.2
  unfold imX imY imT
  omega

theorem tot_pos {c : List (List Int)} {H W : Nat} (m : Im c H W) : 0 < imT c H W := by
  obtain ⟨y, x, hy, hx, hp⟩ := m.lit
  have nn : ∀ y, 0 ≤ smP (fun x => px c y x) W := fun y => smP_nn W fun x _ => (m.bd y x).1
  have h1 := smP_ge (f := fun y => smP (fun x => px c y x) W) H (fun y _ => nn y) y hy
  have h2 := smP_ge (f := fun x => px c y x) W (fun x _ => (m.bd y x).1) x hx
  have h3 := (m.bd y x).1
  unfold imT
  omega

/-! The center. -/

theorem l119i {c : List (List Int)} {H W : Nat} (m : Im c H W) (a b s : Int) (y : Nat) (hy : y < H) (ha : 0 ≤ a ∧ a ≤ 1000000) (hb : 0 ≤ b ∧ b ≤ 1000000) (hs : 0 ≤ s ∧ s ≤ 1000000) (n1 n2 : Int) (z1 z2 z3 z4 : Int) :
    l119_2 ((a, b, s, (y : Int), c, n1, n2, ch c y, ((ch c y).length : Int), (0 : Int), ()), (z1, z2, z3, z4, ()), ()) =
      some (.inl ((a + smP (fun x => (x : Int) * px c y x) W, b + smP (fun x => (y : Int) * px c y x) W, s + smP (fun x => px c y x) W, c, n1, n2, ()), (z1, z2, z3, z4, ()), ())) := by
  have hW := m.row y hy
  have hw := m.w1
  have hh := m.h1
  have e0 : ∀ f, smP f 0 = 0 := fun _ => rfl
  have key := itr_brk (step := s119_2) (fun i => ((a + smP (fun x => (x : Int) * px c y x) i, b + smP (fun x => (y : Int) * px c y x) i, s + smP (fun x => px c y x) i, (y : Int), c, n1, n2, ch c y, ((ch c y).length : Int), (i : Int), ()), (z1, z2, z3, z4, ()), ())) (n := W) (m := rounds) (b := ((a + smP (fun x => (x : Int) * px c y x) W, b + smP (fun x => (y : Int) * px c y x) W, s + smP (fun x => px c y x) W, c, n1, n2, ()), (z1, z2, z3, z4, ()), ())) ?_ ?_ (lt_rounds (by omega))
  · simp only [e0, Int.add_zero] at key
    exact key
  · intro i hi
    obtain ⟨g1, g2, g3⟩ := row_bd m y i (by omega) (by omega)
    have x1 := xp_bd m i (by omega) y i
    have x2 := xp_bd m y (by omega) y i
    have x3 := m.bd y i
    have w1 : wrap64 ((i : Int) * px c y i) = (i : Int) * px c y i := wrap64_id (by omega) (by omega)
    have w2 : wrap64 ((y : Int) * px c y i) = (y : Int) * px c y i := wrap64_id (by omega) (by omega)
    have w3 : wrap64 (a + smP (fun x => (x : Int) * px c y x) i + (i : Int) * px c y i) = a + smP (fun x => (x : Int) * px c y x) (i + 1) := by rw [wrap64_id (by omega) (by omega)]; simp only [smP]; omega
    have w4 : wrap64 (b + smP (fun x => (y : Int) * px c y x) i + (y : Int) * px c y i) = b + smP (fun x => (y : Int) * px c y x) (i + 1) := by rw [wrap64_id (by omega) (by omega)]; simp only [smP]; omega
    have w5 : wrap64 (s + smP (fun x => px c y x) i + px c y i) = s + smP (fun x => px c y x) (i + 1) := by rw [wrap64_id (by omega) (by omega)]; simp only [smP]; omega
    have ep : List.getD (ch c y) i (0 : Int) = px c y i := rfl
    simp only [s119_2, t119_2, Tr.val_test, Tr.val_fin, Tr.val_stop, leF_eq, Int.toNat_natCast, wrap64_nat (show i ≤ 9223372036854775806 by omega), ep, w1, w2, w3, w4, w5]
    rw [if_pos (by simp only [Bool.not_eq_true', decide_eq_false_iff_not]; omega), if_pos (by simp only [Bool.and_eq_true, decide_eq_true_eq]; omega)]
  · have : ((ch c y).length : Int) ≤ (W : Int) := by omega
    simp only [s119_2, t119_2, Tr.val_test, Tr.val_fin, Tr.val_stop, leF_eq, this, decide_true, Bool.not_true, Bool.false_eq_true, if_false]

theorem l119 {c : List (List Int)} {H W : Nat} (m : Im c H W) :
    l119_0 (((0 : Int), (0 : Int), (0 : Int), c, (c.length : Int), (0 : Int), ()), ((0 : Int), (0 : Int), (0 : Int), (0 : Int), ()), ()) =
      some (.inl ((imX c H W, imY c H W, imT c H W, ()), ((0 : Int), (0 : Int), (0 : Int), (0 : Int), ()), ())) := by
  have hh := m.h1
  have hl := m.len
  refine itr_brk (fun y => ((imX c y W, imY c y W, imT c y W, c, (c.length : Int), (y : Int), ()), ((0 : Int), (0 : Int), (0 : Int), (0 : Int), ()), ())) (n := H) ?_ ?_ (lt_rounds (by omega))
  · intro y hy
    obtain ⟨t1, t2, t3⟩ := tot_bd m y (by omega)
    have e := l119i m (imX c y W) (imY c y W) (imT c y W) y hy ⟨t1.1, by omega⟩ ⟨t2.1, by omega⟩ ⟨t3.1, by omega⟩ (c.length : Int) (y : Int) 0 0 0 0
    simp only [ch] at e
    simp only [s119_0, t119_0, Tr.val_test, Tr.val_fin, Tr.val_stop, leF_eq, Int.toNat_natCast]
    rw [if_pos (by simp only [Bool.not_eq_true', decide_eq_false_iff_not]; omega), if_pos (by simp only [Bool.and_eq_true, decide_eq_true_eq]; omega)]
    simp only [e, isBrk, b119_2, outB, if_true, wrap64_nat (show y ≤ 9223372036854775806 by omega)]
    rfl
  · have : ((c.length : Nat) : Int) ≤ (H : Int) := by omega
    simp only [s119_0, t119_0, Tr.val_test, Tr.val_fin, Tr.val_stop, leF_eq, this, decide_true, Bool.not_true, Bool.false_eq_true, if_false]

theorem f119_eq {c : List (List Int)} {H W : Nat} (m : Im c H W) : f119 (c, ()) = some ((fr (imX c H W) (imT c H W), fr (imY c H W) (imT c H W), ()), ()) := by
  obtain ⟨t1, t2, t3⟩ := tot_bd m H m.h1
  have t4 := tot_pos m
  have e1 := f141_eq (imX c H W) (imT c H W) (by omega) (by omega) (by omega)
  have e2 := f141_eq (imY c H W) (imT c H W) (by omega) (by omega) (by omega)
  simp only [f119, t119, Tr.val_test, Tr.val_fin, Tr.val_stop, l119 m, isBrk, b119_0, outB, g141, e1, e2, Option.isSome_some, Option.getD_some, if_true]

theorem f71_eq {c : List (List Int)} {H W : Nat} (m : Im c H W) (he : imE c = 0) : f71 (c, ()) = some ((fr (imX c H W) (imT c H W), fr (imY c H W) (imT c H W), ()), (0 : Int), ()) := by
  have e := f118_eq c m.sm
  have e2 := f119_eq m
  rw [he] at e
  simp only [f71, t71, Tr.val_test, Tr.val_fin, Tr.val_stop, g118, e, g119, e2, eqF_eq, decide_true, Option.isSome_some, Option.getD_some, Bool.not_true, Bool.false_eq_true, if_false, if_true]

/-! By what it moved. -/

def mn (p q : Int × Int × PUnit.{1}) : Int × Int × PUnit.{1} := fr (p.1 * q.2.1 - q.1 * p.2.1) (p.2.1 * q.2.1)

theorem gcd_pos' {x y : Int} (h : y ≠ 0) : 0 < Nat.gcd x.natAbs y.natAbs := Nat.gcd_pos_of_pos_right _ (by omega)

/-- A quotient in lowest terms: both parts times the divisor are what they were. -/
theorem fr_mul (x y : Int) : (fr x y).1 * (Nat.gcd x.natAbs y.natAbs : Nat) = x ∧ (fr x y).2.1 * (Nat.gcd x.natAbs y.natAbs : Nat) = y := by
  have h1 : ((Nat.gcd x.natAbs y.natAbs : Nat) : Int) ∣ x := Int.ofNat_dvd_left.2 (Nat.gcd_dvd_left _ _)
  have h2 : ((Nat.gcd x.natAbs y.natAbs : Nat) : Int) ∣ y := Int.ofNat_dvd_left.2 (Nat.gcd_dvd_right _ _)
  exact ⟨Int.tdiv_mul_cancel h1, Int.tdiv_mul_cancel h2⟩

theorem fr_pos {x y : Int} (h : 0 < y) : 0 < (fr x y).2.1 := by
  have h1 := (fr_mul x y).2
  have h2 := gcd_pos' (x := x) (y := y) (by omega)
  by_cases h3 : 0 < (fr x y).2.1
  · exact h3
  · exfalso
    have := Int.mul_le_mul_of_nonneg_right (show (fr x y).2.1 ≤ 0 by omega) (show (0 : Int) ≤ ((Nat.gcd x.natAbs y.natAbs : Nat) : Int) by omega)
    omega

theorem fr_le (x y : Int) : (fr x y).1.natAbs ≤ x.natAbs ∧ (fr x y).2.1.natAbs ≤ y.natAbs := ⟨tdiv_le _ _, tdiv_le _ _⟩

theorem f120_eq (a s b t : Int) (ha : a.natAbs ≤ 255000) (hb : b.natAbs ≤ 255000) (hs : 0 < s ∧ s ≤ 25500) (ht : 0 < t ∧ t ≤ 25500) : f120 (((fr a s).1, (fr a s).2.1, ()), ((fr b t).1, (fr b t).2.1, ()), ()) = some (mn (fr a s) (fr b t), ()) := by
  have p1 := fr_pos (x := a) hs.1
  have p2 := fr_pos (x := b) ht.1
  have l1 := fr_le a s
  have l2 := fr_le b t
  have m1 := mulB (x := (fr a s).1) (y := (fr b t).2.1) (A := 255000) (B := 25500) (by omega) (by omega)
  have m2 := mulB (x := (fr b t).1) (y := (fr a s).2.1) (A := 255000) (B := 25500) (by omega) (by omega)
  have m3 := mulB (x := (fr a s).2.1) (y := (fr b t).2.1) (A := 25500) (B := 25500) (by omega) (by omega)
  have m4 := Int.mul_pos p1 p2
  have w1 : wrap64 ((fr a s).1 * (fr b t).2.1) = (fr a s).1 * (fr b t).2.1 := wrap64_id (by omega) (by omega)
  have w2 : wrap64 ((fr b t).1 * (fr a s).2.1) = (fr b t).1 * (fr a s).2.1 := wrap64_id (by omega) (by omega)
  have w3 : wrap64 ((fr a s).2.1 * (fr b t).2.1) = (fr a s).2.1 * (fr b t).2.1 := wrap64_id (by omega) (by omega)
  have w4 : wrap64 ((fr a s).1 * (fr b t).2.1 - (fr b t).1 * (fr a s).2.1) = (fr a s).1 * (fr b t).2.1 - (fr b t).1 * (fr a s).2.1 := wrap64_id (by omega) (by omega)
  have e := f141_eq ((fr a s).1 * (fr b t).2.1 - (fr b t).1 * (fr a s).2.1) ((fr a s).2.1 * (fr b t).2.1) (by omega) (by omega) (by omega)
  simp only [f120, t120, Tr.val_test, Tr.val_fin, Tr.val_stop, w1, w2, w3, w4, g141, e, Option.isSome_some, Option.getD_some, if_true]
  rfl

def mvE (a b : List (List Int)) : Int := if imE a ≠ 0 then imE a else if imE b ≠ 0 then imE b else if a.length = b.length ∧ (ch a 0).length = (ch b 0).length then 0 else 13

theorem f75_eq {a b : List (List Int)} (ha : Sm a) (hb : Sm b) : f75 (a, b, ()) = some (mvE a b, ()) := by
  have e1 := f70_eq a ha
  have e2 := f70_eq b hb
  by_cases h1 : imE a = 0
  rotate_left
  · have n1 : decide (imE a = 0) = false := by simpa using h1
    have hE : mvE a b = imE a := if_pos h1
    rw [hE]
    simp only [f75, t75, Tr.val_test, Tr.val_fin, Tr.val_stop, g70, e1, eqF_eq, n1, Option.isSome_some, Option.getD_some, Bool.not_false, if_true]
  obtain ⟨H, W, m⟩ := im_of h1
  rw [h1] at e1
  by_cases h2 : imE b = 0
  rotate_left
  · have n2 : decide (imE b = 0) = false := by simpa using h2
    have hE : mvE a b = imE b := by unfold mvE; rw [if_neg (by simpa using h1), if_pos h2]
    rw [hE]
    simp only [f75, t75, Tr.val_test, Tr.val_fin, Tr.val_stop, g70, e1, e2, eqF_eq, n2, decide_true, Option.isSome_some, Option.getD_some, Bool.not_true, Bool.not_false, Bool.false_eq_true, if_false, if_true]
  obtain ⟨H', W', m'⟩ := im_of h2
  rw [h2] at e2
  have z1 : (true && decide ((0 : Int) < (a.length : Int))) = true := by have := m.h0; have := m.len; simp; omega
  have z2 : (true && decide ((0 : Int) < (b.length : Int))) = true := by have := m'.h0; have := m'.len; simp; omega
  by_cases h3 : a.length = b.length
  · have d3 : decide ((a.length : Int) = (b.length : Int)) = true := by rw [decide_eq_true_eq]; omega
    by_cases h4 : (ch a 0).length = (ch b 0).length
    · have d4 : decide (((List.getD a 0 []).length : Int) = ((List.getD b 0 []).length : Int)) = true := by rw [decide_eq_true_eq]; simp only [ch] at h4; omega
      have hE : mvE a b = 0 := by unfold mvE; rw [if_neg (by simpa using h1), if_neg (by simpa using h2), if_pos ⟨h3, h4⟩]
      rw [hE]
      simp only [f75, t75, Tr.val_test, Tr.val_fin, Tr.val_stop, g70, e1, e2, eqF_eq, z1, z2, d3, d4, decide_true, Option.isSome_some, Option.getD_some, Bool.not_true, Bool.false_eq_true, if_false, if_true]
    · have d4 : decide (((List.getD a 0 []).length : Int) = ((List.getD b 0 []).length : Int)) = false := by rw [decide_eq_false_iff_not]; simp only [ch] at h4; omega
      have hE : mvE a b = 13 := by unfold mvE; rw [if_neg (by simpa using h1), if_neg (by simpa using h2), if_neg (fun q => h4 q.2)]
      rw [hE]
      simp only [f75, t75, Tr.val_test, Tr.val_fin, Tr.val_stop, g70, e1, e2, eqF_eq, z1, z2, d3, d4, decide_true, Option.isSome_some, Option.getD_some, Bool.not_true, Bool.not_false, Bool.false_eq_true, if_false, if_true]
  · have d3 : decide ((a.length : Int) = (b.length : Int)) = false := by rw [decide_eq_false_iff_not]; omega
    have hE : mvE a b = 13 := by unfold mvE; rw [if_neg (by simpa using h1), if_neg (by simpa using h2), if_neg (fun q => h3 q.1)]
    rw [hE]
    simp only [f75, t75, Tr.val_test, Tr.val_fin, Tr.val_stop, g70, e1, e2, eqF_eq, d3, decide_true, Option.isSome_some, Option.getD_some, Bool.not_true, Bool.not_false, Bool.false_eq_true, if_false, if_true]

theorem f72_eq {a b : List (List Int)} {H W : Nat} (m : Im a H W) (m' : Im b H W) (h1 : imE a = 0) (h2 : imE b = 0) :
    f72 (a, b, ()) = some ((mn (fr (imX b H W) (imT b H W)) (fr (imX a H W) (imT a H W)), mn (fr (imY b H W) (imT b H W)) (fr (imY a H W) (imT a H W)), ()), (0 : Int), ()) := by
  have e1 := f118_eq a m.sm
  have e2 := f118_eq b m'.sm
  rw [h1] at e1
  rw [h2] at e2
  have e3 : f88 ([(0 : Int), (0 : Int)], ()) = some ((0 : Int), ()) := f88_two 0 0
  have e4 := f119_eq m
  have e5 := f119_eq m'
  have z1 : (true && decide ((0 : Int) < (a.length : Int))) = true := by have := m.h0; have := m.len; simp; omega
  have z2 : (true && decide ((0 : Int) < (b.length : Int))) = true := by have := m'.h0; have := m'.len; simp; omega
  have d3 : decide ((a.length : Int) = (b.length : Int)) = true := by rw [decide_eq_true_eq, m.len, m'.len]
  have d4 : decide (((List.getD a 0 []).length : Int) = ((List.getD b 0 []).length : Int)) = true := by
    have q1 := m.row 0 m.h0
    have q2 := m'.row 0 m.h0
    simp only [ch] at q1 q2
    rw [decide_eq_true_eq, q1, q2]
  obtain ⟨t1, t2, t3⟩ := tot_bd m H m.h1
  obtain ⟨u1, u2, u3⟩ := tot_bd m' H m'.h1
  have p1 := tot_pos m
  have p2 := tot_pos m'
  have e6 := f120_eq (imX b H W) (imT b H W) (imX a H W) (imT a H W) (by omega) (by omega) ⟨p2, u3.2⟩ ⟨p1, t3.2⟩
  have e7 := f120_eq (imY b H W) (imT b H W) (imY a H W) (imT a H W) (by omega) (by omega) ⟨p2, u3.2⟩ ⟨p1, t3.2⟩
  simp only [f72, t72, Tr.val_test, Tr.val_fin, Tr.val_stop, g118, e1, e2, g88, e3, eqF_eq, z1, z2, d3, d4, decide_true, g119, e4, e5, g120, e6, e7, Option.isSome_some, Option.getD_some, Bool.not_true, Bool.false_eq_true, if_false, if_true]

theorem mvE_ok {a b : List (List Int)} (h : mvE a b = 0) : imE a = 0 ∧ imE b = 0 ∧ ∃ H W, Im a H W ∧ Im b H W := by
  unfold mvE at h
  split at h
  · exact absurd h (by assumption)
  · rename_i h1
    split at h
    · exact absurd h (by assumption)
    · rename_i h2
      split at h
      · rename_i h3
        have h1' : imE a = 0 := by simpa using h1
        have h2' : imE b = 0 := by simpa using h2
        obtain ⟨H, W, m⟩ := im_of h1'
        obtain ⟨H', W', m'⟩ := im_of h2'
        have q1 : H' = H := by rw [← m.len, ← m'.len]; exact h3.1.symm
        have q2 : W' = W := by rw [← m.row 0 m.h0, ← m'.row 0 m'.h0]; exact h3.2.symm
        subst q1; subst q2
        exact ⟨h1', h2', _, _, m, m'⟩
      · cases h

/-! How many. -/

def fitI (c : List (List Int)) : Bool := (first (fun i => !decide (((ch c i).length : Int) ≤ 12)) c.length 0).isNone && decide ((c.length : Int) ≤ 12)

theorem f69_eq (c : List (List Int)) (h : c.length ≤ 9223372036854775807) : f69 (c, ()) = some (fitI c, ()) := by
  have hl : l69_0 ((c, (0 : Int), ()), ()) = match first (fun i => !decide (((ch c i).length : Int) ≤ 12)) c.length 0 with
    | some _ => some (.inr ((false, ()), ()))
    | none => some (.inl ((c, ()), ())) := by
    refine itr_search (fun i => ((c, (i : Int), ()), ())) (fun i => !decide (((ch c i).length : Int) ≤ 12)) (fun k => ((false, ()), ())) (n := c.length) ?_ ?_ (lt_rounds (by omega))
    · intro i hi
      simp only [s69_0, t69_0, Tr.val_test, Tr.val_fin, Tr.val_stop, leF_eq, eqF_eq, Int.toNat_natCast, wrap64_nat (show i ≤ 9223372036854775806 by omega), ch]
      rw [if_pos (by simp; omega), if_pos (by simp; omega)]
    · simp [s69_0, t69_0, leF_eq]
  simp only [f69, t69, Tr.val_test, Tr.val_fin, Tr.val_stop, leF_eq, fitI]
  cases hf : first (fun i => !decide (((ch c i).length : Int) ≤ 12)) c.length 0 with
  | none =>
    rw [hf] at hl
    simp only [hl, isRet, b69_0, outB, Option.isSome_some, Option.isNone_none, if_true, Bool.false_eq_true, if_false, Bool.true_and]
  | some k =>
    rw [hf] at hl
    simp only [hl, isRet, r69_0, outR, Option.isSome_some, Option.isNone_some, if_true, Bool.false_and]

theorem fitI_ok {c : List (List Int)} (h : fitI c = true) : Sm c := by
  simp only [fitI, Bool.and_eq_true, decide_eq_true_eq, Option.isNone_iff_eq_none] at h
  refine ⟨by omega, fun i => ?_⟩
  by_cases hi : i < c.length
  · have := first_none h.1 i (Nat.zero_le _) (by omega)
    have : ((ch c i).length : Int) ≤ 12 := by simpa using this
    omega
  · have : ch c i = [] := by simp [ch, List.getD, List.getElem?_eq_none (Nat.le_of_not_lt hi)]
    rw [this]; simp

end Go.Vm.Mo

namespace Go.Vm.Mo
open Go
set_option linter.unusedVariables false
set_option linter.unusedSimpArgs false

def mkL (f : Nat → Int) (n : Nat) : List Int := (List.range n).map f

theorem mkL_len (f : Nat → Int) (n : Nat) : (mkL f n).length = n := by simp [mkL]

theorem mkL_get (f : Nat → Int) (n x : Nat) : (mkL f n).getD x 0 = if x < n then f x else 0 := by
  by_cases h : x < n
  · rw [if_pos h]
    simp [mkL, List.getD, h]
  · rw [if_neg h]
    exact getD_out (by rw [mkL_len]; omega)

theorem mkL_congr {f g : Nat → Int} {n : Nat} (h : ∀ i, i < n → f i = g i) : mkL f n = mkL g n := by
  unfold mkL
  exact List.map_congr_left fun i hi => h i (by simpa using hi)

theorem mkL_set (f : Nat → Int) (n i : Nat) (v : Int) : (mkL f n).set i v = mkL (fun j => if j = i then v else f j) n := by
  apply List.ext_getElem?
  intro k
  rw [List.getElem?_set]
  by_cases hk : k < n
  · by_cases h : i = k
    · subst h
      simp [mkL, hk]
    · have : ¬ k = i := fun q => h q.symm
      simp [mkL, hk, h, this]
  · by_cases h : i = k
    · subst h
      simp [mkL, hk]
    · simp [mkL, hk, h]

theorem repl_mkL (n : Nat) : List.replicate n (0 : Int) = mkL (fun _ => 0) n := by
  unfold mkL
  rw [List.map_const']
  simp

/-! The moved image. -/

def qx (dn : Bool) (c : List (List Int)) (y x : Nat) : Int := if dn = true then (if y = 0 then 0 else px c (y - 1) x) else if x = 0 then 0 else px c y (x - 1)

theorem px_out {c : List (List Int)} {H W : Nat} (m : Im c H W) {y x : Nat} (h : H ≤ y ∨ W ≤ x) : px c y x = 0 := by
  unfold px
  by_cases hy : y < H
  · exact getD_out (by rw [m.row y hy]; omega)
  · have : ch c y = [] := by simp [ch, List.getD, List.getElem?_eq_none (show c.length ≤ y by rw [m.len]; omega)]
    rw [this]; rfl

def pRow (c : List (List Int)) (y x : Nat) (j : Nat) : Int := if j < x then px c y j else 0
def qRow (dn : Bool) (c : List (List Int)) (y x : Nat) (j : Nat) : Int := if j < (if dn = true then x else x + 1) then qx dn c y j else 0

theorem qx_t (c : List (List Int)) (y x : Nat) : qx true c y x = if y = 0 then 0 else px c (y - 1) x := rfl
theorem qx_f (c : List (List Int)) (y x : Nat) : qx false c y x = if x = 0 then 0 else px c y (x - 1) := rfl
theorem qRow_t (c : List (List Int)) (y x j : Nat) : qRow true c y x j = if j < x then (if y = 0 then 0 else px c (y - 1) j) else 0 := rfl
theorem qRow_f (c : List (List Int)) (y x j : Nat) : qRow false c y x j = if j < x + 1 then (if j = 0 then 0 else px c y (j - 1)) else 0 := rfl

theorem pRow_step {c : List (List Int)} {y x n : Nat} : (mkL (pRow c y x) n).set x (px c y x) = mkL (pRow c y (x + 1)) n := by
  rw [mkL_set]
  refine mkL_congr fun j _ => ?_
  unfold pRow
  by_cases h : j = x
  · subst h; rw [if_pos rfl, if_pos (by omega)]
  · rw [if_neg h]
    by_cases h2 : j < x
    · rw [if_pos h2, if_pos (by omega)]
    · rw [if_neg h2, if_neg (by omega)]

theorem l10i {c : List (List Int)} {H W : Nat} (m : Im c H W) (o : List (List Int)) (dn : Bool) (A B : List (List Int)) (y : Nat) (hy : y ≤ H) :
    l10_2_1 ((c, o, dn, A, B, (y : Int), ((W + 1 : Nat), (W + 1 : Nat)), ((W + 1 : Nat), (W + 1 : Nat)), (0 : Int), ()), mkL (fun _ => 0) (W + 1), mkL (fun _ => 0) (W + 1), ()) =
      some (.inl ((c, o, dn, A, B, (y : Int), ((W + 1 : Nat), (W + 1 : Nat)), ((W + 1 : Nat), (W + 1 : Nat)), ()), mkL (px c y) (W + 1), mkL (qx dn c y) (W + 1), ())) := by
  have hw := m.w1
  have hh := m.h1
  have hlen := m.len
  have hrow0 : (List.getD c 0 []).length = W := m.row 0 m.h0
  have key := itr_brk (step := s10_2_1) (fun x => ((c, o, dn, A, B, (y : Int), ((W + 1 : Nat), (W + 1 : Nat)), ((W + 1 : Nat), (W + 1 : Nat)), (x : Int), ()), mkL (pRow c y x) (W + 1), mkL (qRow dn c y x) (W + 1), ())) (n := W) (m := rounds) (b := ((c, o, dn, A, B, (y : Int), ((W + 1 : Nat), (W + 1 : Nat)), ((W + 1 : Nat), (W + 1 : Nat)), ()), mkL (pRow c y W) (W + 1), mkL (qRow dn c y W) (W + 1), ())) ?_ ?_ (lt_rounds (by omega))
  · have e1 : mkL (pRow c y 0) (W + 1) = mkL (fun _ => 0) (W + 1) := mkL_congr fun j _ => by unfold pRow; rw [if_neg (by omega)]
    have e2 : mkL (qRow dn c y 0) (W + 1) = mkL (fun _ => 0) (W + 1) := mkL_congr fun j _ => by
      cases dn with
      | true => rw [qRow_t, if_neg (by omega)]
      | false =>
        rw [qRow_f]
        by_cases hj : j < 0 + 1
        · rw [if_pos hj, if_pos (by omega)]
        · rw [if_neg hj]
    have e3 : mkL (pRow c y W) (W + 1) = mkL (px c y) (W + 1) := mkL_congr fun j _ => by
      unfold pRow
      by_cases hj : j < W
      · rw [if_pos hj]
      · rw [if_neg hj, px_out m (.inr (by omega))]
    have e4 : mkL (qRow dn c y W) (W + 1) = mkL (qx dn c y) (W + 1) := mkL_congr fun j hj => by
      cases dn with
      | true =>
        rw [qRow_t, qx_t]
        by_cases h2 : j < W
        · rw [if_pos h2]
        · rw [if_neg h2]
          split
          · rfl
          · rw [px_out m (.inr (by omega))]
      | false => rw [qRow_f, qx_f, if_pos hj]
    rw [e3, e4] at key
    simp only [e1, e2] at key
    exact key
  · intro x hx
    have hx1 : (decide ((0 : Int) ≤ (x : Int)) && decide ((x : Int) < ((W + 1 : Nat) : Int))) = true := by simp only [Bool.and_eq_true, decide_eq_true_eq]; omega
    have hx2 : (decide ((0 : Int) ≤ ((x + 1 : Nat) : Int)) && decide (((x + 1 : Nat) : Int) < ((W + 1 : Nat) : Int))) = true := by simp only [Bool.and_eq_true, decide_eq_true_eq]; omega
    have b1 : Nat.ble (0 + x + 1) (mkL (pRow c y x) (W + 1)).length = true := by rw [mkL_len, ble_eq_true']; omega
    have b2 : Nat.ble (0 + x + 1) (mkL (qRow dn c y x) (W + 1)).length = true := by rw [mkL_len, ble_eq_true']; omega
    have b3 : Nat.ble (0 + (x + 1) + 1) (mkL (qRow dn c y x) (W + 1)).length = true := by rw [mkL_len, ble_eq_true']; omega
    have c0 : (true && decide ((0 : Int) < (c.length : Int))) = true := by have := m.h0; simp; omega
    have c1 : (!decide (((List.getD c 0 []).length : Int) ≤ (x : Int))) = true := by rw [hrow0]; simp; omega
    have w : wrap64 ((x : Int) + 1) = ((x + 1 : Nat) : Int) := wrap64_nat (by omega)
    have ep : List.getD (List.getD c y []) x (0 : Int) = px c y x := rfl
    simp only [s10_2_1, t10_2_1, Tr.val_test, Tr.val_fin, Tr.val_stop, leF_eq, c0, c1, w, Int.toNat_natCast, if_true]
    by_cases hyH : y < H
    · have r1 : (!decide ((c.length : Int) ≤ (y : Int))) = true := by simp; omega
      have r2 : (decide ((0 : Int) ≤ (y : Int)) && decide ((y : Int) < (c.length : Int))) = true := by simp; omega
      have hr : (List.getD c y []).length = W := m.row y hyH
      have r3 : (decide ((0 : Int) ≤ (x : Int)) && decide ((x : Int) < ((List.getD c y []).length : Int))) = true := by rw [hr]; simp; omega
      simp only [r1, r2, r3, hx1, b1, ep, if_true]
      rw [show 0 + x = x by omega, pRow_step]
      cases dn with
      | true =>
        simp only [if_true]
        by_cases hy0 : y = 0
        · subst hy0
          have r4 : (!decide (((0 : Nat) : Int) ≤ 0)) = false := by simp
          simp only [r4, Bool.false_eq_true, if_false]
          have : mkL (qRow true c 0 (x + 1)) (W + 1) = mkL (qRow true c 0 x) (W + 1) := mkL_congr fun j _ => by
            rw [qRow_t, qRow_t]
            simp
          rw [this]
        · have r4 : (!decide ((y : Int) ≤ 0)) = true := by simp; omega
          have wy : wrap64 ((y : Int) - 1) = ((y - 1 : Nat) : Int) := by rw [wrap64_id (by omega) (by omega)]; omega
          have hr' : (List.getD c (y - 1) []).length = W := m.row (y - 1) (by omega)
          have r5 : (decide ((0 : Int) ≤ ((y - 1 : Nat) : Int)) && decide (((y - 1 : Nat) : Int) < (c.length : Int))) = true := by simp; omega
          have r6 : (decide ((0 : Int) ≤ (x : Int)) && decide ((x : Int) < ((List.getD c (y - 1) []).length : Int))) = true := by rw [hr']; simp; omega
          simp only [r4, wy, Int.toNat_natCast, r5, r6, hx1, if_true]
          rw [show 0 + x = x by omega] at b2
          rw [if_pos b2]
          have : (mkL (qRow true c y x) (W + 1)).set x (List.getD (List.getD c (y - 1) []) x (0 : Int)) = mkL (qRow true c y (x + 1)) (W + 1) := by
            rw [mkL_set]
            refine mkL_congr fun j _ => ?_
            rw [qRow_t, qRow_t]
            by_cases h : j = x
            · subst h
              rw [if_pos rfl, if_pos (by omega), if_neg hy0]
              rfl
            · rw [if_neg h]
              by_cases h2 : j < x
              · rw [if_pos h2, if_pos (show j < x + 1 by omega)]
              · rw [if_neg h2, if_neg (show ¬ j < x + 1 by omega)]
          rw [this]
      | false =>
        simp only [Bool.false_eq_true, if_false]
        rw [if_pos hx2, if_pos b3, show 0 + (x + 1) = x + 1 by omega]
        have : (mkL (qRow false c y x) (W + 1)).set (x + 1) (px c y x) = mkL (qRow false c y (x + 1)) (W + 1) := by
          rw [mkL_set]
          refine mkL_congr fun j _ => ?_
          rw [qRow_f, qRow_f]
          by_cases h : j = x + 1
          · subst h
            rw [if_pos rfl, if_pos (show x + 1 < x + 1 + 1 by omega), if_neg (show ¬ x + 1 = 0 by omega), Nat.add_sub_cancel]
          · rw [if_neg h]
            by_cases h2 : j < x + 1
            · rw [if_pos h2, if_pos (show j < x + 1 + 1 by omega)]
            · rw [if_neg h2, if_neg (show ¬ j < x + 1 + 1 by omega)]
        rw [this]
    · have hyE : y = H := by omega
      have r1 : (!decide ((c.length : Int) ≤ (y : Int))) = false := by simp; omega
      have z1 : ∀ j, px c y j = 0 := fun j => px_out m (.inl (by omega))
      have p1 : mkL (pRow c y (x + 1)) (W + 1) = mkL (pRow c y x) (W + 1) := mkL_congr fun j _ => by
        unfold pRow
        rw [z1]; simp
      simp only [r1, Bool.false_eq_true, if_false, p1]
      cases dn with
      | true =>
        simp only [if_true]
        have hy0 : y ≠ 0 := by have := m.h0; omega
        have r4 : (!decide ((y : Int) ≤ 0)) = true := by simp; omega
        have wy : wrap64 ((y : Int) - 1) = ((y - 1 : Nat) : Int) := by rw [wrap64_id (by omega) (by omega)]; omega
        have hr' : (List.getD c (y - 1) []).length = W := m.row (y - 1) (by omega)
        have r5 : (decide ((0 : Int) ≤ ((y - 1 : Nat) : Int)) && decide (((y - 1 : Nat) : Int) < (c.length : Int))) = true := by simp; omega
        have r6 : (decide ((0 : Int) ≤ (x : Int)) && decide ((x : Int) < ((List.getD c (y - 1) []).length : Int))) = true := by rw [hr']; simp; omega
        simp only [r4, wy, Int.toNat_natCast, r5, r6, hx1, b2, if_true]
        rw [show 0 + x = x by omega]
        have : (mkL (qRow true c y x) (W + 1)).set x (List.getD (List.getD c (y - 1) []) x (0 : Int)) = mkL (qRow true c y (x + 1)) (W + 1) := by
          rw [mkL_set]
          refine mkL_congr fun j _ => ?_
          rw [qRow_t, qRow_t]
          by_cases h : j = x
          · subst h
            rw [if_pos rfl, if_pos (by omega), if_neg hy0]
            rfl
          · rw [if_neg h]
            by_cases h2 : j < x
            · rw [if_pos h2, if_pos (show j < x + 1 by omega)]
            · rw [if_neg h2, if_neg (show ¬ j < x + 1 by omega)]
        rw [this]
      | false =>
        simp only [Bool.false_eq_true, if_false]
        have : mkL (qRow false c y (x + 1)) (W + 1) = mkL (qRow false c y x) (W + 1) := mkL_congr fun j _ => by
          rw [qRow_f, qRow_f]
          by_cases h : j = 0
          · rw [if_pos h]; simp
          · rw [if_neg h, z1]; simp
        rw [this]
  · have c0 : (true && decide ((0 : Int) < (c.length : Int))) = true := by have := m.h0; simp; omega
    have c1 : (!decide (((List.getD c 0 []).length : Int) ≤ (W : Int))) = false := by rw [hrow0]; simp
    simp only [s10_2_1, t10_2_1, Tr.val_test, Tr.val_fin, Tr.val_stop, leF_eq, c0, c1, Bool.false_eq_true, if_true, if_false]

def rows (f : Nat → Nat → Int) (W H : Nat) : List (List Int) := (List.range H).map fun y => mkL (f y) W

theorem rows_len (f : Nat → Nat → Int) (W H : Nat) : (rows f W H).length = H := by simp [rows]

theorem rows_succ (f : Nat → Nat → Int) (W H : Nat) : rows f W (H + 1) = rows f W H ++ [mkL (f H) W] := by simp [rows, List.range_succ]

theorem rows_ch (f : Nat → Nat → Int) (W H : Nat) {y : Nat} (h : y < H) : ch (rows f W H) y = mkL (f y) W := by simp [ch, rows, List.getD, h]

theorem rows_px (f : Nat → Nat → Int) (W H y x : Nat) : px (rows f W H) y x = if y < H ∧ x < W then f y x else 0 := by
  unfold px
  by_cases hy : y < H
  · rw [rows_ch f W H hy, mkL_get]
    by_cases hx : x < W
    · rw [if_pos hx, if_pos ⟨hy, hx⟩]
    · rw [if_neg hx, if_neg (fun q => hx q.2)]
  · have : ch (rows f W H) y = [] := by simp [ch, rows, List.getD, hy]
    rw [this, if_neg (fun q => hy q.1)]; rfl

theorem l10o {c : List (List Int)} {H W : Nat} (m : Im c H W) (o : List (List Int)) (dn : Bool) :
    l10_0 ((c, o, dn, [], [], (0 : Int), ()), ()) = some (.inl ((c, o, dn, rows (px c) (W + 1) (H + 1), rows (qx dn c) (W + 1) (H + 1), ()), ())) := by
  have hw := m.w1
  have hh := m.h1
  have hlen := m.len
  have hrow0 : (List.getD c 0 []).length = W := m.row 0 m.h0
  refine itr_brk (fun y => ((c, o, dn, rows (px c) (W + 1) y, rows (qx dn c) (W + 1) y, (y : Int), ()), ())) (n := H + 1) ?_ ?_ (lt_rounds (by omega))
  · intro y hy
    have c0 : (true && decide ((0 : Int) < (c.length : Int))) = true := by have := m.h0; simp; omega
    have w0 : wrap64 (((List.getD c 0 []).length : Int) + 1) = ((W + 1 : Nat) : Int) := by rw [hrow0]; exact wrap64_nat (by omega)
    have c2 : (decide ((0 : Int) ≤ ((W + 1 : Nat) : Int)) && decide (((W + 1 : Nat) : Int) ≤ ((W + 1 : Nat) : Int)) && decide ((8 : Int) * ((W + 1 : Nat) : Int) ≤ (281474976710656 : Int)) && decide (((W + 1 : Nat) : Int) ≤ (281474976710656 : Int))) = true := by
      simp only [Bool.and_eq_true, decide_eq_true_eq]; omega
    have e := l10i m o dn (rows (px c) (W + 1) y) (rows (qx dn c) (W + 1) y) y (by omega)
    have la := rows_len (px c) (W + 1) y
    have lb := rows_len (qx dn c) (W + 1) y
    have c3 : decide ((y : Int) ≤ (c.length : Int)) = true := by rw [decide_eq_true_eq]; omega
    simp only [s10_0, t10_0, Tr.val_test, Tr.val_fin, Tr.val_stop, leF_eq, c0, c3, w0, c2, Int.toNat_natCast, repl_mkL, e, isBrk, b10_2_1, outB, if_true]
    rw [if_pos (by rw [mkL_len]; exact Nat.beq_refl _), if_pos (by simp only [Bool.and_eq_true, ble_eq_true']; omega), if_pos (by rw [mkL_len]; exact Nat.beq_refl _), if_pos (by simp only [Bool.and_eq_true, ble_eq_true']; omega)]
    rw [rows_succ, rows_succ, wrap64_nat (show y ≤ 9223372036854775806 by omega)]
  · have : ¬ ((H + 1 : Nat) : Int) ≤ (c.length : Int) := by omega
    simp only [s10_0, t10_0, Tr.val_test, Tr.val_fin, Tr.val_stop, leF_eq, this, decide_false, Bool.false_eq_true, if_false]

theorem imE_of {c : List (List Int)} {H W : Nat} (m : Im c H W) : imE c = 0 := by
  have h0 := m.h0
  have h1 := m.h1
  have w0 := m.w0
  have w1 := m.w1
  have hl := m.len
  have r0 := m.row 0 m.h0
  have s1 : shF c ((ch c 0).length : Int) = none := first_of_none fun i _ hi => by
    have := m.row i (by omega)
    have k1 : ¬ (ch c i).length = 0 := by omega
    have k2 : ((ch c i).length : Int) = ((ch c 0).length : Int) := by omega
    unfold shB
    rw [decide_eq_false k1, decide_eq_true k2]; rfl
  have s2 : rgF c = none := first_of_none fun i _ hi => by
    have : pxF 0 255 (ch c i) = none := first_of_none fun x _ _ => by
      have : wi 0 255 ((ch c i).getD x 0) = true := wi_iff.2 (m.bd i x)
      rw [this]; rfl
    unfold rowIn
    rw [this]; rfl
  have s3 : (brF c).isSome = true := by
    obtain ⟨y, x, hy, hx, hp⟩ := m.lit
    cases hq : brF c with
    | some k => rfl
    | none =>
      exfalso
      have q1 := first_none hq y (Nat.zero_le _) (by omega)
      have q2 : rowIn 0 0 (ch c y) = true := by simpa using q1
      have q3 : pxF 0 0 (ch c y) = none := by simpa [rowIn] using q2
      have := m.row y hy
      have q4 := first_none q3 x (Nat.zero_le _) (by omega)
      have q5 : wi 0 0 ((ch c y).getD x 0) = true := by simpa using q4
      have := wi_iff.1 q5
      unfold px at hp
      omega
  have vS : imS c = 0 := by unfold imS; rw [s1]; rfl
  have vW : imW c = 0 := by unfold imW; rw [if_pos (by omega)]
  have vR : imR c = 0 := by unfold imR; rw [s2]; rfl
  have vB : imB c = 0 := by unfold imB; rw [s3]; rfl
  unfold imE
  rw [if_neg (by omega), vS, vW, vR, vB]
  rfl

theorem imA {c : List (List Int)} {H W : Nat} (m : Im c H W) (hH : H ≤ 9) (hW : W ≤ 9) : Im (rows (px c) (W + 1) (H + 1)) (H + 1) (W + 1) := by
  refine ⟨by omega, by omega, by omega, by omega, rows_len _ _ _, fun y hy => by rw [rows_ch _ _ _ hy, mkL_len], fun y x => ?_, ?_⟩
  · rw [rows_px]
    split
    · exact m.bd y x
    · omega
  · obtain ⟨y, x, hy, hx, hp⟩ := m.lit
    exact ⟨y, x, by omega, by omega, by rw [rows_px, if_pos ⟨by omega, by omega⟩]; exact hp⟩

theorem qx_bd {c : List (List Int)} {H W : Nat} (m : Im c H W) (dn : Bool) (y x : Nat) : 0 ≤ qx dn c y x ∧ qx dn c y x ≤ 255 := by
  unfold qx
  split
  · split
    · omega
    · exact m.bd _ _
  · split
    · omega
    · exact m.bd _ _

theorem imB' {c : List (List Int)} {H W : Nat} (m : Im c H W) (dn : Bool) (hH : H ≤ 9) (hW : W ≤ 9) : Im (rows (qx dn c) (W + 1) (H + 1)) (H + 1) (W + 1) := by
  refine ⟨by omega, by omega, by omega, by omega, rows_len _ _ _, fun y hy => by rw [rows_ch _ _ _ hy, mkL_len], fun y x => ?_, ?_⟩
  · rw [rows_px]
    split
    · exact qx_bd m dn y x
    · omega
  · obtain ⟨y, x, hy, hx, hp⟩ := m.lit
    cases dn with
    | true =>
      refine ⟨y + 1, x, by omega, by omega, ?_⟩
      rw [rows_px, if_pos ⟨by omega, by omega⟩]
      rw [qx_t, if_neg (by omega), Nat.add_sub_cancel]; exact hp
    | false =>
      refine ⟨y, x + 1, by omega, by omega, ?_⟩
      rw [rows_px, if_pos ⟨by omega, by omega⟩]
      rw [qx_f, if_neg (by omega), Nat.add_sub_cancel]; exact hp

/-! Their sums. -/

theorem smP_shift (f : Nat → Int) : ∀ n, smP (fun i => if i = 0 then 0 else f (i - 1)) (n + 1) = smP f n
  | 0 => by simp [smP]
  | n + 1 => by
    have ih := smP_shift f n
    have e : smP (fun i => if i = 0 then 0 else f (i - 1)) (n + 1 + 1) = smP (fun i => if i = 0 then 0 else f (i - 1)) (n + 1) + (if n + 1 = 0 then 0 else f (n + 1 - 1)) := rfl
    rw [e, ih, if_neg (by omega), Nat.add_sub_cancel]; rfl

theorem smP_last {f : Nat → Int} {n : Nat} (h : f n = 0) : smP f (n + 1) = smP f n := by
  have e : smP f (n + 1) = smP f n + f n := rfl
  rw [e, h]; omega

/-- A sum over an image by rows, read from a rule. -/
theorem sum_rows (g : Nat → Nat → Int → Int) (hg : ∀ y x, g y x 0 = 0) (f : Nat → Nat → Int) (W H : Nat) : smP (fun y => smP (fun x => g y x (px (rows f W H) y x)) W) H = smP (fun y => smP (fun x => g y x (f y x)) W) H :=
  smP_congr H fun y hy => smP_congr W fun x hx => by rw [rows_px, if_pos ⟨hy, hx⟩]

theorem sum_pad {c : List (List Int)} {H W : Nat} (m : Im c H W) (g : Nat → Nat → Int → Int) (hg : ∀ y x, g y x 0 = 0) : smP (fun y => smP (fun x => g y x (px c y x)) (W + 1)) (H + 1) = smP (fun y => smP (fun x => g y x (px c y x)) W) H := by
  have e1 : ∀ y, smP (fun x => g y x (px c y x)) (W + 1) = smP (fun x => g y x (px c y x)) W := fun y => smP_last (by rw [px_out m (.inr (Nat.le_refl _)), hg])
  rw [smP_last (f := fun y => smP (fun x => g y x (px c y x)) (W + 1)) (by
    show smP (fun x => g H x (px c H x)) (W + 1) = 0
    rw [smP_congr (g := fun _ => 0) _ (fun x _ => by rw [px_out m (.inl (Nat.le_refl _)), hg]), smP_const]; simp)]
  exact smP_congr H fun y _ => e1 y

theorem A_sums {c : List (List Int)} {H W : Nat} (m : Im c H W) :
    imX (rows (px c) (W + 1) (H + 1)) (H + 1) (W + 1) = imX c H W ∧ imY (rows (px c) (W + 1) (H + 1)) (H + 1) (W + 1) = imY c H W ∧ imT (rows (px c) (W + 1) (H + 1)) (H + 1) (W + 1) = imT c H W := by
  refine ⟨?_, ?_, ?_⟩
  · have h1 := sum_rows (fun y x v => (x : Int) * v) (fun _ _ => Int.mul_zero _) (px c) (W + 1) (H + 1)
    have h2 := sum_pad m (fun y x v => (x : Int) * v) (fun _ _ => Int.mul_zero _)
    unfold imX
    rw [h1, h2]
  · have h1 := sum_rows (fun y x v => (y : Int) * v) (fun _ _ => Int.mul_zero _) (px c) (W + 1) (H + 1)
    have h2 := sum_pad m (fun y x v => (y : Int) * v) (fun _ _ => Int.mul_zero _)
    unfold imY
    rw [h1, h2]
  · have h1 := sum_rows (fun y x v => v) (fun _ _ => rfl) (px c) (W + 1) (H + 1)
    have h2 := sum_pad m (fun y x v => v) (fun _ _ => rfl)
    unfold imT
    rw [h1, h2]

/-- Moved down: a sum with the row's number. -/
theorem sum_down {c : List (List Int)} {H W : Nat} (m : Im c H W) (g : Nat → Nat → Int → Int) (hg : ∀ y x, g y x 0 = 0) : smP (fun y => smP (fun x => g y x (qx true c y x)) (W + 1)) (H + 1) = smP (fun y => smP (fun x => g (y + 1) x (px c y x)) W) H := by
  have e : ∀ y, y < H + 1 → smP (fun x => g y x (qx true c y x)) (W + 1) = if y = 0 then 0 else (fun y => smP (fun x => g (y + 1) x (px c y x)) W) (y - 1) := by
    intro y _
    by_cases h : y = 0
    · rw [if_pos h, smP_congr (g := fun _ => 0) _ (fun x _ => by rw [qx_t, if_pos h, hg]), smP_const]; simp
    · rw [if_neg h]
      have e2 : smP (fun x => g y x (qx true c y x)) (W + 1) = smP (fun x => g y x (px c (y - 1) x)) (W + 1) := smP_congr _ fun x _ => by rw [qx_t, if_neg h]
      rw [e2, smP_last (by rw [px_out m (.inr (Nat.le_refl _)), hg])]
      show _ = smP (fun x => g (y - 1 + 1) x (px c (y - 1) x)) W
      rw [show y - 1 + 1 = y by omega]
  rw [smP_congr _ e]
  exact smP_shift (fun y => smP (fun x => g (y + 1) x (px c y x)) W) H

theorem sum_right {c : List (List Int)} {H W : Nat} (m : Im c H W) (g : Nat → Nat → Int → Int) (hg : ∀ y x, g y x 0 = 0) : smP (fun y => smP (fun x => g y x (qx false c y x)) (W + 1)) (H + 1) = smP (fun y => smP (fun x => g y (x + 1) (px c y x)) W) H := by
  have e : ∀ y, y < H + 1 → smP (fun x => g y x (qx false c y x)) (W + 1) = smP (fun x => g y (x + 1) (px c y x)) W := by
    intro y _
    have e2 : smP (fun x => g y x (qx false c y x)) (W + 1) = smP (fun x => if x = 0 then 0 else (fun x => g y (x + 1) (px c y x)) (x - 1)) (W + 1) := smP_congr _ fun x _ => by
      rw [qx_f]
      by_cases h : x = 0
      · rw [if_pos h, if_pos h, hg]
      · rw [if_neg h, if_neg h]
        show _ = g y (x - 1 + 1) (px c y (x - 1))
        rw [show x - 1 + 1 = x by omega]
    rw [e2]
    exact smP_shift (fun x => g y (x + 1) (px c y x)) W
  rw [smP_congr _ e, smP_last (f := fun y => smP (fun x => g y (x + 1) (px c y x)) W) (by
    show smP (fun x => g H (x + 1) (px c H x)) W = 0
    rw [smP_congr (g := fun _ => 0) _ (fun x _ => by rw [px_out m (.inl (Nat.le_refl _)), hg]), smP_const]; simp)]

theorem B_sums {c : List (List Int)} {H W : Nat} (m : Im c H W) (dn : Bool) :
    imX (rows (qx dn c) (W + 1) (H + 1)) (H + 1) (W + 1) = (if dn = true then imX c H W else imX c H W + imT c H W) ∧
    imY (rows (qx dn c) (W + 1) (H + 1)) (H + 1) (W + 1) = (if dn = true then imY c H W + imT c H W else imY c H W) ∧
    imT (rows (qx dn c) (W + 1) (H + 1)) (H + 1) (W + 1) = imT c H W := by
  have two : ∀ (f g : Nat → Nat → Int), smP (fun y => smP (fun x => f y x + g y x) W) H = smP (fun y => smP (fun x => f y x) W) H + smP (fun y => smP (fun x => g y x) W) H := by
    intro f g
    rw [smP_congr _ (fun y _ => smP_add (f y) (g y) W), smP_add]
  have h1 := sum_rows (fun y x v => (x : Int) * v) (fun _ _ => Int.mul_zero _) (qx dn c) (W + 1) (H + 1)
  have h2 := sum_rows (fun y x v => (y : Int) * v) (fun _ _ => Int.mul_zero _) (qx dn c) (W + 1) (H + 1)
  have h3 := sum_rows (fun y x v => v) (fun _ _ => rfl) (qx dn c) (W + 1) (H + 1)
  unfold imX imY imT
  rw [h1, h2, h3]
  cases dn with
  | true =>
    rw [if_pos rfl, if_pos rfl]
    have k1 := sum_down m (fun y x v => (x : Int) * v) (fun _ _ => Int.mul_zero _)
    have k2 := sum_down m (fun y x v => (y : Int) * v) (fun _ _ => Int.mul_zero _)
    have k3 := sum_down m (fun y x v => v) (fun _ _ => rfl)
    refine ⟨k1, ?_, k3⟩
    rw [k2, ← two]
    refine smP_congr _ fun y _ => smP_congr _ fun x _ => ?_
    rw [Int.natCast_add, Int.add_mul]; simp
  | false =>
    rw [if_neg (by decide), if_neg (by decide)]
    have k1 := sum_right m (fun y x v => (x : Int) * v) (fun _ _ => Int.mul_zero _)
    have k2 := sum_right m (fun y x v => (y : Int) * v) (fun _ _ => Int.mul_zero _)
    have k3 := sum_right m (fun y x v => v) (fun _ _ => rfl)
    refine ⟨?_, k2, k3⟩
    rw [k1, ← two]
    refine smP_congr _ fun y _ => smP_congr _ fun x _ => ?_
    rw [Int.natCast_add, Int.add_mul]; simp

/-! Differences of centers. -/

theorem fr_zero {y : Int} (h : 0 < y) : fr 0 y = ((0 : Int), (1 : Int), ()) := by
  unfold fr
  have e : Nat.gcd (0 : Int).natAbs y.natAbs = y.natAbs := by simp
  rw [e]
  have : ((y.natAbs : Nat) : Int) = y := by omega
  rw [this, Int.zero_tdiv, Int.tdiv_self (by omega)]

theorem fr_self {y : Int} (h : 0 < y) : fr y y = ((1 : Int), (1 : Int), ()) := by
  unfold fr
  have e : Nat.gcd y.natAbs y.natAbs = y.natAbs := Nat.gcd_self _
  rw [e]
  have : ((y.natAbs : Nat) : Int) = y := by omega
  rw [this, Int.tdiv_self (by omega)]

theorem mn_same {x t : Int} (h : 0 < t) : mn (fr x t) (fr x t) = ((0 : Int), (1 : Int), ()) := by
  unfold mn
  rw [Int.sub_self]
  exact fr_zero (Int.mul_pos (fr_pos h) (fr_pos h))

theorem mul_cancel' {a b g : Int} (hg : g ≠ 0) (h : a * g = b * g) : a = b := Int.eq_of_mul_eq_mul_right hg h

theorem fr_plus {x t : Int} (hx : 0 ≤ x) (h : 0 < t) : (fr (x + t) t).1 = (fr x t).1 + (fr x t).2.1 ∧ (fr (x + t) t).2.1 = (fr x t).2.1 := by
  have eg : Nat.gcd (x + t).natAbs t.natAbs = Nat.gcd x.natAbs t.natAbs := by
    rw [show (x + t).natAbs = x.natAbs + t.natAbs by omega]
    exact Nat.gcd_add_self_left _ _
  have g0 := gcd_pos' (x := x) (y := t) (by omega)
  obtain ⟨a1, a2⟩ := fr_mul (x + t) t
  obtain ⟨b1, b2⟩ := fr_mul x t
  rw [eg] at a1 a2
  have hg : ((Nat.gcd x.natAbs t.natAbs : Nat) : Int) ≠ 0 := by omega
  refine ⟨mul_cancel' hg ?_, mul_cancel' hg ?_⟩
  · rw [a1, Int.add_mul, b1, b2]
  · rw [a2, b2]

theorem mn_one {x t : Int} (hx : 0 ≤ x) (h : 0 < t) : mn (fr (x + t) t) (fr x t) = ((1 : Int), (1 : Int), ()) := by
  obtain ⟨h1, h2⟩ := fr_plus hx h
  have hp := fr_pos (x := x) h
  unfold mn
  rw [h1, h2]
  have : ((fr x t).1 + (fr x t).2.1) * (fr x t).2.1 - (fr x t).1 * (fr x t).2.1 = (fr x t).2.1 * (fr x t).2.1 := by rw [Int.add_mul]; omega
  rw [this]
  exact fr_self (Int.mul_pos hp hp)

theorem fr_neg (x y : Int) : (fr (-x) y).1 = -(fr x y).1 ∧ (fr (-x) y).2.1 = (fr x y).2.1 := by
  unfold fr
  rw [Int.natAbs_neg]
  exact ⟨Int.neg_tdiv .., rfl⟩

theorem mn_back (p q : Int × Int × PUnit.{1}) : (mn p q).1 = -(mn q p).1 ∧ (mn p q).2.1 = (mn q p).2.1 := by
  unfold mn
  have e1 : p.1 * q.2.1 - q.1 * p.2.1 = -(q.1 * p.2.1 - p.1 * q.2.1) := by omega
  have e2 : p.2.1 * q.2.1 = q.2.1 * p.2.1 := Int.mul_comm _ _
  rw [e1, e2]
  exact fr_neg _ _

theorem f73_eq (a b u v : Int) (h1 : (u * b).natAbs ≤ 9223372036854775807) (h2 : (a * v).natAbs ≤ 9223372036854775807) : f73 ((a, b, ()), (u, v, ()), ()) = some (if a * v < u * b then (-1 : Int) else if u * b < a * v then 1 else 0, ()) := by
  have w1 : wrap64 (u * b) = u * b := wrap64_id (by omega) (by omega)
  have w2 : wrap64 (a * v) = a * v := wrap64_id (by omega) (by omega)
  simp only [f73, t73, Tr.val_test, Tr.val_fin, w1, w2, leF_eq]
  by_cases c1 : a * v < u * b
  · have c1' : ¬ u * b ≤ a * v := by omega
    simp only [c1, c1', decide_false, Bool.not_false, if_true]
  · have c1' : u * b ≤ a * v := by omega
    by_cases c2 : u * b < a * v
    · have c2' : ¬ a * v ≤ u * b := by omega
      simp only [c1, c1', c2, c2', decide_true, decide_false, Bool.not_true, Bool.not_false, Bool.false_eq_true, if_true, if_false]
    · have c2' : a * v ≤ u * b := by omega
      simp only [c1, c1', c2, c2', decide_true, Bool.not_true, Bool.false_eq_true, if_false]

/-- A center is at most the last place. -/
theorem fr_atmost {x t k : Int} (h : 0 < t) (hx : x ≤ k * t) : (fr x t).1 ≤ k * (fr x t).2.1 := by
  obtain ⟨b1, b2⟩ := fr_mul x t
  have g0 := gcd_pos' (x := x) (y := t) (by omega)
  by_cases q : (fr x t).1 ≤ k * (fr x t).2.1
  · exact q
  · exfalso
    have q' : k * (fr x t).2.1 + 1 ≤ (fr x t).1 := by omega
    have := Int.mul_le_mul_of_nonneg_right q' (show (0 : Int) ≤ ((Nat.gcd x.natAbs t.natAbs : Nat) : Int) by omega)
    rw [b1, Int.add_mul, Int.mul_assoc, b2] at this
    omega

theorem fr_nn {x t : Int} (hx : 0 ≤ x) : 0 ≤ (fr x t).1 := Int.tdiv_nonneg hx (Int.natCast_nonneg _)

theorem XY_le {c : List (List Int)} {H W : Nat} (m : Im c H W) : imX c H W ≤ ((W : Int) - 1) * imT c H W ∧ imY c H W ≤ ((H : Int) - 1) * imT c H W := by
  have le : ∀ (f g : Nat → Int) (n : Nat), (∀ i, i < n → f i ≤ g i) → smP f n ≤ smP g n := by
    intro f g n h
    have := smP_nn (f := fun i => g i + (-1) * f i) n fun i hi => by have := h i hi; omega
    rw [smP_add g (fun i => (-1) * f i), smP_mul (-1) f] at this
    omega
  unfold imX imY imT
  constructor
  · rw [← smP_mul]
    refine le _ _ _ fun y _ => ?_
    rw [← smP_mul]
    refine le _ _ _ fun x hx => ?_
    exact Int.mul_le_mul_of_nonneg_right (by omega) (m.bd y x).1
  · rw [← smP_mul]
    refine le _ _ _ fun y hy => ?_
    rw [← smP_mul]
    refine le _ _ _ fun x _ => ?_
    exact Int.mul_le_mul_of_nonneg_right (by omega) (m.bd y x).1

/-! The law. -/

theorem f10_eq (c o : List (List Int)) (dn : Bool) (h1 : c.length ≤ 9223372036854775807) (h2 : o.length ≤ 9223372036854775807) : f10 (c, o, dn, ()) = some (true, ()) := by
  have e1 := f69_eq c h1
  have e2 := f69_eq o h2
  by_cases hc : fitI c = true
  rotate_left
  · have hc' := Bool.eq_false_iff.2 hc
    rw [hc'] at e1
    simp only [f10, t10, Tr.val_test, Tr.val_fin, Tr.val_stop, g69, e1, Option.isSome_some, Option.getD_some, Bool.not_false, ↓reduceIte]
  by_cases ho : fitI o = true
  rotate_left
  · have ho' := Bool.eq_false_iff.2 ho
    rw [hc] at e1
    rw [ho'] at e2
    simp only [f10, t10, Tr.val_test, Tr.val_fin, Tr.val_stop, g69, e1, e2, Option.isSome_some, Option.getD_some, Bool.not_false, Bool.not_true, Bool.false_eq_true, ↓reduceIte]
  rw [hc] at e1
  rw [ho] at e2
  have sc := fitI_ok hc
  have so := fitI_ok ho
  have e3 := f70_eq c sc
  by_cases hE : imE c = 0
  rotate_left
  · have nE : decide (imE c = 0) = false := by simpa using hE
    simp only [f10, t10, Tr.val_test, Tr.val_fin, Tr.val_stop, g69, e1, e2, g70, e3, eqF_eq, nE, Option.isSome_some, Option.getD_some, Bool.not_false, Bool.not_true, Bool.false_eq_true, ↓reduceIte]
  obtain ⟨H, W, m⟩ := im_of hE
  rw [hE] at e3
  by_cases hH : H ≤ 9
  rotate_left
  · have n1 : leF (c.length : Int) 9 = false := by rw [leF_eq, decide_eq_false_iff_not, m.len]; omega
    simp only [f10, t10, Tr.val_test, Tr.val_fin, Tr.val_stop, g69, e1, e2, g70, e3, eqF_eq, n1, decide_true, Option.isSome_some, Option.getD_some, Bool.not_false, Bool.not_true, Bool.false_eq_true, ↓reduceIte]
  have n1 : leF (c.length : Int) 9 = true := by rw [leF_eq, decide_eq_true_eq, m.len]; omega
  have n0 : (true && decide ((0 : Int) < (c.length : Int))) = true := by have := m.h0; have := m.len; simp; omega
  have hrow0 : (List.getD c 0 []).length = W := m.row 0 m.h0
  by_cases hW : W ≤ 9
  rotate_left
  · have n2 : leF ((List.getD c 0 []).length : Int) 9 = false := by rw [leF_eq, decide_eq_false_iff_not, hrow0]; omega
    simp only [f10, t10, Tr.val_test, Tr.val_fin, Tr.val_stop, g69, e1, e2, g70, e3, eqF_eq, n0, n1, n2, decide_true, Option.isSome_some, Option.getD_some, Bool.not_false, Bool.not_true, Bool.false_eq_true, ↓reduceIte]
  have n2 : leF ((List.getD c 0 []).length : Int) 9 = true := by rw [leF_eq, decide_eq_true_eq, hrow0]; omega
  have e4 := l10o m o dn
  have mA := imA m hH hW
  have mB := imB' m dn hH hW
  have eA := imE_of mA
  have eB := imE_of mB
  have e5 := f46_eq (rows (px c) (W + 1) (H + 1)) mA.sm.1 mA.sm.2
  have e6 := f46_eq (rows (qx dn c) (W + 1) (H + 1)) mB.sm.1 mB.sm.2
  have e7 := f71_eq mA eA
  have e8 := f72_eq mA mB eA eB
  have e9 := f72_eq mA mA eA eA
  obtain ⟨a1, a2, a3⟩ := A_sums m
  obtain ⟨b1, b2, b3⟩ := B_sums m dn
  obtain ⟨t1, t2, t3⟩ := tot_bd m H m.h1
  have tp := tot_pos m
  rw [a1, a2, a3] at e7 e8 e9
  rw [b1, b2, b3] at e8
  rw [mn_same tp, mn_same tp] at e9
  have p1 := fr_pos (x := imX c H W) tp
  have p2 := fr_pos (x := imY c H W) tp
  have l1 := fr_le (imX c H W) (imT c H W)
  have l2 := fr_le (imY c H W) (imT c H W)
  have g1 : leF (fr (imX c H W) (imT c H W)).2.1 0 = false := by rw [leF_eq, decide_eq_false_iff_not]; omega
  have g2 : leF (fr (imY c H W) (imT c H W)).2.1 0 = false := by rw [leF_eq, decide_eq_false_iff_not]; omega
  have nn1 := fr_nn (x := imX c H W) (t := imT c H W) t1.1
  have nn2 := fr_nn (x := imY c H W) (t := imT c H W) t2.1
  obtain ⟨x1, x2⟩ := XY_le m
  have k1 := fr_atmost tp x1
  have k2 := fr_atmost tp x2
  have hw1 := m.w1
  have hh1 := m.h1
  have hw0 := m.w0
  have hh0 := m.h0
  have m1 := mulB (x := (W : Int) - 1) (y := (fr (imX c H W) (imT c H W)).2.1) (A := 10) (B := 25500) (by omega) (by omega)
  have m2 := mulB (x := (H : Int) - 1) (y := (fr (imY c H W) (imT c H W)).2.1) (A := 10) (B := 25500) (by omega) (by omega)
  have q1 := f73_eq (fr (imX c H W) (imT c H W)).1 (fr (imX c H W) (imT c H W)).2.1 0 1 (by simp) (by rw [Int.mul_one]; omega)
  have q2 := f73_eq (fr (imY c H W) (imT c H W)).1 (fr (imY c H W) (imT c H W)).2.1 0 1 (by simp) (by rw [Int.mul_one]; omega)
  have q3 := f73_eq (fr (imX c H W) (imT c H W)).1 (fr (imX c H W) (imT c H W)).2.1 ((W : Int) - 1) 1 (by omega) (by rw [Int.mul_one]; omega)
  have q4 := f73_eq (fr (imY c H W) (imT c H W)).1 (fr (imY c H W) (imT c H W)).2.1 ((H : Int) - 1) 1 (by omega) (by rw [Int.mul_one]; omega)
  rw [if_neg (by omega)] at q1 q2
  rw [Int.mul_one] at q1 q2 q3 q4
  have s1 : leF (0 : Int) (if 0 * (fr (imX c H W) (imT c H W)).2.1 < (fr (imX c H W) (imT c H W)).1 then (1 : Int) else 0) = true := by rw [leF_eq, decide_eq_true_eq]; split <;> omega
  have s2 : leF (0 : Int) (if 0 * (fr (imY c H W) (imT c H W)).2.1 < (fr (imY c H W) (imT c H W)).1 then (1 : Int) else 0) = true := by rw [leF_eq, decide_eq_true_eq]; split <;> omega
  have s3 : leF (if (fr (imX c H W) (imT c H W)).1 < ((W : Int) - 1) * (fr (imX c H W) (imT c H W)).2.1 then (-1 : Int) else if ((W : Int) - 1) * (fr (imX c H W) (imT c H W)).2.1 < (fr (imX c H W) (imT c H W)).1 then 1 else 0) 0 = true := by
    rw [leF_eq, decide_eq_true_eq]
    split
    · omega
    · split <;> omega
  have s4 : leF (if (fr (imY c H W) (imT c H W)).1 < ((H : Int) - 1) * (fr (imY c H W) (imT c H W)).2.1 then (-1 : Int) else if ((H : Int) - 1) * (fr (imY c H W) (imT c H W)).2.1 < (fr (imY c H W) (imT c H W)).1 then 1 else 0) 0 = true := by
    rw [leF_eq, decide_eq_true_eq]
    split
    · omega
    · split <;> omega
  have w1 : wrap64 (((List.getD c 0 []).length : Int) - 1) = (W : Int) - 1 := by rw [hrow0]; exact wrap64_id (by omega) (by omega)
  have w2 : wrap64 ((c.length : Int) - 1) = (H : Int) - 1 := by rw [m.len]; exact wrap64_id (by omega) (by omega)
  have f74 : ∀ x : Int, f74 (x, ()) = some ((x, (1 : Int), ()), ()) := fun _ => rfl
  have v0 := f74 0
  have v1 := f74 1
  have v2 := f74 ((W : Int) - 1)
  have v3 := f74 ((H : Int) - 1)
  have z00 : ((0 : Int) == (0 : Int)) = true := rfl
  have z11 : ((1 : Int) == (1 : Int)) = true := rfl
  -- there and back
  have e10 := f75_eq sc so
  have tail : (if Option.isSome (f75 (c, o, ())) = true then
      if (!decide ((g75 (c, o, ())).1 = 0)) = true then some (true, ())
      else if Option.isSome (f46 (c, ())) = true then
        if Option.isSome (f46 (o, ())) = true then
          if Option.isSome (f72 ((g46 (c, ())).1, (g46 (o, ())).1, ())) = true then
            if Option.isSome (f72 ((g46 (o, ())).1, (g46 (c, ())).1, ())) = true then
              if decide ((g72 ((g46 (c, ())).1, (g46 (o, ())).1, ())).2.1 = 0) = true then
                if decide ((g72 ((g46 (o, ())).1, (g46 (c, ())).1, ())).2.1 = 0) = true then
                  if decide ((g72 ((g46 (c, ())).1, (g46 (o, ())).1, ())).1.1.1 = IntKind.wrap .i64 (0 - (g72 ((g46 (o, ())).1, (g46 (c, ())).1, ())).1.1.1)) = true then
                    if decide ((g72 ((g46 (c, ())).1, (g46 (o, ())).1, ())).1.1.2.1 = (g72 ((g46 (o, ())).1, (g46 (c, ())).1, ())).1.1.2.1) = true then
                      if decide ((g72 ((g46 (c, ())).1, (g46 (o, ())).1, ())).1.2.1.1 = IntKind.wrap .i64 (0 - (g72 ((g46 (o, ())).1, (g46 (c, ())).1, ())).1.2.1.1)) = true then
                        some (decide ((g72 ((g46 (c, ())).1, (g46 (o, ())).1, ())).1.2.1.2.1 = (g72 ((g46 (o, ())).1, (g46 (c, ())).1, ())).1.2.1.2.1), ())
                      else some (false, ())
                    else some (false, ())
                  else some (false, ())
                else some (false, ())
              else some (false, ())
            else none
          else none
        else none
      else none
    else none) = some (true, ()) := by
    by_cases hv : mvE c o = 0
    rotate_left
    · have nv : decide (mvE c o = 0) = false := by simpa using hv
      simp only [g75, e10, nv, Option.isSome_some, Option.getD_some, Bool.not_false, ↓reduceIte]
    obtain ⟨r1, r2, H', W', m1', m2'⟩ := mvE_ok hv
    have e11 := f46_eq c sc.1 sc.2
    have e12 := f46_eq o so.1 so.2
    have e13 := f72_eq m1' m2' r1 r2
    have e14 := f72_eq m2' m1' r2 r1
    obtain ⟨u1, u2, u3⟩ := tot_bd m1' H' m1'.h1
    obtain ⟨u4, u5, u6⟩ := tot_bd m2' H' m2'.h1
    have up1 := tot_pos m1'
    have up2 := tot_pos m2'
    have bk1 := mn_back (fr (imX o H' W') (imT o H' W')) (fr (imX c H' W') (imT c H' W'))
    have bk2 := mn_back (fr (imY o H' W') (imT o H' W')) (fr (imY c H' W') (imT c H' W'))
    have small : ∀ a s b t : Int, a.natAbs ≤ 255000 → b.natAbs ≤ 255000 → s.natAbs ≤ 25500 → t.natAbs ≤ 25500 → (mn (fr a s) (fr b t)).1.natAbs ≤ 100000000000 := by
      intro a s b t ha hb hs ht
      have l1 := fr_le a s
      have l2 := fr_le b t
      have m1 := mulB (x := (fr a s).1) (y := (fr b t).2.1) (A := 255000) (B := 25500) (by omega) (by omega)
      have m2 := mulB (x := (fr b t).1) (y := (fr a s).2.1) (A := 255000) (B := 25500) (by omega) (by omega)
      have := (fr_le ((fr a s).1 * (fr b t).2.1 - (fr b t).1 * (fr a s).2.1) ((fr a s).2.1 * (fr b t).2.1)).1
      unfold mn
      omega
    have sm1 := small (imX c H' W') (imT c H' W') (imX o H' W') (imT o H' W') (by omega) (by omega) (by omega) (by omega)
    have sm2 := small (imY c H' W') (imT c H' W') (imY o H' W') (imT o H' W') (by omega) (by omega) (by omega) (by omega)
    have wn1 := wn64 (x := (mn (fr (imX c H' W') (imT c H' W')) (fr (imX o H' W') (imT o H' W'))).1) (by omega) (by omega)
    have wn2 := wn64 (x := (mn (fr (imY c H' W') (imT c H' W')) (fr (imY o H' W') (imT o H' W'))).1) (by omega) (by omega)
    simp only [g75, e10, hv, g46, e11, e12, g72, e13, e14, wn1, wn2, bk1.1, bk1.2, bk2.1, bk2.2, decide_true, Option.isSome_some, Option.getD_some, Bool.not_true, Bool.false_eq_true, ↓reduceIte]
  cases dn with
  | true =>
    rw [if_pos rfl, if_pos rfl, mn_same tp, mn_one t2.1 tp] at e8
    simp only [f10, t10, Tr.val_test, Tr.val_fin, Tr.val_stop, g69, e1, e2, g70, e3, eqF_eq, n0, n1, n2, e4, isBrk, b10_0, outB, g46, e5, g71, e7, e6, g72, e8, e9, g1, g2, g74, v0, v1, v2, v3, g73, q1, q2, q3, q4, s1, s2, s3, s4, w1, w2, z00, z11, decide_true, Option.isSome_some, Option.getD_some, Bool.and_self, Bool.not_false, Bool.not_true, Bool.false_eq_true, ↓reduceIte]
    simp only [g46, g72] at tail
    exact tail
  | false =>
    rw [if_neg (by decide), if_neg (by decide), mn_same tp, mn_one t1.1 tp] at e8
    simp only [f10, t10, Tr.val_test, Tr.val_fin, Tr.val_stop, g69, e1, e2, g70, e3, eqF_eq, n0, n1, n2, e4, isBrk, b10_0, outB, g46, e5, g71, e7, e6, g72, e8, e9, g1, g2, g74, v0, v1, v2, v3, g73, q1, q2, q3, q4, s1, s2, s3, s4, w1, w2, z00, z11, decide_true, Option.isSome_some, Option.getD_some, Bool.and_self, Bool.not_false, Bool.not_true, Bool.false_eq_true, ↓reduceIte]
    simp only [g46, g72] at tail
    exact tail

theorem law10 (d : Tys.data as10) (hw : Tys.Wf as10 d) : Pure1 Go.Proofs.Try.prog 10 as10 [.bool] d (true, ()) := by
  have h1 : List.length d.1 ≤ 9223372036854775807 := hw.1.1
  have h2 : List.length d.2.1 ≤ 9223372036854775807 := hw.2.1.1
  have h := f10_eq d.1 d.2.1 d.2.2.1 h1 h2
  have hp : p10.pre d = true := by
    show Option.isSome (f10 d) = true
    rw [show f10 d = some (true, ()) from h]; rfl
  have hg : p10.fn d = (true, ()) := by
    show (f10 d).getD _ = _
    rw [show f10 d = some (true, ()) from h]; rfl
  have := ok10.runs d hp
  rw [hg] at this
  exact this

end Go.Vm.Mo
