import Derived.Test.YtlaojojnembodaaGreatRsFd
import Derived.Test.YtlaojojnembodaaGreatA5
set_option linter.unusedVariables false
set_option linter.unusedSimpArgs false

namespace Go.Vm.Mo
open Go
set_option linter.unusedVariables false
set_option linter.unusedSimpArgs false
theorem dT {p:Prop} [Decidable p] (h:p):decide p = true:=decide_eq_true h
theorem dF {p:Prop} [Decidable p] (h:¬ p):decide p = false:=decide_eq_false h
theorem nT {p:Prop} [Decidable p] (h:¬ p):(!decide p) = true:=by rw [decide_eq_false h]; rfl
theorem nF {p:Prop} [Decidable p] (h:p):(!decide p) = false:=by rw [decide_eq_true h]; rfl
theorem dA {p q:Prop} [Decidable p] [Decidable q] (h:p) (k:q):(decide p && decide q) = true:=by rw [decide_eq_true h, decide_eq_true k]; rfl
theorem first_map (bad:Nat → Bool):∀ (n i:Nat), first bad n (i + 1) = (first (fun k=>bad (k + 1)) n i).map (· + 1)
  | 0, _=>rfl
  | n + 1, i=>by
    simp only [first]
    split
    · rfl
    · exact first_map bad n (i + 1)
def firstNZ:List Int → Int
  | []=>0
  | a :: l=>if a = 0 then firstNZ l else a
theorem firstNZ_eq:∀ l:List Int, (match first (fun i=>!decide (l.getD i 0 = 0)) l.length 0 with
    | some k=>l.getD k 0
    | none=>0) = firstNZ l
  | []=>rfl
  | a :: l=>by
    simp only [List.length, first, firstNZ]
    by_cases ha:a = 0
    · subst ha
      have e:=firstNZ_eq l
      have hf:first (fun i=>!decide (((0:Int) :: l).getD i 0 = 0)) l.length (0 + 1) = (first (fun i=>!decide (l.getD i 0 = 0)) l.length 0).map (· + 1):=by
        rw [first_map]; rfl
      simp only [hf, List.getD_cons_zero, decide_true, Bool.not_true, Bool.false_eq_true, if_false, if_true]
      rw [← e]
      cases first (fun i=>!decide (l.getD i 0 = 0)) l.length 0 with
      | none=>rfl
      | some k=>rfl
    · simp [ha]
theorem l41 (l:List Int) (h:l.length ≤ 1000000000):l41_0 ((l, (l.length:Int), (0:Int), ()), ()) = match first (fun i=>!decide (l.getD i 0 = 0)) l.length 0 with
    | some k=>some (.inr ((l.getD k 0, ()), ()))
    | none=>some (.inl ((), ())):=by
  refine itr_search (fun i=>((l, (l.length:Int), (i:Int), ()), ())) (fun i=>!decide (l.getD i 0 = 0)) (fun k=>((l.getD k 0, ()), ())) (n:=l.length) ?_ ?_ (lt_rounds (by omega))
  · intro i hi
    simp only [s41_0, t41_0, Tr.val_test, leF_eq, eqF_eq]
    rw [if_pos (by simp; omega), if_pos (by simp; omega)]
    simp only [Int.toNat_natCast, wrap64_nat (show i ≤ 9223372036854775806 by omega)]
    rfl
  · simp [s41_0, t41_0, leF_eq]
theorem f41_eq (l:List Int) (h:l.length ≤ 1000000000):f41 (l, ()) = some (firstNZ l, ()):=by
  simp only [f41, t41, Tr.val_test, r41_0, l41 l h, ← firstNZ_eq l]
  cases first (fun i=>!decide (l.getD i 0 = 0)) l.length 0 with
  | none=>rfl
  | some k=>rfl
theorem f43_eq (d:Tys.data as43):f43 d = some (if d.1 = true then d.2.1 else (0:Int), ()):=by
  simp only [f43, t43, Tr.val_test]
  split <;> rfl
def wi (lo hi x:Int):Bool:=decide (lo ≤ x) && decide (x ≤ hi)
theorem wi_iff {lo hi x:Int}:wi lo hi x = true ↔ lo ≤ x ∧ x ≤ hi:=by simp [wi]
theorem f54_eq (d:Tys.data as54):f54 d = some (wi d.2.1 d.2.2.1 d.1, ()):=by
  simp only [f54, t54, Tr.val_test, Tr.val_fin, leF_eq, decide_eq_true_eq, wi]
  split <;> simp [*]
theorem l85 (lo hi:Int) (l:List Int) (h:l.length ≤ 1000000000):l85_0 ((lo, hi, l, (l.length:Int), (0:Int), ()), ()) = match first (fun i=>!wi lo hi (l.getD i 0)) l.length 0 with
    | some _=>some (.inr ((false, ()), ()))
    | none=>some (.inl ((), ())):=by
  refine itr_search (fun i=>((lo, hi, l, (l.length:Int), (i:Int), ()), ())) (fun i=>!wi lo hi (l.getD i 0)) (fun _=>((false, ()), ())) (n:=l.length) ?_ ?_ (lt_rounds (by omega))
  · intro i hi'
    simp only [s85_0, t85_0, Tr.val_test, Tr.val_fin, leF_eq, Int.toNat_natCast, wrap64_nat (show i ≤ 9223372036854775806 by omega)]
    rw [if_pos (by simp; omega), if_pos (by simp; omega)]
    by_cases a0:lo ≤ l.getD i 0
    · by_cases a1:l.getD i 0 ≤ hi
      · simp only [wi, a0, a1, decide_true, Bool.and_self, Bool.not_true, if_true, if_false, Bool.false_eq_true]
      · simp only [wi, a0, a1, decide_true, decide_false, Bool.and_false, Bool.not_false, Bool.not_true, if_true, if_false, Bool.false_eq_true]
    · simp only [wi, a0, decide_false, Bool.false_and, Bool.not_false, if_true, if_false, Bool.false_eq_true]
  · simp [s85_0, t85_0, leF_eq]
theorem f85_eq (lo hi:Int) (l:List Int) (h:l.length ≤ 1000000000):f85 (lo, hi, l, ()) = some ((first (fun i=>!wi lo hi (l.getD i 0)) l.length 0).isNone, ()):=by
  have hl:=l85 lo hi l h
  cases hf:first (fun i=>!wi lo hi (l.getD i 0)) l.length 0 with
  | none =>
    rw [hf] at hl
    simp only [f85, t85, Tr.val_test, Tr.val_fin, hl, isRet, Option.isSome_some, Option.isNone_none, if_true, Bool.false_eq_true, if_false]
  | some k =>
    rw [hf] at hl
    simp only [f85, t85, Tr.val_test, Tr.val_fin, hl, isRet, r85_0, outR, Option.isSome_some, Option.isNone_some, if_true]
theorem f85_one (lo hi a:Int):f85 (lo, hi, [a], ()) = some (wi lo hi a, ()):=by
  rw [f85_eq lo hi _ (by simp)]
  simp only [first, List.length, List.getD_cons_zero]
  by_cases h1:wi lo hi a = true
  · simp [h1]
  · simp [h1]
theorem f85_two (lo hi a b:Int):f85 (lo, hi, [a, b], ()) = some (wi lo hi a && wi lo hi b, ()):=by
  rw [f85_eq lo hi _ (by simp)]
  simp only [first, List.length, List.getD_cons_zero, List.getD_cons_succ]
  by_cases h1:wi lo hi a = true
  · by_cases h2:wi lo hi b = true
    · simp [h1, h2]
    · simp [h1, h2]
  · simp [h1]
theorem q64_0 (l:List Int) (h:l.length ≤ 1000000):l23_0 ((l, l, (0:Int), ()), ()) = some (.inl ((), ())):=by
  refine itr_brk (fun i=>((l, l, (i:Int), ()), ())) (n:=l.length) ?_ ?_ (lt_rounds (by omega))
  · intro i hi
    simp only [s23_0, t23_0, Tr.val_test, Tr.val_fin, Tr.val_stop, leF_eq, eqF_eq, Int.toNat_natCast, wrap64_nat (show i ≤ 9223372036854775806 by omega)]
    rw [if_pos (by simp; omega), if_pos (by simp; omega), if_pos (by simp; omega)]
    simp
  · simp [s23_0, t23_0, leF_eq]
theorem f23_self (l:List Int) (h:l.length ≤ 1000000):f23 (l, l, ()) = some (true, ()):=by
  simp only [f23, t23, Tr.val_test, Tr.val_fin, Tr.val_stop, q64_0 l h, isRet, eqF_eq, decide_true, Bool.not_true, Bool.false_eq_true, if_false, Option.isSome_some, if_true]
theorem wn64 {x:Int} (h1:-9223372036854775807 ≤ x) (h2:x ≤ 9223372036854775807):IntKind.wrap .i64 (0 - x) = -x:=by
  rw [← wrap64_eq, wrap64_id (by omega) (by omega)]
  omega
theorem isSome_first {bad:Nat → Bool} {n:Nat}:(first bad n 0).isSome = true ↔ ∃ i, i < n ∧ bad i = true:=by
  cases h:first bad n 0 with
  | none =>
    simp only [Option.isSome_none, Bool.false_eq_true, false_iff]
    rintro ⟨i, hi, hb⟩
    rw [first_none h i (by omega) (by omega)] at hb; cases hb
  | some k =>
    obtain ⟨_, h2, h3, _⟩:=first_some h
    simp only [Option.isSome_some, true_iff]
    exact ⟨k, by omega, h3⟩
theorem isNone_first {bad:Nat → Bool} {n:Nat}:(first bad n 0).isNone = true ↔ ∀ i, i < n → bad i = false:=by
  cases h:first bad n 0 with
  | none =>
    simp only [Option.isNone_none, true_iff]
    exact fun i hi=>first_none h i (by omega) (by omega)
  | some k =>
    obtain ⟨_, h2, h3, _⟩:=first_some h
    simp only [Option.isNone_some, Bool.false_eq_true, false_iff]
    intro hb
    rw [hb k (by omega)] at h3; cases h3
def firstE (e:Nat → Int) (n:Nat):Int:=match first (fun i=>!decide (e i = 0)) n 0 with
  | some k=>e k
  | none=>0
theorem firstE_zero {e:Nat → Int} {n:Nat} (h:firstE e n = 0):∀ i, i < n → e i = 0:=by
  intro i hi
  unfold firstE at h
  cases hf:first (fun i=>!decide (e i = 0)) n 0 with
  | none=>simpa using first_none hf i (by omega) (by omega)
  | some k =>
    rw [hf] at h
    obtain ⟨_, _, k3, _⟩:=first_some hf
    have h:e k = 0:=h
    simp [h] at k3
theorem firstE_of {e:Nat → Int} {n:Nat} (h:∀ i, i < n → e i = 0):firstE e n = 0:=by
  unfold firstE
  rw [first_of_none fun i _ hi=>by simp [h i (by omega)]]
theorem f41_two (a b:Int):f41 ([a, b], ()) = some (firstNZ [a, b], ()):=f41_eq _ (by simp)
theorem f41_three (a b c:Int):f41 ([a, b, c], ()) = some (firstNZ [a, b, c], ()):=f41_eq _ (by simp)
theorem nz2 {a b:Int} (h:firstNZ [a, b] = 0):a = 0 ∧ b = 0:=by
  simp only [firstNZ] at h
  by_cases ha:a = 0
  · rw [if_pos ha] at h
    by_cases hb:b = 0
    · exact ⟨ha, hb⟩
    · rw [if_neg hb] at h; exact absurd h hb
  · rw [if_neg ha] at h; exact absurd h ha
def acc (F:Nat → Int):Nat → Int
  | 0=>0
  | n + 1=>wrap64 (acc F n + F n)
theorem acc_congr {F G:Nat → Int}:∀ {n:Nat}, (∀ i, i < n → F i = G i) → acc F n = acc G n
  | 0, _=>rfl
  | n + 1, h=>by simp only [acc]; rw [acc_congr fun i hi=>h i (by omega), h n (by omega)]
theorem acc_in (F:Nat → Int):∀ n, wrap64 (acc F n) = acc F n
  | 0=>by show wrap64 0 = 0; decide
  | n + 1=>wrap64_wrap64 _
theorem acc_zero {F:Nat → Int} {n:Nat} (h:F n = 0):acc F (n + 1) = acc F n:=by
  simp only [acc, h, Int.add_zero]; exact acc_in F n
def sz (x:Int):Int:=if x < -x then -x else x
theorem f59_eq (x:Int) (h:-9223372036854775807 ≤ x) (h2:x ≤ 9223372036854775807):f59 (x, ()) = some (sz x, ()):=by
  simp only [f59, t59, Tr.val_fin, wn64 h h2, sz]
theorem sz_gt {x y:Int}:(!leF (sz x) y) = !wi (-y) y x:=by
  rw [leF_eq]
  unfold wi sz
  by_cases hx:x < -x
  · rw [if_pos hx]
    by_cases h1:-x ≤ y
    · rw [dT h1, dT (show -y ≤ x by omega), dT (show x ≤ y by omega)]; rfl
    · rw [dF h1, dF (show ¬ -y ≤ x by omega)]; rfl
  · rw [if_neg hx]
    by_cases h1:x ≤ y
    · rw [dT h1, dT (show -y ≤ x by omega)]; rfl
    · rw [dF h1, Bool.and_false]
theorem sz_le {x y:Int}:leF (sz x) y = wi (-y) y x:=by
  have:=sz_gt (x:=x) (y:=y)
  cases h1:leF (sz x) y <;> cases h2:wi (-y) y x <;> simp_all
theorem f44_one (b x:Int) (h0:0 ≤ b) (h1:b ≤ 9223372036854775807):f44 (b, [x], ()) = some (!wi (-b) b x, ()):=by
  have e:=f85_one (-b) b x
  simp only [f44, t44, Tr.val_test, Tr.val_fin, g85, wn64 (show -9223372036854775807 ≤ b by omega) h1, e, Option.isSome_some, Option.getD_some, if_true]
theorem f43_if (b:Bool) (e:Int):f43 (b, e, ()) = some (if b = true then e else 0, ()):=f43_eq _
def pE (x:Int):Int:=if wi (-10000) 10000 x = true then 0 else 2
theorem pE_if (x:Int):(if (!wi (-10000) 10000 x) = true then (2:Int) else 0) = pE x:=by
  unfold pE
  cases wi (-10000) 10000 x <;> rfl
theorem f42_one (b x:Int) (h0:0 ≤ b) (h1:b ≤ 9223372036854775807):f42 (b, [x], ()) = some (if (!wi (-b) b x) = true then (2:Int) else 0, ()):=by
  have e:=f44_one b x h0 h1
  have e2:=f43_if (!wi (-b) b x) 2
  simp only [f42, t42, Tr.val_test, Tr.val_fin, g44, g43, e, e2, Option.isSome_some, Option.getD_some, if_true]
theorem f73_eq (x:Int):f73 (x, ()) = some (pE x, ()):=by
  have e:=f42_one 10000 x (by decide) (by decide)
  rw [pE_if] at e
  simp only [f73, t73, Tr.val_test, Tr.val_fin, g42, e, Option.isSome_some, Option.getD_some, if_true]
theorem f54_wi (lo hi x:Int):f54 (x, lo, hi, ()) = some (wi lo hi x, ()):=f54_eq _
theorem f56_eq (x:Int):f56 (x, ()) = some (pE x, ()):=by
  have e:=f54_wi (-10000) 10000 x
  simp only [f56, t56, Tr.val_test, Tr.val_fin, g54, e, Option.isSome_some, Option.getD_some, if_true, pE]
  cases wi (-10000) 10000 x <;> rfl
theorem f113_eq (d:Tys.data as113):f113 d = some (wrap64 (d.1.2.2.1 - d.1.2.1.1), ()):=by
  simp only [f113, t113, Tr.val_fin]
theorem f25_eq (l:List (Int×Int×Bool×Unit)) (h:l.length ≤ 100000):f25 (l, ()) = some (l, ()):=by
  simp only [f25, t25, Tr.val_test, Tr.val_fin, List.nil_append]
  rw [if_pos (by simp only [Bool.and_eq_true, ble_eq_true']; omega)]
theorem f26_eq (a:Int) (l:List (Int×Bool×Unit)) (h:l.length ≤ 100000):f26 ((a, l, ()), ()) = some ((a, l, ()), ()):=by
  simp only [f26, t26, Tr.val_test, Tr.val_fin, List.nil_append]
  rw [if_pos (by simp only [Bool.and_eq_true, ble_eq_true']; omega)]
def el (l:List (Int×Int×Bool×Unit)) (i:Nat):Int×Int×Bool×Unit:=l.getD i (0, 0, false, ())
def sl (l:List (Int×Bool×Unit)) (i:Nat):Int×Bool×Unit:=l.getD i (0, false, ())
def eE (l:List (Int×Int×Bool×Unit)) (i:Nat):Int:=if (wi 1 1000 (el l i).1 && wi 1 1000 (el l i).2.1) = true then 0 else 2
theorem l89 (l:List (Int×Int×Bool×Unit)) (h:l.length ≤ 1000000):l111_0 ((l, (l.length:Int), (0:Int), ()), ()) = match first (fun i=>!decide (eE l i = 0)) l.length 0 with
    | some k=>some (.inr (((k:Int), eE l k, ()), ()))
    | none=>some (.inl ((), ())):=by
  refine itr_search (fun i=>((l, (l.length:Int), (i:Int), ()), ())) (fun i=>!decide (eE l i = 0)) (fun k=>(((k:Int), eE l k, ()), ())) (n:=l.length) ?_ ?_ (lt_rounds (by omega))
  · intro i hi
    have e1:=f85_two 1 1000 (el l i).1 (el l i).2.1
    have e2:=f43_if (!(wi 1 1000 (el l i).1 && wi 1 1000 (el l i).2.1)) 2
    simp only [el] at e1 e2
    simp only [s111_0, t111_0, Tr.val_test, leF_eq, eqF_eq, Int.toNat_natCast, g85, g43, e1, e2, Option.isSome_some, Option.getD_some, if_true, wrap64_nat (show i ≤ 9223372036854775806 by omega)]
    rw [if_pos (by simp; omega), if_pos (by simp; omega)]
    simp only [eE, el]
    rcases Bool.eq_false_or_eq_true (wi 1 1000 (l.getD i (0, 0, false, ())).1 && wi 1 1000 (l.getD i (0, 0, false, ())).2.1) with hb | hb <;> simp only [hb] <;> rfl
  · simp [s111_0, t111_0, leF_eq]
def cE (most:Nat) (n:Nat) (e:Nat → Int):Int×Int×Unit :=
  if n = 0 then (0, 10, ()) else if most < n then (0, 8, ()) else match first (fun i=>!decide (e i = 0)) n 0 with
    | some k=>((k:Int), e k, ())
    | none=>(0, 0, ())
def cS (l:List (Int×Int×Bool×Unit)):Int×Int×Unit:=cE 4 l.length (eE l)
theorem f82_eq (n m:Nat):f82 ((n:Int), (m:Int), ()) = some (if n = 0 then 10 else if m < n then 8 else 0, ()):=by
  have e1:=f43_if (decide ((n:Int) = 0)) 10
  have e2:=f43_if (!decide ((n:Int) ≤ (m:Int))) 8
  have e3:=f41_two
  simp only [f82, t82, Tr.val_test, Tr.val_fin, eqF_eq, leF_eq, g43, g41, e1, e2, e3, Option.isSome_some, Option.getD_some, if_true]
  by_cases h0:n = 0
  · subst h0; simp [firstNZ]
  · by_cases h1:m < n
    · rw [if_neg h0, if_pos h1, dF (show ¬ (n:Int) = 0 by omega), dF (show ¬ (n:Int) ≤ (m:Int) by omega)]; simp [firstNZ]
    · rw [if_neg h0, if_neg h1, dF (show ¬ (n:Int) = 0 by omega), dT (show (n:Int) ≤ (m:Int) by omega)]; simp [firstNZ]
theorem f86_eq (l:List (Int×Int×Bool×Unit)) (h:l.length ≤ 1000000):f86 (l, ()) = some (cS l):=by
  have e1:f82 ((l.length:Int), (4:Int), ()) = _:=f82_eq l.length 4
  have e2:=l89 l h
  simp only [f86, t86, Tr.val_test, Tr.val_fin, eqF_eq, g82, e1, e2, Option.isSome_some, Option.getD_some, if_true, cS, cE, r111_0]
  by_cases h0:l.length = 0
  · simp only [if_pos h0]; rfl
  · simp only [if_neg h0]
    by_cases h1:4 < l.length
    · simp only [if_pos h1]; rfl
    · simp only [if_neg h1]
      cases first (fun i=>!decide (eE l i = 0)) l.length 0 with
      | none=>rfl
      | some k=>rfl
theorem l97 (l:List (Int×Int×Bool×Unit)) (h:l.length ≤ 1000000):l97_0 ((l, (0:Int), ()), ()) = match first (fun i=>!decide (eE l i = 0)) l.length 0 with
    | some k=>some (.inr (((k:Int), eE l k, ()), ()))
    | none=>some (.inl ((), ())):=by
  refine itr_search (fun i=>((l, (i:Int), ()), ())) (fun i=>!decide (eE l i = 0)) (fun k=>(((k:Int), eE l k, ()), ())) (n:=l.length) ?_ ?_ (lt_rounds (by omega))
  · intro i hi
    have e1:=f54_wi 1 1000 (el l i).1
    have e2:=f54_wi 1 1000 (el l i).2.1
    simp only [el] at e1 e2
    simp only [s97_0, t97_0, Tr.val_test, leF_eq, eqF_eq, Int.toNat_natCast, g54, e1, e2, Option.isSome_some, Option.getD_some, if_true, wrap64_nat (show i ≤ 9223372036854775806 by omega)]
    rw [if_pos (by simp; omega), if_pos (by simp; omega)]
    simp only [eE, el]
    rcases Bool.eq_false_or_eq_true (wi 1 1000 (l.getD i (0, 0, false, ())).1) with hb | hb <;> rcases Bool.eq_false_or_eq_true (wi 1 1000 (l.getD i (0, 0, false, ())).2.1) with hc | hc <;> simp only [hb, hc] <;> rfl
  · simp [s97_0, t97_0, leF_eq]
theorem f97_eq (l:List (Int×Int×Bool×Unit)) (h:l.length ≤ 1000000):f97 (l, ()) = some (cS l):=by
  have e2:=l97 l h
  simp only [f97, t97, Tr.val_test, Tr.val_fin, eqF_eq, leF_eq, e2, Option.isSome_some, Option.getD_some, if_true, cS, cE, r97_0]
  by_cases h0:l.length = 0
  · rw [if_pos h0, if_pos (by simp [h0])]
  · rw [if_neg h0, if_neg (by simpa using h0)]
    by_cases h1:4 < l.length
    · rw [if_pos h1, if_pos (by simp; omega)]
    · rw [if_neg h1, if_neg (by simp; omega)]
      cases first (fun i=>!decide (eE l i = 0)) l.length 0 with
      | none=>rfl
      | some k=>rfl
theorem cE_zero {m n:Nat} {e:Nat → Int} (h:(cE m n e).2.1 = 0):0 < n ∧ n ≤ m ∧ ∀ i, i < n → e i = 0:=by
  unfold cE at h
  split at h
  · cases h
  · split at h
    · cases h
    · refine ⟨by omega, by omega, fun i hi=>?_⟩
      cases hf:first (fun i=>!decide (e i = 0)) n 0 with
      | none=>simpa using first_none hf i (by omega) (by omega)
      | some k =>
        rw [hf] at h
        obtain ⟨_, _, k3, _⟩:=first_some hf
        have h:e k = 0:=h
        simp [h] at k3
theorem cS_zero {l:List (Int×Int×Bool×Unit)} (h:(cS l).2.1 = 0):0 < l.length ∧ l.length ≤ 4 ∧ ∀ i, i < l.length → 1 ≤ (el l i).1 ∧ (el l i).1 ≤ 1000 ∧ 1 ≤ (el l i).2.1 ∧ (el l i).2.1 ≤ 1000:=by
  obtain ⟨h1, h2, h3⟩:=cE_zero h
  refine ⟨h1, h2, fun i hi=>?_⟩
  have:=h3 i hi
  unfold eE at this
  split at this
  · rename_i hw
    simp only [Bool.and_eq_true, wi_iff] at hw
    omega
  · cases this
end Go.Vm.Mo

namespace Go.Vm.Mo
open Go
set_option linter.unusedVariables false
set_option linter.unusedSimpArgs false
abbrev ELm:=Int×Int×Bool×Unit
abbrev FLo:=Int×Int×List (Int×Int×Bool×Unit)×Unit
def fl (l:List FLo) (i:Nat):FLo:=l.getD i (0, 0, [], ())
theorem take_fl (l:List FLo) {i:Nat} (h:i < l.length):l.take i++[((fl l i).1, (fl l i).2.1, (fl l i).2.2.1, ())] = l.take (i + 1):=by
  rw [List.take_add_one, List.getElem?_eq_getElem h]
  unfold fl
  rw [List.getD_eq_getElem?_getD, List.getElem?_eq_getElem h]
  rfl
def fewB (l:List FLo):Bool:=decide (l.length ≤ 7) && (first (fun i=>!decide ((fl l i).2.2.1.length ≤ 6)) l.length 0).isNone
theorem l6 (l:List FLo) (h:l.length ≤ 7):l6_0 (((0:Int), ()), (l, ()), ()) = match first (fun i=>!decide ((fl l i).2.2.1.length ≤ 6)) l.length 0 with
    | some _=>some (.inr ((false, ()), (l, ()), ()))
    | none=>some (.inl ((), (l, ()), ())):=by
  refine itr_search (fun i=>(((i:Int), ()), (l, ()), ())) (fun i=>!decide ((fl l i).2.2.1.length ≤ 6)) (fun _=>((false, ()), (l, ()), ())) (n:=l.length) ?_ ?_ (lt_rounds (by omega))
  · intro i hi
    have hh:l.getD i (0, 0, [], ()) = fl l i:=rfl
    simp only [s6_0, t6_0, Tr.val_test, Tr.val_fin, leF_eq, Int.toNat_natCast, wrap64_nat (show i ≤ 9223372036854775806 by omega), hh]
    rw [if_pos (by simp; omega), if_pos (by simp; omega)]
    by_cases h6:(fl l i).2.2.1.length ≤ 6
    · rw [dT h6, dT (show (((fl l i).2.2.1.length:Nat):Int) ≤ 6 by omega)]
    · rw [dF h6, dF (show ¬ (((fl l i).2.2.1.length:Nat):Int) ≤ 6 by omega)]
  · simp [s6_0, t6_0, leF_eq]
theorem f6_eq (l:List FLo):f6 ((l, ()), ()) = some (fewB l, ()):=by
  simp only [f6, t6, Tr.val_test, Tr.val_fin, leF_eq, fewB]
  by_cases h7:l.length ≤ 7
  · rw [if_neg (by simp; omega), dT h7]
    have e:=l6 l h7
    cases hf:first (fun i=>!decide ((fl l i).2.2.1.length ≤ 6)) l.length 0 with
    | none=>rw [hf] at e; simp only [e, isRet, Option.isSome_some, if_true, Bool.false_eq_true, if_false, Option.isNone_none, Bool.and_self]
    | some k=>rw [hf] at e; simp only [e, r6_0, outR, isRet, Option.isSome_some, if_true, Option.isNone_some, Bool.and_false]
  · rw [if_pos (by simp; omega), dF h7]; rfl
theorem fewB_iff {l:List FLo} (h:fewB l = true):l.length ≤ 7 ∧ ∀ i, i < l.length → (fl l i).2.2.1.length ≤ 6:=by
  simp only [fewB, Bool.and_eq_true, decide_eq_true_eq, isNone_first] at h
  exact ⟨h.1, fun i hi=>by simpa using h.2 i hi⟩
theorem l8 (l:List FLo) (h:l.length ≤ 1000) (hs:∀ i, i < l.length → (fl l i).2.2.1.length ≤ 1000):l8_0 (((0:Int), ()), (l, ()), (), ([], ()), ()) = some (.inl ((), (l, ()), (), (l, ()), ())):=by
  have key:=itr_brk (step:=s8_0) (st:=fun i=>(((i:Int), ()), (l, ()), (), (l.take i, ()), ())) (b:=((), (l, ()), (), (l.take l.length, ()), ())) (n:=l.length) (m:=rounds) ?_ ?_ (lt_rounds (by omega))
  · rw [List.take_length] at key; exact key
  · intro i hi
    have e1:=f25_eq (fl l i).2.2.1 (by have:=hs i hi; omega)
    have e2:=take_fl l hi
    have hh:l.getD i (0, 0, [], ()) = fl l i:=rfl
    simp only [s8_0, t8_0, Tr.val_test, Tr.val_fin, leF_eq, Int.toNat_natCast, hh, g25, e1, e2, Option.isSome_some, Option.getD_some, if_true, wrap64_nat (show i ≤ 9223372036854775806 by omega)]
    rw [if_pos (by simp; omega), if_pos (by simp; omega), if_pos (by simp only [Bool.and_eq_true, ble_eq_true', List.length_take]; omega)]
  · simp [s8_0, t8_0, leF_eq]
theorem f8_eq (l:List FLo) (h:l.length ≤ 1000) (hs:∀ i, i < l.length → (fl l i).2.2.1.length ≤ 1000):f8 ((l, ()), ()) = some ((l, ()), ()):=by
  simp only [f8, t8, Tr.val_test, Tr.val_fin, l8 l h hs, b8_0, isBrk, outB, if_true]
def fE (l:List FLo) (i:Nat):Int:=firstNZ [if (wi 1 10000 (fl l i).1 && wi 1 1000 (fl l i).2.1) = true then 0 else 2, (cS (fl l i).2.2.1).2.1]
theorem l106 (l:List FLo) (h:l.length ≤ 1000) (hs:∀ i, i < l.length → (fl l i).2.2.1.length ≤ 1000):l83_0 ((l, (l.length:Int), (0:Int), ()), ()) = match first (fun i=>!decide (fE l i = 0)) l.length 0 with
    | some k=>some (.inr (((k:Int), fE l k, ()), ()))
    | none=>some (.inl ((), ())):=by
  refine itr_search (fun i=>((l, (l.length:Int), (i:Int), ()), ())) (fun i=>!decide (fE l i = 0)) (fun k=>(((k:Int), fE l k, ()), ())) (n:=l.length) ?_ ?_ (lt_rounds (by omega))
  · intro i hi
    have e1:=f85_one 1 10000 (fl l i).1
    have e2:=f85_one 1 1000 (fl l i).2.1
    have e3:=f86_eq (fl l i).2.2.1 (by have:=hs i hi; omega)
    have e4:f43 (true, (2:Int), ()) = some (2, ()):=f43_eq _
    have e5:=fun b=>f43_if b 2
    have e6:=f41_two
    have hh:l.getD i (0, 0, [], ()) = fl l i:=rfl
    simp only [s83_0, t83_0, Tr.val_test, hh, leF_eq, eqF_eq, Int.toNat_natCast, g85, g43, g41, g86, e1, e2, e3, e4, e5, e6, Option.isSome_some, Option.getD_some, if_true, wrap64_nat (show i ≤ 9223372036854775806 by omega)]
    rw [if_pos (by simp; omega), if_pos (by simp; omega)]
    simp only [fE]
    rcases Bool.eq_false_or_eq_true (wi 1 10000 (fl l i).1) with hb | hb <;> rcases Bool.eq_false_or_eq_true (wi 1 1000 (fl l i).2.1) with hc | hc <;> simp only [hb, hc, Bool.not_true, Bool.not_false, Bool.false_eq_true, if_true, if_false, Bool.and_self, Bool.and_false, Bool.false_and, Bool.and_true]
    all_goals split <;> simp_all
  · simp [s83_0, t83_0, leF_eq]
def cF (l:List FLo):Int×Int×Unit:=cE 5 l.length (fE l)
theorem f38_eq (l:List FLo) (h:l.length ≤ 1000) (hs:∀ i, i < l.length → (fl l i).2.2.1.length ≤ 1000):f38 ((l, ()), ()) = some (cF l):=by
  have e1:f82 ((l.length:Int), (5:Int), ()) = _:=f82_eq l.length 5
  have e2:=l106 l h hs
  simp only [f38, t38, Tr.val_test, Tr.val_fin, eqF_eq, g82, e1, e2, Option.isSome_some, Option.getD_some, if_true, cF, cE, r83_0]
  by_cases h0:l.length = 0
  · simp only [if_pos h0]; rfl
  · simp only [if_neg h0]
    by_cases h1:5 < l.length
    · simp only [if_pos h1]; rfl
    · simp only [if_neg h1]
      cases first (fun i=>!decide (fE l i = 0)) l.length 0 with
      | none=>rfl
      | some k=>rfl
theorem f55_eq (l:List ELm) (h:l.length ≤ 1000000):f55 (l, ()) = some ((cS l).2.1, ()):=by
  simp only [f55, t55, Tr.val_test, Tr.val_fin, g97, f97_eq l h, Option.isSome_some, Option.getD_some, if_true]
theorem l12 (l:List FLo) (h:l.length ≤ 1000) (hs:∀ i, i < l.length → (fl l i).2.2.1.length ≤ 1000):l12_0 (((0:Int), ()), (l, ()), ()) = match first (fun i=>!decide (fE l i = 0)) l.length 0 with
    | some k=>some (.inr (((k:Int), fE l k, ()), (l, ()), ()))
    | none=>some (.inl ((), (l, ()), ())):=by
  refine itr_search (fun i=>(((i:Int), ()), (l, ()), ())) (fun i=>!decide (fE l i = 0)) (fun k=>(((k:Int), fE l k, ()), (l, ()), ())) (n:=l.length) ?_ ?_ (lt_rounds (by omega))
  · intro i hi
    have e1:=f54_wi 1 10000 (fl l i).1
    have e2:=f54_wi 1 1000 (fl l i).2.1
    have e3:=f55_eq (fl l i).2.2.1 (by have:=hs i hi; omega)
    have hh:l.getD i (0, 0, [], ()) = fl l i:=rfl
    simp only [s12_0, t12_0, Tr.val_test, Tr.val_fin, hh, leF_eq, eqF_eq, Int.toNat_natCast, g54, g55, e1, e2, e3, Option.isSome_some, Option.getD_some, if_true, wrap64_nat (show i ≤ 9223372036854775806 by omega)]
    rw [if_pos (by simp; omega), if_pos (by simp; omega)]
    simp only [fE]
    rcases Bool.eq_false_or_eq_true (wi 1 10000 (fl l i).1) with hb | hb <;> rcases Bool.eq_false_or_eq_true (wi 1 1000 (fl l i).2.1) with hc | hc <;> simp only [hb, hc, Bool.not_true, Bool.not_false, Bool.false_eq_true, if_true, if_false, Bool.and_self, Bool.and_false, Bool.false_and, Bool.and_true, firstNZ]
    all_goals split <;> simp_all
  · simp [s12_0, t12_0, leF_eq]
theorem f12_eq (l:List FLo) (h:l.length ≤ 1000) (hs:∀ i, i < l.length → (fl l i).2.2.1.length ≤ 1000):f12 ((l, ()), ()) = some (cF l):=by
  have e2:=l12 l h hs
  simp only [f12, t12, Tr.val_test, Tr.val_fin, eqF_eq, leF_eq, e2, Option.isSome_some, Option.getD_some, if_true, cF, cE, r12_0]
  by_cases h0:l.length = 0
  · rw [if_pos h0, if_pos (by simp [h0])]
  · rw [if_neg h0, if_neg (by simpa using h0)]
    by_cases h1:5 < l.length
    · rw [if_pos h1, if_pos (by simp; omega)]
    · rw [if_neg h1, if_neg (by simp; omega)]
      cases first (fun i=>!decide (fE l i = 0)) l.length 0 with
      | none=>rfl
      | some k=>rfl
theorem cF_zero {l:List FLo} (h:(cF l).2.1 = 0):0 < l.length ∧ l.length ≤ 5 ∧ ∀ i, i < l.length → (1 ≤ (fl l i).1 ∧ (fl l i).1 ≤ 10000 ∧ 1 ≤ (fl l i).2.1 ∧ (fl l i).2.1 ≤ 1000) ∧ (cS (fl l i).2.2.1).2.1 = 0:=by
  obtain ⟨h1, h2, h3⟩:=cE_zero h
  refine ⟨h1, h2, fun i hi=>?_⟩
  have:=h3 i hi
  unfold fE at this
  obtain ⟨a, b⟩:=nz2 this
  refine ⟨?_, b⟩
  split at a
  · rename_i hw
    simp only [Bool.and_eq_true, wi_iff] at hw
    omega
  · cases a
def lst {α:Type} (F:Nat → α) (n:Nat):List α:=(List.range n).map F
theorem lst_succ {α:Type} (F:Nat → α) (n:Nat):lst F (n + 1) = lst F n++[F n]:=by simp [lst, List.range_succ]
theorem lst_len {α:Type} (F:Nat → α) (n:Nat):(lst F n).length = n:=by simp [lst]
theorem lst_get {α:Type} (F:Nat → α) {n i:Nat} (d:α) (h:i < n):(lst F n).getD i d = F i:=by simp [lst, List.getD, h]
theorem wrap64_pred {i:Nat} (h:0 < i) (h2:i ≤ 9223372036854775806):wrap64 ((i:Int) - 1) = ((i - 1:Nat):Int):=by
  rw [wrap64_id (by omega) (by omega)]; omega
theorem mk_ok {n:Nat} (k:Int) (h:k * (n:Int) ≤ 281474976710656) (h2:(n:Int) ≤ 281474976710656):(decide ((0:Int) ≤ (n:Int)) && decide ((n:Int) ≤ (n:Int)) && decide (k * (n:Int) ≤ (281474976710656:Int)) && decide ((n:Int) ≤ (281474976710656:Int))) = true:=by
  simp only [Bool.and_eq_true, decide_eq_true_eq]; omega
abbrev ELs:=Int×Int×Bool×Unit
abbrev SLs:=Int×Bool×Unit
def st (at_:Int) (s:SLs):Int:=wrap64 (at_ - s.1)
def hE (l:List ELs) (a:Int) (x:List SLs) (i:Nat):Int :=
  firstNZ [pE (sl x i).1, if ((sl x i).2.1 && !(el l i).2.2.1 || (el l i).2.2.1 && !decide ((sl x i).1 = 0)) = true then 3 else 0,
    if (!(sl x i).2.1 && !wi (-(el l i).2.1) (el l i).2.1 (st a (sl x i))) = true then 22 else 0]
theorem f90_eq (k y:Int) (br:Bool) (s:Int) (bk:Bool) (a:Int) (h0:0 ≤ y) (h1:y ≤ 9223372036854775807):f90 (((k, y, br, ()), (s, bk, ()), a, ()), ()) =
    some (firstNZ [pE s, if (bk && !br || br && !decide (s = 0)) = true then 3 else 0, if (!bk && !wi (-y) y (wrap64 (a - s))) = true then 22 else 0], ()):=by
  have e1:=f73_eq s
  have e2:=fun b=>f43_if b 3
  have e3:=fun b=>f43_if b 22
  have e4:=f44_one y (wrap64 (a - s)) h0 h1
  have e5:=f41_three
  have e6:f113 (((k, y, br, ()), (s, bk, ()), a, ()), ()) = some (wrap64 (a - s), ()):=f113_eq _
  simp only [f90, t90, Tr.val_test, Tr.val_fin, eqF_eq, g73, g43, g41, g44, g113, e1, e2, e3, e4, e5, e6, Option.isSome_some, Option.getD_some, if_true]
  cases bk <;> cases br <;> simp only [Bool.not_true, Bool.not_false, Bool.true_and, Bool.false_and, Bool.or_false, Bool.false_or, Bool.false_eq_true, if_true, if_false, Bool.and_false, Bool.and_true]
theorem hE_f {l:List ELs} {x:List SLs} {a:Int} {i:Nat} (h0:0 ≤ (el l i).2.1) (h1:(el l i).2.1 ≤ 9223372036854775807) :
    f90 ((((el l i).1, (el l i).2.1, (el l i).2.2.1, ()), ((sl x i).1, (sl x i).2.1, ()), a, ()), ()) = some (hE l a x i, ()):=f90_eq _ _ _ _ _ _ h0 h1
theorem l92 (l:List ELs) (a:Int) (x:List SLs) (hx:x.length = l.length) (h:l.length ≤ 1000000) (hy:∀ i, i < l.length → 1 ≤ (el l i).2.1 ∧ (el l i).2.1 ≤ 1000) :
    l88_0 ((x, (x.length:Int), (0:Int), ()), (l, ()), (a, x, ()), ()) = match first (fun i=>!decide (hE l a x i = 0)) l.length 0 with
    | some k=>some (.inr (((k:Int), hE l a x k, ()), (l, ()), (a, x, ()), ()))
    | none=>some (.inl ((), (l, ()), (a, x, ()), ())):=by
  refine itr_search (fun i=>((x, (x.length:Int), (i:Int), ()), (l, ()), (a, x, ()), ())) (fun i=>!decide (hE l a x i = 0)) (fun k=>(((k:Int), hE l a x k, ()), (l, ()), (a, x, ()), ())) (n:=l.length) ?_ ?_ (lt_rounds (by omega))
  · intro i hi
    have hh:l.getD i (0, 0, false, ()) = el l i:=rfl
    have hk:x.getD i (0, false, ()) = sl x i:=rfl
    have b:=hy i hi
    have e:=hE_f (l:=l) (x:=x) (a:=a) (i:=i) (by omega) (by omega)
    simp only [s88_0, t88_0, Tr.val_test, Tr.val_fin, leF_eq, eqF_eq, Int.toNat_natCast, hh, hk, g90, e, Option.isSome_some, Option.getD_some, if_true, wrap64_nat (show i ≤ 9223372036854775806 by omega)]
    rw [if_pos (by simp; omega), if_pos (by simp; omega), if_pos (by simp; omega)]
  · simp [s88_0, t88_0, leF_eq, hx]
def cH (l:List ELs) (a:Int) (x:List SLs):Int×Int×Unit :=
  if pE a = 0 then if x.length = l.length then match first (fun i=>!decide (hE l a x i = 0)) l.length 0 with
    | some k=>((k:Int), hE l a x k, ())
    | none=>(0, 0, ())
  else (0, 10, ()) else (0, pE a, ())
def cSH (l:List ELs) (a:Int) (x:List SLs):Int×Int×Unit:=if (cS l).2.1 = 0 then cH l a x else cS l
theorem f40_eq (l:List ELs) (a:Int) (x:List SLs) (h:l.length ≤ 1000000):f40 (l, (a, x, ()), ()) = some (cSH l a x):=by
  have e1:=f86_eq l h
  have e2:=f73_eq a
  have e3:=f43_if (!decide ((x.length:Int) = (l.length:Int))) 10
  have e4:=f41_two
  simp only [f40, t40, Tr.val_test, Tr.val_fin, eqF_eq, g86, g73, g43, g41, e1, e2, e3, e4, Option.isSome_some, Option.getD_some, if_true, cSH]
  by_cases hc:(cS l).2.1 = 0
  · rw [if_neg (by simp [hc]), if_pos hc]
    have hv:=cS_zero hc
    simp only [cH]
    by_cases hp:pE a = 0
    · by_cases hx:x.length = l.length
      · have e5:=l92 l a x hx h fun i hi=>by have:=hv.2.2 i hi; omega
        rw [if_pos hp, if_pos hx, dT (show (x.length:Int) = (l.length:Int) by omega)]
        simp only [hp, firstNZ, Bool.not_true, Bool.false_eq_true, if_false, if_true, decide_true, e5, r88_0]
        cases first (fun i=>!decide (hE l a x i = 0)) l.length 0 with
        | none=>rfl
        | some k=>rfl
      · rw [if_pos hp, if_neg hx, dF (show ¬ (x.length:Int) = (l.length:Int) by omega)]
        simp only [hp, firstNZ, Bool.not_false, if_true]
        rfl
    · have:firstNZ [pE a, if (!decide ((x.length:Int) = (l.length:Int))) = true then 10 else 0] = pE a:=by simp only [firstNZ]; rw [if_neg hp]
      rw [if_neg hp, this, if_pos (by simp [hp])]
  · rw [if_pos (by simp [hc]), if_neg hc]
theorem pE_zero {x:Int} (h:pE x = 0):-10000 ≤ x ∧ x ≤ 10000:=by
  unfold pE at h
  split at h
  · rename_i hw; exact wi_iff.1 hw
  · cases h
theorem pE_ne {x:Int} (h:pE x ≠ 0):pE x = 2:=by
  unfold pE at h ⊢
  split at h
  · exact absurd rfl h
  · rename_i hw; rw [if_neg hw]
theorem l98 (l:List ELs) (a:Int) (x:List SLs) (ha:pE a = 0) (hx:x.length = l.length) (h:l.length ≤ 1000000) :
    l98_0 ((l, (0:Int), ()), (a, x, ()), ()) = match first (fun i=>!decide (hE l a x i = 0)) l.length 0 with
    | some k=>some (.inr (((k:Int), hE l a x k, ()), (a, x, ()), ()))
    | none=>some (.inl ((), (a, x, ()), ())):=by
  refine itr_search (fun i=>((l, (i:Int), ()), (a, x, ()), ())) (fun i=>!decide (hE l a x i = 0)) (fun k=>(((k:Int), hE l a x k, ()), (a, x, ()), ())) (n:=l.length) ?_ ?_ (lt_rounds (by omega))
  · intro i hi
    have hh:l.getD i (0, 0, false, ()) = el l i:=rfl
    have hk:x.getD i (0, false, ()) = sl x i:=rfl
    have e:=f56_eq (sl x i).1
    simp only [s98_0, t98_0, Tr.val_test, Tr.val_fin, leF_eq, eqF_eq, Int.toNat_natCast, hh, hk, g56, e, Option.isSome_some, Option.getD_some, if_true, wrap64_nat (show i ≤ 9223372036854775806 by omega)]
    rw [if_pos (by simp; omega), if_pos (by simp; omega)]
    have hE':hE l a x i = firstNZ [pE (sl x i).1, if ((sl x i).2.1 && !(el l i).2.2.1 || (el l i).2.2.1 && !decide ((sl x i).1 = 0)) = true then 3 else 0,
      if (!(sl x i).2.1 && !wi (-(el l i).2.1) (el l i).2.1 (wrap64 (a - (sl x i).1))) = true then 22 else 0]:=rfl
    by_cases hp:pE (sl x i).1 = 0
    · have b1:=pE_zero hp
      have b2:=pE_zero ha
      have w:wrap64 (a - (sl x i).1) = a - (sl x i).1:=wrap64_id (by omega) (by omega)
      have e8:=f59_eq (a - (sl x i).1) (by omega) (by omega)
      rw [w] at hE'
      have hlt:(decide ((0:Int) ≤ (i:Int)) && decide ((i:Int) < (l.length:Int))) = true:=dA (by omega) (by omega)
      have hg:leF (sz (a - (sl x i).1)) (el l i).2.1 = wi (-(el l i).2.1) (el l i).2.1 (a - (sl x i).1):=sz_le
      have hg':decide (sz (a - (sl x i).1) ≤ (el l i).2.1) = wi (-(el l i).2.1) (el l i).2.1 (a - (sl x i).1):=by rw [← hg, leF_eq]
      rw [hE']
      simp only [hp, w, g59, e8, hlt, hg', decide_true, Bool.not_true, Bool.false_eq_true, if_false, if_true, Option.isSome_some, Option.getD_some, firstNZ]
      rcases Bool.eq_false_or_eq_true (sl x i).2.1 with hb | hb <;> rcases Bool.eq_false_or_eq_true (el l i).2.2.1 with hc | hc <;> rcases Bool.eq_false_or_eq_true (decide ((sl x i).1 = 0)) with hd | hd <;>
        rcases Bool.eq_false_or_eq_true (wi (-(el l i).2.1) (el l i).2.1 (a - (sl x i).1)) with hw | hw <;>
        simp only [hb, hc, hd, hw, Bool.not_true, Bool.not_false, Bool.true_and, Bool.false_and, Bool.or_false, Bool.false_or, Bool.false_eq_true, if_true, if_false, Bool.and_false, Bool.and_true] <;> rfl
    · rw [hE']
      simp only [firstNZ, if_neg hp]
      rw [dF hp]
      rfl
  · simp [s98_0, t98_0, leF_eq]
theorem f98_eq (l:List ELs) (a:Int) (x:List SLs) (h:l.length ≤ 1000000):f98 (l, (a, x, ()), ()) = some (cH l a x):=by
  have e1:=f56_eq a
  simp only [f98, t98, Tr.val_test, Tr.val_fin, eqF_eq, g56, e1, Option.isSome_some, Option.getD_some, if_true, cH]
  by_cases hp:pE a = 0
  · rw [if_pos hp, if_neg (by simp [hp])]
    by_cases hx:x.length = l.length
    · have e5:=l98 l a x hp hx h
      rw [if_pos hx, if_neg (by simp; omega)]
      simp only [e5, r98_0]
      cases first (fun i=>!decide (hE l a x i = 0)) l.length 0 with
      | none=>rfl
      | some k=>rfl
    · rw [if_neg hx, if_pos (by simp; omega)]
  · rw [if_neg hp, if_pos (by simp [hp])]
theorem cH_zero {l:List ELs} {a:Int} {x:List SLs} (h:(cH l a x).2.1 = 0):(-10000 ≤ a ∧ a ≤ 10000) ∧ x.length = l.length ∧ ∀ i, i < l.length → hE l a x i = 0:=by
  unfold cH at h
  split at h
  · rename_i hp
    split at h
    · rename_i hx
      refine ⟨pE_zero hp, hx, fun i hi=>?_⟩
      cases hf:first (fun i=>!decide (hE l a x i = 0)) l.length 0 with
      | none=>simpa using first_none hf i (by omega) (by omega)
      | some k =>
        rw [hf] at h
        obtain ⟨_, _, k3, _⟩:=first_some hf
        have h:hE l a x k = 0:=h
        simp [h] at k3
    · cases h
  · rename_i hp
    exact absurd h hp
theorem hE_zero {l:List ELs} {a:Int} {x:List SLs} {i:Nat} (h:hE l a x i = 0):(-10000 ≤ (sl x i).1 ∧ (sl x i).1 ≤ 10000) ∧ ((sl x i).2.1 = false → wi (-(el l i).2.1) (el l i).2.1 (st a (sl x i)) = true) ∧
    ((el l i).2.2.1 = true → (sl x i).1 = 0) ∧ ((sl x i).2.1 = true → (el l i).2.2.1 = true):=by
  unfold hE firstNZ at h
  by_cases h1:pE (sl x i).1 = 0
  · rw [if_pos h1] at h
    refine ⟨pE_zero h1, ?_⟩
    simp only [firstNZ] at h
    rcases Bool.eq_false_or_eq_true (sl x i).2.1 with hb | hb <;> rcases Bool.eq_false_or_eq_true (el l i).2.2.1 with hc | hc <;> by_cases h0:(sl x i).1 = 0 <;> rcases Bool.eq_false_or_eq_true (wi (-(el l i).2.1) (el l i).2.1 (st a (sl x i))) with hw | hw <;> simp_all
  · rw [if_neg h1] at h; exact absurd h h1
end Go.Vm.Mo

namespace Go.Vm.Mo
open Go
set_option linter.unusedVariables false
set_option linter.unusedSimpArgs false
def FO (l:List ELs) (a:Int) (x:List SLs) (i:Nat):Int:=if (sl x i).2.1 = true then 0 else wrap64 ((el l i).1 * st a (sl x i))
theorem f102_eq (k y:Int) (br:Bool) (s:Int) (bk:Bool) (a:Int):f102 (((k, y, br, ()), (s, bk, ()), a, ()), ()) = some (if bk = true then 0 else wrap64 (k * wrap64 (a - s)), ()):=by
  have e6:f113 (((k, y, br, ()), (s, bk, ()), a, ()), ()) = some (wrap64 (a - s), ()):=f113_eq _
  simp only [f102, t102, Tr.val_test, Tr.val_fin, g113, e6, Option.isSome_some, Option.getD_some, if_true]
  cases bk <;> rfl
theorem l129f (l:List ELs) (a:Int) (x:List SLs) (h:x.length ≤ l.length) (hl:l.length ≤ 1000000) :
    l109_0 ((x, (x.length:Int), (0:Int), ()), (), (l, a, x, ()), (), ((0:Int), ()), ()) = some (.inl ((), (), (l, a, x, ()), (), (acc (FO l a x) x.length, ()), ())):=by
  refine itr_brk (fun i=>((x, (x.length:Int), (i:Int), ()), (), (l, a, x, ()), (), (acc (FO l a x) i, ()), ())) (n:=x.length) ?_ ?_ (lt_rounds (by omega))
  · intro i hi
    have hh:l.getD i (0, 0, false, ()) = el l i:=rfl
    have hk:x.getD i (0, false, ()) = sl x i:=rfl
    have e:=f102_eq (el l i).1 (el l i).2.1 (el l i).2.2.1 (sl x i).1 (sl x i).2.1 a
    simp only [s109_0, t109_0, Tr.val_test, Tr.val_fin, leF_eq, Int.toNat_natCast, hh, hk, g102, e, Option.isSome_some, Option.getD_some, if_true, wrap64_nat (show i ≤ 9223372036854775806 by omega), acc]
    rw [if_pos (by simp; omega), if_pos (by simp; omega), if_pos (by simp; omega)]
    rfl
  · simp [s109_0, t109_0, leF_eq]
theorem f68_eq (l:List ELs) (a:Int) (x:List SLs) (h:x.length ≤ l.length) (hl:l.length ≤ 1000000):f68 ((l, (a, x, ()), ()), ()) = some (acc (FO l a x) x.length, ()):=by
  simp only [f68, t68, Tr.val_test, Tr.val_fin, l129f l a x h hl, b109_0, isBrk, outB, if_true]
theorem l100 (l:List ELs) (a:Int) (x:List SLs) (h:x.length = l.length) (hl:l.length ≤ 1000000):l100_0 ((l, (0:Int), (0:Int), ()), (a, x, ()), ()) = some (.inl ((acc (FO l a x) l.length, ()), (a, x, ()), ())):=by
  refine itr_brk (fun i=>((l, acc (FO l a x) i, (i:Int), ()), (a, x, ()), ())) (n:=l.length) ?_ ?_ (lt_rounds (by omega))
  · intro i hi
    have hh:l.getD i (0, 0, false, ()) = el l i:=rfl
    have hk:x.getD i (0, false, ()) = sl x i:=rfl
    simp only [s100_0, t100_0, Tr.val_test, Tr.val_fin, leF_eq, Int.toNat_natCast, hh, hk, wrap64_nat (show i ≤ 9223372036854775806 by omega)]
    rw [if_pos (by simp; omega), if_pos (by simp; omega)]
    rcases Bool.eq_false_or_eq_true (sl x i).2.1 with hb | hb
    · rw [acc_zero (F:=FO l a x) (by unfold FO; rw [if_pos hb])]
      rw [hb, if_neg (by simp)]
    · rw [hb, if_pos (by simp), if_pos (by simp; omega)]
      simp only [acc, FO, hb, Bool.false_eq_true, if_false]
      rfl
  · simp [s100_0, t100_0, leF_eq]
theorem f100_eq (l:List ELs) (a:Int) (x:List SLs) (h:x.length = l.length) (hl:l.length ≤ 1000000):f100 (l, (a, x, ()), ()) = some (acc (FO l a x) l.length, ()):=by
  simp only [f100, t100, Tr.val_test, Tr.val_fin, l100 l a x h hl, b100_0, isBrk, outB, if_true]
theorem cSH_zero {l:List ELs} {a:Int} {x:List SLs} (h:(cSH l a x).2.1 = 0):(cS l).2.1 = 0 ∧ (cH l a x).2.1 = 0:=by
  unfold cSH at h
  split at h
  · rename_i hc; exact ⟨hc, h⟩
  · rename_i hc; exact absurd h hc
def MV (l:List ELs) (x:List SLs) (a:Int) (i:Nat):SLs :=
  if (sl x i).2.1 = true then ((sl x i).1, (sl x i).2.1, ()) else if wi (-(el l i).2.1) (el l i).2.1 (st a (sl x i)) = true then ((sl x i).1, (sl x i).2.1, ())
  else if (el l i).2.2.1 = true then (0, true, ()) else if 0 < st a (sl x i) then (wrap64 (a - (el l i).2.1), (sl x i).2.1, ()) else (wrap64 (a + (el l i).2.1), (sl x i).2.1, ())
theorem f108_eq (l:List ELs) (x:List SLs) (b a:Int) (i:Nat) (h0:0 ≤ (el l i).2.1) (h1:(el l i).2.1 ≤ 9223372036854775807) :
    f108 ((((el l i).1, (el l i).2.1, (el l i).2.2.1, ()), ((sl x i).1, (sl x i).2.1, ()), b, ()), a, ()) = some ((((el l i).1, (el l i).2.1, (el l i).2.2.1, ()), ((MV l x a i).1, (MV l x a i).2.1, ()), a, ()), ()):=by
  have e6:f113 ((((el l i).1, (el l i).2.1, (el l i).2.2.1, ()), ((sl x i).1, (sl x i).2.1, ()), a, ()), ()) = some (st a (sl x i), ()):=f113_eq _
  have e4:=f44_one (el l i).2.1 (st a (sl x i)) h0 h1
  simp only [f108, t108, Tr.val_test, Tr.val_fin, leF_eq, g113, g44, e6, e4, Option.isSome_some, Option.getD_some, if_true, MV]
  rcases Bool.eq_false_or_eq_true (sl x i).2.1 with hb | hb
  · simp only [hb, if_true]
  · rcases Bool.eq_false_or_eq_true (wi (-(el l i).2.1) (el l i).2.1 (st a (sl x i))) with hw | hw
    · simp only [hb, hw, Bool.false_eq_true, if_false, Bool.not_true, Bool.not_false, if_true]
    · rcases Bool.eq_false_or_eq_true (el l i).2.2.1 with hr | hr
      · simp only [hb, hw, hr, Bool.false_eq_true, if_false, Bool.not_true, Bool.not_false, if_true]
      · by_cases hp:0 < st a (sl x i)
        · simp only [hb, hw, hr, Bool.false_eq_true, if_false, Bool.not_true, Bool.not_false, if_true, if_pos hp, dF (show ¬ st a (sl x i) ≤ 0 by omega)]
        · simp only [hb, hw, hr, Bool.false_eq_true, if_false, Bool.not_true, Bool.not_false, if_true, if_neg hp, dT (show st a (sl x i) ≤ 0 by omega)]
theorem l129m (l:List ELs) (b:Int) (x:List SLs) (a:Int) (h:x.length ≤ l.length) (hl:l.length ≤ 100000) (hy:∀ i, i < l.length → 1 ≤ (el l i).2.1 ∧ (el l i).2.1 ≤ 1000) :
    l109_0_1 ((x, (x.length:Int), (0:Int), ()), (), (l, b, x, ()), (a, ()), (l, a, [], ()), ()) = some (.inl ((), (), (l, b, x, ()), (a, ()), (l, a, lst (MV l x a) x.length, ()), ())):=by
  refine itr_brk (fun i=>((x, (x.length:Int), (i:Int), ()), (), (l, b, x, ()), (a, ()), (l, a, lst (MV l x a) i, ()), ())) (n:=x.length) ?_ ?_ (lt_rounds (by omega))
  · intro i hi
    have hh:l.getD i (0, 0, false, ()) = el l i:=rfl
    have hk:x.getD i (0, false, ()) = sl x i:=rfl
    have y:=hy i (by omega)
    have e:=f108_eq l x b a i (by omega) (by omega)
    rw [lst_succ]
    simp only [s109_0_1, t109_0_1, Tr.val_test, Tr.val_fin, leF_eq, Int.toNat_natCast, hh, hk, g108, e, Option.isSome_some, Option.getD_some, if_true, lst_len, wrap64_nat (show i ≤ 9223372036854775806 by omega)]
    rw [if_pos (by simp; omega), if_pos (by simp; omega), if_pos (by simp; omega), if_pos (by simp only [Bool.and_eq_true, ble_eq_true']; omega)]
  · simp [s109_0_1, t109_0_1, leF_eq]
theorem f74_eq (l:List ELs) (b:Int) (x:List SLs) (a:Int) (h:x.length ≤ l.length) (hl:l.length ≤ 100000) (hy:∀ i, i < l.length → 1 ≤ (el l i).2.1 ∧ (el l i).2.1 ≤ 1000) :
    f74 ((l, (b, x, ()), ()), a, ()) = some ((l, (a, lst (MV l x a) x.length, ()), ()), ()):=by
  simp only [f74, t74, Tr.val_test, Tr.val_fin, l129m l b x a h hl hy, b109_0_1, isBrk, outB, if_true]
theorem l61 (l:List ELs) (b:Int) (x:List SLs) (a:Int) (h:x.length = l.length) (hl:l.length ≤ 100000) (ha:-10000 ≤ a ∧ a ≤ 10000) (hs:∀ i, i < l.length → -10000 ≤ (sl x i).1 ∧ (sl x i).1 ≤ 10000) :
    l61_0 ((l, a, (0:Int), ()), (b, x, ()), ((0:Int), ()), (a, [], ()), ()) = some (.inl ((), (b, x, ()), ((0:Int), ()), (a, lst (MV l x a) l.length, ()), ())):=by
  refine itr_brk (fun i=>((l, a, (i:Int), ()), (b, x, ()), ((0:Int), ()), (a, lst (MV l x a) i, ()), ())) (n:=l.length) ?_ ?_ (lt_rounds (by omega))
  · intro i hi
    have hh:l.getD i (0, 0, false, ()) = el l i:=rfl
    have hk:x.getD i (0, false, ()) = sl x i:=rfl
    have hst:wrap64 (a - (sl x i).1) = st a (sl x i):=rfl
    have hb1:=hs i hi
    have w:st a (sl x i) = a - (sl x i).1:=wrap64_id (by omega) (by omega)
    have e:=f59_eq (st a (sl x i)) (by omega) (by omega)
    have hg:decide (sz (st a (sl x i)) ≤ (el l i).2.1) = wi (-(el l i).2.1) (el l i).2.1 (st a (sl x i)):=by rw [← sz_le, leF_eq]
    have hsz:(Nat.ble ((2 * (i + 1) + 192) * 16) 281474976710656 && Nat.ble (i + 1) 281474976710656) = true:=by simp only [Bool.and_eq_true, ble_eq_true']; omega
    have hlt:(decide ((0:Int) ≤ (i:Int)) && decide ((i:Int) < (l.length:Int))) = true:=dA (by omega) (by omega)
    rw [lst_succ]
    simp only [s61_0, t61_0, Tr.val_test, Tr.val_fin, leF_eq, Int.toNat_natCast, hh, hk, hst, g59, e, hg, hsz, hlt, Option.isSome_some, Option.getD_some, if_true, lst_len, wrap64_nat (show i ≤ 9223372036854775806 by omega), MV]
    rw [if_pos (by simp; omega), if_pos (by simp; omega)]
    rcases Bool.eq_false_or_eq_true (sl x i).2.1 with hb | hb
    · simp only [hb, Bool.not_true, Bool.false_eq_true, if_false, if_true]
    · rcases Bool.eq_false_or_eq_true (wi (-(el l i).2.1) (el l i).2.1 (st a (sl x i))) with hw | hw
      · simp only [hb, hw, Bool.false_eq_true, if_false, Bool.not_true, Bool.not_false, if_true]
      · rcases Bool.eq_false_or_eq_true (el l i).2.2.1 with hr | hr
        · simp only [hb, hw, hr, Bool.false_eq_true, if_false, Bool.not_true, Bool.not_false, if_true]
        · by_cases hp:0 < st a (sl x i)
          · simp only [hb, hw, hr, Bool.false_eq_true, if_false, Bool.not_true, Bool.not_false, if_true, if_pos hp, dF (show ¬ st a (sl x i) ≤ 0 by omega)]
          · simp only [hb, hw, hr, Bool.false_eq_true, if_false, Bool.not_true, Bool.not_false, if_true, if_neg hp, dT (show st a (sl x i) ≤ 0 by omega)]
  · simp [s61_0, t61_0, leF_eq]
theorem f61_eq (l:List ELs) (b:Int) (x:List SLs) (a:Int) (h:x.length = l.length) (hl:l.length ≤ 100000) (ha:-10000 ≤ a ∧ a ≤ 10000) (hs:∀ i, i < l.length → -10000 ≤ (sl x i).1 ∧ (sl x i).1 ≤ 10000) :
    f61 (l, (b, x, ()), a, ()) = some ((a, lst (MV l x a) l.length, ()), ()):=by
  simp only [f61, t61, Tr.val_test, Tr.val_fin, l61 l b x a h hl ha hs, b61_0, isBrk, outB, if_true]
end Go.Vm.Mo

namespace Go.Vm.Mo
open Go
set_option linter.unusedVariables false
set_option linter.unusedSimpArgs false
abbrev HOs:=Int×List (Int×Bool×Unit)×Unit
def ho (hs:List HOs) (i:Nat):HOs:=hs.getD i (0, [], ())
def nv (x:List Int) (i:Nat):Int:=x.getD i 0
theorem itr_search2 {A B C:Type} {step:A → Option (Out A B C)} (st:Nat → A) (bad:Nat → Bool) (r:Nat → C) {n m:Nat} {b:B}
    (h:∀ i, i < n → (∀ j, j < i → bad j = false) → step (st i) = if bad i = true then some (.ret (r i)) else some (.again (st (i + 1)))) (hb:(∀ j, j < n → bad j = false) → step (st n) = some (.brk b)) (hm:n < m) :
    itr step m (st 0) = match first bad n 0 with
      | some k=>some (.inr (r k))
      | none=>some (.inl b):=by
  cases e:first bad n 0 with
  | none =>
    have hn:=first_none e
    have hg:∀ j, j < n → bad j = false:=fun j hj=>hn j (by omega) (by omega)
    exact itr_brk st (fun i hi=>by rw [h i hi fun j hj=>hg j (by omega), hg i hi]; rfl) (hb hg) hm
  | some k =>
    obtain ⟨_, k2, k3, k4⟩:=first_some e
    have hk:k < n:=by omega
    have hg:∀ j, j < k → bad j = false:=fun j hj=>k4 j (by omega) (by omega)
    exact itr_ret (n:=k) st (fun i hi=>by rw [h i (by omega) fun j hj=>hg j (by omega), hg i hi]; rfl) (by rw [h k hk hg, k3]; rfl) (by omega)
theorem f21_eq (x:List Int) (h:x.length ≤ 100000):f21 (x, ()) = some (x, ()):=by
  simp only [f21, t21, Tr.val_test, Tr.val_fin, List.nil_append]
  rw [if_pos (by simp only [Bool.and_eq_true, ble_eq_true']; omega)]
theorem f91_eq (x:List Int) (h:x.length ≤ 100000) (h0:0 < x.length):f91 (x, ()) = some (x, ()):=by
  simp only [f91, t91, Tr.val_test, Tr.val_fin, List.nil_append]
  rw [if_neg (by rw [beq_eq_true']; omega), if_pos (by simp only [Bool.and_eq_true, ble_eq_true']; omega)]
theorem take_ho (l:List HOs) {i:Nat} (h:i < l.length):l.take i++[((ho l i).1, (ho l i).2.1, ())] = l.take (i + 1):=by
  rw [List.take_add_one, List.getElem?_eq_getElem h]
  unfold ho
  rw [List.getD_eq_getElem?_getD, List.getElem?_eq_getElem h]
  rfl
theorem l9 (nw bf nw' bf':List Int) (hs:List HOs) (h:hs.length ≤ 1000) (hh:∀ i, i < hs.length → (ho hs i).2.1.length ≤ 1000) :
    l9_0 (((0:Int), ()), (nw, bf, hs, ()), (), (nw', bf', [], ()), ()) = some (.inl ((), (nw, bf, hs, ()), (), (nw', bf', hs, ()), ())):=by
  have key:=itr_brk (step:=s9_0) (st:=fun i=>(((i:Int), ()), (nw, bf, hs, ()), (), (nw', bf', hs.take i, ()), ())) (b:=((), (nw, bf, hs, ()), (), (nw', bf', hs.take hs.length, ()), ())) (n:=hs.length) (m:=rounds) ?_ ?_ (lt_rounds (by omega))
  · rw [List.take_length] at key; exact key
  · intro i hi
    have e1:=f26_eq (ho hs i).1 (ho hs i).2.1 (by have:=hh i hi; omega)
    have e2:=take_ho hs hi
    have hk:hs.getD i (0, [], ()) = ho hs i:=rfl
    simp only [s9_0, t9_0, Tr.val_test, Tr.val_fin, leF_eq, Int.toNat_natCast, hk, g26, e1, e2, Option.isSome_some, Option.getD_some, if_true, wrap64_nat (show i ≤ 9223372036854775806 by omega)]
    rw [if_pos (by simp; omega), if_pos (by simp; omega), if_pos (by simp only [Bool.and_eq_true, ble_eq_true', List.length_take]; omega)]
  · simp [s9_0, t9_0, leF_eq]
theorem f9_eq (nw bf:List Int) (hs:List HOs) (h1:nw.length ≤ 1000) (h2:bf.length ≤ 1000) (h:hs.length ≤ 1000) (hh:∀ i, i < hs.length → (ho hs i).2.1.length ≤ 1000) :
    f9 ((nw, bf, hs, ()), ()) = some ((nw, bf, hs, ()), ()):=by
  have e1:=f21_eq nw (by omega)
  have e2:=f21_eq bf (by omega)
  have e3:=l9 nw bf nw bf hs h hh
  simp only [f9, t9, Tr.val_test, Tr.val_fin, g21, e1, e2, Option.isSome_some, Option.getD_some, if_true, e3, b9_0, isBrk, outB]
theorem f44_two (b x y:Int) (h0:0 ≤ b) (h1:b ≤ 9223372036854775807):f44 (b, [x, y], ()) = some (!(wi (-b) b x && wi (-b) b y), ()):=by
  have e:=f85_two (-b) b x y
  simp only [f44, t44, Tr.val_test, Tr.val_fin, g85, wn64 (show -9223372036854775807 ≤ b by omega) h1, e, Option.isSome_some, Option.getD_some, if_true]
theorem f42_two (b x y:Int) (h0:0 ≤ b) (h1:b ≤ 9223372036854775807):f42 (b, [x, y], ()) = some (if (!(wi (-b) b x && wi (-b) b y)) = true then (2:Int) else 0, ()):=by
  have e:=f44_two b x y h0 h1
  have e2:=f43_if (!(wi (-b) b x && wi (-b) b y)) 2
  simp only [f42, t42, Tr.val_test, Tr.val_fin, g44, g43, e, e2, Option.isSome_some, Option.getD_some, if_true]
def pv (x:List Int) (i:Nat):Int:=if i = 0 then 0 else nv x (i - 1)
def dr (x:List Int) (i:Nat):Int:=wrap64 (nv x i - pv x i)
theorem pv_succ (x:List Int) (i:Nat):pv x (i + 1) = nv x i:=rfl
def eS (l:List FLo) (nw bf:List Int) (hs:List HOs) (i:Nat):Int :=
  firstNZ [if (!(wi (-10000) 10000 (nv nw i) && wi (-10000) 10000 (nv bf i))) = true then 2 else 0, (cSH (fl l i).2.2.1 (ho hs i).1 (ho hs i).2.1).2.1,
    if (!decide ((ho hs i).1 = dr nw i)) = true then 13 else 0, if (!wi (-(fl l i).2.1) (fl l i).2.1 (dr nw i)) = true then 22 else 0]
theorem f41_four (a b c d:Int):f41 ([a, b, c, d], ()) = some (firstNZ [a, b, c, d], ()):=f41_eq _ (by simp)
theorem l87 (l:List FLo) (nw bf:List Int) (hs:List HOs) (hv:(cF l).2.1 = 0) (h1:nw.length = l.length) (h2:bf.length = l.length) (h3:hs.length = l.length) :
    l87_0 (((0:Int), nw, (nw.length:Int), (0:Int), ()), (), (l, ()), (nw, bf, hs, ()), ((0:Int), ()), ((0:Int), ()), ()) = match first (fun i=>!decide (eS l nw bf hs i = 0)) l.length 0 with
      | some k=>some (.inr ((), (), (l, ()), (nw, bf, hs, ()), ((k:Int), ()), (eS l nw bf hs k, ()), ()))
      | none=>some (.inl ((), (), (l, ()), (nw, bf, hs, ()), ((0:Int), ()), ((0:Int), ()), ())):=by
  have hz:=cF_zero hv
  refine itr_search (fun i=>((pv nw i, nw, (nw.length:Int), (i:Int), ()), (), (l, ()), (nw, bf, hs, ()), ((0:Int), ()), ((0:Int), ()), ())) (fun i=>!decide (eS l nw bf hs i = 0))
    (fun k=>((), (), (l, ()), (nw, bf, hs, ()), ((k:Int), ()), (eS l nw bf hs k, ()), ())) (n:=l.length) ?_ ?_ (lt_rounds (by omega))
  · intro i hi
    have hf:=(hz.2.2 i hi).1
    have hc:=cS_zero (hz.2.2 i hi).2
    have e1:nw.getD i 0 = nv nw i:=rfl
    have e2:bf.getD i 0 = nv bf i:=rfl
    have e3:hs.getD i (0, [], ()) = ho hs i:=rfl
    have e4:l.getD i (0, 0, [], ()) = fl l i:=rfl
    have e5:wrap64 (nv nw i - pv nw i) = dr nw i:=rfl
    have g1:=f42_two 10000 (nv nw i) (nv bf i) (by omega) (by omega)
    have g2:=f40_eq (fl l i).2.2.1 (ho hs i).1 (ho hs i).2.1 (by omega)
    have g3:=f43_if (!decide ((ho hs i).1 = dr nw i)) 13
    have g4:=f44_one (fl l i).2.1 (dr nw i) (by omega) (by omega)
    have g5:=f43_if (!wi (-(fl l i).2.1) (fl l i).2.1 (dr nw i)) 22
    have g6:=f41_four
    have hE:eS l nw bf hs i = firstNZ [if (!(wi (-10000) 10000 (nv nw i) && wi (-10000) 10000 (nv bf i))) = true then 2 else 0, (cSH (fl l i).2.2.1 (ho hs i).1 (ho hs i).2.1).2.1,
      if (!decide ((ho hs i).1 = dr nw i)) = true then 13 else 0, if (!wi (-(fl l i).2.1) (fl l i).2.1 (dr nw i)) = true then 22 else 0]:=rfl
    simp only [s87_0, t87_0, Tr.val_test, Tr.val_fin, leF_eq, eqF_eq, Int.toNat_natCast, e1, e2, e3, e4, e5, g40, g41, g42, g43, g44, g1, g2, g3, g4, g5, g6, ← hE, Option.isSome_some, Option.getD_some, if_true, wrap64_nat (show i ≤ 9223372036854775806 by omega), pv_succ]
    rw [if_pos (by simp; omega), if_pos (by simp; omega), if_pos (by simp; omega), if_pos (by simp; omega), if_pos (by simp; omega), if_pos (by simp; omega)]
  · simp [s87_0, t87_0, leF_eq, h1]
def cT (l:List FLo) (nw bf:List Int) (hs:List HOs):Int×Int×Unit :=
  if nw.length = l.length ∧ bf.length = l.length ∧ hs.length = l.length then match first (fun i=>!decide (eS l nw bf hs i = 0)) l.length 0 with
    | some k=>((k:Int), eS l nw bf hs k, ())
    | none=>(0, 0, ())
  else (0, 10, ())
def cFT (l:List FLo) (nw bf:List Int) (hs:List HOs):Int×Int×Unit:=if (cF l).2.1 = 0 then cT l nw bf hs else cF l
theorem cT_len {l:List FLo} {nw bf:List Int} {hs:List HOs} (h1:nw.length = l.length) (h2:bf.length = l.length) (h3:hs.length = l.length) :
    cT l nw bf hs = match first (fun i=>!decide (eS l nw bf hs i = 0)) l.length 0 with
    | some k=>((k:Int), eS l nw bf hs k, ())
    | none=>(0, 0, ()):=by unfold cT; rw [if_pos ⟨h1, h2, h3⟩]
theorem cT_ne {l:List FLo} {nw bf:List Int} {hs:List HOs} (h:¬ (nw.length = l.length ∧ bf.length = l.length ∧ hs.length = l.length)):cT l nw bf hs = (0, 10, ()):=by
  unfold cT; rw [if_neg h]
theorem f7_eq (l:List FLo) (nw bf:List Int) (hs:List HOs) (h:l.length ≤ 1000) (hl:∀ i, i < l.length → (fl l i).2.2.1.length ≤ 1000) :
    f7 ((l, ()), (nw, bf, hs, ()), ()) = some (cFT l nw bf hs):=by
  have e1:=f38_eq l h hl
  simp only [f7, t7, Tr.val_test, Tr.val_fin, eqF_eq, g38, e1, Option.isSome_some, Option.getD_some, if_true, cFT]
  by_cases hc:(cF l).2.1 = 0
  · rw [if_neg (by simp [hc]), if_pos hc]
    by_cases h1:nw.length = l.length
    · rw [if_neg (by simp; omega)]
      by_cases h2:bf.length = l.length
      · rw [if_neg (by simp; omega)]
        by_cases h3:hs.length = l.length
        · rw [if_neg (by simp; omega), cT_len h1 h2 h3]
          have e:=l87 l nw bf hs hc h1 h2 h3
          cases hf:first (fun i=>!decide (eS l nw bf hs i = 0)) l.length 0 with
          | none=>rw [hf] at e; simp only [e, isRet, Option.isSome_some, if_true, Bool.false_eq_true, if_false]
          | some k=>rw [hf] at e; simp only [e, r87_0, outR, isRet, Option.isSome_some, if_true]
        · rw [if_pos (by simp; omega), cT_ne (by omega)]
      · rw [if_pos (by simp; omega), cT_ne (by omega)]
    · rw [if_pos (by simp; omega), cT_ne (by omega)]
  · rw [if_pos (by simp [hc]), if_neg hc]
end Go.Vm.Mo

namespace Go.Vm.Mo
open Go
set_option linter.unusedVariables false
set_option linter.unusedSimpArgs false
theorem f57_eq (l:List ELs) (a:Int) (x:List SLs) (h:l.length ≤ 1000000):f57 (l, (a, x, ()), ()) = some ((cH l a x).2.1, ()):=by
  have e:=f98_eq l a x h
  simp only [f57, t57, Tr.val_test, Tr.val_fin, g98, e, Option.isSome_some, Option.getD_some, if_true]
theorem f58_eq (x:List Int) (i:Nat) (h:i < x.length) (h2:x.length ≤ 1000000):f58 (x, (i:Int), ()) = some (if i = 0 then nv x 0 else dr x i, ()):=by
  simp only [f58, t58, Tr.val_test, Tr.val_fin, eqF_eq, Int.toNat_natCast]
  by_cases h0:i = 0
  · subst h0
    rw [if_pos (by simp), if_pos (by simp; omega), if_pos rfl]; rfl
  · have w:wrap64 ((i:Int) - 1) = ((i - 1:Nat):Int):=wrap64_pred (by omega) (by omega)
    rw [w]
    simp only [Int.toNat_natCast]
    rw [if_neg (by simp; omega), if_pos (by simp; omega), if_pos (by simp; omega), if_neg h0]
    unfold dr pv
    rw [if_neg h0]; rfl
theorem eS_zero {l:List FLo} {nw bf:List Int} {hs:List HOs} {i:Nat} (h:eS l nw bf hs i = 0):(-10000 ≤ nv nw i ∧ nv nw i ≤ 10000) ∧ (-10000 ≤ nv bf i ∧ nv bf i ≤ 10000) ∧
    (cSH (fl l i).2.2.1 (ho hs i).1 (ho hs i).2.1).2.1 = 0 ∧ (ho hs i).1 = dr nw i ∧ -(fl l i).2.1 ≤ dr nw i ∧ dr nw i ≤ (fl l i).2.1:=by
  unfold eS at h
  by_cases h1:(wi (-10000) 10000 (nv nw i) && wi (-10000) 10000 (nv bf i)) = true
  · simp only [h1, Bool.not_true, Bool.false_eq_true, if_false, firstNZ, if_true] at h
    by_cases h2:(cSH (fl l i).2.2.1 (ho hs i).1 (ho hs i).2.1).2.1 = 0
    · rw [if_pos h2] at h
      by_cases h3:(ho hs i).1 = dr nw i
      · simp only [dT h3, Bool.not_true, Bool.false_eq_true, if_false, if_true] at h
        by_cases h4:wi (-(fl l i).2.1) (fl l i).2.1 (dr nw i) = true
        · simp only [Bool.and_eq_true, wi_iff] at h1 h4
          exact ⟨h1.1, h1.2, h2, h3, h4⟩
        · simp [h4] at h
      · simp [dF h3] at h
    · rw [if_neg h2] at h; exact absurd h h2
  · simp only [Bool.not_eq_true] at h1
    simp [h1, firstNZ] at h
theorem l13 (l:List FLo) (nw bf:List Int) (hs:List HOs) (hv:(cF l).2.1 = 0) (h1:nw.length = l.length) (h2:bf.length = l.length) (h3:hs.length = l.length) :
    l13_0 (((l.length:Int), (0:Int), ()), (l, ()), (nw, bf, hs, ()), ()) = match first (fun i=>!decide (eS l nw bf hs i = 0)) l.length 0 with
      | some k=>some (.inr (((k:Int), eS l nw bf hs k, ()), (l, ()), (nw, bf, hs, ()), ()))
      | none=>some (.inl ((), (l, ()), (nw, bf, hs, ()), ())):=by
  have hz:=cF_zero hv
  refine itr_search2 (fun i=>(((l.length:Int), (i:Int), ()), (l, ()), (nw, bf, hs, ()), ())) (fun i=>!decide (eS l nw bf hs i = 0))
    (fun k=>(((k:Int), eS l nw bf hs k, ()), (l, ()), (nw, bf, hs, ()), ())) (n:=l.length) ?_ ?_ (lt_rounds (by omega))
  · intro i hi hprev
    have hf:=(hz.2.2 i hi).1
    have hcs:=(hz.2.2 i hi).2
    have hc:=cS_zero hcs
    have hsh:cSH (fl l i).2.2.1 (ho hs i).1 (ho hs i).2.1 = cH (fl l i).2.2.1 (ho hs i).1 (ho hs i).2.1:=by unfold cSH; rw [if_pos hcs]
    have e1:nw.getD i 0 = nv nw i:=rfl
    have e2:bf.getD i 0 = nv bf i:=rfl
    have e3:hs.getD i (0, [], ()) = ho hs i:=rfl
    have e4:l.getD i (0, 0, [], ()) = fl l i:=rfl
    have g1:=f56_eq (nv nw i)
    have g2:=f56_eq (nv bf i)
    have g3:=f57_eq (fl l i).2.2.1 (ho hs i).1 (ho hs i).2.1 (by omega)
    have g4:=f58_eq nw i (by omega) (by omega)
    simp only [s13_0, t13_0, Tr.val_test, Tr.val_fin, leF_eq, eqF_eq, Int.toNat_natCast, e1, e2, e3, e4, g56, g1, g2, g57, g3, Option.isSome_some, Option.getD_some, if_true, wrap64_nat (show i ≤ 9223372036854775806 by omega)]
    rw [if_pos (by simp; omega), if_pos (by simp; omega)]
    have hE:eS l nw bf hs i = firstNZ [if (!(wi (-10000) 10000 (nv nw i) && wi (-10000) 10000 (nv bf i))) = true then 2 else 0, (cH (fl l i).2.2.1 (ho hs i).1 (ho hs i).2.1).2.1,
      if (!decide ((ho hs i).1 = dr nw i)) = true then 13 else 0, if (!wi (-(fl l i).2.1) (fl l i).2.1 (dr nw i)) = true then 22 else 0]:=by rw [← hsh]; rfl
    by_cases p1:pE (nv nw i) = 0
    · have b1:=pE_zero p1
      by_cases p2:pE (nv bf i) = 0
      · have b2:=pE_zero p2
        have w1:=wi_iff.2 b1
        have w2:=wi_iff.2 b2
        have hd:(if i = 0 then nv nw 0 else dr nw i) = dr nw i:=by
          by_cases h0:i = 0
          · subst h0
            rw [if_pos rfl]
            unfold dr pv
            rw [if_pos rfl, Int.sub_zero, wrap64_id (by omega) (by omega)]
          · rw [if_neg h0]
        have bd:-20000 ≤ dr nw i ∧ dr nw i ≤ 20000:=by
          unfold dr pv
          by_cases h0:i = 0
          · rw [if_pos h0, wrap64_id (by omega) (by omega)]; omega
          · have hp:=hprev (i - 1) (by omega)
            have hp:eS l nw bf hs (i - 1) = 0:=by simpa using hp
            have b3:=(eS_zero hp).1
            rw [if_neg h0, wrap64_id (by omega) (by omega)]; omega
        have g5:=f59_eq (dr nw i) (by omega) (by omega)
        have g6:=sz_gt (x:=dr nw i) (y:=(fl l i).2.1)
        rw [leF_eq] at g6
        rw [hd] at g4
        rw [hE]
        simp only [w1, w2, p1, p2, g58, g4, g59, g5, g6, Bool.and_self, Bool.not_true, Bool.false_eq_true, if_false, if_true, decide_true, Option.isSome_some, Option.getD_some]
        rw [if_pos (by simp; omega), if_pos (by simp; omega), if_pos (by simp; omega)]
        by_cases p3:(cH (fl l i).2.2.1 (ho hs i).1 (ho hs i).2.1).2.1 = 0
        · simp only [p3, firstNZ, if_true, decide_true, Bool.not_true, Bool.false_eq_true, if_false]
          by_cases p4:(ho hs i).1 = dr nw i
          · simp only [dT p4, Bool.not_true, Bool.false_eq_true, if_false, if_true]
            rcases Bool.eq_false_or_eq_true (wi (-(fl l i).2.1) (fl l i).2.1 (dr nw i)) with p5 | p5 <;> simp only [p5] <;> rfl
          · simp only [dF p4, Bool.not_false, if_true]; rfl
        · simp only [firstNZ, if_true, if_neg p3, dF p3, Bool.not_false]
      · have w2:wi (-10000) 10000 (nv bf i) = false:=by
          rcases Bool.eq_false_or_eq_true (wi (-10000) 10000 (nv bf i)) with hw | hw
          · unfold pE at p2; rw [if_pos hw] at p2; exact absurd rfl p2
          · exact hw
        rw [hE]
        simp only [p1, w2, dF p2, firstNZ, decide_true, Bool.and_false, Bool.not_false, Bool.not_true, Bool.false_eq_true, if_false, if_true]
        rw [if_pos (by simp; omega)]; rfl
    · have w1:wi (-10000) 10000 (nv nw i) = false:=by
        rcases Bool.eq_false_or_eq_true (wi (-10000) 10000 (nv nw i)) with hw | hw
        · unfold pE at p1; rw [if_pos hw] at p1; exact absurd rfl p1
        · exact hw
      rw [hE]
      simp only [w1, dF p1, firstNZ, decide_true, Bool.false_and, Bool.not_false, Bool.not_true, Bool.false_eq_true, if_false, if_true]; rfl
  · intro _
    simp [s13_0, t13_0, leF_eq]
theorem f13_eq (l:List FLo) (nw bf:List Int) (hs:List HOs) (hv:(cF l).2.1 = 0):f13 ((l, ()), (nw, bf, hs, ()), ()) = some (cT l nw bf hs):=by
  simp only [f13, t13, Tr.val_test, Tr.val_fin, eqF_eq]
  by_cases h1:nw.length = l.length
  · rw [if_neg (by simp; omega)]
    by_cases h2:bf.length = l.length
    · rw [if_neg (by simp; omega)]
      by_cases h3:hs.length = l.length
      · rw [if_neg (by simp; omega), cT_len h1 h2 h3]
        have e:=l13 l nw bf hs hv h1 h2 h3
        cases hf:first (fun i=>!decide (eS l nw bf hs i = 0)) l.length 0 with
        | none=>rw [hf] at e; simp only [e, isRet, Option.isSome_some, if_true, Bool.false_eq_true, if_false]
        | some k=>rw [hf] at e; simp only [e, r13_0, outR, isRet, Option.isSome_some, if_true]
      · rw [if_pos (by simp; omega), cT_ne (by omega)]
    · rw [if_pos (by simp; omega), cT_ne (by omega)]
  · rw [if_pos (by simp; omega), cT_ne (by omega)]
def gE (g:Int):Int:=if (!wi (-100) 100 g) = true then 2 else 0
theorem f46_eq (g:Int):f46 (g, ()) = some (gE g, ()):=by
  have e:=f42_one 100 g (by omega) (by omega)
  simp only [f46, t46, Tr.val_test, Tr.val_fin, g42, e, Option.isSome_some, Option.getD_some, if_true]; rfl
theorem f14_eq (g:Int):f14 (g, ()) = some (gE g, ()):=by
  have e:=f54_wi (-100) 100 g
  simp only [f14, t14, Tr.val_test, Tr.val_fin, g54, e, Option.isSome_some, Option.getD_some, if_true, gE]
  split <;> rfl
theorem gE_zero {g:Int} (h:gE g = 0):-100 ≤ g ∧ g ≤ 100:=by
  unfold gE at h
  rcases Bool.eq_false_or_eq_true (wi (-100) 100 g) with hw | hw
  · exact wi_iff.1 hw
  · rw [hw] at h; cases h
def sT (l:List FLo) (nw bf:List Int) (hs:List HOs) (e:Int):Int:=firstNZ [(cFT l nw bf hs).2.1, e]
theorem f45_eq (l:List FLo) (nw bf:List Int) (hs:List HOs) (es:List Int) (h:l.length ≤ 1000) (hl:∀ i, i < l.length → (fl l i).2.2.1.length ≤ 1000) (he:es.length ≤ 1000) :
    f45 ((l, ()), (nw, bf, hs, ()), es, ()) = some (if sT l nw bf hs (firstNZ es) = 0 then ((((l, ()), ()), (nw, bf, hs, ()), ()), 0, ()) else (((([], ()), ()), ([], [], [], ()), ()), sT l nw bf hs (firstNZ es), ())):=by
  have e1:=f7_eq l nw bf hs h hl
  have e2:=f41_eq es (by omega)
  have e3:=f41_two (cFT l nw bf hs).2.1 (firstNZ es)
  rw [show firstNZ [(cFT l nw bf hs).2.1, firstNZ es] = sT l nw bf hs (firstNZ es) from rfl] at e3
  simp only [f45, t45, Tr.val_test, Tr.val_fin, eqF_eq, g7, g41, e1, e2, e3, Option.isSome_some, Option.getD_some, if_true]
  by_cases h0:sT l nw bf hs (firstNZ es) = 0
  · rw [if_pos h0, if_neg (by simp [h0])]
  · rw [if_neg h0, if_pos (by simp [h0])]
end Go.Vm.Mo

namespace Go.Vm.Mo
open Go
set_option linter.unusedVariables false
set_option linter.unusedSimpArgs false
theorem ab_mul {x y A B:Int} (h1:-A ≤ x) (h2:x ≤ A) (h3:-B ≤ y) (h4:y ≤ B):-(A * B) ≤ x * y ∧ x * y ≤ A * B:=by
  have a1:=Int.mul_nonneg (show 0 ≤ A - x by omega) (show 0 ≤ B + y by omega)
  have a2:=Int.mul_nonneg (show 0 ≤ A + x by omega) (show 0 ≤ B - y by omega)
  have a3:=Int.mul_nonneg (show 0 ≤ A - x by omega) (show 0 ≤ B - y by omega)
  have a4:=Int.mul_nonneg (show 0 ≤ A + x by omega) (show 0 ≤ B + y by omega)
  simp only [Int.sub_mul, Int.add_mul, Int.mul_sub, Int.mul_add] at a1 a2 a3 a4
  omega
def sm (F:Nat → Int):Nat → Int
  | 0=>0
  | n + 1=>sm F n + F n
theorem sm_bd {F:Nat → Int} {B:Int}:∀ {n:Nat}, (∀ i, i < n → -B ≤ F i ∧ F i ≤ B) → -((n:Int) * B) ≤ sm F n ∧ sm F n ≤ (n:Int) * B
  | 0, _=>by simp [sm]
  | n + 1, h=>by
    have e:=sm_bd (n:=n) fun i hi=>h i (by omega)
    have e2:=h n (by omega)
    have e3:((n + 1:Nat):Int) * B = (n:Int) * B + B:=by rw [Int.natCast_add, Int.add_mul]; simp
    simp only [sm, e3]
    omega
theorem acc_sm {F:Nat → Int} {B:Int} (hB:0 ≤ B):∀ {n:Nat}, (∀ i, i < n → -B ≤ F i ∧ F i ≤ B) → (n:Int) * B ≤ 4611686018427387904 → acc F n = sm F n
  | 0, _, _=>rfl
  | n + 1, h, hn=>by
    have e3:((n + 1:Nat):Int) * B = (n:Int) * B + B:=by rw [Int.natCast_add, Int.add_mul]; simp
    rw [e3] at hn
    have e:=acc_sm hB (n:=n) (fun i hi=>h i (by omega)) (by omega)
    have e2:=sm_bd (n:=n) fun i hi=>h i (by omega)
    have e4:=h n (by omega)
    simp only [acc, sm, e]
    exact wrap64_id (by omega) (by omega)
structure VT (l:List FLo) (nw bf:List Int) (hs:List HOs):Prop where
  v:(cF l).2.1 = 0
  n1:nw.length = l.length
  n2:bf.length = l.length
  n3:hs.length = l.length
  e:∀ i, i < l.length → eS l nw bf hs i = 0
theorem VT_of {l:List FLo} {nw bf:List Int} {hs:List HOs} (h:(cFT l nw bf hs).2.1 = 0):VT l nw bf hs:=by
  unfold cFT at h
  split at h
  · rename_i hv
    by_cases hn:nw.length = l.length ∧ bf.length = l.length ∧ hs.length = l.length
    · rw [cT_len hn.1 hn.2.1 hn.2.2] at h
      refine ⟨hv, hn.1, hn.2.1, hn.2.2, fun i hi=>?_⟩
      cases hf:first (fun i=>!decide (eS l nw bf hs i = 0)) l.length 0 with
      | none=>simpa using first_none hf i (by omega) (by omega)
      | some k =>
        rw [hf] at h
        obtain ⟨_, _, k3, _⟩:=first_some hf
        have h:eS l nw bf hs k = 0:=h
        simp [h] at k3
    · rw [cT_ne hn] at h; cases h
  · rename_i hv; exact absurd h hv
def sfo (l:List FLo) (hs:List HOs) (i:Nat):Int:=acc (FO (fl l i).2.2.1 (ho hs i).1 (ho hs i).2.1) (fl l i).2.2.1.length
def SF (l:List FLo) (hs:List HOs) (i:Nat):Int:=if i = l.length then 0 else sfo l hs i
def PU (l:List FLo) (hs:List HOs) (i:Nat):Int:=wrap64 (SF l hs (i + 1) - SF l hs i)
namespace VT
variable {l:List FLo} {nw bf:List Int} {hs:List HOs} (v:VT l nw bf hs)
include v
theorem few:0 < l.length ∧ l.length ≤ 5:=⟨(cF_zero v.v).1, (cF_zero v.v).2.1⟩
theorem fl_ok {i:Nat} (hi:i < l.length):(1 ≤ (fl l i).1 ∧ (fl l i).1 ≤ 10000 ∧ 1 ≤ (fl l i).2.1 ∧ (fl l i).2.1 ≤ 1000) ∧ (cS (fl l i).2.2.1).2.1 = 0:=(cF_zero v.v).2.2 i hi
theorem cs_ok {i:Nat} (hi:i < l.length):0 < (fl l i).2.2.1.length ∧ (fl l i).2.2.1.length ≤ 4 ∧ ∀ k, k < (fl l i).2.2.1.length → 1 ≤ (el (fl l i).2.2.1 k).1 ∧ (el (fl l i).2.2.1 k).1 ≤ 1000 ∧ 1 ≤ (el (fl l i).2.2.1 k).2.1 ∧ (el (fl l i).2.2.1 k).2.1 ≤ 1000:=cS_zero (v.fl_ok hi).2
theorem ch_ok {i:Nat} (hi:i < l.length):(-10000 ≤ (ho hs i).1 ∧ (ho hs i).1 ≤ 10000) ∧ (ho hs i).2.1.length = (fl l i).2.2.1.length ∧ ∀ k, k < (fl l i).2.2.1.length → -10000 ≤ (sl (ho hs i).2.1 k).1 ∧ (sl (ho hs i).2.1 k).1 ≤ 10000:=by
  obtain ⟨h1, h2, h3⟩:=cH_zero (cSH_zero (eS_zero (v.e i hi)).2.2.1).2
  exact ⟨h1, h2, fun k hk=>(hE_zero (h3 k hk)).1⟩
theorem sfo_bd {i:Nat} (hi:i < l.length):-80000000 ≤ sfo l hs i ∧ sfo l hs i ≤ 80000000:=by
  obtain ⟨h1, h2, h3⟩:=v.ch_ok hi
  have hc:=v.cs_ok hi
  have hb:∀ k, k < (fl l i).2.2.1.length → -20000000 ≤ FO (fl l i).2.2.1 (ho hs i).1 (ho hs i).2.1 k ∧ FO (fl l i).2.2.1 (ho hs i).1 (ho hs i).2.1 k ≤ 20000000:=fun k hk=>by
    have b1:=h3 k hk
    have b2:=hc.2.2 k hk
    have w:st (ho hs i).1 (sl (ho hs i).2.1 k) = (ho hs i).1 - (sl (ho hs i).2.1 k).1:=wrap64_id (by omega) (by omega)
    have m:=ab_mul (x:=(el (fl l i).2.2.1 k).1) (y:=(ho hs i).1 - (sl (ho hs i).2.1 k).1) (A:=1000) (B:=20000) (by omega) (by omega) (by omega) (by omega)
    unfold FO
    rw [w]
    split
    · omega
    · rw [wrap64_id (by omega) (by omega)]; omega
  have e:=acc_sm (B:=20000000) (by omega) hb (by omega)
  have e2:=sm_bd hb
  unfold sfo
  rw [e]
  omega
theorem SF_bd {i:Nat} (hi:i ≤ l.length):-80000000 ≤ SF l hs i ∧ SF l hs i ≤ 80000000:=by
  unfold SF
  split
  · omega
  · exact v.sfo_bd (by omega)
theorem PU_bd {i:Nat} (hi:i < l.length):PU l hs i = SF l hs (i + 1) - SF l hs i ∧ -160000000 ≤ PU l hs i ∧ PU l hs i ≤ 160000000:=by
  have a:=v.SF_bd (i:=i) (by omega)
  have b:=v.SF_bd (i:=i + 1) (by omega)
  have e:PU l hs i = SF l hs (i + 1) - SF l hs i:=wrap64_id (by omega) (by omega)
  exact ⟨e, by omega, by omega⟩
end VT
theorem f92_eq (l:List FLo) (nw bf:List Int) (hs:List HOs) (i:Nat) (h:i < l.length) (h3:hs.length = l.length):f92 ((((l, ()), ()), (nw, bf, hs, ()), ()), (i:Int), ()) = some (((fl l i).2.2.1, ((ho hs i).1, (ho hs i).2.1, ()), ()), ()):=by
  have e3:hs.getD i (0, [], ()) = ho hs i:=rfl
  have e4:l.getD i (0, 0, [], ()) = fl l i:=rfl
  simp only [f92, t92, Tr.val_test, Tr.val_fin, Int.toNat_natCast, e3, e4]
  rw [if_pos (by simp; omega), if_pos (by simp; omega)]
theorem f94_eq (l:List FLo) (nw bf:List Int) (hs:List HOs) (v:VT l nw bf hs) (i:Nat) (h:i ≤ l.length):f94 ((((l, ()), ()), (nw, bf, hs, ()), ()), (i:Int), ()) = some (SF l hs i, ()):=by
  simp only [f94, t94, Tr.val_test, Tr.val_fin, eqF_eq]
  by_cases hi:i = l.length
  · rw [if_pos (by simp; omega)]
    unfold SF
    rw [if_pos hi]
  · have hlt:i < l.length:=by omega
    have hc:=v.ch_ok hlt
    have hs4:=v.cs_ok hlt
    have e1:=f92_eq l nw bf hs i hlt v.n3
    have e2:=f68_eq (fl l i).2.2.1 (ho hs i).1 (ho hs i).2.1 (by omega) (by omega)
    rw [hc.2.1] at e2
    rw [if_neg (by simp; omega)]
    simp only [g92, e1, g68, e2, Option.isSome_some, Option.getD_some, if_true]
    unfold SF
    rw [if_neg hi]; rfl
theorem tdiv_floor {x m:Int} (hm:1 ≤ m):(0 ≤ x.tmod m → x.tdiv m = x / m ∧ x.tmod m = x % m) ∧ (x.tmod m < 0 → x.tdiv m = x / m + 1 ∧ x.tmod m + m = x % m):=by
  have h1:=Int.tmod_add_mul_tdiv x m
  have h2:=Int.emod_add_mul_ediv x m
  have h3:=Int.emod_nonneg x (show m ≠ 0 by omega)
  have h4:=Int.emod_lt_of_pos x (show 0 < m by omega)
  have h5:-m < x.tmod m ∧ x.tmod m < m:=by
    by_cases hx:0 ≤ x
    · have a:=Int.tmod_nonneg m hx
      have b:=Int.tmod_lt_of_pos x (show 0 < m by omega)
      omega
    · have a:=Int.tmod_nonneg m (show 0 ≤ -x by omega)
      have b:=Int.tmod_lt_of_pos (-x) (show 0 < m by omega)
      rw [Int.neg_tmod] at a b
      omega
  refine ⟨fun h=>?_, fun h=>?_⟩
  · have hq:x.tdiv m = x / m:=by
      have e:m * x.tdiv m - m * (x / m) = x % m - x.tmod m:=by omega
      rw [← Int.mul_sub] at e
      have:x.tdiv m - x / m = 0:=by
        by_cases hp:0 < x.tdiv m - x / m
        · have:=Int.mul_le_mul_of_nonneg_left (show 1 ≤ x.tdiv m - x / m by omega) (show 0 ≤ m by omega); omega
        · by_cases hn:x.tdiv m - x / m < 0
          · have:=Int.mul_le_mul_of_nonneg_left (show x.tdiv m - x / m ≤ -1 by omega) (show 0 ≤ m by omega); omega
          · omega
      omega
    refine ⟨hq, ?_⟩
    rw [hq] at h1; omega
  · have hq:x.tdiv m = x / m + 1:=by
      have e:m * x.tdiv m - m * (x / m) = x % m - x.tmod m:=by omega
      rw [← Int.mul_sub] at e
      by_cases hp:1 < x.tdiv m - x / m
      · have:=Int.mul_le_mul_of_nonneg_left (show 2 ≤ x.tdiv m - x / m by omega) (show 0 ≤ m by omega); omega
      · by_cases hn:x.tdiv m - x / m < 1
        · have:=Int.mul_le_mul_of_nonneg_left (show x.tdiv m - x / m ≤ 0 by omega) (show 0 ≤ m by omega); omega
        · omega
    refine ⟨hq, ?_⟩
    rw [hq, Int.mul_add] at h1; omega
theorem div_bd {x m:Int} (hm:1 ≤ m) (B:Int) (h1:-B ≤ x) (h2:x ≤ B) (hB:0 ≤ B):-B ≤ x / m ∧ x / m ≤ B:=by
  have e:=Int.emod_add_mul_ediv x m
  have h3:=Int.emod_nonneg x (show m ≠ 0 by omega)
  have h4:=Int.emod_lt_of_pos x (show 0 < m by omega)
  constructor
  · by_cases h:-B ≤ x / m
    · exact h
    · have:=Int.mul_le_mul_of_nonneg_left (show x / m ≤ -B - 1 by omega) (show 0 ≤ m by omega)
      have h6:m * (-B - 1) = -(m * B) - m:=by rw [Int.mul_sub, Int.mul_neg, Int.mul_one]
      have h7:=Int.mul_le_mul_of_nonneg_right hm hB
      omega
  · by_cases h:x / m ≤ B
    · exact h
    · have:=Int.mul_le_mul_of_nonneg_left (show B + 1 ≤ x / m by omega) (show 0 ≤ m by omega)
      have h6:m * (B + 1) = m * B + m:=by rw [Int.mul_add, Int.mul_one]
      have h7:=Int.mul_le_mul_of_nonneg_right hm hB
      omega
theorem f99_eq (x m:Int) (hm:1 ≤ m) (h1:-1000000000000 ≤ x) (h2:x ≤ 1000000000000):f99 (x, m, ()) = some (x / m, ()):=by
  have t:=tdiv_floor (x:=x) hm
  have b:=div_bd hm 1000000000000 h1 h2 (by omega)
  simp only [f99, t99, Tr.val_test, Tr.val_fin, leF_eq]
  rw [if_neg (by simp; omega)]
  by_cases h:0 ≤ x.tmod m
  · have e:=(t.1 h).1
    rw [if_neg (by simp [h]), e, ← wrap64_eq, wrap64_id (by omega) (by omega)]
  · have e:=(t.2 (by omega)).1
    rw [if_pos (by simp [h]), e, ← wrap64_eq, wrap64_id (n:=x / m + 1) (by omega) (by omega), show x / m + 1 - 1 = x / m by omega, wrap64_id (by omega) (by omega)]
theorem f63_eq (x m:Int) (hm:1 ≤ m) (hm2:m ≤ 1000000):f63 (x, m, ()) = some (x % m, ()):=by
  have t:=tdiv_floor (x:=x) hm
  have h3:=Int.emod_nonneg x (show m ≠ 0 by omega)
  have h4:=Int.emod_lt_of_pos x (show 0 < m by omega)
  simp only [f63, t63, Tr.val_test, Tr.val_fin, leF_eq]
  rw [if_neg (by simp; omega)]
  by_cases h:0 ≤ x.tmod m
  · have e:=(t.1 h).2
    rw [if_neg (by simp [h]), e]
  · have e:=(t.2 (by omega)).2
    rw [if_pos (by simp [h]), e, wrap64_id (by omega) (by omega)]
theorem f95_eq (x m:Int) (hm:1 ≤ m) (hm2:m ≤ 1000000) (h1:-1000000000000 ≤ x) (h2:x ≤ 1000000000000):f95 (x, m, ()) = some (x / m, x % m, ()):=by
  have t:=tdiv_floor (x:=x) hm
  have b:=div_bd hm 1000000000000 h1 h2 (by omega)
  have h3:=Int.emod_nonneg x (show m ≠ 0 by omega)
  have h4:=Int.emod_lt_of_pos x (show 0 < m by omega)
  have e0:=Int.emod_add_mul_ediv x m
  have e1:(x - x % m).tdiv m = x / m:=by
    rw [show x - x % m = m * (x / m) by omega, Int.mul_tdiv_cancel_left _ (by omega)]
  simp only [f95, t95, Tr.val_test, Tr.val_fin, leF_eq]
  rw [if_neg (by simp; omega)]
  by_cases h:0 ≤ x.tmod m
  · have e:=(t.1 h).2
    rw [if_neg (by simp [h]), e, wrap64_id (n:=x - x % m) (by omega) (by omega), e1, ← wrap64_eq, wrap64_id (by omega) (by omega)]
  · have e:=(t.2 (by omega)).2
    rw [if_pos (by simp [h]), e, wrap64_id (n:=x % m) (by omega) (by omega), wrap64_id (n:=x - x % m) (by omega) (by omega), e1, ← wrap64_eq, wrap64_id (by omega) (by omega)]
end Go.Vm.Mo

namespace Go.Vm.Mo
open Go
set_option linter.unusedVariables false
set_option linter.unusedSimpArgs false
def np (l:List FLo) (nw bf:List Int) (hs:List HOs) (g:Int) (i:Nat):Int:=wrap64 (wrap64 (wrap64 (wrap64 (2 * nv nw i) - nv bf i) + PU l hs i / (fl l i).1) - g)
def NP (l:List FLo) (nw bf:List Int) (hs:List HOs) (g:Int):List Int:=lst (np l nw bf hs g) l.length
theorem np_bd {l:List FLo} {nw bf:List Int} {hs:List HOs} (v:VT l nw bf hs) {g:Int} (hg:-100 ≤ g ∧ g ≤ 100) {i:Nat} (hi:i < l.length):-170000000 ≤ np l nw bf hs g i ∧ np l nw bf hs g i ≤ 170000000:=by
  have a:=eS_zero (v.e i hi)
  have b:=v.PU_bd hi
  have f:=(v.fl_ok hi).1
  have d:=div_bd (x:=PU l hs i) f.1 160000000 b.2.1 b.2.2 (by omega)
  unfold np
  rw [wrap64_id (n:=2 * nv nw i) (by omega) (by omega), wrap64_id (n:=2 * nv nw i - nv bf i) (by omega) (by omega), wrap64_id (n:=2 * nv nw i - nv bf i + PU l hs i / (fl l i).1) (by omega) (by omega), wrap64_id (by omega) (by omega)]
  omega
theorem NP_len (l:List FLo) (nw bf:List Int) (hs:List HOs) (g:Int):(NP l nw bf hs g).length = l.length:=lst_len _ _
theorem NP_get {l:List FLo} {nw bf:List Int} {hs:List HOs} {g:Int} {i:Nat} (hi:i < l.length):nv (NP l nw bf hs g) i = np l nw bf hs g i:=lst_get _ _ hi
theorem l93 (l:List FLo) (nw bf:List Int) (hs:List HOs) (v:VT l nw bf hs) (g:Int) (c:List Int) :
    l93_0 ((l, (l.length:Int), (0:Int), ()), (), (l, nw, bf, hs, ()), (g, ()), ([], c, ()), ()) = some (.inl ((), (), (l, nw, bf, hs, ()), (g, ()), (NP l nw bf hs g, c, ()), ())):=by
  have few:=v.few
  refine itr_brk (fun i=>((l, (l.length:Int), (i:Int), ()), (), (l, nw, bf, hs, ()), (g, ()), (lst (np l nw bf hs g) i, c, ()), ())) (n:=l.length) ?_ ?_ (lt_rounds (by omega))
  · intro i hi
    have e1:nw.getD i 0 = nv nw i:=rfl
    have e2:bf.getD i 0 = nv bf i:=rfl
    have e4:l.getD i (0, 0, [], ()) = fl l i:=rfl
    have f:=(v.fl_ok hi).1
    have b:=v.PU_bd hi
    have g1:=f94_eq l nw bf hs v i (by omega)
    have g2:=f94_eq l nw bf hs v (i + 1) (by omega)
    have g3:=f95_eq (PU l hs i) (fl l i).1 f.1 (by omega) (by omega) (by omega)
    have e5:wrap64 (SF l hs (i + 1) - SF l hs i) = PU l hs i:=rfl
    have n1:=v.n1
    have n2:=v.n2
    rw [lst_succ]
    simp only [s93_0, t93_0, Tr.val_test, Tr.val_fin, leF_eq, Int.toNat_natCast, e1, e2, e4, wrap64_nat (show i ≤ 9223372036854775806 by omega), g94, g1, g2, e5, g95, g3, Option.isSome_some, Option.getD_some, if_true, lst_len]
    rw [if_pos (by simp; omega), if_pos (by simp; omega), if_pos (by simp; omega), if_pos (by simp; omega), if_pos (by simp only [Bool.and_eq_true, ble_eq_true']; omega)]
    rfl
  · simp [s93_0, t93_0, leF_eq]; rfl
def bD (l:List FLo) (p:List Int) (i:Nat):Bool:=!wi (-(fl l i).2.1) (fl l i).2.1 (dr p i)
def MH (l:List FLo) (hs:List HOs) (p:List Int) (i:Nat):HOs:=(dr p i, lst (MV (fl l i).2.2.1 (ho hs i).2.1 (dr p i)) (fl l i).2.2.1.length, ())
theorem l871 (l:List FLo) (nw bf:List Int) (hs:List HOs) (v:VT l nw bf hs) (p c:List Int) (hp:p.length = l.length) :
    l87_0_1 (((0:Int), p, (p.length:Int), (0:Int), ()), (), (l, nw, bf, hs, ()), (), ((0:Int), ()), (p, c, [], ()), ()) = match first (bD l p) l.length 0 with
      | some k=>some (.inr ((), (), (l, nw, bf, hs, ()), (), ((k:Int), ()), (p, c, lst (MH l hs p) k, ()), ()))
      | none=>some (.inl ((), (), (l, nw, bf, hs, ()), (), ((0:Int), ()), (p, c, lst (MH l hs p) l.length, ()), ())):=by
  have few:=v.few
  refine itr_search (fun i=>((pv p i, p, (p.length:Int), (i:Int), ()), (), (l, nw, bf, hs, ()), (), ((0:Int), ()), (p, c, lst (MH l hs p) i, ()), ())) (bD l p)
    (fun k=>((), (), (l, nw, bf, hs, ()), (), ((k:Int), ()), (p, c, lst (MH l hs p) k, ()), ())) (n:=l.length) ?_ ?_ (lt_rounds (by omega))
  · intro i hi
    have e1:p.getD i 0 = nv p i:=rfl
    have e4:l.getD i (0, 0, [], ()) = fl l i:=rfl
    have e5:wrap64 (nv p i - pv p i) = dr p i:=rfl
    have f:=(v.fl_ok hi).1
    have hc:=v.cs_ok hi
    have hh:=v.ch_ok hi
    have g1:=f44_one (fl l i).2.1 (dr p i) (by omega) (by omega)
    have g2:=f92_eq l nw bf hs i hi v.n3
    have g3:=f74_eq (fl l i).2.2.1 (ho hs i).1 (ho hs i).2.1 (dr p i) (by omega) (by omega) (fun k hk=>by have:=hc.2.2 k hk; omega)
    rw [hh.2.1] at g3
    have eB:(!wi (-(fl l i).2.1) (fl l i).2.1 (dr p i)) = bD l p i:=rfl
    rw [eB] at g1
    rw [lst_succ]
    simp only [s87_0_1, t87_0_1, Tr.val_test, Tr.val_fin, leF_eq, Int.toNat_natCast, e1, e4, e5, g44, g1, g92, g2, g74, g3, wrap64_nat (show i ≤ 9223372036854775806 by omega), Option.isSome_some, Option.getD_some, if_true, lst_len, pv_succ]
    rw [if_pos (by simp; omega), if_pos (by simp; omega), if_pos (by simp; omega)]
    rcases Bool.eq_false_or_eq_true (bD l p i) with hb | hb
    · rw [hb, if_pos rfl, if_pos rfl]
    · simp only [hb, Bool.false_eq_true, if_false]
      rw [if_pos (by simp only [Bool.and_eq_true, ble_eq_true']; omega)]; rfl
  · simp [s87_0_1, t87_0_1, leF_eq, hp]
theorem f47_eq (l:List FLo) (nw bf:List Int) (hs:List HOs) (v:VT l nw bf hs) (g:Int):f47 ((((l, ()), ()), (nw, bf, hs, ()), ()), g, ()) =
    some (match first (bD l (NP l nw bf hs g)) l.length 0 with
      | some k=>((((([], ()), ()), ([], [], [], ()), ()), (k:Int), ()):Tys.data rs47)
      | none=>((((l, ()), ()), (NP l nw bf hs g, nw, lst (MH l hs (NP l nw bf hs g)) l.length, ()), ()), (-1:Int), ())):=by
  have few:=v.few
  have n1:=v.n1
  have e1:=f91_eq nw (by omega) (by omega)
  have e2:=l93 l nw bf hs v g nw
  have e3:=l871 l nw bf hs v (NP l nw bf hs g) nw (NP_len l nw bf hs g)
  simp only [f47, t47, Tr.val_test, Tr.val_fin, g91, e1, e2, b93_0, isBrk, outB, Option.isSome_some, Option.getD_some, if_true]
  cases hf:first (bD l (NP l nw bf hs g)) l.length 0 with
  | none=>rw [hf] at e3; simp only [e3, b87_0_1, isRet, outB, Option.isSome_some, if_true, Bool.false_eq_true, if_false]
  | some k=>rw [hf] at e3; simp only [e3, r87_0_1, isRet, outR, Option.isSome_some, if_true]
def stp (l:List FLo) (nw bf:List Int) (hs:List HOs) (g:Int):Tys.data rs10:=match first (bD l (NP l nw bf hs g)) l.length 0 with
  | some _=>(([], [], [], ()), (22:Int), ())
  | none=>((NP l nw bf hs g, nw, lst (MH l hs (NP l nw bf hs g)) l.length, ()), (0:Int), ())
theorem f10_eq (l:List FLo) (nw bf:List Int) (hs:List HOs) (g:Int) (h:l.length ≤ 1000) (hl:∀ i, i < l.length → (fl l i).2.2.1.length ≤ 1000) :
    f10 ((l, ()), (nw, bf, hs, ()), g, ()) = some (if sT l nw bf hs (gE g) = 0 then stp l nw bf hs g else (([], [], [], ()), sT l nw bf hs (gE g), ())):=by
  have e1:=f46_eq g
  have e2:=f45_eq l nw bf hs [gE g] h hl (by simp)
  have e3:firstNZ [gE g] = gE g:=by simp only [firstNZ]; split <;> simp_all
  rw [e3] at e2
  simp only [f10, t10, Tr.val_test, Tr.val_fin, eqF_eq, g46, e1, g45, e2, Option.isSome_some, Option.getD_some, if_true]
  by_cases h0:sT l nw bf hs (gE g) = 0
  · have v:=VT_of (nz2 h0).1
    have e4:=f47_eq l nw bf hs v g
    have e5:=fun b=>f43_if b 22
    simp only [if_pos h0, g47, e4, g43, e5, Option.isSome_some, Option.getD_some, if_true, stp]
    cases hf:first (bD l (NP l nw bf hs g)) l.length 0 with
    | none=>rfl
    | some k =>
      have:(!decide ((k:Int) = -1)) = true:=nT (by omega)
      simp only [this, if_true]
      rfl
  · simp only [if_neg h0]
    rw [if_pos (by simp [h0])]
end Go.Vm.Mo

namespace Go.Vm.Mo
open Go
set_option linter.unusedVariables false
set_option linter.unusedSimpArgs false
theorem f62_eq (l:List FLo) (nw bf:List Int) (hs:List HOs) (v:VT l nw bf hs) (i:Nat) (h:i < l.length):f62 ((l, ()), (nw, bf, hs, ()), (i:Int), ()) = some (PU l hs i, ()):=by
  have few:=v.few
  have e3:∀ k, hs.getD k (0, [], ()) = ho hs k:=fun _=>rfl
  have e4:∀ k, l.getD k (0, 0, [], ()) = fl l k:=fun _=>rfl
  have n3:=v.n3
  have hc:=v.ch_ok h
  have hk:=v.cs_ok h
  have g1:=f100_eq (fl l i).2.2.1 (ho hs i).1 (ho hs i).2.1 hc.2.1 (by omega)
  have g1:f100 ((fl l i).2.2.1, ((ho hs i).1, (ho hs i).2.1, ()), ()) = some (sfo l hs i, ()):=g1
  have w:wrap64 ((i:Int) + 1) = ((i + 1:Nat):Int):=wrap64_nat (show i ≤ 9223372036854775806 by omega)
  have s0:SF l hs i = sfo l hs i:=by unfold SF; rw [if_neg (by omega)]
  simp only [f62, t62, Tr.val_test, Tr.val_fin, leF_eq, Int.toNat_natCast, e3, e4, g100, g1, Option.isSome_some, Option.getD_some, if_true, w]
  rw [if_pos (by simp; omega), if_pos (by simp; omega)]
  by_cases hi:i + 1 = l.length
  · rw [if_neg (by simp; omega)]
    unfold PU
    rw [s0, show SF l hs (i + 1) = 0 by unfold SF; rw [if_pos hi]]
    rw [wrap64_eq]
  · have h2:i + 1 < l.length:=by omega
    have hc2:=v.ch_ok h2
    have hk2:=v.cs_ok h2
    have g2:=f100_eq (fl l (i + 1)).2.2.1 (ho hs (i + 1)).1 (ho hs (i + 1)).2.1 hc2.2.1 (by omega)
    have g2:f100 ((fl l (i + 1)).2.2.1, ((ho hs (i + 1)).1, (ho hs (i + 1)).2.1, ()), ()) = some (sfo l hs (i + 1), ()):=g2
    rw [if_pos (by simp; omega), if_pos (by simp; omega), if_pos (by simp; omega)]
    simp only [g2, Option.isSome_some, Option.getD_some, if_true]
    unfold PU
    rw [s0, show SF l hs (i + 1) = sfo l hs (i + 1) by unfold SF; rw [if_neg hi]]
    rw [← wrap64_eq, wrap64_add_l, show 0 - sfo l hs i + sfo l hs (i + 1) = sfo l hs (i + 1) - sfo l hs i by omega]
theorem l60 (l:List FLo) (nw bf:List Int) (hs:List HOs) (v:VT l nw bf hs) (g:Int) :
    l60_0 ((g, [], (0:Int), ()), (l, ()), (nw, bf, hs, ()), ()) = some (.inl ((NP l nw bf hs g, ()), (l, ()), (nw, bf, hs, ()), ())):=by
  have few:=v.few
  refine itr_brk (fun i=>((g, lst (np l nw bf hs g) i, (i:Int), ()), (l, ()), (nw, bf, hs, ()), ())) (n:=l.length) ?_ ?_ (lt_rounds (by omega))
  · intro i hi
    have e1:nw.getD i 0 = nv nw i:=rfl
    have e2:bf.getD i 0 = nv bf i:=rfl
    have e4:l.getD i (0, 0, [], ()) = fl l i:=rfl
    have f:=(v.fl_ok hi).1
    have b:=v.PU_bd hi
    have g1:=f62_eq l nw bf hs v i hi
    have g3:=f99_eq (PU l hs i) (fl l i).1 f.1 (by omega) (by omega)
    have n1:=v.n1
    have n2:=v.n2
    rw [lst_succ]
    simp only [s60_0, t60_0, Tr.val_test, Tr.val_fin, leF_eq, Int.toNat_natCast, e1, e2, e4, wrap64_nat (show i ≤ 9223372036854775806 by omega), g62, g1, g99, g3, Option.isSome_some, Option.getD_some, if_true, lst_len]
    rw [if_pos (by simp; omega), if_pos (by simp; omega), if_pos (by simp; omega), if_pos (by simp; omega), if_pos (by simp only [Bool.and_eq_true, ble_eq_true']; omega)]
    rfl
  · simp [s60_0, t60_0, leF_eq]; rfl
theorem f60_eq (l:List FLo) (nw bf:List Int) (hs:List HOs) (v:VT l nw bf hs) (g:Int):f60 ((l, ()), (nw, bf, hs, ()), g, ()) = some (NP l nw bf hs g, ()):=by
  have e:=l60 l nw bf hs v g
  simp only [f60, t60, Tr.val_test, Tr.val_fin, e, b60_0, isBrk, outB, if_true]
theorem dr_np {l:List FLo} {nw bf:List Int} {hs:List HOs} (v:VT l nw bf hs) {g:Int} (hg:-100 ≤ g ∧ g ≤ 100) {i:Nat} (hi:i < l.length) :
    (if i = 0 then nv (NP l nw bf hs g) 0 else dr (NP l nw bf hs g) i) = dr (NP l nw bf hs g) i ∧ -400000000 ≤ dr (NP l nw bf hs g) i ∧ dr (NP l nw bf hs g) i ≤ 400000000:=by
  have b1:=np_bd v hg hi
  have b0:=np_bd v hg (i:=0) (by omega)
  have e1:=NP_get (nw:=nw) (bf:=bf) (hs:=hs) (g:=g) hi
  by_cases h0:i = 0
  · subst h0
    have:dr (NP l nw bf hs g) 0 = nv (NP l nw bf hs g) 0:=by
      unfold dr pv
      rw [if_pos rfl, Int.sub_zero, e1, wrap64_id (by omega) (by omega)]
    rw [if_pos rfl, this, e1]
    exact ⟨rfl, by omega, by omega⟩
  · rw [if_neg h0]
    have b2:=np_bd v hg (i:=i - 1) (by omega)
    have e2:=NP_get (l:=l) (nw:=nw) (bf:=bf) (hs:=hs) (g:=g) (i:=i - 1) (by omega)
    refine ⟨rfl, ?_⟩
    unfold dr pv
    rw [if_neg h0, e1, e2, wrap64_id (by omega) (by omega)]
    omega
theorem l16 (l:List FLo) (nw bf:List Int) (hs:List HOs) (v:VT l nw bf hs) (g:Int) (hg:-100 ≤ g ∧ g ≤ 100) :
    l16_0 ((NP l nw bf hs g, (0:Int), ()), (l, ()), (nw, bf, hs, ()), (), (NP l nw bf hs g, nw, [], ()), ()) = match first (bD l (NP l nw bf hs g)) l.length 0 with
      | some k=>some (.inr (((k:Int), ()), (l, ()), (nw, bf, hs, ()), (), (NP l nw bf hs g, nw, lst (MH l hs (NP l nw bf hs g)) k, ()), ()))
      | none=>some (.inl ((), (l, ()), (nw, bf, hs, ()), (), (NP l nw bf hs g, nw, lst (MH l hs (NP l nw bf hs g)) l.length, ()), ())):=by
  have few:=v.few
  refine itr_search (fun i=>((NP l nw bf hs g, (i:Int), ()), (l, ()), (nw, bf, hs, ()), (), (NP l nw bf hs g, nw, lst (MH l hs (NP l nw bf hs g)) i, ()), ())) (bD l (NP l nw bf hs g))
    (fun k=>(((k:Int), ()), (l, ()), (nw, bf, hs, ()), (), (NP l nw bf hs g, nw, lst (MH l hs (NP l nw bf hs g)) k, ()), ())) (n:=l.length) ?_ ?_ (lt_rounds (by omega))
  · intro i hi
    have e3:hs.getD i (0, [], ()) = ho hs i:=rfl
    have e4:l.getD i (0, 0, [], ()) = fl l i:=rfl
    have f:=(v.fl_ok hi).1
    have hc:=v.cs_ok hi
    have hh:=v.ch_ok hi
    have n3:=v.n3
    have d:=dr_np v hg hi
    have hl:=NP_len l nw bf hs g
    have g1:=f58_eq (NP l nw bf hs g) i (by omega) (by omega)
    rw [d.1] at g1
    have g2:=f59_eq (dr (NP l nw bf hs g) i) (by omega) (by omega)
    have g3:=sz_gt (x:=dr (NP l nw bf hs g) i) (y:=(fl l i).2.1)
    rw [leF_eq] at g3
    have eB:(!wi (-(fl l i).2.1) (fl l i).2.1 (dr (NP l nw bf hs g) i)) = bD l (NP l nw bf hs g) i:=rfl
    rw [eB] at g3
    rw [lst_succ]
    have hln:decide (((NP l nw bf hs g).length:Int) ≤ (i:Int)) = false:=dF (by omega)
    simp only [s16_0, t16_0, Tr.val_test, Tr.val_fin, leF_eq, Int.toNat_natCast, e3, e4, g58, g1, g59, g2, g3, hln, wrap64_nat (show i ≤ 9223372036854775806 by omega), Option.isSome_some, Option.getD_some, if_true, lst_len, Bool.not_false]
    rw [if_pos (by simp; omega)]
    rcases Bool.eq_false_or_eq_true (bD l (NP l nw bf hs g) i) with hb | hb
    · rw [hb, if_pos rfl, if_pos rfl]
    · have hw:wi (-(fl l i).2.1) (fl l i).2.1 (dr (NP l nw bf hs g) i) = true:=by
        have:=eB.trans hb
        simpa using this
      have hw:=wi_iff.1 hw
      have g4:=f61_eq (fl l i).2.2.1 (ho hs i).1 (ho hs i).2.1 (dr (NP l nw bf hs g) i) hh.2.1 (by omega) (by omega) hh.2.2
      simp only [hb, Bool.false_eq_true, if_false, g61, g4, Option.isSome_some, Option.getD_some, if_true]
      rw [if_pos (by simp; omega), if_pos (by simp only [Bool.and_eq_true, ble_eq_true']; omega)]; rfl
  · simp [s16_0, t16_0, leF_eq, NP_len]
theorem f16_eq (l:List FLo) (nw bf:List Int) (hs:List HOs) (v:VT l nw bf hs) (g:Int) (hg:-100 ≤ g ∧ g ≤ 100):f16 ((l, ()), (nw, bf, hs, ()), g, ()) =
    some (match first (bD l (NP l nw bf hs g)) l.length 0 with
      | some k=>((([], [], [], ()), (k:Int), ()):Tys.data rs16)
      | none=>((NP l nw bf hs g, nw, lst (MH l hs (NP l nw bf hs g)) l.length, ()), (-1:Int), ())):=by
  have few:=v.few
  have n1:=v.n1
  have e1:=f60_eq l nw bf hs v g
  have e2:=f21_eq nw (by omega)
  have e3:=l16 l nw bf hs v g hg
  simp only [f16, t16, Tr.val_test, Tr.val_fin, g60, e1, g21, e2, Option.isSome_some, Option.getD_some, if_true]
  cases hf:first (bD l (NP l nw bf hs g)) l.length 0 with
  | none=>rw [hf] at e3; simp only [e3, b16_0, isRet, outB, Option.isSome_some, if_true, Bool.false_eq_true, if_false]
  | some k=>rw [hf] at e3; simp only [e3, r16_0, isRet, outR, Option.isSome_some, if_true]
theorem f37_self (a:Int) (l:List SLs) (h:l.length ≤ 1000000):f37 ((a, l, ()), (a, l, ()), ()) = some (true, ()):=by
  have key:l37_0 (((0:Int), ()), (a, l, ()), (a, l, ()), ()) = some (.inl ((), (a, l, ()), (a, l, ()), ())):=by
    refine itr_brk (fun i=>(((i:Int), ()), (a, l, ()), (a, l, ()), ())) (n:=l.length) ?_ ?_ (lt_rounds (by omega))
    · intro i hi
      simp only [s37_0, t37_0, Tr.val_test, Tr.val_fin, leF_eq, Int.toNat_natCast, beq_self_eq_true, Bool.and_self, Bool.not_true, Bool.false_eq_true, if_false, wrap64_nat (show i ≤ 9223372036854775806 by omega)]
      rw [if_pos (by simp; omega), if_pos (by simp; omega), if_pos (by simp; omega)]
    · simp [s37_0, t37_0, leF_eq]
  simp only [f37, t37, Tr.val_test, Tr.val_fin, key, isRet, eqF_eq, decide_true, Bool.not_true, Bool.false_eq_true, if_false, Option.isSome_some, if_true]
theorem l15 (a b:List Int) (hs:List HOs) (h:hs.length ≤ 1000) (hh:∀ i, i < hs.length → (ho hs i).2.1.length ≤ 1000) :
    l15_0 (((0:Int), ()), (a, b, hs, ()), (a, b, hs, ()), ()) = some (.inl ((), (a, b, hs, ()), (a, b, hs, ()), ())):=by
  refine itr_brk (fun i=>(((i:Int), ()), (a, b, hs, ()), (a, b, hs, ()), ())) (n:=hs.length) ?_ ?_ (lt_rounds (by omega))
  · intro i hi
    have e3:hs.getD i (0, [], ()) = ho hs i:=rfl
    have e:=f37_self (ho hs i).1 (ho hs i).2.1 (by have:=hh i hi; omega)
    simp only [s15_0, t15_0, Tr.val_test, Tr.val_fin, leF_eq, Int.toNat_natCast, e3, g37, e, Option.isSome_some, Option.getD_some, if_true, Bool.not_true, Bool.false_eq_true, if_false, wrap64_nat (show i ≤ 9223372036854775806 by omega)]
    rw [if_pos (by simp; omega), if_pos (by simp; omega), if_pos (by simp; omega)]
  · simp [s15_0, t15_0, leF_eq]
theorem f15_self (a b:List Int) (hs:List HOs) (h1:a.length ≤ 1000) (h2:b.length ≤ 1000) (h:hs.length ≤ 1000) (hh:∀ i, i < hs.length → (ho hs i).2.1.length ≤ 1000) :
    f15 ((a, b, hs, ()), (a, b, hs, ()), ()) = some (true, ()):=by
  have e1:=f23_self a (by omega)
  have e2:=f23_self b (by omega)
  have e3:=l15 a b hs h hh
  simp only [f15, t15, Tr.val_test, Tr.val_fin, g23, e1, e2, e3, isRet, eqF_eq, decide_true, Bool.not_true, Bool.false_eq_true, if_false, Option.isSome_some, Option.getD_some, if_true]
end Go.Vm.Mo

namespace Go.Vm.Mo
open Go
set_option linter.unusedVariables false
set_option linter.unusedSimpArgs false
def bK (l:List FLo) (nw bf:List Int) (hs:List HOs) (g:Int) (i:Nat):Int:=wrap64 ((fl l i).1 * wrap64 (wrap64 (wrap64 (np l nw bf hs g i - nv nw i) * wrap64 (np l nw bf hs g i - nv nw i)) - wrap64 (wrap64 (nv nw i - nv bf i) * wrap64 (nv nw i - nv bf i))))
def bS (l:List FLo) (nw bf:List Int) (hs:List HOs) (g:Int) (i:Nat):Int:=wrap64 (PU l hs i * (np l nw bf hs g i - nv bf i))
def bG (l:List FLo) (nw bf:List Int) (hs:List HOs) (g:Int) (i:Nat):Int:=wrap64 (-((fl l i).1 * g * (np l nw bf hs g i - nv bf i)))
def bR (l:List FLo) (nw bf:List Int) (hs:List HOs) (g:Int) (i:Nat):Int:=wrap64 (PU l hs i % (fl l i).1 * (np l nw bf hs g i - nv bf i))
theorem f96_eq (d:Tys.data as96):f96 d = some (wrap64 (d.1.2.2.2.2.2.2.1 - d.1.2.2.2.2.1), ()):=by simp only [f96, t96, Tr.val_fin]
theorem f50_eq (m f r g b n p:Int):f50 ((m, f, r, g, b, n, p, ()), ()) = some (wrap64 (m * wrap64 (wrap64 (wrap64 (p - n) * wrap64 (p - n)) - wrap64 (wrap64 (n - b) * wrap64 (n - b)))), ()):=by
  simp only [f50, t50, Tr.val_fin]
theorem f51_eq (m f r g b n p:Int):f51 ((m, f, r, g, b, n, p, ()), ()) = some (wrap64 (f * (p - b)), ()):=by
  have e:f96 ((m, f, r, g, b, n, p, ()), ()) = some (wrap64 (p - b), ()):=f96_eq _
  simp only [f51, t51, Tr.val_test, Tr.val_fin, g96, e, Option.isSome_some, Option.getD_some, if_true, wrap64_mul_r]
theorem f53_eq (m f r g b n p:Int):f53 ((m, f, r, g, b, n, p, ()), ()) = some (wrap64 (r * (p - b)), ()):=by
  have e:f96 ((m, f, r, g, b, n, p, ()), ()) = some (wrap64 (p - b), ()):=f96_eq _
  simp only [f53, t53, Tr.val_test, Tr.val_fin, g96, e, Option.isSome_some, Option.getD_some, if_true, wrap64_mul_r]
theorem f52_eq (m f r g b n p:Int):f52 ((m, f, r, g, b, n, p, ()), ()) = some (wrap64 (-(m * g * (p - b))), ()):=by
  have e:f96 ((m, f, r, g, b, n, p, ()), ()) = some (wrap64 (p - b), ()):=f96_eq _
  simp only [f52, t52, Tr.val_test, Tr.val_fin, g96, e, Option.isSome_some, Option.getD_some, if_true, ← wrap64_eq, wrap64_mul_r, wrap64_mul_l]
  rw [show (0 - m) * g * (p - b) = -(m * g * (p - b)) by rw [show 0 - m = -m by omega, Int.neg_mul, Int.neg_mul]]
theorem l93_bK (l:List FLo) (nw bf:List Int) (hs:List HOs) (v:VT l nw bf hs) (g:Int) :
    l93_0_1 ((l, (l.length:Int), (0:Int), ()), (), (l, nw, bf, hs, ()), (g, ()), (), ((0:Int), ()), ()) = some (.inl ((), (), (l, nw, bf, hs, ()), (g, ()), (), (acc (bK l nw bf hs g) l.length, ()), ())):=by
  have few:=v.few
  refine itr_brk (fun i=>((l, (l.length:Int), (i:Int), ()), (), (l, nw, bf, hs, ()), (g, ()), (), (acc (bK l nw bf hs g) i, ()), ())) (n:=l.length) ?_ ?_ (lt_rounds (by omega))
  · intro i hi
    have e1:nw.getD i 0 = nv nw i:=rfl
    have e2:bf.getD i 0 = nv bf i:=rfl
    have e4:l.getD i (0, 0, [], ()) = fl l i:=rfl
    have f:=(v.fl_ok hi).1
    have b:=v.PU_bd hi
    have g1:=f94_eq l nw bf hs v i (by omega)
    have g2:=f94_eq l nw bf hs v (i + 1) (by omega)
    have g3:=f95_eq (PU l hs i) (fl l i).1 f.1 (by omega) (by omega) (by omega)
    have e5:wrap64 (SF l hs (i + 1) - SF l hs i) = PU l hs i:=rfl
    have e6:wrap64 (wrap64 (wrap64 (wrap64 (2 * nv nw i) - nv bf i) + PU l hs i / (fl l i).1) - g) = np l nw bf hs g i:=rfl
    have n1:=v.n1
    have n2:=v.n2
    have g4:=f50_eq (fl l i).1 (PU l hs i) (PU l hs i % (fl l i).1) g (nv bf i) (nv nw i) (np l nw bf hs g i)
    simp only [s93_0_1, t93_0_1, Tr.val_test, Tr.val_fin, leF_eq, Int.toNat_natCast, e1, e2, e4, wrap64_nat (show i ≤ 9223372036854775806 by omega), g94, g1, g2, e5, g95, g3, e6, g50, g4, Option.isSome_some, Option.getD_some, if_true, acc]
    rw [if_pos (by simp; omega), if_pos (by simp; omega), if_pos (by simp; omega), if_pos (by simp; omega)]
    rfl
  · simp [s93_0_1, t93_0_1, leF_eq]
theorem l93_bK0 (g:Int):l93_0_1 (([], (0:Int), (0:Int), ()), (), ([], [], [], [], ()), (g, ()), (), ((0:Int), ()), ()) = some (.inl ((), (), ([], [], [], [], ()), (g, ()), (), ((0:Int), ()), ())) :=
  itr_brk (step:=s93_0_1) (fun i=>(([], (0:Int), (i:Int), ()), (), ([], [], [], [], ()), (g, ()), (), ((0:Int), ()), ())) (n:=0) (fun i hi=>by omega) (by simp [s93_0_1, t93_0_1, leF_eq]) (lt_rounds (by omega))
theorem l93_bS (l:List FLo) (nw bf:List Int) (hs:List HOs) (v:VT l nw bf hs) (g:Int) :
    l93_0_2 ((l, (l.length:Int), (0:Int), ()), (), (l, nw, bf, hs, ()), (g, ()), (), ((0:Int), ()), ()) = some (.inl ((), (), (l, nw, bf, hs, ()), (g, ()), (), (acc (bS l nw bf hs g) l.length, ()), ())):=by
  have few:=v.few
  refine itr_brk (fun i=>((l, (l.length:Int), (i:Int), ()), (), (l, nw, bf, hs, ()), (g, ()), (), (acc (bS l nw bf hs g) i, ()), ())) (n:=l.length) ?_ ?_ (lt_rounds (by omega))
  · intro i hi
    have e1:nw.getD i 0 = nv nw i:=rfl
    have e2:bf.getD i 0 = nv bf i:=rfl
    have e4:l.getD i (0, 0, [], ()) = fl l i:=rfl
    have f:=(v.fl_ok hi).1
    have b:=v.PU_bd hi
    have g1:=f94_eq l nw bf hs v i (by omega)
    have g2:=f94_eq l nw bf hs v (i + 1) (by omega)
    have g3:=f95_eq (PU l hs i) (fl l i).1 f.1 (by omega) (by omega) (by omega)
    have e5:wrap64 (SF l hs (i + 1) - SF l hs i) = PU l hs i:=rfl
    have e6:wrap64 (wrap64 (wrap64 (wrap64 (2 * nv nw i) - nv bf i) + PU l hs i / (fl l i).1) - g) = np l nw bf hs g i:=rfl
    have n1:=v.n1
    have n2:=v.n2
    have g4:=f51_eq (fl l i).1 (PU l hs i) (PU l hs i % (fl l i).1) g (nv bf i) (nv nw i) (np l nw bf hs g i)
    simp only [s93_0_2, t93_0_2, Tr.val_test, Tr.val_fin, leF_eq, Int.toNat_natCast, e1, e2, e4, wrap64_nat (show i ≤ 9223372036854775806 by omega), g94, g1, g2, e5, g95, g3, e6, g51, g4, Option.isSome_some, Option.getD_some, if_true, acc]
    rw [if_pos (by simp; omega), if_pos (by simp; omega), if_pos (by simp; omega), if_pos (by simp; omega)]
    rfl
  · simp [s93_0_2, t93_0_2, leF_eq]
theorem l93_bS0 (g:Int):l93_0_2 (([], (0:Int), (0:Int), ()), (), ([], [], [], [], ()), (g, ()), (), ((0:Int), ()), ()) = some (.inl ((), (), ([], [], [], [], ()), (g, ()), (), ((0:Int), ()), ())) :=
  itr_brk (step:=s93_0_2) (fun i=>(([], (0:Int), (i:Int), ()), (), ([], [], [], [], ()), (g, ()), (), ((0:Int), ()), ())) (n:=0) (fun i hi=>by omega) (by simp [s93_0_2, t93_0_2, leF_eq]) (lt_rounds (by omega))
theorem l93_bG (l:List FLo) (nw bf:List Int) (hs:List HOs) (v:VT l nw bf hs) (g:Int) :
    l93_0_3 ((l, (l.length:Int), (0:Int), ()), (), (l, nw, bf, hs, ()), (g, ()), (), ((0:Int), ()), ()) = some (.inl ((), (), (l, nw, bf, hs, ()), (g, ()), (), (acc (bG l nw bf hs g) l.length, ()), ())):=by
  have few:=v.few
  refine itr_brk (fun i=>((l, (l.length:Int), (i:Int), ()), (), (l, nw, bf, hs, ()), (g, ()), (), (acc (bG l nw bf hs g) i, ()), ())) (n:=l.length) ?_ ?_ (lt_rounds (by omega))
  · intro i hi
    have e1:nw.getD i 0 = nv nw i:=rfl
    have e2:bf.getD i 0 = nv bf i:=rfl
    have e4:l.getD i (0, 0, [], ()) = fl l i:=rfl
    have f:=(v.fl_ok hi).1
    have b:=v.PU_bd hi
    have g1:=f94_eq l nw bf hs v i (by omega)
    have g2:=f94_eq l nw bf hs v (i + 1) (by omega)
    have g3:=f95_eq (PU l hs i) (fl l i).1 f.1 (by omega) (by omega) (by omega)
    have e5:wrap64 (SF l hs (i + 1) - SF l hs i) = PU l hs i:=rfl
    have e6:wrap64 (wrap64 (wrap64 (wrap64 (2 * nv nw i) - nv bf i) + PU l hs i / (fl l i).1) - g) = np l nw bf hs g i:=rfl
    have n1:=v.n1
    have n2:=v.n2
    have g4:=f52_eq (fl l i).1 (PU l hs i) (PU l hs i % (fl l i).1) g (nv bf i) (nv nw i) (np l nw bf hs g i)
    simp only [s93_0_3, t93_0_3, Tr.val_test, Tr.val_fin, leF_eq, Int.toNat_natCast, e1, e2, e4, wrap64_nat (show i ≤ 9223372036854775806 by omega), g94, g1, g2, e5, g95, g3, e6, g52, g4, Option.isSome_some, Option.getD_some, if_true, acc]
    rw [if_pos (by simp; omega), if_pos (by simp; omega), if_pos (by simp; omega), if_pos (by simp; omega)]
    rfl
  · simp [s93_0_3, t93_0_3, leF_eq]
theorem l93_bG0 (g:Int):l93_0_3 (([], (0:Int), (0:Int), ()), (), ([], [], [], [], ()), (g, ()), (), ((0:Int), ()), ()) = some (.inl ((), (), ([], [], [], [], ()), (g, ()), (), ((0:Int), ()), ())) :=
  itr_brk (step:=s93_0_3) (fun i=>(([], (0:Int), (i:Int), ()), (), ([], [], [], [], ()), (g, ()), (), ((0:Int), ()), ())) (n:=0) (fun i hi=>by omega) (by simp [s93_0_3, t93_0_3, leF_eq]) (lt_rounds (by omega))
theorem l93_bR (l:List FLo) (nw bf:List Int) (hs:List HOs) (v:VT l nw bf hs) (g:Int) :
    l93_0_4 ((l, (l.length:Int), (0:Int), ()), (), (l, nw, bf, hs, ()), (g, ()), (), ((0:Int), ()), ()) = some (.inl ((), (), (l, nw, bf, hs, ()), (g, ()), (), (acc (bR l nw bf hs g) l.length, ()), ())):=by
  have few:=v.few
  refine itr_brk (fun i=>((l, (l.length:Int), (i:Int), ()), (), (l, nw, bf, hs, ()), (g, ()), (), (acc (bR l nw bf hs g) i, ()), ())) (n:=l.length) ?_ ?_ (lt_rounds (by omega))
  · intro i hi
    have e1:nw.getD i 0 = nv nw i:=rfl
    have e2:bf.getD i 0 = nv bf i:=rfl
    have e4:l.getD i (0, 0, [], ()) = fl l i:=rfl
    have f:=(v.fl_ok hi).1
    have b:=v.PU_bd hi
    have g1:=f94_eq l nw bf hs v i (by omega)
    have g2:=f94_eq l nw bf hs v (i + 1) (by omega)
    have g3:=f95_eq (PU l hs i) (fl l i).1 f.1 (by omega) (by omega) (by omega)
    have e5:wrap64 (SF l hs (i + 1) - SF l hs i) = PU l hs i:=rfl
    have e6:wrap64 (wrap64 (wrap64 (wrap64 (2 * nv nw i) - nv bf i) + PU l hs i / (fl l i).1) - g) = np l nw bf hs g i:=rfl
    have n1:=v.n1
    have n2:=v.n2
    have g4:=f53_eq (fl l i).1 (PU l hs i) (PU l hs i % (fl l i).1) g (nv bf i) (nv nw i) (np l nw bf hs g i)
    simp only [s93_0_4, t93_0_4, Tr.val_test, Tr.val_fin, leF_eq, Int.toNat_natCast, e1, e2, e4, wrap64_nat (show i ≤ 9223372036854775806 by omega), g94, g1, g2, e5, g95, g3, e6, g53, g4, Option.isSome_some, Option.getD_some, if_true, acc]
    rw [if_pos (by simp; omega), if_pos (by simp; omega), if_pos (by simp; omega), if_pos (by simp; omega)]
    rfl
  · simp [s93_0_4, t93_0_4, leF_eq]
theorem l93_bR0 (g:Int):l93_0_4 (([], (0:Int), (0:Int), ()), (), ([], [], [], [], ()), (g, ()), (), ((0:Int), ()), ()) = some (.inl ((), (), ([], [], [], [], ()), (g, ()), (), ((0:Int), ()), ())) :=
  itr_brk (step:=s93_0_4) (fun i=>(([], (0:Int), (i:Int), ()), (), ([], [], [], [], ()), (g, ()), (), ((0:Int), ()), ())) (n:=0) (fun i hi=>by omega) (by simp [s93_0_4, t93_0_4, leF_eq]) (lt_rounds (by omega))
def bal (l:List FLo) (nw bf:List Int) (hs:List HOs) (g:Int):Int×Int×Int×Int×Unit :=
  (acc (bK l nw bf hs g) l.length, acc (bS l nw bf hs g) l.length, acc (bG l nw bf hs g) l.length, acc (bR l nw bf hs g) l.length, ())
theorem f11_eq (l:List FLo) (nw bf:List Int) (hs:List HOs) (g:Int) (h:l.length ≤ 1000) (hl:∀ i, i < l.length → (fl l i).2.2.1.length ≤ 1000) :
    f11 ((l, ()), (nw, bf, hs, ()), g, ()) = some (if sT l nw bf hs (gE g) = 0 then (bal l nw bf hs g, 0, ()) else ((0, 0, 0, 0, ()), sT l nw bf hs (gE g), ())):=by
  have e1:=f46_eq g
  have e2:=f45_eq l nw bf hs [gE g] h hl (by simp)
  have e3:firstNZ [gE g] = gE g:=by simp only [firstNZ]; split <;> simp_all
  rw [e3] at e2
  simp only [f11, t11, Tr.val_test, Tr.val_fin, eqF_eq, g46, e1, g45, e2, Option.isSome_some, Option.getD_some, if_true]
  by_cases h0:sT l nw bf hs (gE g) = 0
  · have v:=VT_of (nz2 h0).1
    have a1:=l93_bK l nw bf hs v g
    have a2:=l93_bS l nw bf hs v g
    have a3:=l93_bG l nw bf hs v g
    have a4:=l93_bR l nw bf hs v g
    simp only [if_pos h0, a1, b93_0_1, a2, b93_0_2, a3, b93_0_3, a4, b93_0_4, isBrk, outB, if_true, bal]
  · have a1:=l93_bK0 g
    have a2:=l93_bS0 g
    have a3:=l93_bG0 g
    have a4:=l93_bR0 g
    simp only [if_neg h0, List.length_nil, Int.natCast_zero, a1, b93_0_1, a2, b93_0_2, a3, b93_0_3, a4, b93_0_4, isBrk, outB, if_true]
theorem l17 (l:List FLo) (nw bf:List Int) (hs:List HOs) (v:VT l nw bf hs) (g:Int) :
    l17_0 ((g, NP l nw bf hs g, (0:Int), ()), (l, ()), (nw, bf, hs, ()), ((0:Int), (0:Int), (0:Int), (0:Int), ()), ((0:Int), (0:Int), (0:Int), (0:Int), ()), ()) =
      some (.inl ((), (l, ()), (nw, bf, hs, ()), ((0:Int), (0:Int), (0:Int), (0:Int), ()), bal l nw bf hs g, ())):=by
  have few:=v.few
  refine itr_brk (fun i=>((g, NP l nw bf hs g, (i:Int), ()), (l, ()), (nw, bf, hs, ()), ((0:Int), (0:Int), (0:Int), (0:Int), ()), (acc (bK l nw bf hs g) i, acc (bS l nw bf hs g) i, acc (bG l nw bf hs g) i, acc (bR l nw bf hs g) i, ()), ())) (n:=l.length) ?_ ?_ (lt_rounds (by omega))
  · intro i hi
    have e0:(NP l nw bf hs g).getD i 0 = np l nw bf hs g i:=NP_get hi
    have e1:nw.getD i 0 = nv nw i:=rfl
    have e2:bf.getD i 0 = nv bf i:=rfl
    have e4:l.getD i (0, 0, [], ()) = fl l i:=rfl
    have f:=(v.fl_ok hi).1
    have b:=v.PU_bd hi
    have g1:=f62_eq l nw bf hs v i hi
    have g3:=f63_eq (PU l hs i) (fl l i).1 f.1 (by omega)
    have n1:=v.n1
    have n2:=v.n2
    have n4:=NP_len l nw bf hs g
    have w1:wrap64 (wrap64 (np l nw bf hs g i - nv nw i) + wrap64 (nv nw i - nv bf i)) = wrap64 (np l nw bf hs g i - nv bf i):=by
      rw [wrap64_add_l, wrap64_add_r]; congr 1; omega
    have hln:decide (((NP l nw bf hs g).length:Int) ≤ (i:Int)) = false:=dF (by omega)
    simp only [s17_0, t17_0, Tr.val_test, Tr.val_fin, leF_eq, Int.toNat_natCast, e0, e1, e2, e4, hln, Bool.not_false, wrap64_nat (show i ≤ 9223372036854775806 by omega), g62, g1, g63, g3, w1, Option.isSome_some, Option.getD_some, if_true, acc]
    rw [if_pos (by simp; omega), if_pos (by simp; omega), if_pos (by simp; omega), if_pos (by simp; omega)]
    have k1:wrap64 (acc (bS l nw bf hs g) i + wrap64 (PU l hs i * wrap64 (np l nw bf hs g i - nv bf i))) = wrap64 (acc (bS l nw bf hs g) i + bS l nw bf hs g i):=by unfold bS; rw [wrap64_mul_r]
    have k2:wrap64 (acc (bR l nw bf hs g) i + wrap64 (PU l hs i % (fl l i).1 * wrap64 (np l nw bf hs g i - nv bf i))) = wrap64 (acc (bR l nw bf hs g) i + bR l nw bf hs g i):=by unfold bR; rw [wrap64_mul_r]
    have k3:wrap64 (acc (bG l nw bf hs g) i - wrap64 (wrap64 ((fl l i).1 * g) * wrap64 (np l nw bf hs g i - nv bf i))) = wrap64 (acc (bG l nw bf hs g) i + bG l nw bf hs g i):=by
      unfold bG; rw [wrap64_mul_r, wrap64_mul_l, wrap64_sub_r, wrap64_add_r, Int.sub_eq_add_neg]
    have k4:wrap64 ((fl l i).1 * wrap64 (wrap64 (wrap64 (np l nw bf hs g i - nv nw i) * wrap64 (np l nw bf hs g i - nv nw i)) - wrap64 (wrap64 (nv nw i - nv bf i) * wrap64 (nv nw i - nv bf i)))) = bK l nw bf hs g i:=rfl
    rw [k1, k2, k3, k4]
  · simp [s17_0, t17_0, leF_eq, NP_len]; rfl
theorem f17_eq (l:List FLo) (nw bf:List Int) (hs:List HOs) (v:VT l nw bf hs) (g:Int):f17 ((l, ()), (nw, bf, hs, ()), g, ()) = some (bal l nw bf hs g, ()):=by
  have e1:=f60_eq l nw bf hs v g
  have e2:=l17 l nw bf hs v g
  simp only [f17, t17, Tr.val_test, Tr.val_fin, g60, e1, e2, b17_0, isBrk, outB, Option.isSome_some, Option.getD_some, if_true, bal]
end Go.Vm.Mo

namespace Go.Vm.Mo
open Go
set_option linter.unusedVariables false
set_option linter.unusedSimpArgs false
theorem l30 (l:List FLo) (nw bf:List Int) (hs:List HOs) (g:Int) (h:hs.length ≤ 1000) :
    l3_0 ((g, (0:Int), ()), (l, ()), (nw, bf, hs, ()), ()) = match first (fun i=>!decide ((ho hs i).2.1.length ≤ 6)) hs.length 0 with
      | some _=>some (.inr ((true, ()), (l, ()), (nw, bf, hs, ()), ()))
      | none=>some (.inl ((g, ()), (l, ()), (nw, bf, hs, ()), ())):=by
  refine itr_search (fun i=>((g, (i:Int), ()), (l, ()), (nw, bf, hs, ()), ())) (fun i=>!decide ((ho hs i).2.1.length ≤ 6)) (fun _=>((true, ()), (l, ()), (nw, bf, hs, ()), ())) (n:=hs.length) ?_ ?_ (lt_rounds (by omega))
  · intro i hi
    have hh:hs.getD i (0, [], ()) = ho hs i:=rfl
    simp only [s3_0, t3_0, Tr.val_test, Tr.val_fin, leF_eq, Int.toNat_natCast, wrap64_nat (show i ≤ 9223372036854775806 by omega), hh]
    rw [if_pos (by simp; omega), if_pos (by simp; omega)]
    by_cases h6:(ho hs i).2.1.length ≤ 6
    · rw [dT h6, dT (show (((ho hs i).2.1.length:Nat):Int) ≤ 6 by omega)]
    · rw [dF h6, dF (show ¬ (((ho hs i).2.1.length:Nat):Int) ≤ 6 by omega)]
  · simp [s3_0, t3_0, leF_eq]
theorem f15_new (l:List FLo) (nw bf:List Int) (hs:List HOs) (v:VT l nw bf hs) (g:Int) :
    f15 ((NP l nw bf hs g, nw, lst (MH l hs (NP l nw bf hs g)) l.length, ()), (NP l nw bf hs g, nw, lst (MH l hs (NP l nw bf hs g)) l.length, ()), ()) = some (true, ()):=by
  have few:=v.few
  have n1:=v.n1
  refine f15_self _ _ _ (by rw [NP_len]; omega) (by omega) (by rw [lst_len]; omega) fun i hi=>?_
  rw [lst_len] at hi
  have e:ho (lst (MH l hs (NP l nw bf hs g)) l.length) i = MH l hs (NP l nw bf hs g) i:=lst_get _ _ hi
  have hc:=v.cs_ok hi
  rw [e]
  show (lst _ _).length ≤ 1000
  rw [lst_len]; omega
theorem sT_of (l:List FLo) (nw bf:List Int) (hs:List HOs) (e:Int):sT l nw bf hs e = if (cFT l nw bf hs).2.1 = 0 then e else (cFT l nw bf hs).2.1:=by
  unfold sT
  simp only [firstNZ]
  split
  · split <;> simp_all
  · rfl
theorem f3_all (l:List FLo) (nw bf:List Int) (hs:List HOs) (g:Int):f3 ((l, ()), (nw, bf, hs, ()), g, ()) = some (true, ()):=by
  have e6:=f6_eq l
  simp only [f3, t3, Tr.val_test, Tr.val_fin, g6, e6, leF_eq, eqF_eq, Option.isSome_some, Option.getD_some, if_true]
  rcases Bool.eq_false_or_eq_true (fewB l) with hb | hb
  · obtain ⟨h7, h6⟩:=fewB_iff hb
    by_cases hn:(nw.length:Int) ≤ 7
    · by_cases hbf:(bf.length:Int) ≤ 7
      · by_cases hh:(hs.length:Int) ≤ 7
        · have e30:=l30 l nw bf hs g (by omega)
          simp only [hb, dT hn, dT hbf, dT hh, Bool.not_true, Bool.false_eq_true, if_false]
          cases hf:first (fun i=>!decide ((ho hs i).2.1.length ≤ 6)) hs.length 0 with
          | some k=>rw [hf] at e30; simp only [e30, r3_0, outR, isRet, Option.isSome_some, if_true]
          | none =>
            rw [hf] at e30
            have h66:∀ i, i < hs.length → (ho hs i).2.1.length ≤ 6:=fun i hi=>by simpa using first_none hf i (by omega) (by omega)
            have e8:=f8_eq l (by omega) (fun i hi=>by have:=h6 i hi; omega)
            have e9:=f9_eq nw bf hs (by omega) (by omega) (by omega) (fun i hi=>by have:=h66 i hi; omega)
            have e7:=f7_eq l nw bf hs (by omega) (fun i hi=>by have:=h6 i hi; omega)
            have e10:=f10_eq l nw bf hs g (by omega) (fun i hi=>by have:=h6 i hi; omega)
            have e11:=f11_eq l nw bf hs g (by omega) (fun i hi=>by have:=h6 i hi; omega)
            have e12:=f12_eq l (by omega) (fun i hi=>by have:=h6 i hi; omega)
            have e14:=f14_eq g
            have e15:=f15_self [] [] [] (by simp) (by simp) (by simp) (by simp)
            rw [sT_of] at e10 e11
            simp only [e30, b3_0, outB, isRet, Option.isSome_some, Option.getD_some, if_true, Bool.false_eq_true, if_false, g8, e8, g9, e9, g7, e7, g10, e10, g11, e11, g12, e12]
            by_cases hc:(cF l).2.1 = 0
            · have hft:cFT l nw bf hs = cT l nw bf hs:=by unfold cFT; rw [if_pos hc]
              have e13:=f13_eq l nw bf hs hc
              simp only [hft, dT hc, if_true, g13, e13, Option.isSome_some, Option.getD_some, decide_true, Bool.not_true, Bool.false_eq_true, if_false]
              by_cases ht:(cT l nw bf hs).2.1 = 0
              · have v:=VT_of (show (cFT l nw bf hs).2.1 = 0 by rw [hft]; exact ht)
                simp only [dT ht, if_pos ht, if_true, g14, e14, Option.isSome_some, Option.getD_some]
                by_cases hg:gE g = 0
                · have hg2:=gE_zero hg
                  have e16:=f16_eq l nw bf hs v g hg2
                  have e17:=f17_eq l nw bf hs v g
                  simp only [dT hg, if_pos hg, Bool.not_true, Bool.false_eq_true, if_false, g16, e16, g17, e17, Option.isSome_some, Option.getD_some, if_true, decide_true, beq_self_eq_true, Bool.and_self, stp]
                  cases hd:first (bD l (NP l nw bf hs g)) l.length 0 with
                  | none =>
                    have en:=f15_new l nw bf hs v g
                    simp only [show decide ((0:Int) ≤ -1) = false from rfl, decide_true, Bool.false_eq_true, if_false, if_true, g15, en, Option.isSome_some, Option.getD_some]
                  | some k =>
                    simp only [dT (show (0:Int) ≤ (k:Int) by omega), decide_true, if_true, g15, e15, Option.isSome_some, Option.getD_some]
                · simp only [dF hg, if_neg hg, Bool.not_false, if_true, decide_true, g15, e15, Option.isSome_some, Option.getD_some, beq_self_eq_true, Bool.and_self]
              · simp only [dF ht, if_neg ht, Bool.false_eq_true, if_false, decide_true, if_true, g15, e15, Option.isSome_some, Option.getD_some, beq_self_eq_true, Bool.and_self]
            · have hft:cFT l nw bf hs = cF l:=by unfold cFT; rw [if_neg hc]
              simp only [hft, dF hc, if_neg hc, Bool.false_eq_true, if_false, decide_true, Bool.not_true, if_true, g15, e15, Option.isSome_some, Option.getD_some, beq_self_eq_true, Bool.and_self]
        · simp only [hb, dT hn, dT hbf, dF hh, Bool.not_true, Bool.not_false, Bool.false_eq_true, if_false, if_true]
      · simp only [hb, dT hn, dF hbf, Bool.not_true, Bool.not_false, Bool.false_eq_true, if_false, if_true]
    · simp only [hb, dF hn, Bool.not_true, Bool.not_false, Bool.false_eq_true, if_false, if_true]
  · simp only [hb, Bool.not_false, if_true]
theorem law3 (d:Tys.data as3) (hw:Tys.Wf as3 d):Pure1 Go.Proofs.Tryz.prog 3 as3 [.bool] d (true, ()):=by
  have h:=f3_all d.1.1 d.2.1.1 d.2.1.2.1 d.2.1.2.2.1 d.2.2.1
  have hp:p3.pre d = true:=by
    show Option.isSome (f3 d) = true
    rw [show f3 d = some (true, ()) from h]; rfl
  have hg:p3.fn d = (true, ()):=by
    show (f3 d).getD _ = _
    rw [show f3 d = some (true, ()) from h]; rfl
  have:=ok3.runs d hp
  rw [hg] at this
  exact this
end Go.Vm.Mo
