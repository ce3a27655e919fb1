import Derived.Test.YtlaojojnembodaaRsFc
import Derived.Test.YtlaojojnembodaaA5
set_option linter.unusedVariables false
set_option linter.unusedSimpArgs false

namespace Go.Vm.Mo
open Go
set_option linter.unusedVariables false
set_option linter.unusedSimpArgs false
theorem dT {p:Prop} [Decidable p] (h:p):decide p = true:=decide_eq_true h
theorem dF {p:Prop} [Decidable p] (h:¬ p):decide p = false:=decide_eq_false h
theorem nT {p:Prop} [Decidable p] (h:¬ p):(!decide p) = true:=by rw [decide_eq_false h]; rfl
theorem nF {p:Prop} [Decidable p] (h:p):(!decide p) = false:=by rw [decide_eq_true h]; rfl
theorem dA {p q:Prop} [Decidable p] [Decidable q] (h:p) (k:q):(decide p && decide q) = true:=by rw [decide_eq_true h, decide_eq_true k]; rfl
theorem first_map (bad:Nat → Bool):∀ (n i:Nat), first bad n (i + 1) = (first (fun k=>bad (k + 1)) n i).map (· + 1)
  | 0, _=>rfl
  | n + 1, i=>by
    simp only [first]
    split
    · rfl
    · exact first_map bad n (i + 1)
def firstNZ:List Int → Int
  | []=>0
  | a :: l=>if a = 0 then firstNZ l else a
theorem firstNZ_eq:∀ l:List Int, (match first (fun i=>!decide (l.getD i 0 = 0)) l.length 0 with
    | some k=>l.getD k 0
    | none=>0) = firstNZ l
  | []=>rfl
  | a :: l=>by
    simp only [List.length, first, firstNZ]
    by_cases ha:a = 0
    · subst ha
      have e:=firstNZ_eq l
      have hf:first (fun i=>!decide (((0:Int) :: l).getD i 0 = 0)) l.length (0 + 1) = (first (fun i=>!decide (l.getD i 0 = 0)) l.length 0).map (· + 1):=by
        rw [first_map]; rfl
      simp only [hf, List.getD_cons_zero, decide_true, Bool.not_true, Bool.false_eq_true, if_false, if_true]
      rw [← e]
      cases first (fun i=>!decide (l.getD i 0 = 0)) l.length 0 with
      | none=>rfl
      | some k=>rfl
    · simp [ha]
theorem l73 (l:List Int) (h:l.length ≤ 1000000000):l73_0 ((l, (l.length:Int), (0:Int), ()), ()) = match first (fun i=>!decide (l.getD i 0 = 0)) l.length 0 with
    | some k=>some (.inr ((l.getD k 0, ()), ()))
    | none=>some (.inl ((), ())):=by
  refine itr_search (fun i=>((l, (l.length:Int), (i:Int), ()), ())) (fun i=>!decide (l.getD i 0 = 0)) (fun k=>((l.getD k 0, ()), ())) (n:=l.length) ?_ ?_ (lt_rounds (by omega))
  · intro i hi
    simp only [s73_0, t73_0, Tr.val_test, leF_eq, eqF_eq]
    rw [if_pos (by simp; omega), if_pos (by simp; omega)]
    simp only [Int.toNat_natCast, wrap64_nat (show i ≤ 9223372036854775806 by omega)]
    rfl
  · simp [s73_0, t73_0, leF_eq]
theorem f73_eq (l:List Int) (h:l.length ≤ 1000000000):f73 (l, ()) = some (firstNZ l, ()):=by
  simp only [f73, t73, Tr.val_test, r73_0, l73 l h, ← firstNZ_eq l]
  cases first (fun i=>!decide (l.getD i 0 = 0)) l.length 0 with
  | none=>rfl
  | some k=>rfl
theorem f74_eq (d:Tys.data as74):f74 d = some (if d.1 = true then d.2.1 else (0:Int), ()):=by
  simp only [f74, t74, Tr.val_test]
  split <;> rfl
def wi (lo hi x:Int):Bool:=decide (lo ≤ x) && decide (x ≤ hi)
theorem wi_iff {lo hi x:Int}:wi lo hi x = true ↔ lo ≤ x ∧ x ≤ hi:=by simp [wi]
theorem f40_eq (d:Tys.data as40):f40 d = some (wi d.2.1 d.2.2.1 d.1, ()):=by
  simp only [f40, t40, Tr.val_test, Tr.val_fin, leF_eq, decide_eq_true_eq, wi]
  split <;> simp [*]
theorem l72 (lo hi:Int) (l:List Int) (h:l.length ≤ 1000000000):l72_0 ((lo, hi, l, (l.length:Int), (0:Int), ()), ()) = match first (fun i=>!wi lo hi (l.getD i 0)) l.length 0 with
    | some _=>some (.inr ((false, ()), ()))
    | none=>some (.inl ((), ())):=by
  refine itr_search (fun i=>((lo, hi, l, (l.length:Int), (i:Int), ()), ())) (fun i=>!wi lo hi (l.getD i 0)) (fun _=>((false, ()), ())) (n:=l.length) ?_ ?_ (lt_rounds (by omega))
  · intro i hi'
    simp only [s72_0, t72_0, Tr.val_test, Tr.val_fin, leF_eq, Int.toNat_natCast, wrap64_nat (show i ≤ 9223372036854775806 by omega)]
    rw [if_pos (by simp; omega), if_pos (by simp; omega)]
    by_cases a0:lo ≤ l.getD i 0
    · by_cases a1:l.getD i 0 ≤ hi
      · simp only [wi, a0, a1, decide_true, Bool.and_self, Bool.not_true, if_true, if_false, Bool.false_eq_true]
      · simp only [wi, a0, a1, decide_true, decide_false, Bool.and_false, Bool.not_false, Bool.not_true, if_true, if_false, Bool.false_eq_true]
    · simp only [wi, a0, decide_false, Bool.false_and, Bool.not_false, if_true, if_false, Bool.false_eq_true]
  · simp [s72_0, t72_0, leF_eq]
theorem f72_eq (lo hi:Int) (l:List Int) (h:l.length ≤ 1000000000):f72 (lo, hi, l, ()) = some ((first (fun i=>!wi lo hi (l.getD i 0)) l.length 0).isNone, ()):=by
  have hl:=l72 lo hi l h
  cases hf:first (fun i=>!wi lo hi (l.getD i 0)) l.length 0 with
  | none =>
    rw [hf] at hl
    simp only [f72, t72, Tr.val_test, Tr.val_fin, hl, isRet, Option.isSome_some, Option.isNone_none, if_true, Bool.false_eq_true, if_false]
  | some k =>
    rw [hf] at hl
    simp only [f72, t72, Tr.val_test, Tr.val_fin, hl, isRet, r72_0, outR, Option.isSome_some, Option.isNone_some, if_true]
theorem f72_one (lo hi a:Int):f72 (lo, hi, [a], ()) = some (wi lo hi a, ()):=by
  rw [f72_eq lo hi _ (by simp)]
  simp only [first, List.length, List.getD_cons_zero]
  by_cases h1:wi lo hi a = true
  · simp [h1]
  · simp [h1]
theorem f72_two (lo hi a b:Int):f72 (lo, hi, [a, b], ()) = some (wi lo hi a && wi lo hi b, ()):=by
  rw [f72_eq lo hi _ (by simp)]
  simp only [first, List.length, List.getD_cons_zero, List.getD_cons_succ]
  by_cases h1:wi lo hi a = true
  · by_cases h2:wi lo hi b = true
    · simp [h1, h2]
    · simp [h1, h2]
  · simp [h1]
theorem wn64 {x:Int} (h1:-9223372036854775807 ≤ x) (h2:x ≤ 9223372036854775807):IntKind.wrap .i64 (0 - x) = -x:=by
  rw [← wrap64_eq, wrap64_id (by omega) (by omega)]
  omega
theorem isSome_first {bad:Nat → Bool} {n:Nat}:(first bad n 0).isSome = true ↔ ∃ i, i < n ∧ bad i = true:=by
  cases h:first bad n 0 with
  | none =>
    simp only [Option.isSome_none, Bool.false_eq_true, false_iff]
    rintro ⟨i, hi, hb⟩
    rw [first_none h i (by omega) (by omega)] at hb; cases hb
  | some k =>
    obtain ⟨_, h2, h3, _⟩:=first_some h
    simp only [Option.isSome_some, true_iff]
    exact ⟨k, by omega, h3⟩
theorem isNone_first {bad:Nat → Bool} {n:Nat}:(first bad n 0).isNone = true ↔ ∀ i, i < n → bad i = false:=by
  cases h:first bad n 0 with
  | none =>
    simp only [Option.isNone_none, true_iff]
    exact fun i hi=>first_none h i (by omega) (by omega)
  | some k =>
    obtain ⟨_, h2, h3, _⟩:=first_some h
    simp only [Option.isNone_some, Bool.false_eq_true, false_iff]
    intro hb
    rw [hb k (by omega)] at h3; cases h3
def firstE (e:Nat → Int) (n:Nat):Int:=match first (fun i=>!decide (e i = 0)) n 0 with
  | some k=>e k
  | none=>0
theorem firstE_zero {e:Nat → Int} {n:Nat} (h:firstE e n = 0):∀ i, i < n → e i = 0:=by
  intro i hi
  unfold firstE at h
  cases hf:first (fun i=>!decide (e i = 0)) n 0 with
  | none=>simpa using first_none hf i (by omega) (by omega)
  | some k =>
    rw [hf] at h
    obtain ⟨_, _, k3, _⟩:=first_some hf
    have h:e k = 0:=h
    simp [h] at k3
theorem firstE_of {e:Nat → Int} {n:Nat} (h:∀ i, i < n → e i = 0):firstE e n = 0:=by
  unfold firstE
  rw [first_of_none fun i _ hi=>by simp [h i (by omega)]]
theorem f73_two (a b:Int):f73 ([a, b], ()) = some (firstNZ [a, b], ()):=f73_eq _ (by simp)
theorem f73_three (a b c:Int):f73 ([a, b, c], ()) = some (firstNZ [a, b, c], ()):=f73_eq _ (by simp)
theorem nz2 {a b:Int} (h:firstNZ [a, b] = 0):a = 0 ∧ b = 0:=by
  simp only [firstNZ] at h
  by_cases ha:a = 0
  · rw [if_pos ha] at h
    by_cases hb:b = 0
    · exact ⟨ha, hb⟩
    · rw [if_neg hb] at h; exact absurd h hb
  · rw [if_neg ha] at h; exact absurd h ha
def acc (F:Nat → Int):Nat → Int
  | 0=>0
  | n + 1=>wrap64 (acc F n + F n)
theorem acc_congr {F G:Nat → Int}:∀ {n:Nat}, (∀ i, i < n → F i = G i) → acc F n = acc G n
  | 0, _=>rfl
  | n + 1, h=>by simp only [acc]; rw [acc_congr fun i hi=>h i (by omega), h n (by omega)]
theorem acc_in (F:Nat → Int):∀ n, wrap64 (acc F n) = acc F n
  | 0=>by show wrap64 0 = 0; decide
  | n + 1=>wrap64_wrap64 _
theorem acc_zero {F:Nat → Int} {n:Nat} (h:F n = 0):acc F (n + 1) = acc F n:=by
  simp only [acc, h, Int.add_zero]; exact acc_in F n
def sz (x:Int):Int:=if x < -x then -x else x
theorem f86_eq (x:Int) (h:-9223372036854775807 ≤ x) (h2:x ≤ 9223372036854775807):f86 (x, ()) = some (sz x, ()):=by
  simp only [f86, t86, Tr.val_fin, wn64 h h2, sz]
theorem f119_eq (x:Int) (h:-9223372036854775807 ≤ x) (h2:x ≤ 9223372036854775807):f119 (x, ()) = some (sz x, ()):=by
  simp only [f119, t119, Tr.val_fin, wn64 h h2, sz]
theorem sz_gt {x y:Int}:(!leF (sz x) y) = !wi (-y) y x:=by
  rw [leF_eq]
  unfold wi sz
  by_cases hx:x < -x
  · rw [if_pos hx]
    by_cases h1:-x ≤ y
    · rw [dT h1, dT (show -y ≤ x by omega), dT (show x ≤ y by omega)]; rfl
    · rw [dF h1, dF (show ¬ -y ≤ x by omega)]; rfl
  · rw [if_neg hx]
    by_cases h1:x ≤ y
    · rw [dT h1, dT (show -y ≤ x by omega)]; rfl
    · rw [dF h1, Bool.and_false]
theorem sz_le {x y:Int}:leF (sz x) y = wi (-y) y x:=by
  have:=sz_gt (x:=x) (y:=y)
  cases h1:leF (sz x) y <;> cases h2:wi (-y) y x <;> simp_all
theorem f126_one (b x:Int) (h0:0 ≤ b) (h1:b ≤ 9223372036854775807):f126 (b, [x], ()) = some (!wi (-b) b x, ()):=by
  have e:=f72_one (-b) b x
  simp only [f126, t126, Tr.val_test, Tr.val_fin, g72, wn64 (show -9223372036854775807 ≤ b by omega) h1, e, Option.isSome_some, Option.getD_some, if_true]
theorem f74_if (b:Bool) (e:Int):f74 (b, e, ()) = some (if b = true then e else 0, ()):=f74_eq _
def pE (x:Int):Int:=if wi (-10000) 10000 x = true then 0 else 2
theorem pE_if (x:Int):(if (!wi (-10000) 10000 x) = true then (2:Int) else 0) = pE x:=by
  unfold pE
  cases wi (-10000) 10000 x <;> rfl
theorem f110_one (b x:Int) (h0:0 ≤ b) (h1:b ≤ 9223372036854775807):f110 (b, [x], ()) = some (if (!wi (-b) b x) = true then (2:Int) else 0, ()):=by
  have e:=f126_one b x h0 h1
  have e2:=f74_if (!wi (-b) b x) 2
  simp only [f110, t110, Tr.val_test, Tr.val_fin, g126, g74, e, e2, Option.isSome_some, Option.getD_some, if_true]
theorem f91_eq (x:Int):f91 (x, ()) = some (pE x, ()):=by
  have e:=f110_one 10000 x (by decide) (by decide)
  rw [pE_if] at e
  simp only [f91, t91, Tr.val_test, Tr.val_fin, g110, e, Option.isSome_some, Option.getD_some, if_true]
theorem f40_wi (lo hi x:Int):f40 (x, lo, hi, ()) = some (wi lo hi x, ()):=f40_eq _
theorem f32_eq (x:Int):f32 (x, ()) = some (pE x, ()):=by
  have e:=f40_wi (-10000) 10000 x
  simp only [f32, t32, Tr.val_test, Tr.val_fin, g40, e, Option.isSome_some, Option.getD_some, if_true, pE]
  cases wi (-10000) 10000 x <;> rfl
theorem f127_eq (d:Tys.data as127):f127 d = some (wrap64 (d.1.2.2.1 - d.1.2.1.1), ()):=by
  simp only [f127, t127, Tr.val_fin]
theorem f22_eq (l:List (Int×Int×Bool×Unit)) (h:l.length ≤ 100000):f22 (l, ()) = some (l, ()):=by
  simp only [f22, t22, Tr.val_test, Tr.val_fin, List.nil_append]
  rw [if_pos (by simp only [Bool.and_eq_true, ble_eq_true']; omega)]
theorem f24_eq (a:Int) (l:List (Int×Bool×Unit)) (h:l.length ≤ 100000):f24 ((a, l, ()), ()) = some ((a, l, ()), ()):=by
  simp only [f24, t24, Tr.val_test, Tr.val_fin, List.nil_append]
  rw [if_pos (by simp only [Bool.and_eq_true, ble_eq_true']; omega)]
def el (l:List (Int×Int×Bool×Unit)) (i:Nat):Int×Int×Bool×Unit:=l.getD i (0, 0, false, ())
def sl (l:List (Int×Bool×Unit)) (i:Nat):Int×Bool×Unit:=l.getD i (0, false, ())
def eE (l:List (Int×Int×Bool×Unit)) (i:Nat):Int:=if (wi 1 1000 (el l i).1 && wi 1 1000 (el l i).2.1) = true then 0 else 2
theorem l89 (l:List (Int×Int×Bool×Unit)) (h:l.length ≤ 1000000):l89_0 ((l, (l.length:Int), (0:Int), ()), ()) = match first (fun i=>!decide (eE l i = 0)) l.length 0 with
    | some k=>some (.inr (((k:Int), eE l k, ()), ()))
    | none=>some (.inl ((), ())):=by
  refine itr_search (fun i=>((l, (l.length:Int), (i:Int), ()), ())) (fun i=>!decide (eE l i = 0)) (fun k=>(((k:Int), eE l k, ()), ())) (n:=l.length) ?_ ?_ (lt_rounds (by omega))
  · intro i hi
    have e1:=f72_two 1 1000 (el l i).1 (el l i).2.1
    have e2:=f74_if (!(wi 1 1000 (el l i).1 && wi 1 1000 (el l i).2.1)) 2
    simp only [el] at e1 e2
    simp only [s89_0, t89_0, Tr.val_test, leF_eq, eqF_eq, Int.toNat_natCast, g72, g74, e1, e2, Option.isSome_some, Option.getD_some, if_true, wrap64_nat (show i ≤ 9223372036854775806 by omega)]
    rw [if_pos (by simp; omega), if_pos (by simp; omega)]
    simp only [eE, el]
    rcases Bool.eq_false_or_eq_true (wi 1 1000 (l.getD i (0, 0, false, ())).1 && wi 1 1000 (l.getD i (0, 0, false, ())).2.1) with hb | hb <;> simp only [hb] <;> rfl
  · simp [s89_0, t89_0, leF_eq]
def cE (most:Nat) (n:Nat) (e:Nat → Int):Int×Int×Unit :=
  if n = 0 then (0, 10, ()) else if most < n then (0, 8, ()) else match first (fun i=>!decide (e i = 0)) n 0 with
    | some k=>((k:Int), e k, ())
    | none=>(0, 0, ())
def cS (l:List (Int×Int×Bool×Unit)):Int×Int×Unit:=cE 4 l.length (eE l)
theorem f88_eq (n m:Nat):f88 ((n:Int), (m:Int), ()) = some (if n = 0 then 10 else if m < n then 8 else 0, ()):=by
  have e1:=f74_if (decide ((n:Int) = 0)) 10
  have e2:=f74_if (!decide ((n:Int) ≤ (m:Int))) 8
  have e3:=f73_two
  simp only [f88, t88, Tr.val_test, Tr.val_fin, eqF_eq, leF_eq, g74, g73, e1, e2, e3, Option.isSome_some, Option.getD_some, if_true]
  by_cases h0:n = 0
  · subst h0; simp [firstNZ]
  · by_cases h1:m < n
    · rw [if_neg h0, if_pos h1, dF (show ¬ (n:Int) = 0 by omega), dF (show ¬ (n:Int) ≤ (m:Int) by omega)]; simp [firstNZ]
    · rw [if_neg h0, if_neg h1, dF (show ¬ (n:Int) = 0 by omega), dT (show (n:Int) ≤ (m:Int) by omega)]; simp [firstNZ]
theorem f21_eq (l:List (Int×Int×Bool×Unit)) (h:l.length ≤ 1000000):f21 (l, ()) = some (cS l):=by
  have e1:f88 ((l.length:Int), (4:Int), ()) = _:=f88_eq l.length 4
  have e2:=l89 l h
  simp only [f21, t21, Tr.val_test, Tr.val_fin, eqF_eq, g88, e1, e2, Option.isSome_some, Option.getD_some, if_true, cS, cE, r89_0]
  by_cases h0:l.length = 0
  · simp only [if_pos h0]; rfl
  · simp only [if_neg h0]
    by_cases h1:4 < l.length
    · simp only [if_pos h1]; rfl
    · simp only [if_neg h1]
      cases first (fun i=>!decide (eE l i = 0)) l.length 0 with
      | none=>rfl
      | some k=>rfl
theorem l30 (l:List (Int×Int×Bool×Unit)) (h:l.length ≤ 1000000):l30_0 ((l, (0:Int), ()), ()) = match first (fun i=>!decide (eE l i = 0)) l.length 0 with
    | some k=>some (.inr (((k:Int), eE l k, ()), ()))
    | none=>some (.inl ((), ())):=by
  refine itr_search (fun i=>((l, (i:Int), ()), ())) (fun i=>!decide (eE l i = 0)) (fun k=>(((k:Int), eE l k, ()), ())) (n:=l.length) ?_ ?_ (lt_rounds (by omega))
  · intro i hi
    have e1:=f40_wi 1 1000 (el l i).1
    have e2:=f40_wi 1 1000 (el l i).2.1
    simp only [el] at e1 e2
    simp only [s30_0, t30_0, Tr.val_test, leF_eq, eqF_eq, Int.toNat_natCast, g40, e1, e2, Option.isSome_some, Option.getD_some, if_true, wrap64_nat (show i ≤ 9223372036854775806 by omega)]
    rw [if_pos (by simp; omega), if_pos (by simp; omega)]
    simp only [eE, el]
    rcases Bool.eq_false_or_eq_true (wi 1 1000 (l.getD i (0, 0, false, ())).1) with hb | hb <;> rcases Bool.eq_false_or_eq_true (wi 1 1000 (l.getD i (0, 0, false, ())).2.1) with hc | hc <;> simp only [hb, hc] <;> rfl
  · simp [s30_0, t30_0, leF_eq]
theorem f30_eq (l:List (Int×Int×Bool×Unit)) (h:l.length ≤ 1000000):f30 (l, ()) = some (cS l):=by
  have e2:=l30 l h
  simp only [f30, t30, Tr.val_test, Tr.val_fin, eqF_eq, leF_eq, e2, Option.isSome_some, Option.getD_some, if_true, cS, cE, r30_0]
  by_cases h0:l.length = 0
  · rw [if_pos h0, if_pos (by simp [h0])]
  · rw [if_neg h0, if_neg (by simpa using h0)]
    by_cases h1:4 < l.length
    · rw [if_pos h1, if_pos (by simp; omega)]
    · rw [if_neg h1, if_neg (by simp; omega)]
      cases first (fun i=>!decide (eE l i = 0)) l.length 0 with
      | none=>rfl
      | some k=>rfl
theorem cE_zero {m n:Nat} {e:Nat → Int} (h:(cE m n e).2.1 = 0):0 < n ∧ n ≤ m ∧ ∀ i, i < n → e i = 0:=by
  unfold cE at h
  split at h
  · cases h
  · split at h
    · cases h
    · refine ⟨by omega, by omega, fun i hi=>?_⟩
      cases hf:first (fun i=>!decide (e i = 0)) n 0 with
      | none=>simpa using first_none hf i (by omega) (by omega)
      | some k =>
        rw [hf] at h
        obtain ⟨_, _, k3, _⟩:=first_some hf
        have h:e k = 0:=h
        simp [h] at k3
theorem cS_zero {l:List (Int×Int×Bool×Unit)} (h:(cS l).2.1 = 0):0 < l.length ∧ l.length ≤ 4 ∧ ∀ i, i < l.length → 1 ≤ (el l i).1 ∧ (el l i).1 ≤ 1000 ∧ 1 ≤ (el l i).2.1 ∧ (el l i).2.1 ≤ 1000:=by
  obtain ⟨h1, h2, h3⟩:=cE_zero h
  refine ⟨h1, h2, fun i hi=>?_⟩
  have:=h3 i hi
  unfold eE at this
  split at this
  · rename_i hw
    simp only [Bool.and_eq_true, wi_iff] at hw
    omega
  · cases this
end Go.Vm.Mo

namespace Go.Vm.Mo
open Go
set_option linter.unusedVariables false
set_option linter.unusedSimpArgs false
def lst {α:Type} (F:Nat → α) (n:Nat):List α:=(List.range n).map F
theorem lst_succ {α:Type} (F:Nat → α) (n:Nat):lst F (n + 1) = lst F n++[F n]:=by simp [lst, List.range_succ]
theorem lst_len {α:Type} (F:Nat → α) (n:Nat):(lst F n).length = n:=by simp [lst]
theorem lst_get {α:Type} (F:Nat → α) {n i:Nat} (d:α) (h:i < n):(lst F n).getD i d = F i:=by simp [lst, List.getD, h]
theorem wrap64_pred {i:Nat} (h:0 < i) (h2:i ≤ 9223372036854775806):wrap64 ((i:Int) - 1) = ((i - 1:Nat):Int):=by
  rw [wrap64_id (by omega) (by omega)]; omega
theorem mk_ok {n:Nat} (k:Int) (h:k * (n:Int) ≤ 281474976710656) (h2:(n:Int) ≤ 281474976710656):(decide ((0:Int) ≤ (n:Int)) && decide ((n:Int) ≤ (n:Int)) && decide (k * (n:Int) ≤ (281474976710656:Int)) && decide ((n:Int) ≤ (281474976710656:Int))) = true:=by
  simp only [Bool.and_eq_true, decide_eq_true_eq]; omega
theorem f105_eq (l:List (Int×Int×Bool×Unit)) (h:l.length ≤ 1000000):f105 (l, ()) = some ((l, (0, List.replicate l.length ((0:Int), false, ()), ()), ()), ()):=by
  simp only [f105, t105, Tr.val_test, Tr.val_fin, Int.toNat_natCast]
  rw [if_pos (mk_ok 16 (by omega) (by omega)), if_pos (by rw [beq_eq_true', List.length_replicate])]
theorem f35_eq (l:List (Int×Int×Bool×Unit)) (h:l.length ≤ 1000000):f35 (l, ()) = some ((0, List.replicate l.length ((0:Int), false, ()), ()), ()):=by
  simp only [f35, t35, Tr.val_test, Tr.val_fin, Int.toNat_natCast]
  rw [if_pos (mk_ok 16 (by omega) (by omega)), if_pos (by rw [beq_eq_true', List.length_replicate])]
abbrev ELs:=Int×Int×Bool×Unit
abbrev SLs:=Int×Bool×Unit
def st (at_:Int) (s:SLs):Int:=wrap64 (at_ - s.1)
def hE (l:List ELs) (a:Int) (x:List SLs) (i:Nat):Int :=
  firstNZ [pE (sl x i).1, if ((sl x i).2.1 && !(el l i).2.2.1 || (el l i).2.2.1 && !decide ((sl x i).1 = 0)) = true then 3 else 0,
    if (!(sl x i).2.1 && !wi (-(el l i).2.1) (el l i).2.1 (st a (sl x i))) = true then 22 else 0]
theorem f94_eq (k y:Int) (br:Bool) (s:Int) (bk:Bool) (a:Int) (h0:0 ≤ y) (h1:y ≤ 9223372036854775807):f94 (((k, y, br, ()), (s, bk, ()), a, ()), ()) =
    some (firstNZ [pE s, if (bk && !br || br && !decide (s = 0)) = true then 3 else 0, if (!bk && !wi (-y) y (wrap64 (a - s))) = true then 22 else 0], ()):=by
  have e1:=f91_eq s
  have e2:=fun b=>f74_if b 3
  have e3:=fun b=>f74_if b 22
  have e4:=f126_one y (wrap64 (a - s)) h0 h1
  have e5:=f73_three
  have e6:f127 (((k, y, br, ()), (s, bk, ()), a, ()), ()) = some (wrap64 (a - s), ()):=f127_eq _
  simp only [f94, t94, Tr.val_test, Tr.val_fin, eqF_eq, g91, g74, g73, g126, g127, e1, e2, e3, e4, e5, e6, Option.isSome_some, Option.getD_some, if_true]
  cases bk <;> cases br <;> simp only [Bool.not_true, Bool.not_false, Bool.true_and, Bool.false_and, Bool.or_false, Bool.false_or, Bool.false_eq_true, if_true, if_false, Bool.and_false, Bool.and_true]
theorem hE_f {l:List ELs} {x:List SLs} {a:Int} {i:Nat} (h0:0 ≤ (el l i).2.1) (h1:(el l i).2.1 ≤ 9223372036854775807) :
    f94 ((((el l i).1, (el l i).2.1, (el l i).2.2.1, ()), ((sl x i).1, (sl x i).2.1, ()), a, ()), ()) = some (hE l a x i, ()):=f94_eq _ _ _ _ _ _ h0 h1
theorem l92 (l:List ELs) (a:Int) (x:List SLs) (hx:x.length = l.length) (h:l.length ≤ 1000000) (hy:∀ i, i < l.length → 1 ≤ (el l i).2.1 ∧ (el l i).2.1 ≤ 1000) :
    l92_0 ((x, (x.length:Int), (0:Int), ()), (l, ()), (a, x, ()), ()) = match first (fun i=>!decide (hE l a x i = 0)) l.length 0 with
    | some k=>some (.inr (((k:Int), hE l a x k, ()), (l, ()), (a, x, ()), ()))
    | none=>some (.inl ((), (l, ()), (a, x, ()), ())):=by
  refine itr_search (fun i=>((x, (x.length:Int), (i:Int), ()), (l, ()), (a, x, ()), ())) (fun i=>!decide (hE l a x i = 0)) (fun k=>(((k:Int), hE l a x k, ()), (l, ()), (a, x, ()), ())) (n:=l.length) ?_ ?_ (lt_rounds (by omega))
  · intro i hi
    have hh:l.getD i (0, 0, false, ()) = el l i:=rfl
    have hk:x.getD i (0, false, ()) = sl x i:=rfl
    have b:=hy i hi
    have e:=hE_f (l:=l) (x:=x) (a:=a) (i:=i) (by omega) (by omega)
    simp only [s92_0, t92_0, Tr.val_test, Tr.val_fin, leF_eq, eqF_eq, Int.toNat_natCast, hh, hk, g94, e, Option.isSome_some, Option.getD_some, if_true, wrap64_nat (show i ≤ 9223372036854775806 by omega)]
    rw [if_pos (by simp; omega), if_pos (by simp; omega), if_pos (by simp; omega)]
  · simp [s92_0, t92_0, leF_eq, hx]
def cH (l:List ELs) (a:Int) (x:List SLs):Int×Int×Unit :=
  if pE a = 0 then if x.length = l.length then match first (fun i=>!decide (hE l a x i = 0)) l.length 0 with
    | some k=>((k:Int), hE l a x k, ())
    | none=>(0, 0, ())
  else (0, 10, ()) else (0, pE a, ())
def cSH (l:List ELs) (a:Int) (x:List SLs):Int×Int×Unit:=if (cS l).2.1 = 0 then cH l a x else cS l
theorem f23_eq (l:List ELs) (a:Int) (x:List SLs) (h:l.length ≤ 1000000):f23 (l, (a, x, ()), ()) = some (cSH l a x):=by
  have e1:=f21_eq l h
  have e2:=f91_eq a
  have e3:=f74_if (!decide ((x.length:Int) = (l.length:Int))) 10
  have e4:=f73_two
  simp only [f23, t23, Tr.val_test, Tr.val_fin, eqF_eq, g21, g91, g74, g73, e1, e2, e3, e4, Option.isSome_some, Option.getD_some, if_true, cSH]
  by_cases hc:(cS l).2.1 = 0
  · rw [if_neg (by simp [hc]), if_pos hc]
    have hv:=cS_zero hc
    simp only [cH]
    by_cases hp:pE a = 0
    · by_cases hx:x.length = l.length
      · have e5:=l92 l a x hx h fun i hi=>by have:=hv.2.2 i hi; omega
        rw [if_pos hp, if_pos hx, dT (show (x.length:Int) = (l.length:Int) by omega)]
        simp only [hp, firstNZ, Bool.not_true, Bool.false_eq_true, if_false, if_true, decide_true, e5, r92_0]
        cases first (fun i=>!decide (hE l a x i = 0)) l.length 0 with
        | none=>rfl
        | some k=>rfl
      · rw [if_pos hp, if_neg hx, dF (show ¬ (x.length:Int) = (l.length:Int) by omega)]
        simp only [hp, firstNZ, Bool.not_false, if_true]
        rfl
    · have:firstNZ [pE a, if (!decide ((x.length:Int) = (l.length:Int))) = true then 10 else 0] = pE a:=by simp only [firstNZ]; rw [if_neg hp]
      rw [if_neg hp, this, if_pos (by simp [hp])]
  · rw [if_pos (by simp [hc]), if_neg hc]
theorem pE_zero {x:Int} (h:pE x = 0):-10000 ≤ x ∧ x ≤ 10000:=by
  unfold pE at h
  split at h
  · rename_i hw; exact wi_iff.1 hw
  · cases h
theorem pE_ne {x:Int} (h:pE x ≠ 0):pE x = 2:=by
  unfold pE at h ⊢
  split at h
  · exact absurd rfl h
  · rename_i hw; rw [if_neg hw]
theorem l36 (l:List ELs) (a:Int) (x:List SLs) (ha:pE a = 0) (hx:x.length = l.length) (h:l.length ≤ 1000000) :
    l36_0 ((l, (0:Int), ()), (a, x, ()), ()) = match first (fun i=>!decide (hE l a x i = 0)) l.length 0 with
    | some k=>some (.inr (((k:Int), hE l a x k, ()), (a, x, ()), ()))
    | none=>some (.inl ((), (a, x, ()), ())):=by
  refine itr_search (fun i=>((l, (i:Int), ()), (a, x, ()), ())) (fun i=>!decide (hE l a x i = 0)) (fun k=>(((k:Int), hE l a x k, ()), (a, x, ()), ())) (n:=l.length) ?_ ?_ (lt_rounds (by omega))
  · intro i hi
    have hh:l.getD i (0, 0, false, ()) = el l i:=rfl
    have hk:x.getD i (0, false, ()) = sl x i:=rfl
    have e:=f32_eq (sl x i).1
    simp only [s36_0, t36_0, Tr.val_test, Tr.val_fin, leF_eq, eqF_eq, Int.toNat_natCast, hh, hk, g32, e, Option.isSome_some, Option.getD_some, if_true, wrap64_nat (show i ≤ 9223372036854775806 by omega)]
    rw [if_pos (by simp; omega), if_pos (by simp; omega)]
    have hE':hE l a x i = firstNZ [pE (sl x i).1, if ((sl x i).2.1 && !(el l i).2.2.1 || (el l i).2.2.1 && !decide ((sl x i).1 = 0)) = true then 3 else 0,
      if (!(sl x i).2.1 && !wi (-(el l i).2.1) (el l i).2.1 (wrap64 (a - (sl x i).1))) = true then 22 else 0]:=rfl
    by_cases hp:pE (sl x i).1 = 0
    · have b1:=pE_zero hp
      have b2:=pE_zero ha
      have w:wrap64 (a - (sl x i).1) = a - (sl x i).1:=wrap64_id (by omega) (by omega)
      have e8:=f86_eq (a - (sl x i).1) (by omega) (by omega)
      rw [w] at hE'
      have hlt:(decide ((0:Int) ≤ (i:Int)) && decide ((i:Int) < (l.length:Int))) = true:=dA (by omega) (by omega)
      have hg:leF (sz (a - (sl x i).1)) (el l i).2.1 = wi (-(el l i).2.1) (el l i).2.1 (a - (sl x i).1):=sz_le
      have hg':decide (sz (a - (sl x i).1) ≤ (el l i).2.1) = wi (-(el l i).2.1) (el l i).2.1 (a - (sl x i).1):=by rw [← hg, leF_eq]
      rw [hE']
      simp only [hp, w, g86, e8, hlt, hg', decide_true, Bool.not_true, Bool.false_eq_true, if_false, if_true, Option.isSome_some, Option.getD_some, firstNZ]
      rcases Bool.eq_false_or_eq_true (sl x i).2.1 with hb | hb <;> rcases Bool.eq_false_or_eq_true (el l i).2.2.1 with hc | hc <;> rcases Bool.eq_false_or_eq_true (decide ((sl x i).1 = 0)) with hd | hd <;>
        rcases Bool.eq_false_or_eq_true (wi (-(el l i).2.1) (el l i).2.1 (a - (sl x i).1)) with hw | hw <;>
        simp only [hb, hc, hd, hw, Bool.not_true, Bool.not_false, Bool.true_and, Bool.false_and, Bool.or_false, Bool.false_or, Bool.false_eq_true, if_true, if_false, Bool.and_false, Bool.and_true] <;> rfl
    · rw [hE']
      simp only [firstNZ, if_neg hp]
      rw [dF hp]
      rfl
  · simp [s36_0, t36_0, leF_eq]
theorem f36_eq (l:List ELs) (a:Int) (x:List SLs) (h:l.length ≤ 1000000):f36 (l, (a, x, ()), ()) = some (cH l a x):=by
  have e1:=f32_eq a
  simp only [f36, t36, Tr.val_test, Tr.val_fin, eqF_eq, g32, e1, Option.isSome_some, Option.getD_some, if_true, cH]
  by_cases hp:pE a = 0
  · rw [if_pos hp, if_neg (by simp [hp])]
    by_cases hx:x.length = l.length
    · have e5:=l36 l a x hp hx h
      rw [if_pos hx, if_neg (by simp; omega)]
      simp only [e5, r36_0]
      cases first (fun i=>!decide (hE l a x i = 0)) l.length 0 with
      | none=>rfl
      | some k=>rfl
    · rw [if_neg hx, if_pos (by simp; omega)]
  · rw [if_neg hp, if_pos (by simp [hp])]
theorem cH_zero {l:List ELs} {a:Int} {x:List SLs} (h:(cH l a x).2.1 = 0):(-10000 ≤ a ∧ a ≤ 10000) ∧ x.length = l.length ∧ ∀ i, i < l.length → hE l a x i = 0:=by
  unfold cH at h
  split at h
  · rename_i hp
    split at h
    · rename_i hx
      refine ⟨pE_zero hp, hx, fun i hi=>?_⟩
      cases hf:first (fun i=>!decide (hE l a x i = 0)) l.length 0 with
      | none=>simpa using first_none hf i (by omega) (by omega)
      | some k =>
        rw [hf] at h
        obtain ⟨_, _, k3, _⟩:=first_some hf
        have h:hE l a x k = 0:=h
        simp [h] at k3
    · cases h
  · rename_i hp
    exact absurd h hp
theorem hE_zero {l:List ELs} {a:Int} {x:List SLs} {i:Nat} (h:hE l a x i = 0):(-10000 ≤ (sl x i).1 ∧ (sl x i).1 ≤ 10000) ∧ ((sl x i).2.1 = false → wi (-(el l i).2.1) (el l i).2.1 (st a (sl x i)) = true) ∧
    ((el l i).2.2.1 = true → (sl x i).1 = 0) ∧ ((sl x i).2.1 = true → (el l i).2.2.1 = true):=by
  unfold hE firstNZ at h
  by_cases h1:pE (sl x i).1 = 0
  · rw [if_pos h1] at h
    refine ⟨pE_zero h1, ?_⟩
    simp only [firstNZ] at h
    rcases Bool.eq_false_or_eq_true (sl x i).2.1 with hb | hb <;> rcases Bool.eq_false_or_eq_true (el l i).2.2.1 with hc | hc <;> by_cases h0:(sl x i).1 = 0 <;> rcases Bool.eq_false_or_eq_true (wi (-(el l i).2.1) (el l i).2.1 (st a (sl x i))) with hw | hw <;> simp_all
  · rw [if_neg h1] at h; exact absurd h h1
end Go.Vm.Mo

namespace Go.Vm.Mo
open Go
set_option linter.unusedVariables false
set_option linter.unusedSimpArgs false
def FO (l:List ELs) (a:Int) (x:List SLs) (i:Nat):Int:=if (sl x i).2.1 = true then 0 else wrap64 ((el l i).1 * st a (sl x i))
theorem f128_eq (k y:Int) (br:Bool) (s:Int) (bk:Bool) (a:Int):f128 (((k, y, br, ()), (s, bk, ()), a, ()), ()) = some (if bk = true then 0 else wrap64 (k * wrap64 (a - s)), ()):=by
  have e6:f127 (((k, y, br, ()), (s, bk, ()), a, ()), ()) = some (wrap64 (a - s), ()):=f127_eq _
  simp only [f128, t128, Tr.val_test, Tr.val_fin, g127, e6, Option.isSome_some, Option.getD_some, if_true]
  cases bk <;> rfl
def EN (l:List ELs) (a:Int) (x:List SLs) (i:Nat):Int:=if (sl x i).2.1 = true then 0 else wrap64 (wrap64 ((el l i).1 * st a (sl x i)) * st a (sl x i))
theorem f99_eq (k y:Int) (br:Bool) (s:Int) (bk:Bool) (a:Int):f99 (((k, y, br, ()), (s, bk, ()), a, ()), ()) = some (if bk = true then 0 else wrap64 (wrap64 (k * wrap64 (a - s)) * wrap64 (a - s)), ()):=by
  have e6:f127 (((k, y, br, ()), (s, bk, ()), a, ()), ()) = some (wrap64 (a - s), ()):=f127_eq _
  have e7:=f128_eq k y br s bk a
  simp only [f99, t99, Tr.val_test, Tr.val_fin, g127, g128, e6, e7, Option.isSome_some, Option.getD_some, if_true]
  cases bk
  · rfl
  · simp only [if_true, Int.zero_mul]; rfl
theorem l129f (l:List ELs) (a:Int) (x:List SLs) (h:x.length ≤ l.length) (hl:l.length ≤ 1000000) :
    l129_0 ((x, (x.length:Int), (0:Int), ()), (), (l, a, x, ()), (), ((0:Int), ()), ()) = some (.inl ((), (), (l, a, x, ()), (), (acc (FO l a x) x.length, ()), ())):=by
  refine itr_brk (fun i=>((x, (x.length:Int), (i:Int), ()), (), (l, a, x, ()), (), (acc (FO l a x) i, ()), ())) (n:=x.length) ?_ ?_ (lt_rounds (by omega))
  · intro i hi
    have hh:l.getD i (0, 0, false, ()) = el l i:=rfl
    have hk:x.getD i (0, false, ()) = sl x i:=rfl
    have e:=f128_eq (el l i).1 (el l i).2.1 (el l i).2.2.1 (sl x i).1 (sl x i).2.1 a
    simp only [s129_0, t129_0, Tr.val_test, Tr.val_fin, leF_eq, Int.toNat_natCast, hh, hk, g128, e, Option.isSome_some, Option.getD_some, if_true, wrap64_nat (show i ≤ 9223372036854775806 by omega), acc]
    rw [if_pos (by simp; omega), if_pos (by simp; omega), if_pos (by simp; omega)]
    rfl
  · simp [s129_0, t129_0, leF_eq]
theorem l129e (l:List ELs) (a:Int) (x:List SLs) (h:x.length ≤ l.length) (hl:l.length ≤ 1000000) :
    l129_0_1 ((x, (x.length:Int), (0:Int), ()), (), (l, a, x, ()), (), ((0:Int), ()), ()) = some (.inl ((), (), (l, a, x, ()), (), (acc (EN l a x) x.length, ()), ())):=by
  refine itr_brk (fun i=>((x, (x.length:Int), (i:Int), ()), (), (l, a, x, ()), (), (acc (EN l a x) i, ()), ())) (n:=x.length) ?_ ?_ (lt_rounds (by omega))
  · intro i hi
    have hh:l.getD i (0, 0, false, ()) = el l i:=rfl
    have hk:x.getD i (0, false, ()) = sl x i:=rfl
    have e:=f99_eq (el l i).1 (el l i).2.1 (el l i).2.2.1 (sl x i).1 (sl x i).2.1 a
    simp only [s129_0_1, t129_0_1, Tr.val_test, Tr.val_fin, leF_eq, Int.toNat_natCast, hh, hk, g99, e, Option.isSome_some, Option.getD_some, if_true, wrap64_nat (show i ≤ 9223372036854775806 by omega), acc]
    rw [if_pos (by simp; omega), if_pos (by simp; omega), if_pos (by simp; omega)]
    rfl
  · simp [s129_0_1, t129_0_1, leF_eq]
theorem f96_eq (l:List ELs) (a:Int) (x:List SLs) (h:x.length ≤ l.length) (hl:l.length ≤ 1000000):f96 ((l, (a, x, ()), ()), ()) = some (acc (FO l a x) x.length, ()):=by
  simp only [f96, t96, Tr.val_test, Tr.val_fin, l129f l a x h hl, b129_0, isBrk, outB, if_true]
theorem l33 (l:List ELs) (a:Int) (x:List SLs) (h:x.length = l.length) (hl:l.length ≤ 1000000):l33_0 ((l, (0:Int), (0:Int), ()), (a, x, ()), ()) = some (.inl ((acc (FO l a x) l.length, ()), (a, x, ()), ())):=by
  refine itr_brk (fun i=>((l, acc (FO l a x) i, (i:Int), ()), (a, x, ()), ())) (n:=l.length) ?_ ?_ (lt_rounds (by omega))
  · intro i hi
    have hh:l.getD i (0, 0, false, ()) = el l i:=rfl
    have hk:x.getD i (0, false, ()) = sl x i:=rfl
    simp only [s33_0, t33_0, Tr.val_test, Tr.val_fin, leF_eq, Int.toNat_natCast, hh, hk, wrap64_nat (show i ≤ 9223372036854775806 by omega)]
    rw [if_pos (by simp; omega), if_pos (by simp; omega)]
    rcases Bool.eq_false_or_eq_true (sl x i).2.1 with hb | hb
    · rw [acc_zero (F:=FO l a x) (by unfold FO; rw [if_pos hb])]
      rw [hb, if_neg (by simp)]
    · rw [hb, if_pos (by simp), if_pos (by simp; omega)]
      simp only [acc, FO, hb, Bool.false_eq_true, if_false]
      rfl
  · simp [s33_0, t33_0, leF_eq]
theorem f33_eq (l:List ELs) (a:Int) (x:List SLs) (h:x.length = l.length) (hl:l.length ≤ 1000000):f33 (l, (a, x, ()), ()) = some (acc (FO l a x) l.length, ()):=by
  simp only [f33, t33, Tr.val_test, Tr.val_fin, l33 l a x h hl, b33_0, isBrk, outB, if_true]
theorem l37 (l:List ELs) (a:Int) (x:List SLs) (h:x.length = l.length) (hl:l.length ≤ 1000000):l37_0 ((l, (0:Int), (0:Int), ()), (a, x, ()), ()) = some (.inl ((acc (EN l a x) l.length, ()), (a, x, ()), ())):=by
  refine itr_brk (fun i=>((l, acc (EN l a x) i, (i:Int), ()), (a, x, ()), ())) (n:=l.length) ?_ ?_ (lt_rounds (by omega))
  · intro i hi
    have hh:l.getD i (0, 0, false, ()) = el l i:=rfl
    have hk:x.getD i (0, false, ()) = sl x i:=rfl
    simp only [s37_0, t37_0, Tr.val_test, Tr.val_fin, leF_eq, Int.toNat_natCast, hh, hk, wrap64_nat (show i ≤ 9223372036854775806 by omega)]
    rw [if_pos (by simp; omega), if_pos (by simp; omega)]
    rcases Bool.eq_false_or_eq_true (sl x i).2.1 with hb | hb
    · rw [acc_zero (F:=EN l a x) (by unfold EN; rw [if_pos hb])]
      rw [hb, if_neg (by simp)]
    · rw [hb, if_pos (by simp), if_pos (by simp; omega)]
      simp only [acc, EN, hb, Bool.false_eq_true, if_false]
      rfl
  · simp [s37_0, t37_0, leF_eq]
theorem f37_eq (l:List ELs) (a:Int) (x:List SLs) (h:x.length = l.length) (hl:l.length ≤ 1000000):f37 (l, (a, x, ()), ()) = some (acc (EN l a x) l.length, ()):=by
  simp only [f37, t37, Tr.val_test, Tr.val_fin, l37 l a x h hl, b37_0, isBrk, outB, if_true]
def sp (l:List ELs) (a:Int) (x:List SLs) (e:Int):Int:=firstNZ [(cSH l a x).2.1, e]
theorem f95_eq (l:List ELs) (a:Int) (x:List SLs) (es:List Int) (h:l.length ≤ 1000000) (he:es.length ≤ 1000):f95 (l, (a, x, ()), es, ()) =
    some (if sp l a x (firstNZ es) = 0 then ((l, (a, x, ()), ()), 0, ()) else (([], (0, [], ()), ()), sp l a x (firstNZ es), ())):=by
  have e1:=f23_eq l a x h
  have e2:=f73_eq es (by omega)
  have e3:=f73_two (cSH l a x).2.1 (firstNZ es)
  rw [show firstNZ [(cSH l a x).2.1, firstNZ es] = sp l a x (firstNZ es) from rfl] at e3
  simp only [f95, t95, Tr.val_test, Tr.val_fin, eqF_eq, g23, g73, e1, e2, e3, Option.isSome_some, Option.getD_some, if_true]
  by_cases h0:sp l a x (firstNZ es) = 0
  · rw [if_pos h0, if_neg (by simp [h0])]
  · rw [if_neg h0, if_pos (by simp [h0])]
theorem sp_nil (l:List ELs) (a:Int) (x:List SLs):sp l a x (firstNZ []) = (cSH l a x).2.1:=by
  unfold sp
  simp only [firstNZ]
  by_cases h:(cSH l a x).2.1 = 0
  · rw [if_pos h, h]; rfl
  · rw [if_neg h]
theorem cSH_zero {l:List ELs} {a:Int} {x:List SLs} (h:(cSH l a x).2.1 = 0):(cS l).2.1 = 0 ∧ (cH l a x).2.1 = 0:=by
  unfold cSH at h
  split at h
  · rename_i hc; exact ⟨hc, h⟩
  · rename_i hc; exact absurd h hc
theorem f25_eq (l:List ELs) (a:Int) (x:List SLs) (h:l.length ≤ 1000000):f25 (l, (a, x, ()), ()) = some (if (cSH l a x).2.1 = 0 then (acc (FO l a x) l.length, 0, ()) else (0, (cSH l a x).2.1, ())):=by
  have e1:=f95_eq l a x [] h (by simp)
  rw [sp_nil] at e1
  simp only [f25, t25, Tr.val_test, Tr.val_fin, g95, e1, Option.isSome_some, Option.getD_some, if_true]
  by_cases h0:(cSH l a x).2.1 = 0
  · have hx:=(cH_zero (cSH_zero h0).2).2.1
    simp only [if_pos h0, g96, f96_eq l a x (by omega) h, Option.isSome_some, Option.getD_some, if_true, hx]
  · have e:=f96_eq [] 0 [] (by simp) (by simp)
    simp only [if_neg h0, g96, e, Option.isSome_some, Option.getD_some, if_true, acc, List.length_nil]
theorem f26_eq (l:List ELs) (a:Int) (x:List SLs) (h:l.length ≤ 1000000):f26 (l, (a, x, ()), ()) = some (if (cSH l a x).2.1 = 0 then (acc (EN l a x) l.length, 0, ()) else (0, (cSH l a x).2.1, ())):=by
  have e1:=f95_eq l a x [] h (by simp)
  rw [sp_nil] at e1
  simp only [f26, t26, Tr.val_test, Tr.val_fin, g95, e1, Option.isSome_some, Option.getD_some, if_true]
  by_cases h0:(cSH l a x).2.1 = 0
  · have hx:=(cH_zero (cSH_zero h0).2).2.1
    have e:=l129e l a x (by omega) h
    rw [hx] at e
    simp only [if_pos h0, hx, e, b129_0_1, isBrk, outB, if_true]
  · have e:=l129e [] 0 [] (by simp) (by simp)
    simp only [List.length_nil, Int.natCast_zero] at e
    simp only [if_neg h0, List.length_nil, Int.natCast_zero, e, b129_0_1, isBrk, outB, if_true, acc]
def MV (l:List ELs) (x:List SLs) (a:Int) (i:Nat):SLs :=
  if (sl x i).2.1 = true then ((sl x i).1, (sl x i).2.1, ()) else if wi (-(el l i).2.1) (el l i).2.1 (st a (sl x i)) = true then ((sl x i).1, (sl x i).2.1, ())
  else if (el l i).2.2.1 = true then (0, true, ()) else if 0 < st a (sl x i) then (wrap64 (a - (el l i).2.1), (sl x i).2.1, ()) else (wrap64 (a + (el l i).2.1), (sl x i).2.1, ())
theorem f130_eq (l:List ELs) (x:List SLs) (b a:Int) (i:Nat) (h0:0 ≤ (el l i).2.1) (h1:(el l i).2.1 ≤ 9223372036854775807) :
    f130 ((((el l i).1, (el l i).2.1, (el l i).2.2.1, ()), ((sl x i).1, (sl x i).2.1, ()), b, ()), a, ()) = some ((((el l i).1, (el l i).2.1, (el l i).2.2.1, ()), ((MV l x a i).1, (MV l x a i).2.1, ()), a, ()), ()):=by
  have e6:f127 ((((el l i).1, (el l i).2.1, (el l i).2.2.1, ()), ((sl x i).1, (sl x i).2.1, ()), a, ()), ()) = some (st a (sl x i), ()):=f127_eq _
  have e4:=f126_one (el l i).2.1 (st a (sl x i)) h0 h1
  simp only [f130, t130, Tr.val_test, Tr.val_fin, leF_eq, g127, g126, e6, e4, Option.isSome_some, Option.getD_some, if_true, MV]
  rcases Bool.eq_false_or_eq_true (sl x i).2.1 with hb | hb
  · simp only [hb, if_true]
  · rcases Bool.eq_false_or_eq_true (wi (-(el l i).2.1) (el l i).2.1 (st a (sl x i))) with hw | hw
    · simp only [hb, hw, Bool.false_eq_true, if_false, Bool.not_true, Bool.not_false, if_true]
    · rcases Bool.eq_false_or_eq_true (el l i).2.2.1 with hr | hr
      · simp only [hb, hw, hr, Bool.false_eq_true, if_false, Bool.not_true, Bool.not_false, if_true]
      · by_cases hp:0 < st a (sl x i)
        · simp only [hb, hw, hr, Bool.false_eq_true, if_false, Bool.not_true, Bool.not_false, if_true, if_pos hp, dF (show ¬ st a (sl x i) ≤ 0 by omega)]
        · simp only [hb, hw, hr, Bool.false_eq_true, if_false, Bool.not_true, Bool.not_false, if_true, if_neg hp, dT (show st a (sl x i) ≤ 0 by omega)]
theorem l129m (l:List ELs) (b:Int) (x:List SLs) (a:Int) (h:x.length ≤ l.length) (hl:l.length ≤ 100000) (hy:∀ i, i < l.length → 1 ≤ (el l i).2.1 ∧ (el l i).2.1 ≤ 1000) :
    l129_0_2 ((x, (x.length:Int), (0:Int), ()), (), (l, b, x, ()), (a, ()), (l, a, [], ()), ()) = some (.inl ((), (), (l, b, x, ()), (a, ()), (l, a, lst (MV l x a) x.length, ()), ())):=by
  refine itr_brk (fun i=>((x, (x.length:Int), (i:Int), ()), (), (l, b, x, ()), (a, ()), (l, a, lst (MV l x a) i, ()), ())) (n:=x.length) ?_ ?_ (lt_rounds (by omega))
  · intro i hi
    have hh:l.getD i (0, 0, false, ()) = el l i:=rfl
    have hk:x.getD i (0, false, ()) = sl x i:=rfl
    have y:=hy i (by omega)
    have e:=f130_eq l x b a i (by omega) (by omega)
    rw [lst_succ]
    simp only [s129_0_2, t129_0_2, Tr.val_test, Tr.val_fin, leF_eq, Int.toNat_natCast, hh, hk, g130, e, Option.isSome_some, Option.getD_some, if_true, lst_len, wrap64_nat (show i ≤ 9223372036854775806 by omega)]
    rw [if_pos (by simp; omega), if_pos (by simp; omega), if_pos (by simp; omega), if_pos (by simp only [Bool.and_eq_true, ble_eq_true']; omega)]
  · simp [s129_0_2, t129_0_2, leF_eq]
theorem f100_eq (l:List ELs) (b:Int) (x:List SLs) (a:Int) (h:x.length ≤ l.length) (hl:l.length ≤ 100000) (hy:∀ i, i < l.length → 1 ≤ (el l i).2.1 ∧ (el l i).2.1 ≤ 1000) :
    f100 ((l, (b, x, ()), ()), a, ()) = some ((l, (a, lst (MV l x a) x.length, ()), ()), ()):=by
  simp only [f100, t100, Tr.val_test, Tr.val_fin, l129m l b x a h hl hy, b129_0_2, isBrk, outB, if_true]
theorem l34 (l:List ELs) (b:Int) (x:List SLs) (a:Int) (h:x.length = l.length) (hl:l.length ≤ 100000) (ha:-10000 ≤ a ∧ a ≤ 10000) (hs:∀ i, i < l.length → -10000 ≤ (sl x i).1 ∧ (sl x i).1 ≤ 10000) :
    l34_0 ((l, a, (0:Int), ()), (b, x, ()), ((0:Int), ()), (a, [], ()), ()) = some (.inl ((), (b, x, ()), ((0:Int), ()), (a, lst (MV l x a) l.length, ()), ())):=by
  refine itr_brk (fun i=>((l, a, (i:Int), ()), (b, x, ()), ((0:Int), ()), (a, lst (MV l x a) i, ()), ())) (n:=l.length) ?_ ?_ (lt_rounds (by omega))
  · intro i hi
    have hh:l.getD i (0, 0, false, ()) = el l i:=rfl
    have hk:x.getD i (0, false, ()) = sl x i:=rfl
    have hst:wrap64 (a - (sl x i).1) = st a (sl x i):=rfl
    have hb1:=hs i hi
    have w:st a (sl x i) = a - (sl x i).1:=wrap64_id (by omega) (by omega)
    have e:=f86_eq (st a (sl x i)) (by omega) (by omega)
    have hg:decide (sz (st a (sl x i)) ≤ (el l i).2.1) = wi (-(el l i).2.1) (el l i).2.1 (st a (sl x i)):=by rw [← sz_le, leF_eq]
    have hsz:(Nat.ble ((2 * (i + 1) + 192) * 16) 281474976710656 && Nat.ble (i + 1) 281474976710656) = true:=by simp only [Bool.and_eq_true, ble_eq_true']; omega
    have hlt:(decide ((0:Int) ≤ (i:Int)) && decide ((i:Int) < (l.length:Int))) = true:=dA (by omega) (by omega)
    rw [lst_succ]
    simp only [s34_0, t34_0, Tr.val_test, Tr.val_fin, leF_eq, Int.toNat_natCast, hh, hk, hst, g86, e, hg, hsz, hlt, Option.isSome_some, Option.getD_some, if_true, lst_len, wrap64_nat (show i ≤ 9223372036854775806 by omega), MV]
    rw [if_pos (by simp; omega), if_pos (by simp; omega)]
    rcases Bool.eq_false_or_eq_true (sl x i).2.1 with hb | hb
    · simp only [hb, Bool.not_true, Bool.false_eq_true, if_false, if_true]
    · rcases Bool.eq_false_or_eq_true (wi (-(el l i).2.1) (el l i).2.1 (st a (sl x i))) with hw | hw
      · simp only [hb, hw, Bool.false_eq_true, if_false, Bool.not_true, Bool.not_false, if_true]
      · rcases Bool.eq_false_or_eq_true (el l i).2.2.1 with hr | hr
        · simp only [hb, hw, hr, Bool.false_eq_true, if_false, Bool.not_true, Bool.not_false, if_true]
        · by_cases hp:0 < st a (sl x i)
          · simp only [hb, hw, hr, Bool.false_eq_true, if_false, Bool.not_true, Bool.not_false, if_true, if_pos hp, dF (show ¬ st a (sl x i) ≤ 0 by omega)]
          · simp only [hb, hw, hr, Bool.false_eq_true, if_false, Bool.not_true, Bool.not_false, if_true, if_neg hp, dT (show st a (sl x i) ≤ 0 by omega)]
  · simp [s34_0, t34_0, leF_eq]
theorem f34_eq (l:List ELs) (b:Int) (x:List SLs) (a:Int) (h:x.length = l.length) (hl:l.length ≤ 100000) (ha:-10000 ≤ a ∧ a ≤ 10000) (hs:∀ i, i < l.length → -10000 ≤ (sl x i).1 ∧ (sl x i).1 ≤ 10000) :
    f34 (l, (b, x, ()), a, ()) = some ((a, lst (MV l x a) l.length, ()), ()):=by
  simp only [f34, t34, Tr.val_test, Tr.val_fin, l34 l b x a h hl ha hs, b34_0, isBrk, outB, if_true]
theorem f27_eq (l:List ELs) (b:Int) (x:List SLs) (a:Int) (h:l.length ≤ 100000):f27 (l, (b, x, ()), a, ()) = some (if sp l b x (pE a) = 0 then ((a, lst (MV l x a) l.length, ()), 0, ()) else ((0, [], ()), sp l b x (pE a), ())):=by
  have e0:=f91_eq a
  have e1:=f95_eq l b x [pE a] (by omega) (by simp)
  have e2:firstNZ [pE a] = pE a:=by simp only [firstNZ]; split <;> simp_all
  rw [e2] at e1
  simp only [f27, t27, Tr.val_test, Tr.val_fin, eqF_eq, g91, e0, g95, e1, Option.isSome_some, Option.getD_some, if_true]
  by_cases h0:sp l b x (pE a) = 0
  · obtain ⟨h1, h2⟩:=nz2 h0
    obtain ⟨h3, h4⟩:=cSH_zero h1
    have hx:=(cH_zero h4).2.1
    have hv:=(cS_zero h3).2.2
    have e3:=f100_eq l b x a (by omega) h fun i hi=>by have:=hv i hi; omega
    simp only [if_pos h0, g100, e3, Option.isSome_some, Option.getD_some, if_true, hx]
    rw [if_neg (by simp)]
  · simp only [if_neg h0]
    rw [if_pos (by simp [h0])]
end Go.Vm.Mo

namespace Go.Vm.Mo
open Go
set_option linter.unusedVariables false
set_option linter.unusedSimpArgs false
theorem sz_sq (x:Int):sz x * sz x = x * x:=by unfold sz; split <;> simp [Int.neg_mul_neg]
def WO (l:List ELs) (a:Int) (x:List SLs) (b:Int) (i:Nat):Int :=
  if (sl x i).2.1 = true then 0 else if wi (-(el l i).2.1) (el l i).2.1 (st b (sl x i)) = true then wrap64 ((el l i).1 * (st b (sl x i) * st b (sl x i) - st a (sl x i) * st a (sl x i)))
  else if (el l i).2.2.1 = true then wrap64 ((el l i).1 * ((el l i).2.1 * (el l i).2.1 - st a (sl x i) * st a (sl x i)))
  else wrap64 ((el l i).1 * ((el l i).2.1 * (el l i).2.1 - st a (sl x i) * st a (sl x i)) + 2 * (el l i).1 * (el l i).2.1 * (sz (st b (sl x i)) - (el l i).2.1))
def LO (l:List ELs) (x:List SLs) (b:Int) (i:Nat):Int :=
  if (sl x i).2.1 = true then 0 else if wi (-(el l i).2.1) (el l i).2.1 (st b (sl x i)) = true then 0
  else if (el l i).2.2.1 = true then wrap64 (wrap64 ((el l i).1 * (el l i).2.1) * (el l i).2.1)
  else wrap64 (wrap64 (wrap64 (2 * (el l i).1) * (el l i).2.1) * wrap64 (sz (st b (sl x i)) - (el l i).2.1))
theorem wA (k h e:Int):wrap64 (wrap64 (wrap64 (k * h) * h) - wrap64 (wrap64 (k * e) * e)) = wrap64 (k * (h * h - e * e)):=by
  simp only [wrap64_mul_l, wrap64_sub_l, wrap64_sub_r]
  rw [Int.mul_sub, Int.mul_assoc, Int.mul_assoc]
theorem wB (k h e y s:Int):wrap64 (wrap64 (wrap64 (wrap64 (k * h) * h) - wrap64 (wrap64 (k * e) * e)) + wrap64 (wrap64 (wrap64 (2 * k) * y) * wrap64 s)) = wrap64 (k * (h * h - e * e) + 2 * k * y * s):=by
  rw [wA]
  simp only [wrap64_mul_l, wrap64_mul_r, wrap64_add_l, wrap64_add_r]
theorem wC (k d e:Int):wrap64 (k * wrap64 (wrap64 (d * d) - wrap64 (e * e))) = wrap64 (k * (d * d - e * e)):=by
  simp only [wrap64_mul_r, wrap64_sub_l, wrap64_sub_r]
theorem wD (c k d e y s:Int):wrap64 (wrap64 (c + wrap64 (k * wrap64 (wrap64 (d * d) - wrap64 (e * e)))) + wrap64 (wrap64 (wrap64 (2 * k) * y) * wrap64 s)) = wrap64 (c + wrap64 (k * (d * d - e * e) + 2 * k * y * s)):=by
  rw [wC]
  simp only [wrap64_mul_l, wrap64_mul_r, wrap64_add_l, wrap64_add_r]
  rw [Int.add_assoc]
theorem f102_eq (l:List ELs) (a:Int) (x:List SLs) (b:Int) (i:Nat) (hb:-9223372036854775807 ≤ st b (sl x i)) (hb2:st b (sl x i) ≤ 9223372036854775807) :
    f102 ((((el l i).1, (el l i).2.1, (el l i).2.2.1, ()), ((sl x i).1, (sl x i).2.1, ()), a, ()), b, ()) = some (WO l a x b i, ()):=by
  have hst:wrap64 (b - (sl x i).1) = st b (sl x i):=rfl
  have e1:=f119_eq (st b (sl x i)) hb hb2
  have e2:=f99_eq (el l i).1 (el l i).2.1 (el l i).2.2.1 (sl x i).1 (sl x i).2.1 a
  rw [show wrap64 (a - (sl x i).1) = st a (sl x i) from rfl] at e2
  simp only [f102, t102, Tr.val_test, Tr.val_fin, hst, g119, g99, e1, e2, Option.isSome_some, Option.getD_some, if_true, WO]
  rcases Bool.eq_false_or_eq_true (sl x i).2.1 with hk | hk
  · simp only [hk, if_true]
  · have hw:=sz_le (x:=st b (sl x i)) (y:=(el l i).2.1)
    rw [leF_eq] at hw
    rcases Bool.eq_false_or_eq_true (wi (-(el l i).2.1) (el l i).2.1 (st b (sl x i))) with hq | hq
    · rw [hq] at hw
      have hle:=of_decide_eq_true hw
      have h1:¬ (el l i).2.1 < sz (st b (sl x i)):=by omega
      rcases Bool.eq_false_or_eq_true (el l i).2.2.1 with hr | hr
      · simp only [hk, hq, hr, Bool.false_eq_true, if_false, if_true, if_neg h1, wA, sz_sq]
      · simp only [hk, hq, hr, Bool.false_eq_true, if_false, if_true, if_neg h1, wB, sz_sq, Int.sub_self, Int.mul_zero, Int.add_zero]
    · rw [hq] at hw
      have hle:=of_decide_eq_false hw
      have h1:(el l i).2.1 < sz (st b (sl x i)):=by omega
      rcases Bool.eq_false_or_eq_true (el l i).2.2.1 with hr | hr
      · simp only [hk, hq, hr, Bool.false_eq_true, if_false, if_true, if_pos h1, wA]
      · simp only [hk, hq, hr, Bool.false_eq_true, if_false, if_true, if_pos h1, wB]
theorem sz_zero:sz 0 = 0:=rfl
theorem f104_eq (l:List ELs) (a:Int) (x:List SLs) (b:Int) (i:Nat) (hb:-10000 ≤ b ∧ b ≤ 10000) (hs:-10000 ≤ (sl x i).1 ∧ (sl x i).1 ≤ 10000) (hy:1 ≤ (el l i).2.1 ∧ (el l i).2.1 ≤ 1000) :
    f104 ((((el l i).1, (el l i).2.1, (el l i).2.2.1, ()), ((sl x i).1, (sl x i).2.1, ()), a, ()), b, ()) = some (LO l x b i, ()):=by
  have w:st b (sl x i) = b - (sl x i).1:=wrap64_id (by omega) (by omega)
  have e0:=f130_eq l x a b i (by omega) (by omega)
  have hm:∀ s:Int, -20000 ≤ s → s ≤ 20000 → f119 (wrap64 (s - (sl x i).1), ()) = some (sz (s - (sl x i).1), ()):=by
    intro s h1 h2
    rw [wrap64_id (by omega) (by omega)]
    exact f119_eq _ (by omega) (by omega)
  simp only [f104, t104, Tr.val_test, Tr.val_fin, g130, e0, Option.isSome_some, Option.getD_some, if_true, LO]
  rcases Bool.eq_false_or_eq_true (sl x i).2.1 with hk | hk
  · have hmv:MV l x b i = ((sl x i).1, (sl x i).2.1, ()):=by unfold MV; rw [if_pos hk]
    have e1:=hm (sl x i).1 (by omega) (by omega)
    rw [Int.sub_self, sz_zero] at e1
    rw [hmv]
    simp only [hk, if_true, Bool.not_true, Bool.false_eq_true, if_false, g119, e1, Option.isSome_some, Option.getD_some, Int.sub_self, sz_zero, Int.mul_zero]
    rfl
  · rcases Bool.eq_false_or_eq_true (wi (-(el l i).2.1) (el l i).2.1 (st b (sl x i))) with hq | hq
    · have hmv:MV l x b i = ((sl x i).1, (sl x i).2.1, ()):=by unfold MV; rw [if_neg (by simp [hk]), if_pos hq]
      have e1:=hm (sl x i).1 (by omega) (by omega)
      rw [Int.sub_self, sz_zero] at e1
      rw [hmv]
      simp only [hk, hq, if_true, Bool.not_true, Bool.false_eq_true, if_false, g119, e1, Option.isSome_some, Option.getD_some, Int.sub_self, sz_zero, Int.mul_zero]
      rfl
    · have hout:st b (sl x i) < -(el l i).2.1 ∨ (el l i).2.1 < st b (sl x i):=by
        have:¬ (-(el l i).2.1 ≤ st b (sl x i) ∧ st b (sl x i) ≤ (el l i).2.1):=fun h=>by rw [wi_iff.2 h] at hq; cases hq
        omega
      rcases Bool.eq_false_or_eq_true (el l i).2.2.1 with hr | hr
      · have hmv:MV l x b i = (0, true, ()):=by unfold MV; rw [if_neg (by simp [hk]), if_neg (by simp [hq]), if_pos hr]
        rw [hmv]
        simp only [hk, hq, hr, if_true, Bool.not_false, Bool.false_eq_true, if_false]
      · by_cases hp:0 < st b (sl x i)
        · have hmv:MV l x b i = (wrap64 (b - (el l i).2.1), (sl x i).2.1, ()):=by unfold MV; rw [if_neg (by simp [hk]), if_neg (by simp [hq]), if_neg (by simp [hr]), if_pos hp]
          have e1:=hm (b - (el l i).2.1) (by omega) (by omega)
          have w2:wrap64 (b - (el l i).2.1) = b - (el l i).2.1:=wrap64_id (by omega) (by omega)
          have w3:sz (b - (el l i).2.1 - (sl x i).1) = sz (st b (sl x i)) - (el l i).2.1:=by
            rw [w] at hp hout ⊢
            unfold sz
            rw [if_neg (by omega), if_neg (by omega)]; omega
          have w4:wrap64 (sz (st b (sl x i)) - (el l i).2.1) = sz (st b (sl x i)) - (el l i).2.1:=by
            rw [w] at hp ⊢
            unfold sz
            rw [if_neg (by omega)]
            exact wrap64_id (by omega) (by omega)
          rw [hmv]
          simp only [hk, hq, hr, w2, Bool.false_eq_true, if_false, g119, e1, Option.isSome_some, Option.getD_some, if_true, w3, w4]
        · have hmv:MV l x b i = (wrap64 (b + (el l i).2.1), (sl x i).2.1, ()):=by unfold MV; rw [if_neg (by simp [hk]), if_neg (by simp [hq]), if_neg (by simp [hr]), if_neg hp]
          have e1:=hm (b + (el l i).2.1) (by omega) (by omega)
          have w2:wrap64 (b + (el l i).2.1) = b + (el l i).2.1:=wrap64_id (by omega) (by omega)
          have w3:sz (b + (el l i).2.1 - (sl x i).1) = sz (st b (sl x i)) - (el l i).2.1:=by
            rw [w] at hp hout ⊢
            unfold sz
            rw [if_pos (by omega), if_pos (by omega)]; omega
          have w4:wrap64 (sz (st b (sl x i)) - (el l i).2.1) = sz (st b (sl x i)) - (el l i).2.1:=by
            rw [w] at hp hout ⊢
            unfold sz
            rw [if_pos (by omega)]
            exact wrap64_id (by omega) (by omega)
          rw [hmv]
          simp only [hk, hq, hr, w2, Bool.false_eq_true, if_false, g119, e1, Option.isSome_some, Option.getD_some, if_true, w3, w4]
theorem l129w (l:List ELs) (a:Int) (x:List SLs) (b:Int) (h:x.length ≤ l.length) (hl:l.length ≤ 1000000) (hb:-10000 ≤ b ∧ b ≤ 10000) (hs:∀ i, i < x.length → -10000 ≤ (sl x i).1 ∧ (sl x i).1 ≤ 10000) :
    l129_0_3 ((x, (x.length:Int), (0:Int), ()), (), (l, a, x, ()), (), ((0:Int), ()), (b, ()), ()) = some (.inl ((), (), (l, a, x, ()), (), (acc (WO l a x b) x.length, ()), (b, ()), ())):=by
  refine itr_brk (fun i=>((x, (x.length:Int), (i:Int), ()), (), (l, a, x, ()), (), (acc (WO l a x b) i, ()), (b, ()), ())) (n:=x.length) ?_ ?_ (lt_rounds (by omega))
  · intro i hi
    have hh:l.getD i (0, 0, false, ()) = el l i:=rfl
    have hk:x.getD i (0, false, ()) = sl x i:=rfl
    have hs1:=hs i hi
    have w:st b (sl x i) = b - (sl x i).1:=wrap64_id (by omega) (by omega)
    have e:=f102_eq l a x b i (by omega) (by omega)
    simp only [s129_0_3, t129_0_3, Tr.val_test, Tr.val_fin, leF_eq, Int.toNat_natCast, hh, hk, g102, e, Option.isSome_some, Option.getD_some, if_true, wrap64_nat (show i ≤ 9223372036854775806 by omega), acc]
    rw [if_pos (by simp; omega), if_pos (by simp; omega), if_pos (by simp; omega)]
  · simp [s129_0_3, t129_0_3, leF_eq]
theorem l129l (l:List ELs) (a:Int) (x:List SLs) (b:Int) (h:x.length ≤ l.length) (hl:l.length ≤ 1000000) (hb:-10000 ≤ b ∧ b ≤ 10000) (hs:∀ i, i < x.length → -10000 ≤ (sl x i).1 ∧ (sl x i).1 ≤ 10000) (hy:∀ i, i < l.length → 1 ≤ (el l i).2.1 ∧ (el l i).2.1 ≤ 1000) :
    l129_0_4 ((x, (x.length:Int), (0:Int), ()), (), (l, a, x, ()), (), ((0:Int), ()), (b, ()), ()) = some (.inl ((), (), (l, a, x, ()), (), (acc (LO l x b) x.length, ()), (b, ()), ())):=by
  refine itr_brk (fun i=>((x, (x.length:Int), (i:Int), ()), (), (l, a, x, ()), (), (acc (LO l x b) i, ()), (b, ()), ())) (n:=x.length) ?_ ?_ (lt_rounds (by omega))
  · intro i hi
    have hh:l.getD i (0, 0, false, ()) = el l i:=rfl
    have hk:x.getD i (0, false, ()) = sl x i:=rfl
    have e:=f104_eq l a x b i hb (hs i hi) (hy i (by omega))
    simp only [s129_0_4, t129_0_4, Tr.val_test, Tr.val_fin, leF_eq, Int.toNat_natCast, hh, hk, g104, e, Option.isSome_some, Option.getD_some, if_true, wrap64_nat (show i ≤ 9223372036854775806 by omega), acc]
    rw [if_pos (by simp; omega), if_pos (by simp; omega), if_pos (by simp; omega)]
  · simp [s129_0_4, t129_0_4, leF_eq]
theorem l129w0 (b:Int):l129_0_3 (([], (0:Int), (0:Int), ()), (), ([], 0, [], ()), (), ((0:Int), ()), (b, ()), ()) = some (.inl ((), (), ([], 0, [], ()), (), ((0:Int), ()), (b, ()), ())) :=
  itr_brk (step:=s129_0_3) (fun i=>(([], (0:Int), (i:Int), ()), (), ([], 0, [], ()), (), ((0:Int), ()), (b, ()), ())) (n:=0) (fun i hi=>by omega) (by simp [s129_0_3, t129_0_3, leF_eq]) (lt_rounds (by omega))
theorem l129l0 (b:Int):l129_0_4 (([], (0:Int), (0:Int), ()), (), ([], 0, [], ()), (), ((0:Int), ()), (b, ()), ()) = some (.inl ((), (), ([], 0, [], ()), (), ((0:Int), ()), (b, ()), ())) :=
  itr_brk (step:=s129_0_4) (fun i=>(([], (0:Int), (i:Int), ()), (), ([], 0, [], ()), (), ((0:Int), ()), (b, ()), ())) (n:=0) (fun i hi=>by omega) (by simp [s129_0_4, t129_0_4, leF_eq]) (lt_rounds (by omega))
theorem f28_eq (l:List ELs) (a:Int) (x:List SLs) (b:Int) (h:l.length ≤ 100000):f28 (l, (a, x, ()), b, ()) =
    some (if sp l a x (pE b) = 0 then ((acc (WO l a x b) l.length, acc (LO l x b) l.length, ()), 0, ()) else ((0, 0, ()), sp l a x (pE b), ())):=by
  have e0:=f91_eq b
  have e1:=f95_eq l a x [pE b] (by omega) (by simp)
  have e2:firstNZ [pE b] = pE b:=by simp only [firstNZ]; split <;> simp_all
  rw [e2] at e1
  simp only [f28, t28, Tr.val_test, Tr.val_fin, g91, e0, g95, e1, Option.isSome_some, Option.getD_some, if_true]
  by_cases h0:sp l a x (pE b) = 0
  · obtain ⟨h1, h2⟩:=nz2 h0
    obtain ⟨h3, h4⟩:=cSH_zero h1
    have hx:=(cH_zero h4)
    have hv:=(cS_zero h3).2.2
    have hb:=pE_zero h2
    have hs:∀ i, i < x.length → -10000 ≤ (sl x i).1 ∧ (sl x i).1 ≤ 10000:=fun i hi=>(hE_zero (hx.2.2 i (by omega))).1
    have e3:=l129w l a x b (by omega) (by omega) hb hs
    have e4:=l129l l a x b (by omega) (by omega) hb hs fun i hi=>by have:=hv i hi; omega
    rw [hx.2.1] at e3 e4
    simp only [if_pos h0, hx.2.1, e3, b129_0_3, e4, b129_0_4, isBrk, outB, if_true]
  · have e3:=l129w0 b
    have e4:=l129l0 b
    simp only [if_neg h0, List.length_nil, Int.natCast_zero, e3, b129_0_3, e4, b129_0_4, isBrk, outB, if_true]
theorem l38 (l:List ELs) (a:Int) (x:List SLs) (b:Int) (h:x.length = l.length) (hl:l.length ≤ 100000) (hb:-10000 ≤ b ∧ b ≤ 10000) (hs:∀ i, i < l.length → -10000 ≤ (sl x i).1 ∧ (sl x i).1 ≤ 10000) :
    l38_0 ((l, b, (0:Int), ()), (a, x, ()), ((0:Int), (0:Int), ()), ((0:Int), (0:Int), ()), ()) = some (.inl ((), (a, x, ()), ((0:Int), (0:Int), ()), (acc (WO l a x b) l.length, acc (LO l x b) l.length, ()), ())):=by
  refine itr_brk (fun i=>((l, b, (i:Int), ()), (a, x, ()), ((0:Int), (0:Int), ()), (acc (WO l a x b) i, acc (LO l x b) i, ()), ())) (n:=l.length) ?_ ?_ (lt_rounds (by omega))
  · intro i hi
    have hh:l.getD i (0, 0, false, ()) = el l i:=rfl
    have hk:x.getD i (0, false, ()) = sl x i:=rfl
    have hstb:wrap64 (b - (sl x i).1) = st b (sl x i):=rfl
    have hsta:wrap64 (a - (sl x i).1) = st a (sl x i):=rfl
    have hb1:=hs i hi
    have w:st b (sl x i) = b - (sl x i).1:=wrap64_id (by omega) (by omega)
    have e:=f86_eq (st b (sl x i)) (by omega) (by omega)
    have hg:decide (sz (st b (sl x i)) ≤ (el l i).2.1) = wi (-(el l i).2.1) (el l i).2.1 (st b (sl x i)):=by rw [← sz_le, leF_eq]
    have hlt:(decide ((0:Int) ≤ (i:Int)) && decide ((i:Int) < (l.length:Int))) = true:=dA (by omega) (by omega)
    simp only [s38_0, t38_0, Tr.val_test, Tr.val_fin, leF_eq, Int.toNat_natCast, hh, hk, hstb, hsta, g86, e, hg, hlt, Option.isSome_some, Option.getD_some, if_true, wrap64_nat (show i ≤ 9223372036854775806 by omega)]
    rw [if_pos (by simp; omega), if_pos (by simp; omega)]
    rcases Bool.eq_false_or_eq_true (sl x i).2.1 with hq | hq
    · rw [acc_zero (F:=WO l a x b) (by unfold WO; rw [if_pos hq]), acc_zero (F:=LO l x b) (by unfold LO; rw [if_pos hq])]
      rw [hq, if_pos rfl]
    · rcases Bool.eq_false_or_eq_true (wi (-(el l i).2.1) (el l i).2.1 (st b (sl x i))) with hw | hw
      · rw [acc_zero (F:=LO l x b) (by unfold LO; rw [if_neg (by simp [hq]), if_pos hw])]
        simp only [acc, WO, hq, hw, Bool.false_eq_true, if_false, if_true, wC]
      · rcases Bool.eq_false_or_eq_true (el l i).2.2.1 with hr | hr
        · simp only [acc, WO, LO, hq, hw, hr, Bool.false_eq_true, if_false, if_true, wC]
        · simp only [acc, WO, LO, hq, hw, hr, Bool.false_eq_true, if_false, if_true, wD]
  · simp [s38_0, t38_0, leF_eq]
theorem f38_eq (l:List ELs) (a:Int) (x:List SLs) (b:Int) (h:x.length = l.length) (hl:l.length ≤ 100000) (hb:-10000 ≤ b ∧ b ≤ 10000) (hs:∀ i, i < l.length → -10000 ≤ (sl x i).1 ∧ (sl x i).1 ≤ 10000) :
    f38 (l, (a, x, ()), b, ()) = some ((acc (WO l a x b) l.length, acc (LO l x b) l.length, ()), ()):=by
  simp only [f38, t38, Tr.val_test, Tr.val_fin, l38 l a x b h hl hb hs, b38_0, isBrk, outB, if_true]
def s0 (l:List ELs):List SLs:=List.replicate l.length ((0:Int), false, ())
theorem s0_len (l:List ELs):(s0 l).length = l.length:=by simp [s0]
theorem s0_get (l:List ELs) (i:Nat):sl (s0 l) i = ((0:Int), false, ()):=by
  unfold sl s0
  simp [List.getD, List.getElem?_replicate]
  split <;> rfl
theorem mvl_len (l:List ELs) (x:List SLs) (a:Int) (n:Nat):(lst (MV l x a) n).length = n:=lst_len _ _
def bB (l:List ELs) (a:Int):Int:=acc (FO l a (lst (MV l (s0 l) a) l.length)) l.length
theorem f29_eq (l:List ELs) (a:Int) (h:l.length ≤ 100000):f29 (l, a, ()) = some (if firstNZ [(cS l).2.1, pE a] = 0 then (bB l a, 0, ()) else (0, firstNZ [(cS l).2.1, pE a], ())):=by
  have e1:=f21_eq l (by omega)
  have e2:=f91_eq a
  have e3:=f73_two (cS l).2.1 (pE a)
  simp only [f29, t29, Tr.val_test, Tr.val_fin, eqF_eq, g21, e1, g91, e2, g73, e3, Option.isSome_some, Option.getD_some, if_true]
  by_cases h0:firstNZ [(cS l).2.1, pE a] = 0
  · obtain ⟨h1, h2⟩:=nz2 h0
    have hv:=(cS_zero h1).2.2
    have e4:f105 (l, ()) = some ((l, (0, s0 l, ()), ()), ()):=f105_eq l (by omega)
    have e5:=f100_eq l 0 (s0 l) a (by rw [s0_len]; omega) h fun i hi=>by have:=hv i hi; omega
    have e6:=f96_eq l a (lst (MV l (s0 l) a) l.length) (by rw [lst_len]; omega) (by omega)
    rw [s0_len] at e5
    rw [lst_len] at e6
    simp only [if_pos h0, g105, e4, g100, e5, g96, e6, Option.isSome_some, Option.getD_some, if_true]
    rw [if_neg (by simp [h0])]
    rfl
  · simp only [if_neg h0]
    rw [if_pos (by simp [h0])]
end Go.Vm.Mo

namespace Go.Vm.Mo
open Go
set_option linter.unusedVariables false
set_option linter.unusedSimpArgs false
theorem f31_self (a:Int) (l:List SLs) (h:l.length ≤ 1000000):f31 ((a, l, ()), (a, l, ()), ()) = some (true, ()):=by
  have key:l31_0 (((0:Int), ()), (a, l, ()), (a, l, ()), ()) = some (.inl ((), (a, l, ()), (a, l, ()), ())):=by
    refine itr_brk (fun i=>(((i:Int), ()), (a, l, ()), (a, l, ()), ())) (n:=l.length) ?_ ?_ (lt_rounds (by omega))
    · intro i hi
      simp only [s31_0, t31_0, Tr.val_test, Tr.val_fin, leF_eq, Int.toNat_natCast, beq_self_eq_true, Bool.and_self, Bool.not_true, Bool.false_eq_true, if_false, wrap64_nat (show i ≤ 9223372036854775806 by omega)]
      rw [if_pos (by simp; omega), if_pos (by simp; omega), if_pos (by simp; omega)]
    · simp [s31_0, t31_0, leF_eq]
  simp only [f31, t31, Tr.val_test, Tr.val_fin, key, isRet, eqF_eq, decide_true, Bool.not_true, Bool.false_eq_true, if_false, Option.isSome_some, if_true]
theorem f20_eq (l:List ELs) (a:Int) (x:List SLs):f20 (l, (a, x, ()), ()) = some (decide (l.length ≤ 6) && decide (x.length ≤ 6), ()):=by
  simp only [f20, t20, Tr.val_test, Tr.val_fin, leF_eq]
  by_cases h:l.length ≤ 6
  · rw [dT h, dT (show (l.length:Int) ≤ 6 by omega), if_pos rfl]
    by_cases h2:x.length ≤ 6
    · rw [dT h2, dT (show (x.length:Int) ≤ 6 by omega)]; rfl
    · rw [dF h2, dF (show ¬ (x.length:Int) ≤ 6 by omega)]; rfl
  · rw [dF h, dF (show ¬ (l.length:Int) ≤ 6 by omega)]; rfl
theorem f5_all (l:List ELs) (a:Int) (x:List SLs) (b:Int):f5 (l, (a, x, ()), b, ()) = some (true, ()):=by
  have e20:=f20_eq l a x
  simp only [f5, t5, Tr.val_test, Tr.val_fin, g20, e20, eqF_eq, Option.isSome_some, Option.getD_some, if_true]
  rcases Bool.eq_false_or_eq_true (decide (l.length ≤ 6) && decide (x.length ≤ 6)) with hb | hb
  · simp only [Bool.and_eq_true, decide_eq_true_eq] at hb
    obtain ⟨h6, hx6⟩:=hb
    have e22:=f22_eq l (by omega)
    have e21:=f21_eq l (by omega)
    have e24:=f24_eq a x (by omega)
    have e23:=f23_eq l a x (by omega)
    have e25:=f25_eq l a x (by omega)
    have e26:=f26_eq l a x (by omega)
    have e27:=f27_eq l a x b (by omega)
    have e28:=f28_eq l a x b (by omega)
    have e29:=f29_eq l b (by omega)
    have e30:=f30_eq l (by omega)
    have e32:=f32_eq b
    have e36:=f36_eq l a x (by omega)
    simp only [dT h6, dT hx6, Bool.and_self, Bool.not_true, Bool.false_eq_true, if_false, g22, e22, g21, e21, g24, e24, g23, e23, g25, e25, g26, e26, g27, e27, g28, e28, g29, e29, g30, e30, Option.isSome_some, Option.getD_some, if_true, decide_true]
    have e31:=f31_self 0 [] (by simp)
    by_cases hc:(cS l).2.1 = 0
    · simp only [dT hc, Bool.not_true, Bool.false_eq_true, if_false, g32, e32, Option.isSome_some, Option.getD_some, if_true]
      have hcs:cSH l a x = cH l a x:=by unfold cSH; rw [if_pos hc]
      have hz:firstNZ [(cS l).2.1, pE b] = pE b:=by
        simp only [firstNZ, hc, if_true]
        by_cases hp:pE b = 0
        · rw [if_pos hp, hp]
        · rw [if_neg hp]
      have hsp:sp l a x (pE b) = firstNZ [(cH l a x).2.1, pE b]:=by unfold sp; rw [hcs]
      simp only [hz, hcs, hsp, g36, e36, Option.isSome_some, Option.getD_some, if_true, decide_true, Bool.not_true, Bool.false_eq_true, if_false]
      by_cases hh:(cH l a x).2.1 = 0
      · obtain ⟨ha, hx, he⟩:=cH_zero hh
        have e33:=f33_eq l a x hx (by omega)
        have e37:=f37_eq l a x hx (by omega)
        have hs:∀ i, i < l.length → -10000 ≤ (sl x i).1 ∧ (sl x i).1 ≤ 10000:=fun i hi=>(hE_zero (he i hi)).1
        have hf:firstNZ [(cH l a x).2.1, pE b] = pE b:=by
          simp only [firstNZ, hh, if_true]
          by_cases hp:pE b = 0
          · rw [if_pos hp, hp]
          · rw [if_neg hp]
        by_cases hp:pE b = 0
        · have hbb:=pE_zero hp
          have e34:=f34_eq l a x b hx (by omega) hbb hs
          have e38:=f38_eq l a x b hx (by omega) hbb hs
          have e35:=f35_eq l (by omega)
          have e31b:=f31_self b (lst (MV l x b) l.length) (by rw [lst_len]; omega)
          have e34z:=f34_eq l 0 (s0 l) b (s0_len l) (by omega) hbb (fun i _=>by rw [s0_get]; omega)
          have e33z:=f33_eq l b (lst (MV l (s0 l) b) l.length) (lst_len _ _) (by omega)
          have e35':f35 (l, ()) = some ((0, s0 l, ()), ()):=e35
          have hf0:firstNZ [(0:Int), 0] = 0:=rfl
          simp only [hf, hf0, hh, hp, dT hp, dT hh, if_true, decide_true, Bool.not_true, Bool.false_eq_true, if_false, g33, e33, g37, e37, g34, e34, g38, e38, g35, e35', e34z, e33z, g31, e31b, bB, beq_self_eq_true, Bool.and_self, Option.isSome_some, Option.getD_some]
        · have hf0:firstNZ [(0:Int), pE b] = pE b:=by simp only [firstNZ, if_true]; rw [if_neg hp]
          simp only [hf, hf0, hh, if_neg hp, dF hp, if_true, decide_true, Bool.not_true, Bool.not_false, Bool.false_eq_true, if_false, g33, e33, g37, e37, g31, e31, beq_self_eq_true, Bool.and_self, Option.isSome_some, Option.getD_some, List.length_nil]
      · have hf:firstNZ [(cH l a x).2.1, pE b] = (cH l a x).2.1:=by simp only [firstNZ]; rw [if_neg hh]
        by_cases hp:pE b = 0
        · have hbb:=pE_zero hp
          have e35:=f35_eq l (by omega)
          have e35':f35 (l, ()) = some ((0, s0 l, ()), ()):=e35
          have e34z:=f34_eq l 0 (s0 l) b (s0_len l) (by omega) hbb (fun i _=>by rw [s0_get]; omega)
          have e33z:=f33_eq l b (lst (MV l (s0 l) b) l.length) (lst_len _ _) (by omega)
          have hf0:firstNZ [(cH l a x).2.1, 0] = (cH l a x).2.1:=by simp only [firstNZ]; rw [if_neg hh]
          simp only [hf, hf0, hp, dT hp, if_neg hh, dF hh, if_true, decide_true, Bool.not_true, Bool.not_false, Bool.false_eq_true, if_false, g34, g35, e35', e34z, g33, e33z, bB, g31, e31, beq_self_eq_true, Bool.and_self, Option.isSome_some, Option.getD_some]
        · simp only [hf, if_neg hp, dF hp, if_neg hh, dF hh, if_true, decide_true, Bool.not_true, Bool.not_false, Bool.false_eq_true, if_false, g31, e31, beq_self_eq_true, Bool.and_self, Option.isSome_some, Option.getD_some]
    · have hcs:cSH l a x = cS l:=by unfold cSH; rw [if_neg hc]
      have hz:firstNZ [(cS l).2.1, pE b] = (cS l).2.1:=by simp only [firstNZ]; rw [if_neg hc]
      have hsp:sp l a x (pE b) = (cS l).2.1:=by unfold sp; rw [hcs]; exact hz
      simp only [hcs, hz, hsp, if_neg hc, dF hc, Bool.not_false, if_true, decide_true, g31, e31, beq_self_eq_true, Bool.and_self, Option.isSome_some, Option.getD_some]
  · simp only [hb, Bool.not_false, if_true]
theorem law5 (d:Tys.data as5) (hw:Tys.Wf as5 d):Pure1 Go.Proofs.Try.prog 5 as5 [.bool] d (true, ()):=by
  have h:=f5_all d.1 d.2.1.1 d.2.1.2.1 d.2.2.1
  have hp:p5.pre d = true:=by
    show Option.isSome (f5 d) = true
    rw [show f5 d = some (true, ()) from h]; rfl
  have hg:p5.fn d = (true, ()):=by
    show (f5 d).getD _ = _
    rw [show f5 d = some (true, ()) from h]; rfl
  have:=ok5.runs d hp
  rw [hg] at this
  exact this
end Go.Vm.Mo
