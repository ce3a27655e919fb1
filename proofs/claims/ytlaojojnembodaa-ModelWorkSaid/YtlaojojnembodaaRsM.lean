import Derived.Test.YtlaojojnembodaaRsFb
import Derived.Test.YtlaojojnembodaaA5
set_option linter.unusedVariables false
set_option linter.unusedSimpArgs false

namespace Go.Vm.Mo
open Go
set_option linter.unusedVariables false
set_option linter.unusedSimpArgs false
theorem dT {p:Prop} [Decidable p] (h:p):decide p = true:=decide_eq_true h
theorem dF {p:Prop} [Decidable p] (h:¬ p):decide p = false:=decide_eq_false h
theorem nT {p:Prop} [Decidable p] (h:¬ p):(!decide p) = true:=by rw [decide_eq_false h]; rfl
theorem nF {p:Prop} [Decidable p] (h:p):(!decide p) = false:=by rw [decide_eq_true h]; rfl
theorem dA {p q:Prop} [Decidable p] [Decidable q] (h:p) (k:q):(decide p && decide q) = true:=by rw [decide_eq_true h, decide_eq_true k]; rfl
theorem first_map (bad:Nat → Bool):∀ (n i:Nat), first bad n (i + 1) = (first (fun k=>bad (k + 1)) n i).map (· + 1)
  | 0, _=>rfl
  | n + 1, i=>by
    simp only [first]
    split
    · rfl
    · exact first_map bad n (i + 1)
def firstNZ:List Int → Int
  | []=>0
  | a :: l=>if a = 0 then firstNZ l else a
theorem firstNZ_eq:∀ l:List Int, (match first (fun i=>!decide (l.getD i 0 = 0)) l.length 0 with
    | some k=>l.getD k 0
    | none=>0) = firstNZ l
  | []=>rfl
  | a :: l=>by
    simp only [List.length, first, firstNZ]
    by_cases ha:a = 0
    · subst ha
      have e:=firstNZ_eq l
      have hf:first (fun i=>!decide (((0:Int) :: l).getD i 0 = 0)) l.length (0 + 1) = (first (fun i=>!decide (l.getD i 0 = 0)) l.length 0).map (· + 1):=by
        rw [first_map]; rfl
      simp only [hf, List.getD_cons_zero, decide_true, Bool.not_true, Bool.false_eq_true, if_false, if_true]
      rw [← e]
      cases first (fun i=>!decide (l.getD i 0 = 0)) l.length 0 with
      | none=>rfl
      | some k=>rfl
    · simp [ha]
theorem l73 (l:List Int) (h:l.length ≤ 1000000000):l73_0 ((l, (l.length:Int), (0:Int), ()), ()) = match first (fun i=>!decide (l.getD i 0 = 0)) l.length 0 with
    | some k=>some (.inr ((l.getD k 0, ()), ()))
    | none=>some (.inl ((), ())):=by
  refine itr_search (fun i=>((l, (l.length:Int), (i:Int), ()), ())) (fun i=>!decide (l.getD i 0 = 0)) (fun k=>((l.getD k 0, ()), ())) (n:=l.length) ?_ ?_ (lt_rounds (by omega))
  · intro i hi
    simp only [s73_0, t73_0, Tr.val_test, leF_eq, eqF_eq]
    rw [if_pos (by simp; omega), if_pos (by simp; omega)]
    simp only [Int.toNat_natCast, wrap64_nat (show i ≤ 9223372036854775806 by omega)]
    rfl
  · simp [s73_0, t73_0, leF_eq]
theorem f73_eq (l:List Int) (h:l.length ≤ 1000000000):f73 (l, ()) = some (firstNZ l, ()):=by
  simp only [f73, t73, Tr.val_test, r73_0, l73 l h, ← firstNZ_eq l]
  cases first (fun i=>!decide (l.getD i 0 = 0)) l.length 0 with
  | none=>rfl
  | some k=>rfl
theorem f74_eq (d:Tys.data as74):f74 d = some (if d.1 = true then d.2.1 else (0:Int), ()):=by
  simp only [f74, t74, Tr.val_test]
  split <;> rfl
def wi (lo hi x:Int):Bool:=decide (lo ≤ x) && decide (x ≤ hi)
theorem wi_iff {lo hi x:Int}:wi lo hi x = true ↔ lo ≤ x ∧ x ≤ hi:=by simp [wi]
theorem f40_eq (d:Tys.data as40):f40 d = some (wi d.2.1 d.2.2.1 d.1, ()):=by
  simp only [f40, t40, Tr.val_test, Tr.val_fin, leF_eq, decide_eq_true_eq, wi]
  split <;> simp [*]
theorem l72 (lo hi:Int) (l:List Int) (h:l.length ≤ 1000000000):l72_0 ((lo, hi, l, (l.length:Int), (0:Int), ()), ()) = match first (fun i=>!wi lo hi (l.getD i 0)) l.length 0 with
    | some _=>some (.inr ((false, ()), ()))
    | none=>some (.inl ((), ())):=by
  refine itr_search (fun i=>((lo, hi, l, (l.length:Int), (i:Int), ()), ())) (fun i=>!wi lo hi (l.getD i 0)) (fun _=>((false, ()), ())) (n:=l.length) ?_ ?_ (lt_rounds (by omega))
  · intro i hi'
    simp only [s72_0, t72_0, Tr.val_test, Tr.val_fin, leF_eq, Int.toNat_natCast, wrap64_nat (show i ≤ 9223372036854775806 by omega)]
    rw [if_pos (by simp; omega), if_pos (by simp; omega)]
    by_cases a0:lo ≤ l.getD i 0
    · by_cases a1:l.getD i 0 ≤ hi
      · simp only [wi, a0, a1, decide_true, Bool.and_self, Bool.not_true, if_true, if_false, Bool.false_eq_true]
      · simp only [wi, a0, a1, decide_true, decide_false, Bool.and_false, Bool.not_false, Bool.not_true, if_true, if_false, Bool.false_eq_true]
    · simp only [wi, a0, decide_false, Bool.false_and, Bool.not_false, if_true, if_false, Bool.false_eq_true]
  · simp [s72_0, t72_0, leF_eq]
theorem f72_eq (lo hi:Int) (l:List Int) (h:l.length ≤ 1000000000):f72 (lo, hi, l, ()) = some ((first (fun i=>!wi lo hi (l.getD i 0)) l.length 0).isNone, ()):=by
  have hl:=l72 lo hi l h
  cases hf:first (fun i=>!wi lo hi (l.getD i 0)) l.length 0 with
  | none =>
    rw [hf] at hl
    simp only [f72, t72, Tr.val_test, Tr.val_fin, hl, isRet, Option.isSome_some, Option.isNone_none, if_true, Bool.false_eq_true, if_false]
  | some k =>
    rw [hf] at hl
    simp only [f72, t72, Tr.val_test, Tr.val_fin, hl, isRet, r72_0, outR, Option.isSome_some, Option.isNone_some, if_true]
theorem f72_one (lo hi a:Int):f72 (lo, hi, [a], ()) = some (wi lo hi a, ()):=by
  rw [f72_eq lo hi _ (by simp)]
  simp only [first, List.length, List.getD_cons_zero]
  by_cases h1:wi lo hi a = true
  · simp [h1]
  · simp [h1]
theorem f72_two (lo hi a b:Int):f72 (lo, hi, [a, b], ()) = some (wi lo hi a && wi lo hi b, ()):=by
  rw [f72_eq lo hi _ (by simp)]
  simp only [first, List.length, List.getD_cons_zero, List.getD_cons_succ]
  by_cases h1:wi lo hi a = true
  · by_cases h2:wi lo hi b = true
    · simp [h1, h2]
    · simp [h1, h2]
  · simp [h1]
theorem wn64 {x:Int} (h1:-9223372036854775807 ≤ x) (h2:x ≤ 9223372036854775807):IntKind.wrap .i64 (0 - x) = -x:=by
  rw [← wrap64_eq, wrap64_id (by omega) (by omega)]
  omega
theorem isSome_first {bad:Nat → Bool} {n:Nat}:(first bad n 0).isSome = true ↔ ∃ i, i < n ∧ bad i = true:=by
  cases h:first bad n 0 with
  | none =>
    simp only [Option.isSome_none, Bool.false_eq_true, false_iff]
    rintro ⟨i, hi, hb⟩
    rw [first_none h i (by omega) (by omega)] at hb; cases hb
  | some k =>
    obtain ⟨_, h2, h3, _⟩:=first_some h
    simp only [Option.isSome_some, true_iff]
    exact ⟨k, by omega, h3⟩
theorem isNone_first {bad:Nat → Bool} {n:Nat}:(first bad n 0).isNone = true ↔ ∀ i, i < n → bad i = false:=by
  cases h:first bad n 0 with
  | none =>
    simp only [Option.isNone_none, true_iff]
    exact fun i hi=>first_none h i (by omega) (by omega)
  | some k =>
    obtain ⟨_, h2, h3, _⟩:=first_some h
    simp only [Option.isNone_some, Bool.false_eq_true, false_iff]
    intro hb
    rw [hb k (by omega)] at h3; cases h3
def firstE (e:Nat → Int) (n:Nat):Int:=match first (fun i=>!decide (e i = 0)) n 0 with
  | some k=>e k
  | none=>0
theorem firstE_zero {e:Nat → Int} {n:Nat} (h:firstE e n = 0):∀ i, i < n → e i = 0:=by
  intro i hi
  unfold firstE at h
  cases hf:first (fun i=>!decide (e i = 0)) n 0 with
  | none=>simpa using first_none hf i (by omega) (by omega)
  | some k =>
    rw [hf] at h
    obtain ⟨_, _, k3, _⟩:=first_some hf
    have h:e k = 0:=h
    simp [h] at k3
theorem firstE_of {e:Nat → Int} {n:Nat} (h:∀ i, i < n → e i = 0):firstE e n = 0:=by
  unfold firstE
  rw [first_of_none fun i _ hi=>by simp [h i (by omega)]]
theorem f73_two (a b:Int):f73 ([a, b], ()) = some (firstNZ [a, b], ()):=f73_eq _ (by simp)
theorem f73_three (a b c:Int):f73 ([a, b, c], ()) = some (firstNZ [a, b, c], ()):=f73_eq _ (by simp)
theorem nz2 {a b:Int} (h:firstNZ [a, b] = 0):a = 0 ∧ b = 0:=by
  simp only [firstNZ] at h
  by_cases ha:a = 0
  · rw [if_pos ha] at h
    by_cases hb:b = 0
    · exact ⟨ha, hb⟩
    · rw [if_neg hb] at h; exact absurd h hb
  · rw [if_neg ha] at h; exact absurd h ha
def acc (F:Nat → Int):Nat → Int
  | 0=>0
  | n + 1=>wrap64 (acc F n + F n)
theorem acc_congr {F G:Nat → Int}:∀ {n:Nat}, (∀ i, i < n → F i = G i) → acc F n = acc G n
  | 0, _=>rfl
  | n + 1, h=>by simp only [acc]; rw [acc_congr fun i hi=>h i (by omega), h n (by omega)]
theorem acc_in (F:Nat → Int):∀ n, wrap64 (acc F n) = acc F n
  | 0=>by show wrap64 0 = 0; decide
  | n + 1=>wrap64_wrap64 _
theorem acc_zero {F:Nat → Int} {n:Nat} (h:F n = 0):acc F (n + 1) = acc F n:=by
  simp only [acc, h, Int.add_zero]; exact acc_in F n
def sz (x:Int):Int:=if x < -x then -x else x
theorem f86_eq (x:Int) (h:-9223372036854775807 ≤ x) (h2:x ≤ 9223372036854775807):f86 (x, ()) = some (sz x, ()):=by
  simp only [f86, t86, Tr.val_fin, wn64 h h2, sz]
theorem f119_eq (x:Int) (h:-9223372036854775807 ≤ x) (h2:x ≤ 9223372036854775807):f119 (x, ()) = some (sz x, ()):=by
  simp only [f119, t119, Tr.val_fin, wn64 h h2, sz]
theorem sz_gt {x y:Int}:(!leF (sz x) y) = !wi (-y) y x:=by
  rw [leF_eq]
  unfold wi sz
  by_cases hx:x < -x
  · rw [if_pos hx]
    by_cases h1:-x ≤ y
    · rw [dT h1, dT (show -y ≤ x by omega), dT (show x ≤ y by omega)]; rfl
    · rw [dF h1, dF (show ¬ -y ≤ x by omega)]; rfl
  · rw [if_neg hx]
    by_cases h1:x ≤ y
    · rw [dT h1, dT (show -y ≤ x by omega)]; rfl
    · rw [dF h1, Bool.and_false]
theorem sz_le {x y:Int}:leF (sz x) y = wi (-y) y x:=by
  have:=sz_gt (x:=x) (y:=y)
  cases h1:leF (sz x) y <;> cases h2:wi (-y) y x <;> simp_all
theorem f126_one (b x:Int) (h0:0 ≤ b) (h1:b ≤ 9223372036854775807):f126 (b, [x], ()) = some (!wi (-b) b x, ()):=by
  have e:=f72_one (-b) b x
  simp only [f126, t126, Tr.val_test, Tr.val_fin, g72, wn64 (show -9223372036854775807 ≤ b by omega) h1, e, Option.isSome_some, Option.getD_some, if_true]
theorem f74_if (b:Bool) (e:Int):f74 (b, e, ()) = some (if b = true then e else 0, ()):=f74_eq _
def pE (x:Int):Int:=if wi (-10000) 10000 x = true then 0 else 2
theorem pE_if (x:Int):(if (!wi (-10000) 10000 x) = true then (2:Int) else 0) = pE x:=by
  unfold pE
  cases wi (-10000) 10000 x <;> rfl
theorem f110_one (b x:Int) (h0:0 ≤ b) (h1:b ≤ 9223372036854775807):f110 (b, [x], ()) = some (if (!wi (-b) b x) = true then (2:Int) else 0, ()):=by
  have e:=f126_one b x h0 h1
  have e2:=f74_if (!wi (-b) b x) 2
  simp only [f110, t110, Tr.val_test, Tr.val_fin, g126, g74, e, e2, Option.isSome_some, Option.getD_some, if_true]
theorem f91_eq (x:Int):f91 (x, ()) = some (pE x, ()):=by
  have e:=f110_one 10000 x (by decide) (by decide)
  rw [pE_if] at e
  simp only [f91, t91, Tr.val_test, Tr.val_fin, g110, e, Option.isSome_some, Option.getD_some, if_true]
theorem f40_wi (lo hi x:Int):f40 (x, lo, hi, ()) = some (wi lo hi x, ()):=f40_eq _
theorem f32_eq (x:Int):f32 (x, ()) = some (pE x, ()):=by
  have e:=f40_wi (-10000) 10000 x
  simp only [f32, t32, Tr.val_test, Tr.val_fin, g40, e, Option.isSome_some, Option.getD_some, if_true, pE]
  cases wi (-10000) 10000 x <;> rfl
theorem f127_eq (d:Tys.data as127):f127 d = some (wrap64 (d.1.2.2.1 - d.1.2.1.1), ()):=by
  simp only [f127, t127, Tr.val_fin]
theorem f22_eq (l:List (Int×Int×Bool×Unit)) (h:l.length ≤ 100000):f22 (l, ()) = some (l, ()):=by
  simp only [f22, t22, Tr.val_test, Tr.val_fin, List.nil_append]
  rw [if_pos (by simp only [Bool.and_eq_true, ble_eq_true']; omega)]
theorem f24_eq (a:Int) (l:List (Int×Bool×Unit)) (h:l.length ≤ 100000):f24 ((a, l, ()), ()) = some ((a, l, ()), ()):=by
  simp only [f24, t24, Tr.val_test, Tr.val_fin, List.nil_append]
  rw [if_pos (by simp only [Bool.and_eq_true, ble_eq_true']; omega)]
def el (l:List (Int×Int×Bool×Unit)) (i:Nat):Int×Int×Bool×Unit:=l.getD i (0, 0, false, ())
def sl (l:List (Int×Bool×Unit)) (i:Nat):Int×Bool×Unit:=l.getD i (0, false, ())
def eE (l:List (Int×Int×Bool×Unit)) (i:Nat):Int:=if (wi 1 1000 (el l i).1 && wi 1 1000 (el l i).2.1) = true then 0 else 2
theorem l89 (l:List (Int×Int×Bool×Unit)) (h:l.length ≤ 1000000):l89_0 ((l, (l.length:Int), (0:Int), ()), ()) = match first (fun i=>!decide (eE l i = 0)) l.length 0 with
    | some k=>some (.inr (((k:Int), eE l k, ()), ()))
    | none=>some (.inl ((), ())):=by
  refine itr_search (fun i=>((l, (l.length:Int), (i:Int), ()), ())) (fun i=>!decide (eE l i = 0)) (fun k=>(((k:Int), eE l k, ()), ())) (n:=l.length) ?_ ?_ (lt_rounds (by omega))
  · intro i hi
    have e1:=f72_two 1 1000 (el l i).1 (el l i).2.1
    have e2:=f74_if (!(wi 1 1000 (el l i).1 && wi 1 1000 (el l i).2.1)) 2
    simp only [el] at e1 e2
    simp only [s89_0, t89_0, Tr.val_test, leF_eq, eqF_eq, Int.toNat_natCast, g72, g74, e1, e2, Option.isSome_some, Option.getD_some, if_true, wrap64_nat (show i ≤ 9223372036854775806 by omega)]
    rw [if_pos (by simp; omega), if_pos (by simp; omega)]
    simp only [eE, el]
    rcases Bool.eq_false_or_eq_true (wi 1 1000 (l.getD i (0, 0, false, ())).1 && wi 1 1000 (l.getD i (0, 0, false, ())).2.1) with hb | hb <;> simp only [hb] <;> rfl
  · simp [s89_0, t89_0, leF_eq]
def cE (most:Nat) (n:Nat) (e:Nat → Int):Int×Int×Unit :=
  if n = 0 then (0, 10, ()) else if most < n then (0, 8, ()) else match first (fun i=>!decide (e i = 0)) n 0 with
    | some k=>((k:Int), e k, ())
    | none=>(0, 0, ())
def cS (l:List (Int×Int×Bool×Unit)):Int×Int×Unit:=cE 4 l.length (eE l)
theorem f88_eq (n m:Nat):f88 ((n:Int), (m:Int), ()) = some (if n = 0 then 10 else if m < n then 8 else 0, ()):=by
  have e1:=f74_if (decide ((n:Int) = 0)) 10
  have e2:=f74_if (!decide ((n:Int) ≤ (m:Int))) 8
  have e3:=f73_two
  simp only [f88, t88, Tr.val_test, Tr.val_fin, eqF_eq, leF_eq, g74, g73, e1, e2, e3, Option.isSome_some, Option.getD_some, if_true]
  by_cases h0:n = 0
  · subst h0; simp [firstNZ]
  · by_cases h1:m < n
    · rw [if_neg h0, if_pos h1, dF (show ¬ (n:Int) = 0 by omega), dF (show ¬ (n:Int) ≤ (m:Int) by omega)]; simp [firstNZ]
    · rw [if_neg h0, if_neg h1, dF (show ¬ (n:Int) = 0 by omega), dT (show (n:Int) ≤ (m:Int) by omega)]; simp [firstNZ]
theorem f21_eq (l:List (Int×Int×Bool×Unit)) (h:l.length ≤ 1000000):f21 (l, ()) = some (cS l):=by
  have e1:f88 ((l.length:Int), (4:Int), ()) = _:=f88_eq l.length 4
  have e2:=l89 l h
  simp only [f21, t21, Tr.val_test, Tr.val_fin, eqF_eq, g88, e1, e2, Option.isSome_some, Option.getD_some, if_true, cS, cE, r89_0]
  by_cases h0:l.length = 0
  · simp only [if_pos h0]; rfl
  · simp only [if_neg h0]
    by_cases h1:4 < l.length
    · simp only [if_pos h1]; rfl
    · simp only [if_neg h1]
      cases first (fun i=>!decide (eE l i = 0)) l.length 0 with
      | none=>rfl
      | some k=>rfl
theorem l30 (l:List (Int×Int×Bool×Unit)) (h:l.length ≤ 1000000):l30_0 ((l, (0:Int), ()), ()) = match first (fun i=>!decide (eE l i = 0)) l.length 0 with
    | some k=>some (.inr (((k:Int), eE l k, ()), ()))
    | none=>some (.inl ((), ())):=by
  refine itr_search (fun i=>((l, (i:Int), ()), ())) (fun i=>!decide (eE l i = 0)) (fun k=>(((k:Int), eE l k, ()), ())) (n:=l.length) ?_ ?_ (lt_rounds (by omega))
  · intro i hi
    have e1:=f40_wi 1 1000 (el l i).1
    have e2:=f40_wi 1 1000 (el l i).2.1
    simp only [el] at e1 e2
    simp only [s30_0, t30_0, Tr.val_test, leF_eq, eqF_eq, Int.toNat_natCast, g40, e1, e2, Option.isSome_some, Option.getD_some, if_true, wrap64_nat (show i ≤ 9223372036854775806 by omega)]
    rw [if_pos (by simp; omega), if_pos (by simp; omega)]
    simp only [eE, el]
    rcases Bool.eq_false_or_eq_true (wi 1 1000 (l.getD i (0, 0, false, ())).1) with hb | hb <;> rcases Bool.eq_false_or_eq_true (wi 1 1000 (l.getD i (0, 0, false, ())).2.1) with hc | hc <;> simp only [hb, hc] <;> rfl
  · simp [s30_0, t30_0, leF_eq]
theorem f30_eq (l:List (Int×Int×Bool×Unit)) (h:l.length ≤ 1000000):f30 (l, ()) = some (cS l):=by
  have e2:=l30 l h
  simp only [f30, t30, Tr.val_test, Tr.val_fin, eqF_eq, leF_eq, e2, Option.isSome_some, Option.getD_some, if_true, cS, cE, r30_0]
  by_cases h0:l.length = 0
  · rw [if_pos h0, if_pos (by simp [h0])]
  · rw [if_neg h0, if_neg (by simpa using h0)]
    by_cases h1:4 < l.length
    · rw [if_pos h1, if_pos (by simp; omega)]
    · rw [if_neg h1, if_neg (by simp; omega)]
      cases first (fun i=>!decide (eE l i = 0)) l.length 0 with
      | none=>rfl
      | some k=>rfl
theorem cE_zero {m n:Nat} {e:Nat → Int} (h:(cE m n e).2.1 = 0):0 < n ∧ n ≤ m ∧ ∀ i, i < n → e i = 0:=by
  unfold cE at h
  split at h
  · cases h
  · split at h
    · cases h
    · refine ⟨by omega, by omega, fun i hi=>?_⟩
      cases hf:first (fun i=>!decide (e i = 0)) n 0 with
      | none=>simpa using first_none hf i (by omega) (by omega)
      | some k =>
        rw [hf] at h
        obtain ⟨_, _, k3, _⟩:=first_some hf
        have h:e k = 0:=h
        simp [h] at k3
theorem cS_zero {l:List (Int×Int×Bool×Unit)} (h:(cS l).2.1 = 0):0 < l.length ∧ l.length ≤ 4 ∧ ∀ i, i < l.length → 1 ≤ (el l i).1 ∧ (el l i).1 ≤ 1000 ∧ 1 ≤ (el l i).2.1 ∧ (el l i).2.1 ≤ 1000:=by
  obtain ⟨h1, h2, h3⟩:=cE_zero h
  refine ⟨h1, h2, fun i hi=>?_⟩
  have:=h3 i hi
  unfold eE at this
  split at this
  · rename_i hw
    simp only [Bool.and_eq_true, wi_iff] at hw
    omega
  · cases this
end Go.Vm.Mo

namespace Go.Vm.Mo
open Go
set_option linter.unusedVariables false
set_option linter.unusedSimpArgs false
def lst {α:Type} (F:Nat → α) (n:Nat):List α:=(List.range n).map F
theorem lst_succ {α:Type} (F:Nat → α) (n:Nat):lst F (n + 1) = lst F n++[F n]:=by simp [lst, List.range_succ]
theorem lst_len {α:Type} (F:Nat → α) (n:Nat):(lst F n).length = n:=by simp [lst]
theorem lst_get {α:Type} (F:Nat → α) {n i:Nat} (d:α) (h:i < n):(lst F n).getD i d = F i:=by simp [lst, List.getD, h]
theorem wrap64_pred {i:Nat} (h:0 < i) (h2:i ≤ 9223372036854775806):wrap64 ((i:Int) - 1) = ((i - 1:Nat):Int):=by
  rw [wrap64_id (by omega) (by omega)]; omega
theorem mk_ok {n:Nat} (k:Int) (h:k * (n:Int) ≤ 281474976710656) (h2:(n:Int) ≤ 281474976710656):(decide ((0:Int) ≤ (n:Int)) && decide ((n:Int) ≤ (n:Int)) && decide (k * (n:Int) ≤ (281474976710656:Int)) && decide ((n:Int) ≤ (281474976710656:Int))) = true:=by
  simp only [Bool.and_eq_true, decide_eq_true_eq]; omega
theorem f35_eq (l:List (Int×Int×Bool×Unit)) (h:l.length ≤ 1000000):f35 (l, ()) = some ((0, List.replicate l.length ((0:Int), false, ()), ()), ()):=by
  simp only [f35, t35, Tr.val_test, Tr.val_fin, Int.toNat_natCast]
  rw [if_pos (mk_ok 16 (by omega) (by omega)), if_pos (by rw [beq_eq_true', List.length_replicate])]
abbrev ELs:=Int×Int×Bool×Unit
abbrev SLs:=Int×Bool×Unit
def st (at_:Int) (s:SLs):Int:=wrap64 (at_ - s.1)
def hE (l:List ELs) (a:Int) (x:List SLs) (i:Nat):Int :=
  firstNZ [pE (sl x i).1, if ((sl x i).2.1 && !(el l i).2.2.1 || (el l i).2.2.1 && !decide ((sl x i).1 = 0)) = true then 3 else 0,
    if (!(sl x i).2.1 && !wi (-(el l i).2.1) (el l i).2.1 (st a (sl x i))) = true then 22 else 0]
theorem f94_eq (k y:Int) (br:Bool) (s:Int) (bk:Bool) (a:Int) (h0:0 ≤ y) (h1:y ≤ 9223372036854775807):f94 (((k, y, br, ()), (s, bk, ()), a, ()), ()) =
    some (firstNZ [pE s, if (bk && !br || br && !decide (s = 0)) = true then 3 else 0, if (!bk && !wi (-y) y (wrap64 (a - s))) = true then 22 else 0], ()):=by
  have e1:=f91_eq s
  have e2:=fun b=>f74_if b 3
  have e3:=fun b=>f74_if b 22
  have e4:=f126_one y (wrap64 (a - s)) h0 h1
  have e5:=f73_three
  have e6:f127 (((k, y, br, ()), (s, bk, ()), a, ()), ()) = some (wrap64 (a - s), ()):=f127_eq _
  simp only [f94, t94, Tr.val_test, Tr.val_fin, eqF_eq, g91, g74, g73, g126, g127, e1, e2, e3, e4, e5, e6, Option.isSome_some, Option.getD_some, if_true]
  cases bk <;> cases br <;> simp only [Bool.not_true, Bool.not_false, Bool.true_and, Bool.false_and, Bool.or_false, Bool.false_or, Bool.false_eq_true, if_true, if_false, Bool.and_false, Bool.and_true]
theorem hE_f {l:List ELs} {x:List SLs} {a:Int} {i:Nat} (h0:0 ≤ (el l i).2.1) (h1:(el l i).2.1 ≤ 9223372036854775807) :
    f94 ((((el l i).1, (el l i).2.1, (el l i).2.2.1, ()), ((sl x i).1, (sl x i).2.1, ()), a, ()), ()) = some (hE l a x i, ()):=f94_eq _ _ _ _ _ _ h0 h1
theorem l92 (l:List ELs) (a:Int) (x:List SLs) (hx:x.length = l.length) (h:l.length ≤ 1000000) (hy:∀ i, i < l.length → 1 ≤ (el l i).2.1 ∧ (el l i).2.1 ≤ 1000) :
    l92_0 ((x, (x.length:Int), (0:Int), ()), (l, ()), (a, x, ()), ()) = match first (fun i=>!decide (hE l a x i = 0)) l.length 0 with
    | some k=>some (.inr (((k:Int), hE l a x k, ()), (l, ()), (a, x, ()), ()))
    | none=>some (.inl ((), (l, ()), (a, x, ()), ())):=by
  refine itr_search (fun i=>((x, (x.length:Int), (i:Int), ()), (l, ()), (a, x, ()), ())) (fun i=>!decide (hE l a x i = 0)) (fun k=>(((k:Int), hE l a x k, ()), (l, ()), (a, x, ()), ())) (n:=l.length) ?_ ?_ (lt_rounds (by omega))
  · intro i hi
    have hh:l.getD i (0, 0, false, ()) = el l i:=rfl
    have hk:x.getD i (0, false, ()) = sl x i:=rfl
    have b:=hy i hi
    have e:=hE_f (l:=l) (x:=x) (a:=a) (i:=i) (by omega) (by omega)
    simp only [s92_0, t92_0, Tr.val_test, Tr.val_fin, leF_eq, eqF_eq, Int.toNat_natCast, hh, hk, g94, e, Option.isSome_some, Option.getD_some, if_true, wrap64_nat (show i ≤ 9223372036854775806 by omega)]
    rw [if_pos (by simp; omega), if_pos (by simp; omega), if_pos (by simp; omega)]
  · simp [s92_0, t92_0, leF_eq, hx]
def cH (l:List ELs) (a:Int) (x:List SLs):Int×Int×Unit :=
  if pE a = 0 then if x.length = l.length then match first (fun i=>!decide (hE l a x i = 0)) l.length 0 with
    | some k=>((k:Int), hE l a x k, ())
    | none=>(0, 0, ())
  else (0, 10, ()) else (0, pE a, ())
def cSH (l:List ELs) (a:Int) (x:List SLs):Int×Int×Unit:=if (cS l).2.1 = 0 then cH l a x else cS l
theorem f23_eq (l:List ELs) (a:Int) (x:List SLs) (h:l.length ≤ 1000000):f23 (l, (a, x, ()), ()) = some (cSH l a x):=by
  have e1:=f21_eq l h
  have e2:=f91_eq a
  have e3:=f74_if (!decide ((x.length:Int) = (l.length:Int))) 10
  have e4:=f73_two
  simp only [f23, t23, Tr.val_test, Tr.val_fin, eqF_eq, g21, g91, g74, g73, e1, e2, e3, e4, Option.isSome_some, Option.getD_some, if_true, cSH]
  by_cases hc:(cS l).2.1 = 0
  · rw [if_neg (by simp [hc]), if_pos hc]
    have hv:=cS_zero hc
    simp only [cH]
    by_cases hp:pE a = 0
    · by_cases hx:x.length = l.length
      · have e5:=l92 l a x hx h fun i hi=>by have:=hv.2.2 i hi; omega
        rw [if_pos hp, if_pos hx, dT (show (x.length:Int) = (l.length:Int) by omega)]
        simp only [hp, firstNZ, Bool.not_true, Bool.false_eq_true, if_false, if_true, decide_true, e5, r92_0]
        cases first (fun i=>!decide (hE l a x i = 0)) l.length 0 with
        | none=>rfl
        | some k=>rfl
      · rw [if_pos hp, if_neg hx, dF (show ¬ (x.length:Int) = (l.length:Int) by omega)]
        simp only [hp, firstNZ, Bool.not_false, if_true]
        rfl
    · have:firstNZ [pE a, if (!decide ((x.length:Int) = (l.length:Int))) = true then 10 else 0] = pE a:=by simp only [firstNZ]; rw [if_neg hp]
      rw [if_neg hp, this, if_pos (by simp [hp])]
  · rw [if_pos (by simp [hc]), if_neg hc]
theorem pE_zero {x:Int} (h:pE x = 0):-10000 ≤ x ∧ x ≤ 10000:=by
  unfold pE at h
  split at h
  · rename_i hw; exact wi_iff.1 hw
  · cases h
theorem pE_ne {x:Int} (h:pE x ≠ 0):pE x = 2:=by
  unfold pE at h ⊢
  split at h
  · exact absurd rfl h
  · rename_i hw; rw [if_neg hw]
theorem l36 (l:List ELs) (a:Int) (x:List SLs) (ha:pE a = 0) (hx:x.length = l.length) (h:l.length ≤ 1000000) :
    l36_0 ((l, (0:Int), ()), (a, x, ()), ()) = match first (fun i=>!decide (hE l a x i = 0)) l.length 0 with
    | some k=>some (.inr (((k:Int), hE l a x k, ()), (a, x, ()), ()))
    | none=>some (.inl ((), (a, x, ()), ())):=by
  refine itr_search (fun i=>((l, (i:Int), ()), (a, x, ()), ())) (fun i=>!decide (hE l a x i = 0)) (fun k=>(((k:Int), hE l a x k, ()), (a, x, ()), ())) (n:=l.length) ?_ ?_ (lt_rounds (by omega))
  · intro i hi
    have hh:l.getD i (0, 0, false, ()) = el l i:=rfl
    have hk:x.getD i (0, false, ()) = sl x i:=rfl
    have e:=f32_eq (sl x i).1
    simp only [s36_0, t36_0, Tr.val_test, Tr.val_fin, leF_eq, eqF_eq, Int.toNat_natCast, hh, hk, g32, e, Option.isSome_some, Option.getD_some, if_true, wrap64_nat (show i ≤ 9223372036854775806 by omega)]
    rw [if_pos (by simp; omega), if_pos (by simp; omega)]
    have hE':hE l a x i = firstNZ [pE (sl x i).1, if ((sl x i).2.1 && !(el l i).2.2.1 || (el l i).2.2.1 && !decide ((sl x i).1 = 0)) = true then 3 else 0,
      if (!(sl x i).2.1 && !wi (-(el l i).2.1) (el l i).2.1 (wrap64 (a - (sl x i).1))) = true then 22 else 0]:=rfl
    by_cases hp:pE (sl x i).1 = 0
    · have b1:=pE_zero hp
      have b2:=pE_zero ha
      have w:wrap64 (a - (sl x i).1) = a - (sl x i).1:=wrap64_id (by omega) (by omega)
      have e8:=f86_eq (a - (sl x i).1) (by omega) (by omega)
      rw [w] at hE'
      have hlt:(decide ((0:Int) ≤ (i:Int)) && decide ((i:Int) < (l.length:Int))) = true:=dA (by omega) (by omega)
      have hg:leF (sz (a - (sl x i).1)) (el l i).2.1 = wi (-(el l i).2.1) (el l i).2.1 (a - (sl x i).1):=sz_le
      have hg':decide (sz (a - (sl x i).1) ≤ (el l i).2.1) = wi (-(el l i).2.1) (el l i).2.1 (a - (sl x i).1):=by rw [← hg, leF_eq]
      rw [hE']
      simp only [hp, w, g86, e8, hlt, hg', decide_true, Bool.not_true, Bool.false_eq_true, if_false, if_true, Option.isSome_some, Option.getD_some, firstNZ]
      rcases Bool.eq_false_or_eq_true (sl x i).2.1 with hb | hb <;> rcases Bool.eq_false_or_eq_true (el l i).2.2.1 with hc | hc <;> rcases Bool.eq_false_or_eq_true (decide ((sl x i).1 = 0)) with hd | hd <;>
        rcases Bool.eq_false_or_eq_true (wi (-(el l i).2.1) (el l i).2.1 (a - (sl x i).1)) with hw | hw <;>
        simp only [hb, hc, hd, hw, Bool.not_true, Bool.not_false, Bool.true_and, Bool.false_and, Bool.or_false, Bool.false_or, Bool.false_eq_true, if_true, if_false, Bool.and_false, Bool.and_true] <;> rfl
    · rw [hE']
      simp only [firstNZ, if_neg hp]
      rw [dF hp]
      rfl
  · simp [s36_0, t36_0, leF_eq]
theorem f36_eq (l:List ELs) (a:Int) (x:List SLs) (h:l.length ≤ 1000000):f36 (l, (a, x, ()), ()) = some (cH l a x):=by
  have e1:=f32_eq a
  simp only [f36, t36, Tr.val_test, Tr.val_fin, eqF_eq, g32, e1, Option.isSome_some, Option.getD_some, if_true, cH]
  by_cases hp:pE a = 0
  · rw [if_pos hp, if_neg (by simp [hp])]
    by_cases hx:x.length = l.length
    · have e5:=l36 l a x hp hx h
      rw [if_pos hx, if_neg (by simp; omega)]
      simp only [e5, r36_0]
      cases first (fun i=>!decide (hE l a x i = 0)) l.length 0 with
      | none=>rfl
      | some k=>rfl
    · rw [if_neg hx, if_pos (by simp; omega)]
  · rw [if_neg hp, if_pos (by simp [hp])]
theorem cH_zero {l:List ELs} {a:Int} {x:List SLs} (h:(cH l a x).2.1 = 0):(-10000 ≤ a ∧ a ≤ 10000) ∧ x.length = l.length ∧ ∀ i, i < l.length → hE l a x i = 0:=by
  unfold cH at h
  split at h
  · rename_i hp
    split at h
    · rename_i hx
      refine ⟨pE_zero hp, hx, fun i hi=>?_⟩
      cases hf:first (fun i=>!decide (hE l a x i = 0)) l.length 0 with
      | none=>simpa using first_none hf i (by omega) (by omega)
      | some k =>
        rw [hf] at h
        obtain ⟨_, _, k3, _⟩:=first_some hf
        have h:hE l a x k = 0:=h
        simp [h] at k3
    · cases h
  · rename_i hp
    exact absurd h hp
theorem hE_zero {l:List ELs} {a:Int} {x:List SLs} {i:Nat} (h:hE l a x i = 0):(-10000 ≤ (sl x i).1 ∧ (sl x i).1 ≤ 10000) ∧ ((sl x i).2.1 = false → wi (-(el l i).2.1) (el l i).2.1 (st a (sl x i)) = true) ∧
    ((el l i).2.2.1 = true → (sl x i).1 = 0) ∧ ((sl x i).2.1 = true → (el l i).2.2.1 = true):=by
  unfold hE firstNZ at h
  by_cases h1:pE (sl x i).1 = 0
  · rw [if_pos h1] at h
    refine ⟨pE_zero h1, ?_⟩
    simp only [firstNZ] at h
    rcases Bool.eq_false_or_eq_true (sl x i).2.1 with hb | hb <;> rcases Bool.eq_false_or_eq_true (el l i).2.2.1 with hc | hc <;> by_cases h0:(sl x i).1 = 0 <;> rcases Bool.eq_false_or_eq_true (wi (-(el l i).2.1) (el l i).2.1 (st a (sl x i))) with hw | hw <;> simp_all
  · rw [if_neg h1] at h; exact absurd h h1
end Go.Vm.Mo

namespace Go.Vm.Mo
open Go
set_option linter.unusedVariables false
set_option linter.unusedSimpArgs false
theorem f128_eq (k y:Int) (br:Bool) (s:Int) (bk:Bool) (a:Int):f128 (((k, y, br, ()), (s, bk, ()), a, ()), ()) = some (if bk = true then 0 else wrap64 (k * wrap64 (a - s)), ()):=by
  have e6:f127 (((k, y, br, ()), (s, bk, ()), a, ()), ()) = some (wrap64 (a - s), ()):=f127_eq _
  simp only [f128, t128, Tr.val_test, Tr.val_fin, g127, e6, Option.isSome_some, Option.getD_some, if_true]
  cases bk <;> rfl
def EN (l:List ELs) (a:Int) (x:List SLs) (i:Nat):Int:=if (sl x i).2.1 = true then 0 else wrap64 (wrap64 ((el l i).1 * st a (sl x i)) * st a (sl x i))
theorem f99_eq (k y:Int) (br:Bool) (s:Int) (bk:Bool) (a:Int):f99 (((k, y, br, ()), (s, bk, ()), a, ()), ()) = some (if bk = true then 0 else wrap64 (wrap64 (k * wrap64 (a - s)) * wrap64 (a - s)), ()):=by
  have e6:f127 (((k, y, br, ()), (s, bk, ()), a, ()), ()) = some (wrap64 (a - s), ()):=f127_eq _
  have e7:=f128_eq k y br s bk a
  simp only [f99, t99, Tr.val_test, Tr.val_fin, g127, g128, e6, e7, Option.isSome_some, Option.getD_some, if_true]
  cases bk
  · rfl
  · simp only [if_true, Int.zero_mul]; rfl
theorem l129e (l:List ELs) (a:Int) (x:List SLs) (h:x.length ≤ l.length) (hl:l.length ≤ 1000000) :
    l129_0 ((x, (x.length:Int), (0:Int), ()), (), (l, a, x, ()), (), ((0:Int), ()), ()) = some (.inl ((), (), (l, a, x, ()), (), (acc (EN l a x) x.length, ()), ())):=by
  refine itr_brk (fun i=>((x, (x.length:Int), (i:Int), ()), (), (l, a, x, ()), (), (acc (EN l a x) i, ()), ())) (n:=x.length) ?_ ?_ (lt_rounds (by omega))
  · intro i hi
    have hh:l.getD i (0, 0, false, ()) = el l i:=rfl
    have hk:x.getD i (0, false, ()) = sl x i:=rfl
    have e:=f99_eq (el l i).1 (el l i).2.1 (el l i).2.2.1 (sl x i).1 (sl x i).2.1 a
    simp only [s129_0, t129_0, Tr.val_test, Tr.val_fin, leF_eq, Int.toNat_natCast, hh, hk, g99, e, Option.isSome_some, Option.getD_some, if_true, wrap64_nat (show i ≤ 9223372036854775806 by omega), acc]
    rw [if_pos (by simp; omega), if_pos (by simp; omega), if_pos (by simp; omega)]
    rfl
  · simp [s129_0, t129_0, leF_eq]
def sp (l:List ELs) (a:Int) (x:List SLs) (e:Int):Int:=firstNZ [(cSH l a x).2.1, e]
theorem f95_eq (l:List ELs) (a:Int) (x:List SLs) (es:List Int) (h:l.length ≤ 1000000) (he:es.length ≤ 1000):f95 (l, (a, x, ()), es, ()) =
    some (if sp l a x (firstNZ es) = 0 then ((l, (a, x, ()), ()), 0, ()) else (([], (0, [], ()), ()), sp l a x (firstNZ es), ())):=by
  have e1:=f23_eq l a x h
  have e2:=f73_eq es (by omega)
  have e3:=f73_two (cSH l a x).2.1 (firstNZ es)
  rw [show firstNZ [(cSH l a x).2.1, firstNZ es] = sp l a x (firstNZ es) from rfl] at e3
  simp only [f95, t95, Tr.val_test, Tr.val_fin, eqF_eq, g23, g73, e1, e2, e3, Option.isSome_some, Option.getD_some, if_true]
  by_cases h0:sp l a x (firstNZ es) = 0
  · rw [if_pos h0, if_neg (by simp [h0])]
  · rw [if_neg h0, if_pos (by simp [h0])]
theorem sp_nil (l:List ELs) (a:Int) (x:List SLs):sp l a x (firstNZ []) = (cSH l a x).2.1:=by
  unfold sp
  simp only [firstNZ]
  by_cases h:(cSH l a x).2.1 = 0
  · rw [if_pos h, h]; rfl
  · rw [if_neg h]
theorem cSH_zero {l:List ELs} {a:Int} {x:List SLs} (h:(cSH l a x).2.1 = 0):(cS l).2.1 = 0 ∧ (cH l a x).2.1 = 0:=by
  unfold cSH at h
  split at h
  · rename_i hc; exact ⟨hc, h⟩
  · rename_i hc; exact absurd h hc
theorem f26_eq (l:List ELs) (a:Int) (x:List SLs) (h:l.length ≤ 1000000):f26 (l, (a, x, ()), ()) = some (if (cSH l a x).2.1 = 0 then (acc (EN l a x) l.length, 0, ()) else (0, (cSH l a x).2.1, ())):=by
  have e1:=f95_eq l a x [] h (by simp)
  rw [sp_nil] at e1
  simp only [f26, t26, Tr.val_test, Tr.val_fin, g95, e1, Option.isSome_some, Option.getD_some, if_true]
  by_cases h0:(cSH l a x).2.1 = 0
  · have hx:=(cH_zero (cSH_zero h0).2).2.1
    have e:=l129e l a x (by omega) h
    rw [hx] at e
    simp only [if_pos h0, hx, e, b129_0, isBrk, outB, if_true]
  · have e:=l129e [] 0 [] (by simp) (by simp)
    simp only [List.length_nil, Int.natCast_zero] at e
    simp only [if_neg h0, List.length_nil, Int.natCast_zero, e, b129_0, isBrk, outB, if_true, acc]
def MV (l:List ELs) (x:List SLs) (a:Int) (i:Nat):SLs :=
  if (sl x i).2.1 = true then ((sl x i).1, (sl x i).2.1, ()) else if wi (-(el l i).2.1) (el l i).2.1 (st a (sl x i)) = true then ((sl x i).1, (sl x i).2.1, ())
  else if (el l i).2.2.1 = true then (0, true, ()) else if 0 < st a (sl x i) then (wrap64 (a - (el l i).2.1), (sl x i).2.1, ()) else (wrap64 (a + (el l i).2.1), (sl x i).2.1, ())
theorem f130_eq (l:List ELs) (x:List SLs) (b a:Int) (i:Nat) (h0:0 ≤ (el l i).2.1) (h1:(el l i).2.1 ≤ 9223372036854775807) :
    f130 ((((el l i).1, (el l i).2.1, (el l i).2.2.1, ()), ((sl x i).1, (sl x i).2.1, ()), b, ()), a, ()) = some ((((el l i).1, (el l i).2.1, (el l i).2.2.1, ()), ((MV l x a i).1, (MV l x a i).2.1, ()), a, ()), ()):=by
  have e6:f127 ((((el l i).1, (el l i).2.1, (el l i).2.2.1, ()), ((sl x i).1, (sl x i).2.1, ()), a, ()), ()) = some (st a (sl x i), ()):=f127_eq _
  have e4:=f126_one (el l i).2.1 (st a (sl x i)) h0 h1
  simp only [f130, t130, Tr.val_test, Tr.val_fin, leF_eq, g127, g126, e6, e4, Option.isSome_some, Option.getD_some, if_true, MV]
  rcases Bool.eq_false_or_eq_true (sl x i).2.1 with hb | hb
  · simp only [hb, if_true]
  · rcases Bool.eq_false_or_eq_true (wi (-(el l i).2.1) (el l i).2.1 (st a (sl x i))) with hw | hw
    · simp only [hb, hw, Bool.false_eq_true, if_false, Bool.not_true, Bool.not_false, if_true]
    · rcases Bool.eq_false_or_eq_true (el l i).2.2.1 with hr | hr
      · simp only [hb, hw, hr, Bool.false_eq_true, if_false, Bool.not_true, Bool.not_false, if_true]
      · by_cases hp:0 < st a (sl x i)
        · simp only [hb, hw, hr, Bool.false_eq_true, if_false, Bool.not_true, Bool.not_false, if_true, if_pos hp, dF (show ¬ st a (sl x i) ≤ 0 by omega)]
        · simp only [hb, hw, hr, Bool.false_eq_true, if_false, Bool.not_true, Bool.not_false, if_true, if_neg hp, dT (show st a (sl x i) ≤ 0 by omega)]
theorem l129m (l:List ELs) (b:Int) (x:List SLs) (a:Int) (h:x.length ≤ l.length) (hl:l.length ≤ 100000) (hy:∀ i, i < l.length → 1 ≤ (el l i).2.1 ∧ (el l i).2.1 ≤ 1000) :
    l129_0_1 ((x, (x.length:Int), (0:Int), ()), (), (l, b, x, ()), (a, ()), (l, a, [], ()), ()) = some (.inl ((), (), (l, b, x, ()), (a, ()), (l, a, lst (MV l x a) x.length, ()), ())):=by
  refine itr_brk (fun i=>((x, (x.length:Int), (i:Int), ()), (), (l, b, x, ()), (a, ()), (l, a, lst (MV l x a) i, ()), ())) (n:=x.length) ?_ ?_ (lt_rounds (by omega))
  · intro i hi
    have hh:l.getD i (0, 0, false, ()) = el l i:=rfl
    have hk:x.getD i (0, false, ()) = sl x i:=rfl
    have y:=hy i (by omega)
    have e:=f130_eq l x b a i (by omega) (by omega)
    rw [lst_succ]
    simp only [s129_0_1, t129_0_1, Tr.val_test, Tr.val_fin, leF_eq, Int.toNat_natCast, hh, hk, g130, e, Option.isSome_some, Option.getD_some, if_true, lst_len, wrap64_nat (show i ≤ 9223372036854775806 by omega)]
    rw [if_pos (by simp; omega), if_pos (by simp; omega), if_pos (by simp; omega), if_pos (by simp only [Bool.and_eq_true, ble_eq_true']; omega)]
  · simp [s129_0_1, t129_0_1, leF_eq]
theorem f100_eq (l:List ELs) (b:Int) (x:List SLs) (a:Int) (h:x.length ≤ l.length) (hl:l.length ≤ 100000) (hy:∀ i, i < l.length → 1 ≤ (el l i).2.1 ∧ (el l i).2.1 ≤ 1000) :
    f100 ((l, (b, x, ()), ()), a, ()) = some ((l, (a, lst (MV l x a) x.length, ()), ()), ()):=by
  simp only [f100, t100, Tr.val_test, Tr.val_fin, l129m l b x a h hl hy, b129_0_1, isBrk, outB, if_true]
theorem f27_eq (l:List ELs) (b:Int) (x:List SLs) (a:Int) (h:l.length ≤ 100000):f27 (l, (b, x, ()), a, ()) = some (if sp l b x (pE a) = 0 then ((a, lst (MV l x a) l.length, ()), 0, ()) else ((0, [], ()), sp l b x (pE a), ())):=by
  have e0:=f91_eq a
  have e1:=f95_eq l b x [pE a] (by omega) (by simp)
  have e2:firstNZ [pE a] = pE a:=by simp only [firstNZ]; split <;> simp_all
  rw [e2] at e1
  simp only [f27, t27, Tr.val_test, Tr.val_fin, eqF_eq, g91, e0, g95, e1, Option.isSome_some, Option.getD_some, if_true]
  by_cases h0:sp l b x (pE a) = 0
  · obtain ⟨h1, h2⟩:=nz2 h0
    obtain ⟨h3, h4⟩:=cSH_zero h1
    have hx:=(cH_zero h4).2.1
    have hv:=(cS_zero h3).2.2
    have e3:=f100_eq l b x a (by omega) h fun i hi=>by have:=hv i hi; omega
    simp only [if_pos h0, g100, e3, Option.isSome_some, Option.getD_some, if_true, hx]
    rw [if_neg (by simp)]
  · simp only [if_neg h0]
    rw [if_pos (by simp [h0])]
end Go.Vm.Mo

namespace Go.Vm.Mo
open Go
set_option linter.unusedVariables false
set_option linter.unusedSimpArgs false
theorem sz_sq (x:Int):sz x * sz x = x * x:=by unfold sz; split <;> simp [Int.neg_mul_neg]
def WO (l:List ELs) (a:Int) (x:List SLs) (b:Int) (i:Nat):Int :=
  if (sl x i).2.1 = true then 0 else if wi (-(el l i).2.1) (el l i).2.1 (st b (sl x i)) = true then wrap64 ((el l i).1 * (st b (sl x i) * st b (sl x i) - st a (sl x i) * st a (sl x i)))
  else if (el l i).2.2.1 = true then wrap64 ((el l i).1 * ((el l i).2.1 * (el l i).2.1 - st a (sl x i) * st a (sl x i)))
  else wrap64 ((el l i).1 * ((el l i).2.1 * (el l i).2.1 - st a (sl x i) * st a (sl x i)) + 2 * (el l i).1 * (el l i).2.1 * (sz (st b (sl x i)) - (el l i).2.1))
def LO (l:List ELs) (x:List SLs) (b:Int) (i:Nat):Int :=
  if (sl x i).2.1 = true then 0 else if wi (-(el l i).2.1) (el l i).2.1 (st b (sl x i)) = true then 0
  else if (el l i).2.2.1 = true then wrap64 (wrap64 ((el l i).1 * (el l i).2.1) * (el l i).2.1)
  else wrap64 (wrap64 (wrap64 (2 * (el l i).1) * (el l i).2.1) * wrap64 (sz (st b (sl x i)) - (el l i).2.1))
theorem wA (k h e:Int):wrap64 (wrap64 (wrap64 (k * h) * h) - wrap64 (wrap64 (k * e) * e)) = wrap64 (k * (h * h - e * e)):=by
  simp only [wrap64_mul_l, wrap64_sub_l, wrap64_sub_r]
  rw [Int.mul_sub, Int.mul_assoc, Int.mul_assoc]
theorem wB (k h e y s:Int):wrap64 (wrap64 (wrap64 (wrap64 (k * h) * h) - wrap64 (wrap64 (k * e) * e)) + wrap64 (wrap64 (wrap64 (2 * k) * y) * wrap64 s)) = wrap64 (k * (h * h - e * e) + 2 * k * y * s):=by
  rw [wA]
  simp only [wrap64_mul_l, wrap64_mul_r, wrap64_add_l, wrap64_add_r]
theorem wC (k d e:Int):wrap64 (k * wrap64 (wrap64 (d * d) - wrap64 (e * e))) = wrap64 (k * (d * d - e * e)):=by
  simp only [wrap64_mul_r, wrap64_sub_l, wrap64_sub_r]
theorem wD (c k d e y s:Int):wrap64 (wrap64 (c + wrap64 (k * wrap64 (wrap64 (d * d) - wrap64 (e * e)))) + wrap64 (wrap64 (wrap64 (2 * k) * y) * wrap64 s)) = wrap64 (c + wrap64 (k * (d * d - e * e) + 2 * k * y * s)):=by
  rw [wC]
  simp only [wrap64_mul_l, wrap64_mul_r, wrap64_add_l, wrap64_add_r]
  rw [Int.add_assoc]
theorem f102_eq (l:List ELs) (a:Int) (x:List SLs) (b:Int) (i:Nat) (hb:-9223372036854775807 ≤ st b (sl x i)) (hb2:st b (sl x i) ≤ 9223372036854775807) :
    f102 ((((el l i).1, (el l i).2.1, (el l i).2.2.1, ()), ((sl x i).1, (sl x i).2.1, ()), a, ()), b, ()) = some (WO l a x b i, ()):=by
  have hst:wrap64 (b - (sl x i).1) = st b (sl x i):=rfl
  have e1:=f119_eq (st b (sl x i)) hb hb2
  have e2:=f99_eq (el l i).1 (el l i).2.1 (el l i).2.2.1 (sl x i).1 (sl x i).2.1 a
  rw [show wrap64 (a - (sl x i).1) = st a (sl x i) from rfl] at e2
  simp only [f102, t102, Tr.val_test, Tr.val_fin, hst, g119, g99, e1, e2, Option.isSome_some, Option.getD_some, if_true, WO]
  rcases Bool.eq_false_or_eq_true (sl x i).2.1 with hk | hk
  · simp only [hk, if_true]
  · have hw:=sz_le (x:=st b (sl x i)) (y:=(el l i).2.1)
    rw [leF_eq] at hw
    rcases Bool.eq_false_or_eq_true (wi (-(el l i).2.1) (el l i).2.1 (st b (sl x i))) with hq | hq
    · rw [hq] at hw
      have hle:=of_decide_eq_true hw
      have h1:¬ (el l i).2.1 < sz (st b (sl x i)):=by omega
      rcases Bool.eq_false_or_eq_true (el l i).2.2.1 with hr | hr
      · simp only [hk, hq, hr, Bool.false_eq_true, if_false, if_true, if_neg h1, wA, sz_sq]
      · simp only [hk, hq, hr, Bool.false_eq_true, if_false, if_true, if_neg h1, wB, sz_sq, Int.sub_self, Int.mul_zero, Int.add_zero]
    · rw [hq] at hw
      have hle:=of_decide_eq_false hw
      have h1:(el l i).2.1 < sz (st b (sl x i)):=by omega
      rcases Bool.eq_false_or_eq_true (el l i).2.2.1 with hr | hr
      · simp only [hk, hq, hr, Bool.false_eq_true, if_false, if_true, if_pos h1, wA]
      · simp only [hk, hq, hr, Bool.false_eq_true, if_false, if_true, if_pos h1, wB]
theorem sz_zero:sz 0 = 0:=rfl
theorem f104_eq (l:List ELs) (a:Int) (x:List SLs) (b:Int) (i:Nat) (hb:-10000 ≤ b ∧ b ≤ 10000) (hs:-10000 ≤ (sl x i).1 ∧ (sl x i).1 ≤ 10000) (hy:1 ≤ (el l i).2.1 ∧ (el l i).2.1 ≤ 1000) :
    f104 ((((el l i).1, (el l i).2.1, (el l i).2.2.1, ()), ((sl x i).1, (sl x i).2.1, ()), a, ()), b, ()) = some (LO l x b i, ()):=by
  have w:st b (sl x i) = b - (sl x i).1:=wrap64_id (by omega) (by omega)
  have e0:=f130_eq l x a b i (by omega) (by omega)
  have hm:∀ s:Int, -20000 ≤ s → s ≤ 20000 → f119 (wrap64 (s - (sl x i).1), ()) = some (sz (s - (sl x i).1), ()):=by
    intro s h1 h2
    rw [wrap64_id (by omega) (by omega)]
    exact f119_eq _ (by omega) (by omega)
  simp only [f104, t104, Tr.val_test, Tr.val_fin, g130, e0, Option.isSome_some, Option.getD_some, if_true, LO]
  rcases Bool.eq_false_or_eq_true (sl x i).2.1 with hk | hk
  · have hmv:MV l x b i = ((sl x i).1, (sl x i).2.1, ()):=by unfold MV; rw [if_pos hk]
    have e1:=hm (sl x i).1 (by omega) (by omega)
    rw [Int.sub_self, sz_zero] at e1
    rw [hmv]
    simp only [hk, if_true, Bool.not_true, Bool.false_eq_true, if_false, g119, e1, Option.isSome_some, Option.getD_some, Int.sub_self, sz_zero, Int.mul_zero]
    rfl
  · rcases Bool.eq_false_or_eq_true (wi (-(el l i).2.1) (el l i).2.1 (st b (sl x i))) with hq | hq
    · have hmv:MV l x b i = ((sl x i).1, (sl x i).2.1, ()):=by unfold MV; rw [if_neg (by simp [hk]), if_pos hq]
      have e1:=hm (sl x i).1 (by omega) (by omega)
      rw [Int.sub_self, sz_zero] at e1
      rw [hmv]
      simp only [hk, hq, if_true, Bool.not_true, Bool.false_eq_true, if_false, g119, e1, Option.isSome_some, Option.getD_some, Int.sub_self, sz_zero, Int.mul_zero]
      rfl
    · have hout:st b (sl x i) < -(el l i).2.1 ∨ (el l i).2.1 < st b (sl x i):=by
        have:¬ (-(el l i).2.1 ≤ st b (sl x i) ∧ st b (sl x i) ≤ (el l i).2.1):=fun h=>by rw [wi_iff.2 h] at hq; cases hq
        omega
      rcases Bool.eq_false_or_eq_true (el l i).2.2.1 with hr | hr
      · have hmv:MV l x b i = (0, true, ()):=by unfold MV; rw [if_neg (by simp [hk]), if_neg (by simp [hq]), if_pos hr]
        rw [hmv]
        simp only [hk, hq, hr, if_true, Bool.not_false, Bool.false_eq_true, if_false]
      · by_cases hp:0 < st b (sl x i)
        · have hmv:MV l x b i = (wrap64 (b - (el l i).2.1), (sl x i).2.1, ()):=by unfold MV; rw [if_neg (by simp [hk]), if_neg (by simp [hq]), if_neg (by simp [hr]), if_pos hp]
          have e1:=hm (b - (el l i).2.1) (by omega) (by omega)
          have w2:wrap64 (b - (el l i).2.1) = b - (el l i).2.1:=wrap64_id (by omega) (by omega)
          have w3:sz (b - (el l i).2.1 - (sl x i).1) = sz (st b (sl x i)) - (el l i).2.1:=by
            rw [w] at hp hout ⊢
            unfold sz
            rw [if_neg (by omega), if_neg (by omega)]; omega
          have w4:wrap64 (sz (st b (sl x i)) - (el l i).2.1) = sz (st b (sl x i)) - (el l i).2.1:=by
            rw [w] at hp ⊢
            unfold sz
            rw [if_neg (by omega)]
            exact wrap64_id (by omega) (by omega)
          rw [hmv]
          simp only [hk, hq, hr, w2, Bool.false_eq_true, if_false, g119, e1, Option.isSome_some, Option.getD_some, if_true, w3, w4]
        · have hmv:MV l x b i = (wrap64 (b + (el l i).2.1), (sl x i).2.1, ()):=by unfold MV; rw [if_neg (by simp [hk]), if_neg (by simp [hq]), if_neg (by simp [hr]), if_neg hp]
          have e1:=hm (b + (el l i).2.1) (by omega) (by omega)
          have w2:wrap64 (b + (el l i).2.1) = b + (el l i).2.1:=wrap64_id (by omega) (by omega)
          have w3:sz (b + (el l i).2.1 - (sl x i).1) = sz (st b (sl x i)) - (el l i).2.1:=by
            rw [w] at hp hout ⊢
            unfold sz
            rw [if_pos (by omega), if_pos (by omega)]; omega
          have w4:wrap64 (sz (st b (sl x i)) - (el l i).2.1) = sz (st b (sl x i)) - (el l i).2.1:=by
            rw [w] at hp hout ⊢
            unfold sz
            rw [if_pos (by omega)]
            exact wrap64_id (by omega) (by omega)
          rw [hmv]
          simp only [hk, hq, hr, w2, Bool.false_eq_true, if_false, g119, e1, Option.isSome_some, Option.getD_some, if_true, w3, w4]
theorem l129w (l:List ELs) (a:Int) (x:List SLs) (b:Int) (h:x.length ≤ l.length) (hl:l.length ≤ 1000000) (hb:-10000 ≤ b ∧ b ≤ 10000) (hs:∀ i, i < x.length → -10000 ≤ (sl x i).1 ∧ (sl x i).1 ≤ 10000) :
    l129_0_2 ((x, (x.length:Int), (0:Int), ()), (), (l, a, x, ()), (), ((0:Int), ()), (b, ()), ()) = some (.inl ((), (), (l, a, x, ()), (), (acc (WO l a x b) x.length, ()), (b, ()), ())):=by
  refine itr_brk (fun i=>((x, (x.length:Int), (i:Int), ()), (), (l, a, x, ()), (), (acc (WO l a x b) i, ()), (b, ()), ())) (n:=x.length) ?_ ?_ (lt_rounds (by omega))
  · intro i hi
    have hh:l.getD i (0, 0, false, ()) = el l i:=rfl
    have hk:x.getD i (0, false, ()) = sl x i:=rfl
    have hs1:=hs i hi
    have w:st b (sl x i) = b - (sl x i).1:=wrap64_id (by omega) (by omega)
    have e:=f102_eq l a x b i (by omega) (by omega)
    simp only [s129_0_2, t129_0_2, Tr.val_test, Tr.val_fin, leF_eq, Int.toNat_natCast, hh, hk, g102, e, Option.isSome_some, Option.getD_some, if_true, wrap64_nat (show i ≤ 9223372036854775806 by omega), acc]
    rw [if_pos (by simp; omega), if_pos (by simp; omega), if_pos (by simp; omega)]
  · simp [s129_0_2, t129_0_2, leF_eq]
theorem l129l (l:List ELs) (a:Int) (x:List SLs) (b:Int) (h:x.length ≤ l.length) (hl:l.length ≤ 1000000) (hb:-10000 ≤ b ∧ b ≤ 10000) (hs:∀ i, i < x.length → -10000 ≤ (sl x i).1 ∧ (sl x i).1 ≤ 10000) (hy:∀ i, i < l.length → 1 ≤ (el l i).2.1 ∧ (el l i).2.1 ≤ 1000) :
    l129_0_3 ((x, (x.length:Int), (0:Int), ()), (), (l, a, x, ()), (), ((0:Int), ()), (b, ()), ()) = some (.inl ((), (), (l, a, x, ()), (), (acc (LO l x b) x.length, ()), (b, ()), ())):=by
  refine itr_brk (fun i=>((x, (x.length:Int), (i:Int), ()), (), (l, a, x, ()), (), (acc (LO l x b) i, ()), (b, ()), ())) (n:=x.length) ?_ ?_ (lt_rounds (by omega))
  · intro i hi
    have hh:l.getD i (0, 0, false, ()) = el l i:=rfl
    have hk:x.getD i (0, false, ()) = sl x i:=rfl
    have e:=f104_eq l a x b i hb (hs i hi) (hy i (by omega))
    simp only [s129_0_3, t129_0_3, Tr.val_test, Tr.val_fin, leF_eq, Int.toNat_natCast, hh, hk, g104, e, Option.isSome_some, Option.getD_some, if_true, wrap64_nat (show i ≤ 9223372036854775806 by omega), acc]
    rw [if_pos (by simp; omega), if_pos (by simp; omega), if_pos (by simp; omega)]
  · simp [s129_0_3, t129_0_3, leF_eq]
theorem l129w0 (b:Int):l129_0_2 (([], (0:Int), (0:Int), ()), (), ([], 0, [], ()), (), ((0:Int), ()), (b, ()), ()) = some (.inl ((), (), ([], 0, [], ()), (), ((0:Int), ()), (b, ()), ())) :=
  itr_brk (step:=s129_0_2) (fun i=>(([], (0:Int), (i:Int), ()), (), ([], 0, [], ()), (), ((0:Int), ()), (b, ()), ())) (n:=0) (fun i hi=>by omega) (by simp [s129_0_2, t129_0_2, leF_eq]) (lt_rounds (by omega))
theorem l129l0 (b:Int):l129_0_3 (([], (0:Int), (0:Int), ()), (), ([], 0, [], ()), (), ((0:Int), ()), (b, ()), ()) = some (.inl ((), (), ([], 0, [], ()), (), ((0:Int), ()), (b, ()), ())) :=
  itr_brk (step:=s129_0_3) (fun i=>(([], (0:Int), (i:Int), ()), (), ([], 0, [], ()), (), ((0:Int), ()), (b, ()), ())) (n:=0) (fun i hi=>by omega) (by simp [s129_0_3, t129_0_3, leF_eq]) (lt_rounds (by omega))
theorem f28_eq (l:List ELs) (a:Int) (x:List SLs) (b:Int) (h:l.length ≤ 100000):f28 (l, (a, x, ()), b, ()) =
    some (if sp l a x (pE b) = 0 then ((acc (WO l a x b) l.length, acc (LO l x b) l.length, ()), 0, ()) else ((0, 0, ()), sp l a x (pE b), ())):=by
  have e0:=f91_eq b
  have e1:=f95_eq l a x [pE b] (by omega) (by simp)
  have e2:firstNZ [pE b] = pE b:=by simp only [firstNZ]; split <;> simp_all
  rw [e2] at e1
  simp only [f28, t28, Tr.val_test, Tr.val_fin, g91, e0, g95, e1, Option.isSome_some, Option.getD_some, if_true]
  by_cases h0:sp l a x (pE b) = 0
  · obtain ⟨h1, h2⟩:=nz2 h0
    obtain ⟨h3, h4⟩:=cSH_zero h1
    have hx:=(cH_zero h4)
    have hv:=(cS_zero h3).2.2
    have hb:=pE_zero h2
    have hs:∀ i, i < x.length → -10000 ≤ (sl x i).1 ∧ (sl x i).1 ≤ 10000:=fun i hi=>(hE_zero (hx.2.2 i (by omega))).1
    have e3:=l129w l a x b (by omega) (by omega) hb hs
    have e4:=l129l l a x b (by omega) (by omega) hb hs fun i hi=>by have:=hv i hi; omega
    rw [hx.2.1] at e3 e4
    simp only [if_pos h0, hx.2.1, e3, b129_0_2, e4, b129_0_3, isBrk, outB, if_true]
  · have e3:=l129w0 b
    have e4:=l129l0 b
    simp only [if_neg h0, List.length_nil, Int.natCast_zero, e3, b129_0_2, e4, b129_0_3, isBrk, outB, if_true]
def s0 (l:List ELs):List SLs:=List.replicate l.length ((0:Int), false, ())
theorem s0_len (l:List ELs):(s0 l).length = l.length:=by simp [s0]
theorem s0_get (l:List ELs) (i:Nat):sl (s0 l) i = ((0:Int), false, ()):=by
  unfold sl s0
  simp [List.getD, List.getElem?_replicate]
  split <;> rfl
theorem mvl_len (l:List ELs) (x:List SLs) (a:Int) (n:Nat):(lst (MV l x a) n).length = n:=lst_len _ _
end Go.Vm.Mo

namespace Go.Vm.Mo
open Go
set_option linter.unusedVariables false
set_option linter.unusedSimpArgs false
theorem ab_mul {x y A B:Int} (h1:-A ≤ x) (h2:x ≤ A) (h3:-B ≤ y) (h4:y ≤ B):-(A * B) ≤ x * y ∧ x * y ≤ A * B:=by
  have a1:=Int.mul_nonneg (show 0 ≤ A - x by omega) (show 0 ≤ B + y by omega)
  have a2:=Int.mul_nonneg (show 0 ≤ A + x by omega) (show 0 ≤ B - y by omega)
  have a3:=Int.mul_nonneg (show 0 ≤ A - x by omega) (show 0 ≤ B - y by omega)
  have a4:=Int.mul_nonneg (show 0 ≤ A + x by omega) (show 0 ≤ B + y by omega)
  simp only [Int.sub_mul, Int.add_mul, Int.mul_sub, Int.mul_add] at a1 a2 a3 a4
  omega
def mv (y:Int) (br:Bool) (s:Int) (bk:Bool) (b:Int):Int×Bool :=
  if bk = true then (s, true) else if -y ≤ b - s ∧ b - s ≤ y then (s, false) else if br = true then (0, true) else if 0 < b - s then (b - y, false) else (b + y, false)
def en (k s:Int) (bk:Bool) (a:Int):Int:=if bk = true then 0 else k * ((a - s) * (a - s))
def wo (k y:Int) (br:Bool) (s:Int) (bk:Bool) (a b:Int):Int :=
  if bk = true then 0 else if -y ≤ b - s ∧ b - s ≤ y then k * ((b - s) * (b - s) - (a - s) * (a - s)) else if br = true then k * (y * y - (a - s) * (a - s))
  else k * (y * y - (a - s) * (a - s)) + 2 * k * y * (sz (b - s) - y)
def lo (k y:Int) (br:Bool) (s:Int) (bk:Bool) (b:Int):Int :=
  if bk = true then 0 else if -y ≤ b - s ∧ b - s ≤ y then 0 else if br = true then k * y * y else 2 * k * y * (sz (b - s) - y)
def okE (k y:Int) (br:Bool) (s:Int) (bk:Bool) (a:Int):Prop :=
  (1 ≤ k ∧ k ≤ 1000) ∧ (1 ≤ y ∧ y ≤ 1000) ∧ (-10000 ≤ s ∧ s ≤ 10000) ∧ (-10000 ≤ a ∧ a ≤ 10000) ∧ (bk = false → -y ≤ a - s ∧ a - s ≤ y) ∧ (br = true → s = 0) ∧ (bk = true → br = true)
theorem ok_mv {k y:Int} {br:Bool} {s:Int} {bk:Bool} {a b:Int} (h:okE k y br s bk a) (hb:-10000 ≤ b ∧ b ≤ 10000):okE k y br (mv y br s bk b).1 (mv y br s bk b).2 b:=by
  obtain ⟨h1, h2, h3, h4, h5, h6, h7⟩:=h
  unfold mv
  cases bk with
  | true=>exact ⟨h1, h2, h3, hb, fun h=>(by cases h), h6, h7⟩
  | false =>
    have h5:=h5 rfl
    rw [if_neg (by simp)]
    by_cases hw:-y ≤ b - s ∧ b - s ≤ y
    · rw [if_pos hw]; exact ⟨h1, h2, h3, hb, fun _=>hw, h6, h7⟩
    · rw [if_neg hw]
      cases br with
      | true=>exact ⟨h1, h2, by simp, hb, fun h=>(by cases h), fun _=>rfl, fun _=>rfl⟩
      | false =>
        rw [if_neg (by simp)]
        by_cases hp:0 < b - s
        · rw [if_pos hp]
          exact ⟨h1, h2, ⟨by show -10000 ≤ b - y; omega, by show b - y ≤ 10000; omega⟩, hb, fun _=>⟨by show -y ≤ b - (b - y); omega, by show b - (b - y) ≤ y; omega⟩, fun h=>(by cases h), fun h=>(by cases h)⟩
        · rw [if_neg hp]
          exact ⟨h1, h2, ⟨by show -10000 ≤ b + y; omega, by show b + y ≤ 10000; omega⟩, hb, fun _=>⟨by show -y ≤ b - (b + y); omega, by show b - (b + y) ≤ y; omega⟩, fun h=>(by cases h), fun h=>(by cases h)⟩
theorem wo_en {k y:Int} {br:Bool} {s:Int} {bk:Bool} {a b:Int}:wo k y br s bk a b = en k (mv y br s bk b).1 (mv y br s bk b).2 b - en k s bk a + lo k y br s bk b:=by
  unfold wo mv en lo
  cases bk with
  | true=>simp
  | false =>
    simp only [Bool.false_eq_true, if_false]
    by_cases hw:-y ≤ b - s ∧ b - s ≤ y
    · simp only [if_pos hw, Bool.false_eq_true, if_false]; grind
    · cases br with
      | true=>simp only [if_neg hw, if_true]; grind
      | false =>
        by_cases hp:0 < b - s
        · simp only [if_neg hw, if_pos hp, Bool.false_eq_true, if_false]; grind
        · simp only [if_neg hw, if_neg hp, Bool.false_eq_true, if_false]; grind
theorem lo_nonneg {k y:Int} {br:Bool} {s:Int} {bk:Bool} {a b:Int} (h:okE k y br s bk a):0 ≤ lo k y br s bk b:=by
  obtain ⟨h1, h2, _⟩:=h
  have hky:0 ≤ k * y:=Int.mul_nonneg (by omega) (by omega)
  unfold lo
  split
  · exact Int.le_refl 0
  · split
    · exact Int.le_refl 0
    · rename_i hw
      split
      · exact Int.mul_nonneg hky (by omega)
      · refine Int.mul_nonneg (by rw [Int.mul_assoc]; omega) ?_
        unfold sz; split <;> omega
theorem lo_zero {k y:Int} {br:Bool} {s:Int} {bk:Bool} {a b:Int} (h:okE k y br s bk a) (h0:lo k y br s bk b = 0):bk = true ∨ -y ≤ b - s ∧ b - s ≤ y:=by
  obtain ⟨h1, h2, _⟩:=h
  have hky:0 < k * y:=Int.mul_pos (by omega) (by omega)
  by_cases hb:bk = true
  · exact .inl hb
  · right
    by_cases hw:-y ≤ b - s ∧ b - s ≤ y
    · exact hw
    · exfalso
      unfold lo at h0
      rw [if_neg hb, if_neg hw] at h0
      split at h0
      · have:=Int.mul_pos hky (show 0 < y by omega)
        omega
      · have h3:0 < sz (b - s) - y:=by unfold sz; split <;> omega
        have:=Int.mul_pos (show 0 < 2 * k * y by rw [Int.mul_assoc]; omega) h3
        omega
theorem back {k y:Int} {br:Bool} {s:Int} {bk:Bool} {a b:Int} (h:okE k y br s bk a) (h0:lo k y br s bk b = 0) :
    wo k y br (mv y br s bk b).1 (mv y br s bk b).2 b a = - wo k y br s bk a b ∧ lo k y br (mv y br s bk b).1 (mv y br s bk b).2 a = 0:=by
  have hz:=lo_zero h h0
  obtain ⟨_, _, _, _, h5, _, _⟩:=h
  cases bk with
  | true=>simp [mv, wo, lo]
  | false =>
    have hw:-y ≤ b - s ∧ b - s ≤ y:=by simpa using hz
    have h5:=h5 rfl
    simp only [mv, wo, lo, Bool.false_eq_true, if_false, if_pos hw, if_pos h5, and_true]
    grind
theorem half_way {k y:Int} {br:Bool} {s:Int} {bk:Bool} {a b c:Int} (h:okE k y br s bk a) (hc:a ≤ c ∧ c ≤ b ∨ b ≤ c ∧ c ≤ a) :
    mv y br (mv y br s bk c).1 (mv y br s bk c).2 b = mv y br s bk b ∧ wo k y br s bk a c + wo k y br (mv y br s bk c).1 (mv y br s bk c).2 c b = wo k y br s bk a b ∧
      lo k y br s bk c + lo k y br (mv y br s bk c).1 (mv y br s bk c).2 b = lo k y br s bk b:=by
  obtain ⟨h1, h2, h3, h4, h5, h6, h7⟩:=h
  cases bk with
  | true=>simp [mv, wo, lo]
  | false =>
    have h5:=h5 rfl
    by_cases hw:-y ≤ c - s ∧ c - s ≤ y
    · have hm:mv y br s false c = (s, false):=by unfold mv; rw [if_neg (by simp), if_pos hw]
      rw [hm]
      refine ⟨rfl, ?_, ?_⟩
      · simp only [wo, Bool.false_eq_true, if_false, if_pos hw]
        split
        · grind
        · split <;> grind
      · simp only [lo, Bool.false_eq_true, if_false, if_pos hw]
        omega
    · have hb:¬ (-y ≤ b - s ∧ b - s ≤ y):=by omega
      cases br with
      | true =>
        have hm:mv y true s false c = (0, true):=by unfold mv; rw [if_neg (by simp), if_neg hw, if_pos rfl]
        rw [hm]
        simp only [mv, wo, lo, Bool.false_eq_true, if_false, if_true, if_neg hw, if_neg hb]
        exact ⟨trivial, by omega, by omega⟩
      | false =>
        by_cases hp:0 < c - s
        · have hpb:0 < b - s:=by omega
          have hm:mv y false s false c = (c - y, false):=by unfold mv; rw [if_neg (by simp), if_neg hw, if_neg (by simp), if_pos hp]
          rw [hm]
          have z1:sz (c - s) = c - s:=by unfold sz; rw [if_neg (by omega)]
          have z2:sz (b - s) = b - s:=by unfold sz; rw [if_neg (by omega)]
          by_cases hq:c = b
          · subst hq
            have hi:-y ≤ c - (c - y) ∧ c - (c - y) ≤ y:=by omega
            simp only [mv, wo, lo, Bool.false_eq_true, if_false, if_neg hw, if_pos hi, if_pos hp, z1]
            exact ⟨trivial, by grind, by grind⟩
          · have hi:¬ (-y ≤ b - (c - y) ∧ b - (c - y) ≤ y):=by omega
            have hi2:0 < b - (c - y):=by omega
            have z3:sz (b - (c - y)) = b - (c - y):=by unfold sz; rw [if_neg (by omega)]
            simp only [mv, wo, lo, Bool.false_eq_true, if_false, if_neg hw, if_neg hb, if_neg hi, if_pos hi2, if_pos hpb, z1, z2, z3]
            exact ⟨trivial, by grind, by grind⟩
        · have hpb:¬ 0 < b - s:=by omega
          have hm:mv y false s false c = (c + y, false):=by unfold mv; rw [if_neg (by simp), if_neg hw, if_neg (by simp), if_neg hp]
          rw [hm]
          have z1:sz (c - s) = -(c - s):=by unfold sz; rw [if_pos (by omega)]
          have z2:sz (b - s) = -(b - s):=by unfold sz; rw [if_pos (by omega)]
          by_cases hq:c = b
          · subst hq
            have hi:-y ≤ c - (c + y) ∧ c - (c + y) ≤ y:=by omega
            simp only [mv, wo, lo, Bool.false_eq_true, if_false, if_neg hw, if_pos hi, if_neg hp, z1]
            exact ⟨trivial, by grind, by grind⟩
          · have hi:¬ (-y ≤ b - (c + y) ∧ b - (c + y) ≤ y):=by omega
            have hi2:¬ 0 < b - (c + y):=by omega
            have z3:sz (b - (c + y)) = -(b - (c + y)):=by unfold sz; rw [if_pos (by omega)]
            simp only [mv, wo, lo, Bool.false_eq_true, if_false, if_neg hw, if_neg hb, if_neg hi, if_neg hi2, if_neg hpb, z1, z2, z3]
            exact ⟨trivial, by grind, by grind⟩
theorem sz_bd {x:Int} {A:Int} (h:-A ≤ x) (h2:x ≤ A):0 ≤ sz x ∧ sz x ≤ A:=by unfold sz; split <;> omega
theorem en_bd {k y:Int} {br:Bool} {s:Int} {bk:Bool} {a:Int} (h:okE k y br s bk a):-1000000000000 ≤ en k s bk a ∧ en k s bk a ≤ 1000000000000:=by
  obtain ⟨h1, h2, h3, h4, _⟩:=h
  have b1:=ab_mul (x:=a - s) (y:=a - s) (A:=20000) (B:=20000) (by omega) (by omega) (by omega) (by omega)
  have b2:=ab_mul (x:=k) (y:=(a - s) * (a - s)) (A:=1000) (B:=400000000) (by omega) (by omega) (by omega) (by omega)
  unfold en; split <;> omega
theorem lo_bd {k y:Int} {br:Bool} {s:Int} {bk:Bool} {a b:Int} (h:okE k y br s bk a) (hb:-10000 ≤ b ∧ b ≤ 10000):-100000000000 ≤ lo k y br s bk b ∧ lo k y br s bk b ≤ 100000000000:=by
  obtain ⟨h1, h2, h3, h4, _⟩:=h
  have b1:=ab_mul (x:=k) (y:=y) (A:=1000) (B:=1000) (by omega) (by omega) (by omega) (by omega)
  have b2:=ab_mul (x:=k * y) (y:=y) (A:=1000000) (B:=1000) (by omega) (by omega) (by omega) (by omega)
  have b3:=sz_bd (x:=b - s) (A:=20000) (by omega) (by omega)
  have b4:=ab_mul (x:=2 * k * y) (y:=sz (b - s) - y) (A:=2000000) (B:=21000) (by rw [Int.mul_assoc]; omega) (by rw [Int.mul_assoc]; omega) (by omega) (by omega)
  unfold lo; split
  · omega
  · split
    · omega
    · split <;> omega
theorem wo_bd {k y:Int} {br:Bool} {s:Int} {bk:Bool} {a b:Int} (h:okE k y br s bk a) (hb:-10000 ≤ b ∧ b ≤ 10000):-3000000000000 ≤ wo k y br s bk a b ∧ wo k y br s bk a b ≤ 3000000000000:=by
  rw [wo_en]
  have e1:=en_bd h
  have e2:=en_bd (ok_mv h hb)
  have e3:=lo_bd h hb
  omega
end Go.Vm.Mo

namespace Go.Vm.Mo
open Go
set_option linter.unusedVariables false
set_option linter.unusedSimpArgs false
def sm (F:Nat → Int):Nat → Int
  | 0=>0
  | n + 1=>sm F n + F n
theorem sm_bd {F:Nat → Int} {B:Int}:∀ {n:Nat}, (∀ i, i < n → -B ≤ F i ∧ F i ≤ B) → -((n:Int) * B) ≤ sm F n ∧ sm F n ≤ (n:Int) * B
  | 0, _=>by simp [sm]
  | n + 1, h=>by
    have e:=sm_bd (n:=n) fun i hi=>h i (by omega)
    have e2:=h n (by omega)
    have e3:((n + 1:Nat):Int) * B = (n:Int) * B + B:=by rw [Int.natCast_add, Int.add_mul]; simp
    simp only [sm, e3]
    omega
theorem acc_sm {F:Nat → Int} {B:Int} (hB:0 ≤ B):∀ {n:Nat}, (∀ i, i < n → -B ≤ F i ∧ F i ≤ B) → (n:Int) * B ≤ 4611686018427387904 → acc F n = sm F n
  | 0, _, _=>rfl
  | n + 1, h, hn=>by
    have e3:((n + 1:Nat):Int) * B = (n:Int) * B + B:=by rw [Int.natCast_add, Int.add_mul]; simp
    rw [e3] at hn
    have e:=acc_sm hB (n:=n) (fun i hi=>h i (by omega)) (by omega)
    have e2:=sm_bd (n:=n) fun i hi=>h i (by omega)
    have e4:=h n (by omega)
    simp only [acc, sm, e]
    exact wrap64_id (by omega) (by omega)
theorem sm_congr {F G:Nat → Int}:∀ {n:Nat}, (∀ i, i < n → F i = G i) → sm F n = sm G n
  | 0, _=>rfl
  | n + 1, h=>by simp only [sm, sm_congr (n:=n) fun i hi=>h i (by omega), h n (by omega)]
theorem sm_add {F G H:Nat → Int}:∀ {n:Nat}, (∀ i, i < n → F i + G i = H i) → sm F n + sm G n = sm H n
  | 0, _=>rfl
  | n + 1, h=>by
    have e:=sm_add (n:=n) fun i hi=>h i (by omega)
    have e2:=h n (by omega)
    simp only [sm]; omega
theorem sm_neg {F G:Nat → Int}:∀ {n:Nat}, (∀ i, i < n → F i = - G i) → sm F n = - sm G n
  | 0, _=>rfl
  | n + 1, h=>by
    have e:=sm_neg (n:=n) fun i hi=>h i (by omega)
    have e2:=h n (by omega)
    simp only [sm]; omega
theorem sm_nonneg {F:Nat → Int}:∀ {n:Nat}, (∀ i, i < n → 0 ≤ F i) → 0 ≤ sm F n
  | 0, _=>Int.le_refl 0
  | n + 1, h=>by
    have e:=sm_nonneg (n:=n) fun i hi=>h i (by omega)
    have e2:=h n (by omega)
    simp only [sm]; omega
theorem sm_zero {F:Nat → Int}:∀ {n:Nat}, (∀ i, i < n → 0 ≤ F i) → sm F n = 0 → ∀ i, i < n → F i = 0
  | 0, _, _=>fun i hi=>by omega
  | n + 1, h, h0=>by
    have e:=sm_nonneg (n:=n) fun i hi=>h i (by omega)
    have e2:=h n (by omega)
    simp only [sm] at h0
    intro i hi
    by_cases hn:i = n
    · subst hn; omega
    · exact sm_zero (n:=n) (fun i hi=>h i (by omega)) (by omega) i (by omega)
theorem sm_all0 {F:Nat → Int} {n:Nat} (h:∀ i, i < n → F i = 0):sm F n = 0:=by
  have:=sm_neg (F:=F) (G:=F) (n:=n) fun i hi=>by rw [h i hi]; rfl
  omega
abbrev okL (l:List ELs) (a:Int) (x:List SLs) (i:Nat):Prop:=okE (el l i).1 (el l i).2.1 (el l i).2.2.1 (sl x i).1 (sl x i).2.1 a
abbrev mvL (l:List ELs) (x:List SLs) (b:Int) (i:Nat):Int×Bool:=mv (el l i).2.1 (el l i).2.2.1 (sl x i).1 (sl x i).2.1 b
abbrev enL (l:List ELs) (a:Int) (x:List SLs) (i:Nat):Int:=en (el l i).1 (sl x i).1 (sl x i).2.1 a
abbrev woL (l:List ELs) (a:Int) (x:List SLs) (b:Int) (i:Nat):Int:=wo (el l i).1 (el l i).2.1 (el l i).2.2.1 (sl x i).1 (sl x i).2.1 a b
abbrev loL (l:List ELs) (x:List SLs) (b:Int) (i:Nat):Int:=lo (el l i).1 (el l i).2.1 (el l i).2.2.1 (sl x i).1 (sl x i).2.1 b
theorem okL_of {l:List ELs} {a:Int} {x:List SLs} (h:(cS l).2.1 = 0) (h2:(cH l a x).2.1 = 0) {i:Nat} (hi:i < l.length):okL l a x i:=by
  have e1:=(cS_zero h).2.2 i hi
  obtain ⟨ha, hx, hh⟩:=cH_zero h2
  obtain ⟨e2, e3, e4, e5⟩:=hE_zero (hh i hi)
  refine ⟨by omega, by omega, e2, ha, fun hb=>?_, e4, e5⟩
  have:=wi_iff.1 (e3 hb)
  rw [show st a (sl x i) = a - (sl x i).1 from wrap64_id (by omega) (by omega)] at this
  exact this
theorem pE_of {x:Int} (h:-10000 ≤ x ∧ x ≤ 10000):pE x = 0:=by unfold pE; rw [if_pos (wi_iff.2 h)]
theorem hE_of {l:List ELs} {a:Int} {x:List SLs} {i:Nat} (h:okL l a x i):hE l a x i = 0:=by
  obtain ⟨h1, h2, h3, h4, h5, h6, h7⟩:=h
  have w:st a (sl x i) = a - (sl x i).1:=wrap64_id (by omega) (by omega)
  unfold hE
  rw [pE_of h3, w]
  cases hb:(sl x i).2.1 with
  | true =>
    have hr:=h7 hb
    rw [hr, h6 hr]; rfl
  | false =>
    have hw:wi (-(el l i).2.1) (el l i).2.1 (a - (sl x i).1) = true:=wi_iff.2 (h5 hb)
    rw [hw]
    cases hr:(el l i).2.2.1 with
    | true=>rw [h6 hr]; rfl
    | false=>rfl
theorem cH_of {l:List ELs} {a:Int} {x:List SLs} (ha:-10000 ≤ a ∧ a ≤ 10000) (hx:x.length = l.length) (h:∀ i, i < l.length → okL l a x i):cH l a x = (0, 0, ()):=by
  unfold cH
  rw [if_pos (pE_of ha), if_pos hx, first_of_none fun i _ hi=>by simp [hE_of (h i (by omega))]]
theorem MV_mv {l:List ELs} {a:Int} {x:List SLs} {i:Nat} (h:okL l a x i) {b:Int} (hb:-10000 ≤ b ∧ b ≤ 10000):MV l x b i = ((mvL l x b i).1, (mvL l x b i).2, ()):=by
  obtain ⟨h1, h2, h3, h4, h5, h6, h7⟩:=h
  have w:st b (sl x i) = b - (sl x i).1:=wrap64_id (by omega) (by omega)
  unfold MV mvL mv
  rw [w]
  cases hk:(sl x i).2.1 with
  | true=>rfl
  | false =>
    simp only [Bool.false_eq_true, if_false, wi_iff]
    by_cases hw:-(el l i).2.1 ≤ b - (sl x i).1 ∧ b - (sl x i).1 ≤ (el l i).2.1
    · simp only [if_pos hw]
    · simp only [if_neg hw]
      by_cases hr:(el l i).2.2.1 = true
      · simp only [if_pos hr]
      · simp only [if_neg hr]
        by_cases hp:0 < b - (sl x i).1
        · simp only [if_pos hp]; rw [wrap64_id (by omega) (by omega)]
        · simp only [if_neg hp]; rw [wrap64_id (by omega) (by omega)]
theorem EN_en {l:List ELs} {a:Int} {x:List SLs} {i:Nat} (h:okL l a x i):EN l a x i = enL l a x i:=by
  have hb:=en_bd h
  obtain ⟨h1, h2, h3, h4, h5, h6, h7⟩:=h
  have w:st a (sl x i) = a - (sl x i).1:=wrap64_id (by omega) (by omega)
  unfold EN
  rw [w]
  unfold enL en at *
  split
  · rfl
  · rename_i hk
    rw [if_neg hk] at hb
    simp only [wrap64_mul_l]
    rw [Int.mul_assoc]
    exact wrap64_id (by omega) (by omega)
theorem LO_lo {l:List ELs} {a:Int} {x:List SLs} {i:Nat} (h:okL l a x i) {b:Int} (hb:-10000 ≤ b ∧ b ≤ 10000):LO l x b i = loL l x b i:=by
  have hd:=lo_bd h hb
  obtain ⟨h1, h2, h3, h4, h5, h6, h7⟩:=h
  have w:st b (sl x i) = b - (sl x i).1:=wrap64_id (by omega) (by omega)
  unfold LO
  rw [w]
  unfold loL lo at *
  simp only [wi_iff]
  split
  · rfl
  · rename_i hk
    rw [if_neg hk] at hd
    split
    · rfl
    · rename_i hw
      rw [if_neg hw] at hd
      split
      · rename_i hr
        rw [if_pos hr] at hd
        simp only [wrap64_mul_l]
        exact wrap64_id (by omega) (by omega)
      · rename_i hr
        rw [if_neg hr] at hd
        simp only [wrap64_mul_l, wrap64_mul_r]
        exact wrap64_id (by omega) (by omega)
theorem WO_wo {l:List ELs} {a:Int} {x:List SLs} {i:Nat} (h:okL l a x i) {b:Int} (hb:-10000 ≤ b ∧ b ≤ 10000):WO l a x b i = woL l a x b i:=by
  have hd:=wo_bd h hb
  obtain ⟨h1, h2, h3, h4, h5, h6, h7⟩:=h
  have w:st b (sl x i) = b - (sl x i).1:=wrap64_id (by omega) (by omega)
  have w2:st a (sl x i) = a - (sl x i).1:=wrap64_id (by omega) (by omega)
  unfold WO
  rw [w, w2]
  unfold woL wo at *
  simp only [wi_iff]
  split
  · rfl
  · rename_i hk
    rw [if_neg hk] at hd
    split
    · rename_i hw
      rw [if_pos hw] at hd
      exact wrap64_id (by omega) (by omega)
    · rename_i hw
      rw [if_neg hw] at hd
      split
      · rename_i hr
        rw [if_pos hr] at hd
        exact wrap64_id (by omega) (by omega)
      · rename_i hr
        rw [if_neg hr] at hd
        exact wrap64_id (by omega) (by omega)
def nx (l:List ELs) (x:List SLs) (b:Int):List SLs:=lst (MV l x b) l.length
def tE (l:List ELs) (a:Int) (x:List SLs):Int:=acc (EN l a x) l.length
def tW (l:List ELs) (a:Int) (x:List SLs) (b:Int):Int:=acc (WO l a x b) l.length
def tL (l:List ELs) (x:List SLs) (b:Int):Int:=acc (LO l x b) l.length
structure VH (l:List ELs) (a:Int) (x:List SLs):Prop where
  s:(cS l).2.1 = 0
  h:(cH l a x).2.1 = 0
namespace VH
variable {l:List ELs} {a:Int} {x:List SLs} (v:VH l a x)
include v
theorem ok {i:Nat} (hi:i < l.length):okL l a x i:=okL_of v.s v.h hi
theorem len:x.length = l.length:=(cH_zero v.h).2.1
theorem few:l.length ≤ 4:=(cS_zero v.s).2.1
theorem pos:-10000 ≤ a ∧ a ≤ 10000:=(cH_zero v.h).1
theorem sl_nx {b:Int} (hb:-10000 ≤ b ∧ b ≤ 10000) {i:Nat} (hi:i < l.length):sl (nx l x b) i = ((mvL l x b i).1, (mvL l x b i).2, ()):=by
  rw [← MV_mv (v.ok hi) hb]
  exact lst_get _ _ hi
theorem cH_nx {b:Int} (hb:-10000 ≤ b ∧ b ≤ 10000):cH l b (nx l x b) = (0, 0, ()):=by
  refine cH_of hb (lst_len _ _) fun i hi=>?_
  unfold okL
  rw [v.sl_nx hb hi]
  exact ok_mv (v.ok hi) hb
theorem next {b:Int} (hb:-10000 ≤ b ∧ b ≤ 10000):VH l b (nx l x b):=⟨v.s, by rw [v.cH_nx hb]⟩
theorem tE_sm:tE l a x = sm (enL l a x) l.length:=by
  have:=v.few
  rw [← sm_congr (F:=EN l a x) (fun i hi=>EN_en (v.ok hi))]
  exact acc_sm (B:=1000000000000) (by omega) (fun i hi=>by rw [EN_en (v.ok hi)]; exact en_bd (v.ok hi)) (by omega)
theorem tW_sm {b:Int} (hb:-10000 ≤ b ∧ b ≤ 10000):tW l a x b = sm (woL l a x b) l.length:=by
  have:=v.few
  rw [← sm_congr (F:=WO l a x b) (fun i hi=>WO_wo (v.ok hi) hb)]
  exact acc_sm (B:=3000000000000) (by omega) (fun i hi=>by rw [WO_wo (v.ok hi) hb]; exact wo_bd (v.ok hi) hb) (by omega)
theorem tL_sm {b:Int} (hb:-10000 ≤ b ∧ b ≤ 10000):tL l x b = sm (loL l x b) l.length:=by
  have:=v.few
  rw [← sm_congr (F:=LO l x b) (fun i hi=>LO_lo (v.ok hi) hb)]
  exact acc_sm (B:=100000000000) (by omega) (fun i hi=>by rw [LO_lo (v.ok hi) hb]; exact lo_bd (v.ok hi) hb) (by omega)
theorem tW_bd {b:Int} (hb:-10000 ≤ b ∧ b ≤ 10000):-12000000000000 ≤ tW l a x b ∧ tW l a x b ≤ 12000000000000:=by
  have:=v.few
  rw [v.tW_sm hb]
  have e:=sm_bd (F:=woL l a x b) (B:=3000000000000) (n:=l.length) fun i hi=>wo_bd (v.ok hi) hb
  omega
theorem tL_bd {b:Int} (hb:-10000 ≤ b ∧ b ≤ 10000):0 ≤ tL l x b ∧ tL l x b ≤ 400000000000:=by
  have:=v.few
  rw [v.tL_sm hb]
  have e:=sm_bd (F:=loL l x b) (B:=100000000000) (n:=l.length) fun i hi=>lo_bd (v.ok hi) hb
  have e2:=sm_nonneg (F:=loL l x b) (n:=l.length) fun i hi=>lo_nonneg (v.ok hi)
  omega
theorem bal {b:Int} (hb:-10000 ≤ b ∧ b ≤ 10000):tW l a x b = tE l b (nx l x b) - tE l a x + tL l x b:=by
  rw [v.tW_sm hb, (v.next hb).tE_sm, v.tE_sm, v.tL_sm hb]
  have e1:=sm_add (F:=woL l a x b) (G:=enL l a x) (H:=fun i=>enL l b (nx l x b) i + loL l x b i) (n:=l.length) fun i hi=>by
    have e:=wo_en (k:=(el l i).1) (y:=(el l i).2.1) (br:=(el l i).2.2.1) (s:=(sl x i).1) (bk:=(sl x i).2.1) (a:=a) (b:=b)
    show woL l a x b i + enL l a x i = enL l b (nx l x b) i + loL l x b i
    have h2:enL l b (nx l x b) i = en (el l i).1 (mvL l x b i).1 (mvL l x b i).2 b:=by unfold enL; rw [v.sl_nx hb hi]
    rw [h2]
    unfold woL enL loL mvL
    omega
  have e2:=sm_add (F:=enL l b (nx l x b)) (G:=loL l x b) (H:=fun i=>enL l b (nx l x b) i + loL l x b i) (n:=l.length) fun i hi=>rfl
  omega
theorem stay {b:Int} (hb:-10000 ≤ b ∧ b ≤ 10000) {i:Nat} (hi:i < l.length) (h:(sl x i).2.1 = true):(sl (nx l x b) i).2.1 = true:=by
  rw [v.sl_nx hb hi]
  show (mv _ _ _ _ _).2 = true
  rw [h]; rfl
theorem via {b c:Int} (hb:-10000 ≤ b ∧ b ≤ 10000) (hc:a ≤ c ∧ c ≤ b ∨ b ≤ c ∧ c ≤ a):nx l (nx l x c) b = nx l x b ∧ tW l a x c + tW l c (nx l x c) b = tW l a x b ∧ tL l x c + tL l (nx l x c) b = tL l x b:=by
  have ha:=v.pos
  have hc2:-10000 ≤ c ∧ c ≤ 10000:=by omega
  have v2:=v.next hc2
  have hw:∀ i, i < l.length → _:=fun i hi=>half_way (v.ok hi) hc
  refine ⟨?_, ?_, ?_⟩
  · unfold nx
    refine List.map_congr_left fun i hi=>?_
    have hi:i < l.length:=by simpa using hi
    have h1:=MV_mv (v2.ok hi) hb
    unfold nx at h1
    rw [h1, MV_mv (v.ok hi) hb]
    have h2:=v.sl_nx hc2 hi
    unfold nx at h2
    unfold mvL
    rw [h2, (hw i hi).1]
  · rw [v.tW_sm hc2, v2.tW_sm hb, v.tW_sm hb]
    refine sm_add fun i hi=>?_
    unfold woL
    rw [v.sl_nx hc2 hi]
    exact (hw i hi).2.1
  · rw [v.tL_sm hc2, v2.tL_sm hb, v.tL_sm hb]
    refine sm_add fun i hi=>?_
    unfold loL
    rw [v.sl_nx hc2 hi]
    exact (hw i hi).2.2
theorem again {b:Int} (hb:-10000 ≤ b ∧ b ≤ 10000) (h0:tL l x b = 0):tW l b (nx l x b) a = - tW l a x b ∧ tL l (nx l x b) a = 0:=by
  have ha:=v.pos
  have v2:=v.next hb
  rw [v.tL_sm hb] at h0
  have hz:=sm_zero (fun i hi=>lo_nonneg (v.ok hi)) h0
  have hw:∀ i, i < l.length → _:=fun i hi=>back (v.ok hi) (hz i hi)
  refine ⟨?_, ?_⟩
  · rw [v2.tW_sm ha, v.tW_sm hb]
    refine sm_neg fun i hi=>?_
    unfold woL
    rw [v.sl_nx hb hi]
    exact (hw i hi).1
  · rw [v2.tL_sm ha]
    refine sm_all0 fun i hi=>?_
    unfold loL
    rw [v.sl_nx hb hi]
    exact (hw i hi).2
end VH
end Go.Vm.Mo

namespace Go.Vm.Mo
open Go
set_option linter.unusedVariables false
set_option linter.unusedSimpArgs false
theorem f39_eq (l:List ELs) (h:l.length ≤ 1000000):f39 (l, ()) = some ((cS l).2.1, ()):=by
  have e:=f30_eq l h
  simp only [f39, t39, Tr.val_test, Tr.val_fin, g30, e, Option.isSome_some, Option.getD_some, if_true]
theorem f41_eq (l:List ELs) (a:Int) (x:List SLs) (h:l.length ≤ 1000000):f41 (l, (a, x, ()), ()) = some ((cH l a x).2.1, ()):=by
  have e:=f36_eq l a x h
  simp only [f41, t41, Tr.val_test, Tr.val_fin, g36, e, Option.isSome_some, Option.getD_some, if_true]
theorem f31_self (a:Int) (l:List SLs) (h:l.length ≤ 1000000):f31 ((a, l, ()), (a, l, ()), ()) = some (true, ()):=by
  have key:l31_0 (((0:Int), ()), (a, l, ()), (a, l, ()), ()) = some (.inl ((), (a, l, ()), (a, l, ()), ())):=by
    refine itr_brk (fun i=>(((i:Int), ()), (a, l, ()), (a, l, ()), ())) (n:=l.length) ?_ ?_ (lt_rounds (by omega))
    · intro i hi
      simp only [s31_0, t31_0, Tr.val_test, Tr.val_fin, leF_eq, Int.toNat_natCast, beq_self_eq_true, Bool.and_self, Bool.not_true, Bool.false_eq_true, if_false, wrap64_nat (show i ≤ 9223372036854775806 by omega)]
      rw [if_pos (by simp; omega), if_pos (by simp; omega), if_pos (by simp; omega)]
    · simp [s31_0, t31_0, leF_eq]
  simp only [f31, t31, Tr.val_test, Tr.val_fin, key, isRet, eqF_eq, decide_true, Bool.not_true, Bool.false_eq_true, if_false, Option.isSome_some, if_true]
theorem sp_of {l:List ELs} {a:Int} {x:List SLs} (v:VH l a x) {b:Int} (hb:-10000 ≤ b ∧ b ≤ 10000):sp l a x (pE b) = 0:=by
  unfold sp cSH
  rw [if_pos v.s, v.h, pE_of hb]; rfl
theorem v26 {l:List ELs} {a:Int} {x:List SLs} (v:VH l a x):f26 (l, (a, x, ()), ()) = some (tE l a x, 0, ()):=by
  have:=v.few
  rw [f26_eq l a x (by omega), if_pos (by unfold cSH; rw [if_pos v.s]; exact v.h)]; rfl
theorem v27 {l:List ELs} {a:Int} {x:List SLs} (v:VH l a x) {b:Int} (hb:-10000 ≤ b ∧ b ≤ 10000):f27 (l, (a, x, ()), b, ()) = some ((b, nx l x b, ()), 0, ()):=by
  have:=v.few
  rw [f27_eq l a x b (by omega), if_pos (sp_of v hb)]; rfl
theorem v28 {l:List ELs} {a:Int} {x:List SLs} (v:VH l a x) {b:Int} (hb:-10000 ≤ b ∧ b ≤ 10000):f28 (l, (a, x, ()), b, ()) = some ((tW l a x b, tL l x b, ()), 0, ()):=by
  have:=v.few
  rw [f28_eq l a x b (by omega), if_pos (sp_of v hb)]; rfl
theorem l62 (l:List ELs) (m:List Int) (bt i:Int) (a:Int) (x:List SLs) (b:Int) (x':List SLs) (w lo':Int) (h:x.length = l.length) (h2:x'.length = l.length) (hl:l.length ≤ 1000000)
    (hk:∀ k, k < l.length → (sl x k).2.1 = true → (sl x' k).2.1 = true) :
    l6_2 ((l, m, bt, i, (0:Int), ()), (a, x, ()), (b, x', ()), (w, lo', ()), ()) = some (.inl ((l, m, bt, i, ()), (a, x, ()), (b, x', ()), (w, lo', ()), ())):=by
  refine itr_brk (fun k=>((l, m, bt, i, (k:Int), ()), (a, x, ()), (b, x', ()), (w, lo', ()), ())) (n:=l.length) ?_ ?_ (lt_rounds (by omega))
  · intro k hk1
    have e1:x.getD k (0, false, ()) = sl x k:=rfl
    have e2:x'.getD k (0, false, ()) = sl x' k:=rfl
    have e3:=hk k hk1
    simp only [s6_2, t6_2, Tr.val_test, Tr.val_fin, leF_eq, Int.toNat_natCast, e1, e2, wrap64_nat (show k ≤ 9223372036854775806 by omega)]
    rw [if_pos (by simp; omega), if_pos (by simp; omega)]
    rcases Bool.eq_false_or_eq_true (sl x k).2.1 with hb | hb
    · rw [hb, e3 hb, if_pos rfl, if_pos (by simp; omega)]; rfl
    · rw [hb, if_neg (by simp)]
  · simp [s6_2, t6_2, leF_eq]
def mo (l:List Int) (i:Nat):Int:=l.getD i 0
def HM (l:List ELs) (m:List Int):Nat → Int×List SLs
  | 0=>(0, s0 l)
  | i + 1=>if pE (mo m i) = 0 then (mo m i, nx l (HM l m i).2 (mo m i)) else HM l m i
theorem HM_ok {l:List ELs} (h:(cS l).2.1 = 0) (m:List Int):∀ i, VH l (HM l m i).1 (HM l m i).2
  | 0=>by
    refine ⟨h, ?_⟩
    show (cH l 0 (s0 l)).2.1 = 0
    rw [cH_of ⟨by omega, by omega⟩ (s0_len l) fun i hi=>?_]
    have e1:=(cS_zero h).2.2 i hi
    unfold okL okE
    rw [s0_get]
    exact ⟨by omega, by omega, by simp, by simp, fun _=>by simp; omega, fun _=>rfl, fun h=>by cases h⟩
  | i + 1=>by
    have ih:=HM_ok h m i
    simp only [HM]
    split
    · rename_i hp; exact ih.next (pE_zero hp)
    · exact ih
def hf (a b t:Int):Int:=a + ((b - a) * t).tdiv 100
theorem hf_between {a b t:Int} (ht:0 ≤ t ∧ t ≤ 100):a ≤ hf a b t ∧ hf a b t ≤ b ∨ b ≤ hf a b t ∧ hf a b t ≤ a:=by
  unfold hf
  by_cases h:a ≤ b
  · left
    have h0:0 ≤ (b - a) * t:=Int.mul_nonneg (by omega) ht.1
    have h1:(b - a) * t ≤ (b - a) * 100:=Int.mul_le_mul_of_nonneg_left ht.2 (by omega)
    rw [Int.tdiv_eq_ediv_of_nonneg h0]
    omega
  · right
    have h0:0 ≤ (a - b) * t:=Int.mul_nonneg (by omega) ht.1
    have h1:(a - b) * t ≤ (a - b) * 100:=Int.mul_le_mul_of_nonneg_left ht.2 (by omega)
    have e:(b - a) * t = -((a - b) * t):=by rw [← Int.neg_mul, Int.neg_sub]
    rw [e, Int.neg_tdiv, Int.tdiv_eq_ediv_of_nonneg h0]
    omega
theorem hf_wrap {a b t:Int} (ha:-10000 ≤ a ∧ a ≤ 10000) (hb:-10000 ≤ b ∧ b ≤ 10000) (ht:0 ≤ t ∧ t ≤ 100):wrap64 (a + IntKind.wrap .i64 ((wrap64 (wrap64 (b - a) * t)).tdiv 100)) = hf a b t:=by
  have h1:=ab_mul (x:=b - a) (y:=t) (A:=20000) (B:=100) (by omega) (by omega) (by omega) (by omega)
  have h2:=hf_between (a:=a) (b:=b) ht
  rw [← wrap64_eq, wrap64_id (n:=b - a) (by omega) (by omega), wrap64_id (n:=(b - a) * t) (by omega) (by omega)]
  unfold hf at *
  rw [wrap64_id (n:=((b - a) * t).tdiv 100) (by omega) (by omega)]
  exact wrap64_id (by omega) (by omega)
set_option maxHeartbeats 2000000 in
theorem l60 (l:List ELs) (m:List Int) (t:Int) (h:(cS l).2.1 = 0) (hm:m.length ≤ 1000000) (ht:0 ≤ t ∧ t ≤ 100) :
    l6_0 ((l, m, t, (0:Int), ()), (0, s0 l, ()), ()) = match first (fun i=>!decide (pE (mo m i) = 0)) m.length 0 with
      | some k=>some (.inr ((true, ()), ((HM l m k).1, (HM l m k).2, ()), ()))
      | none=>some (.inl ((), ((HM l m m.length).1, (HM l m m.length).2, ()), ())):=by
  refine itr_search (fun i=>((l, m, t, (i:Int), ()), ((HM l m i).1, (HM l m i).2, ()), ())) (fun i=>!decide (pE (mo m i) = 0)) (fun i=>((true, ()), ((HM l m i).1, (HM l m i).2, ()), ())) (n:=m.length) ?_ ?_ (lt_rounds (by omega))
  · intro i hi
    have v:=HM_ok h m i
    have hmo:m.getD i 0 = mo m i:=rfl
    have e32:=f32_eq (mo m i)
    have hlt:(decide ((0:Int) ≤ (i:Int)) && decide ((i:Int) < (m.length:Int))) = true:=dA (by omega) (by omega)
    simp only [s6_0, t6_0, Tr.val_test, Tr.val_fin, leF_eq, eqF_eq, Int.toNat_natCast, hmo, hlt, g32, e32, Option.isSome_some, Option.getD_some, if_true, wrap64_nat (show i ≤ 9223372036854775806 by omega)]
    rw [if_pos (by simp; omega)]
    by_cases hp:pE (mo m i) = 0
    · have hb:=pE_zero hp
      have few:=v.few
      have hsucc:HM l m (i + 1) = (mo m i, nx l (HM l m i).2 (mo m i)):=by simp only [HM]; rw [if_pos hp]
      generalize (HM l m i).1 = a at v hsucc ⊢
      generalize (HM l m i).2 = x at v hsucc ⊢
      generalize mo m i = b at hp hb hsucc hmo ⊢
      have ha:=v.pos
      have hx:=v.len
      have v2:=v.next hb
      have hc:=hf_between (a:=a) (b:=b) ht
      have hc2:-10000 ≤ hf a b t ∧ hf a b t ≤ 10000:=by omega
      have v3:=v.next hc2
      have hx2:=v2.len
      have hx3:=v3.len
      obtain ⟨g1, g2, g3⟩:=v.via hb hc
      have e22:=f22_eq l (by omega)
      have e24:=f24_eq a x (by omega)
      have e24b:=f24_eq b (nx l x b) (by omega)
      have e24c:=f24_eq (hf a b t) (nx l x (hf a b t)) (by omega)
      have e26:=v26 v
      have e26b:=v26 v2
      have e27:=v27 v hb
      have e27c:=v27 v hc2
      have e27d:=v27 v3 hb
      rw [g1] at e27d
      have e28:=v28 v hb
      have e28c:=v28 v hc2
      have e28d:=v28 v3 hb
      have e28b:=v28 v2 ha
      have e41:=f41_eq l b (nx l x b) (by omega)
      rw [v.cH_nx hb] at e41
      have e41c:=f41_eq l (hf a b t) (nx l x (hf a b t)) (by omega)
      rw [v.cH_nx hc2] at e41c
      have e62:=l62 l m t (i:Int) a x b (nx l x b) (tW l a x b) (tL l x b) hx hx2 (by omega) fun k hk=>v.stay hb hk
      have e31:=f31_self b (nx l x b) (by omega)
      have hbal:=v.bal hb
      have hWb:=v.tW_bd hb
      have hLb:=v.tL_bd hb
      have w1:wrap64 (wrap64 (tE l b (nx l x b) - tE l a x) + tL l x b) = tW l a x b:=by
        rw [wrap64_add_l, ← hbal]; exact wrap64_id (by omega) (by omega)
      have w2:wrap64 (tW l a x (hf a b t) + tW l (hf a b t) (nx l x (hf a b t)) b) = tW l a x b:=by rw [g2]; exact wrap64_id (by omega) (by omega)
      have w3:wrap64 (tL l x (hf a b t) + tL l (nx l x (hf a b t)) b) = tL l x b:=by rw [g3]; exact wrap64_id (by omega) (by omega)
      have hh:=hf_wrap ha hb ht
      have w4:=wn64 (x:=tW l a x b) (by omega) (by omega)
      rw [hsucc]
      simp only [hp, decide_true, Bool.not_true, Bool.false_eq_true, if_false, if_true, g22, e22, g24, e24, g26, e26, g27, e27, g28, e28, g41, e41, e24b, e26b, w1, e62, b6_2, r6_2, isRet, outB, Option.isSome_some, Option.getD_some, hLb.1, hlt, Int.toNat_natCast, hmo, hh, e27c, e28c, e41c, e24c, e27d, e28d, g31, e31, w2, w3, wrap64_nat (show i ≤ 9223372036854775806 by omega)]
      by_cases hL:tL l x b = 0
      · obtain ⟨k1, k2⟩:=v.again hb hL
        simp only [hL, decide_true, if_true, e24b, e28b, k1, k2, w4, Bool.not_true, Bool.false_eq_true, if_false, Option.isSome_some, Option.getD_some]
      · simp only [dF hL, Bool.false_eq_true, if_false]
    · simp only [dF hp, Bool.not_false, if_true]
  · simp [s6_0, t6_0, leF_eq]
end Go.Vm.Mo

namespace Go.Vm.Mo
open Go
set_option linter.unusedVariables false
set_option linter.unusedSimpArgs false
theorem f6_all (l:List ELs) (m:List Int) (t:Int):f6 (l, m, t, ()) = some (true, ()):=by
  simp only [f6, t6, Tr.val_test, Tr.val_fin, leF_eq, eqF_eq]
  by_cases h1:(l.length:Int) ≤ 4
  · rw [dT h1]
    by_cases h2:(m.length:Int) ≤ 20
    · rw [dT h2]
      have e39:=f39_eq l (by omega)
      have e40:=f40_wi 0 100 t
      have e35:f35 (l, ()) = some ((0, s0 l, ()), ()):=f35_eq l (by omega)
      simp only [Bool.not_true, Bool.false_eq_true, if_false, g39, e39, g40, e40, g35, e35, Option.isSome_some, Option.getD_some, if_true]
      by_cases hc:(cS l).2.1 = 0
      · rw [dT hc]
        rcases Bool.eq_false_or_eq_true (wi 0 100 t) with hw | hw
        · have ht:=wi_iff.1 hw
          have e:=l60 l m t hc (by omega) ht
          simp only [hw, Bool.not_true, Bool.false_eq_true, if_false, e, r6_0]
          cases first (fun i=>!decide (pE (mo m i) = 0)) m.length 0 with
          | none=>rfl
          | some k=>rfl
        · simp only [hw, Bool.not_true, Bool.not_false, Bool.false_eq_true, if_false, if_true]
      · simp only [dF hc, Bool.not_false, if_true]
    · simp only [dF h2, Bool.not_true, Bool.not_false, Bool.false_eq_true, if_false, if_true]
  · simp only [dF h1, Bool.not_false, if_true]
theorem law6 (d:Tys.data as6) (hw:Tys.Wf as6 d):Pure1 Go.Proofs.Try.prog 6 as6 [.bool] d (true, ()):=by
  have h:=f6_all d.1 d.2.1 d.2.2.1
  have hp:p6.pre d = true:=by
    show Option.isSome (f6 d) = true
    rw [show f6 d = some (true, ()) from h]; rfl
  have hg:p6.fn d = (true, ()):=by
    show (f6 d).getD _ = _
    rw [show f6 d = some (true, ()) from h]; rfl
  have:=ok6.runs d hp
  rw [hg] at this
  exact this
end Go.Vm.Mo
