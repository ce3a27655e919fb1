import Derived.Test.YtlaojojnembodaaGreatRsFd
import Derived.Test.YtlaojojnembodaaGreatA5
set_option linter.unusedVariables false
set_option linter.unusedSimpArgs false

namespace Go.Vm.Mo
open Go
set_option linter.unusedVariables false
set_option linter.unusedSimpArgs false
theorem dT {p:Prop} [Decidable p] (h:p):decide p = true:=decide_eq_true h
theorem dF {p:Prop} [Decidable p] (h:¬ p):decide p = false:=decide_eq_false h
theorem nT {p:Prop} [Decidable p] (h:¬ p):(!decide p) = true:=by rw [decide_eq_false h]; rfl
theorem nF {p:Prop} [Decidable p] (h:p):(!decide p) = false:=by rw [decide_eq_true h]; rfl
theorem dA {p q:Prop} [Decidable p] [Decidable q] (h:p) (k:q):(decide p && decide q) = true:=by rw [decide_eq_true h, decide_eq_true k]; rfl
theorem qiw (bad:Nat → Bool):∀ (n i:Nat), first bad n (i + 1) = (first (fun k=>bad (k + 1)) n i).map (· + 1)
  | 0, _=>rfl
  | n + 1, i=>by
    simp only [first]
    split
    · rfl
    · exact qiw bad n (i + 1)
def qaj:List Int → Int
  | []=>0
  | a :: l=>if a = 0 then qaj l else a
theorem qhz:∀ l:List Int, (match first (fun i=>!decide (l.getD i 0 = 0)) l.length 0 with
    | some k=>l.getD k 0
    | none=>0) = qaj l
  | []=>rfl
  | a :: l=>by
    simp only [List.length, first, qaj]
    by_cases ha:a = 0
    · subst ha
      have e:=qhz l
      have hf:first (fun i=>!decide (((0:Int) :: l).getD i 0 = 0)) l.length (0 + 1) = (first (fun i=>!decide (l.getD i 0 = 0)) l.length 0).map (· + 1):=by
        rw [qiw]; rfl
      simp only [hf, List.getD_cons_zero, decide_true, Bool.not_true, Bool.false_eq_true, if_false, if_true]
      rw [← e]
      cases first (fun i=>!decide (l.getD i 0 = 0)) l.length 0 with
      | none=>rfl
      | some k=>rfl
    · simp [ha]
theorem l41 (l:List Int) (h:l.length ≤ 1000000000):l41_0 ((l, (l.length:Int), (0:Int), ()), ()) = match first (fun i=>!decide (l.getD i 0 = 0)) l.length 0 with
    | some k=>some (.inr ((l.getD k 0, ()), ()))
    | none=>some (.inl ((), ())):=by
  refine qaI (fun i=>((l, (l.length:Int), (i:Int), ()), ())) (fun i=>!decide (l.getD i 0 = 0)) (fun k=>((l.getD k 0, ()), ())) (n:=l.length) ?_ ?_ (qag (by omega))
  · intro i hi
    simp only [s41_0, t41_0, Tr.val_test, qae, qau]
    rw [if_pos (by simp; omega), if_pos (by simp; omega)]
    simp only [Int.toNat_natCast, qaf (show i ≤ 9223372036854775806 by omega)]
    rfl
  · simp [s41_0, t41_0, qae]
theorem qhu (l:List Int) (h:l.length ≤ 1000000000):f41 (l, ()) = some (qaj l, ()):=by
  simp only [f41, t41, Tr.val_test, r41_0, l41 l h, ← qhz l]
  cases first (fun i=>!decide (l.getD i 0 = 0)) l.length 0 with
  | none=>rfl
  | some k=>rfl
theorem qoo (d:Tys.data as43):f43 d = some (if d.1 = true then d.2.1 else (0:Int), ()):=by
  simp only [f43, t43, Tr.val_test]
  split <;> rfl
def wi (lo hi x:Int):Bool:=decide (lo ≤ x) && decide (x ≤ hi)
theorem wi_iff {lo hi x:Int}:wi lo hi x = true ↔ lo ≤ x ∧ x ≤ hi:=by simp [wi]
theorem qpV (d:Tys.data as54):f54 d = some (wi d.2.1 d.2.2.1 d.1, ()):=by
  simp only [f54, t54, Tr.val_test, Tr.val_fin, qae, decide_eq_true_eq, wi]
  split <;> simp [*]
theorem l85 (lo hi:Int) (l:List Int) (h:l.length ≤ 1000000000):l85_0 ((lo, hi, l, (l.length:Int), (0:Int), ()), ()) = match first (fun i=>!wi lo hi (l.getD i 0)) l.length 0 with
    | some _=>some (.inr ((false, ()), ()))
    | none=>some (.inl ((), ())):=by
  refine qaI (fun i=>((lo, hi, l, (l.length:Int), (i:Int), ()), ())) (fun i=>!wi lo hi (l.getD i 0)) (fun _=>((false, ()), ())) (n:=l.length) ?_ ?_ (qag (by omega))
  · intro i hi'
    simp only [s85_0, t85_0, Tr.val_test, Tr.val_fin, qae, Int.toNat_natCast, qaf (show i ≤ 9223372036854775806 by omega)]
    rw [if_pos (by simp; omega), if_pos (by simp; omega)]
    by_cases a0:lo ≤ l.getD i 0
    · by_cases a1:l.getD i 0 ≤ hi
      · simp only [wi, a0, a1, decide_true, Bool.and_self, Bool.not_true, if_true, if_false, Bool.false_eq_true]
      · simp only [wi, a0, a1, decide_true, decide_false, Bool.and_false, Bool.not_false, Bool.not_true, if_true, if_false, Bool.false_eq_true]
    · simp only [wi, a0, decide_false, Bool.false_and, Bool.not_false, if_true, if_false, Bool.false_eq_true]
  · simp [s85_0, t85_0, qae]
theorem qmR (lo hi:Int) (l:List Int) (h:l.length ≤ 1000000000):f85 (lo, hi, l, ()) = some ((first (fun i=>!wi lo hi (l.getD i 0)) l.length 0).isNone, ()):=by
  have hl:=l85 lo hi l h
  cases hf:first (fun i=>!wi lo hi (l.getD i 0)) l.length 0 with
  | none =>
    rw [hf] at hl
    simp only [f85, t85, Tr.val_test, Tr.val_fin, hl, qaA, Option.isSome_some, Option.isNone_none, if_true, Bool.false_eq_true, if_false]
  | some k =>
    rw [hf] at hl
    simp only [f85, t85, Tr.val_test, Tr.val_fin, hl, qaA, r85_0, outR, Option.isSome_some, Option.isNone_some, if_true]
theorem qjt (lo hi a:Int):f85 (lo, hi, [a], ()) = some (wi lo hi a, ()):=by
  rw [qmR lo hi _ (by simp)]
  simp only [first, List.length, List.getD_cons_zero]
  by_cases h1:wi lo hi a = true
  · simp [h1]
  · simp [h1]
theorem qmG (lo hi a b:Int):f85 (lo, hi, [a, b], ()) = some (wi lo hi a && wi lo hi b, ()):=by
  rw [qmR lo hi _ (by simp)]
  simp only [first, List.length, List.getD_cons_zero, List.getD_cons_succ]
  by_cases h1:wi lo hi a = true
  · by_cases h2:wi lo hi b = true
    · simp [h1, h2]
    · simp [h1, h2]
  · simp [h1]
theorem qqP (l:List Int) (h:l.length ≤ 1000000):l23_0 ((l, l, (0:Int), ()), ()) = some (.inl ((), ())):=by
  refine qaG (fun i=>((l, l, (i:Int), ()), ())) (n:=l.length) ?_ ?_ (qag (by omega))
  · intro i hi
    simp only [s23_0, t23_0, Tr.val_test, Tr.val_fin, Tr.val_stop, qae, qau, Int.toNat_natCast, qaf (show i ≤ 9223372036854775806 by omega)]
    rw [if_pos (by simp; omega), if_pos (by simp; omega), if_pos (by simp; omega)]
    simp
  · simp [s23_0, t23_0, qae]
theorem qik (l:List Int) (h:l.length ≤ 1000000):f23 (l, l, ()) = some (true, ()):=by
  simp only [f23, t23, Tr.val_test, Tr.val_fin, Tr.val_stop, qqP l h, qaA, qau, decide_true, Bool.not_true, Bool.false_eq_true, if_false, Option.isSome_some, if_true]
theorem wn64 {x:Int} (h1:-9223372036854775807 ≤ x) (h2:x ≤ 9223372036854775807):IntKind.wrap .i64 (0 - x) = -x:=by
  rw [← qbY, qai (by omega) (by omega)]
  omega
theorem qol {bad:Nat → Bool} {n:Nat}:(first bad n 0).isSome = true ↔ ∃ i, i < n ∧ bad i = true:=by
  cases h:first bad n 0 with
  | none =>
    simp only [Option.isSome_none, Bool.false_eq_true, false_iff]
    rintro ⟨i, hi, hb⟩
    rw [qaz h i (by omega) (by omega)] at hb; cases hb
  | some k =>
    obtain ⟨_, h2, h3, _⟩:=first_some h
    simp only [Option.isSome_some, true_iff]
    exact ⟨k, by omega, h3⟩
theorem qi1 {bad:Nat → Bool} {n:Nat}:(first bad n 0).isNone = true ↔ ∀ i, i < n → bad i = false:=by
  cases h:first bad n 0 with
  | none =>
    simp only [Option.isNone_none, true_iff]
    exact fun i hi=>qaz h i (by omega) (by omega)
  | some k =>
    obtain ⟨_, h2, h3, _⟩:=first_some h
    simp only [Option.isNone_some, Bool.false_eq_true, false_iff]
    intro hb
    rw [hb k (by omega)] at h3; cases h3
def qhc (e:Nat → Int) (n:Nat):Int:=match first (fun i=>!decide (e i = 0)) n 0 with
  | some k=>e k
  | none=>0
theorem qke {e:Nat → Int} {n:Nat} (h:qhc e n = 0):∀ i, i < n → e i = 0:=by
  intro i hi
  unfold qhc at h
  cases hf:first (fun i=>!decide (e i = 0)) n 0 with
  | none=>simpa using qaz hf i (by omega) (by omega)
  | some k =>
    rw [hf] at h
    obtain ⟨_, _, k3, _⟩:=first_some hf
    have h:e k = 0:=h
    simp [h] at k3
theorem qqf {e:Nat → Int} {n:Nat} (h:∀ i, i < n → e i = 0):qhc e n = 0:=by
  unfold qhc
  rw [qbf fun i _ hi=>by simp [h i (by omega)]]
theorem qej (a b:Int):f41 ([a, b], ()) = some (qaj [a, b], ()):=qhu _ (by simp)
theorem qmd (a b c:Int):f41 ([a, b, c], ()) = some (qaj [a, b, c], ()):=qhu _ (by simp)
theorem nz2 {a b:Int} (h:qaj [a, b] = 0):a = 0 ∧ b = 0:=by
  simp only [qaj] at h
  by_cases ha:a = 0
  · rw [if_pos ha] at h
    by_cases hb:b = 0
    · exact ⟨ha, hb⟩
    · rw [if_neg hb] at h; exact absurd h hb
  · rw [if_neg ha] at h; exact absurd h ha
def acc (F:Nat → Int):Nat → Int
  | 0=>0
  | n + 1=>wrap64 (acc F n + F n)
theorem qmk {F G:Nat → Int}:∀ {n:Nat}, (∀ i, i < n → F i = G i) → acc F n = acc G n
  | 0, _=>rfl
  | n + 1, h=>by simp only [acc]; rw [qmk fun i hi=>h i (by omega), h n (by omega)]
theorem qos (F:Nat → Int):∀ n, wrap64 (acc F n) = acc F n
  | 0=>by show wrap64 0 = 0; decide
  | n + 1=>qhV _
theorem qqH {F:Nat → Int} {n:Nat} (h:F n = 0):acc F (n + 1) = acc F n:=by
  simp only [acc, h, Int.add_zero]; exact qos F n
def sz (x:Int):Int:=if x < -x then -x else x
theorem qoD (x:Int) (h:-9223372036854775807 ≤ x) (h2:x ≤ 9223372036854775807):f59 (x, ()) = some (sz x, ()):=by
  simp only [f59, t59, Tr.val_fin, wn64 h h2, sz]
theorem qqc {x y:Int}:(!leF (sz x) y) = !wi (-y) y x:=by
  rw [qae]
  unfold wi sz
  by_cases hx:x < -x
  · rw [if_pos hx]
    by_cases h1:-x ≤ y
    · rw [dT h1, dT (show -y ≤ x by omega), dT (show x ≤ y by omega)]; rfl
    · rw [dF h1, dF (show ¬ -y ≤ x by omega)]; rfl
  · rw [if_neg hx]
    by_cases h1:x ≤ y
    · rw [dT h1, dT (show -y ≤ x by omega)]; rfl
    · rw [dF h1, Bool.and_false]
theorem qqJ {x y:Int}:leF (sz x) y = wi (-y) y x:=by
  have:=qqc (x:=x) (y:=y)
  cases h1:leF (sz x) y <;> cases h2:wi (-y) y x <;> simp_all
theorem qf4 (b x:Int) (h0:0 ≤ b) (h1:b ≤ 9223372036854775807):f44 (b, [x], ()) = some (!wi (-b) b x, ()):=by
  have e:=qjt (-b) b x
  simp only [f44, t44, Tr.val_test, Tr.val_fin, g85, wn64 (show -9223372036854775807 ≤ b by omega) h1, e, Option.isSome_some, Option.getD_some, if_true]
theorem qcq (b:Bool) (e:Int):f43 (b, e, ()) = some (if b = true then e else 0, ()):=qoo _
def pE (x:Int):Int:=if wi (-10000) 10000 x = true then 0 else 2
theorem qq2 (x:Int):(if (!wi (-10000) 10000 x) = true then (2:Int) else 0) = pE x:=by
  unfold pE
  cases wi (-10000) 10000 x <;> rfl
theorem qmo (b x:Int) (h0:0 ≤ b) (h1:b ≤ 9223372036854775807):f42 (b, [x], ()) = some (if (!wi (-b) b x) = true then (2:Int) else 0, ()):=by
  have e:=qf4 b x h0 h1
  have e2:=qcq (!wi (-b) b x) 2
  simp only [f42, t42, Tr.val_test, Tr.val_fin, g44, g43, e, e2, Option.isSome_some, Option.getD_some, if_true]
theorem qom (x:Int):f73 (x, ()) = some (pE x, ()):=by
  have e:=qmo 10000 x (by decide) (by decide)
  rw [qq2] at e
  simp only [f73, t73, Tr.val_test, Tr.val_fin, g42, e, Option.isSome_some, Option.getD_some, if_true]
theorem qg7 (lo hi x:Int):f54 (x, lo, hi, ()) = some (wi lo hi x, ()):=qpV _
theorem qkY (x:Int):f56 (x, ()) = some (pE x, ()):=by
  have e:=qg7 (-10000) 10000 x
  simp only [f56, t56, Tr.val_test, Tr.val_fin, g54, e, Option.isSome_some, Option.getD_some, if_true, pE]
  cases wi (-10000) 10000 x <;> rfl
theorem qjU (d:Tys.data as113):f113 d = some (wrap64 (d.1.2.2.1 - d.1.2.1.1), ()):=by
  simp only [f113, t113, Tr.val_fin]
theorem qoJ (l:List (Int×Int×Bool×Unit)) (h:l.length ≤ 100000):f25 (l, ()) = some (l, ()):=by
  simp only [f25, t25, Tr.val_test, Tr.val_fin, List.nil_append]
  rw [if_pos (by simp only [Bool.and_eq_true, qao]; omega)]
theorem qok (a:Int) (l:List (Int×Bool×Unit)) (h:l.length ≤ 100000):f26 ((a, l, ()), ()) = some ((a, l, ()), ()):=by
  simp only [f26, t26, Tr.val_test, Tr.val_fin, List.nil_append]
  rw [if_pos (by simp only [Bool.and_eq_true, qao]; omega)]
def el (l:List (Int×Int×Bool×Unit)) (i:Nat):Int×Int×Bool×Unit:=l.getD i (0, 0, false, ())
def sl (l:List (Int×Bool×Unit)) (i:Nat):Int×Bool×Unit:=l.getD i (0, false, ())
def eE (l:List (Int×Int×Bool×Unit)) (i:Nat):Int:=if (wi 1 1000 (el l i).1 && wi 1 1000 (el l i).2.1) = true then 0 else 2
theorem l89 (l:List (Int×Int×Bool×Unit)) (h:l.length ≤ 1000000):l111_0 ((l, (l.length:Int), (0:Int), ()), ()) = match first (fun i=>!decide (eE l i = 0)) l.length 0 with
    | some k=>some (.inr (((k:Int), eE l k, ()), ()))
    | none=>some (.inl ((), ())):=by
  refine qaI (fun i=>((l, (l.length:Int), (i:Int), ()), ())) (fun i=>!decide (eE l i = 0)) (fun k=>(((k:Int), eE l k, ()), ())) (n:=l.length) ?_ ?_ (qag (by omega))
  · intro i hi
    have e1:=qmG 1 1000 (el l i).1 (el l i).2.1
    have e2:=qcq (!(wi 1 1000 (el l i).1 && wi 1 1000 (el l i).2.1)) 2
    simp only [el] at e1 e2
    simp only [s111_0, t111_0, Tr.val_test, qae, qau, Int.toNat_natCast, g85, g43, e1, e2, Option.isSome_some, Option.getD_some, if_true, qaf (show i ≤ 9223372036854775806 by omega)]
    rw [if_pos (by simp; omega), if_pos (by simp; omega)]
    simp only [eE, el]
    rcases Bool.eq_false_or_eq_true (wi 1 1000 (l.getD i (0, 0, false, ())).1 && wi 1 1000 (l.getD i (0, 0, false, ())).2.1) with hb | hb <;> simp only [hb] <;> rfl
  · simp [s111_0, t111_0, qae]
def cE (most:Nat) (n:Nat) (e:Nat → Int):Int×Int×Unit :=
  if n = 0 then (0, 10, ()) else if most < n then (0, 8, ()) else match first (fun i=>!decide (e i = 0)) n 0 with
    | some k=>((k:Int), e k, ())
    | none=>(0, 0, ())
def cS (l:List (Int×Int×Bool×Unit)):Int×Int×Unit:=cE 4 l.length (eE l)
theorem qoq (n m:Nat):f82 ((n:Int), (m:Int), ()) = some (if n = 0 then 10 else if m < n then 8 else 0, ()):=by
  have e1:=qcq (decide ((n:Int) = 0)) 10
  have e2:=qcq (!decide ((n:Int) ≤ (m:Int))) 8
  have e3:=qej
  simp only [f82, t82, Tr.val_test, Tr.val_fin, qau, qae, g43, g41, e1, e2, e3, Option.isSome_some, Option.getD_some, if_true]
  by_cases h0:n = 0
  · subst h0; simp [qaj]
  · by_cases h1:m < n
    · rw [if_neg h0, if_pos h1, dF (show ¬ (n:Int) = 0 by omega), dF (show ¬ (n:Int) ≤ (m:Int) by omega)]; simp [qaj]
    · rw [if_neg h0, if_neg h1, dF (show ¬ (n:Int) = 0 by omega), dT (show (n:Int) ≤ (m:Int) by omega)]; simp [qaj]
theorem qoG (l:List (Int×Int×Bool×Unit)) (h:l.length ≤ 1000000):f86 (l, ()) = some (cS l):=by
  have e1:f82 ((l.length:Int), (4:Int), ()) = _:=qoq l.length 4
  have e2:=l89 l h
  simp only [f86, t86, Tr.val_test, Tr.val_fin, qau, g82, e1, e2, Option.isSome_some, Option.getD_some, if_true, cS, cE, r111_0]
  by_cases h0:l.length = 0
  · simp only [if_pos h0]; rfl
  · simp only [if_neg h0]
    by_cases h1:4 < l.length
    · simp only [if_pos h1]; rfl
    · simp only [if_neg h1]
      cases first (fun i=>!decide (eE l i = 0)) l.length 0 with
      | none=>rfl
      | some k=>rfl
theorem l97 (l:List (Int×Int×Bool×Unit)) (h:l.length ≤ 1000000):l97_0 ((l, (0:Int), ()), ()) = match first (fun i=>!decide (eE l i = 0)) l.length 0 with
    | some k=>some (.inr (((k:Int), eE l k, ()), ()))
    | none=>some (.inl ((), ())):=by
  refine qaI (fun i=>((l, (i:Int), ()), ())) (fun i=>!decide (eE l i = 0)) (fun k=>(((k:Int), eE l k, ()), ())) (n:=l.length) ?_ ?_ (qag (by omega))
  · intro i hi
    have e1:=qg7 1 1000 (el l i).1
    have e2:=qg7 1 1000 (el l i).2.1
    simp only [el] at e1 e2
    simp only [s97_0, t97_0, Tr.val_test, qae, qau, Int.toNat_natCast, g54, e1, e2, Option.isSome_some, Option.getD_some, if_true, qaf (show i ≤ 9223372036854775806 by omega)]
    rw [if_pos (by simp; omega), if_pos (by simp; omega)]
    simp only [eE, el]
    rcases Bool.eq_false_or_eq_true (wi 1 1000 (l.getD i (0, 0, false, ())).1) with hb | hb <;> rcases Bool.eq_false_or_eq_true (wi 1 1000 (l.getD i (0, 0, false, ())).2.1) with hc | hc <;> simp only [hb, hc] <;> rfl
  · simp [s97_0, t97_0, qae]
theorem qqg (l:List (Int×Int×Bool×Unit)) (h:l.length ≤ 1000000):f97 (l, ()) = some (cS l):=by
  have e2:=l97 l h
  simp only [f97, t97, Tr.val_test, Tr.val_fin, qau, qae, e2, Option.isSome_some, Option.getD_some, if_true, cS, cE, r97_0]
  by_cases h0:l.length = 0
  · rw [if_pos h0, if_pos (by simp [h0])]
  · rw [if_neg h0, if_neg (by simpa using h0)]
    by_cases h1:4 < l.length
    · rw [if_pos h1, if_pos (by simp; omega)]
    · rw [if_neg h1, if_neg (by simp; omega)]
      cases first (fun i=>!decide (eE l i = 0)) l.length 0 with
      | none=>rfl
      | some k=>rfl
theorem qmT {m n:Nat} {e:Nat → Int} (h:(cE m n e).2.1 = 0):0 < n ∧ n ≤ m ∧ ∀ i, i < n → e i = 0:=by
  unfold cE at h
  split at h
  · cases h
  · split at h
    · cases h
    · refine ⟨by omega, by omega, fun i hi=>?_⟩
      cases hf:first (fun i=>!decide (e i = 0)) n 0 with
      | none=>simpa using qaz hf i (by omega) (by omega)
      | some k =>
        rw [hf] at h
        obtain ⟨_, _, k3, _⟩:=first_some hf
        have h:e k = 0:=h
        simp [h] at k3
theorem qe3 {l:List (Int×Int×Bool×Unit)} (h:(cS l).2.1 = 0):0 < l.length ∧ l.length ≤ 4 ∧ ∀ i, i < l.length → 1 ≤ (el l i).1 ∧ (el l i).1 ≤ 1000 ∧ 1 ≤ (el l i).2.1 ∧ (el l i).2.1 ≤ 1000:=by
  obtain ⟨h1, h2, h3⟩:=qmT h
  refine ⟨h1, h2, fun i hi=>?_⟩
  have:=h3 i hi
  unfold eE at this
  split at this
  · rename_i hw
    simp only [Bool.and_eq_true, wi_iff] at hw
    omega
  · cases this
end Go.Vm.Mo

namespace Go.Vm.Mo
open Go
set_option linter.unusedVariables false
set_option linter.unusedSimpArgs false
abbrev ELm:=Int×Int×Bool×Unit
abbrev FLo:=Int×Int×List (Int×Int×Bool×Unit)×Unit
def fl (l:List FLo) (i:Nat):FLo:=l.getD i (0, 0, [], ())
theorem qoW (l:List FLo) {i:Nat} (h:i < l.length):l.take i++[((fl l i).1, (fl l i).2.1, (fl l i).2.2.1, ())] = l.take (i + 1):=by
  rw [List.take_add_one, List.getElem?_eq_getElem h]
  unfold fl
  rw [List.getD_eq_getElem?_getD, List.getElem?_eq_getElem h]
  rfl
def fewB (l:List FLo):Bool:=decide (l.length ≤ 7) && (first (fun i=>!decide ((fl l i).2.2.1.length ≤ 6)) l.length 0).isNone
theorem l6 (l:List FLo) (h:l.length ≤ 7):l6_0 (((0:Int), ()), (l, ()), ()) = match first (fun i=>!decide ((fl l i).2.2.1.length ≤ 6)) l.length 0 with
    | some _=>some (.inr ((false, ()), (l, ()), ()))
    | none=>some (.inl ((), (l, ()), ())):=by
  refine qaI (fun i=>(((i:Int), ()), (l, ()), ())) (fun i=>!decide ((fl l i).2.2.1.length ≤ 6)) (fun _=>((false, ()), (l, ()), ())) (n:=l.length) ?_ ?_ (qag (by omega))
  · intro i hi
    have hh:l.getD i (0, 0, [], ()) = fl l i:=rfl
    simp only [s6_0, t6_0, Tr.val_test, Tr.val_fin, qae, Int.toNat_natCast, qaf (show i ≤ 9223372036854775806 by omega), hh]
    rw [if_pos (by simp; omega), if_pos (by simp; omega)]
    by_cases h6:(fl l i).2.2.1.length ≤ 6
    · rw [dT h6, dT (show (((fl l i).2.2.1.length:Nat):Int) ≤ 6 by omega)]
    · rw [dF h6, dF (show ¬ (((fl l i).2.2.1.length:Nat):Int) ≤ 6 by omega)]
  · simp [s6_0, t6_0, qae]
theorem qqM (l:List FLo):f6 ((l, ()), ()) = some (fewB l, ()):=by
  simp only [f6, t6, Tr.val_test, Tr.val_fin, qae, fewB]
  by_cases h7:l.length ≤ 7
  · rw [if_neg (by simp; omega), dT h7]
    have e:=l6 l h7
    cases hf:first (fun i=>!decide ((fl l i).2.2.1.length ≤ 6)) l.length 0 with
    | none=>rw [hf] at e; simp only [e, qaA, Option.isSome_some, if_true, Bool.false_eq_true, if_false, Option.isNone_none, Bool.and_self]
    | some k=>rw [hf] at e; simp only [e, r6_0, outR, qaA, Option.isSome_some, if_true, Option.isNone_some, Bool.and_false]
  · rw [if_pos (by simp; omega), dF h7]; rfl
theorem qnW {l:List FLo} (h:fewB l = true):l.length ≤ 7 ∧ ∀ i, i < l.length → (fl l i).2.2.1.length ≤ 6:=by
  simp only [fewB, Bool.and_eq_true, decide_eq_true_eq, qi1] at h
  exact ⟨h.1, fun i hi=>by simpa using h.2 i hi⟩
theorem l8 (l:List FLo) (h:l.length ≤ 1000) (hs:∀ i, i < l.length → (fl l i).2.2.1.length ≤ 1000):l8_0 (((0:Int), ()), (l, ()), (), ([], ()), ()) = some (.inl ((), (l, ()), (), (l, ()), ())):=by
  have key:=qaG (step:=s8_0) (st:=fun i=>(((i:Int), ()), (l, ()), (), (l.take i, ()), ())) (b:=((), (l, ()), (), (l.take l.length, ()), ())) (n:=l.length) (m:=rounds) ?_ ?_ (qag (by omega))
  · rw [List.take_length] at key; exact key
  · intro i hi
    have e1:=qoJ (fl l i).2.2.1 (by have:=hs i hi; omega)
    have e2:=qoW l hi
    have hh:l.getD i (0, 0, [], ()) = fl l i:=rfl
    simp only [s8_0, t8_0, Tr.val_test, Tr.val_fin, qae, Int.toNat_natCast, hh, g25, e1, e2, Option.isSome_some, Option.getD_some, if_true, qaf (show i ≤ 9223372036854775806 by omega)]
    rw [if_pos (by simp; omega), if_pos (by simp; omega), if_pos (by simp only [Bool.and_eq_true, qao, List.length_take]; omega)]
  · simp [s8_0, t8_0, qae]
theorem qpI (l:List FLo) (h:l.length ≤ 1000) (hs:∀ i, i < l.length → (fl l i).2.2.1.length ≤ 1000):f8 ((l, ()), ()) = some ((l, ()), ()):=by
  simp only [f8, t8, Tr.val_test, Tr.val_fin, l8 l h hs, b8_0, qbI, outB, if_true]
def fE (l:List FLo) (i:Nat):Int:=qaj [if (wi 1 10000 (fl l i).1 && wi 1 1000 (fl l i).2.1) = true then 0 else 2, (cS (fl l i).2.2.1).2.1]
theorem l106 (l:List FLo) (h:l.length ≤ 1000) (hs:∀ i, i < l.length → (fl l i).2.2.1.length ≤ 1000):l83_0 ((l, (l.length:Int), (0:Int), ()), ()) = match first (fun i=>!decide (fE l i = 0)) l.length 0 with
    | some k=>some (.inr (((k:Int), fE l k, ()), ()))
    | none=>some (.inl ((), ())):=by
  refine qaI (fun i=>((l, (l.length:Int), (i:Int), ()), ())) (fun i=>!decide (fE l i = 0)) (fun k=>(((k:Int), fE l k, ()), ())) (n:=l.length) ?_ ?_ (qag (by omega))
  · intro i hi
    have e1:=qjt 1 10000 (fl l i).1
    have e2:=qjt 1 1000 (fl l i).2.1
    have e3:=qoG (fl l i).2.2.1 (by have:=hs i hi; omega)
    have e4:f43 (true, (2:Int), ()) = some (2, ()):=qoo _
    have e5:=fun b=>qcq b 2
    have e6:=qej
    have hh:l.getD i (0, 0, [], ()) = fl l i:=rfl
    simp only [s83_0, t83_0, Tr.val_test, hh, qae, qau, Int.toNat_natCast, g85, g43, g41, g86, e1, e2, e3, e4, e5, e6, Option.isSome_some, Option.getD_some, if_true, qaf (show i ≤ 9223372036854775806 by omega)]
    rw [if_pos (by simp; omega), if_pos (by simp; omega)]
    simp only [fE]
    rcases Bool.eq_false_or_eq_true (wi 1 10000 (fl l i).1) with hb | hb <;> rcases Bool.eq_false_or_eq_true (wi 1 1000 (fl l i).2.1) with hc | hc <;> simp only [hb, hc, Bool.not_true, Bool.not_false, Bool.false_eq_true, if_true, if_false, Bool.and_self, Bool.and_false, Bool.false_and, Bool.and_true]
    all_goals split <;> simp_all
  · simp [s83_0, t83_0, qae]
def cF (l:List FLo):Int×Int×Unit:=cE 5 l.length (fE l)
theorem qox (l:List FLo) (h:l.length ≤ 1000) (hs:∀ i, i < l.length → (fl l i).2.2.1.length ≤ 1000):f38 ((l, ()), ()) = some (cF l):=by
  have e1:f82 ((l.length:Int), (5:Int), ()) = _:=qoq l.length 5
  have e2:=l106 l h hs
  simp only [f38, t38, Tr.val_test, Tr.val_fin, qau, g82, e1, e2, Option.isSome_some, Option.getD_some, if_true, cF, cE, r83_0]
  by_cases h0:l.length = 0
  · simp only [if_pos h0]; rfl
  · simp only [if_neg h0]
    by_cases h1:5 < l.length
    · simp only [if_pos h1]; rfl
    · simp only [if_neg h1]
      cases first (fun i=>!decide (fE l i = 0)) l.length 0 with
      | none=>rfl
      | some k=>rfl
theorem qqn (l:List ELm) (h:l.length ≤ 1000000):f55 (l, ()) = some ((cS l).2.1, ()):=by
  simp only [f55, t55, Tr.val_test, Tr.val_fin, g97, qqg l h, Option.isSome_some, Option.getD_some, if_true]
theorem l12 (l:List FLo) (h:l.length ≤ 1000) (hs:∀ i, i < l.length → (fl l i).2.2.1.length ≤ 1000):l12_0 (((0:Int), ()), (l, ()), ()) = match first (fun i=>!decide (fE l i = 0)) l.length 0 with
    | some k=>some (.inr (((k:Int), fE l k, ()), (l, ()), ()))
    | none=>some (.inl ((), (l, ()), ())):=by
  refine qaI (fun i=>(((i:Int), ()), (l, ()), ())) (fun i=>!decide (fE l i = 0)) (fun k=>(((k:Int), fE l k, ()), (l, ()), ())) (n:=l.length) ?_ ?_ (qag (by omega))
  · intro i hi
    have e1:=qg7 1 10000 (fl l i).1
    have e2:=qg7 1 1000 (fl l i).2.1
    have e3:=qqn (fl l i).2.2.1 (by have:=hs i hi; omega)
    have hh:l.getD i (0, 0, [], ()) = fl l i:=rfl
    simp only [s12_0, t12_0, Tr.val_test, Tr.val_fin, hh, qae, qau, Int.toNat_natCast, g54, g55, e1, e2, e3, Option.isSome_some, Option.getD_some, if_true, qaf (show i ≤ 9223372036854775806 by omega)]
    rw [if_pos (by simp; omega), if_pos (by simp; omega)]
    simp only [fE]
    rcases Bool.eq_false_or_eq_true (wi 1 10000 (fl l i).1) with hb | hb <;> rcases Bool.eq_false_or_eq_true (wi 1 1000 (fl l i).2.1) with hc | hc <;> simp only [hb, hc, Bool.not_true, Bool.not_false, Bool.false_eq_true, if_true, if_false, Bool.and_self, Bool.and_false, Bool.false_and, Bool.and_true, qaj]
    all_goals split <;> simp_all
  · simp [s12_0, t12_0, qae]
theorem qpZ (l:List FLo) (h:l.length ≤ 1000) (hs:∀ i, i < l.length → (fl l i).2.2.1.length ≤ 1000):f12 ((l, ()), ()) = some (cF l):=by
  have e2:=l12 l h hs
  simp only [f12, t12, Tr.val_test, Tr.val_fin, qau, qae, e2, Option.isSome_some, Option.getD_some, if_true, cF, cE, r12_0]
  by_cases h0:l.length = 0
  · rw [if_pos h0, if_pos (by simp [h0])]
  · rw [if_neg h0, if_neg (by simpa using h0)]
    by_cases h1:5 < l.length
    · rw [if_pos h1, if_pos (by simp; omega)]
    · rw [if_neg h1, if_neg (by simp; omega)]
      cases first (fun i=>!decide (fE l i = 0)) l.length 0 with
      | none=>rfl
      | some k=>rfl
theorem qei {l:List FLo} (h:(cF l).2.1 = 0):0 < l.length ∧ l.length ≤ 5 ∧ ∀ i, i < l.length → (1 ≤ (fl l i).1 ∧ (fl l i).1 ≤ 10000 ∧ 1 ≤ (fl l i).2.1 ∧ (fl l i).2.1 ≤ 1000) ∧ (cS (fl l i).2.2.1).2.1 = 0:=by
  obtain ⟨h1, h2, h3⟩:=qmT h
  refine ⟨h1, h2, fun i hi=>?_⟩
  have:=h3 i hi
  unfold fE at this
  obtain ⟨a, b⟩:=nz2 this
  refine ⟨?_, b⟩
  split at a
  · rename_i hw
    simp only [Bool.and_eq_true, wi_iff] at hw
    omega
  · cases a
def lst {α:Type} (F:Nat → α) (n:Nat):List α:=(List.range n).map F
theorem qeX {α:Type} (F:Nat → α) (n:Nat):lst F (n + 1) = lst F n++[F n]:=by simp [lst, List.range_succ]
theorem qbh {α:Type} (F:Nat → α) (n:Nat):(lst F n).length = n:=by simp [lst]
theorem qgr {α:Type} (F:Nat → α) {n i:Nat} (d:α) (h:i < n):(lst F n).getD i d = F i:=by simp [lst, List.getD, h]
theorem qgz {i:Nat} (h:0 < i) (h2:i ≤ 9223372036854775806):wrap64 ((i:Int) - 1) = ((i - 1:Nat):Int):=by
  rw [qai (by omega) (by omega)]; omega
theorem qp0 {n:Nat} (k:Int) (h:k * (n:Int) ≤ 281474976710656) (h2:(n:Int) ≤ 281474976710656):(decide ((0:Int) ≤ (n:Int)) && decide ((n:Int) ≤ (n:Int)) && decide (k * (n:Int) ≤ (281474976710656:Int)) && decide ((n:Int) ≤ (281474976710656:Int))) = true:=by
  simp only [Bool.and_eq_true, decide_eq_true_eq]; omega
abbrev ELs:=Int×Int×Bool×Unit
abbrev SLs:=Int×Bool×Unit
def st (at_:Int) (s:SLs):Int:=wrap64 (at_ - s.1)
def hE (l:List ELs) (a:Int) (x:List SLs) (i:Nat):Int :=
  qaj [pE (sl x i).1, if ((sl x i).2.1 && !(el l i).2.2.1 || (el l i).2.2.1 && !decide ((sl x i).1 = 0)) = true then 3 else 0,
    if (!(sl x i).2.1 && !wi (-(el l i).2.1) (el l i).2.1 (st a (sl x i))) = true then 22 else 0]
theorem qqs (k y:Int) (br:Bool) (s:Int) (bk:Bool) (a:Int) (h0:0 ≤ y) (h1:y ≤ 9223372036854775807):f90 (((k, y, br, ()), (s, bk, ()), a, ()), ()) =
    some (qaj [pE s, if (bk && !br || br && !decide (s = 0)) = true then 3 else 0, if (!bk && !wi (-y) y (wrap64 (a - s))) = true then 22 else 0], ()):=by
  have e1:=qom s
  have e2:=fun b=>qcq b 3
  have e3:=fun b=>qcq b 22
  have e4:=qf4 y (wrap64 (a - s)) h0 h1
  have e5:=qmd
  have e6:f113 (((k, y, br, ()), (s, bk, ()), a, ()), ()) = some (wrap64 (a - s), ()):=qjU _
  simp only [f90, t90, Tr.val_test, Tr.val_fin, qau, g73, g43, g41, g44, g113, e1, e2, e3, e4, e5, e6, Option.isSome_some, Option.getD_some, if_true]
  cases bk <;> cases br <;> simp only [Bool.not_true, Bool.not_false, Bool.true_and, Bool.false_and, Bool.or_false, Bool.false_or, Bool.false_eq_true, if_true, if_false, Bool.and_false, Bool.and_true]
theorem hE_f {l:List ELs} {x:List SLs} {a:Int} {i:Nat} (h0:0 ≤ (el l i).2.1) (h1:(el l i).2.1 ≤ 9223372036854775807) :
    f90 ((((el l i).1, (el l i).2.1, (el l i).2.2.1, ()), ((sl x i).1, (sl x i).2.1, ()), a, ()), ()) = some (hE l a x i, ()):=qqs _ _ _ _ _ _ h0 h1
theorem l92 (l:List ELs) (a:Int) (x:List SLs) (hx:x.length = l.length) (h:l.length ≤ 1000000) (hy:∀ i, i < l.length → 1 ≤ (el l i).2.1 ∧ (el l i).2.1 ≤ 1000) :
    l88_0 ((x, (x.length:Int), (0:Int), ()), (l, ()), (a, x, ()), ()) = match first (fun i=>!decide (hE l a x i = 0)) l.length 0 with
    | some k=>some (.inr (((k:Int), hE l a x k, ()), (l, ()), (a, x, ()), ()))
    | none=>some (.inl ((), (l, ()), (a, x, ()), ())):=by
  refine qaI (fun i=>((x, (x.length:Int), (i:Int), ()), (l, ()), (a, x, ()), ())) (fun i=>!decide (hE l a x i = 0)) (fun k=>(((k:Int), hE l a x k, ()), (l, ()), (a, x, ()), ())) (n:=l.length) ?_ ?_ (qag (by omega))
  · intro i hi
    have hh:l.getD i (0, 0, false, ()) = el l i:=rfl
    have hk:x.getD i (0, false, ()) = sl x i:=rfl
    have b:=hy i hi
    have e:=hE_f (l:=l) (x:=x) (a:=a) (i:=i) (by omega) (by omega)
    simp only [s88_0, t88_0, Tr.val_test, Tr.val_fin, qae, qau, Int.toNat_natCast, hh, hk, g90, e, Option.isSome_some, Option.getD_some, if_true, qaf (show i ≤ 9223372036854775806 by omega)]
    rw [if_pos (by simp; omega), if_pos (by simp; omega), if_pos (by simp; omega)]
  · simp [s88_0, t88_0, qae, hx]
def cH (l:List ELs) (a:Int) (x:List SLs):Int×Int×Unit :=
  if pE a = 0 then if x.length = l.length then match first (fun i=>!decide (hE l a x i = 0)) l.length 0 with
    | some k=>((k:Int), hE l a x k, ())
    | none=>(0, 0, ())
  else (0, 10, ()) else (0, pE a, ())
def cSH (l:List ELs) (a:Int) (x:List SLs):Int×Int×Unit:=if (cS l).2.1 = 0 then cH l a x else cS l
theorem qoC (l:List ELs) (a:Int) (x:List SLs) (h:l.length ≤ 1000000):f40 (l, (a, x, ()), ()) = some (cSH l a x):=by
  have e1:=qoG l h
  have e2:=qom a
  have e3:=qcq (!decide ((x.length:Int) = (l.length:Int))) 10
  have e4:=qej
  simp only [f40, t40, Tr.val_test, Tr.val_fin, qau, g86, g73, g43, g41, e1, e2, e3, e4, Option.isSome_some, Option.getD_some, if_true, cSH]
  by_cases hc:(cS l).2.1 = 0
  · rw [if_neg (by simp [hc]), if_pos hc]
    have hv:=qe3 hc
    simp only [cH]
    by_cases hp:pE a = 0
    · by_cases hx:x.length = l.length
      · have e5:=l92 l a x hx h fun i hi=>by have:=hv.2.2 i hi; omega
        rw [if_pos hp, if_pos hx, dT (show (x.length:Int) = (l.length:Int) by omega)]
        simp only [hp, qaj, Bool.not_true, Bool.false_eq_true, if_false, if_true, decide_true, e5, r88_0]
        cases first (fun i=>!decide (hE l a x i = 0)) l.length 0 with
        | none=>rfl
        | some k=>rfl
      · rw [if_pos hp, if_neg hx, dF (show ¬ (x.length:Int) = (l.length:Int) by omega)]
        simp only [hp, qaj, Bool.not_false, if_true]
        rfl
    · have:qaj [pE a, if (!decide ((x.length:Int) = (l.length:Int))) = true then 10 else 0] = pE a:=by simp only [qaj]; rw [if_neg hp]
      rw [if_neg hp, this, if_pos (by simp [hp])]
  · rw [if_pos (by simp [hc]), if_neg hc]
theorem qe7 {x:Int} (h:pE x = 0):-10000 ≤ x ∧ x ≤ 10000:=by
  unfold pE at h
  split at h
  · rename_i hw; exact wi_iff.1 hw
  · cases h
theorem pE_ne {x:Int} (h:pE x ≠ 0):pE x = 2:=by
  unfold pE at h ⊢
  split at h
  · exact absurd rfl h
  · rename_i hw; rw [if_neg hw]
theorem l98 (l:List ELs) (a:Int) (x:List SLs) (ha:pE a = 0) (hx:x.length = l.length) (h:l.length ≤ 1000000) :
    l98_0 ((l, (0:Int), ()), (a, x, ()), ()) = match first (fun i=>!decide (hE l a x i = 0)) l.length 0 with
    | some k=>some (.inr (((k:Int), hE l a x k, ()), (a, x, ()), ()))
    | none=>some (.inl ((), (a, x, ()), ())):=by
  refine qaI (fun i=>((l, (i:Int), ()), (a, x, ()), ())) (fun i=>!decide (hE l a x i = 0)) (fun k=>(((k:Int), hE l a x k, ()), (a, x, ()), ())) (n:=l.length) ?_ ?_ (qag (by omega))
  · intro i hi
    have hh:l.getD i (0, 0, false, ()) = el l i:=rfl
    have hk:x.getD i (0, false, ()) = sl x i:=rfl
    have e:=qkY (sl x i).1
    simp only [s98_0, t98_0, Tr.val_test, Tr.val_fin, qae, qau, Int.toNat_natCast, hh, hk, g56, e, Option.isSome_some, Option.getD_some, if_true, qaf (show i ≤ 9223372036854775806 by omega)]
    rw [if_pos (by simp; omega), if_pos (by simp; omega)]
    have hE':hE l a x i = qaj [pE (sl x i).1, if ((sl x i).2.1 && !(el l i).2.2.1 || (el l i).2.2.1 && !decide ((sl x i).1 = 0)) = true then 3 else 0,
      if (!(sl x i).2.1 && !wi (-(el l i).2.1) (el l i).2.1 (wrap64 (a - (sl x i).1))) = true then 22 else 0]:=rfl
    by_cases hp:pE (sl x i).1 = 0
    · have b1:=qe7 hp
      have b2:=qe7 ha
      have w:wrap64 (a - (sl x i).1) = a - (sl x i).1:=qai (by omega) (by omega)
      have e8:=qoD (a - (sl x i).1) (by omega) (by omega)
      rw [w] at hE'
      have hlt:(decide ((0:Int) ≤ (i:Int)) && decide ((i:Int) < (l.length:Int))) = true:=dA (by omega) (by omega)
      have hg:leF (sz (a - (sl x i).1)) (el l i).2.1 = wi (-(el l i).2.1) (el l i).2.1 (a - (sl x i).1):=qqJ
      have hg':decide (sz (a - (sl x i).1) ≤ (el l i).2.1) = wi (-(el l i).2.1) (el l i).2.1 (a - (sl x i).1):=by rw [← hg, qae]
      rw [hE']
      simp only [hp, w, g59, e8, hlt, hg', decide_true, Bool.not_true, Bool.false_eq_true, if_false, if_true, Option.isSome_some, Option.getD_some, qaj]
      rcases Bool.eq_false_or_eq_true (sl x i).2.1 with hb | hb <;> rcases Bool.eq_false_or_eq_true (el l i).2.2.1 with hc | hc <;> rcases Bool.eq_false_or_eq_true (decide ((sl x i).1 = 0)) with hd | hd <;>
        rcases Bool.eq_false_or_eq_true (wi (-(el l i).2.1) (el l i).2.1 (a - (sl x i).1)) with hw | hw <;>
        simp only [hb, hc, hd, hw, Bool.not_true, Bool.not_false, Bool.true_and, Bool.false_and, Bool.or_false, Bool.false_or, Bool.false_eq_true, if_true, if_false, Bool.and_false, Bool.and_true] <;> rfl
    · rw [hE']
      simp only [qaj, if_neg hp]
      rw [dF hp]
      rfl
  · simp [s98_0, t98_0, qae]
theorem qqt (l:List ELs) (a:Int) (x:List SLs) (h:l.length ≤ 1000000):f98 (l, (a, x, ()), ()) = some (cH l a x):=by
  have e1:=qkY a
  simp only [f98, t98, Tr.val_test, Tr.val_fin, qau, g56, e1, Option.isSome_some, Option.getD_some, if_true, cH]
  by_cases hp:pE a = 0
  · rw [if_pos hp, if_neg (by simp [hp])]
    by_cases hx:x.length = l.length
    · have e5:=l98 l a x hp hx h
      rw [if_pos hx, if_neg (by simp; omega)]
      simp only [e5, r98_0]
      cases first (fun i=>!decide (hE l a x i = 0)) l.length 0 with
      | none=>rfl
      | some k=>rfl
    · rw [if_neg hx, if_pos (by simp; omega)]
  · rw [if_neg hp, if_pos (by simp [hp])]
theorem qni {l:List ELs} {a:Int} {x:List SLs} (h:(cH l a x).2.1 = 0):(-10000 ≤ a ∧ a ≤ 10000) ∧ x.length = l.length ∧ ∀ i, i < l.length → hE l a x i = 0:=by
  unfold cH at h
  split at h
  · rename_i hp
    split at h
    · rename_i hx
      refine ⟨qe7 hp, hx, fun i hi=>?_⟩
      cases hf:first (fun i=>!decide (hE l a x i = 0)) l.length 0 with
      | none=>simpa using qaz hf i (by omega) (by omega)
      | some k =>
        rw [hf] at h
        obtain ⟨_, _, k3, _⟩:=first_some hf
        have h:hE l a x k = 0:=h
        simp [h] at k3
    · cases h
  · rename_i hp
    exact absurd h hp
theorem qmW {l:List ELs} {a:Int} {x:List SLs} {i:Nat} (h:hE l a x i = 0):(-10000 ≤ (sl x i).1 ∧ (sl x i).1 ≤ 10000) ∧ ((sl x i).2.1 = false → wi (-(el l i).2.1) (el l i).2.1 (st a (sl x i)) = true) ∧
    ((el l i).2.2.1 = true → (sl x i).1 = 0) ∧ ((sl x i).2.1 = true → (el l i).2.2.1 = true):=by
  unfold hE qaj at h
  by_cases h1:pE (sl x i).1 = 0
  · rw [if_pos h1] at h
    refine ⟨qe7 h1, ?_⟩
    simp only [qaj] at h
    rcases Bool.eq_false_or_eq_true (sl x i).2.1 with hb | hb <;> rcases Bool.eq_false_or_eq_true (el l i).2.2.1 with hc | hc <;> by_cases h0:(sl x i).1 = 0 <;> rcases Bool.eq_false_or_eq_true (wi (-(el l i).2.1) (el l i).2.1 (st a (sl x i))) with hw | hw <;> simp_all
  · rw [if_neg h1] at h; exact absurd h h1
end Go.Vm.Mo

namespace Go.Vm.Mo
open Go
set_option linter.unusedVariables false
set_option linter.unusedSimpArgs false
def FO (l:List ELs) (a:Int) (x:List SLs) (i:Nat):Int:=if (sl x i).2.1 = true then 0 else wrap64 ((el l i).1 * st a (sl x i))
theorem qpv (k y:Int) (br:Bool) (s:Int) (bk:Bool) (a:Int):f102 (((k, y, br, ()), (s, bk, ()), a, ()), ()) = some (if bk = true then 0 else wrap64 (k * wrap64 (a - s)), ()):=by
  have e6:f113 (((k, y, br, ()), (s, bk, ()), a, ()), ()) = some (wrap64 (a - s), ()):=qjU _
  simp only [f102, t102, Tr.val_test, Tr.val_fin, g113, e6, Option.isSome_some, Option.getD_some, if_true]
  cases bk <;> rfl
theorem qqX (l:List ELs) (a:Int) (x:List SLs) (h:x.length ≤ l.length) (hl:l.length ≤ 1000000) :
    l109_0 ((x, (x.length:Int), (0:Int), ()), (), (l, a, x, ()), (), ((0:Int), ()), ()) = some (.inl ((), (), (l, a, x, ()), (), (acc (FO l a x) x.length, ()), ())):=by
  refine qaG (fun i=>((x, (x.length:Int), (i:Int), ()), (), (l, a, x, ()), (), (acc (FO l a x) i, ()), ())) (n:=x.length) ?_ ?_ (qag (by omega))
  · intro i hi
    have hh:l.getD i (0, 0, false, ()) = el l i:=rfl
    have hk:x.getD i (0, false, ()) = sl x i:=rfl
    have e:=qpv (el l i).1 (el l i).2.1 (el l i).2.2.1 (sl x i).1 (sl x i).2.1 a
    simp only [s109_0, t109_0, Tr.val_test, Tr.val_fin, qae, Int.toNat_natCast, hh, hk, g102, e, Option.isSome_some, Option.getD_some, if_true, qaf (show i ≤ 9223372036854775806 by omega), acc]
    rw [if_pos (by simp; omega), if_pos (by simp; omega), if_pos (by simp; omega)]
    rfl
  · simp [s109_0, t109_0, qae]
theorem qoH (l:List ELs) (a:Int) (x:List SLs) (h:x.length ≤ l.length) (hl:l.length ≤ 1000000):f68 ((l, (a, x, ()), ()), ()) = some (acc (FO l a x) x.length, ()):=by
  simp only [f68, t68, Tr.val_test, Tr.val_fin, qqX l a x h hl, b109_0, qbI, outB, if_true]
theorem qk4 {l:List ELs} {a:Int} {x:List SLs} (h:(cSH l a x).2.1 = 0):(cS l).2.1 = 0 ∧ (cH l a x).2.1 = 0:=by
  unfold cSH at h
  split at h
  · rename_i hc; exact ⟨hc, h⟩
  · rename_i hc; exact absurd h hc
def MV (l:List ELs) (x:List SLs) (a:Int) (i:Nat):SLs :=
  if (sl x i).2.1 = true then ((sl x i).1, (sl x i).2.1, ()) else if wi (-(el l i).2.1) (el l i).2.1 (st a (sl x i)) = true then ((sl x i).1, (sl x i).2.1, ())
  else if (el l i).2.2.1 = true then (0, true, ()) else if 0 < st a (sl x i) then (wrap64 (a - (el l i).2.1), (sl x i).2.1, ()) else (wrap64 (a + (el l i).2.1), (sl x i).2.1, ())
theorem qpo (l:List ELs) (x:List SLs) (b a:Int) (i:Nat) (h0:0 ≤ (el l i).2.1) (h1:(el l i).2.1 ≤ 9223372036854775807) :
    f108 ((((el l i).1, (el l i).2.1, (el l i).2.2.1, ()), ((sl x i).1, (sl x i).2.1, ()), b, ()), a, ()) = some ((((el l i).1, (el l i).2.1, (el l i).2.2.1, ()), ((MV l x a i).1, (MV l x a i).2.1, ()), a, ()), ()):=by
  have e6:f113 ((((el l i).1, (el l i).2.1, (el l i).2.2.1, ()), ((sl x i).1, (sl x i).2.1, ()), a, ()), ()) = some (st a (sl x i), ()):=qjU _
  have e4:=qf4 (el l i).2.1 (st a (sl x i)) h0 h1
  simp only [f108, t108, Tr.val_test, Tr.val_fin, qae, g113, g44, e6, e4, Option.isSome_some, Option.getD_some, if_true, MV]
  rcases Bool.eq_false_or_eq_true (sl x i).2.1 with hb | hb
  · simp only [hb, if_true]
  · rcases Bool.eq_false_or_eq_true (wi (-(el l i).2.1) (el l i).2.1 (st a (sl x i))) with hw | hw
    · simp only [hb, hw, Bool.false_eq_true, if_false, Bool.not_true, Bool.not_false, if_true]
    · rcases Bool.eq_false_or_eq_true (el l i).2.2.1 with hr | hr
      · simp only [hb, hw, hr, Bool.false_eq_true, if_false, Bool.not_true, Bool.not_false, if_true]
      · by_cases hp:0 < st a (sl x i)
        · simp only [hb, hw, hr, Bool.false_eq_true, if_false, Bool.not_true, Bool.not_false, if_true, if_pos hp, dF (show ¬ st a (sl x i) ≤ 0 by omega)]
        · simp only [hb, hw, hr, Bool.false_eq_true, if_false, Bool.not_true, Bool.not_false, if_true, if_neg hp, dT (show st a (sl x i) ≤ 0 by omega)]
theorem qq0 (l:List ELs) (b:Int) (x:List SLs) (a:Int) (h:x.length ≤ l.length) (hl:l.length ≤ 100000) (hy:∀ i, i < l.length → 1 ≤ (el l i).2.1 ∧ (el l i).2.1 ≤ 1000) :
    l109_0_1 ((x, (x.length:Int), (0:Int), ()), (), (l, b, x, ()), (a, ()), (l, a, [], ()), ()) = some (.inl ((), (), (l, b, x, ()), (a, ()), (l, a, lst (MV l x a) x.length, ()), ())):=by
  refine qaG (fun i=>((x, (x.length:Int), (i:Int), ()), (), (l, b, x, ()), (a, ()), (l, a, lst (MV l x a) i, ()), ())) (n:=x.length) ?_ ?_ (qag (by omega))
  · intro i hi
    have hh:l.getD i (0, 0, false, ()) = el l i:=rfl
    have hk:x.getD i (0, false, ()) = sl x i:=rfl
    have y:=hy i (by omega)
    have e:=qpo l x b a i (by omega) (by omega)
    rw [qeX]
    simp only [s109_0_1, t109_0_1, Tr.val_test, Tr.val_fin, qae, Int.toNat_natCast, hh, hk, g108, e, Option.isSome_some, Option.getD_some, if_true, qbh, qaf (show i ≤ 9223372036854775806 by omega)]
    rw [if_pos (by simp; omega), if_pos (by simp; omega), if_pos (by simp; omega), if_pos (by simp only [Bool.and_eq_true, qao]; omega)]
  · simp [s109_0_1, t109_0_1, qae]
theorem qpW (l:List ELs) (b:Int) (x:List SLs) (a:Int) (h:x.length ≤ l.length) (hl:l.length ≤ 100000) (hy:∀ i, i < l.length → 1 ≤ (el l i).2.1 ∧ (el l i).2.1 ≤ 1000) :
    f74 ((l, (b, x, ()), ()), a, ()) = some ((l, (a, lst (MV l x a) x.length, ()), ()), ()):=by
  simp only [f74, t74, Tr.val_test, Tr.val_fin, qq0 l b x a h hl hy, b109_0_1, qbI, outB, if_true]
end Go.Vm.Mo

namespace Go.Vm.Mo
open Go
set_option linter.unusedVariables false
set_option linter.unusedSimpArgs false
abbrev HOs:=Int×List (Int×Bool×Unit)×Unit
def ho (hs:List HOs) (i:Nat):HOs:=hs.getD i (0, [], ())
def nv (x:List Int) (i:Nat):Int:=x.getD i 0
theorem qgk {A B C:Type} {step:A → Option (Out A B C)} (st:Nat → A) (bad:Nat → Bool) (r:Nat → C) {n m:Nat} {b:B}
    (h:∀ i, i < n → (∀ j, j < i → bad j = false) → step (st i) = if bad i = true then some (.ret (r i)) else some (.again (st (i + 1)))) (hb:(∀ j, j < n → bad j = false) → step (st n) = some (.brk b)) (hm:n < m) :
    itr step m (st 0) = match first bad n 0 with
      | some k=>some (.inr (r k))
      | none=>some (.inl b):=by
  cases e:first bad n 0 with
  | none =>
    have hn:=qaz e
    have hg:∀ j, j < n → bad j = false:=fun j hj=>hn j (by omega) (by omega)
    exact qaG st (fun i hi=>by rw [h i hi fun j hj=>hg j (by omega), hg i hi]; rfl) (hb hg) hm
  | some k =>
    obtain ⟨_, k2, k3, k4⟩:=first_some e
    have hk:k < n:=by omega
    have hg:∀ j, j < k → bad j = false:=fun j hj=>k4 j (by omega) (by omega)
    exact qmx (n:=k) st (fun i hi=>by rw [h i (by omega) fun j hj=>hg j (by omega), hg i hi]; rfl) (by rw [h k hk hg, k3]; rfl) (by omega)
theorem qqk (x:List Int) (h:x.length ≤ 100000) (h0:0 < x.length):f91 (x, ()) = some (x, ()):=by
  simp only [f91, t91, Tr.val_test, Tr.val_fin, List.nil_append]
  rw [if_neg (by rw [qdO]; omega), if_pos (by simp only [Bool.and_eq_true, qao]; omega)]
theorem qph (l:List HOs) {i:Nat} (h:i < l.length):l.take i++[((ho l i).1, (ho l i).2.1, ())] = l.take (i + 1):=by
  rw [List.take_add_one, List.getElem?_eq_getElem h]
  unfold ho
  rw [List.getD_eq_getElem?_getD, List.getElem?_eq_getElem h]
  rfl
theorem l9 (nw bf nw' bf':List Int) (hs:List HOs) (h:hs.length ≤ 1000) (hh:∀ i, i < hs.length → (ho hs i).2.1.length ≤ 1000) :
    l9_0 (((0:Int), ()), (nw, bf, hs, ()), (), (nw', bf', [], ()), ()) = some (.inl ((), (nw, bf, hs, ()), (), (nw', bf', hs, ()), ())):=by
  have key:=qaG (step:=s9_0) (st:=fun i=>(((i:Int), ()), (nw, bf, hs, ()), (), (nw', bf', hs.take i, ()), ())) (b:=((), (nw, bf, hs, ()), (), (nw', bf', hs.take hs.length, ()), ())) (n:=hs.length) (m:=rounds) ?_ ?_ (qag (by omega))
  · rw [List.take_length] at key; exact key
  · intro i hi
    have e1:=qok (ho hs i).1 (ho hs i).2.1 (by have:=hh i hi; omega)
    have e2:=qph hs hi
    have hk:hs.getD i (0, [], ()) = ho hs i:=rfl
    simp only [s9_0, t9_0, Tr.val_test, Tr.val_fin, qae, Int.toNat_natCast, hk, g26, e1, e2, Option.isSome_some, Option.getD_some, if_true, qaf (show i ≤ 9223372036854775806 by omega)]
    rw [if_pos (by simp; omega), if_pos (by simp; omega), if_pos (by simp only [Bool.and_eq_true, qao, List.length_take]; omega)]
  · simp [s9_0, t9_0, qae]
theorem qqO (nw bf:List Int) (hs:List HOs) (h1:nw.length ≤ 1000) (h2:bf.length ≤ 1000) (h:hs.length ≤ 1000) (hh:∀ i, i < hs.length → (ho hs i).2.1.length ≤ 1000) :
    f9 ((nw, bf, hs, ()), ()) = some ((nw, bf, hs, ()), ()):=by
  have e3:=l9 nw bf nw bf hs h hh
  simp only [f9, t9, Tr.val_test, Tr.val_fin, List.nil_append]
  rw [if_pos (by simp only [Bool.and_eq_true, qao]; omega), if_pos (by simp only [Bool.and_eq_true, qao]; omega)]
  simp only [e3, b9_0, qbI, outB, if_true]
theorem qo4 (b x y:Int) (h0:0 ≤ b) (h1:b ≤ 9223372036854775807):f44 (b, [x, y], ()) = some (!(wi (-b) b x && wi (-b) b y), ()):=by
  have e:=qmG (-b) b x y
  simp only [f44, t44, Tr.val_test, Tr.val_fin, g85, wn64 (show -9223372036854775807 ≤ b by omega) h1, e, Option.isSome_some, Option.getD_some, if_true]
theorem qo7 (b x y:Int) (h0:0 ≤ b) (h1:b ≤ 9223372036854775807):f42 (b, [x, y], ()) = some (if (!(wi (-b) b x && wi (-b) b y)) = true then (2:Int) else 0, ()):=by
  have e:=qo4 b x y h0 h1
  have e2:=qcq (!(wi (-b) b x && wi (-b) b y)) 2
  simp only [f42, t42, Tr.val_test, Tr.val_fin, g44, g43, e, e2, Option.isSome_some, Option.getD_some, if_true]
def pv (x:List Int) (i:Nat):Int:=if i = 0 then 0 else nv x (i - 1)
def dr (x:List Int) (i:Nat):Int:=wrap64 (nv x i - pv x i)
theorem qjs (x:List Int) (i:Nat):pv x (i + 1) = nv x i:=rfl
def eS (l:List FLo) (nw bf:List Int) (hs:List HOs) (i:Nat):Int :=
  qaj [if (!(wi (-10000) 10000 (nv nw i) && wi (-10000) 10000 (nv bf i))) = true then 2 else 0, (cSH (fl l i).2.2.1 (ho hs i).1 (ho hs i).2.1).2.1,
    if (!decide ((ho hs i).1 = dr nw i)) = true then 13 else 0, if (!wi (-(fl l i).2.1) (fl l i).2.1 (dr nw i)) = true then 22 else 0]
theorem qn1 (a b c d:Int):f41 ([a, b, c, d], ()) = some (qaj [a, b, c, d], ()):=qhu _ (by simp)
theorem l87 (l:List FLo) (nw bf:List Int) (hs:List HOs) (hv:(cF l).2.1 = 0) (h1:nw.length = l.length) (h2:bf.length = l.length) (h3:hs.length = l.length) :
    l87_0_1 (((0:Int), nw, (nw.length:Int), (0:Int), ()), (), (l, ()), (nw, bf, hs, ()), ((0:Int), ()), ((0:Int), ()), ()) = match first (fun i=>!decide (eS l nw bf hs i = 0)) l.length 0 with
      | some k=>some (.inr ((), (), (l, ()), (nw, bf, hs, ()), ((k:Int), ()), (eS l nw bf hs k, ()), ()))
      | none=>some (.inl ((), (), (l, ()), (nw, bf, hs, ()), ((0:Int), ()), ((0:Int), ()), ())):=by
  have hz:=qei hv
  refine qaI (fun i=>((pv nw i, nw, (nw.length:Int), (i:Int), ()), (), (l, ()), (nw, bf, hs, ()), ((0:Int), ()), ((0:Int), ()), ())) (fun i=>!decide (eS l nw bf hs i = 0))
    (fun k=>((), (), (l, ()), (nw, bf, hs, ()), ((k:Int), ()), (eS l nw bf hs k, ()), ())) (n:=l.length) ?_ ?_ (qag (by omega))
  · intro i hi
    have hf:=(hz.2.2 i hi).1
    have hc:=qe3 (hz.2.2 i hi).2
    have e1:nw.getD i 0 = nv nw i:=rfl
    have e2:bf.getD i 0 = nv bf i:=rfl
    have e3:hs.getD i (0, [], ()) = ho hs i:=rfl
    have e4:l.getD i (0, 0, [], ()) = fl l i:=rfl
    have e5:wrap64 (nv nw i - pv nw i) = dr nw i:=rfl
    have g1:=qo7 10000 (nv nw i) (nv bf i) (by omega) (by omega)
    have g2:=qoC (fl l i).2.2.1 (ho hs i).1 (ho hs i).2.1 (by omega)
    have g3:=qcq (!decide ((ho hs i).1 = dr nw i)) 13
    have g4:=qf4 (fl l i).2.1 (dr nw i) (by omega) (by omega)
    have g5:=qcq (!wi (-(fl l i).2.1) (fl l i).2.1 (dr nw i)) 22
    have g6:=qn1
    have hE:eS l nw bf hs i = qaj [if (!(wi (-10000) 10000 (nv nw i) && wi (-10000) 10000 (nv bf i))) = true then 2 else 0, (cSH (fl l i).2.2.1 (ho hs i).1 (ho hs i).2.1).2.1,
      if (!decide ((ho hs i).1 = dr nw i)) = true then 13 else 0, if (!wi (-(fl l i).2.1) (fl l i).2.1 (dr nw i)) = true then 22 else 0]:=rfl
    simp only [s87_0_1, t87_0_1, Tr.val_test, Tr.val_fin, qae, qau, Int.toNat_natCast, e1, e2, e3, e4, e5, g40, g41, g42, g43, g44, g1, g2, g3, g4, g5, g6, ← hE, Option.isSome_some, Option.getD_some, if_true, qaf (show i ≤ 9223372036854775806 by omega), qjs]
    rw [if_pos (by simp; omega), if_pos (by simp; omega), if_pos (by simp; omega), if_pos (by simp; omega), if_pos (by simp; omega), if_pos (by simp; omega)]
  · simp [s87_0_1, t87_0_1, qae, h1]
def cT (l:List FLo) (nw bf:List Int) (hs:List HOs):Int×Int×Unit :=
  if nw.length = l.length ∧ bf.length = l.length ∧ hs.length = l.length then match first (fun i=>!decide (eS l nw bf hs i = 0)) l.length 0 with
    | some k=>((k:Int), eS l nw bf hs k, ())
    | none=>(0, 0, ())
  else (0, 10, ())
def cFT (l:List FLo) (nw bf:List Int) (hs:List HOs):Int×Int×Unit:=if (cF l).2.1 = 0 then cT l nw bf hs else cF l
theorem qim {l:List FLo} {nw bf:List Int} {hs:List HOs} (h1:nw.length = l.length) (h2:bf.length = l.length) (h3:hs.length = l.length) :
    cT l nw bf hs = match first (fun i=>!decide (eS l nw bf hs i = 0)) l.length 0 with
    | some k=>((k:Int), eS l nw bf hs k, ())
    | none=>(0, 0, ()):=by unfold cT; rw [if_pos ⟨h1, h2, h3⟩]
theorem qjJ {l:List FLo} {nw bf:List Int} {hs:List HOs} (h:¬ (nw.length = l.length ∧ bf.length = l.length ∧ hs.length = l.length)):cT l nw bf hs = (0, 10, ()):=by
  unfold cT; rw [if_neg h]
theorem qq1 (l:List FLo) (nw bf:List Int) (hs:List HOs) (h:l.length ≤ 1000) (hl:∀ i, i < l.length → (fl l i).2.2.1.length ≤ 1000) :
    f7 ((l, ()), (nw, bf, hs, ()), ()) = some (cFT l nw bf hs):=by
  have e1:=qox l h hl
  simp only [f7, t7, Tr.val_test, Tr.val_fin, qau, g38, e1, Option.isSome_some, Option.getD_some, if_true, cFT]
  by_cases hc:(cF l).2.1 = 0
  · rw [if_neg (by simp [hc]), if_pos hc]
    by_cases h1:nw.length = l.length
    · rw [if_neg (by simp; omega)]
      by_cases h2:bf.length = l.length
      · rw [if_neg (by simp; omega)]
        by_cases h3:hs.length = l.length
        · rw [if_neg (by simp; omega), qim h1 h2 h3]
          have e:=l87 l nw bf hs hc h1 h2 h3
          cases hf:first (fun i=>!decide (eS l nw bf hs i = 0)) l.length 0 with
          | none=>rw [hf] at e; simp only [e, qaA, Option.isSome_some, if_true, Bool.false_eq_true, if_false]
          | some k=>rw [hf] at e; simp only [e, r87_0_1, outR, qaA, Option.isSome_some, if_true]
        · rw [if_pos (by simp; omega), qjJ (by omega)]
      · rw [if_pos (by simp; omega), qjJ (by omega)]
    · rw [if_pos (by simp; omega), qjJ (by omega)]
  · rw [if_pos (by simp [hc]), if_neg hc]
end Go.Vm.Mo

namespace Go.Vm.Mo
open Go
set_option linter.unusedVariables false
set_option linter.unusedSimpArgs false
theorem qpO (l:List ELs) (a:Int) (x:List SLs) (h:l.length ≤ 1000000):f57 (l, (a, x, ()), ()) = some ((cH l a x).2.1, ()):=by
  have e:=qqt l a x h
  simp only [f57, t57, Tr.val_test, Tr.val_fin, g98, e, Option.isSome_some, Option.getD_some, if_true]
theorem qqu (x:List Int) (i:Nat) (h:i < x.length) (h2:x.length ≤ 1000000):f58 (x, (i:Int), ()) = some (if i = 0 then nv x 0 else dr x i, ()):=by
  simp only [f58, t58, Tr.val_test, Tr.val_fin, qau, Int.toNat_natCast]
  by_cases h0:i = 0
  · subst h0
    rw [if_pos (by simp), if_pos (by simp; omega), if_pos rfl]; rfl
  · have w:wrap64 ((i:Int) - 1) = ((i - 1:Nat):Int):=qgz (by omega) (by omega)
    rw [w]
    simp only [Int.toNat_natCast]
    rw [if_neg (by simp; omega), if_pos (by simp; omega), if_pos (by simp; omega), if_neg h0]
    unfold dr pv
    rw [if_neg h0]; rfl
theorem qe1 {l:List FLo} {nw bf:List Int} {hs:List HOs} {i:Nat} (h:eS l nw bf hs i = 0):(-10000 ≤ nv nw i ∧ nv nw i ≤ 10000) ∧ (-10000 ≤ nv bf i ∧ nv bf i ≤ 10000) ∧
    (cSH (fl l i).2.2.1 (ho hs i).1 (ho hs i).2.1).2.1 = 0 ∧ (ho hs i).1 = dr nw i ∧ -(fl l i).2.1 ≤ dr nw i ∧ dr nw i ≤ (fl l i).2.1:=by
  unfold eS at h
  by_cases h1:(wi (-10000) 10000 (nv nw i) && wi (-10000) 10000 (nv bf i)) = true
  · simp only [h1, Bool.not_true, Bool.false_eq_true, if_false, qaj, if_true] at h
    by_cases h2:(cSH (fl l i).2.2.1 (ho hs i).1 (ho hs i).2.1).2.1 = 0
    · rw [if_pos h2] at h
      by_cases h3:(ho hs i).1 = dr nw i
      · simp only [dT h3, Bool.not_true, Bool.false_eq_true, if_false, if_true] at h
        by_cases h4:wi (-(fl l i).2.1) (fl l i).2.1 (dr nw i) = true
        · simp only [Bool.and_eq_true, wi_iff] at h1 h4
          exact ⟨h1.1, h1.2, h2, h3, h4⟩
        · simp [h4] at h
      · simp [dF h3] at h
    · rw [if_neg h2] at h; exact absurd h h2
  · simp only [Bool.not_eq_true] at h1
    simp [h1, qaj] at h
theorem l13 (l:List FLo) (nw bf:List Int) (hs:List HOs) (hv:(cF l).2.1 = 0) (h1:nw.length = l.length) (h2:bf.length = l.length) (h3:hs.length = l.length) :
    l13_0 (((l.length:Int), (0:Int), ()), (l, ()), (nw, bf, hs, ()), ()) = match first (fun i=>!decide (eS l nw bf hs i = 0)) l.length 0 with
      | some k=>some (.inr (((k:Int), eS l nw bf hs k, ()), (l, ()), (nw, bf, hs, ()), ()))
      | none=>some (.inl ((), (l, ()), (nw, bf, hs, ()), ())):=by
  have hz:=qei hv
  refine qgk (fun i=>(((l.length:Int), (i:Int), ()), (l, ()), (nw, bf, hs, ()), ())) (fun i=>!decide (eS l nw bf hs i = 0))
    (fun k=>(((k:Int), eS l nw bf hs k, ()), (l, ()), (nw, bf, hs, ()), ())) (n:=l.length) ?_ ?_ (qag (by omega))
  · intro i hi hprev
    have hf:=(hz.2.2 i hi).1
    have hcs:=(hz.2.2 i hi).2
    have hc:=qe3 hcs
    have hsh:cSH (fl l i).2.2.1 (ho hs i).1 (ho hs i).2.1 = cH (fl l i).2.2.1 (ho hs i).1 (ho hs i).2.1:=by unfold cSH; rw [if_pos hcs]
    have e1:nw.getD i 0 = nv nw i:=rfl
    have e2:bf.getD i 0 = nv bf i:=rfl
    have e3:hs.getD i (0, [], ()) = ho hs i:=rfl
    have e4:l.getD i (0, 0, [], ()) = fl l i:=rfl
    have g1:=qkY (nv nw i)
    have g2:=qkY (nv bf i)
    have g3:=qpO (fl l i).2.2.1 (ho hs i).1 (ho hs i).2.1 (by omega)
    have g4:=qqu nw i (by omega) (by omega)
    simp only [s13_0, t13_0, Tr.val_test, Tr.val_fin, qae, qau, Int.toNat_natCast, e1, e2, e3, e4, g56, g1, g2, g57, g3, Option.isSome_some, Option.getD_some, if_true, qaf (show i ≤ 9223372036854775806 by omega)]
    rw [if_pos (by simp; omega), if_pos (by simp; omega)]
    have hE:eS l nw bf hs i = qaj [if (!(wi (-10000) 10000 (nv nw i) && wi (-10000) 10000 (nv bf i))) = true then 2 else 0, (cH (fl l i).2.2.1 (ho hs i).1 (ho hs i).2.1).2.1,
      if (!decide ((ho hs i).1 = dr nw i)) = true then 13 else 0, if (!wi (-(fl l i).2.1) (fl l i).2.1 (dr nw i)) = true then 22 else 0]:=by rw [← hsh]; rfl
    by_cases p1:pE (nv nw i) = 0
    · have b1:=qe7 p1
      by_cases p2:pE (nv bf i) = 0
      · have b2:=qe7 p2
        have w1:=wi_iff.2 b1
        have w2:=wi_iff.2 b2
        have hd:(if i = 0 then nv nw 0 else dr nw i) = dr nw i:=by
          by_cases h0:i = 0
          · subst h0
            rw [if_pos rfl]
            unfold dr pv
            rw [if_pos rfl, Int.sub_zero, qai (by omega) (by omega)]
          · rw [if_neg h0]
        have bd:-20000 ≤ dr nw i ∧ dr nw i ≤ 20000:=by
          unfold dr pv
          by_cases h0:i = 0
          · rw [if_pos h0, qai (by omega) (by omega)]; omega
          · have hp:=hprev (i - 1) (by omega)
            have hp:eS l nw bf hs (i - 1) = 0:=by simpa using hp
            have b3:=(qe1 hp).1
            rw [if_neg h0, qai (by omega) (by omega)]; omega
        have g5:=qoD (dr nw i) (by omega) (by omega)
        have g6:=qqc (x:=dr nw i) (y:=(fl l i).2.1)
        rw [qae] at g6
        rw [hd] at g4
        rw [hE]
        simp only [w1, w2, p1, p2, g58, g4, g59, g5, g6, Bool.and_self, Bool.not_true, Bool.false_eq_true, if_false, if_true, decide_true, Option.isSome_some, Option.getD_some]
        rw [if_pos (by simp; omega), if_pos (by simp; omega), if_pos (by simp; omega)]
        by_cases p3:(cH (fl l i).2.2.1 (ho hs i).1 (ho hs i).2.1).2.1 = 0
        · simp only [p3, qaj, if_true, decide_true, Bool.not_true, Bool.false_eq_true, if_false]
          by_cases p4:(ho hs i).1 = dr nw i
          · simp only [dT p4, Bool.not_true, Bool.false_eq_true, if_false, if_true]
            rcases Bool.eq_false_or_eq_true (wi (-(fl l i).2.1) (fl l i).2.1 (dr nw i)) with p5 | p5 <;> simp only [p5] <;> rfl
          · simp only [dF p4, Bool.not_false, if_true]; rfl
        · simp only [qaj, if_true, if_neg p3, dF p3, Bool.not_false]
      · have w2:wi (-10000) 10000 (nv bf i) = false:=by
          rcases Bool.eq_false_or_eq_true (wi (-10000) 10000 (nv bf i)) with hw | hw
          · unfold pE at p2; rw [if_pos hw] at p2; exact absurd rfl p2
          · exact hw
        rw [hE]
        simp only [p1, w2, dF p2, qaj, decide_true, Bool.and_false, Bool.not_false, Bool.not_true, Bool.false_eq_true, if_false, if_true]
        rw [if_pos (by simp; omega)]; rfl
    · have w1:wi (-10000) 10000 (nv nw i) = false:=by
        rcases Bool.eq_false_or_eq_true (wi (-10000) 10000 (nv nw i)) with hw | hw
        · unfold pE at p1; rw [if_pos hw] at p1; exact absurd rfl p1
        · exact hw
      rw [hE]
      simp only [w1, dF p1, qaj, decide_true, Bool.false_and, Bool.not_false, Bool.not_true, Bool.false_eq_true, if_false, if_true]; rfl
  · intro _
    simp [s13_0, t13_0, qae]
theorem qqw (l:List FLo) (nw bf:List Int) (hs:List HOs) (hv:(cF l).2.1 = 0):f13 ((l, ()), (nw, bf, hs, ()), ()) = some (cT l nw bf hs):=by
  simp only [f13, t13, Tr.val_test, Tr.val_fin, qau]
  by_cases h1:nw.length = l.length
  · rw [if_neg (by simp; omega)]
    by_cases h2:bf.length = l.length
    · rw [if_neg (by simp; omega)]
      by_cases h3:hs.length = l.length
      · rw [if_neg (by simp; omega), qim h1 h2 h3]
        have e:=l13 l nw bf hs hv h1 h2 h3
        cases hf:first (fun i=>!decide (eS l nw bf hs i = 0)) l.length 0 with
        | none=>rw [hf] at e; simp only [e, qaA, Option.isSome_some, if_true, Bool.false_eq_true, if_false]
        | some k=>rw [hf] at e; simp only [e, r13_0, outR, qaA, Option.isSome_some, if_true]
      · rw [if_pos (by simp; omega), qjJ (by omega)]
    · rw [if_pos (by simp; omega), qjJ (by omega)]
  · rw [if_pos (by simp; omega), qjJ (by omega)]
def gE (g:Int):Int:=if (!wi (-100) 100 g) = true then 2 else 0
theorem qof (g:Int):f46 (g, ()) = some (gE g, ()):=by
  have e:=qmo 100 g (by omega) (by omega)
  simp only [f46, t46, Tr.val_test, Tr.val_fin, g42, e, Option.isSome_some, Option.getD_some, if_true]; rfl
theorem qow (g:Int):f14 (g, ()) = some (gE g, ()):=by
  have e:=qg7 (-100) 100 g
  simp only [f14, t14, Tr.val_test, Tr.val_fin, g54, e, Option.isSome_some, Option.getD_some, if_true, gE]
  split <;> rfl
theorem qkc {g:Int} (h:gE g = 0):-100 ≤ g ∧ g ≤ 100:=by
  unfold gE at h
  rcases Bool.eq_false_or_eq_true (wi (-100) 100 g) with hw | hw
  · exact wi_iff.1 hw
  · rw [hw] at h; cases h
def sT (l:List FLo) (nw bf:List Int) (hs:List HOs) (e:Int):Int:=qaj [(cFT l nw bf hs).2.1, e]
theorem qon (l:List FLo) (nw bf:List Int) (hs:List HOs) (es:List Int) (h:l.length ≤ 1000) (hl:∀ i, i < l.length → (fl l i).2.2.1.length ≤ 1000) (he:es.length ≤ 1000) :
    f45 ((l, ()), (nw, bf, hs, ()), es, ()) = some (if sT l nw bf hs (qaj es) = 0 then ((((l, ()), ()), (nw, bf, hs, ()), ()), 0, ()) else (((([], ()), ()), ([], [], [], ()), ()), sT l nw bf hs (qaj es), ())):=by
  have e1:=qq1 l nw bf hs h hl
  have e2:=qhu es (by omega)
  have e3:=qej (cFT l nw bf hs).2.1 (qaj es)
  rw [show qaj [(cFT l nw bf hs).2.1, qaj es] = sT l nw bf hs (qaj es) from rfl] at e3
  simp only [f45, t45, Tr.val_test, Tr.val_fin, qau, g7, g41, e1, e2, e3, Option.isSome_some, Option.getD_some, if_true]
  by_cases h0:sT l nw bf hs (qaj es) = 0
  · rw [if_pos h0, if_neg (by simp [h0])]
  · rw [if_neg h0, if_pos (by simp [h0])]
end Go.Vm.Mo

namespace Go.Vm.Mo
open Go
set_option linter.unusedVariables false
set_option linter.unusedSimpArgs false
theorem qqi {x y A B:Int} (h1:-A ≤ x) (h2:x ≤ A) (h3:-B ≤ y) (h4:y ≤ B):-(A * B) ≤ x * y ∧ x * y ≤ A * B:=by
  have a1:=Int.mul_nonneg (show 0 ≤ A - x by omega) (show 0 ≤ B + y by omega)
  have a2:=Int.mul_nonneg (show 0 ≤ A + x by omega) (show 0 ≤ B - y by omega)
  have a3:=Int.mul_nonneg (show 0 ≤ A - x by omega) (show 0 ≤ B - y by omega)
  have a4:=Int.mul_nonneg (show 0 ≤ A + x by omega) (show 0 ≤ B + y by omega)
  simp only [Int.sub_mul, Int.add_mul, Int.mul_sub, Int.mul_add] at a1 a2 a3 a4
  omega
def sm (F:Nat → Int):Nat → Int
  | 0=>0
  | n + 1=>sm F n + F n
theorem qoS {F:Nat → Int} {B:Int}:∀ {n:Nat}, (∀ i, i < n → -B ≤ F i ∧ F i ≤ B) → -((n:Int) * B) ≤ sm F n ∧ sm F n ≤ (n:Int) * B
  | 0, _=>by simp [sm]
  | n + 1, h=>by
    have e:=qoS (n:=n) fun i hi=>h i (by omega)
    have e2:=h n (by omega)
    have e3:((n + 1:Nat):Int) * B = (n:Int) * B + B:=by rw [Int.natCast_add, Int.add_mul]; simp
    simp only [sm, e3]
    omega
theorem qot {F:Nat → Int} {B:Int} (hB:0 ≤ B):∀ {n:Nat}, (∀ i, i < n → -B ≤ F i ∧ F i ≤ B) → (n:Int) * B ≤ 4611686018427387904 → acc F n = sm F n
  | 0, _, _=>rfl
  | n + 1, h, hn=>by
    have e3:((n + 1:Nat):Int) * B = (n:Int) * B + B:=by rw [Int.natCast_add, Int.add_mul]; simp
    rw [e3] at hn
    have e:=qot hB (n:=n) (fun i hi=>h i (by omega)) (by omega)
    have e2:=qoS (n:=n) fun i hi=>h i (by omega)
    have e4:=h n (by omega)
    simp only [acc, sm, e]
    exact qai (by omega) (by omega)
structure VT (l:List FLo) (nw bf:List Int) (hs:List HOs):Prop where
  v:(cF l).2.1 = 0
  n1:nw.length = l.length
  n2:bf.length = l.length
  n3:hs.length = l.length
  e:∀ i, i < l.length → eS l nw bf hs i = 0
theorem qqe {l:List FLo} {nw bf:List Int} {hs:List HOs} (h:(cFT l nw bf hs).2.1 = 0):VT l nw bf hs:=by
  unfold cFT at h
  split at h
  · rename_i hv
    by_cases hn:nw.length = l.length ∧ bf.length = l.length ∧ hs.length = l.length
    · rw [qim hn.1 hn.2.1 hn.2.2] at h
      refine ⟨hv, hn.1, hn.2.1, hn.2.2, fun i hi=>?_⟩
      cases hf:first (fun i=>!decide (eS l nw bf hs i = 0)) l.length 0 with
      | none=>simpa using qaz hf i (by omega) (by omega)
      | some k =>
        rw [hf] at h
        obtain ⟨_, _, k3, _⟩:=first_some hf
        have h:eS l nw bf hs k = 0:=h
        simp [h] at k3
    · rw [qjJ hn] at h; cases h
  · rename_i hv; exact absurd h hv
def sfo (l:List FLo) (hs:List HOs) (i:Nat):Int:=acc (FO (fl l i).2.2.1 (ho hs i).1 (ho hs i).2.1) (fl l i).2.2.1.length
def SF (l:List FLo) (hs:List HOs) (i:Nat):Int:=if i = l.length then 0 else sfo l hs i
def PU (l:List FLo) (hs:List HOs) (i:Nat):Int:=wrap64 (SF l hs (i + 1) - SF l hs i)
namespace VT
variable {l:List FLo} {nw bf:List Int} {hs:List HOs} (v:VT l nw bf hs)
include v
theorem few:0 < l.length ∧ l.length ≤ 5:=⟨(qei v.v).1, (qei v.v).2.1⟩
theorem fl_ok {i:Nat} (hi:i < l.length):(1 ≤ (fl l i).1 ∧ (fl l i).1 ≤ 10000 ∧ 1 ≤ (fl l i).2.1 ∧ (fl l i).2.1 ≤ 1000) ∧ (cS (fl l i).2.2.1).2.1 = 0:=(qei v.v).2.2 i hi
theorem cs_ok {i:Nat} (hi:i < l.length):0 < (fl l i).2.2.1.length ∧ (fl l i).2.2.1.length ≤ 4 ∧ ∀ k, k < (fl l i).2.2.1.length → 1 ≤ (el (fl l i).2.2.1 k).1 ∧ (el (fl l i).2.2.1 k).1 ≤ 1000 ∧ 1 ≤ (el (fl l i).2.2.1 k).2.1 ∧ (el (fl l i).2.2.1 k).2.1 ≤ 1000:=qe3 (v.fl_ok hi).2
theorem ch_ok {i:Nat} (hi:i < l.length):(-10000 ≤ (ho hs i).1 ∧ (ho hs i).1 ≤ 10000) ∧ (ho hs i).2.1.length = (fl l i).2.2.1.length ∧ ∀ k, k < (fl l i).2.2.1.length → -10000 ≤ (sl (ho hs i).2.1 k).1 ∧ (sl (ho hs i).2.1 k).1 ≤ 10000:=by
  obtain ⟨h1, h2, h3⟩:=qni (qk4 (qe1 (v.e i hi)).2.2.1).2
  exact ⟨h1, h2, fun k hk=>(qmW (h3 k hk)).1⟩
theorem sfo_bd {i:Nat} (hi:i < l.length):-80000000 ≤ sfo l hs i ∧ sfo l hs i ≤ 80000000:=by
  obtain ⟨h1, h2, h3⟩:=v.ch_ok hi
  have hc:=v.cs_ok hi
  have hb:∀ k, k < (fl l i).2.2.1.length → -20000000 ≤ FO (fl l i).2.2.1 (ho hs i).1 (ho hs i).2.1 k ∧ FO (fl l i).2.2.1 (ho hs i).1 (ho hs i).2.1 k ≤ 20000000:=fun k hk=>by
    have b1:=h3 k hk
    have b2:=hc.2.2 k hk
    have w:st (ho hs i).1 (sl (ho hs i).2.1 k) = (ho hs i).1 - (sl (ho hs i).2.1 k).1:=qai (by omega) (by omega)
    have m:=qqi (x:=(el (fl l i).2.2.1 k).1) (y:=(ho hs i).1 - (sl (ho hs i).2.1 k).1) (A:=1000) (B:=20000) (by omega) (by omega) (by omega) (by omega)
    unfold FO
    rw [w]
    split
    · omega
    · rw [qai (by omega) (by omega)]; omega
  have e:=qot (B:=20000000) (by omega) hb (by omega)
  have e2:=qoS hb
  unfold sfo
  rw [e]
  omega
theorem SF_bd {i:Nat} (hi:i ≤ l.length):-80000000 ≤ SF l hs i ∧ SF l hs i ≤ 80000000:=by
  unfold SF
  split
  · omega
  · exact v.sfo_bd (by omega)
theorem PU_bd {i:Nat} (hi:i < l.length):PU l hs i = SF l hs (i + 1) - SF l hs i ∧ -160000000 ≤ PU l hs i ∧ PU l hs i ≤ 160000000:=by
  have a:=v.SF_bd (i:=i) (by omega)
  have b:=v.SF_bd (i:=i + 1) (by omega)
  have e:PU l hs i = SF l hs (i + 1) - SF l hs i:=qai (by omega) (by omega)
  exact ⟨e, by omega, by omega⟩
end VT
theorem qoy (l:List FLo) (nw bf:List Int) (hs:List HOs) (i:Nat) (h:i < l.length) (h3:hs.length = l.length):f92 ((((l, ()), ()), (nw, bf, hs, ()), ()), (i:Int), ()) = some (((fl l i).2.2.1, ((ho hs i).1, (ho hs i).2.1, ()), ()), ()):=by
  have e3:hs.getD i (0, [], ()) = ho hs i:=rfl
  have e4:l.getD i (0, 0, [], ()) = fl l i:=rfl
  simp only [f92, t92, Tr.val_test, Tr.val_fin, Int.toNat_natCast, e3, e4]
  rw [if_pos (by simp; omega), if_pos (by simp; omega)]
theorem qea (l:List FLo) (nw bf:List Int) (hs:List HOs) (v:VT l nw bf hs) (i:Nat) (h:i ≤ l.length):f94 ((((l, ()), ()), (nw, bf, hs, ()), ()), (i:Int), ()) = some (SF l hs i, ()):=by
  simp only [f94, t94, Tr.val_test, Tr.val_fin, qau]
  by_cases hi:i = l.length
  · rw [if_pos (by simp; omega)]
    unfold SF
    rw [if_pos hi]
  · have hlt:i < l.length:=by omega
    have hc:=v.ch_ok hlt
    have hs4:=v.cs_ok hlt
    have e1:=qoy l nw bf hs i hlt v.n3
    have e2:=qoH (fl l i).2.2.1 (ho hs i).1 (ho hs i).2.1 (by omega) (by omega)
    rw [hc.2.1] at e2
    rw [if_neg (by simp; omega)]
    simp only [g92, e1, g68, e2, Option.isSome_some, Option.getD_some, if_true]
    unfold SF
    rw [if_neg hi]; rfl
theorem qlt {x m:Int} (hm:1 ≤ m):(0 ≤ x.tmod m → x.tdiv m = x / m ∧ x.tmod m = x % m) ∧ (x.tmod m < 0 → x.tdiv m = x / m + 1 ∧ x.tmod m + m = x % m):=by
  have h1:=Int.tmod_add_mul_tdiv x m
  have h2:=Int.emod_add_mul_ediv x m
  have h3:=Int.emod_nonneg x (show m ≠ 0 by omega)
  have h4:=Int.emod_lt_of_pos x (show 0 < m by omega)
  have h5:-m < x.tmod m ∧ x.tmod m < m:=by
    by_cases hx:0 ≤ x
    · have a:=Int.tmod_nonneg m hx
      have b:=Int.tmod_lt_of_pos x (show 0 < m by omega)
      omega
    · have a:=Int.tmod_nonneg m (show 0 ≤ -x by omega)
      have b:=Int.tmod_lt_of_pos (-x) (show 0 < m by omega)
      rw [Int.neg_tmod] at a b
      omega
  refine ⟨fun h=>?_, fun h=>?_⟩
  · have hq:x.tdiv m = x / m:=by
      have e:m * x.tdiv m - m * (x / m) = x % m - x.tmod m:=by omega
      rw [← Int.mul_sub] at e
      have:x.tdiv m - x / m = 0:=by
        by_cases hp:0 < x.tdiv m - x / m
        · have:=Int.mul_le_mul_of_nonneg_left (show 1 ≤ x.tdiv m - x / m by omega) (show 0 ≤ m by omega); omega
        · by_cases hn:x.tdiv m - x / m < 0
          · have:=Int.mul_le_mul_of_nonneg_left (show x.tdiv m - x / m ≤ -1 by omega) (show 0 ≤ m by omega); omega
          · omega
      omega
    refine ⟨hq, ?_⟩
    rw [hq] at h1; omega
  · have hq:x.tdiv m = x / m + 1:=by
      have e:m * x.tdiv m - m * (x / m) = x % m - x.tmod m:=by omega
      rw [← Int.mul_sub] at e
      by_cases hp:1 < x.tdiv m - x / m
      · have:=Int.mul_le_mul_of_nonneg_left (show 2 ≤ x.tdiv m - x / m by omega) (show 0 ≤ m by omega); omega
      · by_cases hn:x.tdiv m - x / m < 1
        · have:=Int.mul_le_mul_of_nonneg_left (show x.tdiv m - x / m ≤ 0 by omega) (show 0 ≤ m by omega); omega
        · omega
    refine ⟨hq, ?_⟩
    rw [hq, Int.mul_add] at h1; omega
theorem qlV {x m:Int} (hm:1 ≤ m) (B:Int) (h1:-B ≤ x) (h2:x ≤ B) (hB:0 ≤ B):-B ≤ x / m ∧ x / m ≤ B:=by
  have e:=Int.emod_add_mul_ediv x m
  have h3:=Int.emod_nonneg x (show m ≠ 0 by omega)
  have h4:=Int.emod_lt_of_pos x (show 0 < m by omega)
  constructor
  · by_cases h:-B ≤ x / m
    · exact h
    · have:=Int.mul_le_mul_of_nonneg_left (show x / m ≤ -B - 1 by omega) (show 0 ≤ m by omega)
      have h6:m * (-B - 1) = -(m * B) - m:=by rw [Int.mul_sub, Int.mul_neg, Int.mul_one]
      have h7:=Int.mul_le_mul_of_nonneg_right hm hB
      omega
  · by_cases h:x / m ≤ B
    · exact h
    · have:=Int.mul_le_mul_of_nonneg_left (show B + 1 ≤ x / m by omega) (show 0 ≤ m by omega)
      have h6:m * (B + 1) = m * B + m:=by rw [Int.mul_add, Int.mul_one]
      have h7:=Int.mul_le_mul_of_nonneg_right hm hB
      omega
theorem qjp (x m:Int) (hm:1 ≤ m) (hm2:m ≤ 1000000) (h1:-1000000000000 ≤ x) (h2:x ≤ 1000000000000):f95 (x, m, ()) = some (x / m, x % m, ()):=by
  have t:=qlt (x:=x) hm
  have b:=qlV hm 1000000000000 h1 h2 (by omega)
  have h3:=Int.emod_nonneg x (show m ≠ 0 by omega)
  have h4:=Int.emod_lt_of_pos x (show 0 < m by omega)
  have e0:=Int.emod_add_mul_ediv x m
  have e1:(x - x % m).tdiv m = x / m:=by
    rw [show x - x % m = m * (x / m) by omega, Int.mul_tdiv_cancel_left _ (by omega)]
  simp only [f95, t95, Tr.val_test, Tr.val_fin, qae]
  rw [if_neg (by simp; omega)]
  by_cases h:0 ≤ x.tmod m
  · have e:=(t.1 h).2
    rw [if_neg (by simp [h]), e, qai (n:=x - x % m) (by omega) (by omega), e1, ← qbY, qai (by omega) (by omega)]
  · have e:=(t.2 (by omega)).2
    rw [if_pos (by simp [h]), e, qai (n:=x % m) (by omega) (by omega), qai (n:=x - x % m) (by omega) (by omega), e1, ← qbY, qai (by omega) (by omega)]
end Go.Vm.Mo

namespace Go.Vm.Mo
open Go
set_option linter.unusedVariables false
set_option linter.unusedSimpArgs false
def np (l:List FLo) (nw bf:List Int) (hs:List HOs) (g:Int) (i:Nat):Int:=wrap64 (wrap64 (wrap64 (wrap64 (2 * nv nw i) - nv bf i) + PU l hs i / (fl l i).1) - g)
def NP (l:List FLo) (nw bf:List Int) (hs:List HOs) (g:Int):List Int:=lst (np l nw bf hs g) l.length
theorem qn4 {l:List FLo} {nw bf:List Int} {hs:List HOs} (v:VT l nw bf hs) {g:Int} (hg:-100 ≤ g ∧ g ≤ 100) {i:Nat} (hi:i < l.length):-170000000 ≤ np l nw bf hs g i ∧ np l nw bf hs g i ≤ 170000000:=by
  have a:=qe1 (v.e i hi)
  have b:=v.PU_bd hi
  have f:=(v.fl_ok hi).1
  have d:=qlV (x:=PU l hs i) f.1 160000000 b.2.1 b.2.2 (by omega)
  unfold np
  rw [qai (n:=2 * nv nw i) (by omega) (by omega), qai (n:=2 * nv nw i - nv bf i) (by omega) (by omega), qai (n:=2 * nv nw i - nv bf i + PU l hs i / (fl l i).1) (by omega) (by omega), qai (by omega) (by omega)]
  omega
theorem qma (l:List FLo) (nw bf:List Int) (hs:List HOs) (g:Int):(NP l nw bf hs g).length = l.length:=qbh _ _
theorem qix {l:List FLo} {nw bf:List Int} {hs:List HOs} {g:Int} {i:Nat} (hi:i < l.length):nv (NP l nw bf hs g) i = np l nw bf hs g i:=qgr _ _ hi
theorem l93 (l:List FLo) (nw bf:List Int) (hs:List HOs) (v:VT l nw bf hs) (g:Int) (c:List Int) :
    l93_0 ((l, (l.length:Int), (0:Int), ()), (), (l, nw, bf, hs, ()), (g, ()), ([], c, ()), ()) = some (.inl ((), (), (l, nw, bf, hs, ()), (g, ()), (NP l nw bf hs g, c, ()), ())):=by
  have few:=v.few
  refine qaG (fun i=>((l, (l.length:Int), (i:Int), ()), (), (l, nw, bf, hs, ()), (g, ()), (lst (np l nw bf hs g) i, c, ()), ())) (n:=l.length) ?_ ?_ (qag (by omega))
  · intro i hi
    have e1:nw.getD i 0 = nv nw i:=rfl
    have e2:bf.getD i 0 = nv bf i:=rfl
    have e4:l.getD i (0, 0, [], ()) = fl l i:=rfl
    have f:=(v.fl_ok hi).1
    have b:=v.PU_bd hi
    have g1:=qea l nw bf hs v i (by omega)
    have g2:=qea l nw bf hs v (i + 1) (by omega)
    have g3:=qjp (PU l hs i) (fl l i).1 f.1 (by omega) (by omega) (by omega)
    have e5:wrap64 (SF l hs (i + 1) - SF l hs i) = PU l hs i:=rfl
    have n1:=v.n1
    have n2:=v.n2
    rw [qeX]
    simp only [s93_0, t93_0, Tr.val_test, Tr.val_fin, qae, Int.toNat_natCast, e1, e2, e4, qaf (show i ≤ 9223372036854775806 by omega), g94, g1, g2, e5, g95, g3, Option.isSome_some, Option.getD_some, if_true, qbh]
    rw [if_pos (by simp; omega), if_pos (by simp; omega), if_pos (by simp; omega), if_pos (by simp; omega), if_pos (by simp only [Bool.and_eq_true, qao]; omega)]
    rfl
  · simp [s93_0, t93_0, qae]; rfl
def bD (l:List FLo) (p:List Int) (i:Nat):Bool:=!wi (-(fl l i).2.1) (fl l i).2.1 (dr p i)
def MH (l:List FLo) (hs:List HOs) (p:List Int) (i:Nat):HOs:=(dr p i, lst (MV (fl l i).2.2.1 (ho hs i).2.1 (dr p i)) (fl l i).2.2.1.length, ())
theorem l871 (l:List FLo) (nw bf:List Int) (hs:List HOs) (v:VT l nw bf hs) (p c:List Int) (hp:p.length = l.length) :
    l87_0 (((0:Int), p, (p.length:Int), (0:Int), ()), (), (l, nw, bf, hs, ()), (), ((0:Int), ()), (p, c, [], ()), ()) = match first (bD l p) l.length 0 with
      | some k=>some (.inr ((), (), (l, nw, bf, hs, ()), (), ((k:Int), ()), (p, c, lst (MH l hs p) k, ()), ()))
      | none=>some (.inl ((), (), (l, nw, bf, hs, ()), (), ((0:Int), ()), (p, c, lst (MH l hs p) l.length, ()), ())):=by
  have few:=v.few
  refine qaI (fun i=>((pv p i, p, (p.length:Int), (i:Int), ()), (), (l, nw, bf, hs, ()), (), ((0:Int), ()), (p, c, lst (MH l hs p) i, ()), ())) (bD l p)
    (fun k=>((), (), (l, nw, bf, hs, ()), (), ((k:Int), ()), (p, c, lst (MH l hs p) k, ()), ())) (n:=l.length) ?_ ?_ (qag (by omega))
  · intro i hi
    have e1:p.getD i 0 = nv p i:=rfl
    have e4:l.getD i (0, 0, [], ()) = fl l i:=rfl
    have e5:wrap64 (nv p i - pv p i) = dr p i:=rfl
    have f:=(v.fl_ok hi).1
    have hc:=v.cs_ok hi
    have hh:=v.ch_ok hi
    have g1:=qf4 (fl l i).2.1 (dr p i) (by omega) (by omega)
    have g2:=qoy l nw bf hs i hi v.n3
    have g3:=qpW (fl l i).2.2.1 (ho hs i).1 (ho hs i).2.1 (dr p i) (by omega) (by omega) (fun k hk=>by have:=hc.2.2 k hk; omega)
    rw [hh.2.1] at g3
    have eB:(!wi (-(fl l i).2.1) (fl l i).2.1 (dr p i)) = bD l p i:=rfl
    rw [eB] at g1
    rw [qeX]
    simp only [s87_0, t87_0, Tr.val_test, Tr.val_fin, qae, Int.toNat_natCast, e1, e4, e5, g44, g1, g92, g2, g74, g3, qaf (show i ≤ 9223372036854775806 by omega), Option.isSome_some, Option.getD_some, if_true, qbh, qjs]
    rw [if_pos (by simp; omega), if_pos (by simp; omega), if_pos (by simp; omega)]
    rcases Bool.eq_false_or_eq_true (bD l p i) with hb | hb
    · rw [hb, if_pos rfl, if_pos rfl]
    · simp only [hb, Bool.false_eq_true, if_false]
      rw [if_pos (by simp only [Bool.and_eq_true, qao]; omega)]; rfl
  · simp [s87_0, t87_0, qae, hp]
theorem qoL (l:List FLo) (nw bf:List Int) (hs:List HOs) (v:VT l nw bf hs) (g:Int):f47 ((((l, ()), ()), (nw, bf, hs, ()), ()), g, ()) =
    some (match first (bD l (NP l nw bf hs g)) l.length 0 with
      | some k=>((((([], ()), ()), ([], [], [], ()), ()), (k:Int), ()):Tys.data rs47)
      | none=>((((l, ()), ()), (NP l nw bf hs g, nw, lst (MH l hs (NP l nw bf hs g)) l.length, ()), ()), (-1:Int), ())):=by
  have few:=v.few
  have n1:=v.n1
  have e1:=qqk nw (by omega) (by omega)
  have e2:=l93 l nw bf hs v g nw
  have e3:=l871 l nw bf hs v (NP l nw bf hs g) nw (qma l nw bf hs g)
  simp only [f47, t47, Tr.val_test, Tr.val_fin, g91, e1, e2, b93_0, qbI, outB, Option.isSome_some, Option.getD_some, if_true]
  cases hf:first (bD l (NP l nw bf hs g)) l.length 0 with
  | none=>rw [hf] at e3; simp only [e3, b87_0, qaA, outB, Option.isSome_some, if_true, Bool.false_eq_true, if_false]
  | some k=>rw [hf] at e3; simp only [e3, r87_0, qaA, outR, Option.isSome_some, if_true]
def stp (l:List FLo) (nw bf:List Int) (hs:List HOs) (g:Int):Tys.data rs10:=match first (bD l (NP l nw bf hs g)) l.length 0 with
  | some _=>(([], [], [], ()), (22:Int), ())
  | none=>((NP l nw bf hs g, nw, lst (MH l hs (NP l nw bf hs g)) l.length, ()), (0:Int), ())
theorem qpG (l:List FLo) (nw bf:List Int) (hs:List HOs) (g:Int) (h:l.length ≤ 1000) (hl:∀ i, i < l.length → (fl l i).2.2.1.length ≤ 1000) :
    f10 ((l, ()), (nw, bf, hs, ()), g, ()) = some (if sT l nw bf hs (gE g) = 0 then stp l nw bf hs g else (([], [], [], ()), sT l nw bf hs (gE g), ())):=by
  have e1:=qof g
  have e2:=qon l nw bf hs [gE g] h hl (by simp)
  have e3:qaj [gE g] = gE g:=by simp only [qaj]; split <;> simp_all
  rw [e3] at e2
  simp only [f10, t10, Tr.val_test, Tr.val_fin, qau, g46, e1, g45, e2, Option.isSome_some, Option.getD_some, if_true]
  by_cases h0:sT l nw bf hs (gE g) = 0
  · have v:=qqe (nz2 h0).1
    have e4:=qoL l nw bf hs v g
    have e5:=fun b=>qcq b 22
    simp only [if_pos h0, g47, e4, g43, e5, Option.isSome_some, Option.getD_some, if_true, stp]
    cases hf:first (bD l (NP l nw bf hs g)) l.length 0 with
    | none=>rfl
    | some k =>
      have:(!decide ((k:Int) = -1)) = true:=nT (by omega)
      simp only [this, if_true]
      rfl
  · simp only [if_neg h0]
    rw [if_pos (by simp [h0])]
end Go.Vm.Mo

namespace Go.Vm.Mo
open Go
set_option linter.unusedVariables false
set_option linter.unusedSimpArgs false
theorem qqY {l:List FLo} {nw bf:List Int} {hs:List HOs} (v:VT l nw bf hs) {g:Int} (hg:-100 ≤ g ∧ g ≤ 100) {i:Nat} (hi:i < l.length) :
    (if i = 0 then nv (NP l nw bf hs g) 0 else dr (NP l nw bf hs g) i) = dr (NP l nw bf hs g) i ∧ -400000000 ≤ dr (NP l nw bf hs g) i ∧ dr (NP l nw bf hs g) i ≤ 400000000:=by
  have b1:=qn4 v hg hi
  have b0:=qn4 v hg (i:=0) (by omega)
  have e1:=qix (nw:=nw) (bf:=bf) (hs:=hs) (g:=g) hi
  by_cases h0:i = 0
  · subst h0
    have:dr (NP l nw bf hs g) 0 = nv (NP l nw bf hs g) 0:=by
      unfold dr pv
      rw [if_pos rfl, Int.sub_zero, e1, qai (by omega) (by omega)]
    rw [if_pos rfl, this, e1]
    exact ⟨rfl, by omega, by omega⟩
  · rw [if_neg h0]
    have b2:=qn4 v hg (i:=i - 1) (by omega)
    have e2:=qix (l:=l) (nw:=nw) (bf:=bf) (hs:=hs) (g:=g) (i:=i - 1) (by omega)
    refine ⟨rfl, ?_⟩
    unfold dr pv
    rw [if_neg h0, e1, e2, qai (by omega) (by omega)]
    omega
theorem qnD (a:Int) (l:List SLs) (h:l.length ≤ 1000000):f37 ((a, l, ()), (a, l, ()), ()) = some (true, ()):=by
  have key:l37_0 (((0:Int), ()), (a, l, ()), (a, l, ()), ()) = some (.inl ((), (a, l, ()), (a, l, ()), ())):=by
    refine qaG (fun i=>(((i:Int), ()), (a, l, ()), (a, l, ()), ())) (n:=l.length) ?_ ?_ (qag (by omega))
    · intro i hi
      simp only [s37_0, t37_0, Tr.val_test, Tr.val_fin, qae, Int.toNat_natCast, beq_self_eq_true, Bool.and_self, Bool.not_true, Bool.false_eq_true, if_false, qaf (show i ≤ 9223372036854775806 by omega)]
      rw [if_pos (by simp; omega), if_pos (by simp; omega), if_pos (by simp; omega)]
    · simp [s37_0, t37_0, qae]
  simp only [f37, t37, Tr.val_test, Tr.val_fin, key, qaA, qau, decide_true, Bool.not_true, Bool.false_eq_true, if_false, Option.isSome_some, if_true]
theorem l15 (a b:List Int) (hs:List HOs) (h:hs.length ≤ 1000) (hh:∀ i, i < hs.length → (ho hs i).2.1.length ≤ 1000) :
    l15_0 (((0:Int), ()), (a, b, hs, ()), (a, b, hs, ()), ()) = some (.inl ((), (a, b, hs, ()), (a, b, hs, ()), ())):=by
  refine qaG (fun i=>(((i:Int), ()), (a, b, hs, ()), (a, b, hs, ()), ())) (n:=hs.length) ?_ ?_ (qag (by omega))
  · intro i hi
    have e3:hs.getD i (0, [], ()) = ho hs i:=rfl
    have e:=qnD (ho hs i).1 (ho hs i).2.1 (by have:=hh i hi; omega)
    simp only [s15_0, t15_0, Tr.val_test, Tr.val_fin, qae, Int.toNat_natCast, e3, g37, e, Option.isSome_some, Option.getD_some, if_true, Bool.not_true, Bool.false_eq_true, if_false, qaf (show i ≤ 9223372036854775806 by omega)]
    rw [if_pos (by simp; omega), if_pos (by simp; omega), if_pos (by simp; omega)]
  · simp [s15_0, t15_0, qae]
theorem qnx (a b:List Int) (hs:List HOs) (h1:a.length ≤ 1000) (h2:b.length ≤ 1000) (h:hs.length ≤ 1000) (hh:∀ i, i < hs.length → (ho hs i).2.1.length ≤ 1000) :
    f15 ((a, b, hs, ()), (a, b, hs, ()), ()) = some (true, ()):=by
  have e1:=qik a (by omega)
  have e2:=qik b (by omega)
  have e3:=l15 a b hs h hh
  simp only [f15, t15, Tr.val_test, Tr.val_fin, g23, e1, e2, e3, qaA, qau, decide_true, Bool.not_true, Bool.false_eq_true, if_false, Option.isSome_some, Option.getD_some, if_true]
end Go.Vm.Mo

namespace Go.Vm.Mo
open Go
set_option linter.unusedVariables false
set_option linter.unusedSimpArgs false
def bK (l:List FLo) (nw bf:List Int) (hs:List HOs) (g:Int) (i:Nat):Int:=wrap64 ((fl l i).1 * wrap64 (wrap64 (wrap64 (np l nw bf hs g i - nv nw i) * wrap64 (np l nw bf hs g i - nv nw i)) - wrap64 (wrap64 (nv nw i - nv bf i) * wrap64 (nv nw i - nv bf i))))
def bS (l:List FLo) (nw bf:List Int) (hs:List HOs) (g:Int) (i:Nat):Int:=wrap64 (PU l hs i * (np l nw bf hs g i - nv bf i))
def bG (l:List FLo) (nw bf:List Int) (hs:List HOs) (g:Int) (i:Nat):Int:=wrap64 (-((fl l i).1 * g * (np l nw bf hs g i - nv bf i)))
def bR (l:List FLo) (nw bf:List Int) (hs:List HOs) (g:Int) (i:Nat):Int:=wrap64 (PU l hs i % (fl l i).1 * (np l nw bf hs g i - nv bf i))
theorem qnq (d:Tys.data as96):f96 d = some (wrap64 (d.1.2.2.2.2.2.2.1 - d.1.2.2.2.2.1), ()):=by simp only [f96, t96, Tr.val_fin]
theorem qpH (m f r g b n p:Int):f50 ((m, f, r, g, b, n, p, ()), ()) = some (wrap64 (m * wrap64 (wrap64 (wrap64 (p - n) * wrap64 (p - n)) - wrap64 (wrap64 (n - b) * wrap64 (n - b)))), ()):=by
  simp only [f50, t50, Tr.val_fin]
theorem qpS (m f r g b n p:Int):f51 ((m, f, r, g, b, n, p, ()), ()) = some (wrap64 (f * (p - b)), ()):=by
  have e:f96 ((m, f, r, g, b, n, p, ()), ()) = some (wrap64 (p - b), ()):=qnq _
  simp only [f51, t51, Tr.val_test, Tr.val_fin, g96, e, Option.isSome_some, Option.getD_some, if_true, qa6]
theorem qp6 (m f r g b n p:Int):f53 ((m, f, r, g, b, n, p, ()), ()) = some (wrap64 (r * (p - b)), ()):=by
  have e:f96 ((m, f, r, g, b, n, p, ()), ()) = some (wrap64 (p - b), ()):=qnq _
  simp only [f53, t53, Tr.val_test, Tr.val_fin, g96, e, Option.isSome_some, Option.getD_some, if_true, qa6]
theorem qpY (m f r g b n p:Int):f52 ((m, f, r, g, b, n, p, ()), ()) = some (wrap64 (-(m * g * (p - b))), ()):=by
  have e:f96 ((m, f, r, g, b, n, p, ()), ()) = some (wrap64 (p - b), ()):=qnq _
  simp only [f52, t52, Tr.val_test, Tr.val_fin, g96, e, Option.isSome_some, Option.getD_some, if_true, ← qbY, qa6, qdN]
  rw [show (0 - m) * g * (p - b) = -(m * g * (p - b)) by rw [show 0 - m = -m by omega, Int.neg_mul, Int.neg_mul]]
theorem qqy (l:List FLo) (nw bf:List Int) (hs:List HOs) (v:VT l nw bf hs) (g:Int) :
    l93_0_1 ((l, (l.length:Int), (0:Int), ()), (), (l, nw, bf, hs, ()), (g, ()), (), ((0:Int), ()), ()) = some (.inl ((), (), (l, nw, bf, hs, ()), (g, ()), (), (acc (bK l nw bf hs g) l.length, ()), ())):=by
  have few:=v.few
  refine qaG (fun i=>((l, (l.length:Int), (i:Int), ()), (), (l, nw, bf, hs, ()), (g, ()), (), (acc (bK l nw bf hs g) i, ()), ())) (n:=l.length) ?_ ?_ (qag (by omega))
  · intro i hi
    have e1:nw.getD i 0 = nv nw i:=rfl
    have e2:bf.getD i 0 = nv bf i:=rfl
    have e4:l.getD i (0, 0, [], ()) = fl l i:=rfl
    have f:=(v.fl_ok hi).1
    have b:=v.PU_bd hi
    have g1:=qea l nw bf hs v i (by omega)
    have g2:=qea l nw bf hs v (i + 1) (by omega)
    have g3:=qjp (PU l hs i) (fl l i).1 f.1 (by omega) (by omega) (by omega)
    have e5:wrap64 (SF l hs (i + 1) - SF l hs i) = PU l hs i:=rfl
    have e6:wrap64 (wrap64 (wrap64 (wrap64 (2 * nv nw i) - nv bf i) + PU l hs i / (fl l i).1) - g) = np l nw bf hs g i:=rfl
    have n1:=v.n1
    have n2:=v.n2
    have g4:=qpH (fl l i).1 (PU l hs i) (PU l hs i % (fl l i).1) g (nv bf i) (nv nw i) (np l nw bf hs g i)
    simp only [s93_0_1, t93_0_1, Tr.val_test, Tr.val_fin, qae, Int.toNat_natCast, e1, e2, e4, qaf (show i ≤ 9223372036854775806 by omega), g94, g1, g2, e5, g95, g3, e6, g50, g4, Option.isSome_some, Option.getD_some, if_true, acc]
    rw [if_pos (by simp; omega), if_pos (by simp; omega), if_pos (by simp; omega), if_pos (by simp; omega)]
    rfl
  · simp [s93_0_1, t93_0_1, qae]
theorem qpr (g:Int):l93_0_1 (([], (0:Int), (0:Int), ()), (), ([], [], [], [], ()), (g, ()), (), ((0:Int), ()), ()) = some (.inl ((), (), ([], [], [], [], ()), (g, ()), (), ((0:Int), ()), ())) :=
  qaG (step:=s93_0_1) (fun i=>(([], (0:Int), (i:Int), ()), (), ([], [], [], [], ()), (g, ()), (), ((0:Int), ()), ())) (n:=0) (fun i hi=>by omega) (by simp [s93_0_1, t93_0_1, qae]) (qag (by omega))
theorem qqx (l:List FLo) (nw bf:List Int) (hs:List HOs) (v:VT l nw bf hs) (g:Int) :
    l93_0_2 ((l, (l.length:Int), (0:Int), ()), (), (l, nw, bf, hs, ()), (g, ()), (), ((0:Int), ()), ()) = some (.inl ((), (), (l, nw, bf, hs, ()), (g, ()), (), (acc (bS l nw bf hs g) l.length, ()), ())):=by
  have few:=v.few
  refine qaG (fun i=>((l, (l.length:Int), (i:Int), ()), (), (l, nw, bf, hs, ()), (g, ()), (), (acc (bS l nw bf hs g) i, ()), ())) (n:=l.length) ?_ ?_ (qag (by omega))
  · intro i hi
    have e1:nw.getD i 0 = nv nw i:=rfl
    have e2:bf.getD i 0 = nv bf i:=rfl
    have e4:l.getD i (0, 0, [], ()) = fl l i:=rfl
    have f:=(v.fl_ok hi).1
    have b:=v.PU_bd hi
    have g1:=qea l nw bf hs v i (by omega)
    have g2:=qea l nw bf hs v (i + 1) (by omega)
    have g3:=qjp (PU l hs i) (fl l i).1 f.1 (by omega) (by omega) (by omega)
    have e5:wrap64 (SF l hs (i + 1) - SF l hs i) = PU l hs i:=rfl
    have e6:wrap64 (wrap64 (wrap64 (wrap64 (2 * nv nw i) - nv bf i) + PU l hs i / (fl l i).1) - g) = np l nw bf hs g i:=rfl
    have n1:=v.n1
    have n2:=v.n2
    have g4:=qpS (fl l i).1 (PU l hs i) (PU l hs i % (fl l i).1) g (nv bf i) (nv nw i) (np l nw bf hs g i)
    simp only [s93_0_2, t93_0_2, Tr.val_test, Tr.val_fin, qae, Int.toNat_natCast, e1, e2, e4, qaf (show i ≤ 9223372036854775806 by omega), g94, g1, g2, e5, g95, g3, e6, g51, g4, Option.isSome_some, Option.getD_some, if_true, acc]
    rw [if_pos (by simp; omega), if_pos (by simp; omega), if_pos (by simp; omega), if_pos (by simp; omega)]
    rfl
  · simp [s93_0_2, t93_0_2, qae]
theorem qpq (g:Int):l93_0_2 (([], (0:Int), (0:Int), ()), (), ([], [], [], [], ()), (g, ()), (), ((0:Int), ()), ()) = some (.inl ((), (), ([], [], [], [], ()), (g, ()), (), ((0:Int), ()), ())) :=
  qaG (step:=s93_0_2) (fun i=>(([], (0:Int), (i:Int), ()), (), ([], [], [], [], ()), (g, ()), (), ((0:Int), ()), ())) (n:=0) (fun i hi=>by omega) (by simp [s93_0_2, t93_0_2, qae]) (qag (by omega))
theorem qpN (l:List FLo) (nw bf:List Int) (hs:List HOs) (v:VT l nw bf hs) (g:Int) :
    l93_0_3 ((l, (l.length:Int), (0:Int), ()), (), (l, nw, bf, hs, ()), (g, ()), (), ((0:Int), ()), ()) = some (.inl ((), (), (l, nw, bf, hs, ()), (g, ()), (), (acc (bG l nw bf hs g) l.length, ()), ())):=by
  have few:=v.few
  refine qaG (fun i=>((l, (l.length:Int), (i:Int), ()), (), (l, nw, bf, hs, ()), (g, ()), (), (acc (bG l nw bf hs g) i, ()), ())) (n:=l.length) ?_ ?_ (qag (by omega))
  · intro i hi
    have e1:nw.getD i 0 = nv nw i:=rfl
    have e2:bf.getD i 0 = nv bf i:=rfl
    have e4:l.getD i (0, 0, [], ()) = fl l i:=rfl
    have f:=(v.fl_ok hi).1
    have b:=v.PU_bd hi
    have g1:=qea l nw bf hs v i (by omega)
    have g2:=qea l nw bf hs v (i + 1) (by omega)
    have g3:=qjp (PU l hs i) (fl l i).1 f.1 (by omega) (by omega) (by omega)
    have e5:wrap64 (SF l hs (i + 1) - SF l hs i) = PU l hs i:=rfl
    have e6:wrap64 (wrap64 (wrap64 (wrap64 (2 * nv nw i) - nv bf i) + PU l hs i / (fl l i).1) - g) = np l nw bf hs g i:=rfl
    have n1:=v.n1
    have n2:=v.n2
    have g4:=qpY (fl l i).1 (PU l hs i) (PU l hs i % (fl l i).1) g (nv bf i) (nv nw i) (np l nw bf hs g i)
    simp only [s93_0_3, t93_0_3, Tr.val_test, Tr.val_fin, qae, Int.toNat_natCast, e1, e2, e4, qaf (show i ≤ 9223372036854775806 by omega), g94, g1, g2, e5, g95, g3, e6, g52, g4, Option.isSome_some, Option.getD_some, if_true, acc]
    rw [if_pos (by simp; omega), if_pos (by simp; omega), if_pos (by simp; omega), if_pos (by simp; omega)]
    rfl
  · simp [s93_0_3, t93_0_3, qae]
theorem qo2 (g:Int):l93_0_3 (([], (0:Int), (0:Int), ()), (), ([], [], [], [], ()), (g, ()), (), ((0:Int), ()), ()) = some (.inl ((), (), ([], [], [], [], ()), (g, ()), (), ((0:Int), ()), ())) :=
  qaG (step:=s93_0_3) (fun i=>(([], (0:Int), (i:Int), ()), (), ([], [], [], [], ()), (g, ()), (), ((0:Int), ()), ())) (n:=0) (fun i hi=>by omega) (by simp [s93_0_3, t93_0_3, qae]) (qag (by omega))
theorem qql (l:List FLo) (nw bf:List Int) (hs:List HOs) (v:VT l nw bf hs) (g:Int) :
    l93_0_4 ((l, (l.length:Int), (0:Int), ()), (), (l, nw, bf, hs, ()), (g, ()), (), ((0:Int), ()), ()) = some (.inl ((), (), (l, nw, bf, hs, ()), (g, ()), (), (acc (bR l nw bf hs g) l.length, ()), ())):=by
  have few:=v.few
  refine qaG (fun i=>((l, (l.length:Int), (i:Int), ()), (), (l, nw, bf, hs, ()), (g, ()), (), (acc (bR l nw bf hs g) i, ()), ())) (n:=l.length) ?_ ?_ (qag (by omega))
  · intro i hi
    have e1:nw.getD i 0 = nv nw i:=rfl
    have e2:bf.getD i 0 = nv bf i:=rfl
    have e4:l.getD i (0, 0, [], ()) = fl l i:=rfl
    have f:=(v.fl_ok hi).1
    have b:=v.PU_bd hi
    have g1:=qea l nw bf hs v i (by omega)
    have g2:=qea l nw bf hs v (i + 1) (by omega)
    have g3:=qjp (PU l hs i) (fl l i).1 f.1 (by omega) (by omega) (by omega)
    have e5:wrap64 (SF l hs (i + 1) - SF l hs i) = PU l hs i:=rfl
    have e6:wrap64 (wrap64 (wrap64 (wrap64 (2 * nv nw i) - nv bf i) + PU l hs i / (fl l i).1) - g) = np l nw bf hs g i:=rfl
    have n1:=v.n1
    have n2:=v.n2
    have g4:=qp6 (fl l i).1 (PU l hs i) (PU l hs i % (fl l i).1) g (nv bf i) (nv nw i) (np l nw bf hs g i)
    simp only [s93_0_4, t93_0_4, Tr.val_test, Tr.val_fin, qae, Int.toNat_natCast, e1, e2, e4, qaf (show i ≤ 9223372036854775806 by omega), g94, g1, g2, e5, g95, g3, e6, g53, g4, Option.isSome_some, Option.getD_some, if_true, acc]
    rw [if_pos (by simp; omega), if_pos (by simp; omega), if_pos (by simp; omega), if_pos (by simp; omega)]
    rfl
  · simp [s93_0_4, t93_0_4, qae]
theorem qpD (g:Int):l93_0_4 (([], (0:Int), (0:Int), ()), (), ([], [], [], [], ()), (g, ()), (), ((0:Int), ()), ()) = some (.inl ((), (), ([], [], [], [], ()), (g, ()), (), ((0:Int), ()), ())) :=
  qaG (step:=s93_0_4) (fun i=>(([], (0:Int), (i:Int), ()), (), ([], [], [], [], ()), (g, ()), (), ((0:Int), ()), ())) (n:=0) (fun i hi=>by omega) (by simp [s93_0_4, t93_0_4, qae]) (qag (by omega))
def bal (l:List FLo) (nw bf:List Int) (hs:List HOs) (g:Int):Int×Int×Int×Int×Unit :=
  (acc (bK l nw bf hs g) l.length, acc (bS l nw bf hs g) l.length, acc (bG l nw bf hs g) l.length, acc (bR l nw bf hs g) l.length, ())
theorem qqA (l:List FLo) (nw bf:List Int) (hs:List HOs) (g:Int) (h:l.length ≤ 1000) (hl:∀ i, i < l.length → (fl l i).2.2.1.length ≤ 1000) :
    f11 ((l, ()), (nw, bf, hs, ()), g, ()) = some (if sT l nw bf hs (gE g) = 0 then (bal l nw bf hs g, 0, ()) else ((0, 0, 0, 0, ()), sT l nw bf hs (gE g), ())):=by
  have e1:=qof g
  have e2:=qon l nw bf hs [gE g] h hl (by simp)
  have e3:qaj [gE g] = gE g:=by simp only [qaj]; split <;> simp_all
  rw [e3] at e2
  simp only [f11, t11, Tr.val_test, Tr.val_fin, qau, g46, e1, g45, e2, Option.isSome_some, Option.getD_some, if_true]
  by_cases h0:sT l nw bf hs (gE g) = 0
  · have v:=qqe (nz2 h0).1
    have a1:=qqy l nw bf hs v g
    have a2:=qqx l nw bf hs v g
    have a3:=qpN l nw bf hs v g
    have a4:=qql l nw bf hs v g
    simp only [if_pos h0, a1, b93_0_1, a2, b93_0_2, a3, b93_0_3, a4, b93_0_4, qbI, outB, if_true, bal]
  · have a1:=qpr g
    have a2:=qpq g
    have a3:=qo2 g
    have a4:=qpD g
    simp only [if_neg h0, List.length_nil, Int.natCast_zero, a1, b93_0_1, a2, b93_0_2, a3, b93_0_3, a4, b93_0_4, qbI, outB, if_true]
end Go.Vm.Mo

namespace Go.Vm.Mo
open Go
set_option linter.unusedVariables false
set_option linter.unusedSimpArgs false
def mv (y:Int) (br:Bool) (s:Int) (bk:Bool) (b:Int):Int×Bool :=
  if bk = true then (s, true) else if -y ≤ b - s ∧ b - s ≤ y then (s, false) else if br = true then (0, true) else if 0 < b - s then (b - y, false) else (b + y, false)
def okE (k y:Int) (br:Bool) (s:Int) (bk:Bool) (a:Int):Prop :=
  (1 ≤ k ∧ k ≤ 1000) ∧ (1 ≤ y ∧ y ≤ 1000) ∧ (-10000 ≤ s ∧ s ≤ 10000) ∧ (-10000 ≤ a ∧ a ≤ 10000) ∧ (bk = false → -y ≤ a - s ∧ a - s ≤ y) ∧ (br = true → s = 0) ∧ (bk = true → br = true)
theorem qqW {k y:Int} {br:Bool} {s:Int} {bk:Bool} {a b:Int} (h:okE k y br s bk a) (hb:-10000 ≤ b ∧ b ≤ 10000):okE k y br (mv y br s bk b).1 (mv y br s bk b).2 b:=by
  obtain ⟨h1, h2, h3, h4, h5, h6, h7⟩:=h
  unfold mv
  cases bk with
  | true=>exact ⟨h1, h2, h3, hb, fun h=>(by cases h), h6, h7⟩
  | false =>
    have h5:=h5 rfl
    rw [if_neg (by simp)]
    by_cases hw:-y ≤ b - s ∧ b - s ≤ y
    · rw [if_pos hw]; exact ⟨h1, h2, h3, hb, fun _=>hw, h6, h7⟩
    · rw [if_neg hw]
      cases br with
      | true=>exact ⟨h1, h2, by simp, hb, fun h=>(by cases h), fun _=>rfl, fun _=>rfl⟩
      | false =>
        rw [if_neg (by simp)]
        by_cases hp:0 < b - s
        · rw [if_pos hp]
          exact ⟨h1, h2, ⟨by show -10000 ≤ b - y; omega, by show b - y ≤ 10000; omega⟩, hb, fun _=>⟨by show -y ≤ b - (b - y); omega, by show b - (b - y) ≤ y; omega⟩, fun h=>(by cases h), fun h=>(by cases h)⟩
        · rw [if_neg hp]
          exact ⟨h1, h2, ⟨by show -10000 ≤ b + y; omega, by show b + y ≤ 10000; omega⟩, hb, fun _=>⟨by show -y ≤ b - (b + y); omega, by show b - (b + y) ≤ y; omega⟩, fun h=>(by cases h), fun h=>(by cases h)⟩
abbrev okL (l:List ELs) (a:Int) (x:List SLs) (i:Nat):Prop:=okE (el l i).1 (el l i).2.1 (el l i).2.2.1 (sl x i).1 (sl x i).2.1 a
abbrev mvL (l:List ELs) (x:List SLs) (b:Int) (i:Nat):Int×Bool:=mv (el l i).2.1 (el l i).2.2.1 (sl x i).1 (sl x i).2.1 b
theorem qqD {l:List ELs} {a:Int} {x:List SLs} (h:(cS l).2.1 = 0) (h2:(cH l a x).2.1 = 0) {i:Nat} (hi:i < l.length):okL l a x i:=by
  have e1:=(qe3 h).2.2 i hi
  obtain ⟨ha, hx, hh⟩:=qni h2
  obtain ⟨e2, e3, e4, e5⟩:=qmW (hh i hi)
  refine ⟨by omega, by omega, e2, ha, fun hb=>?_, e4, e5⟩
  have:=wi_iff.1 (e3 hb)
  rw [show st a (sl x i) = a - (sl x i).1 from qai (by omega) (by omega)] at this
  exact this
theorem qqj {x:Int} (h:-10000 ≤ x ∧ x ≤ 10000):pE x = 0:=by unfold pE; rw [if_pos (wi_iff.2 h)]
theorem qqI {l:List ELs} {a:Int} {x:List SLs} {i:Nat} (h:okL l a x i):hE l a x i = 0:=by
  obtain ⟨h1, h2, h3, h4, h5, h6, h7⟩:=h
  have w:st a (sl x i) = a - (sl x i).1:=qai (by omega) (by omega)
  unfold hE
  rw [qqj h3, w]
  cases hb:(sl x i).2.1 with
  | true =>
    have hr:=h7 hb
    rw [hr, h6 hr]; rfl
  | false =>
    have hw:wi (-(el l i).2.1) (el l i).2.1 (a - (sl x i).1) = true:=wi_iff.2 (h5 hb)
    rw [hw]
    cases hr:(el l i).2.2.1 with
    | true=>rw [h6 hr]; rfl
    | false=>rfl
theorem qpF {l:List ELs} {a:Int} {x:List SLs} (ha:-10000 ≤ a ∧ a ≤ 10000) (hx:x.length = l.length) (h:∀ i, i < l.length → okL l a x i):cH l a x = (0, 0, ()):=by
  unfold cH
  rw [if_pos (qqj ha), if_pos hx, qbf fun i _ hi=>by simp [qqI (h i (by omega))]]
theorem qqZ {l:List ELs} {a:Int} {x:List SLs} {i:Nat} (h:okL l a x i) {b:Int} (hb:-10000 ≤ b ∧ b ≤ 10000):MV l x b i = ((mvL l x b i).1, (mvL l x b i).2, ()):=by
  obtain ⟨h1, h2, h3, h4, h5, h6, h7⟩:=h
  have w:st b (sl x i) = b - (sl x i).1:=qai (by omega) (by omega)
  unfold MV mvL mv
  rw [w]
  cases hk:(sl x i).2.1 with
  | true=>rfl
  | false =>
    simp only [Bool.false_eq_true, if_false, wi_iff]
    by_cases hw:-(el l i).2.1 ≤ b - (sl x i).1 ∧ b - (sl x i).1 ≤ (el l i).2.1
    · simp only [if_pos hw]
    · simp only [if_neg hw]
      by_cases hr:(el l i).2.2.1 = true
      · simp only [if_pos hr]
      · simp only [if_neg hr]
        by_cases hp:0 < b - (sl x i).1
        · simp only [if_pos hp]; rw [qai (by omega) (by omega)]
        · simp only [if_neg hp]; rw [qai (by omega) (by omega)]
theorem qoQ {l:List ELs} {a:Int} {x:List SLs} (h:(cS l).2.1 = 0) (h2:(cH l a x).2.1 = 0) {b:Int} (hb:-10000 ≤ b ∧ b ≤ 10000):cH l b (lst (MV l x b) l.length) = (0, 0, ()):=by
  refine qpF hb (qbh _ _) fun i hi=>?_
  have hk:=qqD h h2 hi
  have e:sl (lst (MV l x b) l.length) i = ((mvL l x b i).1, (mvL l x b i).2, ()):=by
    rw [← qqZ hk hb]
    exact qgr _ _ hi
  unfold okL
  rw [e]
  exact qqW hk hb
def s0 (l:List ELs):List SLs:=List.replicate l.length ((0:Int), false, ())
theorem qpL (l:List ELs):(s0 l).length = l.length:=by simp [s0]
theorem qqp (l:List ELs) (i:Nat):sl (s0 l) i = ((0:Int), false, ()):=by
  unfold sl s0
  simp [List.getD, List.getElem?_replicate]
  split <;> rfl
theorem qqQ {l:List ELs} (h:(cS l).2.1 = 0):cH l 0 (s0 l) = (0, 0, ()):=by
  refine qpF ⟨by omega, by omega⟩ (qpL l) fun i hi=>?_
  have e1:=(qe3 h).2.2 i hi
  unfold okL okE
  rw [qqp]
  exact ⟨by omega, by omega, by simp, by simp, fun _=>by simp; omega, fun _=>rfl, fun h=>by cases h⟩
theorem qpR {l:List FLo} {nw bf:List Int} {hs:List HOs} {i:Nat} (h1:-10000 ≤ nv nw i ∧ nv nw i ≤ 10000) (h2:-10000 ≤ nv bf i ∧ nv bf i ≤ 10000)
    (h3:(cSH (fl l i).2.2.1 (ho hs i).1 (ho hs i).2.1).2.1 = 0) (h4:(ho hs i).1 = dr nw i) (h5:-(fl l i).2.1 ≤ dr nw i ∧ dr nw i ≤ (fl l i).2.1):eS l nw bf hs i = 0:=by
  have w1:=wi_iff.2 h1
  have w2:=wi_iff.2 h2
  have w5:=wi_iff.2 h5
  unfold eS
  rw [w1, w2, h3, w5, dT h4]; rfl
theorem qp5 {l:List FLo} {nw bf:List Int} {hs:List HOs} (v:VT l nw bf hs):cFT l nw bf hs = (0, 0, ()):=by
  unfold cFT
  rw [if_pos v.v, qim v.n1 v.n2 v.n3, qbf fun i _ hi=>by simp [v.e i (by omega)]]
theorem qqN {l:List FLo} {nw bf:List Int} {hs:List HOs} (v:VT l nw bf hs):cT l nw bf hs = (0, 0, ()):=by
  rw [qim v.n1 v.n2 v.n3, qbf fun i _ hi=>by simp [v.e i (by omega)]]
theorem qpE {l:List FLo} {nw bf:List Int} {hs:List HOs} (v:VT l nw bf hs) {g:Int} (hg:gE g = 0):sT l nw bf hs (gE g) = 0:=by
  unfold sT
  rw [qp5 v, hg]; rfl
abbrev STt:=List Int×List Int×List HOs
def S0 (l:List FLo):STt:=(List.replicate l.length 0, List.replicate l.length 0, lst (fun i=>((0:Int), s0 (fl l i).2.2.1, ())) l.length)
def nP (l:List FLo) (s:STt) (g:Int):List Int:=NP l s.1 s.2.1 s.2.2 g
def nxt (l:List FLo) (s:STt) (g:Int):STt:=(nP l s g, s.1, lst (MH l s.2.2 (nP l s g)) l.length)
def bad1 (l:List FLo) (s:STt) (g:Int):Option Nat:=first (bD l (nP l s g)) l.length 0
def Sq (l:List FLo) (m:List Int):Nat → STt
  | 0=>S0 l
  | i + 1=>nxt l (Sq l m i) (nv m i)
abbrev VS (l:List FLo) (s:STt):Prop:=VT l s.1 s.2.1 s.2.2
theorem qmg (n i:Nat):nv (List.replicate n 0) i = 0:=by
  unfold nv
  simp [List.getD, List.getElem?_replicate]
  split <;> rfl
theorem VS0 {l:List FLo} (h:(cF l).2.1 = 0):VS l (S0 l):=by
  refine ⟨h, by simp [S0], by simp [S0], by simp [S0, qbh], fun i hi=>?_⟩
  have hz:=(qei h).2.2 i hi
  have e:ho (S0 l).2.2 i = ((0:Int), s0 (fl l i).2.2.1, ()):=qgr _ _ hi
  have hd:dr (S0 l).1 i = 0:=by
    unfold dr pv S0
    simp only [qmg]
    split <;> rfl
  refine qpR (by show -10000 ≤ nv (List.replicate _ 0) i ∧ nv (List.replicate _ 0) i ≤ 10000; rw [qmg]; omega) (by show -10000 ≤ nv (List.replicate _ 0) i ∧ nv (List.replicate _ 0) i ≤ 10000; rw [qmg]; omega) ?_ ?_ ?_
  · rw [e]; unfold cSH; rw [if_pos hz.2]; show (cH _ 0 (s0 _)).2.1 = 0; rw [qqQ hz.2]
  · rw [e, hd]
  · rw [hd]; omega
theorem qoX {l:List FLo} {s:STt} (v:VS l s) {g:Int} (hg:-100 ≤ g ∧ g ≤ 100) (hn:bad1 l s g = none):VS l (nxt l s g):=by
  have few:=v.few
  have hb:∀ i, i < l.length → -(fl l i).2.1 ≤ dr (nP l s g) i ∧ dr (nP l s g) i ≤ (fl l i).2.1:=fun i hi=>by
    have:=qaz hn i (by omega) (by omega)
    unfold bD at this
    exact wi_iff.1 (by simpa using this)
  have hp:∀ i, i < l.length → -(1000 * ((i:Int) + 1)) ≤ nv (nP l s g) i ∧ nv (nP l s g) i ≤ 1000 * ((i:Int) + 1):=by
    intro i
    induction i with
    | zero =>
      intro hi
      have b:=hb 0 hi
      have f:=(v.fl_ok hi).1
      have d:nv (nP l s g) 0 = dr (nP l s g) 0:=(qqY v hg hi).1
      rw [d]
      omega
    | succ i ih =>
      intro hi
      have h1:=ih (by omega)
      have b:=hb (i + 1) hi
      have f:=(v.fl_ok hi).1
      have b1:=qn4 v hg hi
      have e1:nv (nP l s g) (i + 1) = np l s.1 s.2.1 s.2.2 g (i + 1):=qix hi
      unfold dr at b
      rw [qjs, e1, qai (by omega) (by omega)] at b
      rw [e1]
      omega
  refine ⟨v.v, qma _ _ _ _ _, v.n1, qbh _ _, fun i hi=>?_⟩
  have e:ho (nxt l s g).2.2 i = MH l s.2.2 (nP l s g) i:=qgr _ _ hi
  have h1:=hp i hi
  have a:=qe1 (v.e i hi)
  have f:=v.fl_ok hi
  have b:=hb i hi
  refine qpR (by show -10000 ≤ nv (nP l s g) i ∧ nv (nP l s g) i ≤ 10000; omega) a.1 ?_ (by rw [e]; rfl) b
  rw [e]
  unfold cSH
  rw [if_pos f.2]
  show (cH _ (dr (nP l s g) i) (lst _ _)).2.1 = 0
  rw [qoQ f.2 (qk4 a.2.2.1).2 (by omega)]
theorem VSq {l:List FLo} (h:(cF l).2.1 = 0) (m:List Int) (hm:∀ i, i < m.length → gE (nv m i) = 0):∀ i, i ≤ m.length → (∀ j, j < i → bad1 l (Sq l m j) (nv m j) = none) → VS l (Sq l m i)
  | 0, _, _=>VS0 h
  | i + 1, hi, hj=>qoX (VSq h m hm i (by omega) fun j hj2=>hj j (by omega)) (qkc (hm i (by omega))) (hj i (by omega))
end Go.Vm.Mo

namespace Go.Vm.Mo
open Go
set_option linter.unusedVariables false
set_option linter.unusedSimpArgs false
def Tq (l:List FLo) (m:List Int) (i:Nat):List Int×List Int×List HOs×Unit:=((Sq l m i).1, (Sq l m i).2.1, (Sq l m i).2.2, ())
theorem qpf (b:Int) (l:List Int) (h0:0 ≤ b) (h1:b ≤ 9223372036854775807) (h:l.length ≤ 1000000) (hw:∀ i, i < l.length → wi (-b) b (l.getD i 0) = true):f42 (b, l, ()) = some (0, ()):=by
  have e:=qmR (-b) b l (by omega)
  rw [qbf fun i _ hi=>by simp only [hw i (by omega), Bool.not_true]] at e
  have e3:f44 (b, l, ()) = some (false, ()):=by
    simp only [f44, t44, Tr.val_test, Tr.val_fin, g85, wn64 (show -9223372036854775807 ≤ b by omega) h1, e, Option.isSome_some, Option.getD_some, if_true, Option.isNone_none, Bool.not_true]
  have e2:=qcq false 2
  simp only [f42, t42, Tr.val_test, Tr.val_fin, g44, g43, e3, e2, Option.isSome_some, Option.getD_some, if_true, Bool.false_eq_true, if_false]
theorem qpT (l:List FLo) (h:l.length ≤ 1000) (hs:∀ i, i < l.length → (fl l i).2.2.1.length ≤ 1000):f18 ((l, ()), ()) = some ((cF l).2.1, ()):=by
  have e:=qpZ l h hs
  simp only [f18, t18, Tr.val_test, Tr.val_fin, g12, e, Option.isSome_some, Option.getD_some, if_true]
theorem l19 (m:List Int) (h:m.length ≤ 1000000):l19_0 ((m, (0:Int), ()), ()) = match first (fun i=>!decide (gE (nv m i) = 0)) m.length 0 with
    | some k=>some (.inr ((gE (nv m k), ()), ()))
    | none=>some (.inl ((), ())):=by
  refine qaI (fun i=>((m, (i:Int), ()), ())) (fun i=>!decide (gE (nv m i) = 0)) (fun k=>((gE (nv m k), ()), ())) (n:=m.length) ?_ ?_ (qag (by omega))
  · intro i hi
    have hh:m.getD i 0 = nv m i:=rfl
    have e:=qow (nv m i)
    simp only [s19_0, t19_0, Tr.val_test, Tr.val_fin, qae, qau, Int.toNat_natCast, hh, g14, e, Option.isSome_some, Option.getD_some, if_true, qaf (show i ≤ 9223372036854775806 by omega)]
    rw [if_pos (by simp; omega), if_pos (by simp; omega)]
  · simp [s19_0, t19_0, qae]
def mE (m:List Int):Int:=if m.length ≤ 60 then qhc (fun i=>gE (nv m i)) m.length else 8
theorem qp8 (m:List Int) (h:m.length ≤ 1000000):f19 (m, ()) = some (mE m, ()):=by
  have e:=l19 m h
  simp only [f19, t19, Tr.val_test, Tr.val_fin, qae, mE]
  by_cases h6:m.length ≤ 60
  · rw [if_neg (by simp; omega), if_pos h6]
    unfold qhc
    cases hf:first (fun i=>!decide (gE (nv m i) = 0)) m.length 0 with
    | none=>rw [hf] at e; simp only [e, qaA, Option.isSome_some, if_true, Bool.false_eq_true, if_false]
    | some k=>rw [hf] at e; simp only [e, r19_0, outR, qaA, Option.isSome_some, if_true]
  · rw [if_pos (by simp; omega), if_neg h6]
theorem qpz {m:List Int} (h:mE m = 0):m.length ≤ 60 ∧ ∀ i, i < m.length → gE (nv m i) = 0:=by
  unfold mE at h
  split at h
  · rename_i h6; exact ⟨h6, qke h⟩
  · cases h
theorem qqS {g:Int} (h:gE g = 0):wi (-100) 100 g = true:=wi_iff.2 (qkc h)
theorem qqF (m:List Int) (h:m.length ≤ 60) (hm:∀ i, i < m.length → gE (nv m i) = 0):f65 (m, ()) = some (0, ()):=by
  have e1:=qcq (!decide ((m.length:Int) ≤ 60)) 8
  have e2:=qpf 100 m (by omega) (by omega) (by omega) fun i hi=>qqS (hm i hi)
  have e3:=qej 0 0
  simp only [f65, t65, Tr.val_test, Tr.val_fin, qae, g43, e1, g42, e2, Option.isSome_some, Option.getD_some, if_true, dT (show (m.length:Int) ≤ 60 by omega), Bool.not_true, Bool.false_eq_true, if_false, g41, e3]
  rfl
theorem qps (l:List ELs) (h:l.length ≤ 1000000):f101 (l, ()) = some ((l, (0, s0 l, ()), ()), ()):=by
  simp only [f101, t101, Tr.val_test, Tr.val_fin, Int.toNat_natCast]
  rw [if_pos (qp0 16 (by omega) (by omega)), if_pos (by rw [qdO, List.length_replicate])]
  rfl
theorem l66 (l:List FLo) (h:l.length ≤ 1000) (hs:∀ i, i < l.length → (fl l i).2.2.1.length ≤ 1000) (n c n' c':Nat) (a b:List Int) :
    l66_0 ((l, (l.length:Int), (0:Int), ()), (l, ()), (), ((n, c), (n', c'), [], ()), a, b, ()) = some (.inl ((), (l, ()), (), ((n, c), (n', c'), (S0 l).2.2, ()), a, b, ())):=by
  refine qaG (fun i=>((l, (l.length:Int), (i:Int), ()), (l, ()), (), ((n, c), (n', c'), lst (fun i=>((0:Int), s0 (fl l i).2.2.1, ())) i, ()), a, b, ())) (n:=l.length) ?_ ?_ (qag (by omega))
  · intro i hi
    have e4:l.getD i (0, 0, [], ()) = fl l i:=rfl
    have e:=qps (fl l i).2.2.1 (by have:=hs i hi; omega)
    rw [qeX]
    simp only [s66_0, t66_0, Tr.val_test, Tr.val_fin, qae, Int.toNat_natCast, e4, g101, e, Option.isSome_some, Option.getD_some, if_true, qbh, qaf (show i ≤ 9223372036854775806 by omega)]
    rw [if_pos (by simp; omega), if_pos (by simp; omega), if_pos (by simp only [Bool.and_eq_true, qao]; omega)]
  · simp [s66_0, t66_0, qae]; rfl
theorem qqr (l:List FLo) (h:l.length ≤ 1000) (hs:∀ i, i < l.length → (fl l i).2.2.1.length ≤ 1000):f66 (((l, ()), ()), ()) = some ((((l, ()), ()), ((S0 l).1, (S0 l).2.1, (S0 l).2.2, ()), ()), ()):=by
  have e:=l66 l h hs l.length l.length l.length l.length (List.replicate l.length 0) (List.replicate l.length 0)
  have hb:Nat.beq l.length (List.replicate l.length (0:Int)).length = true:=by rw [qdO, List.length_replicate]
  simp only [f66, t66, Tr.val_test, Tr.val_fin, Int.toNat_natCast]
  rw [if_pos (qp0 8 (by omega) (by omega))]
  simp only [e, b66_0, qbI, outB, if_true, hb, S0]
def sto (l:List FLo) (m:List Int) (k:Nat):Int:=match bad1 l (Sq l m k) (nv m k) with
  | some j=>(j:Int)
  | none=>-1
def cl (l:List FLo) (m:List Int) (k:Nat):Bool:=(bad1 l (Sq l m k) (nv m k)).isSome
theorem qii {l:List FLo} {m:List Int} {k:Nat} (h:cl l m k = false):bad1 l (Sq l m k) (nv m k) = none:=by
  unfold cl at h
  cases hb:bad1 l (Sq l m k) (nv m k) with
  | none=>rfl
  | some j=>rw [hb] at h; cases h
theorem l20 (l:List FLo) (h:(cF l).2.1 = 0) (m:List Int) (hm:∀ i, i < m.length → gE (nv m i) = 0) (hl:m.length ≤ 1000) :
    l20_0 (([Tq l m 0], m, (m.length:Int), (0:Int), ()), (l, (S0 l).1, (S0 l).2.1, (S0 l).2.2, ()), ()) = match first (cl l m) m.length 0 with
      | some k=>some (.inr ((lst (Tq l m) (k + 1), sto l m k, 0, ()), (l, (Sq l m k).1, (Sq l m k).2.1, (Sq l m k).2.2, ()), ()))
      | none=>some (.inl ((lst (Tq l m) (m.length + 1), ()), (l, (Sq l m m.length).1, (Sq l m m.length).2.1, (Sq l m m.length).2.2, ()), ())):=by
  refine qgk (fun i=>((lst (Tq l m) (i + 1), m, (m.length:Int), (i:Int), ()), (l, (Sq l m i).1, (Sq l m i).2.1, (Sq l m i).2.2, ()), ())) (cl l m)
    (fun k=>((lst (Tq l m) (k + 1), sto l m k, 0, ()), (l, (Sq l m k).1, (Sq l m k).2.1, (Sq l m k).2.2, ()), ())) (n:=m.length) ?_ ?_ (qag (by omega))
  · intro i hi hp
    have v:=VSq h m hm i (by omega) fun j hj=>qii (hp j hj)
    have e1:m.getD i 0 = nv m i:=rfl
    have e:=qoL l (Sq l m i).1 (Sq l m i).2.1 (Sq l m i).2.2 v (nv m i)
    have eb:first (bD l (NP l (Sq l m i).1 (Sq l m i).2.1 (Sq l m i).2.2 (nv m i))) l.length 0 = bad1 l (Sq l m i) (nv m i):=rfl
    rw [eb] at e
    have hc:cl l m i = (bad1 l (Sq l m i) (nv m i)).isSome:=rfl
    have hst:sto l m i = match bad1 l (Sq l m i) (nv m i) with
      | some j=>(j:Int)
      | none=>-1:=rfl
    rw [qeX (Tq l m) (i + 1)]
    simp only [s20_0, t20_0, Tr.val_test, Tr.val_fin, qae, qau, Int.toNat_natCast, e1, g47, e, Option.isSome_some, Option.getD_some, if_true, qbh, hc, hst, qaf (show i ≤ 9223372036854775806 by omega)]
    rw [if_pos (by simp; omega), if_pos (by simp; omega)]
    cases hb:bad1 l (Sq l m i) (nv m i) with
    | some j =>
      have:(!decide ((j:Int) = -1)) = true:=nT (by omega)
      simp only [this, if_true, Option.isSome_some]
    | none =>
      simp only [decide_true, Bool.not_true, Bool.false_eq_true, if_false, Option.isSome_none]
      rw [if_pos (by simp only [Bool.and_eq_true, qao]; omega)]
      rfl
  · intro _
    simp [s20_0, t20_0, qae]
def run (l:List FLo) (m:List Int):Tys.data rs20:=match first (cl l m) m.length 0 with
  | some k=>(lst (Tq l m) (k + 1), sto l m k, 0, ())
  | none=>(lst (Tq l m) (m.length + 1), (-1:Int), 0, ())
theorem qop (l:List FLo) (h:(cF l).2.1 = 0) (hs:∀ i, i < l.length → (fl l i).2.2.1.length ≤ 1000) (m:List Int) (hm:∀ i, i < m.length → gE (nv m i) = 0) (hl:m.length ≤ 60) :
    f20 ((l, ()), m, ()) = some (run l m):=by
  have hz:=qei h
  have e1:=qqF m hl hm
  have e2:f64 ((l, ()), [0], ()) = some (((l, ()), ()), 0, ()):=by
    have a1:=qox l (by omega) hs
    have a2:=qhu [0] (by simp)
    have a3:=qej 0 0
    simp only [f64, t64, Tr.val_test, Tr.val_fin, qau, g38, a1, h, g41, a2, a3, Option.isSome_some, Option.getD_some, if_true, qaj, decide_true, Bool.not_true, Bool.false_eq_true, if_false]
  have e3:=qqr l (by omega) hs
  have e4:l20_0 (([((S0 l).1, (S0 l).2.1, (S0 l).2.2, ())], m, (m.length:Int), (0:Int), ()), (l, (S0 l).1, (S0 l).2.1, (S0 l).2.2, ()), ()) = _:=l20 l h m hm (by omega)
  simp only [f20, t20, Tr.val_test, Tr.val_fin, qau, g65, e1, g64, e2, g66, e3, Option.isSome_some, Option.getD_some, if_true, decide_true, Bool.not_true, Bool.false_eq_true, if_false, run]
  cases hf:first (cl l m) m.length 0 with
  | none=>rw [hf] at e4; simp only [e4, b20_0, qaA, outB, Option.isSome_some, if_true, Bool.false_eq_true, if_false]
  | some k=>rw [hf] at e4; simp only [e4, r20_0, qaA, outR, Option.isSome_some, if_true]
theorem qoh (l:List FLo) (s:STt) (v:VS l s):f22 ((l, ()), (s.1, s.2.1, s.2.2, ()), ()) = some (0, ()):=by
  have e:=qqw l s.1 s.2.1 s.2.2 v.v
  rw [qqN v] at e
  simp only [f22, t22, Tr.val_test, Tr.val_fin, g13, e, Option.isSome_some, Option.getD_some, if_true]
theorem qpQ (l:List ELs) (a:Int) (x:List SLs) (h:l.length ≤ 1000000) (h0:(cSH l a x).2.1 = 0):f67 (l, (a, x, ()), [], ()) = some ((l, (a, x, ()), ()), 0, ()):=by
  have e1:=qoC l a x h
  have e2:=qhu [] (by simp)
  have e3:=qej 0 0
  simp only [f67, t67, Tr.val_test, Tr.val_fin, qau, g40, e1, h0, g41, e2, e3, Option.isSome_some, Option.getD_some, if_true, qaj, decide_true, Bool.not_true, Bool.false_eq_true, if_false]
theorem qpX (l:List FLo) (s:STt) (v:VS l s) (i:Nat) (hi:i < l.length):f24 ((fl l i).2.2.1, ((ho s.2.2 i).1, (ho s.2.2 i).2.1, ()), ()) = some (sfo l s.2.2 i, 0, ()):=by
  have hc:=v.ch_ok hi
  have hk:=v.cs_ok hi
  have e1:=qpQ (fl l i).2.2.1 (ho s.2.2 i).1 (ho s.2.2 i).2.1 (by omega) (qe1 (v.e i hi)).2.2.1
  have e2:=qoH (fl l i).2.2.1 (ho s.2.2 i).1 (ho s.2.2 i).2.1 (by omega) (by omega)
  rw [hc.2.1] at e2
  simp only [f24, t24, Tr.val_test, Tr.val_fin, g67, e1, g68, e2, Option.isSome_some, Option.getD_some, if_true]
  rfl
theorem l27 (L:List (List Int×List Int×List HOs×Unit)) (h:L.length ≤ 1000000) (hL:∀ i, i < L.length → f15 (((L.getD i ([], [], [], ())).1, (L.getD i ([], [], [], ())).2.1, (L.getD i ([], [], [], ())).2.2.1, ()), ((L.getD i ([], [], [], ())).1, (L.getD i ([], [], [], ())).2.1, (L.getD i ([], [], [], ())).2.2.1, ()), ()) = some (true, ())) :
    l27_0 ((L, L, (0:Int), ()), ()) = some (.inl ((), ())):=by
  refine qaG (fun i=>((L, L, (i:Int), ()), ())) (n:=L.length) ?_ ?_ (qag (by omega))
  · intro i hi
    have e:=hL i hi
    simp only [s27_0, t27_0, Tr.val_test, Tr.val_fin, qae, Int.toNat_natCast, g15, e, Option.isSome_some, Option.getD_some, if_true, Bool.not_true, Bool.false_eq_true, if_false, qaf (show i ≤ 9223372036854775806 by omega)]
    rw [if_pos (by simp; omega), if_pos (by simp; omega), if_pos (by simp; omega)]
  · simp [s27_0, t27_0, qae]
theorem qn6 (L:List (List Int×List Int×List HOs×Unit)) (h:L.length ≤ 1000000) (hL:∀ i, i < L.length → f15 (((L.getD i ([], [], [], ())).1, (L.getD i ([], [], [], ())).2.1, (L.getD i ([], [], [], ())).2.2.1, ()), ((L.getD i ([], [], [], ())).1, (L.getD i ([], [], [], ())).2.1, (L.getD i ([], [], [], ())).2.2.1, ()), ()) = some (true, ())) :
    f27 (L, L, ()) = some (true, ()):=by
  have e:=l27 L h hL
  simp only [f27, t27, Tr.val_test, Tr.val_fin, qau, e, qaA, Option.isSome_some, if_true, decide_true, Bool.not_true, Bool.false_eq_true, if_false]
theorem qou (l:List FLo) (s:STt) (v:VS l s):f15 ((s.1, s.2.1, s.2.2, ()), (s.1, s.2.1, s.2.2, ()), ()) = some (true, ()):=by
  have few:=v.few
  have n1:=v.n1
  have n2:=v.n2
  have n3:=v.n3
  refine qnx _ _ _ (by omega) (by omega) (by omega) fun i hi=>?_
  have hc:=v.ch_ok (i:=i) (by omega)
  have hk:=v.cs_ok (i:=i) (by omega)
  omega
end Go.Vm.Mo

namespace Go.Vm.Mo
open Go
set_option linter.unusedVariables false
set_option linter.unusedSimpArgs false
def wy (l:List FLo) (nw bf:List Int) (hs:List HOs) (g:Int) (i:Nat):Int:=np l nw bf hs g i - nv bf i
def wyp (l:List FLo) (nw bf:List Int) (hs:List HOs) (g:Int) (i:Nat):Int:=if i = 0 then 0 else wy l nw bf hs g (i - 1)
def tS (l:List FLo) (nw bf:List Int) (hs:List HOs) (g:Int) (i:Nat):Int:=wrap64 (acc (bS l nw bf hs g) i - SF l hs i * wyp l nw bf hs g i)
def on1 (l:List FLo):Nat → Bool
  | 0=>true
  | i + 1=>on1 l i && decide ((fl l i).1 = 1)
theorem qnj {l:List FLo}:∀ {n:Nat}, on1 l n = true → ∀ i, i < n → (fl l i).1 = 1
  | 0, _=>fun i hi=>by omega
  | n + 1, h=>by
    simp only [on1, Bool.and_eq_true, decide_eq_true_eq] at h
    intro i hi
    by_cases hn:i = n
    · subst hn; exact h.2
    · exact qnj h.1 i (by omega)
theorem qkk {F:Nat → Int}:∀ {n:Nat}, (∀ i, i < n → F i = 0) → acc F n = 0
  | 0, _=>rfl
  | n + 1, h=>by
    simp only [acc, qkk (n:=n) fun i hi=>h i (by omega), h n (by omega)]; rfl
theorem qqU {l:List FLo} {hs:List HOs} {i:Nat} (hi:i < l.length):SF l hs i = sfo l hs i:=by unfold SF; rw [if_neg (by omega)]
theorem qqm (l:List FLo) (hs:List HOs):SF l hs l.length = 0:=by unfold SF; rw [if_pos rfl]
theorem qoO {l:List FLo} {nw bf:List Int} {hs:List HOs} (v:VT l nw bf hs) (g:Int) {i:Nat} (hi:i < l.length) :
    tS l nw bf hs g (i + 1) = wrap64 (acc (bS l nw bf hs g) i - SF l hs i * wy l nw bf hs g i):=by
  have hp:=(v.PU_bd hi).1
  have e:wyp l nw bf hs g (i + 1) = wy l nw bf hs g i:=by unfold wyp; rw [if_neg (by omega)]; rfl
  unfold tS
  rw [e]
  have hb:bS l nw bf hs g i = wrap64 (PU l hs i * wy l nw bf hs g i):=rfl
  simp only [acc, hb, hp]
  rw [qbZ, qcC, Int.sub_mul]
  congr 1; omega
theorem qpM {l:List FLo} {nw bf:List Int} {hs:List HOs} (v:VT l nw bf hs) {g:Int} (hg:-100 ≤ g ∧ g ≤ 100) {i:Nat} (hi:i < l.length) :
    bK l nw bf hs g i = wrap64 (wrap64 (bS l nw bf hs g i + bG l nw bf hs g i) - bR l nw bf hs g i):=by
  have a:=qe1 (v.e i hi)
  have b:=v.PU_bd hi
  have f:=(v.fl_ok hi).1
  have d:=qlV (x:=PU l hs i) f.1 160000000 b.2.1 b.2.2 (by omega)
  have ep:np l nw bf hs g i = 2 * nv nw i - nv bf i + PU l hs i / (fl l i).1 - g:=by
    unfold np
    rw [qai (n:=2 * nv nw i) (by omega) (by omega), qai (n:=2 * nv nw i - nv bf i) (by omega) (by omega), qai (n:=2 * nv nw i - nv bf i + PU l hs i / (fl l i).1) (by omega) (by omega), qai (by omega) (by omega)]
  have em:=Int.emod_add_mul_ediv (PU l hs i) (fl l i).1
  unfold bK bS bG bR
  simp only [qdN, qa6, qcC, qcr, qbV, qbZ]
  congr 1
  generalize np l nw bf hs g i = p at *
  generalize nv nw i = n at *
  generalize nv bf i = o at *
  generalize (fl l i).1 = m at *
  generalize PU l hs i = u at *
  generalize u / m = q at *
  generalize u % m = r at *
  subst ep
  grind
theorem qmD {K S G R:Nat → Int}:∀ {n:Nat}, (∀ i, i < n → K i = wrap64 (wrap64 (S i + G i) - R i)) → acc K n = wrap64 (wrap64 (acc S n + acc G n) - acc R n)
  | 0, _=>rfl
  | n + 1, h=>by
    have e:=qmD (n:=n) fun i hi=>h i (by omega)
    have e2:=h n (by omega)
    simp only [acc, e, e2, qdN, qa6, qcC, qcr, qbV, qbZ]
    congr 1; omega
theorem qkR {l:List FLo} {m:List Int} {N i:Nat} (h:i < N):(lst (Tq l m) N).getD i ([], [], [], ()) = Tq l m i:=qgr _ _ h
theorem l42 (l:List FLo) (m:List Int) (more sy:Int) (N i:Nat) (hi:i < N) (hN:N ≤ 1000) (v:VS l (Sq l m i)) (b:Int×Int×Int×Int×Unit) :
    l4_2 ((m, more, lst (Tq l m) N, sy, (l.length:Int), (i:Int), (0:Int), (0:Int), true, (0:Int), ()), (l, ()), (b.1, b.2.1, b.2.2.1, b.2.2.2.1, ()), (nP l (Sq l m i) (nv m i), (Sq l m i).1, (Sq l m (i + 1)).2.2, ()), ()) =
      some (.inl ((m, more, lst (Tq l m) N, sy, (l.length:Int), (i:Int), acc (bK l (Sq l m i).1 (Sq l m i).2.1 (Sq l m i).2.2 (nv m i)) l.length, acc (bS l (Sq l m i).1 (Sq l m i).2.1 (Sq l m i).2.2 (nv m i)) l.length, on1 l l.length, ()),
        (l, ()), (b.1, b.2.1, b.2.2.1, b.2.2.2.1, ()), (nP l (Sq l m i) (nv m i), (Sq l m i).1, (Sq l m (i + 1)).2.2, ()), ())):=by
  have few:=v.few
  have n1:=v.n1
  have n2:=v.n2
  have n3:=v.n3
  have tend:tS l (Sq l m i).1 (Sq l m i).2.1 (Sq l m i).2.2 (nv m i) l.length = acc (bS l (Sq l m i).1 (Sq l m i).2.1 (Sq l m i).2.2 (nv m i)) l.length:=by
    unfold tS
    rw [qqm, Int.zero_mul, Int.sub_zero]; exact qos _ _
  rw [← tend]
  have t0:tS l (Sq l m i).1 (Sq l m i).2.1 (Sq l m i).2.2 (nv m i) 0 = 0:=by
    unfold tS wyp
    rw [if_pos rfl, Int.mul_zero]; rfl
  have key := qaG (step := s4_2) (st := fun k => ((m, more, lst (Tq l m) N, sy, (l.length : Int), (i : Int), acc (bK l (Sq l m i).1 (Sq l m i).2.1 (Sq l m i).2.2 (nv m i)) k, tS l (Sq l m i).1 (Sq l m i).2.1 (Sq l m i).2.2 (nv m i) k, on1 l k, (k : Int), ()),
        (l, ()), (b.1, b.2.1, b.2.2.1, b.2.2.2.1, ()), (nP l (Sq l m i) (nv m i), (Sq l m i).1, (Sq l m (i + 1)).2.2, ()), ())) (n:=l.length) (m:=rounds)
      (b:=((m, more, lst (Tq l m) N, sy, (l.length:Int), (i:Int), acc (bK l (Sq l m i).1 (Sq l m i).2.1 (Sq l m i).2.2 (nv m i)) l.length, tS l (Sq l m i).1 (Sq l m i).2.1 (Sq l m i).2.2 (nv m i) l.length, on1 l l.length, ()),
        (l, ()), (b.1, b.2.1, b.2.2.1, b.2.2.2.1, ()), (nP l (Sq l m i) (nv m i), (Sq l m i).1, (Sq l m (i + 1)).2.2, ()), ())) ?_ ?_ (qag (by omega))
  · simp only [t0] at key
    exact key
  · intro k hk
    have eT:=qkR (l:=l) (m:=m) hi
    have e0:(nP l (Sq l m i) (nv m i)).getD k 0 = np l (Sq l m i).1 (Sq l m i).2.1 (Sq l m i).2.2 (nv m i) k:=qix hk
    have e0p:0 < k → (nP l (Sq l m i) (nv m i)).getD (k - 1) 0 = np l (Sq l m i).1 (Sq l m i).2.1 (Sq l m i).2.2 (nv m i) (k - 1):=fun _=>qix (by omega)
    have e1:(Tq l m i).1.getD k 0 = nv (Sq l m i).1 k:=rfl
    have e2:∀ j, (Tq l m i).2.1.getD j 0 = nv (Sq l m i).2.1 j:=fun _=>rfl
    have e3:(Tq l m i).2.2.1.getD k (0, [], ()) = ho (Sq l m i).2.2 k:=rfl
    have e4:l.getD k (0, 0, [], ()) = fl l k:=rfl
    have q1:(Tq l m i).1.length = l.length:=n1
    have q2:(Tq l m i).2.1.length = l.length:=n2
    have q3:(Tq l m i).2.2.1.length = l.length:=n3
    have q4:(nP l (Sq l m i) (nv m i)).length = l.length:=qma _ _ _ _ _
    have hc:=v.ch_ok hk
    have hs4:=v.cs_ok hk
    have g1:=qoJ (fl l k).2.2.1 (by omega)
    have g2:=qok (ho (Sq l m i).2.2 k).1 (ho (Sq l m i).2.2 k).2.1 (by omega)
    have g3:=qpX l (Sq l m i) v k hk
    have b1:(decide ((0:Int) ≤ (k:Int)) && decide ((k:Int) < (l.length:Int))) = true:=dA (by omega) (by omega)
    have b2:(decide ((0:Int) ≤ (i:Int)) && decide ((i:Int) < (N:Int))) = true:=dA (by omega) (by omega)
    have hts:=qoO v (nv m i) hk
    rw [hts]
    have hW1:wrap64 (wrap64 (np l (Sq l m i).1 (Sq l m i).2.1 (Sq l m i).2.2 (nv m i) k - nv (Sq l m i).1 k) + wrap64 (nv (Sq l m i).1 k - nv (Sq l m i).2.1 k)) = wrap64 (wy l (Sq l m i).1 (Sq l m i).2.1 (Sq l m i).2.2 (nv m i) k):=by
      rw [qbV, qbZ]; unfold wy; congr 1; omega
    have hK:wrap64 ((fl l k).1 * wrap64 (wrap64 (wrap64 (np l (Sq l m i).1 (Sq l m i).2.1 (Sq l m i).2.2 (nv m i) k - nv (Sq l m i).1 k) * wrap64 (np l (Sq l m i).1 (Sq l m i).2.1 (Sq l m i).2.2 (nv m i) k - nv (Sq l m i).1 k)) - wrap64 (wrap64 (nv (Sq l m i).1 k - nv (Sq l m i).2.1 k) * wrap64 (nv (Sq l m i).1 k - nv (Sq l m i).2.1 k)))) = bK l (Sq l m i).1 (Sq l m i).2.1 (Sq l m i).2.2 (nv m i) k:=rfl
    have hsf:sfo l (Sq l m i).2.2 k = SF l (Sq l m i).2.2 k:=(qqU hk).symm
    simp only [s4_2, t4_2, Tr.val_test, Tr.val_fin, qae, qau, Int.toNat_natCast, eT, e0, e1, e2, e3, e4, q1, q2, q3, q4, qbh, b1, b2, g25, g1, g26, g2, g24, g3, Option.isSome_some, Option.getD_some, if_true, decide_true, Bool.not_true, Bool.false_eq_true, if_false,
      hW1, hK, hsf, qaf (show k ≤ 9223372036854775806 by omega), acc, on1]
    rw [if_pos (by simp; omega)]
    by_cases h0:k = 0
    · subst h0
      have hx:wrap64 (tS l (Sq l m i).1 (Sq l m i).2.1 (Sq l m i).2.2 (nv m i) 0 - wrap64 (SF l (Sq l m i).2.2 0 * wrap64 (wy l (Sq l m i).1 (Sq l m i).2.1 (Sq l m i).2.2 (nv m i) 0))) = wrap64 (acc (bS l (Sq l m i).1 (Sq l m i).2.1 (Sq l m i).2.2 (nv m i)) 0 - SF l (Sq l m i).2.2 0 * wy l (Sq l m i).1 (Sq l m i).2.1 (Sq l m i).2.2 (nv m i) 0):=by
        rw [t0, qa6, qcr]; rfl
      rw [if_neg (by simp)]
      simp only [hx, on1, acc, if_true, Bool.true_and]
    · have w:wrap64 ((k:Int) - 1) = ((k - 1:Nat):Int):=qgz (by omega) (by omega)
      have b3:(decide ((0:Int) ≤ ((k - 1:Nat):Int)) && decide (((k - 1:Nat):Int) < (l.length:Int))) = true:=dA (by omega) (by omega)
      have e5:=e0p (by omega)
      have hx:wrap64 (wrap64 (tS l (Sq l m i).1 (Sq l m i).2.1 (Sq l m i).2.2 (nv m i) k - wrap64 (SF l (Sq l m i).2.2 k * wrap64 (wy l (Sq l m i).1 (Sq l m i).2.1 (Sq l m i).2.2 (nv m i) k))) + wrap64 (SF l (Sq l m i).2.2 k * wrap64 (np l (Sq l m i).1 (Sq l m i).2.1 (Sq l m i).2.2 (nv m i) (k - 1) - nv (Sq l m i).2.1 (k - 1)))) =
          wrap64 (acc (bS l (Sq l m i).1 (Sq l m i).2.1 (Sq l m i).2.2 (nv m i)) k - SF l (Sq l m i).2.2 k * wy l (Sq l m i).1 (Sq l m i).2.1 (Sq l m i).2.2 (nv m i) k):=by
        have hy:np l (Sq l m i).1 (Sq l m i).2.1 (Sq l m i).2.2 (nv m i) (k - 1) - nv (Sq l m i).2.1 (k - 1) = wyp l (Sq l m i).1 (Sq l m i).2.1 (Sq l m i).2.2 (nv m i) k:=by unfold wyp; rw [if_neg h0]; rfl
        rw [hy]
        simp only [qa6, qcr, qcC, qbV, qbZ]
        unfold tS
        rw [show ∀ a b c:Int, wrap64 a - b + c = wrap64 a + (c - b) from fun a b c=>by omega, qbV]
        congr 1; omega
      rw [if_pos (by simp; omega)]
      simp only [w, Int.toNat_natCast, b3, e5, hx, if_true]
      rcases Bool.eq_false_or_eq_true (on1 l k) with ho | ho <;> simp only [ho, Bool.true_and, Bool.false_and, if_true, if_false, Bool.false_eq_true]
  · simp [s4_2, t4_2, qae]
theorem qqo {l:List FLo} {s:STt} {g:Int} (h:bad1 l s g = none):stp l s.1 s.2.1 s.2.2 g = (((nxt l s g).1, (nxt l s g).2.1, (nxt l s g).2.2, ()), (0:Int), ()):=by
  have e:stp l s.1 s.2.1 s.2.2 g = match bad1 l s g with
    | some _=>(([], [], [], ()), (22:Int), ())
    | none=>((NP l s.1 s.2.1 s.2.2 g, s.1, lst (MH l s.2.2 (NP l s.1 s.2.1 s.2.2 g)) l.length, ()), (0:Int), ()):=rfl
  rw [e, h]; rfl
theorem qoV {l:List FLo} {s:STt} {g:Int} (h:bad1 l s g ≠ none):stp l s.1 s.2.1 s.2.2 g = (([], [], [], ()), (22:Int), ()):=by
  have e:stp l s.1 s.2.1 s.2.2 g = match bad1 l s g with
    | some _=>(([], [], [], ()), (22:Int), ())
    | none=>((NP l s.1 s.2.1 s.2.2 g, s.1, lst (MH l s.2.2 (NP l s.1 s.2.1 s.2.2 g)) l.length, ()), (0:Int), ()):=rfl
  rw [e]
  cases hb:bad1 l s g with
  | none=>exact absurd hb h
  | some k=>rfl
theorem l40 (l:List FLo) (hl:∀ i, i < l.length → (fl l i).2.2.1.length ≤ 6) (m:List Int) (hm:∀ i, i < m.length → gE (nv m i) = 0) (h60:m.length ≤ 60) (more sy:Int) (N:Nat) (hN:N ≤ m.length + 1)
    (hv:∀ i, i < N → VS l (Sq l m i)) (hg:∀ i, i + 1 < N → bad1 l (Sq l m i) (nv m i) = none) (hlast:N ≤ m.length → 0 ≤ sy ∧ bad1 l (Sq l m (N - 1)) (nv m (N - 1)) ≠ none) (hl7:l.length ≤ 7) :
    l4_0 ((m, more, lst (Tq l m) N, sy, (l.length:Int), (0:Int), ()), (l, ()), ()) = some (.inl ((m, more, lst (Tq l m) N, sy, ()), (l, ()), ())):=by
  refine qaG (fun i=>((m, more, lst (Tq l m) N, sy, (l.length:Int), (i:Int), ()), (l, ()), ())) (n:=N) ?_ ?_ (qag (by omega))
  · intro i hi
    have v:=hv i hi
    have few:=v.few
    have n1:=v.n1
    have n2:=v.n2
    have n3:=v.n3
    have eT:=qkR (l:=l) (m:=m) hi
    have e22:f22 ((l, ()), ((Tq l m i).1, (Tq l m i).2.1, (Tq l m i).2.2.1, ()), ()) = some (0, ()):=qoh l (Sq l m i) v
    have b0:(decide ((0:Int) ≤ (i:Int)) && decide ((i:Int) < (N:Int))) = true:=dA (by omega) (by omega)
    have hNi:decide ((N:Int) ≤ (i:Int)) = false:=dF (by omega)
    simp only [s4_0, t4_0, Tr.val_test, Tr.val_fin, qae, qau, Int.toNat_natCast, qbh, eT, b0, hNi, Bool.not_false, g22, e22, Option.isSome_some, Option.getD_some, if_true, decide_true, Bool.not_true, Bool.false_eq_true, if_false, qaf (show i ≤ 9223372036854775806 by omega)]
    by_cases hlen:i = m.length
    · rw [if_pos (by simp; omega)]
    · have hlt:i < m.length:=by omega
      have hgi:=hm i hlt
      have hgb:=qkc hgi
      have hsT:=qpE v hgi
      have e1:m.getD i 0 = nv m i:=rfl
      have b1:(decide ((0:Int) ≤ (i:Int)) && decide ((i:Int) < (m.length:Int))) = true:=dA (by omega) (by omega)
      have e8:=qpI l (by omega) (fun k hk=>by have:=hl k hk; omega)
      have e9:f9 (((Tq l m i).1, (Tq l m i).2.1, (Tq l m i).2.2.1, ()), ()) = some (((Sq l m i).1, (Sq l m i).2.1, (Sq l m i).2.2, ()), ()) :=
        qqO (Sq l m i).1 (Sq l m i).2.1 (Sq l m i).2.2 (by omega) (by omega) (by omega) fun k hk=>by
          have hc:=v.ch_ok (i:=k) (by omega)
          have hs4:=v.cs_ok (i:=k) (by omega)
          omega
      have e11:=qqA l (Sq l m i).1 (Sq l m i).2.1 (Sq l m i).2.2 (nv m i) (by omega) (fun k hk=>by have:=hl k hk; omega)
      rw [if_pos hsT] at e11
      have e10:=qpG l (Sq l m i).1 (Sq l m i).2.1 (Sq l m i).2.2 (nv m i) (by omega) (fun k hk=>by have:=hl k hk; omega)
      rw [if_pos hsT] at e10
      have hbal:(bal l (Sq l m i).1 (Sq l m i).2.1 (Sq l m i).2.2 (nv m i)).1 = wrap64 (wrap64 ((bal l (Sq l m i).1 (Sq l m i).2.1 (Sq l m i).2.2 (nv m i)).2.1 + (bal l (Sq l m i).1 (Sq l m i).2.1 (Sq l m i).2.2 (nv m i)).2.2.1) - (bal l (Sq l m i).1 (Sq l m i).2.1 (Sq l m i).2.2 (nv m i)).2.2.2.1) :=
        qmD fun k hk=>qpM v hgb hk
      have hne:decide ((i:Int) = (m.length:Int)) = false:=dF (by omega)
      simp only [hne, e1, b1, g8, e8, g9, e9, g11, e11, g10, e10, ← hbal, Option.isSome_some, Option.getD_some, if_true, decide_true, Bool.not_true, Bool.false_eq_true, if_false]
      by_cases hend:i + 1 = N
      · obtain ⟨hs, hb⟩:=hlast (by omega)
        rw [show N - 1 = i by omega] at hb
        rw [qoV hb, dT (show ((i + 1:Nat):Int) = (N:Int) by omega)]
        simp only [decide_true, Bool.not_true, Bool.false_eq_true, if_false, if_true, dT hs]
      · have hb:=hg i (by omega)
        have v2:=hv (i + 1) (by omega)
        have hS:Sq l m (i + 1) = nxt l (Sq l m i) (nv m i):=rfl
        have eT2:=qkR (l:=l) (m:=m) (show i + 1 < N by omega)
        have e22b:f22 ((l, ()), ((nxt l (Sq l m i) (nv m i)).1, (nxt l (Sq l m i) (nv m i)).2.1, (nxt l (Sq l m i) (nv m i)).2.2, ()), ()) = some (0, ()):=qoh l _ v2
        have e15:f15 (((nxt l (Sq l m i) (nv m i)).1, (nxt l (Sq l m i) (nv m i)).2.1, (nxt l (Sq l m i) (nv m i)).2.2, ()), ((Tq l m (i + 1)).1, (Tq l m (i + 1)).2.1, (Tq l m (i + 1)).2.2.1, ()), ()) = some (true, ()):=qou l _ v2
        have e23:f23 ((nxt l (Sq l m i) (nv m i)).2.1, (Tq l m i).1, ()) = some (true, ()):=qik (Sq l m i).1 (by omega)
        have b2:(decide ((0:Int) ≤ ((i + 1:Nat):Int)) && decide (((i + 1:Nat):Int) < (N:Int))) = true:=dA (by omega) (by omega)
        have e42:l4_2 ((m, more, lst (Tq l m) N, sy, (l.length:Int), (i:Int), (0:Int), (0:Int), true, (0:Int), ()), (l, ()), ((bal l (Sq l m i).1 (Sq l m i).2.1 (Sq l m i).2.2 (nv m i)).1, (bal l (Sq l m i).1 (Sq l m i).2.1 (Sq l m i).2.2 (nv m i)).2.1, (bal l (Sq l m i).1 (Sq l m i).2.1 (Sq l m i).2.2 (nv m i)).2.2.1, (bal l (Sq l m i).1 (Sq l m i).2.1 (Sq l m i).2.2 (nv m i)).2.2.2.1, ()), ((nxt l (Sq l m i) (nv m i)).1, (nxt l (Sq l m i) (nv m i)).2.1, (nxt l (Sq l m i) (nv m i)).2.2, ()), ()) = _ :=
          l42 l m more sy N i hi (by omega) v (bal l (Sq l m i).1 (Sq l m i).2.1 (Sq l m i).2.2 (nv m i))
        have hk1:acc (bK l (Sq l m i).1 (Sq l m i).2.1 (Sq l m i).2.2 (nv m i)) l.length = (bal l (Sq l m i).1 (Sq l m i).2.1 (Sq l m i).2.2 (nv m i)).1:=rfl
        have hk2:acc (bS l (Sq l m i).1 (Sq l m i).2.1 (Sq l m i).2.2 (nv m i)) l.length = (bal l (Sq l m i).1 (Sq l m i).2.1 (Sq l m i).2.2 (nv m i)).2.1:=rfl
        rw [qqo hb, dF (show ¬ ((i + 1:Nat):Int) = (N:Int) by omega)]
        simp only [decide_true, Bool.not_true, Bool.false_eq_true, if_false, if_true, g22, e22b, b2, Int.toNat_natCast, eT2, g15, e15, g23, e23, Option.isSome_some, Option.getD_some, e42, b4_2, qaA, outB, hk1, hk2, qaf (show i ≤ 9223372036854775806 by omega)]
        rcases Bool.eq_false_or_eq_true (on1 l l.length) with ho | ho
        · have hall:=qnj ho
          have hR:(bal l (Sq l m i).1 (Sq l m i).2.1 (Sq l m i).2.2 (nv m i)).2.2.2.1 = 0:=qkk fun k hk=>by
            unfold bR
            rw [hall k hk, Int.emod_one, Int.zero_mul]; rfl
          simp only [ho, hR, decide_true, Bool.not_true, Bool.false_eq_true, if_false, if_true]
        · simp only [ho, Bool.false_eq_true, if_false]
  · simp [s4_0, t4_0, qae, qbh]
end Go.Vm.Mo

namespace Go.Vm.Mo
open Go
set_option linter.unusedVariables false
set_option linter.unusedSimpArgs false
theorem qhZ {bad:Nat → Bool} {n k:Nat} (h:k < n) (hb:bad k = true) (hp:∀ j, j < k → bad j = false):first bad n 0 = some k:=by
  cases e:first bad n 0 with
  | none=>have:=qaz e k (by omega) (by omega); rw [hb] at this; cases this
  | some j =>
    obtain ⟨_, h2, h3, h4⟩:=first_some e
    have:j = k:=by
      by_cases h5:j < k
      · rw [hp j h5] at h3; cases h3
      · by_cases h6:k < j
        · rw [h4 k (by omega) h6] at hb; cases hb
        · omega
    rw [this]
theorem qkh (m:List Int) (x:Int) {i:Nat} (h:i < m.length):nv (m++[x]) i = nv m i:=by
  unfold nv
  simp [List.getD, List.getElem?_append_left h]
theorem qo9 (m:List Int) (x:Int):nv (m++[x]) m.length = x:=by
  unfold nv
  simp [List.getD]
theorem qkN (l:List FLo) (m:List Int) (x:Int):∀ i, i ≤ m.length → Sq l (m++[x]) i = Sq l m i
  | 0, _=>rfl
  | i + 1, h=>by
    simp only [Sq]
    rw [qkN l m x i (by omega), qkh m x (by omega)]
theorem qlY (l:List FLo) (m:List Int) (x:Int) {i:Nat} (h:i < m.length):cl l (m++[x]) i = cl l m i:=by
  unfold cl
  rw [qkN l m x i (by omega), qkh m x h]
theorem qoP (l:List FLo) (m:List Int) (x:Int) {i:Nat} (h:i < m.length):sto l (m++[x]) i = sto l m i:=by
  unfold sto
  rw [qkN l m x i (by omega), qkh m x h]
theorem qmu {α:Type} {F G:Nat → α} {n:Nat} (h:∀ i, i < n → F i = G i):lst F n = lst G n:=by
  unfold lst
  exact List.map_congr_left fun i hi=>h i (by simpa using hi)
theorem qkS {α:Type} (F:Nat → α) {n k:Nat} (h:k ≤ n):(lst F n).take k = lst F k:=by
  unfold lst
  rw [← List.map_take, List.take_range, Nat.min_eq_left h]
theorem qoz (l:List FLo) (m:List Int) (x:Int) {n:Nat} (h:n ≤ m.length + 1):lst (Tq l (m++[x])) n = lst (Tq l m) n :=
  qmu fun i hi=>by unfold Tq; rw [qkN l m x i (by omega)]
theorem qp1 {l:List FLo} {m:List Int} {k:Nat} (h:cl l m k = true):0 ≤ sto l m k ∧ sto l m k < l.length:=by
  unfold cl at h
  unfold sto
  cases hb:bad1 l (Sq l m k) (nv m k) with
  | none=>rw [hb] at h; cases h
  | some j =>
    obtain ⟨_, h2, _, _⟩:=first_some hb
    exact ⟨by show (0:Int) ≤ (j:Int); omega, by show (j:Int) < _; omega⟩
theorem qij {l:List FLo} {m:List Int} {k:Nat} (h:first (cl l m) m.length 0 = some k):run l m = (lst (Tq l m) (k + 1), sto l m k, 0, ()):=by unfold run; rw [h]
theorem qkp {l:List FLo} {m:List Int} (h:first (cl l m) m.length 0 = none):run l m = (lst (Tq l m) (m.length + 1), (-1:Int), 0, ()):=by unfold run; rw [h]
theorem qjb {l:List FLo} {m:List Int} {k:Nat} (x:Int) (h:first (cl l m) m.length 0 = some k):run l (m++[x]) = (lst (Tq l m) (k + 1), sto l m k, 0, ()):=by
  obtain ⟨_, h2, h3, h4⟩:=first_some h
  have e:first (cl l (m++[x])) (m++[x]).length 0 = some k:=qhZ (by simp; omega) (by rw [qlY l m x (by omega)]; exact h3) fun j hj=>by rw [qlY l m x (by omega)]; exact h4 j (by omega) hj
  rw [qij e, qoz l m x (by omega), qoP l m x (by omega)]
theorem qiu {l:List FLo} {m:List Int} (x:Int) (h:first (cl l m) m.length 0 = none):∃ n sy, m.length + 1 ≤ n ∧ run l (m++[x]) = (lst (Tq l (m++[x])) n, sy, 0, ()):=by
  cases e:first (cl l (m++[x])) (m++[x]).length 0 with
  | none=>exact ⟨_, _, by simp, qkp e⟩
  | some k =>
    obtain ⟨_, h2, h3, h4⟩:=first_some e
    have:¬ k < m.length:=fun hk=>by
      rw [qlY l m x hk, qaz h k (by omega) (by omega)] at h3; cases h3
    exact ⟨_, _, by omega, qij e⟩
theorem qog (l:List FLo) (m:List Int) (N:Nat) (h:N ≤ 1000) (hv:∀ i, i < N → VS l (Sq l m i)):f27 (lst (Tq l m) N, lst (Tq l m) N, ()) = some (true, ()):=by
  refine qn6 _ (by rw [qbh]; omega) fun i hi=>?_
  rw [qbh] at hi
  rw [qkR hi]
  exact qou l _ (hv i hi)
theorem qoA {l:List FLo} (h:(cF l).2.1 = 0) (m:List Int) (hm:∀ i, i < m.length → gE (nv m i) = 0) {N:Nat} (hN:N ≤ m.length + 1) (hp:∀ j, j + 1 < N → cl l m j = false):∀ i, i < N → VS l (Sq l m i) :=
  fun i hi=>VSq h m hm i (by omega) fun j hj=>qii (hp j (by omega))
end Go.Vm.Mo

namespace Go.Vm.Mo
open Go
set_option linter.unusedVariables false
set_option linter.unusedSimpArgs false
theorem qqb (l:List FLo) (m:List Int) (x:Int):f4 ((l, ()), m, x, ()) = some (true, ()):=by
  have e6:=qqM l
  simp only [f4, t4, Tr.val_test, Tr.val_fin, g6, e6, qae, qau, Option.isSome_some, Option.getD_some, if_true, List.nil_append]
  rcases Bool.eq_false_or_eq_true (fewB l) with hb | hb
  · obtain ⟨h7, h6⟩:=qnW hb
    by_cases h20:(m.length:Int) ≤ 20
    · have e18:=qpT l (by omega) (fun i hi=>by have:=h6 i hi; omega)
      have e19:=qp8 m (by omega)
      have e14:=qow x
      simp only [hb, dT h20, Bool.not_true, Bool.false_eq_true, if_false, g18, e18, g19, e19, g14, e14, Option.isSome_some, Option.getD_some, if_true]
      by_cases hc:(cF l).2.1 = 0
      · by_cases hme:mE m = 0
        · by_cases hx:gE x = 0
          · obtain ⟨h60, hm⟩:=qpz hme
            have hm':∀ i, i < (m++[x]).length → gE (nv (m++[x]) i) = 0:=by
              intro i hi
              by_cases him:i < m.length
              · rw [qkh m x him]; exact hm i him
              · rw [show i = m.length by simp at hi; omega, qo9]; exact hx
            have e8:=qpI l (by omega) (fun i hi=>by have:=h6 i hi; omega)
            have e20:=qop l hc (fun i hi=>by have:=h6 i hi; omega) m hm h60
            have e20b:=qop l hc (fun i hi=>by have:=h6 i hi; omega) (m++[x]) hm' (by simp; omega)
            have n1:(Nat.ble ((2 * (0 + m.length) + 192) * 8) 281474976710656 && Nat.ble (0 + m.length) 281474976710656) = true:=by simp only [Bool.and_eq_true, qao]; omega
            have n2:(Nat.ble ((2 * (m.length + 1) + 192) * 8) 281474976710656 && Nat.ble (m.length + 1) 281474976710656) = true:=by simp only [Bool.and_eq_true, qao]; omega
            have w1:wrap64 ((m.length:Int) + 1) = ((m.length + 1:Nat):Int):=qaf (by omega)
            simp only [dT hc, dT hme, dT hx, Bool.not_true, Bool.false_eq_true, if_false, g8, e8, n1, n2, g20, e20, e20b, Option.isSome_some, Option.getD_some, if_true, w1]
            cases hf:first (cl l m) m.length 0 with
            | some k =>
              obtain ⟨_, hk, hk2, hk3⟩:=first_some hf
              have hsto:=qp1 hk2
              have hv:=qoA hc m hm (N:=k + 1) (by omega) (fun j hj=>hk3 j (by omega) (by omega))
              have e40:=l40 l h6 m hm h60 x (sto l m k) (k + 1) (by omega) hv (fun i hi=>qii (hk3 i (by omega) (by omega))) (fun _=>⟨hsto.1, by
                intro hbad
                have hk2':(bad1 l (Sq l m k) (nv m k)).isSome = true:=hk2
                rw [show k + 1 - 1 = k by omega] at hbad
                rw [hbad] at hk2'; cases hk2'⟩) h7
              have e27:=qog l m (k + 1) (by omega) hv
              rw [qij hf]
              simp only [qbh, decide_true, Bool.not_true, Bool.false_eq_true, if_false, dF (show ¬ ((k + 1:Nat):Int) = 0 by omega), dT (show ((k + 1:Nat):Int) ≤ ((m.length + 1:Nat):Int) by omega), dT hsto.1, dF (show ¬ (l.length:Int) ≤ sto l m k by omega),
                e40, b4_0, qaA, outB, Option.isSome_some, if_true, g8, e8, g20, e20b, qjb x hf, n1, n2, Option.getD_some, Int.le_refl, dT (show (0:Int) ≤ ((k + 1:Nat):Int) by omega), Bool.and_self, Int.toNat_natCast, qkS _ (Nat.le_refl _), g27, e27]
            | none =>
              obtain ⟨n, sy, hn, hrun⟩:=qiu x hf
              have hnc:∀ j, j < m.length → cl l m j = false:=fun j hj=>qaz hf j (by omega) (by omega)
              have hv:=qoA hc m hm (N:=m.length + 1) (by omega) (fun j hj=>hnc j (by omega))
              have e40:=l40 l h6 m hm h60 x (-1) (m.length + 1) (by omega) hv (fun i hi=>qii (hnc i (by omega))) (fun h=>by omega) h7
              have e27:=qog l m (m.length + 1) (by omega) hv
              have ht:(lst (Tq l (m++[x])) n).take (m.length + 1) = lst (Tq l m) (m.length + 1):=by rw [qkS _ hn, qoz l m x (by omega)]
              have q0:decide ((0:Int) ≤ -1) = false:=rfl
              rw [qkp hf]
              simp only [qbh, decide_true, Bool.not_true, Bool.not_false, Bool.false_eq_true, if_false, dF (show ¬ ((m.length + 1:Nat):Int) = 0 by omega), q0, Int.le_refl, dF (show ¬ (l.length:Int) ≤ -1 by omega),
                e40, b4_0, qaA, outB, Option.isSome_some, if_true, g8, e8, g20, e20b, hrun, n1, n2, Option.getD_some, dT (show ((m.length + 1:Nat):Int) ≤ (n:Int) by omega), dT (show (0:Int) ≤ ((m.length + 1:Nat):Int) by omega), Bool.and_self, Int.toNat_natCast, ht, g27, e27]
          · simp only [dT hc, dT hme, dF hx, Bool.not_true, Bool.not_false, Bool.false_eq_true, if_false, if_true]
        · simp only [dT hc, dF hme, Bool.not_true, Bool.not_false, Bool.false_eq_true, if_false, if_true]
      · simp only [dF hc, Bool.not_false, if_true]
    · simp only [hb, dF h20, Bool.not_true, Bool.not_false, Bool.false_eq_true, if_false, if_true]
  · simp only [hb, Bool.not_false, if_true]
theorem law4 (d:Tys.data as4) (hw:Tys.Wf as4 d):qlJ Go.Proofs.Tryz.prog 4 as4 [.bool] d (true, ()):=by
  have h:=qqb d.1.1 d.2.1 d.2.2.1
  have hp:p4.pre d = true:=by
    show Option.isSome (f4 d) = true
    rw [show f4 d = some (true, ()) from h]; rfl
  have hg:p4.fn d = (true, ()):=by
    show (f4 d).getD _ = _
    rw [show f4 d = some (true, ()) from h]; rfl
  have:=ok4.runs d hp
  rw [hg] at this
  exact this
end Go.Vm.Mo
