import Derived.Test.YtlaojojnembodaaRsFc
import Derived.Test.YtlaojojnembodaaA5
set_option linter.unusedVariables false
set_option linter.unusedSimpArgs false

namespace Go.Vm.Mo
open Go
set_option linter.unusedVariables false
set_option linter.unusedSimpArgs false
theorem dT {p:Prop} [Decidable p] (h:p):decide p = true:=decide_eq_true h
theorem dF {p:Prop} [Decidable p] (h:¬ p):decide p = false:=decide_eq_false h
theorem nT {p:Prop} [Decidable p] (h:¬ p):(!decide p) = true:=by rw [decide_eq_false h]; rfl
theorem nF {p:Prop} [Decidable p] (h:p):(!decide p) = false:=by rw [decide_eq_true h]; rfl
theorem dA {p q:Prop} [Decidable p] [Decidable q] (h:p) (k:q):(decide p && decide q) = true:=by rw [decide_eq_true h, decide_eq_true k]; rfl
theorem qij (bad:Nat → Bool):∀ (n i:Nat), first bad n (i + 1) = (first (fun k=>bad (k + 1)) n i).map (· + 1)
  | 0, _=>rfl
  | n + 1, i=>by
    simp only [first]
    split
    · rfl
    · exact qij bad n (i + 1)
def qar:List Int → Int
  | []=>0
  | a :: l=>if a = 0 then qar l else a
theorem qhq:∀ l:List Int, (match first (fun i=>!decide (l.getD i 0 = 0)) l.length 0 with
    | some k=>l.getD k 0
    | none=>0) = qar l
  | []=>rfl
  | a :: l=>by
    simp only [List.length, first, qar]
    by_cases ha:a = 0
    · subst ha
      have e:=qhq l
      have hf:first (fun i=>!decide (((0:Int) :: l).getD i 0 = 0)) l.length (0 + 1) = (first (fun i=>!decide (l.getD i 0 = 0)) l.length 0).map (· + 1):=by
        rw [qij]; rfl
      simp only [hf, List.getD_cons_zero, decide_true, Bool.not_true, Bool.false_eq_true, if_false, if_true]
      rw [← e]
      cases first (fun i=>!decide (l.getD i 0 = 0)) l.length 0 with
      | none=>rfl
      | some k=>rfl
    · simp [ha]
theorem l73 (l:List Int) (h:l.length ≤ 1000000000):l73_0 ((l, (l.length:Int), (0:Int), ()), ()) = match first (fun i=>!decide (l.getD i 0 = 0)) l.length 0 with
    | some k=>some (.inr ((l.getD k 0, ()), ()))
    | none=>some (.inl ((), ())):=by
  refine qa1 (fun i=>((l, (l.length:Int), (i:Int), ()), ())) (fun i=>!decide (l.getD i 0 = 0)) (fun k=>((l.getD k 0, ()), ())) (n:=l.length) ?_ ?_ (qak (by omega))
  · intro i hi
    simp only [s73_0, t73_0, Tr.val_test, qae, qaH]
    rw [if_pos (by simp; omega), if_pos (by simp; omega)]
    simp only [Int.toNat_natCast, qaf (show i ≤ 9223372036854775806 by omega)]
    rfl
  · simp [s73_0, t73_0, qae]
theorem qiQ (l:List Int) (h:l.length ≤ 1000000000):f73 (l, ()) = some (qar l, ()):=by
  simp only [f73, t73, Tr.val_test, r73_0, l73 l h, ← qhq l]
  cases first (fun i=>!decide (l.getD i 0 = 0)) l.length 0 with
  | none=>rfl
  | some k=>rfl
theorem qok (d:Tys.data as74):f74 d = some (if d.1 = true then d.2.1 else (0:Int), ()):=by
  simp only [f74, t74, Tr.val_test]
  split <;> rfl
def wi (lo hi x:Int):Bool:=decide (lo ≤ x) && decide (x ≤ hi)
theorem wi_iff {lo hi x:Int}:wi lo hi x = true ↔ lo ≤ x ∧ x ≤ hi:=by simp [wi]
theorem qps (d:Tys.data as40):f40 d = some (wi d.2.1 d.2.2.1 d.1, ()):=by
  simp only [f40, t40, Tr.val_test, Tr.val_fin, qae, decide_eq_true_eq, wi]
  split <;> simp [*]
theorem l72 (lo hi:Int) (l:List Int) (h:l.length ≤ 1000000000):l72_0 ((lo, hi, l, (l.length:Int), (0:Int), ()), ()) = match first (fun i=>!wi lo hi (l.getD i 0)) l.length 0 with
    | some _=>some (.inr ((false, ()), ()))
    | none=>some (.inl ((), ())):=by
  refine qa1 (fun i=>((lo, hi, l, (l.length:Int), (i:Int), ()), ())) (fun i=>!wi lo hi (l.getD i 0)) (fun _=>((false, ()), ())) (n:=l.length) ?_ ?_ (qak (by omega))
  · intro i hi'
    simp only [s72_0, t72_0, Tr.val_test, Tr.val_fin, qae, Int.toNat_natCast, qaf (show i ≤ 9223372036854775806 by omega)]
    rw [if_pos (by simp; omega), if_pos (by simp; omega)]
    by_cases a0:lo ≤ l.getD i 0
    · by_cases a1:l.getD i 0 ≤ hi
      · simp only [wi, a0, a1, decide_true, Bool.and_self, Bool.not_true, if_true, if_false, Bool.false_eq_true]
      · simp only [wi, a0, a1, decide_true, decide_false, Bool.and_false, Bool.not_false, Bool.not_true, if_true, if_false, Bool.false_eq_true]
    · simp only [wi, a0, decide_false, Bool.false_and, Bool.not_false, if_true, if_false, Bool.false_eq_true]
  · simp [s72_0, t72_0, qae]
theorem qkc (lo hi:Int) (l:List Int) (h:l.length ≤ 1000000000):f72 (lo, hi, l, ()) = some ((first (fun i=>!wi lo hi (l.getD i 0)) l.length 0).isNone, ()):=by
  have hl:=l72 lo hi l h
  cases hf:first (fun i=>!wi lo hi (l.getD i 0)) l.length 0 with
  | none =>
    rw [hf] at hl
    simp only [f72, t72, Tr.val_test, Tr.val_fin, hl, qaY, Option.isSome_some, Option.isNone_none, if_true, Bool.false_eq_true, if_false]
  | some k =>
    rw [hf] at hl
    simp only [f72, t72, Tr.val_test, Tr.val_fin, hl, qaY, r72_0, outR, Option.isSome_some, Option.isNone_some, if_true]
theorem qjs (lo hi a:Int):f72 (lo, hi, [a], ()) = some (wi lo hi a, ()):=by
  rw [qkc lo hi _ (by simp)]
  simp only [first, List.length, List.getD_cons_zero]
  by_cases h1:wi lo hi a = true
  · simp [h1]
  · simp [h1]
theorem ql0 (lo hi a b:Int):f72 (lo, hi, [a, b], ()) = some (wi lo hi a && wi lo hi b, ()):=by
  rw [qkc lo hi _ (by simp)]
  simp only [first, List.length, List.getD_cons_zero, List.getD_cons_succ]
  by_cases h1:wi lo hi a = true
  · by_cases h2:wi lo hi b = true
    · simp [h1, h2]
    · simp [h1, h2]
  · simp [h1]
theorem qqn (l:List Int) (h:l.length ≤ 1000000):l64_0 ((l, l, (0:Int), ()), ()) = some (.inl ((), ())):=by
  refine qaU (fun i=>((l, l, (i:Int), ()), ())) (n:=l.length) ?_ ?_ (qak (by omega))
  · intro i hi
    simp only [s64_0, t64_0, Tr.val_test, Tr.val_fin, Tr.val_stop, qae, qaH, Int.toNat_natCast, qaf (show i ≤ 9223372036854775806 by omega)]
    rw [if_pos (by simp; omega), if_pos (by simp; omega), if_pos (by simp; omega)]
    simp
  · simp [s64_0, t64_0, qae]
theorem qhQ (l:List Int) (h:l.length ≤ 1000000):f64 (l, l, ()) = some (true, ()):=by
  simp only [f64, t64, Tr.val_test, Tr.val_fin, Tr.val_stop, qqn l h, qaY, qaH, decide_true, Bool.not_true, Bool.false_eq_true, if_false, Option.isSome_some, if_true]
theorem wn64 {x:Int} (h1:-9223372036854775807 ≤ x) (h2:x ≤ 9223372036854775807):IntKind.wrap .i64 (0 - x) = -x:=by
  rw [← qa9, qaj (by omega) (by omega)]
  omega
theorem qov {bad:Nat → Bool} {n:Nat}:(first bad n 0).isSome = true ↔ ∃ i, i < n ∧ bad i = true:=by
  cases h:first bad n 0 with
  | none =>
    simp only [Option.isSome_none, Bool.false_eq_true, false_iff]
    rintro ⟨i, hi, hb⟩
    rw [qaP h i (by omega) (by omega)] at hb; cases hb
  | some k =>
    obtain ⟨_, h2, h3, _⟩:=first_some h
    simp only [Option.isSome_some, true_iff]
    exact ⟨k, by omega, h3⟩
theorem qiX {bad:Nat → Bool} {n:Nat}:(first bad n 0).isNone = true ↔ ∀ i, i < n → bad i = false:=by
  cases h:first bad n 0 with
  | none =>
    simp only [Option.isNone_none, true_iff]
    exact fun i hi=>qaP h i (by omega) (by omega)
  | some k =>
    obtain ⟨_, h2, h3, _⟩:=first_some h
    simp only [Option.isNone_some, Bool.false_eq_true, false_iff]
    intro hb
    rw [hb k (by omega)] at h3; cases h3
def qd3 (e:Nat → Int) (n:Nat):Int:=match first (fun i=>!decide (e i = 0)) n 0 with
  | some k=>e k
  | none=>0
theorem qjT {e:Nat → Int} {n:Nat} (h:qd3 e n = 0):∀ i, i < n → e i = 0:=by
  intro i hi
  unfold qd3 at h
  cases hf:first (fun i=>!decide (e i = 0)) n 0 with
  | none=>simpa using qaP hf i (by omega) (by omega)
  | some k =>
    rw [hf] at h
    obtain ⟨_, _, k3, _⟩:=first_some hf
    have h:e k = 0:=h
    simp [h] at k3
theorem qpZ {e:Nat → Int} {n:Nat} (h:∀ i, i < n → e i = 0):qd3 e n = 0:=by
  unfold qd3
  rw [qbd fun i _ hi=>by simp [h i (by omega)]]
theorem qeX (a b:Int):f73 ([a, b], ()) = some (qar [a, b], ()):=qiQ _ (by simp)
theorem qpC (a b c:Int):f73 ([a, b, c], ()) = some (qar [a, b, c], ()):=qiQ _ (by simp)
theorem nz2 {a b:Int} (h:qar [a, b] = 0):a = 0 ∧ b = 0:=by
  simp only [qar] at h
  by_cases ha:a = 0
  · rw [if_pos ha] at h
    by_cases hb:b = 0
    · exact ⟨ha, hb⟩
    · rw [if_neg hb] at h; exact absurd h hb
  · rw [if_neg ha] at h; exact absurd h ha
def acc (F:Nat → Int):Nat → Int
  | 0=>0
  | n + 1=>wrap64 (acc F n + F n)
theorem qm9 {F G:Nat → Int}:∀ {n:Nat}, (∀ i, i < n → F i = G i) → acc F n = acc G n
  | 0, _=>rfl
  | n + 1, h=>by simp only [acc]; rw [qm9 fun i hi=>h i (by omega), h n (by omega)]
theorem qp0 (F:Nat → Int):∀ n, wrap64 (acc F n) = acc F n
  | 0=>by show wrap64 0 = 0; decide
  | n + 1=>qhE _
theorem qny {F:Nat → Int} {n:Nat} (h:F n = 0):acc F (n + 1) = acc F n:=by
  simp only [acc, h, Int.add_zero]; exact qp0 F n
def sz (x:Int):Int:=if x < -x then -x else x
theorem qoq (x:Int) (h:-9223372036854775807 ≤ x) (h2:x ≤ 9223372036854775807):f86 (x, ()) = some (sz x, ()):=by
  simp only [f86, t86, Tr.val_fin, wn64 h h2, sz]
theorem f119_eq (x:Int) (h:-9223372036854775807 ≤ x) (h2:x ≤ 9223372036854775807):f119 (x, ()) = some (sz x, ()):=by
  simp only [f119, t119, Tr.val_fin, wn64 h h2, sz]
theorem qqe {x y:Int}:(!leF (sz x) y) = !wi (-y) y x:=by
  rw [qae]
  unfold wi sz
  by_cases hx:x < -x
  · rw [if_pos hx]
    by_cases h1:-x ≤ y
    · rw [dT h1, dT (show -y ≤ x by omega), dT (show x ≤ y by omega)]; rfl
    · rw [dF h1, dF (show ¬ -y ≤ x by omega)]; rfl
  · rw [if_neg hx]
    by_cases h1:x ≤ y
    · rw [dT h1, dT (show -y ≤ x by omega)]; rfl
    · rw [dF h1, Bool.and_false]
theorem qqx {x y:Int}:leF (sz x) y = wi (-y) y x:=by
  have:=qqe (x:=x) (y:=y)
  cases h1:leF (sz x) y <;> cases h2:wi (-y) y x <;> simp_all
theorem qhK (b x:Int) (h0:0 ≤ b) (h1:b ≤ 9223372036854775807):f126 (b, [x], ()) = some (!wi (-b) b x, ()):=by
  have e:=qjs (-b) b x
  simp only [f126, t126, Tr.val_test, Tr.val_fin, g72, wn64 (show -9223372036854775807 ≤ b by omega) h1, e, Option.isSome_some, Option.getD_some, if_true]
theorem qd7 (b:Bool) (e:Int):f74 (b, e, ()) = some (if b = true then e else 0, ()):=qok _
def pE (x:Int):Int:=if wi (-10000) 10000 x = true then 0 else 2
theorem pE_if (x:Int):(if (!wi (-10000) 10000 x) = true then (2:Int) else 0) = pE x:=by
  unfold pE
  cases wi (-10000) 10000 x <;> rfl
theorem qqi (b x:Int) (h0:0 ≤ b) (h1:b ≤ 9223372036854775807):f110 (b, [x], ()) = some (if (!wi (-b) b x) = true then (2:Int) else 0, ()):=by
  have e:=qhK b x h0 h1
  have e2:=qd7 (!wi (-b) b x) 2
  simp only [f110, t110, Tr.val_test, Tr.val_fin, g126, g74, e, e2, Option.isSome_some, Option.getD_some, if_true]
theorem qiA (lo hi x:Int):f40 (x, lo, hi, ()) = some (wi lo hi x, ()):=qps _
theorem qmW (d:Tys.data as127):f127 d = some (wrap64 (d.1.2.2.1 - d.1.2.1.1), ()):=by
  simp only [f127, t127, Tr.val_fin]
theorem qpE (l:List (Int×Int×Bool×Unit)) (h:l.length ≤ 100000):f22 (l, ()) = some (l, ()):=by
  simp only [f22, t22, Tr.val_test, Tr.val_fin, List.nil_append]
  rw [if_pos (by simp only [Bool.and_eq_true, qam]; omega)]
def el (l:List (Int×Int×Bool×Unit)) (i:Nat):Int×Int×Bool×Unit:=l.getD i (0, 0, false, ())
def sl (l:List (Int×Bool×Unit)) (i:Nat):Int×Bool×Unit:=l.getD i (0, false, ())
def eE (l:List (Int×Int×Bool×Unit)) (i:Nat):Int:=if (wi 1 1000 (el l i).1 && wi 1 1000 (el l i).2.1) = true then 0 else 2
theorem l89 (l:List (Int×Int×Bool×Unit)) (h:l.length ≤ 1000000):l89_0 ((l, (l.length:Int), (0:Int), ()), ()) = match first (fun i=>!decide (eE l i = 0)) l.length 0 with
    | some k=>some (.inr (((k:Int), eE l k, ()), ()))
    | none=>some (.inl ((), ())):=by
  refine qa1 (fun i=>((l, (l.length:Int), (i:Int), ()), ())) (fun i=>!decide (eE l i = 0)) (fun k=>(((k:Int), eE l k, ()), ())) (n:=l.length) ?_ ?_ (qak (by omega))
  · intro i hi
    have e1:=ql0 1 1000 (el l i).1 (el l i).2.1
    have e2:=qd7 (!(wi 1 1000 (el l i).1 && wi 1 1000 (el l i).2.1)) 2
    simp only [el] at e1 e2
    simp only [s89_0, t89_0, Tr.val_test, qae, qaH, Int.toNat_natCast, g72, g74, e1, e2, Option.isSome_some, Option.getD_some, if_true, qaf (show i ≤ 9223372036854775806 by omega)]
    rw [if_pos (by simp; omega), if_pos (by simp; omega)]
    simp only [eE, el]
    rcases Bool.eq_false_or_eq_true (wi 1 1000 (l.getD i (0, 0, false, ())).1 && wi 1 1000 (l.getD i (0, 0, false, ())).2.1) with hb | hb <;> simp only [hb] <;> rfl
  · simp [s89_0, t89_0, qae]
def cE (most:Nat) (n:Nat) (e:Nat → Int):Int×Int×Unit :=
  if n = 0 then (0, 10, ()) else if most < n then (0, 8, ()) else match first (fun i=>!decide (e i = 0)) n 0 with
    | some k=>((k:Int), e k, ())
    | none=>(0, 0, ())
def cS (l:List (Int×Int×Bool×Unit)):Int×Int×Unit:=cE 4 l.length (eE l)
theorem qoh (n m:Nat):f88 ((n:Int), (m:Int), ()) = some (if n = 0 then 10 else if m < n then 8 else 0, ()):=by
  have e1:=qd7 (decide ((n:Int) = 0)) 10
  have e2:=qd7 (!decide ((n:Int) ≤ (m:Int))) 8
  have e3:=qeX
  simp only [f88, t88, Tr.val_test, Tr.val_fin, qaH, qae, g74, g73, e1, e2, e3, Option.isSome_some, Option.getD_some, if_true]
  by_cases h0:n = 0
  · subst h0; simp [qar]
  · by_cases h1:m < n
    · rw [if_neg h0, if_pos h1, dF (show ¬ (n:Int) = 0 by omega), dF (show ¬ (n:Int) ≤ (m:Int) by omega)]; simp [qar]
    · rw [if_neg h0, if_neg h1, dF (show ¬ (n:Int) = 0 by omega), dT (show (n:Int) ≤ (m:Int) by omega)]; simp [qar]
theorem qpU (l:List (Int×Int×Bool×Unit)) (h:l.length ≤ 1000000):f21 (l, ()) = some (cS l):=by
  have e1:f88 ((l.length:Int), (4:Int), ()) = _:=qoh l.length 4
  have e2:=l89 l h
  simp only [f21, t21, Tr.val_test, Tr.val_fin, qaH, g88, e1, e2, Option.isSome_some, Option.getD_some, if_true, cS, cE, r89_0]
  by_cases h0:l.length = 0
  · simp only [if_pos h0]; rfl
  · simp only [if_neg h0]
    by_cases h1:4 < l.length
    · simp only [if_pos h1]; rfl
    · simp only [if_neg h1]
      cases first (fun i=>!decide (eE l i = 0)) l.length 0 with
      | none=>rfl
      | some k=>rfl
theorem l30 (l:List (Int×Int×Bool×Unit)) (h:l.length ≤ 1000000):l30_0 ((l, (0:Int), ()), ()) = match first (fun i=>!decide (eE l i = 0)) l.length 0 with
    | some k=>some (.inr (((k:Int), eE l k, ()), ()))
    | none=>some (.inl ((), ())):=by
  refine qa1 (fun i=>((l, (i:Int), ()), ())) (fun i=>!decide (eE l i = 0)) (fun k=>(((k:Int), eE l k, ()), ())) (n:=l.length) ?_ ?_ (qak (by omega))
  · intro i hi
    have e1:=qiA 1 1000 (el l i).1
    have e2:=qiA 1 1000 (el l i).2.1
    simp only [el] at e1 e2
    simp only [s30_0, t30_0, Tr.val_test, qae, qaH, Int.toNat_natCast, g40, e1, e2, Option.isSome_some, Option.getD_some, if_true, qaf (show i ≤ 9223372036854775806 by omega)]
    rw [if_pos (by simp; omega), if_pos (by simp; omega)]
    simp only [eE, el]
    rcases Bool.eq_false_or_eq_true (wi 1 1000 (l.getD i (0, 0, false, ())).1) with hb | hb <;> rcases Bool.eq_false_or_eq_true (wi 1 1000 (l.getD i (0, 0, false, ())).2.1) with hc | hc <;> simp only [hb, hc] <;> rfl
  · simp [s30_0, t30_0, qae]
theorem qpY (l:List (Int×Int×Bool×Unit)) (h:l.length ≤ 1000000):f30 (l, ()) = some (cS l):=by
  have e2:=l30 l h
  simp only [f30, t30, Tr.val_test, Tr.val_fin, qaH, qae, e2, Option.isSome_some, Option.getD_some, if_true, cS, cE, r30_0]
  by_cases h0:l.length = 0
  · rw [if_pos h0, if_pos (by simp [h0])]
  · rw [if_neg h0, if_neg (by simpa using h0)]
    by_cases h1:4 < l.length
    · rw [if_pos h1, if_pos (by simp; omega)]
    · rw [if_neg h1, if_neg (by simp; omega)]
      cases first (fun i=>!decide (eE l i = 0)) l.length 0 with
      | none=>rfl
      | some k=>rfl
theorem qmE {m n:Nat} {e:Nat → Int} (h:(cE m n e).2.1 = 0):0 < n ∧ n ≤ m ∧ ∀ i, i < n → e i = 0:=by
  unfold cE at h
  split at h
  · cases h
  · split at h
    · cases h
    · refine ⟨by omega, by omega, fun i hi=>?_⟩
      cases hf:first (fun i=>!decide (e i = 0)) n 0 with
      | none=>simpa using qaP hf i (by omega) (by omega)
      | some k =>
        rw [hf] at h
        obtain ⟨_, _, k3, _⟩:=first_some hf
        have h:e k = 0:=h
        simp [h] at k3
theorem qjI {l:List (Int×Int×Bool×Unit)} (h:(cS l).2.1 = 0):0 < l.length ∧ l.length ≤ 4 ∧ ∀ i, i < l.length → 1 ≤ (el l i).1 ∧ (el l i).1 ≤ 1000 ∧ 1 ≤ (el l i).2.1 ∧ (el l i).2.1 ≤ 1000:=by
  obtain ⟨h1, h2, h3⟩:=qmE h
  refine ⟨h1, h2, fun i hi=>?_⟩
  have:=h3 i hi
  unfold eE at this
  split at this
  · rename_i hw
    simp only [Bool.and_eq_true, wi_iff] at hw
    omega
  · cases this
end Go.Vm.Mo

namespace Go.Vm.Mo
open Go
set_option linter.unusedVariables false
set_option linter.unusedSimpArgs false
abbrev ELm:=Int×Int×Bool×Unit
abbrev FLo:=Int×Int×List (Int×Int×Bool×Unit)×Unit
def fl (l:List FLo) (i:Nat):FLo:=l.getD i (0, 0, [], ())
theorem qo7 (l:List FLo) {i:Nat} (h:i < l.length):l.take i++[((fl l i).1, (fl l i).2.1, (fl l i).2.2.1, ())] = l.take (i + 1):=by
  rw [List.take_add_one, List.getElem?_eq_getElem h]
  unfold fl
  rw [List.getD_eq_getElem?_getD, List.getElem?_eq_getElem h]
  rfl
def fewB (l:List FLo):Bool:=decide (l.length ≤ 7) && (first (fun i=>!decide ((fl l i).2.2.1.length ≤ 6)) l.length 0).isNone
theorem l42 (l:List FLo) (h:l.length ≤ 7):l42_0 (((0:Int), ()), (l, ()), ()) = match first (fun i=>!decide ((fl l i).2.2.1.length ≤ 6)) l.length 0 with
    | some _=>some (.inr ((false, ()), (l, ()), ()))
    | none=>some (.inl ((), (l, ()), ())):=by
  refine qa1 (fun i=>(((i:Int), ()), (l, ()), ())) (fun i=>!decide ((fl l i).2.2.1.length ≤ 6)) (fun _=>((false, ()), (l, ()), ())) (n:=l.length) ?_ ?_ (qak (by omega))
  · intro i hi
    have hh:l.getD i (0, 0, [], ()) = fl l i:=rfl
    simp only [s42_0, t42_0, Tr.val_test, Tr.val_fin, qae, Int.toNat_natCast, qaf (show i ≤ 9223372036854775806 by omega), hh]
    rw [if_pos (by simp; omega), if_pos (by simp; omega)]
    by_cases h6:(fl l i).2.2.1.length ≤ 6
    · rw [dT h6, dT (show (((fl l i).2.2.1.length:Nat):Int) ≤ 6 by omega)]
    · rw [dF h6, dF (show ¬ (((fl l i).2.2.1.length:Nat):Int) ≤ 6 by omega)]
  · simp [s42_0, t42_0, qae]
theorem qpT (l:List FLo):f42 ((l, ()), ()) = some (fewB l, ()):=by
  simp only [f42, t42, Tr.val_test, Tr.val_fin, qae, fewB]
  by_cases h7:l.length ≤ 7
  · rw [if_neg (by simp; omega), dT h7]
    have e:=l42 l h7
    cases hf:first (fun i=>!decide ((fl l i).2.2.1.length ≤ 6)) l.length 0 with
    | none=>rw [hf] at e; simp only [e, qaY, Option.isSome_some, if_true, Bool.false_eq_true, if_false, Option.isNone_none, Bool.and_self]
    | some k=>rw [hf] at e; simp only [e, r42_0, outR, qaY, Option.isSome_some, if_true, Option.isNone_some, Bool.and_false]
  · rw [if_pos (by simp; omega), dF h7]; rfl
theorem qnR {l:List FLo} (h:fewB l = true):l.length ≤ 7 ∧ ∀ i, i < l.length → (fl l i).2.2.1.length ≤ 6:=by
  simp only [fewB, Bool.and_eq_true, decide_eq_true_eq, qiX] at h
  exact ⟨h.1, fun i hi=>by simpa using h.2 i hi⟩
theorem l44 (l:List FLo) (h:l.length ≤ 1000) (hs:∀ i, i < l.length → (fl l i).2.2.1.length ≤ 1000):l44_0 (((0:Int), ()), (l, ()), (), ([], ()), ()) = some (.inl ((), (l, ()), (), (l, ()), ())):=by
  have key:=qaU (step:=s44_0) (st:=fun i=>(((i:Int), ()), (l, ()), (), (l.take i, ()), ())) (b:=((), (l, ()), (), (l.take l.length, ()), ())) (n:=l.length) (m:=rounds) ?_ ?_ (qak (by omega))
  · rw [List.take_length] at key; exact key
  · intro i hi
    have e1:=qpE (fl l i).2.2.1 (by have:=hs i hi; omega)
    have e2:=qo7 l hi
    have hh:l.getD i (0, 0, [], ()) = fl l i:=rfl
    simp only [s44_0, t44_0, Tr.val_test, Tr.val_fin, qae, Int.toNat_natCast, hh, g22, e1, e2, Option.isSome_some, Option.getD_some, if_true, qaf (show i ≤ 9223372036854775806 by omega)]
    rw [if_pos (by simp; omega), if_pos (by simp; omega), if_pos (by simp only [Bool.and_eq_true, qam, List.length_take]; omega)]
  · simp [s44_0, t44_0, qae]
theorem qqc (l:List FLo) (h:l.length ≤ 1000) (hs:∀ i, i < l.length → (fl l i).2.2.1.length ≤ 1000):f44 ((l, ()), ()) = some ((l, ()), ()):=by
  simp only [f44, t44, Tr.val_test, Tr.val_fin, l44 l h hs, b44_0, qbh, outB, if_true]
def fE (l:List FLo) (i:Nat):Int:=qar [if (wi 1 10000 (fl l i).1 && wi 1 1000 (fl l i).2.1) = true then 0 else 2, (cS (fl l i).2.2.1).2.1]
theorem l106 (l:List FLo) (h:l.length ≤ 1000) (hs:∀ i, i < l.length → (fl l i).2.2.1.length ≤ 1000):l106_0 ((l, (l.length:Int), (0:Int), ()), ()) = match first (fun i=>!decide (fE l i = 0)) l.length 0 with
    | some k=>some (.inr (((k:Int), fE l k, ()), ()))
    | none=>some (.inl ((), ())):=by
  refine qa1 (fun i=>((l, (l.length:Int), (i:Int), ()), ())) (fun i=>!decide (fE l i = 0)) (fun k=>(((k:Int), fE l k, ()), ())) (n:=l.length) ?_ ?_ (qak (by omega))
  · intro i hi
    have e1:=qjs 1 10000 (fl l i).1
    have e2:=qjs 1 1000 (fl l i).2.1
    have e3:=qpU (fl l i).2.2.1 (by have:=hs i hi; omega)
    have e4:f74 (true, (2:Int), ()) = some (2, ()):=qok _
    have e9:=fun b=>qd7 b 2
    have e42:=qeX
    have hh:l.getD i (0, 0, [], ()) = fl l i:=rfl
    simp only [s106_0, t106_0, Tr.val_test, hh, qae, qaH, Int.toNat_natCast, g72, g74, g73, g21, e1, e2, e3, e4, e9, e42, Option.isSome_some, Option.getD_some, if_true, qaf (show i ≤ 9223372036854775806 by omega)]
    rw [if_pos (by simp; omega), if_pos (by simp; omega)]
    simp only [fE]
    rcases Bool.eq_false_or_eq_true (wi 1 10000 (fl l i).1) with hb | hb <;> rcases Bool.eq_false_or_eq_true (wi 1 1000 (fl l i).2.1) with hc | hc <;> simp only [hb, hc, Bool.not_true, Bool.not_false, Bool.false_eq_true, if_true, if_false, Bool.and_self, Bool.and_false, Bool.false_and, Bool.and_true]
    all_goals split <;> simp_all
  · simp [s106_0, t106_0, qae]
def cF (l:List FLo):Int×Int×Unit:=cE 5 l.length (fE l)
theorem qon (l:List FLo) (h:l.length ≤ 1000) (hs:∀ i, i < l.length → (fl l i).2.2.1.length ≤ 1000):f43 ((l, ()), ()) = some (cF l):=by
  have e1:f88 ((l.length:Int), (5:Int), ()) = _:=qoh l.length 5
  have e2:=l106 l h hs
  simp only [f43, t43, Tr.val_test, Tr.val_fin, qaH, g88, e1, e2, Option.isSome_some, Option.getD_some, if_true, cF, cE, r106_0]
  by_cases h0:l.length = 0
  · simp only [if_pos h0]; rfl
  · simp only [if_neg h0]
    by_cases h1:5 < l.length
    · simp only [if_pos h1]; rfl
    · simp only [if_neg h1]
      cases first (fun i=>!decide (fE l i = 0)) l.length 0 with
      | none=>rfl
      | some k=>rfl
theorem qpv (l:List ELm) (h:l.length ≤ 1000000):f39 (l, ()) = some ((cS l).2.1, ()):=by
  simp only [f39, t39, Tr.val_test, Tr.val_fin, g30, qpY l h, Option.isSome_some, Option.getD_some, if_true]
theorem l49 (l:List FLo) (h:l.length ≤ 1000) (hs:∀ i, i < l.length → (fl l i).2.2.1.length ≤ 1000):l49_0 (((0:Int), ()), (l, ()), ()) = match first (fun i=>!decide (fE l i = 0)) l.length 0 with
    | some k=>some (.inr (((k:Int), fE l k, ()), (l, ()), ()))
    | none=>some (.inl ((), (l, ()), ())):=by
  refine qa1 (fun i=>(((i:Int), ()), (l, ()), ())) (fun i=>!decide (fE l i = 0)) (fun k=>(((k:Int), fE l k, ()), (l, ()), ())) (n:=l.length) ?_ ?_ (qak (by omega))
  · intro i hi
    have e1:=qiA 1 10000 (fl l i).1
    have e2:=qiA 1 1000 (fl l i).2.1
    have e3:=qpv (fl l i).2.2.1 (by have:=hs i hi; omega)
    have hh:l.getD i (0, 0, [], ()) = fl l i:=rfl
    simp only [s49_0, t49_0, Tr.val_test, Tr.val_fin, hh, qae, qaH, Int.toNat_natCast, g40, g39, e1, e2, e3, Option.isSome_some, Option.getD_some, if_true, qaf (show i ≤ 9223372036854775806 by omega)]
    rw [if_pos (by simp; omega), if_pos (by simp; omega)]
    simp only [fE]
    rcases Bool.eq_false_or_eq_true (wi 1 10000 (fl l i).1) with hb | hb <;> rcases Bool.eq_false_or_eq_true (wi 1 1000 (fl l i).2.1) with hc | hc <;> simp only [hb, hc, Bool.not_true, Bool.not_false, Bool.false_eq_true, if_true, if_false, Bool.and_self, Bool.and_false, Bool.false_and, Bool.and_true, qar]
    all_goals split <;> simp_all
  · simp [s49_0, t49_0, qae]
theorem qpO (l:List FLo) (h:l.length ≤ 1000) (hs:∀ i, i < l.length → (fl l i).2.2.1.length ≤ 1000):f49 ((l, ()), ()) = some (cF l):=by
  have e2:=l49 l h hs
  simp only [f49, t49, Tr.val_test, Tr.val_fin, qaH, qae, e2, Option.isSome_some, Option.getD_some, if_true, cF, cE, r49_0]
  by_cases h0:l.length = 0
  · rw [if_pos h0, if_pos (by simp [h0])]
  · rw [if_neg h0, if_neg (by simpa using h0)]
    by_cases h1:5 < l.length
    · rw [if_pos h1, if_pos (by simp; omega)]
    · rw [if_neg h1, if_neg (by simp; omega)]
      cases first (fun i=>!decide (fE l i = 0)) l.length 0 with
      | none=>rfl
      | some k=>rfl
theorem qej {l:List FLo} (h:(cF l).2.1 = 0):0 < l.length ∧ l.length ≤ 5 ∧ ∀ i, i < l.length → (1 ≤ (fl l i).1 ∧ (fl l i).1 ≤ 10000 ∧ 1 ≤ (fl l i).2.1 ∧ (fl l i).2.1 ≤ 1000) ∧ (cS (fl l i).2.2.1).2.1 = 0:=by
  obtain ⟨h1, h2, h3⟩:=qmE h
  refine ⟨h1, h2, fun i hi=>?_⟩
  have:=h3 i hi
  unfold fE at this
  obtain ⟨a, b⟩:=nz2 this
  refine ⟨?_, b⟩
  split at a
  · rename_i hw
    simp only [Bool.and_eq_true, wi_iff] at hw
    omega
  · cases a
def lst {α:Type} (F:Nat → α) (n:Nat):List α:=(List.range n).map F
theorem qbT {α:Type} (F:Nat → α) (n:Nat):lst F (n + 1) = lst F n++[F n]:=by simp [lst, List.range_succ]
theorem qbw {α:Type} (F:Nat → α) (n:Nat):(lst F n).length = n:=by simp [lst]
theorem qfZ {α:Type} (F:Nat → α) {n i:Nat} (d:α) (h:i < n):(lst F n).getD i d = F i:=by simp [lst, List.getD, h]
theorem qjt {i:Nat} (h:0 < i) (h2:i ≤ 9223372036854775806):wrap64 ((i:Int) - 1) = ((i - 1:Nat):Int):=by
  rw [qaj (by omega) (by omega)]; omega
theorem qk7 {n:Nat} (k:Int) (h:k * (n:Int) ≤ 281474976710656) (h2:(n:Int) ≤ 281474976710656):(decide ((0:Int) ≤ (n:Int)) && decide ((n:Int) ≤ (n:Int)) && decide (k * (n:Int) ≤ (281474976710656:Int)) && decide ((n:Int) ≤ (281474976710656:Int))) = true:=by
  simp only [Bool.and_eq_true, decide_eq_true_eq]; omega
theorem qoJ (l:List (Int×Int×Bool×Unit)) (h:l.length ≤ 1000000):f105 (l, ()) = some ((l, (0, List.replicate l.length ((0:Int), false, ()), ()), ()), ()):=by
  simp only [f105, t105, Tr.val_test, Tr.val_fin, Int.toNat_natCast]
  rw [if_pos (qk7 16 (by omega) (by omega)), if_pos (by rw [qbb, List.length_replicate])]
theorem qpH (l:List (Int×Int×Bool×Unit)) (h:l.length ≤ 1000000):f35 (l, ()) = some ((0, List.replicate l.length ((0:Int), false, ()), ()), ()):=by
  simp only [f35, t35, Tr.val_test, Tr.val_fin, Int.toNat_natCast]
  rw [if_pos (qk7 16 (by omega) (by omega)), if_pos (by rw [qbb, List.length_replicate])]
abbrev ELs:=Int×Int×Bool×Unit
abbrev SLs:=Int×Bool×Unit
def st (at_:Int) (s:SLs):Int:=wrap64 (at_ - s.1)
def hE (l:List ELs) (a:Int) (x:List SLs) (i:Nat):Int :=
  qar [pE (sl x i).1, if ((sl x i).2.1 && !(el l i).2.2.1 || (el l i).2.2.1 && !decide ((sl x i).1 = 0)) = true then 3 else 0,
    if (!(sl x i).2.1 && !wi (-(el l i).2.1) (el l i).2.1 (st a (sl x i))) = true then 22 else 0]
def cH (l:List ELs) (a:Int) (x:List SLs):Int×Int×Unit :=
  if pE a = 0 then if x.length = l.length then match first (fun i=>!decide (hE l a x i = 0)) l.length 0 with
    | some k=>((k:Int), hE l a x k, ())
    | none=>(0, 0, ())
  else (0, 10, ()) else (0, pE a, ())
def cSH (l:List ELs) (a:Int) (x:List SLs):Int×Int×Unit:=if (cS l).2.1 = 0 then cH l a x else cS l
theorem qnd {x:Int} (h:pE x = 0):-10000 ≤ x ∧ x ≤ 10000:=by
  unfold pE at h
  split at h
  · rename_i hw; exact wi_iff.1 hw
  · cases h
theorem pE_ne {x:Int} (h:pE x ≠ 0):pE x = 2:=by
  unfold pE at h ⊢
  split at h
  · exact absurd rfl h
  · rename_i hw; rw [if_neg hw]
theorem qma {l:List ELs} {a:Int} {x:List SLs} (h:(cH l a x).2.1 = 0):(-10000 ≤ a ∧ a ≤ 10000) ∧ x.length = l.length ∧ ∀ i, i < l.length → hE l a x i = 0:=by
  unfold cH at h
  split at h
  · rename_i hp
    split at h
    · rename_i hx
      refine ⟨qnd hp, hx, fun i hi=>?_⟩
      cases hf:first (fun i=>!decide (hE l a x i = 0)) l.length 0 with
      | none=>simpa using qaP hf i (by omega) (by omega)
      | some k =>
        rw [hf] at h
        obtain ⟨_, _, k3, _⟩:=first_some hf
        have h:hE l a x k = 0:=h
        simp [h] at k3
    · cases h
  · rename_i hp
    exact absurd h hp
theorem qm1 {l:List ELs} {a:Int} {x:List SLs} {i:Nat} (h:hE l a x i = 0):(-10000 ≤ (sl x i).1 ∧ (sl x i).1 ≤ 10000) ∧ ((sl x i).2.1 = false → wi (-(el l i).2.1) (el l i).2.1 (st a (sl x i)) = true) ∧
    ((el l i).2.2.1 = true → (sl x i).1 = 0) ∧ ((sl x i).2.1 = true → (el l i).2.2.1 = true):=by
  unfold hE qar at h
  by_cases h1:pE (sl x i).1 = 0
  · rw [if_pos h1] at h
    refine ⟨qnd h1, ?_⟩
    simp only [qar] at h
    rcases Bool.eq_false_or_eq_true (sl x i).2.1 with hb | hb <;> rcases Bool.eq_false_or_eq_true (el l i).2.2.1 with hc | hc <;> by_cases h0:(sl x i).1 = 0 <;> rcases Bool.eq_false_or_eq_true (wi (-(el l i).2.1) (el l i).2.1 (st a (sl x i))) with hw | hw <;> simp_all
  · rw [if_neg h1] at h; exact absurd h h1
end Go.Vm.Mo

namespace Go.Vm.Mo
open Go
set_option linter.unusedVariables false
set_option linter.unusedSimpArgs false
def FO (l:List ELs) (a:Int) (x:List SLs) (i:Nat):Int:=if (sl x i).2.1 = true then 0 else wrap64 ((el l i).1 * st a (sl x i))
theorem qoP (k y:Int) (br:Bool) (s:Int) (bk:Bool) (a:Int):f128 (((k, y, br, ()), (s, bk, ()), a, ()), ()) = some (if bk = true then 0 else wrap64 (k * wrap64 (a - s)), ()):=by
  have e42:f127 (((k, y, br, ()), (s, bk, ()), a, ()), ()) = some (wrap64 (a - s), ()):=qmW _
  simp only [f128, t128, Tr.val_test, Tr.val_fin, g127, e42, Option.isSome_some, Option.getD_some, if_true]
  cases bk <;> rfl
theorem qqy (l:List ELs) (a:Int) (x:List SLs) (h:x.length ≤ l.length) (hl:l.length ≤ 1000000) :
    l129_0 ((x, (x.length:Int), (0:Int), ()), (), (l, a, x, ()), (), ((0:Int), ()), ()) = some (.inl ((), (), (l, a, x, ()), (), (acc (FO l a x) x.length, ()), ())):=by
  refine qaU (fun i=>((x, (x.length:Int), (i:Int), ()), (), (l, a, x, ()), (), (acc (FO l a x) i, ()), ())) (n:=x.length) ?_ ?_ (qak (by omega))
  · intro i hi
    have hh:l.getD i (0, 0, false, ()) = el l i:=rfl
    have hk:x.getD i (0, false, ()) = sl x i:=rfl
    have e:=qoP (el l i).1 (el l i).2.1 (el l i).2.2.1 (sl x i).1 (sl x i).2.1 a
    simp only [s129_0, t129_0, Tr.val_test, Tr.val_fin, qae, Int.toNat_natCast, hh, hk, g128, e, Option.isSome_some, Option.getD_some, if_true, qaf (show i ≤ 9223372036854775806 by omega), acc]
    rw [if_pos (by simp; omega), if_pos (by simp; omega), if_pos (by simp; omega)]
    rfl
  · simp [s129_0, t129_0, qae]
theorem qpV (l:List ELs) (a:Int) (x:List SLs) (h:x.length ≤ l.length) (hl:l.length ≤ 1000000):f96 ((l, (a, x, ()), ()), ()) = some (acc (FO l a x) x.length, ()):=by
  simp only [f96, t96, Tr.val_test, Tr.val_fin, qqy l a x h hl, b129_0, qbh, outB, if_true]
theorem l33 (l:List ELs) (a:Int) (x:List SLs) (h:x.length = l.length) (hl:l.length ≤ 1000000):l33_0 ((l, (0:Int), (0:Int), ()), (a, x, ()), ()) = some (.inl ((acc (FO l a x) l.length, ()), (a, x, ()), ())):=by
  refine qaU (fun i=>((l, acc (FO l a x) i, (i:Int), ()), (a, x, ()), ())) (n:=l.length) ?_ ?_ (qak (by omega))
  · intro i hi
    have hh:l.getD i (0, 0, false, ()) = el l i:=rfl
    have hk:x.getD i (0, false, ()) = sl x i:=rfl
    simp only [s33_0, t33_0, Tr.val_test, Tr.val_fin, qae, Int.toNat_natCast, hh, hk, qaf (show i ≤ 9223372036854775806 by omega)]
    rw [if_pos (by simp; omega), if_pos (by simp; omega)]
    rcases Bool.eq_false_or_eq_true (sl x i).2.1 with hb | hb
    · rw [qny (F:=FO l a x) (by unfold FO; rw [if_pos hb])]
      rw [hb, if_neg (by simp)]
    · rw [hb, if_pos (by simp), if_pos (by simp; omega)]
      simp only [acc, FO, hb, Bool.false_eq_true, if_false]
      rfl
  · simp [s33_0, t33_0, qae]
theorem qod (l:List ELs) (a:Int) (x:List SLs) (h:x.length = l.length) (hl:l.length ≤ 1000000):f33 (l, (a, x, ()), ()) = some (acc (FO l a x) l.length, ()):=by
  simp only [f33, t33, Tr.val_test, Tr.val_fin, l33 l a x h hl, b33_0, qbh, outB, if_true]
theorem qkb {l:List ELs} {a:Int} {x:List SLs} (h:(cSH l a x).2.1 = 0):(cS l).2.1 = 0 ∧ (cH l a x).2.1 = 0:=by
  unfold cSH at h
  split at h
  · rename_i hc; exact ⟨hc, h⟩
  · rename_i hc; exact absurd h hc
def MV (l:List ELs) (x:List SLs) (a:Int) (i:Nat):SLs :=
  if (sl x i).2.1 = true then ((sl x i).1, (sl x i).2.1, ()) else if wi (-(el l i).2.1) (el l i).2.1 (st a (sl x i)) = true then ((sl x i).1, (sl x i).2.1, ())
  else if (el l i).2.2.1 = true then (0, true, ()) else if 0 < st a (sl x i) then (wrap64 (a - (el l i).2.1), (sl x i).2.1, ()) else (wrap64 (a + (el l i).2.1), (sl x i).2.1, ())
theorem qo2 (l:List ELs) (x:List SLs) (b a:Int) (i:Nat) (h0:0 ≤ (el l i).2.1) (h1:(el l i).2.1 ≤ 9223372036854775807) :
    f130 ((((el l i).1, (el l i).2.1, (el l i).2.2.1, ()), ((sl x i).1, (sl x i).2.1, ()), b, ()), a, ()) = some ((((el l i).1, (el l i).2.1, (el l i).2.2.1, ()), ((MV l x a i).1, (MV l x a i).2.1, ()), a, ()), ()):=by
  have e42:f127 ((((el l i).1, (el l i).2.1, (el l i).2.2.1, ()), ((sl x i).1, (sl x i).2.1, ()), a, ()), ()) = some (st a (sl x i), ()):=qmW _
  have e4:=qhK (el l i).2.1 (st a (sl x i)) h0 h1
  simp only [f130, t130, Tr.val_test, Tr.val_fin, qae, g127, g126, e42, e4, Option.isSome_some, Option.getD_some, if_true, MV]
  rcases Bool.eq_false_or_eq_true (sl x i).2.1 with hb | hb
  · simp only [hb, if_true]
  · rcases Bool.eq_false_or_eq_true (wi (-(el l i).2.1) (el l i).2.1 (st a (sl x i))) with hw | hw
    · simp only [hb, hw, Bool.false_eq_true, if_false, Bool.not_true, Bool.not_false, if_true]
    · rcases Bool.eq_false_or_eq_true (el l i).2.2.1 with hr | hr
      · simp only [hb, hw, hr, Bool.false_eq_true, if_false, Bool.not_true, Bool.not_false, if_true]
      · by_cases hp:0 < st a (sl x i)
        · simp only [hb, hw, hr, Bool.false_eq_true, if_false, Bool.not_true, Bool.not_false, if_true, if_pos hp, dF (show ¬ st a (sl x i) ≤ 0 by omega)]
        · simp only [hb, hw, hr, Bool.false_eq_true, if_false, Bool.not_true, Bool.not_false, if_true, if_neg hp, dT (show st a (sl x i) ≤ 0 by omega)]
theorem qqs (l:List ELs) (b:Int) (x:List SLs) (a:Int) (h:x.length ≤ l.length) (hl:l.length ≤ 100000) (hy:∀ i, i < l.length → 1 ≤ (el l i).2.1 ∧ (el l i).2.1 ≤ 1000) :
    l129_0_1 ((x, (x.length:Int), (0:Int), ()), (), (l, b, x, ()), (a, ()), (l, a, [], ()), ()) = some (.inl ((), (), (l, b, x, ()), (a, ()), (l, a, lst (MV l x a) x.length, ()), ())):=by
  refine qaU (fun i=>((x, (x.length:Int), (i:Int), ()), (), (l, b, x, ()), (a, ()), (l, a, lst (MV l x a) i, ()), ())) (n:=x.length) ?_ ?_ (qak (by omega))
  · intro i hi
    have hh:l.getD i (0, 0, false, ()) = el l i:=rfl
    have hk:x.getD i (0, false, ()) = sl x i:=rfl
    have y:=hy i (by omega)
    have e:=qo2 l x b a i (by omega) (by omega)
    rw [qbT]
    simp only [s129_0_1, t129_0_1, Tr.val_test, Tr.val_fin, qae, Int.toNat_natCast, hh, hk, g130, e, Option.isSome_some, Option.getD_some, if_true, qbw, qaf (show i ≤ 9223372036854775806 by omega)]
    rw [if_pos (by simp; omega), if_pos (by simp; omega), if_pos (by simp; omega), if_pos (by simp only [Bool.and_eq_true, qam]; omega)]
  · simp [s129_0_1, t129_0_1, qae]
theorem qoV (l:List ELs) (b:Int) (x:List SLs) (a:Int) (h:x.length ≤ l.length) (hl:l.length ≤ 100000) (hy:∀ i, i < l.length → 1 ≤ (el l i).2.1 ∧ (el l i).2.1 ≤ 1000) :
    f100 ((l, (b, x, ()), ()), a, ()) = some ((l, (a, lst (MV l x a) x.length, ()), ()), ()):=by
  simp only [f100, t100, Tr.val_test, Tr.val_fin, qqs l b x a h hl hy, b129_0_1, qbh, outB, if_true]
theorem l34 (l:List ELs) (b:Int) (x:List SLs) (a:Int) (h:x.length = l.length) (hl:l.length ≤ 100000) (ha:-10000 ≤ a ∧ a ≤ 10000) (hs:∀ i, i < l.length → -10000 ≤ (sl x i).1 ∧ (sl x i).1 ≤ 10000) :
    l34_0 ((l, a, (0:Int), ()), (b, x, ()), ((0:Int), ()), (a, [], ()), ()) = some (.inl ((), (b, x, ()), ((0:Int), ()), (a, lst (MV l x a) l.length, ()), ())):=by
  refine qaU (fun i=>((l, a, (i:Int), ()), (b, x, ()), ((0:Int), ()), (a, lst (MV l x a) i, ()), ())) (n:=l.length) ?_ ?_ (qak (by omega))
  · intro i hi
    have hh:l.getD i (0, 0, false, ()) = el l i:=rfl
    have hk:x.getD i (0, false, ()) = sl x i:=rfl
    have hst:wrap64 (a - (sl x i).1) = st a (sl x i):=rfl
    have hb1:=hs i hi
    have w:st a (sl x i) = a - (sl x i).1:=qaj (by omega) (by omega)
    have e:=qoq (st a (sl x i)) (by omega) (by omega)
    have hg:decide (sz (st a (sl x i)) ≤ (el l i).2.1) = wi (-(el l i).2.1) (el l i).2.1 (st a (sl x i)):=by rw [← qqx, qae]
    have hsz:(Nat.ble ((2 * (i + 1) + 192) * 16) 281474976710656 && Nat.ble (i + 1) 281474976710656) = true:=by simp only [Bool.and_eq_true, qam]; omega
    have hlt:(decide ((0:Int) ≤ (i:Int)) && decide ((i:Int) < (l.length:Int))) = true:=dA (by omega) (by omega)
    rw [qbT]
    simp only [s34_0, t34_0, Tr.val_test, Tr.val_fin, qae, Int.toNat_natCast, hh, hk, hst, g86, e, hg, hsz, hlt, Option.isSome_some, Option.getD_some, if_true, qbw, qaf (show i ≤ 9223372036854775806 by omega), MV]
    rw [if_pos (by simp; omega), if_pos (by simp; omega)]
    rcases Bool.eq_false_or_eq_true (sl x i).2.1 with hb | hb
    · simp only [hb, Bool.not_true, Bool.false_eq_true, if_false, if_true]
    · rcases Bool.eq_false_or_eq_true (wi (-(el l i).2.1) (el l i).2.1 (st a (sl x i))) with hw | hw
      · simp only [hb, hw, Bool.false_eq_true, if_false, Bool.not_true, Bool.not_false, if_true]
      · rcases Bool.eq_false_or_eq_true (el l i).2.2.1 with hr | hr
        · simp only [hb, hw, hr, Bool.false_eq_true, if_false, Bool.not_true, Bool.not_false, if_true]
        · by_cases hp:0 < st a (sl x i)
          · simp only [hb, hw, hr, Bool.false_eq_true, if_false, Bool.not_true, Bool.not_false, if_true, if_pos hp, dF (show ¬ st a (sl x i) ≤ 0 by omega)]
          · simp only [hb, hw, hr, Bool.false_eq_true, if_false, Bool.not_true, Bool.not_false, if_true, if_neg hp, dT (show st a (sl x i) ≤ 0 by omega)]
  · simp [s34_0, t34_0, qae]
theorem qpw (l:List ELs) (b:Int) (x:List SLs) (a:Int) (h:x.length = l.length) (hl:l.length ≤ 100000) (ha:-10000 ≤ a ∧ a ≤ 10000) (hs:∀ i, i < l.length → -10000 ≤ (sl x i).1 ∧ (sl x i).1 ≤ 10000) :
    f34 (l, (b, x, ()), a, ()) = some ((a, lst (MV l x a) l.length, ()), ()):=by
  simp only [f34, t34, Tr.val_test, Tr.val_fin, l34 l b x a h hl ha hs, b34_0, qbh, outB, if_true]
end Go.Vm.Mo

namespace Go.Vm.Mo
open Go
set_option linter.unusedVariables false
set_option linter.unusedSimpArgs false
abbrev HOs:=Int×List (Int×Bool×Unit)×Unit
def ho (hs:List HOs) (i:Nat):HOs:=hs.getD i (0, [], ())
def nv (x:List Int) (i:Nat):Int:=x.getD i 0
theorem qfX {A B C:Type} {step:A → Option (Out A B C)} (st:Nat → A) (bad:Nat → Bool) (r:Nat → C) {n m:Nat} {b:B}
    (h:∀ i, i < n → (∀ j, j < i → bad j = false) → step (st i) = if bad i = true then some (.ret (r i)) else some (.again (st (i + 1)))) (hb:(∀ j, j < n → bad j = false) → step (st n) = some (.brk b)) (hm:n < m) :
    itr step m (st 0) = match first bad n 0 with
      | some k=>some (.inr (r k))
      | none=>some (.inl b):=by
  cases e:first bad n 0 with
  | none =>
    have hn:=qaP e
    have hg:∀ j, j < n → bad j = false:=fun j hj=>hn j (by omega) (by omega)
    exact qaU st (fun i hi=>by rw [h i hi fun j hj=>hg j (by omega), hg i hi]; rfl) (hb hg) hm
  | some k =>
    obtain ⟨_, k2, k3, k4⟩:=first_some e
    have hk:k < n:=by omega
    have hg:∀ j, j < k → bad j = false:=fun j hj=>k4 j (by omega) (by omega)
    exact qmY (n:=k) st (fun i hi=>by rw [h i (by omega) fun j hj=>hg j (by omega), hg i hi]; rfl) (by rw [h k hk hg, k3]; rfl) (by omega)
theorem qof (x:List Int) (h:x.length ≤ 100000):f47 (x, ()) = some (x, ()):=by
  simp only [f47, t47, Tr.val_test, Tr.val_fin, List.nil_append]
  rw [if_pos (by simp only [Bool.and_eq_true, qam]; omega)]
theorem qpd (x:List Int) (h:x.length ≤ 100000) (h0:0 < x.length):f133 (x, ()) = some (x, ()):=by
  simp only [f133, t133, Tr.val_test, Tr.val_fin, List.nil_append]
  rw [if_neg (by rw [qbb]; omega), if_pos (by simp only [Bool.and_eq_true, qam]; omega)]
theorem take_ho (l:List HOs) {i:Nat} (h:i < l.length):l.take i++[((ho l i).1, (ho l i).2.1, ())] = l.take (i + 1):=by
  rw [List.take_add_one, List.getElem?_eq_getElem h]
  unfold ho
  rw [List.getD_eq_getElem?_getD, List.getElem?_eq_getElem h]
  rfl
theorem qnX (b x y:Int) (h0:0 ≤ b) (h1:b ≤ 9223372036854775807):f126 (b, [x, y], ()) = some (!(wi (-b) b x && wi (-b) b y), ()):=by
  have e:=ql0 (-b) b x y
  simp only [f126, t126, Tr.val_test, Tr.val_fin, g72, wn64 (show -9223372036854775807 ≤ b by omega) h1, e, Option.isSome_some, Option.getD_some, if_true]
theorem qqj (b x y:Int) (h0:0 ≤ b) (h1:b ≤ 9223372036854775807):f110 (b, [x, y], ()) = some (if (!(wi (-b) b x && wi (-b) b y)) = true then (2:Int) else 0, ()):=by
  have e:=qnX b x y h0 h1
  have e2:=qd7 (!(wi (-b) b x && wi (-b) b y)) 2
  simp only [f110, t110, Tr.val_test, Tr.val_fin, g126, g74, e, e2, Option.isSome_some, Option.getD_some, if_true]
def pv (x:List Int) (i:Nat):Int:=if i = 0 then 0 else nv x (i - 1)
def dr (x:List Int) (i:Nat):Int:=wrap64 (nv x i - pv x i)
theorem qjC (x:List Int) (i:Nat):pv x (i + 1) = nv x i:=rfl
def eS (l:List FLo) (nw bf:List Int) (hs:List HOs) (i:Nat):Int :=
  qar [if (!(wi (-10000) 10000 (nv nw i) && wi (-10000) 10000 (nv bf i))) = true then 2 else 0, (cSH (fl l i).2.2.1 (ho hs i).1 (ho hs i).2.1).2.1,
    if (!decide ((ho hs i).1 = dr nw i)) = true then 13 else 0, if (!wi (-(fl l i).2.1) (fl l i).2.1 (dr nw i)) = true then 22 else 0]
theorem qqh (a b c d:Int):f73 ([a, b, c, d], ()) = some (qar [a, b, c, d], ()):=qiQ _ (by simp)
def cT (l:List FLo) (nw bf:List Int) (hs:List HOs):Int×Int×Unit :=
  if nw.length = l.length ∧ bf.length = l.length ∧ hs.length = l.length then match first (fun i=>!decide (eS l nw bf hs i = 0)) l.length 0 with
    | some k=>((k:Int), eS l nw bf hs k, ())
    | none=>(0, 0, ())
  else (0, 10, ())
def cFT (l:List FLo) (nw bf:List Int) (hs:List HOs):Int×Int×Unit:=if (cF l).2.1 = 0 then cT l nw bf hs else cF l
theorem qnk {l:List FLo} {nw bf:List Int} {hs:List HOs} (h1:nw.length = l.length) (h2:bf.length = l.length) (h3:hs.length = l.length) :
    cT l nw bf hs = match first (fun i=>!decide (eS l nw bf hs i = 0)) l.length 0 with
    | some k=>((k:Int), eS l nw bf hs k, ())
    | none=>(0, 0, ()):=by unfold cT; rw [if_pos ⟨h1, h2, h3⟩]
theorem qqw {l:List FLo} {nw bf:List Int} {hs:List HOs} (h:¬ (nw.length = l.length ∧ bf.length = l.length ∧ hs.length = l.length)):cT l nw bf hs = (0, 10, ()):=by
  unfold cT; rw [if_neg h]
end Go.Vm.Mo

namespace Go.Vm.Mo
open Go
set_option linter.unusedVariables false
set_option linter.unusedSimpArgs false
theorem qmV (x:List Int) (i:Nat) (h:i < x.length) (h2:x.length ≤ 1000000):f122 (x, (i:Int), ()) = some (if i = 0 then nv x 0 else dr x i, ()):=by
  simp only [f122, t122, Tr.val_test, Tr.val_fin, qaH, Int.toNat_natCast]
  by_cases h0:i = 0
  · subst h0
    rw [if_pos (by simp), if_pos (by simp; omega), if_pos rfl]; rfl
  · have w:wrap64 ((i:Int) - 1) = ((i - 1:Nat):Int):=qjt (by omega) (by omega)
    rw [w]
    simp only [Int.toNat_natCast]
    rw [if_neg (by simp; omega), if_pos (by simp; omega), if_pos (by simp; omega), if_neg h0]
    unfold dr pv
    rw [if_neg h0]; rfl
theorem qh7 {l:List FLo} {nw bf:List Int} {hs:List HOs} {i:Nat} (h:eS l nw bf hs i = 0):(-10000 ≤ nv nw i ∧ nv nw i ≤ 10000) ∧ (-10000 ≤ nv bf i ∧ nv bf i ≤ 10000) ∧
    (cSH (fl l i).2.2.1 (ho hs i).1 (ho hs i).2.1).2.1 = 0 ∧ (ho hs i).1 = dr nw i ∧ -(fl l i).2.1 ≤ dr nw i ∧ dr nw i ≤ (fl l i).2.1:=by
  unfold eS at h
  by_cases h1:(wi (-10000) 10000 (nv nw i) && wi (-10000) 10000 (nv bf i)) = true
  · simp only [h1, Bool.not_true, Bool.false_eq_true, if_false, qar, if_true] at h
    by_cases h2:(cSH (fl l i).2.2.1 (ho hs i).1 (ho hs i).2.1).2.1 = 0
    · rw [if_pos h2] at h
      by_cases h3:(ho hs i).1 = dr nw i
      · simp only [dT h3, Bool.not_true, Bool.false_eq_true, if_false, if_true] at h
        by_cases h4:wi (-(fl l i).2.1) (fl l i).2.1 (dr nw i) = true
        · simp only [Bool.and_eq_true, wi_iff] at h1 h4
          exact ⟨h1.1, h1.2, h2, h3, h4⟩
        · simp [h4] at h
      · simp [dF h3] at h
    · rw [if_neg h2] at h; exact absurd h h2
  · simp only [Bool.not_eq_true] at h1
    simp [h1, qar] at h
def gE (g:Int):Int:=if (!wi (-100) 100 g) = true then 2 else 0
theorem qpl (g:Int):f120 (g, ()) = some (gE g, ()):=by
  have e:=qiA (-100) 100 g
  simp only [f120, t120, Tr.val_test, Tr.val_fin, g40, e, Option.isSome_some, Option.getD_some, if_true, gE]
  split <;> rfl
theorem qjm {g:Int} (h:gE g = 0):-100 ≤ g ∧ g ≤ 100:=by
  unfold gE at h
  rcases Bool.eq_false_or_eq_true (wi (-100) 100 g) with hw | hw
  · exact wi_iff.1 hw
  · rw [hw] at h; cases h
def sT (l:List FLo) (nw bf:List Int) (hs:List HOs) (e:Int):Int:=qar [(cFT l nw bf hs).2.1, e]
end Go.Vm.Mo

namespace Go.Vm.Mo
open Go
set_option linter.unusedVariables false
set_option linter.unusedSimpArgs false
theorem qpX {x y A B:Int} (h1:-A ≤ x) (h2:x ≤ A) (h3:-B ≤ y) (h4:y ≤ B):-(A * B) ≤ x * y ∧ x * y ≤ A * B:=by
  have a1:=Int.mul_nonneg (show 0 ≤ A - x by omega) (show 0 ≤ B + y by omega)
  have a2:=Int.mul_nonneg (show 0 ≤ A + x by omega) (show 0 ≤ B - y by omega)
  have a3:=Int.mul_nonneg (show 0 ≤ A - x by omega) (show 0 ≤ B - y by omega)
  have a4:=Int.mul_nonneg (show 0 ≤ A + x by omega) (show 0 ≤ B + y by omega)
  simp only [Int.sub_mul, Int.add_mul, Int.mul_sub, Int.mul_add] at a1 a2 a3 a4
  omega
def sm (F:Nat → Int):Nat → Int
  | 0=>0
  | n + 1=>sm F n + F n
theorem qoF {F:Nat → Int} {B:Int}:∀ {n:Nat}, (∀ i, i < n → -B ≤ F i ∧ F i ≤ B) → -((n:Int) * B) ≤ sm F n ∧ sm F n ≤ (n:Int) * B
  | 0, _=>by simp [sm]
  | n + 1, h=>by
    have e:=qoF (n:=n) fun i hi=>h i (by omega)
    have e2:=h n (by omega)
    have e3:((n + 1:Nat):Int) * B = (n:Int) * B + B:=by rw [Int.natCast_add, Int.add_mul]; simp
    simp only [sm, e3]
    omega
theorem qot {F:Nat → Int} {B:Int} (hB:0 ≤ B):∀ {n:Nat}, (∀ i, i < n → -B ≤ F i ∧ F i ≤ B) → (n:Int) * B ≤ 4611686018427387904 → acc F n = sm F n
  | 0, _, _=>rfl
  | n + 1, h, hn=>by
    have e3:((n + 1:Nat):Int) * B = (n:Int) * B + B:=by rw [Int.natCast_add, Int.add_mul]; simp
    rw [e3] at hn
    have e:=qot hB (n:=n) (fun i hi=>h i (by omega)) (by omega)
    have e2:=qoF (n:=n) fun i hi=>h i (by omega)
    have e4:=h n (by omega)
    simp only [acc, sm, e]
    exact qaj (by omega) (by omega)
structure VT (l:List FLo) (nw bf:List Int) (hs:List HOs):Prop where
  v:(cF l).2.1 = 0
  n1:nw.length = l.length
  n2:bf.length = l.length
  n3:hs.length = l.length
  e:∀ i, i < l.length → eS l nw bf hs i = 0
theorem VT_of {l:List FLo} {nw bf:List Int} {hs:List HOs} (h:(cFT l nw bf hs).2.1 = 0):VT l nw bf hs:=by
  unfold cFT at h
  split at h
  · rename_i hv
    by_cases hn:nw.length = l.length ∧ bf.length = l.length ∧ hs.length = l.length
    · rw [qnk hn.1 hn.2.1 hn.2.2] at h
      refine ⟨hv, hn.1, hn.2.1, hn.2.2, fun i hi=>?_⟩
      cases hf:first (fun i=>!decide (eS l nw bf hs i = 0)) l.length 0 with
      | none=>simpa using qaP hf i (by omega) (by omega)
      | some k =>
        rw [hf] at h
        obtain ⟨_, _, k3, _⟩:=first_some hf
        have h:eS l nw bf hs k = 0:=h
        simp [h] at k3
    · rw [qqw hn] at h; cases h
  · rename_i hv; exact absurd h hv
def sfo (l:List FLo) (hs:List HOs) (i:Nat):Int:=acc (FO (fl l i).2.2.1 (ho hs i).1 (ho hs i).2.1) (fl l i).2.2.1.length
def SF (l:List FLo) (hs:List HOs) (i:Nat):Int:=if i = l.length then 0 else sfo l hs i
def PU (l:List FLo) (hs:List HOs) (i:Nat):Int:=wrap64 (SF l hs (i + 1) - SF l hs i)
namespace VT
variable {l:List FLo} {nw bf:List Int} {hs:List HOs} (v:VT l nw bf hs)
include v
theorem few:0 < l.length ∧ l.length ≤ 5:=⟨(qej v.v).1, (qej v.v).2.1⟩
theorem fl_ok {i:Nat} (hi:i < l.length):(1 ≤ (fl l i).1 ∧ (fl l i).1 ≤ 10000 ∧ 1 ≤ (fl l i).2.1 ∧ (fl l i).2.1 ≤ 1000) ∧ (cS (fl l i).2.2.1).2.1 = 0:=(qej v.v).2.2 i hi
theorem cs_ok {i:Nat} (hi:i < l.length):0 < (fl l i).2.2.1.length ∧ (fl l i).2.2.1.length ≤ 4 ∧ ∀ k, k < (fl l i).2.2.1.length → 1 ≤ (el (fl l i).2.2.1 k).1 ∧ (el (fl l i).2.2.1 k).1 ≤ 1000 ∧ 1 ≤ (el (fl l i).2.2.1 k).2.1 ∧ (el (fl l i).2.2.1 k).2.1 ≤ 1000:=qjI (v.fl_ok hi).2
theorem ch_ok {i:Nat} (hi:i < l.length):(-10000 ≤ (ho hs i).1 ∧ (ho hs i).1 ≤ 10000) ∧ (ho hs i).2.1.length = (fl l i).2.2.1.length ∧ ∀ k, k < (fl l i).2.2.1.length → -10000 ≤ (sl (ho hs i).2.1 k).1 ∧ (sl (ho hs i).2.1 k).1 ≤ 10000:=by
  obtain ⟨h1, h2, h3⟩:=qma (qkb (qh7 (v.e i hi)).2.2.1).2
  exact ⟨h1, h2, fun k hk=>(qm1 (h3 k hk)).1⟩
theorem sfo_bd {i:Nat} (hi:i < l.length):-80000000 ≤ sfo l hs i ∧ sfo l hs i ≤ 80000000:=by
  obtain ⟨h1, h2, h3⟩:=v.ch_ok hi
  have hc:=v.cs_ok hi
  have hb:∀ k, k < (fl l i).2.2.1.length → -20000000 ≤ FO (fl l i).2.2.1 (ho hs i).1 (ho hs i).2.1 k ∧ FO (fl l i).2.2.1 (ho hs i).1 (ho hs i).2.1 k ≤ 20000000:=fun k hk=>by
    have b1:=h3 k hk
    have b2:=hc.2.2 k hk
    have w:st (ho hs i).1 (sl (ho hs i).2.1 k) = (ho hs i).1 - (sl (ho hs i).2.1 k).1:=qaj (by omega) (by omega)
    have m:=qpX (x:=(el (fl l i).2.2.1 k).1) (y:=(ho hs i).1 - (sl (ho hs i).2.1 k).1) (A:=1000) (B:=20000) (by omega) (by omega) (by omega) (by omega)
    unfold FO
    rw [w]
    split
    · omega
    · rw [qaj (by omega) (by omega)]; omega
  have e:=qot (B:=20000000) (by omega) hb (by omega)
  have e2:=qoF hb
  unfold sfo
  rw [e]
  omega
theorem SF_bd {i:Nat} (hi:i ≤ l.length):-80000000 ≤ SF l hs i ∧ SF l hs i ≤ 80000000:=by
  unfold SF
  split
  · omega
  · exact v.sfo_bd (by omega)
theorem PU_bd {i:Nat} (hi:i < l.length):PU l hs i = SF l hs (i + 1) - SF l hs i ∧ -160000000 ≤ PU l hs i ∧ PU l hs i ≤ 160000000:=by
  have a:=v.SF_bd (i:=i) (by omega)
  have b:=v.SF_bd (i:=i + 1) (by omega)
  have e:PU l hs i = SF l hs (i + 1) - SF l hs i:=qaj (by omega) (by omega)
  exact ⟨e, by omega, by omega⟩
end VT
theorem qmM (l:List FLo) (nw bf:List Int) (hs:List HOs) (i:Nat) (h:i < l.length) (h3:hs.length = l.length):f135 ((((l, ()), ()), (nw, bf, hs, ()), ()), (i:Int), ()) = some (((fl l i).2.2.1, ((ho hs i).1, (ho hs i).2.1, ()), ()), ()):=by
  have e3:hs.getD i (0, [], ()) = ho hs i:=rfl
  have e4:l.getD i (0, 0, [], ()) = fl l i:=rfl
  simp only [f135, t135, Tr.val_test, Tr.val_fin, Int.toNat_natCast, e3, e4]
  rw [if_pos (by simp; omega), if_pos (by simp; omega)]
theorem qmx (l:List FLo) (nw bf:List Int) (hs:List HOs) (v:VT l nw bf hs) (i:Nat) (h:i ≤ l.length):f139 ((((l, ()), ()), (nw, bf, hs, ()), ()), (i:Int), ()) = some (SF l hs i, ()):=by
  simp only [f139, t139, Tr.val_test, Tr.val_fin, qaH]
  by_cases hi:i = l.length
  · rw [if_pos (by simp; omega)]
    unfold SF
    rw [if_pos hi]
  · have hlt:i < l.length:=by omega
    have hc:=v.ch_ok hlt
    have hs4:=v.cs_ok hlt
    have e1:=qmM l nw bf hs i hlt v.n3
    have e2:=qpV (fl l i).2.2.1 (ho hs i).1 (ho hs i).2.1 (by omega) (by omega)
    rw [hc.2.1] at e2
    rw [if_neg (by simp; omega)]
    simp only [g135, e1, g96, e2, Option.isSome_some, Option.getD_some, if_true]
    unfold SF
    rw [if_neg hi]; rfl
theorem qho {x m:Int} (hm:1 ≤ m):(0 ≤ x.tmod m → x.tdiv m = x / m ∧ x.tmod m = x % m) ∧ (x.tmod m < 0 → x.tdiv m = x / m + 1 ∧ x.tmod m + m = x % m):=by
  have h1:=Int.tmod_add_mul_tdiv x m
  have h2:=Int.emod_add_mul_ediv x m
  have h3:=Int.emod_nonneg x (show m ≠ 0 by omega)
  have h4:=Int.emod_lt_of_pos x (show 0 < m by omega)
  have h5:-m < x.tmod m ∧ x.tmod m < m:=by
    by_cases hx:0 ≤ x
    · have a:=Int.tmod_nonneg m hx
      have b:=Int.tmod_lt_of_pos x (show 0 < m by omega)
      omega
    · have a:=Int.tmod_nonneg m (show 0 ≤ -x by omega)
      have b:=Int.tmod_lt_of_pos (-x) (show 0 < m by omega)
      rw [Int.neg_tmod] at a b
      omega
  refine ⟨fun h=>?_, fun h=>?_⟩
  · have hq:x.tdiv m = x / m:=by
      have e:m * x.tdiv m - m * (x / m) = x % m - x.tmod m:=by omega
      rw [← Int.mul_sub] at e
      have:x.tdiv m - x / m = 0:=by
        by_cases hp:0 < x.tdiv m - x / m
        · have:=Int.mul_le_mul_of_nonneg_left (show 1 ≤ x.tdiv m - x / m by omega) (show 0 ≤ m by omega); omega
        · by_cases hn:x.tdiv m - x / m < 0
          · have:=Int.mul_le_mul_of_nonneg_left (show x.tdiv m - x / m ≤ -1 by omega) (show 0 ≤ m by omega); omega
          · omega
      omega
    refine ⟨hq, ?_⟩
    rw [hq] at h1; omega
  · have hq:x.tdiv m = x / m + 1:=by
      have e:m * x.tdiv m - m * (x / m) = x % m - x.tmod m:=by omega
      rw [← Int.mul_sub] at e
      by_cases hp:1 < x.tdiv m - x / m
      · have:=Int.mul_le_mul_of_nonneg_left (show 2 ≤ x.tdiv m - x / m by omega) (show 0 ≤ m by omega); omega
      · by_cases hn:x.tdiv m - x / m < 1
        · have:=Int.mul_le_mul_of_nonneg_left (show x.tdiv m - x / m ≤ 0 by omega) (show 0 ≤ m by omega); omega
        · omega
    refine ⟨hq, ?_⟩
    rw [hq, Int.mul_add] at h1; omega
theorem qm2 {x m:Int} (hm:1 ≤ m) (B:Int) (h1:-B ≤ x) (h2:x ≤ B) (hB:0 ≤ B):-B ≤ x / m ∧ x / m ≤ B:=by
  have e:=Int.emod_add_mul_ediv x m
  have h3:=Int.emod_nonneg x (show m ≠ 0 by omega)
  have h4:=Int.emod_lt_of_pos x (show 0 < m by omega)
  constructor
  · by_cases h:-B ≤ x / m
    · exact h
    · have:=Int.mul_le_mul_of_nonneg_left (show x / m ≤ -B - 1 by omega) (show 0 ≤ m by omega)
      have h6:m * (-B - 1) = -(m * B) - m:=by rw [Int.mul_sub, Int.mul_neg, Int.mul_one]
      have h7:=Int.mul_le_mul_of_nonneg_right hm hB
      omega
  · by_cases h:x / m ≤ B
    · exact h
    · have:=Int.mul_le_mul_of_nonneg_left (show B + 1 ≤ x / m by omega) (show 0 ≤ m by omega)
      have h6:m * (B + 1) = m * B + m:=by rw [Int.mul_add, Int.mul_one]
      have h7:=Int.mul_le_mul_of_nonneg_right hm hB
      omega
theorem qoz (x m:Int) (hm:1 ≤ m) (h1:-1000000000000 ≤ x) (h2:x ≤ 1000000000000):f141 (x, m, ()) = some (x / m, ()):=by
  have t:=qho (x:=x) hm
  have b:=qm2 hm 1000000000000 h1 h2 (by omega)
  simp only [f141, t141, Tr.val_test, Tr.val_fin, qae]
  rw [if_neg (by simp; omega)]
  by_cases h:0 ≤ x.tmod m
  · have e:=(t.1 h).1
    rw [if_neg (by simp [h]), e, ← qa9, qaj (by omega) (by omega)]
  · have e:=(t.2 (by omega)).1
    rw [if_pos (by simp [h]), e, ← qa9, qaj (n:=x / m + 1) (by omega) (by omega), show x / m + 1 - 1 = x / m by omega, qaj (by omega) (by omega)]
theorem qoE (x m:Int) (hm:1 ≤ m) (hm2:m ≤ 1000000) (h1:-1000000000000 ≤ x) (h2:x ≤ 1000000000000):f140 (x, m, ()) = some (x / m, x % m, ()):=by
  have t:=qho (x:=x) hm
  have b:=qm2 hm 1000000000000 h1 h2 (by omega)
  have h3:=Int.emod_nonneg x (show m ≠ 0 by omega)
  have h4:=Int.emod_lt_of_pos x (show 0 < m by omega)
  have e0:=Int.emod_add_mul_ediv x m
  have e1:(x - x % m).tdiv m = x / m:=by
    rw [show x - x % m = m * (x / m) by omega, Int.mul_tdiv_cancel_left _ (by omega)]
  simp only [f140, t140, Tr.val_test, Tr.val_fin, qae]
  rw [if_neg (by simp; omega)]
  by_cases h:0 ≤ x.tmod m
  · have e:=(t.1 h).2
    rw [if_neg (by simp [h]), e, qaj (n:=x - x % m) (by omega) (by omega), e1, ← qa9, qaj (by omega) (by omega)]
  · have e:=(t.2 (by omega)).2
    rw [if_pos (by simp [h]), e, qaj (n:=x % m) (by omega) (by omega), qaj (n:=x - x % m) (by omega) (by omega), e1, ← qa9, qaj (by omega) (by omega)]
end Go.Vm.Mo

namespace Go.Vm.Mo
open Go
set_option linter.unusedVariables false
set_option linter.unusedSimpArgs false
def np (l:List FLo) (nw bf:List Int) (hs:List HOs) (g:Int) (i:Nat):Int:=wrap64 (wrap64 (wrap64 (wrap64 (2 * nv nw i) - nv bf i) + PU l hs i / (fl l i).1) - g)
def NP (l:List FLo) (nw bf:List Int) (hs:List HOs) (g:Int):List Int:=lst (np l nw bf hs g) l.length
theorem qnC {l:List FLo} {nw bf:List Int} {hs:List HOs} (v:VT l nw bf hs) {g:Int} (hg:-100 ≤ g ∧ g ≤ 100) {i:Nat} (hi:i < l.length):-170000000 ≤ np l nw bf hs g i ∧ np l nw bf hs g i ≤ 170000000:=by
  have a:=qh7 (v.e i hi)
  have b:=v.PU_bd hi
  have f:=(v.fl_ok hi).1
  have d:=qm2 (x:=PU l hs i) f.1 160000000 b.2.1 b.2.2 (by omega)
  unfold np
  rw [qaj (n:=2 * nv nw i) (by omega) (by omega), qaj (n:=2 * nv nw i - nv bf i) (by omega) (by omega), qaj (n:=2 * nv nw i - nv bf i + PU l hs i / (fl l i).1) (by omega) (by omega), qaj (by omega) (by omega)]
  omega
theorem qkC (l:List FLo) (nw bf:List Int) (hs:List HOs) (g:Int):(NP l nw bf hs g).length = l.length:=qbw _ _
theorem ql1 {l:List FLo} {nw bf:List Int} {hs:List HOs} {g:Int} {i:Nat} (hi:i < l.length):nv (NP l nw bf hs g) i = np l nw bf hs g i:=qfZ _ _ hi
theorem l93 (l:List FLo) (nw bf:List Int) (hs:List HOs) (v:VT l nw bf hs) (g:Int) (c:List Int) :
    l138_0 ((l, (l.length:Int), (0:Int), ()), (), (l, nw, bf, hs, ()), (g, ()), ([], c, ()), ()) = some (.inl ((), (), (l, nw, bf, hs, ()), (g, ()), (NP l nw bf hs g, c, ()), ())):=by
  have few:=v.few
  refine qaU (fun i=>((l, (l.length:Int), (i:Int), ()), (), (l, nw, bf, hs, ()), (g, ()), (lst (np l nw bf hs g) i, c, ()), ())) (n:=l.length) ?_ ?_ (qak (by omega))
  · intro i hi
    have e1:nw.getD i 0 = nv nw i:=rfl
    have e2:bf.getD i 0 = nv bf i:=rfl
    have e4:l.getD i (0, 0, [], ()) = fl l i:=rfl
    have f:=(v.fl_ok hi).1
    have b:=v.PU_bd hi
    have g1:=qmx l nw bf hs v i (by omega)
    have g2:=qmx l nw bf hs v (i + 1) (by omega)
    have g3:=qoE (PU l hs i) (fl l i).1 f.1 (by omega) (by omega) (by omega)
    have e9:wrap64 (SF l hs (i + 1) - SF l hs i) = PU l hs i:=rfl
    have n1:=v.n1
    have n2:=v.n2
    rw [qbT]
    simp only [s138_0, t138_0, Tr.val_test, Tr.val_fin, qae, Int.toNat_natCast, e1, e2, e4, qaf (show i ≤ 9223372036854775806 by omega), g139, g1, g2, e9, g140, g3, Option.isSome_some, Option.getD_some, if_true, qbw]
    rw [if_pos (by simp; omega), if_pos (by simp; omega), if_pos (by simp; omega), if_pos (by simp; omega), if_pos (by simp only [Bool.and_eq_true, qam]; omega)]
    rfl
  · simp [s138_0, t138_0, qae]; rfl
def bD (l:List FLo) (p:List Int) (i:Nat):Bool:=!wi (-(fl l i).2.1) (fl l i).2.1 (dr p i)
def MH (l:List FLo) (hs:List HOs) (p:List Int) (i:Nat):HOs:=(dr p i, lst (MV (fl l i).2.2.1 (ho hs i).2.1 (dr p i)) (fl l i).2.2.1.length, ())
theorem l871 (l:List FLo) (nw bf:List Int) (hs:List HOs) (v:VT l nw bf hs) (p c:List Int) (hp:p.length = l.length) :
    l136_0 (((0:Int), p, (p.length:Int), (0:Int), ()), (), (l, nw, bf, hs, ()), (), ((0:Int), ()), (p, c, [], ()), ()) = match first (bD l p) l.length 0 with
      | some k=>some (.inr ((), (), (l, nw, bf, hs, ()), (), ((k:Int), ()), (p, c, lst (MH l hs p) k, ()), ()))
      | none=>some (.inl ((), (), (l, nw, bf, hs, ()), (), ((0:Int), ()), (p, c, lst (MH l hs p) l.length, ()), ())):=by
  have few:=v.few
  refine qa1 (fun i=>((pv p i, p, (p.length:Int), (i:Int), ()), (), (l, nw, bf, hs, ()), (), ((0:Int), ()), (p, c, lst (MH l hs p) i, ()), ())) (bD l p)
    (fun k=>((), (), (l, nw, bf, hs, ()), (), ((k:Int), ()), (p, c, lst (MH l hs p) k, ()), ())) (n:=l.length) ?_ ?_ (qak (by omega))
  · intro i hi
    have e1:p.getD i 0 = nv p i:=rfl
    have e4:l.getD i (0, 0, [], ()) = fl l i:=rfl
    have e9:wrap64 (nv p i - pv p i) = dr p i:=rfl
    have f:=(v.fl_ok hi).1
    have hc:=v.cs_ok hi
    have hh:=v.ch_ok hi
    have g1:=qhK (fl l i).2.1 (dr p i) (by omega) (by omega)
    have g2:=qmM l nw bf hs i hi v.n3
    have g3:=qoV (fl l i).2.2.1 (ho hs i).1 (ho hs i).2.1 (dr p i) (by omega) (by omega) (fun k hk=>by have:=hc.2.2 k hk; omega)
    rw [hh.2.1] at g3
    have eB:(!wi (-(fl l i).2.1) (fl l i).2.1 (dr p i)) = bD l p i:=rfl
    rw [eB] at g1
    rw [qbT]
    simp only [s136_0, t136_0, Tr.val_test, Tr.val_fin, qae, Int.toNat_natCast, e1, e4, e9, g126, g1, g135, g2, g100, g3, qaf (show i ≤ 9223372036854775806 by omega), Option.isSome_some, Option.getD_some, if_true, qbw, qjC]
    rw [if_pos (by simp; omega), if_pos (by simp; omega), if_pos (by simp; omega)]
    rcases Bool.eq_false_or_eq_true (bD l p i) with hb | hb
    · rw [hb, if_pos rfl, if_pos rfl]
    · simp only [hb, Bool.false_eq_true, if_false]
      rw [if_pos (by simp only [Bool.and_eq_true, qam]; omega)]; rfl
  · simp [s136_0, t136_0, qae, hp]
theorem qpo (l:List FLo) (nw bf:List Int) (hs:List HOs) (v:VT l nw bf hs) (g:Int):f117 ((((l, ()), ()), (nw, bf, hs, ()), ()), g, ()) =
    some (match first (bD l (NP l nw bf hs g)) l.length 0 with
      | some k=>((((([], ()), ()), ([], [], [], ()), ()), (k:Int), ()):Tys.data rs117)
      | none=>((((l, ()), ()), (NP l nw bf hs g, nw, lst (MH l hs (NP l nw bf hs g)) l.length, ()), ()), (-1:Int), ())):=by
  have few:=v.few
  have n1:=v.n1
  have e1:=qpd nw (by omega) (by omega)
  have e2:=l93 l nw bf hs v g nw
  have e3:=l871 l nw bf hs v (NP l nw bf hs g) nw (qkC l nw bf hs g)
  simp only [f117, t117, Tr.val_test, Tr.val_fin, g133, e1, e2, b138_0, qbh, outB, Option.isSome_some, Option.getD_some, if_true]
  cases hf:first (bD l (NP l nw bf hs g)) l.length 0 with
  | none=>rw [hf] at e3; simp only [e3, b136_0, qaY, outB, Option.isSome_some, if_true, Bool.false_eq_true, if_false]
  | some k=>rw [hf] at e3; simp only [e3, r136_0, qaY, outR, Option.isSome_some, if_true]
end Go.Vm.Mo

namespace Go.Vm.Mo
open Go
set_option linter.unusedVariables false
set_option linter.unusedSimpArgs false
theorem qoQ (l:List FLo) (nw bf:List Int) (hs:List HOs) (v:VT l nw bf hs) (i:Nat) (h:i < l.length):f142 ((l, ()), (nw, bf, hs, ()), (i:Int), ()) = some (PU l hs i, ()):=by
  have few:=v.few
  have e3:∀ k, hs.getD k (0, [], ()) = ho hs k:=fun _=>rfl
  have e4:∀ k, l.getD k (0, 0, [], ()) = fl l k:=fun _=>rfl
  have n3:=v.n3
  have hc:=v.ch_ok h
  have hk:=v.cs_ok h
  have g1:=qod (fl l i).2.2.1 (ho hs i).1 (ho hs i).2.1 hc.2.1 (by omega)
  have g1:f33 ((fl l i).2.2.1, ((ho hs i).1, (ho hs i).2.1, ()), ()) = some (sfo l hs i, ()):=g1
  have w:wrap64 ((i:Int) + 1) = ((i + 1:Nat):Int):=qaf (show i ≤ 9223372036854775806 by omega)
  have s0:SF l hs i = sfo l hs i:=by unfold SF; rw [if_neg (by omega)]
  simp only [f142, t142, Tr.val_test, Tr.val_fin, qae, Int.toNat_natCast, e3, e4, g33, g1, Option.isSome_some, Option.getD_some, if_true, w]
  rw [if_pos (by simp; omega), if_pos (by simp; omega)]
  by_cases hi:i + 1 = l.length
  · rw [if_neg (by simp; omega)]
    unfold PU
    rw [s0, show SF l hs (i + 1) = 0 by unfold SF; rw [if_pos hi]]
    rw [qa9]
  · have h2:i + 1 < l.length:=by omega
    have hc2:=v.ch_ok h2
    have hk2:=v.cs_ok h2
    have g2:=qod (fl l (i + 1)).2.2.1 (ho hs (i + 1)).1 (ho hs (i + 1)).2.1 hc2.2.1 (by omega)
    have g2:f33 ((fl l (i + 1)).2.2.1, ((ho hs (i + 1)).1, (ho hs (i + 1)).2.1, ()), ()) = some (sfo l hs (i + 1), ()):=g2
    rw [if_pos (by simp; omega), if_pos (by simp; omega), if_pos (by simp; omega)]
    simp only [g2, Option.isSome_some, Option.getD_some, if_true]
    unfold PU
    rw [s0, show SF l hs (i + 1) = sfo l hs (i + 1) by unfold SF; rw [if_neg hi]]
    rw [← qa9, qif, show 0 - sfo l hs i + sfo l hs (i + 1) = sfo l hs (i + 1) - sfo l hs i by omega]
theorem l137 (l:List FLo) (nw bf:List Int) (hs:List HOs) (v:VT l nw bf hs) (g:Int) :
    l137_0 ((g, [], (0:Int), ()), (l, ()), (nw, bf, hs, ()), ()) = some (.inl ((NP l nw bf hs g, ()), (l, ()), (nw, bf, hs, ()), ())):=by
  have few:=v.few
  refine qaU (fun i=>((g, lst (np l nw bf hs g) i, (i:Int), ()), (l, ()), (nw, bf, hs, ()), ())) (n:=l.length) ?_ ?_ (qak (by omega))
  · intro i hi
    have e1:nw.getD i 0 = nv nw i:=rfl
    have e2:bf.getD i 0 = nv bf i:=rfl
    have e4:l.getD i (0, 0, [], ()) = fl l i:=rfl
    have f:=(v.fl_ok hi).1
    have b:=v.PU_bd hi
    have g1:=qoQ l nw bf hs v i hi
    have g3:=qoz (PU l hs i) (fl l i).1 f.1 (by omega) (by omega)
    have n1:=v.n1
    have n2:=v.n2
    rw [qbT]
    simp only [s137_0, t137_0, Tr.val_test, Tr.val_fin, qae, Int.toNat_natCast, e1, e2, e4, qaf (show i ≤ 9223372036854775806 by omega), g142, g1, g141, g3, Option.isSome_some, Option.getD_some, if_true, qbw]
    rw [if_pos (by simp; omega), if_pos (by simp; omega), if_pos (by simp; omega), if_pos (by simp; omega), if_pos (by simp only [Bool.and_eq_true, qam]; omega)]
    rfl
  · simp [s137_0, t137_0, qae]; rfl
theorem qoO (l:List FLo) (nw bf:List Int) (hs:List HOs) (v:VT l nw bf hs) (g:Int):f137 ((l, ()), (nw, bf, hs, ()), g, ()) = some (NP l nw bf hs g, ()):=by
  have e:=l137 l nw bf hs v g
  simp only [f137, t137, Tr.val_test, Tr.val_fin, e, b137_0, qbh, outB, if_true]
theorem qpA {l:List FLo} {nw bf:List Int} {hs:List HOs} (v:VT l nw bf hs) {g:Int} (hg:-100 ≤ g ∧ g ≤ 100) {i:Nat} (hi:i < l.length) :
    (if i = 0 then nv (NP l nw bf hs g) 0 else dr (NP l nw bf hs g) i) = dr (NP l nw bf hs g) i ∧ -400000000 ≤ dr (NP l nw bf hs g) i ∧ dr (NP l nw bf hs g) i ≤ 400000000:=by
  have b1:=qnC v hg hi
  have b0:=qnC v hg (i:=0) (by omega)
  have e1:=ql1 (nw:=nw) (bf:=bf) (hs:=hs) (g:=g) hi
  by_cases h0:i = 0
  · subst h0
    have:dr (NP l nw bf hs g) 0 = nv (NP l nw bf hs g) 0:=by
      unfold dr pv
      rw [if_pos rfl, Int.sub_zero, e1, qaj (by omega) (by omega)]
    rw [if_pos rfl, this, e1]
    exact ⟨rfl, by omega, by omega⟩
  · rw [if_neg h0]
    have b2:=qnC v hg (i:=i - 1) (by omega)
    have e2:=ql1 (l:=l) (nw:=nw) (bf:=bf) (hs:=hs) (g:=g) (i:=i - 1) (by omega)
    refine ⟨rfl, ?_⟩
    unfold dr pv
    rw [if_neg h0, e1, e2, qaj (by omega) (by omega)]
    omega
theorem l121 (l:List FLo) (nw bf:List Int) (hs:List HOs) (v:VT l nw bf hs) (g:Int) (hg:-100 ≤ g ∧ g ≤ 100) :
    l121_0 ((NP l nw bf hs g, (0:Int), ()), (l, ()), (nw, bf, hs, ()), (), (NP l nw bf hs g, nw, [], ()), ()) = match first (bD l (NP l nw bf hs g)) l.length 0 with
      | some k=>some (.inr (((k:Int), ()), (l, ()), (nw, bf, hs, ()), (), (NP l nw bf hs g, nw, lst (MH l hs (NP l nw bf hs g)) k, ()), ()))
      | none=>some (.inl ((), (l, ()), (nw, bf, hs, ()), (), (NP l nw bf hs g, nw, lst (MH l hs (NP l nw bf hs g)) l.length, ()), ())):=by
  have few:=v.few
  refine qa1 (fun i=>((NP l nw bf hs g, (i:Int), ()), (l, ()), (nw, bf, hs, ()), (), (NP l nw bf hs g, nw, lst (MH l hs (NP l nw bf hs g)) i, ()), ())) (bD l (NP l nw bf hs g))
    (fun k=>(((k:Int), ()), (l, ()), (nw, bf, hs, ()), (), (NP l nw bf hs g, nw, lst (MH l hs (NP l nw bf hs g)) k, ()), ())) (n:=l.length) ?_ ?_ (qak (by omega))
  · intro i hi
    have e3:hs.getD i (0, [], ()) = ho hs i:=rfl
    have e4:l.getD i (0, 0, [], ()) = fl l i:=rfl
    have f:=(v.fl_ok hi).1
    have hc:=v.cs_ok hi
    have hh:=v.ch_ok hi
    have n3:=v.n3
    have d:=qpA v hg hi
    have hl:=qkC l nw bf hs g
    have g1:=qmV (NP l nw bf hs g) i (by omega) (by omega)
    rw [d.1] at g1
    have g2:=qoq (dr (NP l nw bf hs g) i) (by omega) (by omega)
    have g3:=qqe (x:=dr (NP l nw bf hs g) i) (y:=(fl l i).2.1)
    rw [qae] at g3
    have eB:(!wi (-(fl l i).2.1) (fl l i).2.1 (dr (NP l nw bf hs g) i)) = bD l (NP l nw bf hs g) i:=rfl
    rw [eB] at g3
    rw [qbT]
    have hln:decide (((NP l nw bf hs g).length:Int) ≤ (i:Int)) = false:=dF (by omega)
    simp only [s121_0, t121_0, Tr.val_test, Tr.val_fin, qae, Int.toNat_natCast, e3, e4, g122, g1, g86, g2, g3, hln, qaf (show i ≤ 9223372036854775806 by omega), Option.isSome_some, Option.getD_some, if_true, qbw, Bool.not_false]
    rw [if_pos (by simp; omega)]
    rcases Bool.eq_false_or_eq_true (bD l (NP l nw bf hs g) i) with hb | hb
    · rw [hb, if_pos rfl, if_pos rfl]
    · have hw:wi (-(fl l i).2.1) (fl l i).2.1 (dr (NP l nw bf hs g) i) = true:=by
        have:=eB.trans hb
        simpa using this
      have hw:=wi_iff.1 hw
      have g4:=qpw (fl l i).2.2.1 (ho hs i).1 (ho hs i).2.1 (dr (NP l nw bf hs g) i) hh.2.1 (by omega) (by omega) hh.2.2
      simp only [hb, Bool.false_eq_true, if_false, g34, g4, Option.isSome_some, Option.getD_some, if_true]
      rw [if_pos (by simp; omega), if_pos (by simp only [Bool.and_eq_true, qam]; omega)]; rfl
  · simp [s121_0, t121_0, qae, qkC]
theorem qo8 (l:List FLo) (nw bf:List Int) (hs:List HOs) (v:VT l nw bf hs) (g:Int) (hg:-100 ≤ g ∧ g ≤ 100):f121 ((l, ()), (nw, bf, hs, ()), g, ()) =
    some (match first (bD l (NP l nw bf hs g)) l.length 0 with
      | some k=>((([], [], [], ()), (k:Int), ()):Tys.data rs121)
      | none=>((NP l nw bf hs g, nw, lst (MH l hs (NP l nw bf hs g)) l.length, ()), (-1:Int), ())):=by
  have few:=v.few
  have n1:=v.n1
  have e1:=qoO l nw bf hs v g
  have e2:=qof nw (by omega)
  have e3:=l121 l nw bf hs v g hg
  simp only [f121, t121, Tr.val_test, Tr.val_fin, g137, e1, g47, e2, Option.isSome_some, Option.getD_some, if_true]
  cases hf:first (bD l (NP l nw bf hs g)) l.length 0 with
  | none=>rw [hf] at e3; simp only [e3, b121_0, qaY, outB, Option.isSome_some, if_true, Bool.false_eq_true, if_false]
  | some k=>rw [hf] at e3; simp only [e3, r121_0, qaY, outR, Option.isSome_some, if_true]
theorem qn5 (a:Int) (l:List SLs) (h:l.length ≤ 1000000):f31 ((a, l, ()), (a, l, ()), ()) = some (true, ()):=by
  have key:l31_0 (((0:Int), ()), (a, l, ()), (a, l, ()), ()) = some (.inl ((), (a, l, ()), (a, l, ()), ())):=by
    refine qaU (fun i=>(((i:Int), ()), (a, l, ()), (a, l, ()), ())) (n:=l.length) ?_ ?_ (qak (by omega))
    · intro i hi
      simp only [s31_0, t31_0, Tr.val_test, Tr.val_fin, qae, Int.toNat_natCast, beq_self_eq_true, Bool.and_self, Bool.not_true, Bool.false_eq_true, if_false, qaf (show i ≤ 9223372036854775806 by omega)]
      rw [if_pos (by simp; omega), if_pos (by simp; omega), if_pos (by simp; omega)]
    · simp [s31_0, t31_0, qae]
  simp only [f31, t31, Tr.val_test, Tr.val_fin, key, qaY, qaH, decide_true, Bool.not_true, Bool.false_eq_true, if_false, Option.isSome_some, if_true]
theorem l50 (a b:List Int) (hs:List HOs) (h:hs.length ≤ 1000) (hh:∀ i, i < hs.length → (ho hs i).2.1.length ≤ 1000) :
    l50_0 (((0:Int), ()), (a, b, hs, ()), (a, b, hs, ()), ()) = some (.inl ((), (a, b, hs, ()), (a, b, hs, ()), ())):=by
  refine qaU (fun i=>(((i:Int), ()), (a, b, hs, ()), (a, b, hs, ()), ())) (n:=hs.length) ?_ ?_ (qak (by omega))
  · intro i hi
    have e3:hs.getD i (0, [], ()) = ho hs i:=rfl
    have e:=qn5 (ho hs i).1 (ho hs i).2.1 (by have:=hh i hi; omega)
    simp only [s50_0, t50_0, Tr.val_test, Tr.val_fin, qae, Int.toNat_natCast, e3, g31, e, Option.isSome_some, Option.getD_some, if_true, Bool.not_true, Bool.false_eq_true, if_false, qaf (show i ≤ 9223372036854775806 by omega)]
    rw [if_pos (by simp; omega), if_pos (by simp; omega), if_pos (by simp; omega)]
  · simp [s50_0, t50_0, qae]
theorem qnp (a b:List Int) (hs:List HOs) (h1:a.length ≤ 1000) (h2:b.length ≤ 1000) (h:hs.length ≤ 1000) (hh:∀ i, i < hs.length → (ho hs i).2.1.length ≤ 1000) :
    f50 ((a, b, hs, ()), (a, b, hs, ()), ()) = some (true, ()):=by
  have e1:=qhQ a (by omega)
  have e2:=qhQ b (by omega)
  have e3:=l50 a b hs h hh
  simp only [f50, t50, Tr.val_test, Tr.val_fin, g64, e1, e2, e3, qaY, qaH, decide_true, Bool.not_true, Bool.false_eq_true, if_false, Option.isSome_some, Option.getD_some, if_true]
end Go.Vm.Mo

namespace Go.Vm.Mo
open Go
set_option linter.unusedVariables false
set_option linter.unusedSimpArgs false
def mv (y:Int) (br:Bool) (s:Int) (bk:Bool) (b:Int):Int×Bool :=
  if bk = true then (s, true) else if -y ≤ b - s ∧ b - s ≤ y then (s, false) else if br = true then (0, true) else if 0 < b - s then (b - y, false) else (b + y, false)
def okE (k y:Int) (br:Bool) (s:Int) (bk:Bool) (a:Int):Prop :=
  (1 ≤ k ∧ k ≤ 1000) ∧ (1 ≤ y ∧ y ≤ 1000) ∧ (-10000 ≤ s ∧ s ≤ 10000) ∧ (-10000 ≤ a ∧ a ≤ 10000) ∧ (bk = false → -y ≤ a - s ∧ a - s ≤ y) ∧ (br = true → s = 0) ∧ (bk = true → br = true)
theorem qqo {k y:Int} {br:Bool} {s:Int} {bk:Bool} {a b:Int} (h:okE k y br s bk a) (hb:-10000 ≤ b ∧ b ≤ 10000):okE k y br (mv y br s bk b).1 (mv y br s bk b).2 b:=by
  obtain ⟨h1, h2, h3, h4, h5, h6, h7⟩:=h
  unfold mv
  cases bk with
  | true=>exact ⟨h1, h2, h3, hb, fun h=>(by cases h), h6, h7⟩
  | false =>
    have h5:=h5 rfl
    rw [if_neg (by simp)]
    by_cases hw:-y ≤ b - s ∧ b - s ≤ y
    · rw [if_pos hw]; exact ⟨h1, h2, h3, hb, fun _=>hw, h6, h7⟩
    · rw [if_neg hw]
      cases br with
      | true=>exact ⟨h1, h2, by simp, hb, fun h=>(by cases h), fun _=>rfl, fun _=>rfl⟩
      | false =>
        rw [if_neg (by simp)]
        by_cases hp:0 < b - s
        · rw [if_pos hp]
          exact ⟨h1, h2, ⟨by show -10000 ≤ b - y; omega, by show b - y ≤ 10000; omega⟩, hb, fun _=>⟨by show -y ≤ b - (b - y); omega, by show b - (b - y) ≤ y; omega⟩, fun h=>(by cases h), fun h=>(by cases h)⟩
        · rw [if_neg hp]
          exact ⟨h1, h2, ⟨by show -10000 ≤ b + y; omega, by show b + y ≤ 10000; omega⟩, hb, fun _=>⟨by show -y ≤ b - (b + y); omega, by show b - (b + y) ≤ y; omega⟩, fun h=>(by cases h), fun h=>(by cases h)⟩
abbrev okL (l:List ELs) (a:Int) (x:List SLs) (i:Nat):Prop:=okE (el l i).1 (el l i).2.1 (el l i).2.2.1 (sl x i).1 (sl x i).2.1 a
abbrev mvL (l:List ELs) (x:List SLs) (b:Int) (i:Nat):Int×Bool:=mv (el l i).2.1 (el l i).2.2.1 (sl x i).1 (sl x i).2.1 b
theorem qpy {l:List ELs} {a:Int} {x:List SLs} (h:(cS l).2.1 = 0) (h2:(cH l a x).2.1 = 0) {i:Nat} (hi:i < l.length):okL l a x i:=by
  have e1:=(qjI h).2.2 i hi
  obtain ⟨ha, hx, hh⟩:=qma h2
  obtain ⟨e2, e3, e4, e9⟩:=qm1 (hh i hi)
  refine ⟨by omega, by omega, e2, ha, fun hb=>?_, e4, e9⟩
  have:=wi_iff.1 (e3 hb)
  rw [show st a (sl x i) = a - (sl x i).1 from qaj (by omega) (by omega)] at this
  exact this
theorem qpP {x:Int} (h:-10000 ≤ x ∧ x ≤ 10000):pE x = 0:=by unfold pE; rw [if_pos (wi_iff.2 h)]
theorem qqq {l:List ELs} {a:Int} {x:List SLs} {i:Nat} (h:okL l a x i):hE l a x i = 0:=by
  obtain ⟨h1, h2, h3, h4, h5, h6, h7⟩:=h
  have w:st a (sl x i) = a - (sl x i).1:=qaj (by omega) (by omega)
  unfold hE
  rw [qpP h3, w]
  cases hb:(sl x i).2.1 with
  | true =>
    have hr:=h7 hb
    rw [hr, h6 hr]; rfl
  | false =>
    have hw:wi (-(el l i).2.1) (el l i).2.1 (a - (sl x i).1) = true:=wi_iff.2 (h5 hb)
    rw [hw]
    cases hr:(el l i).2.2.1 with
    | true=>rw [h6 hr]; rfl
    | false=>rfl
theorem qpN {l:List ELs} {a:Int} {x:List SLs} (ha:-10000 ≤ a ∧ a ≤ 10000) (hx:x.length = l.length) (h:∀ i, i < l.length → okL l a x i):cH l a x = (0, 0, ()):=by
  unfold cH
  rw [if_pos (qpP ha), if_pos hx, qbd fun i _ hi=>by simp [qqq (h i (by omega))]]
theorem qqt {l:List ELs} {a:Int} {x:List SLs} {i:Nat} (h:okL l a x i) {b:Int} (hb:-10000 ≤ b ∧ b ≤ 10000):MV l x b i = ((mvL l x b i).1, (mvL l x b i).2, ()):=by
  obtain ⟨h1, h2, h3, h4, h5, h6, h7⟩:=h
  have w:st b (sl x i) = b - (sl x i).1:=qaj (by omega) (by omega)
  unfold MV mvL mv
  rw [w]
  cases hk:(sl x i).2.1 with
  | true=>rfl
  | false =>
    simp only [Bool.false_eq_true, if_false, wi_iff]
    by_cases hw:-(el l i).2.1 ≤ b - (sl x i).1 ∧ b - (sl x i).1 ≤ (el l i).2.1
    · simp only [if_pos hw]
    · simp only [if_neg hw]
      by_cases hr:(el l i).2.2.1 = true
      · simp only [if_pos hr]
      · simp only [if_neg hr]
        by_cases hp:0 < b - (sl x i).1
        · simp only [if_pos hp]; rw [qaj (by omega) (by omega)]
        · simp only [if_neg hp]; rw [qaj (by omega) (by omega)]
theorem qoA {l:List ELs} {a:Int} {x:List SLs} (h:(cS l).2.1 = 0) (h2:(cH l a x).2.1 = 0) {b:Int} (hb:-10000 ≤ b ∧ b ≤ 10000):cH l b (lst (MV l x b) l.length) = (0, 0, ()):=by
  refine qpN hb (qbw _ _) fun i hi=>?_
  have hk:=qpy h h2 hi
  have e:sl (lst (MV l x b) l.length) i = ((mvL l x b i).1, (mvL l x b i).2, ()):=by
    rw [← qqt hk hb]
    exact qfZ _ _ hi
  unfold okL
  rw [e]
  exact qqo hk hb
def s0 (l:List ELs):List SLs:=List.replicate l.length ((0:Int), false, ())
theorem qpL (l:List ELs):(s0 l).length = l.length:=by simp [s0]
theorem qpJ (l:List ELs) (i:Nat):sl (s0 l) i = ((0:Int), false, ()):=by
  unfold sl s0
  simp [List.getD, List.getElem?_replicate]
  split <;> rfl
theorem qqu {l:List ELs} (h:(cS l).2.1 = 0):cH l 0 (s0 l) = (0, 0, ()):=by
  refine qpN ⟨by omega, by omega⟩ (qpL l) fun i hi=>?_
  have e1:=(qjI h).2.2 i hi
  unfold okL okE
  rw [qpJ]
  exact ⟨by omega, by omega, by simp, by simp, fun _=>by simp; omega, fun _=>rfl, fun h=>by cases h⟩
theorem qpt {l:List FLo} {nw bf:List Int} {hs:List HOs} {i:Nat} (h1:-10000 ≤ nv nw i ∧ nv nw i ≤ 10000) (h2:-10000 ≤ nv bf i ∧ nv bf i ≤ 10000)
    (h3:(cSH (fl l i).2.2.1 (ho hs i).1 (ho hs i).2.1).2.1 = 0) (h4:(ho hs i).1 = dr nw i) (h5:-(fl l i).2.1 ≤ dr nw i ∧ dr nw i ≤ (fl l i).2.1):eS l nw bf hs i = 0:=by
  have w1:=wi_iff.2 h1
  have w2:=wi_iff.2 h2
  have w5:=wi_iff.2 h5
  unfold eS
  rw [w1, w2, h3, w5, dT h4]; rfl
theorem qpK {l:List FLo} {nw bf:List Int} {hs:List HOs} (v:VT l nw bf hs):cFT l nw bf hs = (0, 0, ()):=by
  unfold cFT
  rw [if_pos v.v, qnk v.n1 v.n2 v.n3, qbd fun i _ hi=>by simp [v.e i (by omega)]]
theorem cT_of {l:List FLo} {nw bf:List Int} {hs:List HOs} (v:VT l nw bf hs):cT l nw bf hs = (0, 0, ()):=by
  rw [qnk v.n1 v.n2 v.n3, qbd fun i _ hi=>by simp [v.e i (by omega)]]
theorem sT_zero {l:List FLo} {nw bf:List Int} {hs:List HOs} (v:VT l nw bf hs) {g:Int} (hg:gE g = 0):sT l nw bf hs (gE g) = 0:=by
  unfold sT
  rw [qpK v, hg]; rfl
abbrev STt:=List Int×List Int×List HOs
def S0 (l:List FLo):STt:=(List.replicate l.length 0, List.replicate l.length 0, lst (fun i=>((0:Int), s0 (fl l i).2.2.1, ())) l.length)
def nP (l:List FLo) (s:STt) (g:Int):List Int:=NP l s.1 s.2.1 s.2.2 g
def nxt (l:List FLo) (s:STt) (g:Int):STt:=(nP l s g, s.1, lst (MH l s.2.2 (nP l s g)) l.length)
def bad1 (l:List FLo) (s:STt) (g:Int):Option Nat:=first (bD l (nP l s g)) l.length 0
def Sq (l:List FLo) (m:List Int):Nat → STt
  | 0=>S0 l
  | i + 1=>nxt l (Sq l m i) (nv m i)
abbrev VS (l:List FLo) (s:STt):Prop:=VT l s.1 s.2.1 s.2.2
theorem qmT (n i:Nat):nv (List.replicate n 0) i = 0:=by
  unfold nv
  simp [List.getD, List.getElem?_replicate]
  split <;> rfl
theorem VS0 {l:List FLo} (h:(cF l).2.1 = 0):VS l (S0 l):=by
  refine ⟨h, by simp [S0], by simp [S0], by simp [S0, qbw], fun i hi=>?_⟩
  have hz:=(qej h).2.2 i hi
  have e:ho (S0 l).2.2 i = ((0:Int), s0 (fl l i).2.2.1, ()):=qfZ _ _ hi
  have hd:dr (S0 l).1 i = 0:=by
    unfold dr pv S0
    simp only [qmT]
    split <;> rfl
  refine qpt (by show -10000 ≤ nv (List.replicate _ 0) i ∧ nv (List.replicate _ 0) i ≤ 10000; rw [qmT]; omega) (by show -10000 ≤ nv (List.replicate _ 0) i ∧ nv (List.replicate _ 0) i ≤ 10000; rw [qmT]; omega) ?_ ?_ ?_
  · rw [e]; unfold cSH; rw [if_pos hz.2]; show (cH _ 0 (s0 _)).2.1 = 0; rw [qqu hz.2]
  · rw [e, hd]
  · rw [hd]; omega
theorem qpj {l:List FLo} {s:STt} (v:VS l s) {g:Int} (hg:-100 ≤ g ∧ g ≤ 100) (hn:bad1 l s g = none):VS l (nxt l s g):=by
  have few:=v.few
  have hb:∀ i, i < l.length → -(fl l i).2.1 ≤ dr (nP l s g) i ∧ dr (nP l s g) i ≤ (fl l i).2.1:=fun i hi=>by
    have:=qaP hn i (by omega) (by omega)
    unfold bD at this
    exact wi_iff.1 (by simpa using this)
  have hp:∀ i, i < l.length → -(1000 * ((i:Int) + 1)) ≤ nv (nP l s g) i ∧ nv (nP l s g) i ≤ 1000 * ((i:Int) + 1):=by
    intro i
    induction i with
    | zero =>
      intro hi
      have b:=hb 0 hi
      have f:=(v.fl_ok hi).1
      have d:nv (nP l s g) 0 = dr (nP l s g) 0:=(qpA v hg hi).1
      rw [d]
      omega
    | succ i ih =>
      intro hi
      have h1:=ih (by omega)
      have b:=hb (i + 1) hi
      have f:=(v.fl_ok hi).1
      have b1:=qnC v hg hi
      have e1:nv (nP l s g) (i + 1) = np l s.1 s.2.1 s.2.2 g (i + 1):=ql1 hi
      unfold dr at b
      rw [qjC, e1, qaj (by omega) (by omega)] at b
      rw [e1]
      omega
  refine ⟨v.v, qkC _ _ _ _ _, v.n1, qbw _ _, fun i hi=>?_⟩
  have e:ho (nxt l s g).2.2 i = MH l s.2.2 (nP l s g) i:=qfZ _ _ hi
  have h1:=hp i hi
  have a:=qh7 (v.e i hi)
  have f:=v.fl_ok hi
  have b:=hb i hi
  refine qpt (by show -10000 ≤ nv (nP l s g) i ∧ nv (nP l s g) i ≤ 10000; omega) a.1 ?_ (by rw [e]; rfl) b
  rw [e]
  unfold cSH
  rw [if_pos f.2]
  show (cH _ (dr (nP l s g) i) (lst _ _)).2.1 = 0
  rw [qoA f.2 (qkb a.2.2.1).2 (by omega)]
theorem VSq {l:List FLo} (h:(cF l).2.1 = 0) (m:List Int) (hm:∀ i, i < m.length → gE (nv m i) = 0):∀ i, i ≤ m.length → (∀ j, j < i → bad1 l (Sq l m j) (nv m j) = none) → VS l (Sq l m i)
  | 0, _, _=>VS0 h
  | i + 1, hi, hj=>qpj (VSq h m hm i (by omega) fun j hj2=>hj j (by omega)) (qjm (hm i (by omega))) (hj i (by omega))
end Go.Vm.Mo

namespace Go.Vm.Mo
open Go
set_option linter.unusedVariables false
set_option linter.unusedSimpArgs false
def Tq (l:List FLo) (m:List Int) (i:Nat):List Int×List Int×List HOs×Unit:=((Sq l m i).1, (Sq l m i).2.1, (Sq l m i).2.2, ())
theorem qnr (b:Int) (l:List Int) (h0:0 ≤ b) (h1:b ≤ 9223372036854775807) (h:l.length ≤ 1000000) (hw:∀ i, i < l.length → wi (-b) b (l.getD i 0) = true):f110 (b, l, ()) = some (0, ()):=by
  have e:=qkc (-b) b l (by omega)
  rw [qbd fun i _ hi=>by simp only [hw i (by omega), Bool.not_true]] at e
  have e3:f126 (b, l, ()) = some (false, ()):=by
    simp only [f126, t126, Tr.val_test, Tr.val_fin, g72, wn64 (show -9223372036854775807 ≤ b by omega) h1, e, Option.isSome_some, Option.getD_some, if_true, Option.isNone_none, Bool.not_true]
  have e2:=qd7 false 2
  simp only [f110, t110, Tr.val_test, Tr.val_fin, g126, g74, e3, e2, Option.isSome_some, Option.getD_some, if_true, Bool.false_eq_true, if_false]
theorem qp5 (l:List FLo) (h:l.length ≤ 1000) (hs:∀ i, i < l.length → (fl l i).2.2.1.length ≤ 1000):f60 ((l, ()), ()) = some ((cF l).2.1, ()):=by
  have e:=qpO l h hs
  simp only [f60, t60, Tr.val_test, Tr.val_fin, g49, e, Option.isSome_some, Option.getD_some, if_true]
theorem l61 (m:List Int) (h:m.length ≤ 1000000):l61_0 ((m, (0:Int), ()), ()) = match first (fun i=>!decide (gE (nv m i) = 0)) m.length 0 with
    | some k=>some (.inr ((gE (nv m k), ()), ()))
    | none=>some (.inl ((), ())):=by
  refine qa1 (fun i=>((m, (i:Int), ()), ())) (fun i=>!decide (gE (nv m i) = 0)) (fun k=>((gE (nv m k), ()), ())) (n:=m.length) ?_ ?_ (qak (by omega))
  · intro i hi
    have hh:m.getD i 0 = nv m i:=rfl
    have e:=qpl (nv m i)
    simp only [s61_0, t61_0, Tr.val_test, Tr.val_fin, qae, qaH, Int.toNat_natCast, hh, g120, e, Option.isSome_some, Option.getD_some, if_true, qaf (show i ≤ 9223372036854775806 by omega)]
    rw [if_pos (by simp; omega), if_pos (by simp; omega)]
  · simp [s61_0, t61_0, qae]
def mE (m:List Int):Int:=if m.length ≤ 60 then qd3 (fun i=>gE (nv m i)) m.length else 8
theorem qpQ (m:List Int) (h:m.length ≤ 1000000):f61 (m, ()) = some (mE m, ()):=by
  have e:=l61 m h
  simp only [f61, t61, Tr.val_test, Tr.val_fin, qae, mE]
  by_cases h6:m.length ≤ 60
  · rw [if_neg (by simp; omega), if_pos h6]
    unfold qd3
    cases hf:first (fun i=>!decide (gE (nv m i) = 0)) m.length 0 with
    | none=>rw [hf] at e; simp only [e, qaY, Option.isSome_some, if_true, Bool.false_eq_true, if_false]
    | some k=>rw [hf] at e; simp only [e, r61_0, outR, qaY, Option.isSome_some, if_true]
  · rw [if_pos (by simp; omega), if_neg h6]
theorem qoM {m:List Int} (h:mE m = 0):m.length ≤ 60 ∧ ∀ i, i < m.length → gE (nv m i) = 0:=by
  unfold mE at h
  split at h
  · rename_i h6; exact ⟨h6, qjT h⟩
  · cases h
theorem qqz {g:Int} (h:gE g = 0):wi (-100) 100 g = true:=wi_iff.2 (qjm h)
theorem qoT (m:List Int) (h:m.length ≤ 60) (hm:∀ i, i < m.length → gE (nv m i) = 0):f116 (m, ()) = some (0, ()):=by
  have e1:=qd7 (!decide ((m.length:Int) ≤ 60)) 8
  have e2:=qnr 100 m (by omega) (by omega) (by omega) fun i hi=>qqz (hm i hi)
  have e3:=qeX 0 0
  simp only [f116, t116, Tr.val_test, Tr.val_fin, qae, g74, e1, g110, e2, Option.isSome_some, Option.getD_some, if_true, dT (show (m.length:Int) ≤ 60 by omega), Bool.not_true, Bool.false_eq_true, if_false, g73, e3]
  rfl
theorem qph (l:List ELs) (h:l.length ≤ 1000000):f105 (l, ()) = some ((l, (0, s0 l, ()), ()), ()):=qoJ l h
theorem l113 (l:List FLo) (h:l.length ≤ 1000) (hs:∀ i, i < l.length → (fl l i).2.2.1.length ≤ 1000) (n c n' c':Nat) (a b:List Int) :
    l113_0 ((l, (l.length:Int), (0:Int), ()), (l, ()), (), ((n, c), (n', c'), [], ()), a, b, ()) = some (.inl ((), (l, ()), (), ((n, c), (n', c'), (S0 l).2.2, ()), a, b, ())):=by
  refine qaU (fun i=>((l, (l.length:Int), (i:Int), ()), (l, ()), (), ((n, c), (n', c'), lst (fun i=>((0:Int), s0 (fl l i).2.2.1, ())) i, ()), a, b, ())) (n:=l.length) ?_ ?_ (qak (by omega))
  · intro i hi
    have e4:l.getD i (0, 0, [], ()) = fl l i:=rfl
    have e:=qph (fl l i).2.2.1 (by have:=hs i hi; omega)
    rw [qbT]
    simp only [s113_0, t113_0, Tr.val_test, Tr.val_fin, qae, Int.toNat_natCast, e4, g105, e, Option.isSome_some, Option.getD_some, if_true, qbw, qaf (show i ≤ 9223372036854775806 by omega)]
    rw [if_pos (by simp; omega), if_pos (by simp; omega), if_pos (by simp only [Bool.and_eq_true, qam]; omega)]
  · simp [s113_0, t113_0, qae]; rfl
theorem qo5 (l:List FLo) (h:l.length ≤ 1000) (hs:∀ i, i < l.length → (fl l i).2.2.1.length ≤ 1000):f113 (((l, ()), ()), ()) = some ((((l, ()), ()), ((S0 l).1, (S0 l).2.1, (S0 l).2.2, ()), ()), ()):=by
  have e:=l113 l h hs l.length l.length l.length l.length (List.replicate l.length 0) (List.replicate l.length 0)
  have hb:Nat.beq l.length (List.replicate l.length (0:Int)).length = true:=by rw [qbb, List.length_replicate]
  simp only [f113, t113, Tr.val_test, Tr.val_fin, Int.toNat_natCast]
  rw [if_pos (qk7 8 (by omega) (by omega))]
  simp only [e, b113_0, qbh, outB, if_true, hb, S0]
def sto (l:List FLo) (m:List Int) (k:Nat):Int:=match bad1 l (Sq l m k) (nv m k) with
  | some j=>(j:Int)
  | none=>-1
def cl (l:List FLo) (m:List Int) (k:Nat):Bool:=(bad1 l (Sq l m k) (nv m k)).isSome
theorem qjD {l:List FLo} {m:List Int} {k:Nat} (h:cl l m k = false):bad1 l (Sq l m k) (nv m k) = none:=by
  unfold cl at h
  cases hb:bad1 l (Sq l m k) (nv m k) with
  | none=>rfl
  | some j=>rw [hb] at h; cases h
theorem l58 (l:List FLo) (h:(cF l).2.1 = 0) (m:List Int) (hm:∀ i, i < m.length → gE (nv m i) = 0) (hl:m.length ≤ 1000) :
    l58_0 (([Tq l m 0], m, (m.length:Int), (0:Int), ()), (l, (S0 l).1, (S0 l).2.1, (S0 l).2.2, ()), ()) = match first (cl l m) m.length 0 with
      | some k=>some (.inr ((lst (Tq l m) (k + 1), sto l m k, 0, ()), (l, (Sq l m k).1, (Sq l m k).2.1, (Sq l m k).2.2, ()), ()))
      | none=>some (.inl ((lst (Tq l m) (m.length + 1), ()), (l, (Sq l m m.length).1, (Sq l m m.length).2.1, (Sq l m m.length).2.2, ()), ())):=by
  refine qfX (fun i=>((lst (Tq l m) (i + 1), m, (m.length:Int), (i:Int), ()), (l, (Sq l m i).1, (Sq l m i).2.1, (Sq l m i).2.2, ()), ())) (cl l m)
    (fun k=>((lst (Tq l m) (k + 1), sto l m k, 0, ()), (l, (Sq l m k).1, (Sq l m k).2.1, (Sq l m k).2.2, ()), ())) (n:=m.length) ?_ ?_ (qak (by omega))
  · intro i hi hp
    have v:=VSq h m hm i (by omega) fun j hj=>qjD (hp j hj)
    have e1:m.getD i 0 = nv m i:=rfl
    have e:=qpo l (Sq l m i).1 (Sq l m i).2.1 (Sq l m i).2.2 v (nv m i)
    have eb:first (bD l (NP l (Sq l m i).1 (Sq l m i).2.1 (Sq l m i).2.2 (nv m i))) l.length 0 = bad1 l (Sq l m i) (nv m i):=rfl
    rw [eb] at e
    have hc:cl l m i = (bad1 l (Sq l m i) (nv m i)).isSome:=rfl
    have hst:sto l m i = match bad1 l (Sq l m i) (nv m i) with
      | some j=>(j:Int)
      | none=>-1:=rfl
    rw [qbT (Tq l m) (i + 1)]
    simp only [s58_0, t58_0, Tr.val_test, Tr.val_fin, qae, qaH, Int.toNat_natCast, e1, g117, e, Option.isSome_some, Option.getD_some, if_true, qbw, hc, hst, qaf (show i ≤ 9223372036854775806 by omega)]
    rw [if_pos (by simp; omega), if_pos (by simp; omega)]
    cases hb:bad1 l (Sq l m i) (nv m i) with
    | some j =>
      have:(!decide ((j:Int) = -1)) = true:=nT (by omega)
      simp only [this, if_true, Option.isSome_some]
    | none =>
      simp only [decide_true, Bool.not_true, Bool.false_eq_true, if_false, Option.isSome_none]
      rw [if_pos (by simp only [Bool.and_eq_true, qam]; omega)]
      rfl
  · intro _
    simp [s58_0, t58_0, qae]
def run (l:List FLo) (m:List Int):Tys.data rs58:=match first (cl l m) m.length 0 with
  | some k=>(lst (Tq l m) (k + 1), sto l m k, 0, ())
  | none=>(lst (Tq l m) (m.length + 1), (-1:Int), 0, ())
theorem qp4 (l:List FLo) (h:(cF l).2.1 = 0) (hs:∀ i, i < l.length → (fl l i).2.2.1.length ≤ 1000) (m:List Int) (hm:∀ i, i < m.length → gE (nv m i) = 0) (hl:m.length ≤ 60) :
    f58 ((l, ()), m, ()) = some (run l m):=by
  have hz:=qej h
  have e1:=qoT m hl hm
  have e2:f108 ((l, ()), [0], ()) = some (((l, ()), ()), 0, ()):=by
    have a1:=qon l (by omega) hs
    have a2:=qiQ [0] (by simp)
    have a3:=qeX 0 0
    simp only [f108, t108, Tr.val_test, Tr.val_fin, qaH, g43, a1, h, g73, a2, a3, Option.isSome_some, Option.getD_some, if_true, qar, decide_true, Bool.not_true, Bool.false_eq_true, if_false]
  have e3:=qo5 l (by omega) hs
  have e4:l58_0 (([((S0 l).1, (S0 l).2.1, (S0 l).2.2, ())], m, (m.length:Int), (0:Int), ()), (l, (S0 l).1, (S0 l).2.1, (S0 l).2.2, ()), ()) = _:=l58 l h m hm (by omega)
  simp only [f58, t58, Tr.val_test, Tr.val_fin, qaH, g116, e1, g108, e2, g113, e3, Option.isSome_some, Option.getD_some, if_true, decide_true, Bool.not_true, Bool.false_eq_true, if_false, run]
  cases hf:first (cl l m) m.length 0 with
  | none=>rw [hf] at e4; simp only [e4, b58_0, qaY, outB, Option.isSome_some, if_true, Bool.false_eq_true, if_false]
  | some k=>rw [hf] at e4; simp only [e4, r58_0, qaY, outR, Option.isSome_some, if_true]
theorem l63 (L:List (List Int×List Int×List HOs×Unit)) (h:L.length ≤ 1000000) (hL:∀ i, i < L.length → f50 (((L.getD i ([], [], [], ())).1, (L.getD i ([], [], [], ())).2.1, (L.getD i ([], [], [], ())).2.2.1, ()), ((L.getD i ([], [], [], ())).1, (L.getD i ([], [], [], ())).2.1, (L.getD i ([], [], [], ())).2.2.1, ()), ()) = some (true, ())) :
    l63_0 ((L, L, (0:Int), ()), ()) = some (.inl ((), ())):=by
  refine qaU (fun i=>((L, L, (i:Int), ()), ())) (n:=L.length) ?_ ?_ (qak (by omega))
  · intro i hi
    have e:=hL i hi
    simp only [s63_0, t63_0, Tr.val_test, Tr.val_fin, qae, Int.toNat_natCast, g50, e, Option.isSome_some, Option.getD_some, if_true, Bool.not_true, Bool.false_eq_true, if_false, qaf (show i ≤ 9223372036854775806 by omega)]
    rw [if_pos (by simp; omega), if_pos (by simp; omega), if_pos (by simp; omega)]
  · simp [s63_0, t63_0, qae]
theorem qnO (L:List (List Int×List Int×List HOs×Unit)) (h:L.length ≤ 1000000) (hL:∀ i, i < L.length → f50 (((L.getD i ([], [], [], ())).1, (L.getD i ([], [], [], ())).2.1, (L.getD i ([], [], [], ())).2.2.1, ()), ((L.getD i ([], [], [], ())).1, (L.getD i ([], [], [], ())).2.1, (L.getD i ([], [], [], ())).2.2.1, ()), ()) = some (true, ())) :
    f63 (L, L, ()) = some (true, ()):=by
  have e:=l63 L h hL
  simp only [f63, t63, Tr.val_test, Tr.val_fin, qaH, e, qaY, Option.isSome_some, if_true, decide_true, Bool.not_true, Bool.false_eq_true, if_false]
theorem qp2 (l:List FLo) (s:STt) (v:VS l s):f50 ((s.1, s.2.1, s.2.2, ()), (s.1, s.2.1, s.2.2, ()), ()) = some (true, ()):=by
  have few:=v.few
  have n1:=v.n1
  have n2:=v.n2
  have n3:=v.n3
  refine qnp _ _ _ (by omega) (by omega) (by omega) fun i hi=>?_
  have hc:=v.ch_ok (i:=i) (by omega)
  have hk:=v.cs_ok (i:=i) (by omega)
  omega
end Go.Vm.Mo

namespace Go.Vm.Mo
open Go
set_option linter.unusedVariables false
set_option linter.unusedSimpArgs false
theorem qnF (m:List Int):qd3 (fun i=>gE (nv m i)) m.length = if (first (fun i=>!wi (-100) 100 (m.getD i 0)) m.length 0).isNone = true then 0 else 2:=by
  have hg:∀ i, (!decide (gE (nv m i) = 0)) = !wi (-100) 100 (m.getD i 0):=fun i=>by
    have e:gE (nv m i) = if (!wi (-100) 100 (m.getD i 0)) = true then 2 else 0:=rfl
    rw [e]
    cases wi (-100) 100 (m.getD i 0) <;> rfl
  unfold qd3
  rw [show first (fun i=>!decide ((fun i=>gE (nv m i)) i = 0)) m.length 0 = first (fun i=>!wi (-100) 100 (m.getD i 0)) m.length 0 from qgh fun j _ _=>hg j]
  cases hf:first (fun i=>!wi (-100) 100 (m.getD i 0)) m.length 0 with
  | none=>rfl
  | some k =>
    obtain ⟨_, _, h3, _⟩:=first_some hf
    have e:gE (nv m k) = if (!wi (-100) 100 (m.getD k 0)) = true then 2 else 0:=rfl
    show gE (nv m k) = _
    rw [e, h3]; rfl
theorem qnZ (m:List Int) (h:m.length ≤ 1000000):f110 (100, m, ()) = some (qd3 (fun i=>gE (nv m i)) m.length, ()):=by
  have e:=qkc (-100) 100 m (by omega)
  have e3:f126 (100, m, ()) = some (!(first (fun i=>!wi (-100) 100 (m.getD i 0)) m.length 0).isNone, ()):=by
    have w:=wn64 (x:=100) (by omega) (by omega)
    simp only [f126, t126, Tr.val_test, Tr.val_fin, g72, w, e, Option.isSome_some, Option.getD_some, if_true]
  have e2:=qd7 (!(first (fun i=>!wi (-100) 100 (m.getD i 0)) m.length 0).isNone) 2
  simp only [f110, t110, Tr.val_test, Tr.val_fin, g126, g74, e3, e2, Option.isSome_some, Option.getD_some, if_true]
  rw [qnF]
  cases (first (fun i=>!wi (-100) 100 (m.getD i 0)) m.length 0).isNone <;> rfl
theorem qnE (m:List Int) (h:m.length ≤ 1000000):f116 (m, ()) = some (mE m, ()):=by
  have e1:=qd7 (!decide ((m.length:Int) ≤ 60)) 8
  have e2:=qnZ m h
  have e3:=qeX (if (!decide ((m.length:Int) ≤ 60)) = true then 8 else 0) (qd3 (fun i=>gE (nv m i)) m.length)
  simp only [f116, t116, Tr.val_test, Tr.val_fin, qae, g74, e1, g110, e2, g73, e3, Option.isSome_some, Option.getD_some, if_true, mE]
  by_cases h6:m.length ≤ 60
  · rw [if_pos h6, dT (show (m.length:Int) ≤ 60 by omega)]
    simp only [Bool.not_true, Bool.false_eq_true, if_false, qar, if_true]
    split <;> simp_all
  · rw [if_neg h6, dF (show ¬ (m.length:Int) ≤ 60 by omega)]
    rfl
theorem qnw (l:List FLo) (e:Int) (h:l.length ≤ 1000) (hl:∀ i, i < l.length → (fl l i).2.2.1.length ≤ 1000) :
    f108 ((l, ()), [e], ()) = some (if qar [(cF l).2.1, e] = 0 then (((l, ()), ()), 0, ()) else ((([], ()), ()), qar [(cF l).2.1, e], ())):=by
  have a1:=qon l h hl
  have a2:=qiQ [e] (by simp)
  have a4:qar [e] = e:=by simp only [qar]; split <;> simp_all
  have a3:=qeX (cF l).2.1 e
  rw [a4] at a2
  simp only [f108, t108, Tr.val_test, Tr.val_fin, qaH, g43, a1, g73, a2, a3, Option.isSome_some, Option.getD_some, if_true]
  by_cases h0:qar [(cF l).2.1, e] = 0
  · rw [if_pos h0, if_neg (by simp [h0])]
  · rw [if_neg h0, if_pos (by simp [h0])]
theorem qmt (l:List FLo) (m:List Int) (h:l.length ≤ 1000) (hl:∀ i, i < l.length → (fl l i).2.2.1.length ≤ 1000) (hm:m.length ≤ 1000000) (h0:qar [(cF l).2.1, mE m] ≠ 0) :
    f58 ((l, ()), m, ()) = some ([], 0, qar [(cF l).2.1, mE m], ()):=by
  have e1:=qnE m hm
  have e2:=qnw l (mE m) h hl
  rw [if_neg h0] at e2
  simp only [f58, t58, Tr.val_test, Tr.val_fin, qaH, g116, e1, g108, e2, Option.isSome_some, Option.getD_some, if_true, dF h0, Bool.not_false]
theorem l53 (l:List FLo) (h:l.length ≤ 1000) (hs:∀ i, i < l.length → (fl l i).2.2.1.length ≤ 1000) (n c n' c':Nat) (a b:List Int) :
    l53_0 (((l.length:Int), (0:Int), ()), (l, ()), (), ((n, c), (n', c'), [], ()), a, b, ()) = some (.inl ((), (l, ()), (), ((n, c), (n', c'), (S0 l).2.2, ()), a, b, ())):=by
  refine qaU (fun i=>(((l.length:Int), (i:Int), ()), (l, ()), (), ((n, c), (n', c'), lst (fun i=>((0:Int), s0 (fl l i).2.2.1, ())) i, ()), a, b, ())) (n:=l.length) ?_ ?_ (qak (by omega))
  · intro i hi
    have e4:l.getD i (0, 0, [], ()) = fl l i:=rfl
    have e:f35 ((fl l i).2.2.1, ()) = some ((0, s0 (fl l i).2.2.1, ()), ()):=qpH (fl l i).2.2.1 (by have:=hs i hi; omega)
    rw [qbT]
    simp only [s53_0, t53_0, Tr.val_test, Tr.val_fin, qae, Int.toNat_natCast, e4, g35, e, Option.isSome_some, Option.getD_some, if_true, qbw, qaf (show i ≤ 9223372036854775806 by omega)]
    rw [if_pos (by simp; omega), if_pos (by simp; omega), if_pos (by simp only [Bool.and_eq_true, qam]; omega)]
  · simp [s53_0, t53_0, qae]; rfl
theorem qp6 (l:List FLo) (h:l.length ≤ 1000) (hs:∀ i, i < l.length → (fl l i).2.2.1.length ≤ 1000):f53 ((l, ()), ()) = some (((S0 l).1, (S0 l).2.1, (S0 l).2.2, ()), ()):=by
  have e:=l53 l h hs l.length l.length l.length l.length (List.replicate l.length 0) (List.replicate l.length 0)
  have hb:Nat.beq l.length (List.replicate l.length (0:Int)).length = true:=by rw [qbb, List.length_replicate]
  simp only [f53, t53, Tr.val_test, Tr.val_fin, Int.toNat_natCast]
  rw [if_pos (qk7 8 (by omega) (by omega))]
  simp only [e, b53_0, qbh, outB, if_true, hb, S0]
theorem qpr (l:List FLo) (s:STt) (v:VS l s) (g:Int) (hg:gE g = 0):f121 ((l, ()), (s.1, s.2.1, s.2.2, ()), g, ()) =
    some (match bad1 l s g with
      | some k=>((([], [], [], ()), (k:Int), ()):Tys.data rs121)
      | none=>(((nxt l s g).1, (nxt l s g).2.1, (nxt l s g).2.2, ()), (-1:Int), ())):=qo8 l s.1 s.2.1 s.2.2 v g (qjm hg)
theorem l62 (l:List FLo) (h:(cF l).2.1 = 0) (m:List Int) (hm:∀ i, i < m.length → gE (nv m i) = 0) (hl:m.length ≤ 1000) :
    l62_0 ((m, [Tq l m 0], (0:Int), ()), (l, ()), ((S0 l).1, (S0 l).2.1, (S0 l).2.2, ()), ()) = match first (cl l m) m.length 0 with
      | some k=>some (.inr ((lst (Tq l m) (k + 1), sto l m k, ()), (l, ()), ((Sq l m k).1, (Sq l m k).2.1, (Sq l m k).2.2, ()), ()))
      | none=>some (.inl ((lst (Tq l m) (m.length + 1), ()), (l, ()), ((Sq l m m.length).1, (Sq l m m.length).2.1, (Sq l m m.length).2.2, ()), ())):=by
  refine qfX (fun i=>((m, lst (Tq l m) (i + 1), (i:Int), ()), (l, ()), ((Sq l m i).1, (Sq l m i).2.1, (Sq l m i).2.2, ()), ())) (cl l m)
    (fun k=>((lst (Tq l m) (k + 1), sto l m k, ()), (l, ()), ((Sq l m k).1, (Sq l m k).2.1, (Sq l m k).2.2, ()), ())) (n:=m.length) ?_ ?_ (qak (by omega))
  · intro i hi hp
    have v:=VSq h m hm i (by omega) fun j hj=>qjD (hp j hj)
    have e1:m.getD i 0 = nv m i:=rfl
    have e:=qpr l (Sq l m i) v (nv m i) (hm i hi)
    have hc:cl l m i = (bad1 l (Sq l m i) (nv m i)).isSome:=rfl
    have hst:sto l m i = match bad1 l (Sq l m i) (nv m i) with
      | some j=>(j:Int)
      | none=>-1:=rfl
    rw [qbT (Tq l m) (i + 1)]
    simp only [s62_0, t62_0, Tr.val_test, Tr.val_fin, qae, qaH, Int.toNat_natCast, e1, g121, e, Option.isSome_some, Option.getD_some, if_true, qbw, hc, hst, qaf (show i ≤ 9223372036854775806 by omega)]
    rw [if_pos (by simp; omega), if_pos (by simp; omega)]
    cases hb:bad1 l (Sq l m i) (nv m i) with
    | some j=>simp only [dT (show (0:Int) ≤ (j:Int) by omega), if_true, Option.isSome_some]
    | none =>
      simp only [show decide ((0:Int) ≤ -1) = false from rfl, Bool.false_eq_true, if_false, Option.isSome_none]
      rw [if_pos (by simp only [Bool.and_eq_true, qam]; omega)]
      rfl
  · intro _
    simp [s62_0, t62_0, qae]
theorem qpG (l:List FLo) (h:(cF l).2.1 = 0) (hs:∀ i, i < l.length → (fl l i).2.2.1.length ≤ 1000) (m:List Int) (hm:∀ i, i < m.length → gE (nv m i) = 0) (hl:m.length ≤ 60) :
    f62 ((l, ()), m, ()) = some ((run l m).1, (run l m).2.1, ()):=by
  have hz:=qej h
  have e3:=qp6 l (by omega) hs
  have e4:l62_0 ((m, [((S0 l).1, (S0 l).2.1, (S0 l).2.2, ())], (0:Int), ()), (l, ()), ((S0 l).1, (S0 l).2.1, (S0 l).2.2, ()), ()) = _:=l62 l h m hm (by omega)
  simp only [f62, t62, Tr.val_test, Tr.val_fin, g53, e3, Option.isSome_some, Option.getD_some, if_true, run]
  cases hf:first (cl l m) m.length 0 with
  | none=>rw [hf] at e4; simp only [e4, b62_0, qaY, outB, Option.isSome_some, if_true, Bool.false_eq_true, if_false]
  | some k=>rw [hf] at e4; simp only [e4, r62_0, qaY, outR, Option.isSome_some, if_true]
end Go.Vm.Mo

namespace Go.Vm.Mo
open Go
set_option linter.unusedVariables false
set_option linter.unusedSimpArgs false
def szI (x:Int):Int:=if x < IntKind.wrap .i64 (0 - x) then IntKind.wrap .i64 (0 - x) else x
def pk1 (x:List Int) (i:Nat) (b:List Int):List Int:=if (!leF (szI (dr x i)) (szI (b.getD i 0))) = true then b.set i (dr x i) else b
def pkU (x b:List Int):Nat → List Int
  | 0=>b
  | i + 1=>pk1 x i (pkU x b i)
def pkA (L:List (List Int×List Int×List HOs×Unit)) (n:Nat):Nat → List Int
  | 0=>List.replicate n 0
  | k + 1=>pkU (L.getD k ([], [], [], ())).1 (pkA L n k) n
theorem qpp (x:List Int) (i:Nat) (b:List Int):(pk1 x i b).length = b.length:=by
  unfold pk1; split <;> simp
theorem qhy (x b:List Int):∀ i, (pkU x b i).length = b.length
  | 0=>rfl
  | i + 1=>by rw [pkU, qpp, qhy x b i]
theorem qeY (L:List (List Int×List Int×List HOs×Unit)) (n:Nat):∀ k, (pkA L n k).length = n
  | 0=>by simp [pkA]
  | k + 1=>by rw [pkA, qhy, qeY L n k]
theorem qmZ (x:Int):f119 (x, ()) = some (szI x, ()):=by
  simp only [f119, t119, Tr.val_fin, szI]
theorem qou (x:Int):f86 (x, ()) = some (szI x, ()):=by
  simp only [f86, t86, Tr.val_fin, szI]
theorem qqk (x b:List Int) (h:x.length = b.length) (hl:b.length ≤ 1000000) (c:Nat) :
    l136_0_1 (((0:Int), x, (x.length:Int), (0:Int), ()), (), ((b.length, c), ()), b, ()) = some (.inl ((), (), ((b.length, c), ()), pkU x b b.length, ())):=by
  have key:=qaU (step:=s136_0_1) (fun i=>((pv x i, x, (x.length:Int), (i:Int), ()), (), ((b.length, c), ()), pkU x b i, ())) (b:=((), (), ((b.length, c), ()), pkU x b x.length, ())) (n:=x.length) (m:=rounds) ?_ ?_ (qak (by omega))
  · rw [h] at key ⊢; exact key
  · intro i hi
    have hh:x.getD i 0 = nv x i:=rfl
    have hd:wrap64 (nv x i - pv x i) = dr x i:=rfl
    have hp:pk1 x i (pkU x b i) = pkU x b (i + 1):=rfl
    have hlen:=qhy x b i
    have a1:=qmZ (dr x i)
    have a2:=qmZ ((pkU x b i).getD i 0)
    simp only [s136_0_1, t136_0_1, Tr.val_test, Tr.val_fin, qae, Int.toNat_natCast, hh, hd, g119, a1, a2, Option.isSome_some, Option.getD_some, if_true, Nat.zero_add, hlen, qaf (show i ≤ 9223372036854775806 by omega), qjC]
    rw [if_pos (by simp; omega), if_pos (by simp; omega), if_pos (by simp; omega), if_pos (by rw [qam]; omega)]
    rw [← hp]
    unfold pk1
    rw [qae]
    split <;> rfl
  · simp [s136_0_1, t136_0_1, qae]
theorem l59 (L:List (List Int×List Int×List HOs×Unit)) (n:Nat) (hn:n ≤ 1000000) (h:L.length ≤ 1000000) (hL:∀ k, k < L.length → (L.getD k ([], [], [], ())).1.length = n) (c:Nat) :
    l59_0 ((L, (L.length:Int), (0:Int), ()), ((n, c), ()), List.replicate n 0, ()) = some (.inl ((), ((n, c), ()), pkA L n L.length, ())):=by
  refine qaU (fun k=>((L, (L.length:Int), (k:Int), ()), ((n, c), ()), pkA L n k, ())) (n:=L.length) ?_ ?_ (qak (by omega))
  · intro k hk
    have hlen:=qeY L n k
    have e:=qqk (L.getD k ([], [], [], ())).1 (pkA L n k) (by rw [hL k hk, hlen]) (by omega) c
    rw [hlen] at e
    have hp:pkU (L.getD k ([], [], [], ())).1 (pkA L n k) n = pkA L n (k + 1):=rfl
    simp only [s59_0, t59_0, Tr.val_test, Tr.val_fin, qae, Int.toNat_natCast, e, qbh, b136_0_1, outB, Option.isSome_some, if_true, hp, qaf (show k ≤ 9223372036854775806 by omega)]
    rw [if_pos (by simp; omega), if_pos (by simp; omega)]
  · simp [s59_0, t59_0, qae]
theorem l652 (L:List (List Int×List Int×List HOs×Unit)) (k:Nat) (hk:k < L.length) (hl:L.length ≤ 1000000) (b:List Int) (hx:(L.getD k ([], [], [], ())).1.length = b.length) (hb:b.length ≤ 1000000)
    (h0:-1000000 ≤ nv (L.getD k ([], [], [], ())).1 0 ∧ nv (L.getD k ([], [], [], ())).1 0 ≤ 1000000) (c:Nat) :
    l65_2 ((L, (b.length, c), (k:Int), (0:Int), ()), b, ()) = some (.inl ((L, (b.length, c), (k:Int), ()), pkU (L.getD k ([], [], [], ())).1 b b.length, ())):=by
  refine qaU (fun i=>((L, (b.length, c), (k:Int), (i:Int), ()), pkU (L.getD k ([], [], [], ())).1 b i, ())) (n:=b.length) ?_ ?_ (qak (by omega))
  · intro i hi
    have hlen:=qhy (L.getD k ([], [], [], ())).1 b i
    have hp:pk1 (L.getD k ([], [], [], ())).1 i (pkU (L.getD k ([], [], [], ())).1 b i) = pkU (L.getD k ([], [], [], ())).1 b (i + 1):=rfl
    have e:f122 ((L.getD k ([], [], [], ())).1, (i:Int), ()) = some (dr (L.getD k ([], [], [], ())).1 i, ()):=by
      rw [qmV _ i (by omega) (by omega)]
      by_cases hi0:i = 0
      · subst hi0
        rw [if_pos rfl]
        unfold dr pv
        rw [if_pos rfl, qaj (by omega) (by omega)]
        simp
      · rw [if_neg hi0]
    have a1:=qou (dr (L.getD k ([], [], [], ())).1 i)
    have a2:=qou ((pkU (L.getD k ([], [], [], ())).1 b i).getD i 0)
    simp only [s65_2, t65_2, Tr.val_test, Tr.val_fin, qae, Int.toNat_natCast, g122, e, g86, a1, a2, Option.isSome_some, Option.getD_some, if_true, Nat.zero_add, hlen, qaf (show i ≤ 9223372036854775806 by omega)]
    rw [if_pos (by simp; omega), if_pos (by simp; omega), if_pos (by simp; omega), if_pos (by rw [qam]; omega)]
    rw [← hp]
    unfold pk1
    rw [qae]
    split <;> rfl
  · simp [s65_2, t65_2, qae]
theorem l65 (L:List (List Int×List Int×List HOs×Unit)) (n:Nat) (hn:n ≤ 1000000) (h:L.length ≤ 1000000) (hL:∀ k, k < L.length → (L.getD k ([], [], [], ())).1.length = n ∧ -1000000 ≤ nv (L.getD k ([], [], [], ())).1 0 ∧ nv (L.getD k ([], [], [], ())).1 0 ≤ 1000000) (c:Nat) :
    l65_0 ((L, (n, c), (0:Int), ()), List.replicate n 0, ()) = some (.inl (((n, c), ()), pkA L n L.length, ())):=by
  refine qaU (fun k=>((L, (n, c), (k:Int), ()), pkA L n k, ())) (n:=L.length) ?_ ?_ (qak (by omega))
  · intro k hk
    have hlen:=qeY L n k
    obtain ⟨h1, h2⟩:=hL k hk
    have e:=l652 L k hk h (pkA L n k) (by rw [h1, hlen]) (by omega) h2 c
    rw [hlen] at e
    have hp:pkU (L.getD k ([], [], [], ())).1 (pkA L n k) n = pkA L n (k + 1):=rfl
    simp only [s65_0, t65_0, Tr.val_test, Tr.val_fin, qae, Int.toNat_natCast, e, qbh, b65_2, outB, Option.isSome_some, if_true, hp, qaf (show k ≤ 9223372036854775806 by omega)]
    rw [if_pos (by simp; omega)]
  · simp [s65_0, t65_0, qae]
theorem qpz (l:List FLo) (L:List (List Int×List Int×List HOs×Unit)) (hl:l.length ≤ 1000) (h:L.length ≤ 1000000) (hL:∀ k, k < L.length → (L.getD k ([], [], [], ())).1.length = l.length ∧ -1000000 ≤ nv (L.getD k ([], [], [], ())).1 0 ∧ nv (L.getD k ([], [], [], ())).1 0 ≤ 1000000) :
    f65 ((l, ()), L, ()) = some (pkA L l.length L.length, ()):=by
  have e:=l65 L l.length (by omega) h hL l.length
  have hb:Nat.beq l.length (pkA L l.length L.length).length = true:=by rw [qbb, qeY]
  simp only [f65, t65, Tr.val_test, Tr.val_fin, Int.toNat_natCast]
  rw [if_pos (qk7 8 (by omega) (by omega))]
  simp only [e, qbh, b65_0, outB, if_true, hb]
theorem qlZ (l:List FLo) (m:List Int) (e:Int) (h:f58 ((l, ()), m, ()) = some ([], 0, e, ())) (he:e ≠ 0):f59 ((l, ()), m, ()) = some ([], e, ()):=by
  simp only [f59, t59, Tr.val_test, Tr.val_fin, qaH, g58, h, Option.isSome_some, Option.getD_some, if_true, nT he]
theorem qqa (l:List FLo) (m:List Int) (L:List (List Int×List Int×List HOs×Unit)) (s:Int) (h:f58 ((l, ()), m, ()) = some (L, s, 0, ())) (hl:l.length ≤ 1000) (hn:L.length ≤ 1000000) (hL:∀ k, k < L.length → (L.getD k ([], [], [], ())).1.length = l.length) :
    f59 ((l, ()), m, ()) = some (pkA L l.length L.length, 0, ()):=by
  have e:=l59 L l.length (by omega) hn hL l.length
  have hb:Nat.beq l.length (pkA L l.length L.length).length = true:=by rw [qbb, qeY]
  simp only [f59, t59, Tr.val_test, Tr.val_fin, qaH, g58, h, Option.isSome_some, Option.getD_some, if_true, decide_true, Bool.not_true, Bool.false_eq_true, if_false, Int.toNat_natCast]
  rw [if_pos (qk7 8 (by omega) (by omega))]
  simp only [e, qbh, b59_0, outB, if_true, hb]
end Go.Vm.Mo

namespace Go.Vm.Mo
open Go
set_option linter.unusedVariables false
set_option linter.unusedSimpArgs false
theorem qow {l:List FLo} (h:(cF l).2.1 = 0) (m:List Int) (hm:∀ i, i < m.length → gE (nv m i) = 0) {N:Nat} (hN:N ≤ m.length + 1) (hp:∀ j, j + 1 < N → cl l m j = false):∀ i, i < N → VS l (Sq l m i) :=
  fun i hi=>VSq h m hm i (by omega) fun j hj=>qjD (hp j (by omega))
theorem qp9 {l:List FLo} (h:(cF l).2.1 = 0) (m:List Int) (hm:∀ i, i < m.length → gE (nv m i) = 0):∃ N s, N ≤ m.length + 1 ∧ run l m = (lst (Tq l m) N, s, 0, ()) ∧ ∀ i, i < N → VS l (Sq l m i):=by
  unfold run
  cases hf:first (cl l m) m.length 0 with
  | none =>
    have hn:=qaP hf
    exact ⟨m.length + 1, -1, Nat.le_refl _, rfl, qow h m hm (Nat.le_refl _) fun j hj=>hn j (by omega) (by omega)⟩
  | some k =>
    obtain ⟨_, hk, _, hk3⟩:=first_some hf
    exact ⟨k + 1, sto l m k, by omega, rfl, qow h m hm (by omega) fun j hj=>hk3 j (by omega) (by omega)⟩
theorem qp8 (l:List FLo) (m:List Int):f8 ((l, ()), m, ()) = some (true, ()):=by
  have e6:=qpT l
  simp only [f8, t8, Tr.val_test, Tr.val_fin, g42, e6, qae, qaH, Option.isSome_some, Option.getD_some, if_true]
  rcases Bool.eq_false_or_eq_true (fewB l) with hb | hb
  rotate_left
  · simp only [hb, Bool.not_false, if_true]
  obtain ⟨h7, h6⟩:=qnR hb
  by_cases h62:(m.length:Int) ≤ 62
  rotate_left
  · simp only [hb, dF h62, Bool.not_true, Bool.not_false, Bool.false_eq_true, if_false, if_true]
  have hs:∀ i, i < l.length → (fl l i).2.2.1.length ≤ 1000:=fun i hi=>by have:=h6 i hi; omega
  have e44:=qqc l (by omega) hs
  have e47:=qof m (by omega)
  have e60:=qp5 l (by omega) hs
  have e61:=qpQ m (by omega)
  simp only [hb, dT h62, Bool.not_true, Bool.false_eq_true, if_false, g44, e44, g47, e47, g60, e60, g61, e61, Option.isSome_some, Option.getD_some, if_true]
  by_cases hc:(cF l).2.1 = 0
  rotate_left
  · have h0:qar [(cF l).2.1, mE m] = (cF l).2.1:=by simp only [qar, if_neg hc]
    have e58:=qmt l m (by omega) hs (by omega) (by rw [h0]; exact hc)
    rw [h0] at e58
    have e59:=qlZ l m _ e58 hc
    simp only [dF hc, Bool.false_eq_true, if_false, g58, e58, g59, e59, Option.isSome_some, Option.getD_some, if_true, decide_true]
    rfl
  by_cases hm:mE m = 0
  rotate_left
  · have h0:qar [(cF l).2.1, mE m] = mE m:=by
      simp only [qar, if_pos hc, if_neg hm]
    have e58:=qmt l m (by omega) hs (by omega) (by rw [h0]; exact hm)
    rw [h0] at e58
    have e59:=qlZ l m _ e58 hm
    simp only [dT hc, dF hm, Bool.not_false, Bool.false_eq_true, if_false, g58, e58, g59, e59, Option.isSome_some, Option.getD_some, if_true, decide_true]
    rfl
  obtain ⟨h60, hg⟩:=qoM hm
  have hz:=qej hc
  obtain ⟨N, s, hN, hrun, hv⟩:=qp9 hc m hg
  have e58:=qp4 l hc hs m hg h60
  have e62:=qpG l hc hs m hg h60
  rw [hrun] at e58 e62
  have hlen:(lst (Tq l m) N).length = N:=qbw _ _
  have hget:∀ k, k < N → (lst (Tq l m) N).getD k ([], [], [], ()) = Tq l m k:=fun k hk=>qfZ _ _ hk
  have hfst:∀ k, k < N → ((lst (Tq l m) N).getD k ([], [], [], ())).1 = (Sq l m k).1:=fun k hk=>by rw [hget k hk]; rfl
  have e59:=qqa l m (lst (Tq l m) N) s e58 (by omega) (by rw [hlen]; omega) fun k hk=>by
    rw [hlen] at hk
    rw [hfst k hk, (hv k hk).n1]
  have e65:=qpz l (lst (Tq l m) N) (by omega) (by rw [hlen]; omega) fun k hk=>by
    rw [hlen] at hk
    have v:=hv k hk
    have hb:=(qh7 (v.e 0 (by omega))).1
    rw [hfst k hk]
    exact ⟨v.n1, by omega, by omega⟩
  have e63:=qnO (lst (Tq l m) N) (by rw [hlen]; omega) fun k hk=>by
    rw [hlen] at hk
    rw [hget k hk]
    exact qp2 l (Sq l m k) (hv k hk)
  have e64:=qhQ (pkA (lst (Tq l m) N) l.length (lst (Tq l m) N).length) (by rw [qeY]; omega)
  simp only [dT hc, dT hm, Bool.not_true, Bool.false_eq_true, if_false, g58, e58, g59, e59, g62, e62, g63, e63, g65, e65, g64, e64, Option.isSome_some, Option.getD_some, if_true, decide_true]
theorem law8 (d:Tys.data as8) (hw:Tys.Wf as8 d):qk9 Go.Proofs.Try.prog 8 as8 [.bool] d (true, ()):=by
  have h:=qp8 d.1.1 d.2.1
  have hp:p8.pre d = true:=by
    show Option.isSome (f8 d) = true
    rw [show f8 d = some (true, ()) from h]; rfl
  have hg:p8.fn d = (true, ()):=by
    show (f8 d).getD _ = _
    rw [show f8 d = some (true, ()) from h]; rfl
  have:=ok8.runs d hp
  rw [hg] at this
  exact this
end Go.Vm.Mo
