import Derived.Test.YtiodahganfihkaaGreatRsFb
import Derived.Test.YtiodahganfihkaaGreatA5
import Derived.Test.YtiodahganfihkaaGreatRsS
set_option linter.unusedVariables false
set_option linter.unusedSimpArgs false

namespace Go.Vm.Mo
open Go
set_option linter.unusedVariables false
set_option linter.unusedSimpArgs false
theorem dT {p:Prop} [Decidable p] (h:p):decide p = true:=decide_eq_true h
theorem dF {p:Prop} [Decidable p] (h:¬ p):decide p = false:=decide_eq_false h
theorem nT {p:Prop} [Decidable p] (h:¬ p):(!decide p) = true:=by rw [decide_eq_false h]; rfl
theorem nF {p:Prop} [Decidable p] (h:p):(!decide p) = false:=by rw [decide_eq_true h]; rfl
theorem dA {p q:Prop} [Decidable p] [Decidable q] (h:p) (k:q):(decide p && decide q) = true:=by rw [decide_eq_true h, decide_eq_true k]; rfl
theorem qjl (bad:Nat → Bool):∀ (n i:Nat), first bad n (i + 1) = (first (fun k=>bad (k + 1)) n i).map (· + 1)
  | 0, _=>rfl
  | n + 1, i=>by
    simp only [first]
    split
    · rfl
    · exact qjl bad n (i + 1)
def qbr:List Int → Int
  | []=>0
  | a :: l=>if a = 0 then qbr l else a
theorem qhe:∀ l:List Int, (match first (fun i=>!decide (l.getD i 0 = 0)) l.length 0 with
    | some k=>l.getD k 0
    | none=>0) = qbr l
  | []=>rfl
  | a :: l=>by
    simp only [List.length, first, qbr]
    by_cases ha:a = 0
    · subst ha
      have e:=qhe l
      have hf:first (fun i=>!decide (((0:Int) :: l).getD i 0 = 0)) l.length (0 + 1) = (first (fun i=>!decide (l.getD i 0 = 0)) l.length 0).map (· + 1):=by
        rw [qjl]; rfl
      simp only [hf, List.getD_cons_zero, decide_true, Bool.not_true, Bool.false_eq_true, if_false, if_true]
      rw [← e]
      cases first (fun i=>!decide (l.getD i 0 = 0)) l.length 0 with
      | none=>rfl
      | some k=>rfl
    · simp [ha]
theorem l79 (l:List Int) (h:l.length ≤ 1000000000):l79_0 ((l, (l.length:Int), (0:Int), ()), ()) = match first (fun i=>!decide (l.getD i 0 = 0)) l.length 0 with
    | some k=>some (.inr ((l.getD k 0, ()), ()))
    | none=>some (.inl ((), ())):=by
  refine qhJ (fun i=>((l, (l.length:Int), (i:Int), ()), ())) (fun i=>!decide (l.getD i 0 = 0)) (fun k=>((l.getD k 0, ()), ())) (n:=l.length) ?_ ?_ (qaN (by omega))
  · intro i hi
    simp only [s79_0, t79_0, Tr.val_test, qau, qch]
    rw [if_pos (by simp; omega), if_pos (by simp; omega)]
    simp only [Int.toNat_natCast, qb1 (show i ≤ 9223372036854775806 by omega)]
    rfl
  · simp [s79_0, t79_0, qau]
theorem qqf (l:List Int) (h:l.length ≤ 1000000000):f79 (l, ()) = some (qbr l, ()):=by
  simp only [f79, t79, Tr.val_test, r79_0, l79 l h, ← qhe l]
  cases first (fun i=>!decide (l.getD i 0 = 0)) l.length 0 with
  | none=>rfl
  | some k=>rfl
theorem qo8 (d:Tys.data as80):f80 d = some (if d.1 = true then d.2.1 else (0:Int), ()):=by
  simp only [f80, t80, Tr.val_test]
  split <;> rfl
def wi (lo hi x:Int):Bool:=decide (lo ≤ x) && decide (x ≤ hi)
theorem wi_iff {lo hi x:Int}:wi lo hi x = true ↔ lo ≤ x ∧ x ≤ hi:=by simp [wi]
theorem qd7 (d:Tys.data as25):f25 d = some (wi d.2.1 d.2.2.1 d.1, ()):=by
  simp only [f25, t25, Tr.val_test, Tr.val_fin, qau, decide_eq_true_eq, wi]
  split <;> simp [*]
theorem l94 (lo hi:Int) (l:List Int) (h:l.length ≤ 1000000000):l94_0 ((lo, hi, l, (l.length:Int), (0:Int), ()), ()) = match first (fun i=>!wi lo hi (l.getD i 0)) l.length 0 with
    | some _=>some (.inr ((false, ()), ()))
    | none=>some (.inl ((), ())):=by
  refine qhJ (fun i=>((lo, hi, l, (l.length:Int), (i:Int), ()), ())) (fun i=>!wi lo hi (l.getD i 0)) (fun _=>((false, ()), ())) (n:=l.length) ?_ ?_ (qaN (by omega))
  · intro i hi'
    simp only [s94_0, t94_0, Tr.val_test, Tr.val_fin, qau, Int.toNat_natCast, qb1 (show i ≤ 9223372036854775806 by omega)]
    rw [if_pos (by simp; omega), if_pos (by simp; omega)]
    by_cases a0:lo ≤ l.getD i 0
    · by_cases a1:l.getD i 0 ≤ hi
      · simp only [wi, a0, a1, decide_true, Bool.and_self, Bool.not_true, if_true, if_false, Bool.false_eq_true]
      · simp only [wi, a0, a1, decide_true, decide_false, Bool.and_false, Bool.not_false, Bool.not_true, if_true, if_false, Bool.false_eq_true]
    · simp only [wi, a0, decide_false, Bool.false_and, Bool.not_false, if_true, if_false, Bool.false_eq_true]
  · simp [s94_0, t94_0, qau]
theorem qoT (lo hi:Int) (l:List Int) (h:l.length ≤ 1000000000):f94 (lo, hi, l, ()) = some ((first (fun i=>!wi lo hi (l.getD i 0)) l.length 0).isNone, ()):=by
  have hl:=l94 lo hi l h
  cases hf:first (fun i=>!wi lo hi (l.getD i 0)) l.length 0 with
  | none =>
    rw [hf] at hl
    simp only [f94, t94, Tr.val_test, Tr.val_fin, hl, qeA, Option.isSome_some, Option.isNone_none, if_true, Bool.false_eq_true, if_false]
  | some k =>
    rw [hf] at hl
    simp only [f94, t94, Tr.val_test, Tr.val_fin, hl, qeA, r94_0, outR, Option.isSome_some, Option.isNone_some, if_true]
theorem qgX (lo hi a:Int):f94 (lo, hi, [a], ()) = some (wi lo hi a, ()):=by
  rw [qoT lo hi _ (by simp)]
  simp only [first, List.length, List.getD_cons_zero]
  by_cases h1:wi lo hi a = true
  · simp [h1]
  · simp [h1]
theorem qpY (lo hi a b:Int):f94 (lo, hi, [a, b], ()) = some (wi lo hi a && wi lo hi b, ()):=by
  rw [qoT lo hi _ (by simp)]
  simp only [first, List.length, List.getD_cons_zero, List.getD_cons_succ]
  by_cases h1:wi lo hi a = true
  · by_cases h2:wi lo hi b = true
    · simp [h1, h2]
    · simp [h1, h2]
  · simp [h1]
theorem qqH (l:List Int) (h:l.length ≤ 1000000):l23_0 ((l, l, (0:Int), ()), ()) = some (.inl ((), ())):=by
  refine qcd (fun i=>((l, l, (i:Int), ()), ())) (n:=l.length) ?_ ?_ (qaN (by omega))
  · intro i hi
    simp only [s23_0, t23_0, Tr.val_test, Tr.val_fin, Tr.val_stop, qau, qch, Int.toNat_natCast, qb1 (show i ≤ 9223372036854775806 by omega)]
    rw [if_pos (by simp; omega), if_pos (by simp; omega), if_pos (by simp; omega)]
    simp
  · simp [s23_0, t23_0, qau]
theorem qn8 (l:List Int) (h:l.length ≤ 1000000):f23 (l, l, ()) = some (true, ()):=by
  simp only [f23, t23, Tr.val_test, Tr.val_fin, Tr.val_stop, qqH l h, qeA, qch, decide_true, Bool.not_true, Bool.false_eq_true, if_false, Option.isSome_some, if_true]
theorem wn64 {x:Int} (h1:-9223372036854775807 ≤ x) (h2:x ≤ 9223372036854775807):IntKind.wrap .i64 (0 - x) = -x:=by
  rw [← qdx, qad (by omega) (by omega)]
  omega
abbrev Mot:=Int×Int×Int×Unit
abbrev Lim:=(Int×Int×Unit)×Int×Int×Int×Unit
def okM (x:Lim) (s:Mot):Bool:=wi x.1.1 x.1.2.1 s.1 && (wi (-x.2.1) x.2.1 s.2.1 && wi (-x.2.2.1) x.2.2.1 s.2.2.1)
def okL (x:Lim):Bool:=wi (-60) 60 x.1.1 && (wi (-60) 60 x.1.2.1 && (wi 1 8 x.2.1 && (wi 1 3 x.2.2.1 && wi 1 6 x.2.2.2.1)))
def mvd (s:Mot) (p:Int):Mot:=(s.1 + (s.2.1 + p), s.2.1 + p, p, ())
def prm (x:Lim) (s:Mot) (p:Int):Bool:=wi (-x.2.2.1) x.2.2.1 p && (wi (s.2.2.1 - x.2.2.2.1) (s.2.2.1 + x.2.2.2.1) p && okM x (mvd s p))
def nxU (x:Lim) (s:Mot):Nat → List (Int×Mot)
  | 0=>[]
  | k + 1=>nxU x s k++if prm x s ((k:Int) - x.2.2.1) = true then [((k:Int) - x.2.2.1, mvd s ((k:Int) - x.2.2.1))] else []
def nx (x:Lim) (s:Mot):List (Int×Mot):=nxU x s (2 * x.2.2.1 + 1).toNat
def rest (s:Mot):Bool:=decide (s.2.1 = 0) && decide (s.2.2.1 = 0)
theorem okM_iff {x:Lim} {s:Mot}:okM x s = true ↔ (x.1.1 ≤ s.1 ∧ s.1 ≤ x.1.2.1) ∧ (-x.2.1 ≤ s.2.1 ∧ s.2.1 ≤ x.2.1) ∧ (-x.2.2.1 ≤ s.2.2.1 ∧ s.2.2.1 ≤ x.2.2.1):=by
  simp only [okM, Bool.and_eq_true, wi_iff]
theorem okL_iff {x:Lim}:okL x = true ↔ (-60 ≤ x.1.1 ∧ x.1.1 ≤ 60) ∧ (-60 ≤ x.1.2.1 ∧ x.1.2.1 ≤ 60) ∧ (1 ≤ x.2.1 ∧ x.2.1 ≤ 8) ∧ (1 ≤ x.2.2.1 ∧ x.2.2.1 ≤ 3) ∧ (1 ≤ x.2.2.2.1 ∧ x.2.2.2.1 ≤ 6):=by
  simp only [okL, Bool.and_eq_true, wi_iff]
theorem prm_iff {x:Lim} {s:Mot} {p:Int}:prm x s p = true ↔ (-x.2.2.1 ≤ p ∧ p ≤ x.2.2.1) ∧ (s.2.2.1 - x.2.2.2.1 ≤ p ∧ p ≤ s.2.2.1 + x.2.2.2.1) ∧ okM x (mvd s p) = true:=by
  simp only [prm, Bool.and_eq_true, wi_iff]
theorem qqE {s:Mot}:rest s = true ↔ s.2.1 = 0 ∧ s.2.2.1 = 0:=by simp [rest]
theorem nxU_mem {x:Lim} {s:Mot}:∀ {k:Nat} {e:Int×Mot}, e ∈ nxU x s k ↔ ∃ i, i < k ∧ prm x s ((i:Int) - x.2.2.1) = true ∧ e = ((i:Int) - x.2.2.1, mvd s ((i:Int) - x.2.2.1))
  | 0, e=>by simp [nxU]
  | k + 1, e=>by
    rw [nxU, List.mem_append, nxU_mem]
    constructor
    · rintro (⟨i, h1, h2, h3⟩ | h)
      · exact ⟨i, by omega, h2, h3⟩
      · split at h
        · rename_i hp
          exact ⟨k, by omega, hp, by simpa using h⟩
        · cases h
    · rintro ⟨i, h1, h2, h3⟩
      by_cases hi:i = k
      · subst hi
        exact .inr (by rw [if_pos h2, h3]; simp)
      · exact .inl ⟨i, by omega, h2, h3⟩
theorem nx_mem {x:Lim} {s:Mot} {e:Int×Mot}:e ∈ nx x s ↔ prm x s e.1 = true ∧ e.2 = mvd s e.1:=by
  unfold nx
  rw [nxU_mem]
  constructor
  · rintro ⟨i, h1, h2, rfl⟩
    exact ⟨h2, rfl⟩
  · rintro ⟨h1, h2⟩
    have hp:=(prm_iff.1 h1).1
    refine ⟨(e.1 + x.2.2.1).toNat, by omega, ?_, ?_⟩
    · rw [show (((e.1 + x.2.2.1).toNat:Nat):Int) - x.2.2.1 = e.1 by omega]; exact h1
    · rw [show (((e.1 + x.2.2.1).toNat:Nat):Int) - x.2.2.1 = e.1 by omega, ← h2]
theorem qqd {x:Lim} {s:Mot} {e:Int×Mot} (h:e ∈ nx x s):okM x e.2 = true:=by
  obtain ⟨h1, h2⟩:=nx_mem.1 h
  rw [h2]; exact (prm_iff.1 h1).2.2
def cel (x:Lim) (s:Mot):Int:=((s.1 - x.1.1) * (2 * x.2.1 + 1) + s.2.1 + x.2.1) * (2 * x.2.2.1 + 1) + s.2.2.1 + x.2.2.1
theorem digit_eq {a b c d w:Int} (hw:0 < w) (hb:0 ≤ b) (hb':b < w) (hd:0 ≤ d) (hd':d < w) (h:a * w + b = c * w + d):a = c ∧ b = d:=by
  have h1:(a * w + b) / w = a:=by rw [Int.add_comm, Int.add_mul_ediv_right _ _ (by omega), Int.ediv_eq_zero_of_lt hb hb']; omega
  have h2:(c * w + d) / w = c:=by rw [Int.add_comm, Int.add_mul_ediv_right _ _ (by omega), Int.ediv_eq_zero_of_lt hd hd']; omega
  have:a = c:=by rw [← h1, ← h2, h]
  subst this
  exact ⟨rfl, by omega⟩
theorem qkS {a b w n:Int} (hw:0 < w) (hb:0 ≤ b) (hb':b < w) (ha:0 ≤ a) (ha':a < n):0 ≤ a * w + b ∧ a * w + b < n * w:=by
  have h1:0 ≤ a * w:=Int.mul_nonneg ha (by omega)
  have h2:(a + 1) * w ≤ n * w:=Int.mul_le_mul_of_nonneg_right (by omega) (by omega)
  have h3:(a + 1) * w = a * w + w:=by rw [Int.add_mul, Int.one_mul]
  omega
def cells (x:Lim):Int:=(x.1.2.1 - x.1.1 + 1) * (2 * x.2.1 + 1) * (2 * x.2.2.1 + 1)
theorem qgK {x:Lim} {s:Mot} (hx:okL x = true) (hs:okM x s = true):0 ≤ cel x s ∧ cel x s < cells x:=by
  have a:=okL_iff.1 hx
  have b:=okM_iff.1 hs
  have h1:=qkS (a:=s.1 - x.1.1) (b:=s.2.1 + x.2.1) (w:=2 * x.2.1 + 1) (n:=x.1.2.1 - x.1.1 + 1) (by omega) (by omega) (by omega) (by omega) (by omega)
  have h2:=qkS (a:=(s.1 - x.1.1) * (2 * x.2.1 + 1) + (s.2.1 + x.2.1)) (b:=s.2.2.1 + x.2.2.1) (w:=2 * x.2.2.1 + 1) (n:=(x.1.2.1 - x.1.1 + 1) * (2 * x.2.1 + 1)) (by omega) (by omega) (by omega) h1.1 h1.2
  unfold cel cells
  rw [Int.add_assoc ((s.1 - x.1.1) * (2 * x.2.1 + 1)), Int.add_assoc (_ * (2 * x.2.2.1 + 1))]
  exact h2
theorem qnR {x:Lim} {s t:Mot} (hx:okL x = true) (hs:okM x s = true) (ht:okM x t = true) (h:cel x s = cel x t):s = t:=by
  have a:=okL_iff.1 hx
  have b:=okM_iff.1 hs
  have c:=okM_iff.1 ht
  unfold cel at h
  rw [Int.add_assoc (_ * (2 * x.2.2.1 + 1)), Int.add_assoc (_ * (2 * x.2.2.1 + 1))] at h
  obtain ⟨h1, h2⟩:=digit_eq (by omega) (by omega) (by omega) (by omega) (by omega) h
  rw [Int.add_assoc (_ * (2 * x.2.1 + 1)), Int.add_assoc (_ * (2 * x.2.1 + 1))] at h1
  obtain ⟨h3, h4⟩:=digit_eq (by omega) (by omega) (by omega) (by omega) (by omega) h1
  obtain ⟨s1, s2, s3, ⟨⟩⟩:=s
  obtain ⟨t1, t2, t3, ⟨⟩⟩:=t
  simp only at h2 h3 h4
  have e1:s1 = t1:=by omega
  have e2:s2 = t2:=by omega
  have e3:s3 = t3:=by omega
  rw [e1, e2, e3]
theorem qiz {x:Lim} (hx:okL x = true) (hw:x.1.1 ≤ x.1.2.1):0 ≤ cells x ∧ cells x ≤ 14399:=by
  have a:=okL_iff.1 hx
  unfold cells
  have h1:(x.1.2.1 - x.1.1 + 1) * (2 * x.2.1 + 1) ≤ 121 * 17:=Int.mul_le_mul (by omega) (by omega) (by omega) (by omega)
  have h0:0 ≤ (x.1.2.1 - x.1.1 + 1) * (2 * x.2.1 + 1):=Int.mul_nonneg (by omega) (by omega)
  have h2:=Int.mul_le_mul h1 (show 2 * x.2.2.1 + 1 ≤ 7 by omega) (by omega) (by omega)
  have h3:=Int.mul_nonneg h0 (show 0 ≤ 2 * x.2.2.1 + 1 by omega)
  omega
abbrev Qm (x:Lim) (s:Mot) (i:Nat):List (Mot×Nat×Int):=Bf.Q (nx x) s 0 i
theorem qqp {x:Lim} {s:Mot} (hs:okM x s = true) (i:Nat):∀ e, e ∈ Qm x s i → okM x e.1 = true :=
  Bf.Q_all (nx x) s 0 (fun a=>okM x a = true) hs (fun a _ e he=>qqd he) i
theorem qn5 {x:Lim} {s:Mot} (hx:okL x = true) (hw:x.1.1 ≤ x.1.2.1) (hs:okM x s = true) (i:Nat):(Qm x s i).length ≤ 14399 :=
  Nat.le_trans (Bf.Q_le (nx x) s 0 (fun a=>okM x a = true) hs (fun a _ e he=>qqd he) (fun a=>(cel x a).toNat) (cells x).toNat
    (fun a ha=>by have:=qgK hx ha; omega) (fun a b ha hb h=>qnR hx ha hb (by have:=qgK hx ha; have:=qgK hx hb; omega)) i)
    (by have:=qiz hx hw; omega)
theorem qgb {p:Nat → Bool} {n:Nat} (h:∃ j, j < n ∧ p j = true):∃ k, first p n 0 = some k ∧ k < n ∧ p k = true ∧ ∀ j, j < k → p j = false:=by
  cases e:first p n 0 with
  | none =>
    obtain ⟨j, h1, h2⟩:=h
    have:=qcO e j (by omega) (by omega)
    rw [this] at h2; cases h2
  | some k =>
    obtain ⟨_, h2, h3, h4⟩:=first_some e
    exact ⟨k, rfl, by omega, h3, fun j hj=>h4 j (by omega) hj⟩
theorem Qm_end {x:Lim} {s:Mot} (hx:okL x = true) (hw:x.1.1 ≤ x.1.2.1) (hs:okM x s = true):∃ n, n ≤ 14399 ∧ (Qm x s n).length = n ∧ ∀ j, j < n → j < (Qm x s j).length:=by
  obtain ⟨k, _, h1, h2, h3⟩:=qgb (p:=fun j=>decide ((Qm x s j).length ≤ j)) (n:=14400) ⟨14399, by omega, decide_eq_true (qn5 hx hw hs _)⟩
  have h4:∀ j, j < k → j < (Qm x s j).length:=fun j hj=>by have:=of_decide_eq_false (h3 j hj); omega
  exact ⟨k, by omega, Nat.le_antisymm (of_decide_eq_true h2) (Bf.Q_len (nx x) s 0 k h4), h4⟩
def mt0:Mot:=(0, 0, 0, ())
def mAt (q:List (Mot×Nat×Int)) (k:Nat):Mot:=(q.getD k (mt0, 0, 0)).1
def frm (q:List (Mot×Nat×Int)) (k:Nat):Nat:=(q.getD k (mt0, 0, 0)).2.1
theorem qj4 {q:List (Mot×Nat×Int)} {k:Nat} {e:Mot×Nat×Int} (h:q[k]? = some e):mAt q k = e.1:=by simp [mAt, h]
theorem qmO {q:List (Mot×Nat×Int)} {k:Nat} {e:Mot×Nat×Int} (h:q[k]? = some e):frm q k = e.2.1:=by simp [frm, h]
theorem qhL {κ ν:Type} [DecidableEq κ] {l:List (κ×ν)} {d:κ}:(l.find? fun p=>decide (d = p.1)) = none ↔ d ∉ l.map (·.1):=by
  induction l with
  | nil=>simp
  | cons p l ih =>
    rw [List.find?_cons, List.map_cons, List.mem_cons]
    by_cases h:d = p.1
    · simp [h]
    · simp only [h, decide_false, false_or]; exact ih
def bef (q:List (Mot×Nat×Int)):List (Mot×Mot):=q.map fun e=>(e.1, mAt q e.2.1)
theorem qfU (q:List (Mot×Nat×Int)):(bef q).map (·.1) = q.map (·.1):=by simp [bef]
theorem qpL {q r:List (Mot×Nat×Int)} (h:∀ e, e ∈ q → e.2.1 < q.length):bef (q++r) = bef q++r.map fun e=>(e.1, mAt (q++r) e.2.1):=by
  unfold bef
  rw [List.map_append]
  congr 1
  refine List.map_congr_left fun e he=>?_
  have hl:=h e he
  simp only [mAt, List.getD_eq_getElem?_getD, List.getElem?_append_left hl]
theorem qn6 {q:List (Mot×Nat×Int)} (hn:(q.map (·.1)).Nodup) {k:Nat} {e:Mot×Nat×Int} (h:q[k]? = some e):((bef q).find? fun p=>decide (e.1 = p.1)) = some (e.1, mAt q e.2.1):=by
  have hm:(e.1, mAt q e.2.1) ∈ bef q:=List.mem_map.2 ⟨e, List.mem_of_getElem? h, rfl⟩
  cases hf:(bef q).find? fun p=>decide (e.1 = p.1) with
  | none =>
    rw [qhL, qfU] at hf
    exact absurd (List.mem_map.2 ⟨e, List.mem_of_getElem? h, rfl⟩) hf
  | some p =>
    have h1:p.1 = e.1:=by have:=List.find?_some hf; simpa using (of_decide_eq_true this).symm
    have h2:=List.mem_of_find?_eq_some hf
    obtain ⟨e', he', rfl⟩:=List.mem_map.1 h2
    obtain ⟨k', hk'⟩:=List.getElem?_of_mem he'
    have h3:(q.map (·.1))[k]? = some e.1:=by rw [List.getElem?_map, h]; rfl
    have h4:(q.map (·.1))[k']? = some e.1:=by rw [List.getElem?_map, hk']; exact congrArg some h1
    have:k = k':=(List.getElem?_inj (by exact (List.getElem?_eq_some_iff.1 h3).1) hn).1 (h3.trans h4.symm)
    subst this
    rw [h] at hk'; cases hk'
    rfl
theorem qpe {q:List (Mot×Nat×Int)} (h:∀ e, e ∈ q → e.2.1 < q.length) {i:Nat} (hi:i < q.length) (n:Mot) (p:Int):bef (q++[(n, i, p)]) = bef q++[(n, mAt q i)]:=by
  rw [qpL h]
  simp only [List.map_cons, List.map_nil, mAt, List.getD_eq_getElem?_getD, List.getElem?_append_left hi]
def fnd (q:List (Mot×Nat×Int)):List (Mot×Int×Int×Unit):=(List.range q.length).map fun k=>(mAt q k, (if k = 0 then -1 else (frm q k:Int)), (q.getD k (mt0, 0, 0)).2.2, ())
theorem qgy (q:List (Mot×Nat×Int)):(fnd q).length = q.length:=by simp [fnd]
theorem qpS {q:List (Mot×Nat×Int)} (h:0 < q.length) (e:Mot×Nat×Int):fnd (q++[e]) = fnd q++[(e.1, (e.2.1:Int), e.2.2, ())]:=by
  unfold fnd
  rw [List.length_append, List.length_cons, List.length_nil, Nat.zero_add, List.range_succ, List.map_append]
  congr 1
  · refine List.map_congr_left fun k hk=>?_
    have:=List.mem_range.1 hk
    simp only [mAt, frm, List.getD_eq_getElem?_getD, List.getElem?_append_left this]
  · simp only [List.map_cons, List.map_nil, mAt, frm, List.getD_eq_getElem?_getD, List.getElem?_append_right (Nat.le_refl _), Nat.sub_self, List.getElem?_cons_zero, Option.getD_some]
    rw [if_neg (by omega)]
theorem qpv {q:List (Mot×Nat×Int)} {k:Nat} (h:k < q.length) (d:Mot×Int×Int×Unit):(fnd q).getD k d = (mAt q k, (if k = 0 then -1 else (frm q k:Int)), (q.getD k (mt0, 0, 0)).2.2, ()):=by
  simp [fnd, h]
def sn (x:Lim) (q:List (Mot×Nat×Int)):List Bool:=(List.range (cells x).toNat).map fun (c:Nat)=>q.any fun e=>decide (cel x e.1 = (c:Int))
theorem qqB (x:Lim) (q:List (Mot×Nat×Int)):(sn x q).length = (cells x).toNat:=by simp [sn]
theorem qqt {x:Lim} (hx:okL x = true) {q:List (Mot×Nat×Int)} (hq:∀ e, e ∈ q → okM x e.1 = true) {s:Mot} (hs:okM x s = true) (d:Bool):(sn x q).getD (cel x s).toNat d = Bf.has q s:=by
  have hb:=qgK hx hs
  have hc:((cel x s).toNat:Int) = cel x s:=by omega
  simp only [sn, List.getD_eq_getElem?_getD, List.getElem?_map, List.getElem?_range (show (cel x s).toNat < (cells x).toNat by omega), Option.map_some, Option.getD_some, hc]
  rw [Bool.eq_iff_iff, List.any_eq_true, Bf.has_iff, List.mem_map]
  constructor
  · rintro ⟨e, he, h⟩
    exact ⟨e, he, qnR hx (hq e he) hs (of_decide_eq_true h)⟩
  · rintro ⟨e, he, h⟩
    exact ⟨e, he, decide_eq_true (by rw [h])⟩
theorem qoV {x:Lim} (hx:okL x = true) (q:List (Mot×Nat×Int)) {e:Mot×Nat×Int} (hs:okM x e.1 = true):(sn x q).set (cel x e.1).toNat true = sn x (q++[e]):=by
  have hb:=qgK hx hs
  refine List.ext_getElem? fun c=>?_
  rw [List.getElem?_set]
  simp only [sn, List.length_map, List.length_range, List.getElem?_map, List.any_append, List.any_cons, List.any_nil, Bool.or_false]
  by_cases hc:(cel x e.1).toNat = c
  · rw [if_pos hc, if_pos (by omega), List.getElem?_range (by omega)]
    have:cel x e.1 = (c:Int):=by omega
    simp [this]
  · rw [if_neg hc]
    by_cases hl:c < (cells x).toNat
    · rw [List.getElem?_range hl]
      have:¬ cel x e.1 = (c:Int):=by omega
      simp [this]
    · rw [List.getElem?_eq_none (by simp; omega)]; rfl
theorem qqn (x:Lim):sn x [] = List.replicate (cells x).toNat false:=by
  refine List.ext_getElem? fun c=>?_
  rw [sn, List.getElem?_map, List.getElem?_replicate]
  by_cases h:c < (cells x).toNat
  · rw [List.getElem?_range h, if_pos h]; rfl
  · rw [if_neg h, List.getElem?_eq_none (by simp; omega)]; rfl
def endn (x:Lim) (s:Mot):Nat:=(first (fun j=>decide ((Qm x s j).length ≤ j)) 14400 0).getD 0
theorem qeI {x:Lim} {s:Mot} (hx:okL x = true) (hw:x.1.1 ≤ x.1.2.1) (hs:okM x s = true):endn x s ≤ 14399 ∧ (Qm x s (endn x s)).length = endn x s ∧ ∀ j, j < endn x s → j < (Qm x s j).length:=by
  obtain ⟨k, h0, h1, h2, h3⟩:=qgb (p:=fun j=>decide ((Qm x s j).length ≤ j)) (n:=14400) ⟨14399, by omega, decide_eq_true (qn5 hx hw hs _)⟩
  have h4:∀ j, j < k → j < (Qm x s j).length:=fun j hj=>by have:=of_decide_eq_false (h3 j hj); omega
  have he:endn x s = k:=by unfold endn; rw [h0]; rfl
  rw [he]
  exact ⟨by omega, Nat.le_antisymm (of_decide_eq_true h2) (Bf.Q_len (nx x) s 0 k h4), h4⟩
def stp (x:Lim) (s:Mot):Option Nat:=first (fun i=>rest (mAt (Qm x s i) i)) (endn x s) 0
def res (x:Lim) (s:Mot):Option (List Int):=(stp x s).map fun k=>Bf.tr (Qm x s k) k k
theorem qkM {x:Lim} {s:Mot} (hx:okL x = true) (hw:x.1.1 ≤ x.1.2.1) (hs:okM x s = true) {k:Nat} (h:stp x s = some k) :
    k < 14399 ∧ k < (Qm x s k).length ∧ Bf.Fin (nx x) s 0 (Qm x s k) k ∧ rest (mAt (Qm x s k) k) = true ∧ ∀ j, j < k → rest (mAt (Qm x s k) j) = false:=by
  obtain ⟨e1, e2, e3⟩:=qeI hx hw hs
  obtain ⟨_, h2, h3, h4⟩:=first_some h
  have hl:=e3 k (by omega)
  refine ⟨by omega, hl, Bf.Q_fin (nx x) s 0 k (fun j hj=>e3 j (by omega)) (Nat.le_of_lt hl), h3, fun j hj=>?_⟩
  have:=h4 j (by omega) hj
  obtain ⟨r, hr⟩:=Bf.Q_mono (nx x) s 0 (show j ≤ k by omega)
  have hj':=e3 j (by omega)
  rw [show mAt (Qm x s k) j = mAt (Qm x s j) j by simp only [mAt, Qm, List.getD_eq_getElem?_getD, hr, List.getElem?_append_left hj']]
  exact this
theorem qdw {q:List (Mot×Nat×Int)} {k:Nat} (h:k < q.length):q[k]? = some q[k] ∧ mAt q k = q[k].1 ∧ frm q k = q[k].2.1:=⟨List.getElem?_eq_getElem h, qj4 (List.getElem?_eq_getElem h), qmO (List.getElem?_eq_getElem h)⟩
theorem qoy {x:Lim} {s:Mot} (hx:okL x = true) (hw:x.1.1 ≤ x.1.2.1) (hs:okM x s = true) {l:List Int} (h:res x s = some l):l.length ≤ 14399 ∧ ∃ c, Bf.Path (nx x) s l c ∧ rest c = true:=by
  unfold res at h
  cases hk:stp x s with
  | none=>rw [hk] at h; cases h
  | some k =>
    rw [hk] at h
    cases h
    obtain ⟨h1, h2, F, h4, _⟩:=qkM hx hw hs hk
    obtain ⟨h5, h6, _⟩:=qdw h2
    refine ⟨Nat.le_trans (Bf.tr_len _ k k) (by omega), _, Bf.tr_path F k _ h5, ?_⟩
    rw [← h6]; exact h4
theorem qpq {x:Lim} {s:Mot} (hx:okL x = true) (hw:x.1.1 ≤ x.1.2.1) (hs:okM x s = true) {l':List Int} {c:Mot} (h:Bf.Path (nx x) s l' c) (hc:rest c = true):∃ l, res x s = some l ∧ l.length ≤ l'.length:=by
  cases hk:stp x s with
  | some k =>
    obtain ⟨h1, h2, F, h4, h5⟩:=qkM hx hw hs hk
    obtain ⟨e, he, hl⟩:=Bf.path_goal F rest (fun j e hj he=>by rw [← qj4 he]; exact h5 j hj) h hc
    exact ⟨_, by unfold res; rw [hk]; rfl, hl⟩
  | none =>
    obtain ⟨e1, e2, e3⟩:=qeI hx hw hs
    have F:=Bf.Q_fin (nx x) s 0 (endn x s) e3 (Nat.le_of_eq e2.symm)
    have hn:=qcO hk
    obtain ⟨e, he, hl⟩:=Bf.path_goal F rest (fun j e hj he=>by
      have h1:=hn j (by omega) (by omega)
      obtain ⟨r, hr⟩:=Bf.Q_mono (nx x) s 0 (show j ≤ endn x s by omega)
      have hj':=e3 j hj
      rw [← qj4 he, show mAt (Qm x s (endn x s)) j = mAt (Qm x s j) j by simp only [mAt, Qm, List.getD_eq_getElem?_getD, hr, List.getElem?_append_left hj']]
      exact h1) h hc
    have h9:endn x s < (Qm x s (endn x s)).length:=(List.getElem?_eq_some_iff.1 he).1
    omega
def go (x:Lim) (s:Mot):List Int → Option Mot
  | []=>some s
  | p :: l=>if prm x s p = true then go x (mvd s p) l else none
theorem qo0 {x:Lim}:∀ (l m:List Int) (s:Mot), go x s (l++m) = (go x s l).bind fun b=>go x b m
  | [], m, s=>rfl
  | p :: l, m, s=>by
    simp only [List.cons_append, go]
    split
    · exact qo0 l m _
    · rfl
theorem qpr {x:Lim} {s:Mot} {l:List Int} {c:Mot} (h:Bf.Path (nx x) s l c):go x s l = some c:=by
  induction h with
  | nil=>rfl
  | snoc h hx ih =>
    obtain ⟨h1, h2⟩:=nx_mem.1 hx
    simp only at h1 h2
    rw [qo0, ih]
    simp only [Option.bind, go]
    rw [if_pos h1, h2]
theorem qmp {x:Lim} {s:Mot}:∀ (l m:List Int) (b c:Mot), Bf.Path (nx x) s l b → go x b m = some c → Bf.Path (nx x) s (l++m) c
  | l, [], b, c, h, hg=>by simp only [go] at hg; cases hg; rw [List.append_nil]; exact h
  | l, p :: m, b, c, h, hg=>by
    simp only [go] at hg
    split at hg
    · rename_i hp
      have:=qmp (l++[p]) m (mvd b p) c (.snoc h (nx_mem.2 ⟨hp, rfl⟩)) hg
      rwa [List.append_assoc] at this
    · cases hg
theorem go_iff {x:Lim} {s:Mot} {l:List Int} {c:Mot}:Bf.Path (nx x) s l c ↔ go x s l = some c :=
  ⟨qpr, fun h=>qmp [] l s c (.nil s) h⟩
theorem qqM {x:Lim}:∀ (l:List Int) (s c:Mot), okM x s = true → go x s l = some c → okM x c = true
  | [], s, c, h, hg=>by simp only [go] at hg; cases hg; exact h
  | p :: l, s, c, h, hg=>by
    simp only [go] at hg
    split at hg
    · rename_i hp; exact qqM l _ c (prm_iff.1 hp).2.2 hg
    · cases hg
theorem qnX {x:Lim} (hx:okL x = true) (hw:x.1.1 ≤ x.1.2.1) {s:Mot} (hs:okM x s = true) {l:List Int} (h:res x s = some l):∃ c, go x s l = some c ∧ rest c = true :=
  let ⟨_, c, h1, h2⟩:=qoy hx hw hs h; ⟨c, go_iff.1 h1, h2⟩
theorem qgm {x:Lim} (hx:okL x = true) (hw:x.1.1 ≤ x.1.2.1) {s:Mot} (hs:okM x s = true) {l':List Int} {c:Mot} (h:go x s l' = some c) (hc:rest c = true):∃ l, res x s = some l ∧ l.length ≤ l'.length :=
  qpq hx hw hs (go_iff.2 h) hc
theorem qqC {x:Lim} (hx:okL x = true) (hw:x.1.1 ≤ x.1.2.1) {s:Mot} (hs:okM x s = true) {p:Int} {l:List Int} (h:res x s = some (p :: l)):prm x s p = true ∧ ∃ m, res x (mvd s p) = some m ∧ m.length = l.length:=by
  obtain ⟨c, h1, h2⟩:=qnX hx hw hs h
  simp only [go] at h1
  split at h1
  · rename_i hp
    have ho:=(prm_iff.1 hp).2.2
    obtain ⟨m, h3, h4⟩:=qgm hx hw ho h1 h2
    obtain ⟨c', h5, h6⟩:=qnX hx hw ho h3
    obtain ⟨l0, h7, h8⟩:=qgm hx hw hs (l':=p :: m) (c:=c') (by simp only [go]; rw [if_pos hp]; exact h5) h6
    rw [h] at h7; cases h7
    simp only [List.length_cons] at h8
    exact ⟨hp, m, h3, by omega⟩
  · cases h1
theorem qqD {x:Lim} (hx:okL x = true) (hw:x.1.1 ≤ x.1.2.1) {s:Mot} (hs:okM x s = true) {l:List Int} (h:res x s = some l):l = [] ↔ rest s = true:=by
  constructor
  · rintro rfl
    obtain ⟨c, h1, h2⟩:=qnX hx hw hs h
    simp only [go] at h1; cases h1; exact h2
  · intro hr
    obtain ⟨l0, h1, h2⟩:=qgm hx hw hs (l':=[]) rfl hr
    rw [h] at h1; cases h1
    exact List.eq_nil_of_length_eq_zero (by simpa using h2)
theorem qoS {x y:Lim} (h1:y.1.1 ≤ x.1.1) (h2:x.1.2.1 ≤ y.1.2.1) (h3:x.2.1 ≤ y.2.1) (h4:x.2.2.1 ≤ y.2.2.1) (h5:x.2.2.2.1 ≤ y.2.2.2.1) {s:Mot} {p:Int} (h:prm x s p = true):prm y s p = true:=by
  obtain ⟨a, b, c⟩:=prm_iff.1 h
  have d:=okM_iff.1 c
  exact prm_iff.2 ⟨by omega, by omega, okM_iff.2 ⟨by omega, by omega, by omega⟩⟩
theorem qpN {x y:Lim} (h1:y.1.1 ≤ x.1.1) (h2:x.1.2.1 ≤ y.1.2.1) (h3:x.2.1 ≤ y.2.1) (h4:x.2.2.1 ≤ y.2.2.1) (h5:x.2.2.2.1 ≤ y.2.2.2.1):∀ (l:List Int) (s c:Mot), go x s l = some c → go y s l = some c
  | [], s, c, h=>h
  | p :: l, s, c, h=>by
    simp only [go] at h ⊢
    split at h
    · rename_i hp
      rw [if_pos (qoS h1 h2 h3 h4 h5 hp)]
      exact qpN h1 h2 h3 h4 h5 l _ c h
    · cases h
end Go.Vm.Mo

namespace Go.Vm.Mo
open Go
set_option linter.unusedVariables false
set_option linter.unusedSimpArgs false
def ng (y:Int):Int:=IntKind.wrap .i64 (0 - y)
theorem qgu {y:Int} (h1:-9223372036854775807 ≤ y) (h2:y ≤ 9223372036854775807):ng y = -y:=wn64 h1 h2
theorem qfW (b x:Int):f117 (b, [x], ()) = some (!wi (ng b) b x, ()):=by
  have e:=qgX (ng b) b x
  have h:IntKind.wrap .i64 (0 - b) = ng b:=rfl
  simp only [f117, t117, Tr.val_test, Tr.val_fin, g94, h, e, Option.isSome_some, Option.getD_some, if_true]
theorem qoM (b x y:Int):f117 (b, [x, y], ()) = some (!(wi (ng b) b x && wi (ng b) b y), ()):=by
  have e:=qpY (ng b) b x y
  have h:IntKind.wrap .i64 (0 - b) = ng b:=rfl
  simp only [f117, t117, Tr.val_test, Tr.val_fin, g94, h, e, Option.isSome_some, Option.getD_some, if_true]
def cT (x:Lim) (s:Mot):Bool:=wi x.1.1 x.1.2.1 s.1 && (wi (ng x.2.1) x.2.1 s.2.1 && wi (ng x.2.2.1) x.2.2.1 s.2.2.1)
theorem qpg {x:Lim} (hx:okL x = true) (s:Mot):cT x s = okM x s:=by
  have a:=okL_iff.1 hx
  unfold cT okM
  rw [qgu (by omega) (by omega), qgu (by omega) (by omega)]
theorem qkY (x:Lim) (s:Mot):f160 ((x, ()), s, ()) = some (cT x s, ()):=by
  have e1:=qgX x.1.1 x.1.2.1 s.1
  have e2:=qfW x.2.1 s.2.1
  have e3:=qfW x.2.2.1 s.2.2.1
  simp only [f160, t160, Tr.val_test, Tr.val_fin, g94, e1, g117, e2, e3, Option.isSome_some, Option.getD_some, if_true, cT]
  rcases Bool.eq_false_or_eq_true (wi x.1.1 x.1.2.1 s.1) with h | h <;> rcases Bool.eq_false_or_eq_true (wi (ng x.2.1) x.2.1 s.2.1) with h2 | h2 <;> simp [h, h2]
theorem qkU (x:Lim) (s:Mot):f123 (x, s, ()) = some (if cT x s = true then 0 else 2, ()):=by
  have e1:=qd7 (s.1, x.1.1, x.1.2.1, ())
  have e2:=qd7 (s.2.1, ng x.2.1, x.2.1, ())
  have e3:=qd7 (s.2.2.1, ng x.2.2.1, x.2.2.1, ())
  have h (b:Int):IntKind.wrap .i64 (0 - b) = ng b:=rfl
  simp only [f123, t123, Tr.val_test, Tr.val_fin, g25, h, e1, e2, e3, Option.isSome_some, Option.getD_some, if_true, cT, qch]
  rcases Bool.eq_false_or_eq_true (wi x.1.1 x.1.2.1 s.1) with h1 | h1 <;> rcases Bool.eq_false_or_eq_true (wi (ng x.2.1) x.2.1 s.2.1) with h2 | h2 <;> rcases Bool.eq_false_or_eq_true (wi (ng x.2.2.1) x.2.2.1 s.2.2.1) with h3 | h3 <;> simp [h1, h2, h3]
def lE (x:Lim):Int:=if okL x = true then (if x.1.1 ≤ x.1.2.1 then 0 else 9) else 2
theorem qph {x:Lim} (h:lE x = 0):okL x = true ∧ x.1.1 ≤ x.1.2.1:=by
  unfold lE at h
  split at h
  · split at h
    · exact ⟨by assumption, by assumption⟩
    · cases h
  · cases h
theorem qqv (x:Lim):f43 (x, ()) = some (lE x, ()):=by
  have e1:=qd7 (x.1.1, -60, 60, ())
  have e2:=qd7 (x.1.2.1, -60, 60, ())
  have e3:=qd7 (x.2.1, 1, 8, ())
  have e4:=qd7 (x.2.2.1, 1, 3, ())
  have e5:=qd7 (x.2.2.2.1, 1, 6, ())
  simp only [f43, t43, Tr.val_test, Tr.val_fin, g25, e1, e2, e3, e4, e5, Option.isSome_some, Option.getD_some, if_true, qau, lE, okL]
  rcases Bool.eq_false_or_eq_true (wi (-60) 60 x.1.1) with h1 | h1
  · rcases Bool.eq_false_or_eq_true (wi (-60) 60 x.1.2.1) with h2 | h2
    · rcases Bool.eq_false_or_eq_true (wi 1 8 x.2.1) with h3 | h3
      · rcases Bool.eq_false_or_eq_true (wi 1 3 x.2.2.1) with h4 | h4
        · rcases Bool.eq_false_or_eq_true (wi 1 6 x.2.2.2.1) with h5 | h5
          · by_cases hw:x.1.1 ≤ x.1.2.1 <;> simp [h1, h2, h3, h4, h5, hw]
          · simp [h1, h2, h3, h4, h5]
        · simp [h1, h2, h3, h4]
      · simp [h1, h2, h3]
    · simp [h1, h2]
  · simp [h1]
theorem qku (a b:Int):f79 ([a, b], ()) = some (qbr [a, b], ()):=qqf _ (by simp)
theorem qqy (x:Lim):f39 (x, ()) = some (lE x, ()):=by
  have n60:ng 60 = -60:=qgu (by omega) (by omega)
  have e1:=qoM 60 x.1.1 x.1.2.1
  rw [n60] at e1
  have e2:=qgX 1 8 x.2.1
  have e3:=qgX 1 3 x.2.2.1
  have e4:=qgX 1 6 x.2.2.2.1
  have w (b:Bool) (e:Int):f80 (b, e, ()) = some (if b = true then e else 0, ()):=qo8 _
  have w1:f80 (true, 2, ()) = some ((2:Int), ()):=w true 2
  have w2:=w (!decide (x.1.1 ≤ x.1.2.1)) 9
  have w3:=w (!wi 1 6 x.2.2.2.1) 2
  have z1:=qku (if (!wi 1 6 x.2.2.2.1) = true then 2 else 0) (if (!decide (x.1.1 ≤ x.1.2.1)) = true then 9 else 0)
  have z2:=qku 2 (if (!decide (x.1.1 ≤ x.1.2.1)) = true then 9 else 0)
  simp only [f39, t39, Tr.val_test, Tr.val_fin, g117, e1, g94, e2, e3, e4, qau, g80, w1, w2, w3, g79, z1, z2, Option.isSome_some, Option.getD_some, if_true, lE, okL]
  rcases Bool.eq_false_or_eq_true (wi (-60) 60 x.1.1) with h1 | h1
  · rcases Bool.eq_false_or_eq_true (wi (-60) 60 x.1.2.1) with h2 | h2
    · rcases Bool.eq_false_or_eq_true (wi 1 8 x.2.1) with h3 | h3
      · rcases Bool.eq_false_or_eq_true (wi 1 3 x.2.2.1) with h4 | h4
        · rcases Bool.eq_false_or_eq_true (wi 1 6 x.2.2.2.1) with h5 | h5
          · by_cases hw:x.1.1 ≤ x.1.2.1 <;> simp [h1, h2, h3, h4, h5, hw, qbr]
          · simp [h1, h2, h3, h4, h5, qbr]
        · simp [h1, h2, h3, h4, qbr]
      · simp [h1, h2, h3, qbr]
    · simp [h1, h2, qbr]
  · simp [h1, qbr]
def mE (x:Lim) (s:Mot):Int:=if lE x = 0 then (if cT x s = true then 0 else 2) else lE x
theorem qp7 (x:Lim) (s:Mot):f44 (x, s, ()) = some (mE x s, ()):=by
  have e1:=qqv x
  have e2:=qkU x s
  simp only [f44, t44, Tr.val_test, Tr.val_fin, g43, e1, g123, e2, qch, Option.isSome_some, Option.getD_some, if_true, mE]
  by_cases h:lE x = 0 <;> simp [h]
theorem qpR (x:Lim) (s:Mot):f118 (x, s, ()) = some (if mE x s = 0 then ((x, ()), 0, ()) else ((((0, 0, ()), 0, 0, 0, ()), ()), mE x s, ())):=by
  have e1:=qqy x
  have e2:=qkY x s
  have w (b:Bool) (e:Int):f80 (b, e, ()) = some (if b = true then e else 0, ()):=qo8 _
  have w1:=w (!cT x s) 2
  have z1:=qku (lE x) (if (!cT x s) = true then 2 else 0)
  have hm:qbr [lE x, if (!cT x s) = true then 2 else 0] = mE x s:=by
    unfold mE
    by_cases h:lE x = 0
    · simp only [qbr, if_pos h]
      cases cT x s <;> rfl
    · simp only [qbr, if_neg h]
  rw [hm] at z1
  simp only [f118, t118, Tr.val_test, Tr.val_fin, g39, e1, g160, e2, g80, w1, g79, z1, qch, Option.isSome_some, Option.getD_some, if_true]
  by_cases h:mE x s = 0
  · rw [if_pos h, if_neg (by simp [h])]
  · rw [if_neg h, if_pos (by simp [h])]
theorem qnA {x:Lim} {s:Mot} (h:mE x s = 0):okL x = true ∧ x.1.1 ≤ x.1.2.1 ∧ okM x s = true:=by
  unfold mE at h
  split at h
  · rename_i hl
    obtain ⟨h1, h2⟩:=qph hl
    split at h
    · rename_i hc
      rw [qpg h1] at hc
      exact ⟨h1, h2, hc⟩
    · cases h
  · rename_i hl; exact absurd h hl
theorem qjZ (s:Mot) (p:Int) (hs:-1000 ≤ s.1 ∧ s.1 ≤ 1000) (hs2:-1000 ≤ s.2.1 ∧ s.2.1 ≤ 1000) (hp:-1000 ≤ p ∧ p ≤ 1000):f121 (s, p, ()) = some (mvd s p, ()):=by
  have w1:wrap64 (s.2.1 + p) = s.2.1 + p:=qad (by omega) (by omega)
  have w2:wrap64 (s.1 + (s.2.1 + p)) = s.1 + (s.2.1 + p):=qad (by omega) (by omega)
  simp only [f121, t121, Tr.val_fin, w1, w2, mvd]
theorem qpQ (s:Mot):f122 (s, ()) = some (rest s, ()):=by
  simp only [f122, t122, Tr.val_test, Tr.val_fin, qch, rest]
  by_cases h:s.2.1 = 0 <;> simp [h]
theorem qp9 (s:Mot):f49 (s, ()) = some (rest s, ()):=by
  simp only [f49, t49, Tr.val_test, Tr.val_fin, qch, rest]
  by_cases h:s.2.1 = 0 <;> simp [h]
theorem qgM {x:Lim} {s:Mot} (hx:okL x = true) (hs:okM x s = true):(-60 ≤ s.1 ∧ s.1 ≤ 60) ∧ (-8 ≤ s.2.1 ∧ s.2.1 ≤ 8) ∧ (-3 ≤ s.2.2.1 ∧ s.2.2.1 ≤ 3):=by
  have a:=okL_iff.1 hx
  have b:=okM_iff.1 hs
  omega
theorem qnY {x:Lim} {s:Mot} (hx:okL x = true) (hs:okM x s = true) (p:Int):f120 ((x, ()), s, p, ()) = some (prm x s p, ()):=by
  have a:=okL_iff.1 hx
  have b:=qgM hx hs
  have e1:=qfW x.2.2.1 p
  rw [qgu (by omega) (by omega)] at e1
  simp only [f120, t120, Tr.val_test, Tr.val_fin, g117, e1, Option.isSome_some, Option.getD_some, if_true, prm, Bool.not_not]
  rcases Bool.eq_false_or_eq_true (wi (-x.2.2.1) x.2.2.1 p) with h1 | h1
  · have hp:=wi_iff.1 h1
    have w:wrap64 (p - s.2.2.1) = p - s.2.2.1:=qad (by omega) (by omega)
    have e2:=qfW x.2.2.2.1 (p - s.2.2.1)
    rw [qgu (by omega) (by omega)] at e2
    have hw:wi (-x.2.2.2.1) x.2.2.2.1 (p - s.2.2.1) = wi (s.2.2.1 - x.2.2.2.1) (s.2.2.1 + x.2.2.2.1) p:=by
      rw [Bool.eq_iff_iff, wi_iff, wi_iff]; omega
    rw [hw] at e2
    have e3:=qjZ s p (by omega) (by omega) (by omega)
    have e4:=qkY x (mvd s p)
    rw [qpg hx] at e4
    simp only [h1, w, e2, g121, e3, g160, e4, Option.isSome_some, Option.getD_some, if_true, Bool.true_and, Bool.not_not]
    rcases Bool.eq_false_or_eq_true (wi (s.2.2.1 - x.2.2.2.1) (s.2.2.1 + x.2.2.2.1) p) with h2 | h2 <;> simp [h2]
  · simp [h1]
theorem qoU {x:Lim} {s:Mot} (hx:okL x = true) (hs:okM x s = true) (p:Int):f50 (x, s, p, ()) = some (if prm x s p = true then (mvd s p, true, ()) else (mt0, false, ())):=by
  have a:=okL_iff.1 hx
  have b:=qgM hx hs
  have h (b:Int):IntKind.wrap .i64 (0 - b) = ng b:=rfl
  have e1:=qd7 (p, ng x.2.2.1, x.2.2.1, ())
  rw [qgu (by omega) (by omega)] at e1
  have n1:ng x.2.2.1 = -x.2.2.1:=qgu (by omega) (by omega)
  have w1:wrap64 (s.2.2.1 - x.2.2.2.1) = s.2.2.1 - x.2.2.2.1:=qad (by omega) (by omega)
  have w2:wrap64 (s.2.2.1 + x.2.2.2.1) = s.2.2.1 + x.2.2.2.1:=qad (by omega) (by omega)
  have e2:=qd7 (p, s.2.2.1 - x.2.2.2.1, s.2.2.1 + x.2.2.2.1, ())
  simp only [f50, t50, Tr.val_test, Tr.val_fin, g25, h, n1, e1, w1, w2, e2, Option.isSome_some, Option.getD_some, if_true, prm, qch]
  rcases Bool.eq_false_or_eq_true (wi (-x.2.2.1) x.2.2.1 p) with h1 | h1
  · have hp:=wi_iff.1 h1
    have w3:wrap64 (s.2.1 + p) = s.2.1 + p:=qad (by omega) (by omega)
    have w4:wrap64 (s.1 + (s.2.1 + p)) = s.1 + (s.2.1 + p):=qad (by omega) (by omega)
    have e3:=qkU x (mvd s p)
    rw [qpg hx] at e3
    have e3:f123 (x, (s.1 + (s.2.1 + p), s.2.1 + p, p, ()), ()) = some (if okM x (mvd s p) = true then 0 else 2, ()):=e3
    simp only [h1, w3, w4, g123, e3, Option.isSome_some, Option.getD_some, if_true]
    rcases Bool.eq_false_or_eq_true (wi (s.2.2.1 - x.2.2.2.1) (s.2.2.1 + x.2.2.2.1) p) with h2 | h2
    · rcases Bool.eq_false_or_eq_true (okM x (mvd s p)) with h3 | h3
      · simp only [h2, h3, Bool.not_true, Bool.false_eq_true, if_false, if_true, decide_true, Bool.and_self]
        rfl
      · simp only [h2, h3, Bool.not_true, Bool.false_eq_true, if_false, Bool.and_false]
        rfl
    · simp [h2, mt0]
  · simp [h1, mt0]
theorem qnq {x:Lim} {s:Mot} (hx:okL x = true) (hs:okM x s = true):f124 (x, s, ()) = some (cel x s, ()):=by
  have a:=okL_iff.1 hx
  have c:=okM_iff.1 hs
  have b:=qgM hx hs
  have h1:0 ≤ (s.1 - x.1.1) * (2 * x.2.1 + 1) ∧ (s.1 - x.1.1) * (2 * x.2.1 + 1) ≤ 120 * 17:=⟨Int.mul_nonneg (by omega) (by omega), Int.mul_le_mul (by omega) (by omega) (by omega) (by omega)⟩
  have h2:0 ≤ ((s.1 - x.1.1) * (2 * x.2.1 + 1) + s.2.1 + x.2.1) * (2 * x.2.2.1 + 1) ∧ ((s.1 - x.1.1) * (2 * x.2.1 + 1) + s.2.1 + x.2.1) * (2 * x.2.2.1 + 1) ≤ 2100 * 7:=⟨Int.mul_nonneg (by omega) (by omega), Int.mul_le_mul (by omega) (by omega) (by omega) (by omega)⟩
  have w1:wrap64 (s.1 - x.1.1) = s.1 - x.1.1:=qad (by omega) (by omega)
  have w2:wrap64 (2 * x.2.1) = 2 * x.2.1:=qad (by omega) (by omega)
  have w3:wrap64 (2 * x.2.1 + 1) = 2 * x.2.1 + 1:=qad (by omega) (by omega)
  have w4:wrap64 (2 * x.2.2.1) = 2 * x.2.2.1:=qad (by omega) (by omega)
  have w5:wrap64 (2 * x.2.2.1 + 1) = 2 * x.2.2.1 + 1:=qad (by omega) (by omega)
  have w6:wrap64 ((s.1 - x.1.1) * (2 * x.2.1 + 1)) = (s.1 - x.1.1) * (2 * x.2.1 + 1):=qad (by omega) (by omega)
  have w7:wrap64 ((s.1 - x.1.1) * (2 * x.2.1 + 1) + s.2.1) = (s.1 - x.1.1) * (2 * x.2.1 + 1) + s.2.1:=qad (by omega) (by omega)
  have w8:wrap64 ((s.1 - x.1.1) * (2 * x.2.1 + 1) + s.2.1 + x.2.1) = (s.1 - x.1.1) * (2 * x.2.1 + 1) + s.2.1 + x.2.1:=qad (by omega) (by omega)
  have w9:wrap64 (((s.1 - x.1.1) * (2 * x.2.1 + 1) + s.2.1 + x.2.1) * (2 * x.2.2.1 + 1)) = ((s.1 - x.1.1) * (2 * x.2.1 + 1) + s.2.1 + x.2.1) * (2 * x.2.2.1 + 1):=qad (by omega) (by omega)
  have w10:wrap64 (((s.1 - x.1.1) * (2 * x.2.1 + 1) + s.2.1 + x.2.1) * (2 * x.2.2.1 + 1) + s.2.2.1) = ((s.1 - x.1.1) * (2 * x.2.1 + 1) + s.2.1 + x.2.1) * (2 * x.2.2.1 + 1) + s.2.2.1:=qad (by omega) (by omega)
  have w11:wrap64 (((s.1 - x.1.1) * (2 * x.2.1 + 1) + s.2.1 + x.2.1) * (2 * x.2.2.1 + 1) + s.2.2.1 + x.2.2.1) = ((s.1 - x.1.1) * (2 * x.2.1 + 1) + s.2.1 + x.2.1) * (2 * x.2.2.1 + 1) + s.2.2.1 + x.2.2.1:=qad (by omega) (by omega)
  simp only [f124, t124, Tr.val_fin, w1, w2, w3, w4, w5, w6, w7, w8, w9, w10, w11, cel]
end Go.Vm.Mo

namespace Go.Vm.Mo
open Go
set_option linter.unusedVariables false
set_option linter.unusedSimpArgs false
theorem kq (a b:Mot):qbh MT a b = decide (a = b):=by
  obtain ⟨a1, a2, a3, ⟨⟩⟩:=a
  obtain ⟨b1, b2, b3, ⟨⟩⟩:=b
  show (match qlE a1 b1 with | true=>(match qlE a2 b2 with | true=>(match qlE a3 b3 with | true=>true | false=>false) | false=>false) | false=>false) = _
  have hb (a b:Int):(a == b) = decide (a = b):=by by_cases h:a = b <;> simp [h]
  rw [qdQ, qdQ, qdQ, hb, hb, hb]
  by_cases h1:a1 = b1
  · by_cases h2:a2 = b2
    · by_cases h3:a3 = b3
      · subst h1 h2 h3; simp
      · have e:decide (((a1, a2, a3, ()):Mot) = (b1, b2, b3, ())) = false:=decide_eq_false fun e=>h3 (congrArg (fun m:Mot=>m.2.2.1) e)
        rw [decide_eq_true h1, decide_eq_true h2, decide_eq_false h3]
        exact e.symm
    · have e:decide (((a1, a2, a3, ()):Mot) = (b1, b2, b3, ())) = false:=decide_eq_false fun e=>h2 (congrArg (fun m:Mot=>m.2.1) e)
      rw [decide_eq_true h1, decide_eq_false h2]
      exact e.symm
  · have e:decide (((a1, a2, a3, ()):Mot) = (b1, b2, b3, ())) = false:=decide_eq_false fun e=>h1 (congrArg (fun m:Mot=>m.1) e)
    rw [decide_eq_false h1]
    exact e.symm
theorem qiE:∀ (l:List (Mot×Mot)) (d:Mot), qcP (k:=MT) (v:=MT) l d = (l.find? fun p=>decide (d = p.1)).map (·.2)
  | [], _=>rfl
  | p :: l, d=>by
    have ih:=qiE l d
    show (match qbh MT d p.1 with | true=>some p.2 | false=>qcP (k:=MT) (v:=MT) l d) = _
    rw [kq, List.find?_cons]
    by_cases h:d = p.1
    · simp only [decide_eq_true h]; rfl
    · simp only [decide_eq_false h]; exact ih
theorem qmI:∀ (l:List (Mot×Mot)) (d x:Mot), d ∉ l.map (·.1) → mput (k:=MT) (v:=MT) l d x = l++[(d, x)]
  | [], _, _, _=>rfl
  | p :: l, d, x, h=>by
    rw [List.map_cons, List.mem_cons, not_or] at h
    have ih:=qmI l d x h.2
    show (match qbh MT d p.1 with | true=>(d, x) :: l | false=>p :: mput (k:=MT) (v:=MT) l d x) = _
    rw [kq, decide_eq_false h.1]
    exact congrArg (p :: ·) ih
theorem qmB (q:List (Mot×Nat×Int)) (d:Mot):found (qcP (k:=MT) (v:=MT) (bef q) d) = Bf.has q d:=by
  rw [qiE]
  cases h:(bef q).find? fun p=>decide (d = p.1) with
  | none =>
    rw [qhL, qfU] at h
    simp [found, Bf.has, h]
  | some p =>
    have h1:=List.find?_some h
    have h2:=List.mem_of_find?_eq_some h
    have:d ∈ q.map (·.1):=by
      rw [← qfU, of_decide_eq_true h1]
      exact List.mem_map.2 ⟨p, h2, rfl⟩
    simp [found, Bf.has, this]
def ex1 (x:Lim) (now:Mot) (i:Nat) (q:List (Mot×Nat×Int)) (k:Nat):List (Mot×Nat×Int):=Bf.exts i q (nxU x now k)
theorem qh7 (x:Lim) (now:Mot) (i:Nat) (q:List (Mot×Nat×Int)) (k:Nat):ex1 x now i q (k + 1) = if prm x now ((k:Int) - x.2.2.1) = true then Bf.add i (ex1 x now i q k) ((k:Int) - x.2.2.1, mvd now ((k:Int) - x.2.2.1)) else ex1 x now i q k:=by
  unfold ex1 Bf.exts
  rw [nxU, List.foldl_append]
  split <;> rfl
theorem qkI (x:Lim) (now:Mot) (i:Nat) (q:List (Mot×Nat×Int)):∀ k, (ex1 x now i q k).length ≤ q.length + k
  | 0=>by simp [ex1, nxU, Bf.exts]
  | k + 1=>by
    have ih:=qkI x now i q k
    rw [qh7]
    split
    · unfold Bf.add
      split
      · omega
      · rw [List.length_append]; simp; omega
    · omega
theorem qmT (x:Lim) (now:Mot) (i:Nat) (q:List (Mot×Nat×Int)) (k:Nat):∃ r, ex1 x now i q k = q++r ∧ ∀ e, e ∈ r → e.2.1 = i :=
  let ⟨r, h1, h2⟩:=Bf.exts_pre i (nxU x now k) q; ⟨r, h1, fun e he=>(h2 e he).1⟩
theorem l162 {x:Lim} (hx:okL x = true) {now:Mot} (hs:okM x now = true) {i:Nat} {q:List (Mot×Nat×Int)} (hi:i < q.length) (hn:mAt q i = now) (hq:∀ e, e ∈ q → e.2.1 < q.length) (hl:q.length ≤ 1000000) :
    l162_0 ((-x.2.2.1, ()), (), (x.1.1, x.1.2.1, x.2.1, x.2.2.1, x.2.2.2.1, ()), now, (q.map (·.1), ()), (), now, bef q, ()) = some (.inl ((), (), (x.1.1, x.1.2.1, x.2.1, x.2.2.1, x.2.2.2.1, ()), now, ((Bf.exts i q (nx x now)).map (·.1), ()), (), now, bef (Bf.exts i q (nx x now)), ())):=by
  have a:=okL_iff.1 hx
  have b:=qgM hx hs
  have key:=qcd (step:=s162_0) (fun k=>(((k:Int) - x.2.2.1, ()), (), (x.1.1, x.1.2.1, x.2.1, x.2.2.1, x.2.2.2.1, ()), now, ((ex1 x now i q k).map (·.1), ()), (), now, bef (ex1 x now i q k), ()))
    (b:=((), (), (x.1.1, x.1.2.1, x.2.1, x.2.2.1, x.2.2.2.1, ()), now, ((ex1 x now i q (2 * x.2.2.1 + 1).toNat).map (·.1), ()), (), now, bef (ex1 x now i q (2 * x.2.2.1 + 1).toNat), ())) (n:=(2 * x.2.2.1 + 1).toNat) (m:=rounds) ?_ ?_ (qaN (by omega))
  · have h0:(((0:Nat):Int) - x.2.2.1) = -x.2.2.1:=by omega
    have h1:ex1 x now i q 0 = q:=rfl
    rw [h0, h1] at key
    exact key
  · intro k hk
    obtain ⟨r, hr, hrf⟩:=qmT x now i q k
    have hlen:=qkI x now i q k
    have hnow:mAt (ex1 x now i q k) i = now:=by
      rw [hr]; simp only [mAt, List.getD_eq_getElem?_getD, List.getElem?_append_left hi] at hn ⊢; exact hn
    have hge:q.length ≤ (ex1 x now i q k).length:=by rw [hr, List.length_append]; omega
    have hfrom:∀ e, e ∈ ex1 x now i q k → e.2.1 < (ex1 x now i q k).length:=by
      intro e he
      rw [hr] at he
      rcases List.mem_append.1 he with he | he
      · have:=hq e he; omega
      · have:=hrf e he; omega
    have e1:=qnY hx hs ((k:Int) - x.2.2.1)
    have w:wrap64 ((k:Int) - x.2.2.1 + 1) = ((k + 1:Nat):Int) - x.2.2.1:=by
      rw [qad (by omega) (by omega)]; omega
    rw [qh7]
    generalize ex1 x now i q k = E at hr hlen hnow hge hfrom ⊢
    have hk2:(k:Int) - x.2.2.1 ≤ x.2.2.1 ∧ -3 ≤ (k:Int) - x.2.2.1 ∧ (k:Int) - x.2.2.1 ≤ 3:=by omega
    have hk3:k ≤ 7:=by omega
    obtain ⟨⟨lo, hi', ⟨⟩⟩, sp, pu, je, ⟨⟩⟩:=x
    obtain ⟨n1, n2, n3, ⟨⟩⟩:=now
    simp only at e1 w a b hk2
    simp only [s162_0, t162_0, Tr.val_test, Tr.val_fin, qau, g120, e1, w, Option.isSome_some, Option.getD_some, if_true, dT hk2.1]
    rcases Bool.eq_false_or_eq_true (prm ((lo, hi', ()), sp, pu, je, ()) (n1, n2, n3, ()) ((k:Int) - pu)) with hp | hp
    · have e2:=qjZ (n1, n2, n3, ()) ((k:Int) - pu) (by simp only; omega) (by simp only; omega) ⟨by omega, by omega⟩
      have e3:=qmB E (mvd (n1, n2, n3, ()) ((k:Int) - pu))
      have hm:mvd (n1, n2, n3, ()) ((k:Int) - pu) = ((mvd (n1, n2, n3, ()) ((k:Int) - pu)).1, (mvd (n1, n2, n3, ()) ((k:Int) - pu)).2.1, (mvd (n1, n2, n3, ()) ((k:Int) - pu)).2.2.1, ()):=rfl
      simp only [hp, g121, e2, Option.isSome_some, Option.getD_some, if_true, ← hm, e3, Bf.add]
      rcases Bool.eq_false_or_eq_true (Bf.has E (mvd (n1, n2, n3, ()) ((k:Int) - pu))) with hh | hh
      · simp only [hh, Bool.not_true, Bool.false_eq_true, if_false, if_true]
      · have hno:mvd (n1, n2, n3, ()) ((k:Int) - pu) ∉ (bef E).map (·.1):=by
          rw [qfU]
          intro hmem
          rw [Bf.has_iff.2 hmem] at hh; cases hh
        have e4:=qmI _ _ (n1, n2, n3, ()) hno
        have e5:=qpe hfrom (show i < E.length by omega) (mvd (n1, n2, n3, ()) ((k:Int) - pu)) ((k:Int) - pu)
        rw [hnow] at e5
        simp only [hh, Bool.not_false, Bool.false_eq_true, if_false, if_true, e4, e5, List.map_append, List.map_cons, List.map_nil, List.length_map]
        rw [if_pos (by simp only [Bool.and_eq_true, qan]; omega)]
    · simp only [hp, Bool.false_eq_true, if_false]
  · obtain ⟨⟨lo, hi', ⟨⟩⟩, sp, pu, je, ⟨⟩⟩:=x
    simp only at a
    simp only [s162_0, t162_0, Tr.val_test, Tr.val_fin, qau]
    rw [if_neg (by simp; omega)]
theorem eqM (a s:Mot):(a.1 == s.1 && (a.2.1 == s.2.1 && (a.2.2.1 == s.2.2.1 && true))) = decide (a = s):=by
  obtain ⟨a1, a2, a3, ⟨⟩⟩:=a
  obtain ⟨s1, s2, s3, ⟨⟩⟩:=s
  by_cases h1:a1 = s1 <;> by_cases h2:a2 = s2 <;> by_cases h3:a3 = s3 <;> simp [h1, h2, h3]
theorem qo7 {x:Lim} {s:Mot} {q:List (Mot×Nat×Int)} {n:Nat} (F:Bf.Fin (nx x) s 0 q n) {k:Nat} (hk:k < q.length):qeH (qcP (k:=MT) (v:=MT) (bef q) (mAt q k)) ((0:Int), (0:Int), (0:Int), ()) = mAt q (frm q k):=by
  obtain ⟨h1, h2, h3⟩:=qdw hk
  rw [qiE, h2, qn6 F.nodup h1]
  show mAt q q[k].2.1 = _
  rw [h3]
theorem qnT {q:List (Mot×Nat×Int)} {k t:Nat} (h:Bf.bk q k t < q.length):Bf.bk q k (t + 1) = frm q (Bf.bk q k t):=by
  obtain ⟨h1, h2, h3⟩:=qdw h
  simp only [Bf.bk, h1, h3]
theorem qnC {x:Lim} {s:Mot} {q:List (Mot×Nat×Int)} {n:Nat} (F:Bf.Fin (nx x) s 0 q n) {k:Nat} (hk:k < q.length) (h0:0 < k):frm q k < k ∧ (q.getD k (mt0, 0, 0)).2.2 = (mAt q k).2.2.1:=by
  obtain ⟨h1, h2, h3⟩:=qdw hk
  obtain ⟨h4, e', h5, h6⟩:=F.frm k _ h0 h1
  refine ⟨by rw [h3]; exact h4, ?_⟩
  have:=(nx_mem.1 h6).2
  simp only at this
  rw [h2, this]
  simp only [List.getD_eq_getElem?_getD, h1, Option.getD_some, mvd]
theorem qnW {x:Lim} {s:Mot} {q:List (Mot×Nat×Int)} {n:Nat} (F:Bf.Fin (nx x) s 0 q n) {k t:Nat} (h:Bf.bk q k t < q.length) (h0:0 < Bf.bk q k t):Bf.pl q k (t + 1) = Bf.pl q k t++[(mAt q (Bf.bk q k t)).2.2.1]:=by
  obtain ⟨h1, h2, h3⟩:=qdw h
  have h4:=(qnC F h h0).2
  rw [← h4]
  simp only [Bf.pl, h1, List.getD_eq_getElem?_getD, Option.getD_some]
theorem l161 {x:Lim} {s:Mot} {q:List (Mot×Nat×Int)} {n:Nat} (F:Bf.Fin (nx x) s 0 q n) {k:Nat} (hk:k < q.length) (hl:q.length ≤ 1000000) :
    l161_0 (([], ()), bef q, mAt q k, ()) = some (.inl ((Bf.pl q k (Bf.tr q k k).length, ()), bef q, mAt q (Bf.bk q k (Bf.tr q k k).length), ())):=by
  have hD:=Bf.tr_len q k k
  refine qcd (fun t=>((Bf.pl q k t, ()), bef q, mAt q (Bf.bk q k t), ())) (n:=(Bf.tr q k k).length) ?_ ?_ (qaN (by omega))
  · intro t ht
    obtain ⟨h1, h2, h3⟩:=Bf.bk_tr F hk t (by omega)
    have h4:=Bf.bk_pos F hk ht
    have h5:=qo7 F h1
    have h6:=(qnC F h1 h4).1
    have hne:mAt q (frm q (Bf.bk q k t)) ≠ mAt q (Bf.bk q k t):=by
      intro e
      have:=F.inj (qdw (show frm q (Bf.bk q k t) < q.length by omega)).1 (qdw h1).1 (by rw [← (qdw (show frm q (Bf.bk q k t) < q.length by omega)).2.1, ← (qdw h1).2.1]; exact e)
      omega
    have h7:=eqM (mAt q (frm q (Bf.bk q k t))) (mAt q (Bf.bk q k t))
    rw [decide_eq_false hne] at h7
    rw [qnW F h1 h4, qnT h1]
    have hm:((mAt q (Bf.bk q k t)).1, (mAt q (Bf.bk q k t)).2.1, (mAt q (Bf.bk q k t)).2.2.1, ()) = mAt q (Bf.bk q k t):=rfl
    have hm2:((mAt q (frm q (Bf.bk q k t))).1, (mAt q (frm q (Bf.bk q k t))).2.1, (mAt q (frm q (Bf.bk q k t))).2.2.1, ()) = mAt q (frm q (Bf.bk q k t)):=rfl
    simp only [s161_0, t161_0, Tr.val_test, Tr.val_fin, hm, h5, h7, hm2, Bool.not_false, if_true, h3]
    rw [if_pos (by simp only [Bool.and_eq_true, qan]; omega)]
  · obtain ⟨h1, h2, h3⟩:=Bf.bk_tr F hk _ (Nat.le_refl _)
    have h4:=(Bf.bk_end F hk).1
    have h5:=qo7 F h1
    have h6:frm q 0 = 0:=by rw [qmO F.zero]
    rw [h4] at h5 ⊢
    rw [h6] at h5
    have h7:=eqM (mAt q 0) (mAt q 0)
    rw [decide_eq_true rfl] at h7
    have hm:((mAt q 0).1, (mAt q 0).2.1, (mAt q 0).2.2.1, ()) = mAt q 0:=rfl
    simp only [s161_0, t161_0, Tr.val_test, Tr.val_fin, hm, h5, h7, Bool.not_true, Bool.false_eq_true, if_false]
def rv (L:List Int) (t:Nat):List Int:=(List.range L.length).map fun j=>if j < t ∨ L.length - t ≤ j then L.getD (L.length - 1 - j) 0 else L.getD j 0
theorem qhf (L:List Int) (t:Nat):(rv L t).length = L.length:=by simp [rv]
theorem qfC (L:List Int) (t:Nat) {j:Nat} (h:j < L.length):(rv L t)[j]? = some (if j < t ∨ L.length - t ≤ j then L.getD (L.length - 1 - j) 0 else L.getD j 0):=by
  simp [rv, h]
theorem qp2 (L:List Int):rv L 0 = L:=by
  refine List.ext_getElem? fun j=>?_
  by_cases h:j < L.length
  · rw [qfC L 0 h, if_neg (by omega)]
    simp [h]
  · rw [List.getElem?_eq_none (by rw [qhf]; omega), List.getElem?_eq_none (by omega)]
theorem qpW (L:List Int) {t:Nat} (h:t + t + 1 < L.length):((rv L t).set t ((rv L t).getD (L.length - 1 - t) 0)).set (L.length - 1 - t) ((rv L t).getD t 0) = rv L (t + 1):=by
  refine List.ext_getElem? fun j=>?_
  rw [List.getElem?_set, List.getElem?_set]
  simp only [List.length_set, qhf]
  have g1:(rv L t).getD t 0 = L.getD t 0:=by
    rw [List.getD_eq_getElem?_getD, qfC L t (by omega), if_neg (by omega)]; rfl
  have g2:(rv L t).getD (L.length - 1 - t) 0 = L.getD (L.length - 1 - t) 0:=by
    rw [List.getD_eq_getElem?_getD, qfC L t (by omega), if_neg (by omega)]; rfl
  rw [g1, g2]
  by_cases h1:L.length - 1 - t = j
  · subst h1
    rw [if_pos rfl, if_pos (by omega), qfC L (t + 1) (by omega), if_pos (by omega)]
    congr 2; omega
  · rw [if_neg h1]
    by_cases h2:t = j
    · subst h2
      rw [if_pos rfl, if_pos (by omega), qfC L (t + 1) (by omega), if_pos (by omega)]
    · rw [if_neg h2]
      by_cases hj:j < L.length
      · rw [qfC L t hj, qfC L (t + 1) hj]
        by_cases h3:j < t ∨ L.length - t ≤ j
        · rw [if_pos h3, if_pos (by omega)]
        · rw [if_neg h3, if_neg (by omega)]
      · rw [List.getElem?_eq_none (by rw [qhf]; omega), List.getElem?_eq_none (by rw [qhf]; omega)]
theorem qp4 (L:List Int) {t:Nat} (h:L.length ≤ t + t + 1) (h2:t + t ≤ L.length):rv L t = L.reverse:=by
  refine List.ext_getElem? fun j=>?_
  by_cases hj:j < L.length
  · rw [qfC L t hj, List.getElem?_reverse hj, List.getElem?_eq_getElem (by omega)]
    congr 1
    by_cases h3:j < t ∨ L.length - t ≤ j
    · rw [if_pos h3, List.getD_eq_getElem?_getD, List.getElem?_eq_getElem (by omega)]; rfl
    · rw [if_neg h3, List.getD_eq_getElem?_getD, List.getElem?_eq_getElem (by omega)]
      simp only [Option.getD_some]
      congr 1; omega
  · rw [List.getElem?_eq_none (by rw [qhf]; omega), List.getElem?_eq_none (by simp; omega)]
theorem l155 (L:List Int) (h:1 ≤ L.length) (hl:L.length ≤ 1000000):l155_0 ((L.length, (0:Int), ((L.length - 1:Nat):Int), ()), L, ()) = some (.inl ((), L.reverse, ())):=by
  have key:=qcd (step:=s155_0) (fun t=>((L.length, (t:Int), ((L.length:Int) - 1 - (t:Int)), ()), rv L t, ())) (b:=((), rv L (L.length / 2), ())) (n:=L.length / 2) (m:=rounds) ?_ ?_ (qaN (by omega))
  · rw [qp2, qp4 L (by omega) (by omega)] at key
    have e:((L.length - 1:Nat):Int) = (L.length:Int) - 1 - ((0:Nat):Int):=by omega
    rw [e]
    exact key
  · intro t ht
    have hlen:=qhf L t
    have e:((L.length:Int) - 1 - (t:Int)).toNat = L.length - 1 - t:=by omega
    have w:wrap64 ((L.length:Int) - 1 - (t:Int) - 1) = (L.length:Int) - 1 - ((t + 1:Nat):Int):=by rw [qad (by omega) (by omega)]; omega
    simp only [s155_0, t155_0, Tr.val_test, Tr.val_fin, qau, Int.toNat_natCast, e, w, Nat.zero_add, List.length_set, hlen, qb1 (show t ≤ 9223372036854775806 by omega), qpW L (show t + t + 1 < L.length by omega)]
    rw [if_pos (by simp; omega), if_pos (by simp; omega), if_pos (by rw [qan]; omega), if_pos (by simp; omega), if_pos (by rw [qan]; omega), if_pos (by rw [qan]; omega)]
  · simp only [s155_0, t155_0, Tr.val_test, Tr.val_fin, qau]
    rw [if_neg (by simp; omega)]
end Go.Vm.Mo

namespace Go.Vm.Mo
open Go
set_option linter.unusedVariables false
set_option linter.unusedSimpArgs false
theorem qf9 {A B C:Type} {step:A → Option (Out A B C)} (st:Nat → A) (bad:Nat → Bool) (r:Nat → C) {n m:Nat} {b:B}
    (h:∀ i, i < n → (∀ j, j < i → bad j = false) → step (st i) = if bad i = true then some (.ret (r i)) else some (.again (st (i + 1)))) (hb:(∀ j, j < n → bad j = false) → step (st n) = some (.brk b)) (hm:n < m) :
    itr step m (st 0) = match first bad n 0 with
      | some k=>some (.inr (r k))
      | none=>some (.inl b):=by
  cases e:first bad n 0 with
  | none =>
    have hn:=qcO e
    have hg:∀ j, j < n → bad j = false:=fun j hj=>hn j (by omega) (by omega)
    exact qcd st (fun i hi=>by rw [h i hi fun j hj=>hg j (by omega), hg i hi]; rfl) (hb hg) hm
  | some k =>
    obtain ⟨_, k2, k3, k4⟩:=first_some e
    have hk:k < n:=by omega
    have hg:∀ j, j < k → bad j = false:=fun j hj=>k4 j (by omega) (by omega)
    exact qnx (n:=k) st (fun i hi=>by rw [h i (by omega) fun j hj=>hg j (by omega), hg i hi]; rfl) (by rw [h k hk hg, k3]; rfl) (by omega)
theorem qnw {x:Lim} {s:Mot} {i:Nat} (h:i < (Qm x s i).length):Qm x s (i + 1) = Bf.exts i (Qm x s i) (nx x (mAt (Qm x s i) i)):=by
  obtain ⟨h1, h2, _⟩:=qdw h
  have h3:(Bf.Q (nx x) s 0 i)[i]? = some (Qm x s i)[i]:=h1
  show Bf.Q (nx x) s 0 (i + 1) = _
  simp only [Bf.Q]
  rw [h3, h2]
theorem qpE {x:Lim} {s:Mot} {i:Nat} (h:∀ j, j < i → j < (Qm x s j).length) (hi:i < (Qm x s i).length):∀ e, e ∈ Qm x s i → e.2.1 < (Qm x s i).length:=by
  intro e he
  obtain ⟨k, hk⟩:=List.getElem?_of_mem he
  have hkl:k < (Qm x s i).length:=(List.getElem?_eq_some_iff.1 hk).1
  rcases Nat.eq_zero_or_pos k with rfl | h0
  · have:=Bf.Q_zero (nx x) s 0 i
    rw [hk] at this; cases this; show 0 < _; omega
  · have:=(Bf.Q_from (nx x) s 0 i h k e h0 hk).1
    omega
theorem qoY {x:Lim} {s:Mot} (hs:okM x s = true) {i k:Nat} (h:k < (Qm x s i).length):okM x (mAt (Qm x s i) k) = true:=by
  obtain ⟨h1, h2, _⟩:=qdw h
  rw [h2]
  exact qqp hs i _ (List.mem_of_getElem? h1)
theorem qoC {q:List (Mot×Nat×Int)} {k:Nat} (h:k < q.length):(q.map (·.1)).getD k ((0:Int), (0:Int), (0:Int), ()) = mAt q k:=by
  simp [mAt, h]
def qk0 (x:Lim) (s:Mot):Option ((Unit×(Int×Int×Int×Int×Int×Unit)×(List Mot×Unit)×Unit×List (Mot×Mot)×Unit) ⊕ ((List Int×Bool×Unit)×(Int×Int×Int×Int×Int×Unit)×(List Mot×Unit)×Unit×List (Mot×Mot)×Unit)) :=
  match stp x s with
  | some k=>some (.inr ((Bf.tr (Qm x s k) k k, true, ()), (x.1.1, x.1.2.1, x.2.1, x.2.2.1, x.2.2.2.1, ()), ((Qm x s k).map (·.1), ()), (), bef (Qm x s k), ()))
  | none=>some (.inl ((), (x.1.1, x.1.2.1, x.2.1, x.2.2.1, x.2.2.2.1, ()), ((Qm x s (endn x s)).map (·.1), ()), (), bef (Qm x s (endn x s)), ()))
theorem l119 {x:Lim} {s:Mot} (hx:okL x = true) (hw:x.1.1 ≤ x.1.2.1) (hs:okM x s = true) :
    l119_0 (((0:Int), ()), (x.1.1, x.1.2.1, x.2.1, x.2.2.1, x.2.2.2.1, ()), ([s], ()), (), [(s, s)], ()) = qk0 x s:=by
  obtain ⟨n1, n2, n3⟩:=qeI hx hw hs
  have key:=qf9 (step:=s119_0) (fun i=>(((i:Int), ()), (x.1.1, x.1.2.1, x.2.1, x.2.2.1, x.2.2.2.1, ()), ((Qm x s i).map (·.1), ()), (), bef (Qm x s i), ())) (fun i=>rest (mAt (Qm x s i) i))
    (fun k=>((Bf.tr (Qm x s k) k k, true, ()), (x.1.1, x.1.2.1, x.2.1, x.2.2.1, x.2.2.2.1, ()), ((Qm x s k).map (·.1), ()), (), bef (Qm x s k), ())) (n:=endn x s) (m:=rounds)
    (b:=((), (x.1.1, x.1.2.1, x.2.1, x.2.2.1, x.2.2.2.1, ()), ((Qm x s (endn x s)).map (·.1), ()), (), bef (Qm x s (endn x s)), ())) ?_ ?_ (qaN (by omega))
  · have h0:Qm x s 0 = [(s, 0, 0)]:=rfl
    have h1:bef [(s, 0, (0:Int))] = [(s, s)]:=rfl
    rw [h0, h1] at key
    exact key.trans (by unfold qk0 stp; split <;> rfl)
  · intro i hi hbad
    have hil:=n3 i hi
    have hjl:∀ j, j < i → j < (Qm x s j).length:=fun j hj=>n3 j (by omega)
    have hQl:(Qm x s i).length ≤ 14399:=qn5 hx hw hs i
    have hok:=qoY hs hil
    have e0:=qoC hil
    have e1:=qpQ (mAt (Qm x s i) i)
    have hm:((mAt (Qm x s i) i).1, (mAt (Qm x s i) i).2.1, (mAt (Qm x s i) i).2.2.1, ()) = mAt (Qm x s i) i:=rfl
    have a:=okL_iff.1 hx
    have hng:IntKind.wrap .i64 (0 - x.2.2.1) = -x.2.2.1:=qgu (by omega) (by omega)
    simp only [s119_0, t119_0, Tr.val_test, Tr.val_fin, qau, Int.toNat_natCast, e0, hm, g122, e1, List.length_map, Option.isSome_some, Option.getD_some, if_true, hng]
    rw [if_pos (by simp; omega), if_pos (by simp; omega)]
    rcases Bool.eq_false_or_eq_true (rest (mAt (Qm x s i) i)) with hr | hr
    · have F:=Bf.Q_fin (nx x) s 0 i hjl (Nat.le_of_lt hil)
      have e2:=l161 F hil (show (Qm x s i).length ≤ 1000000 by omega)
      obtain ⟨d1, d2⟩:=Bf.bk_end F hil
      have hD:(Bf.tr (Qm x s i) i i).length ≤ i:=Bf.tr_len _ i i
      rw [d2] at e2
      simp only [hr, if_true, e2, qbQ, b161_0, outB, Option.isSome_some, List.length_reverse]
      by_cases h0:1 ≤ (Bf.tr (Qm x s i) i i).length
      · have e3:=l155 (Bf.tr (Qm x s i) i i).reverse (by rw [List.length_reverse]; exact h0) (by rw [List.length_reverse]; omega)
        rw [List.reverse_reverse, List.length_reverse] at e3
        have w:wrap64 (((Bf.tr (Qm x s i) i i).length:Int) - 1) = (((Bf.tr (Qm x s i) i i).length - 1:Nat):Int):=by rw [qad (by omega) (by omega)]; omega
        rw [if_pos (by rw [qan]; exact h0)]
        simp only [w, e3, qbQ, b155_0, outB, Option.isSome_some, if_true]
        rw [if_pos (by rw [qiZ])]
      · have hz:Bf.tr (Qm x s i) i i = []:=List.eq_nil_of_length_eq_zero (by omega)
        rw [if_neg (by rw [qan]; exact h0)]
        have e4:l155_0_1 (((([]:List Int), (0:Int), (-1:Int), ())), ()) = some (.inl ((), ())):=by
          refine qcd (fun _=>(((([]:List Int), (0:Int), (-1:Int), ())), ())) (n:=0) (fun i hi=>by omega) ?_ (qaN (by omega))
          simp [s155_0_1, t155_0_1, qau]
        have w:wrap64 (((0:Nat):Int) - 1) = -1:=by rw [qad (by omega) (by omega)]; omega
        rw [hz]
        simp only [List.reverse_nil, List.length_nil, w, e4, if_true]
    · have e2:=l162 hx hok hil rfl (qpE hjl hil) (by omega)
      rw [← qnw hil] at e2
      simp only [hr, Bool.false_eq_true, if_false, e2, qbQ, b162_0, outB, Option.isSome_some, if_true, qb1 (show i ≤ 9223372036854775806 by omega)]
  · intro _
    simp only [s119_0, t119_0, Tr.val_test, Tr.val_fin, qau, List.length_map, n2]
    rw [if_neg (by simp)]
theorem qpK {x:Lim} {s:Mot} (hx:okL x = true) (hw:x.1.1 ≤ x.1.2.1) (hs:okM x s = true):f119 ((x, ()), s, ()) = some ((res x s).getD [], (res x s).isSome, ()):=by
  have e:=l119 hx hw hs
  have hm:mput (k:=MT) (v:=MT) [] (s.1, s.2.1, s.2.2.1, ()) (s.1, s.2.1, s.2.2.1, ()) = [(s, s)]:=rfl
  have hm2:(s.1, s.2.1, s.2.2.1, ()) = s:=rfl
  rw [hm2] at hm
  unfold res
  cases hk:stp x s with
  | none =>
    simp only [qk0, hk] at e
    simp only [f119, t119, Tr.val_test, Tr.val_fin, hm, hm2, e, qeA, Option.isSome_some, if_true, Bool.false_eq_true, if_false]
    rfl
  | some k =>
    simp only [qk0, hk] at e
    simp only [f119, t119, Tr.val_test, Tr.val_fin, hm, hm2, e, qeA, r119_0, outR, Option.isSome_some, if_true]
    rfl
end Go.Vm.Mo

namespace Go.Vm.Mo
open Go
set_option linter.unusedVariables false
set_option linter.unusedSimpArgs false
theorem qk8 {q:List (Mot×Nat×Int)} {k:Nat} (h:k < q.length):(fnd q).getD k (((0:Int), (0:Int), (0:Int), ()), (0:Int), (0:Int), ()) = (mAt q k, (if k = 0 then -1 else (frm q k:Int)), (q.getD k (mt0, 0, 0)).2.2, ()):=qpv h _
theorem l452 {x:Lim} {s:Mot} {q:List (Mot×Nat×Int)} {n:Nat} (F:Bf.Fin (nx x) s 0 q n) {k:Nat} (hk:k < q.length) (hl:q.length ≤ 1000000) :
    l45_2 ((fnd q, [], (k:Int), ()), ()) = some (.inl ((Bf.tr q k k, ()), ())):=by
  have hD:=Bf.tr_len q k k
  obtain ⟨d1, d2⟩:=Bf.bk_end F hk
  have key:=qcd (step:=s45_2) (fun t=>((fnd q, (Bf.pl q k t).reverse, ((Bf.bk q k t:Nat):Int), ()), ())) (b:=(((Bf.pl q k (Bf.tr q k k).length).reverse, ()), ())) (n:=(Bf.tr q k k).length) (m:=rounds) ?_ ?_ (qaN (by omega))
  · rw [d2, List.reverse_reverse] at key; exact key
  · intro t ht
    obtain ⟨h1, h2, h3⟩:=Bf.bk_tr F hk t (by omega)
    have h4:=Bf.bk_pos F hk ht
    have h5:=qk8 h1
    rw [if_neg (by omega)] at h5
    have h6:=(qnC F h1 h4).2
    rw [qnW F h1 h4, qnT h1, List.reverse_append]
    simp only [s45_2, t45_2, Tr.val_test, Tr.val_fin, qau, Int.toNat_natCast, h5, qgy, h6, List.length_reverse, h3]
    rw [if_pos (by simp; omega), if_pos (by simp), if_pos (by simp only [Bool.and_eq_true, qan]; omega)]
    rfl
  · obtain ⟨h1, h2, h3⟩:=Bf.bk_tr F hk _ (Nat.le_refl _)
    rw [d1] at h1 ⊢
    have h5:=qk8 h1
    rw [if_pos rfl] at h5
    simp only [s45_2, t45_2, Tr.val_test, Tr.val_fin, qau, Int.toNat_natCast, h5, qgy]
    rw [if_pos (by simp; omega), if_neg (by simp)]
theorem qoD {x:Lim} {now:Mot} {i:Nat} {q:List (Mot×Nat×Int)} (hq:∀ e, e ∈ q → okM x e.1 = true):∀ k, ∀ e, e ∈ ex1 x now i q k → okM x e.1 = true:=by
  intro k e he
  obtain ⟨r, h1, h2⟩:=Bf.exts_pre i (nxU x now k) q
  have he:e ∈ Bf.exts i q (nxU x now k):=he
  rw [h1] at he
  rcases List.mem_append.1 he with he | he
  · exact hq e he
  · obtain ⟨j, _, hp, hj⟩:=nxU_mem.1 (h2 e he).2
    have:e.1 = mvd now ((j:Int) - x.2.2.1):=congrArg (·.2) hj
    rw [this]; exact (prm_iff.1 hp).2.2
theorem l454 {x:Lim} (hx:okL x = true) (hw:x.1.1 ≤ x.1.2.1) {now:Mot} (hs:okM x now = true) {i:Nat} {q:List (Mot×Nat×Int)} (hi:i < q.length) (hn:mAt q i = now) (hq:∀ e, e ∈ q → okM x e.1 = true) (hl:q.length ≤ 1000000) (c:Nat) :
    l45_4 ((fnd q, ((cells x).toNat, c), (i:Int), -x.2.2.1, ()), (x.1.1, x.1.2.1, x.2.1, x.2.2.1, x.2.2.2.1, ()), sn x q, ()) = some (.inl ((fnd (Bf.exts i q (nx x now)), ((cells x).toNat, c), (i:Int), ()), (x.1.1, x.1.2.1, x.2.1, x.2.2.1, x.2.2.2.1, ()), sn x (Bf.exts i q (nx x now)), ())):=by
  have a:=okL_iff.1 hx
  have b:=qgM hx hs
  have hN:=qiz hx hw
  have key:=qcd (step:=s45_4) (fun k=>((fnd (ex1 x now i q k), ((cells x).toNat, c), (i:Int), (k:Int) - x.2.2.1, ()), (x.1.1, x.1.2.1, x.2.1, x.2.2.1, x.2.2.2.1, ()), sn x (ex1 x now i q k), ()))
    (b:=((fnd (ex1 x now i q (2 * x.2.2.1 + 1).toNat), ((cells x).toNat, c), (i:Int), ()), (x.1.1, x.1.2.1, x.2.1, x.2.2.1, x.2.2.2.1, ()), sn x (ex1 x now i q (2 * x.2.2.1 + 1).toNat), ())) (n:=(2 * x.2.2.1 + 1).toNat) (m:=rounds) ?_ ?_ (qaN (by omega))
  · have h0:(((0:Nat):Int) - x.2.2.1) = -x.2.2.1:=by omega
    have h1:ex1 x now i q 0 = q:=rfl
    rw [h0, h1] at key
    exact key
  · intro k hk
    obtain ⟨r, hr, hrf⟩:=qmT x now i q k
    have hlen:=qkI x now i q k
    have hok:=qoD (x:=x) (now:=now) (i:=i) hq k
    have hge:q.length ≤ (ex1 x now i q k).length:=by rw [hr, List.length_append]; omega
    have hnow:mAt (ex1 x now i q k) i = now:=by
      rw [hr]; simp only [mAt, List.getD_eq_getElem?_getD, List.getElem?_append_left hi] at hn ⊢; exact hn
    have e1:=qoU hx hs ((k:Int) - x.2.2.1)
    have w:wrap64 ((k:Int) - x.2.2.1 + 1) = ((k + 1:Nat):Int) - x.2.2.1:=by
      rw [qad (by omega) (by omega)]; omega
    rw [qh7]
    generalize ex1 x now i q k = E at hr hlen hnow hge hok ⊢
    have h0:0 < E.length:=by omega
    have hk2:(k:Int) - x.2.2.1 ≤ x.2.2.1:=by omega
    have hk3:k ≤ 7:=by omega
    have hf:=qk8 (show i < E.length by omega)
    rw [hnow] at hf
    have hsn:=qqB x E
    have e2:prm x now ((k:Int) - x.2.2.1) = true → okM x (mvd now ((k:Int) - x.2.2.1)) = true:=fun h=>(prm_iff.1 h).2.2
    generalize hp':(k:Int) - x.2.2.1 = p at *
    have hm:((mvd now p).1, (mvd now p).2.1, (mvd now p).2.2.1, ()) = mvd now p:=rfl
    have hm2:(now.1, now.2.1, now.2.2.1, ()) = now:=rfl
    have hx2:((x.1.1, x.1.2.1, ()), x.2.1, x.2.2.1, x.2.2.2.1, ()) = x:=rfl
    simp only [s45_4, t45_4, Tr.val_test, Tr.val_fin, qau, Int.toNat_natCast, hf, hm2, hx2, qgy, g50, e1, w, Option.isSome_some, Option.getD_some, if_true, dT hk2]
    rw [if_pos (by simp; omega)]
    rcases Bool.eq_false_or_eq_true (prm x now p) with hp | hp
    · have hmo:=e2 hp
      have e3:=qnq hx hmo
      have hb:=qgK hx hmo
      have e4:=qqt hx hok hmo false
      have e5:=qoV hx E (e:=(mvd now p, i, p)) hmo
      have e6:=qpS h0 (mvd now p, i, p)
      simp only [hp, if_true, hm, g124, e3, Option.isSome_some, Option.getD_some, Nat.zero_add, hsn, e4, Bf.add]
      have c1:(decide (0 ≤ cel x (mvd now p)) && decide (cel x (mvd now p) < ((cells x).toNat:Int))) = true:=by simp only [Bool.and_eq_true, decide_eq_true_eq]; omega
      have c2:Nat.ble ((cel x (mvd now p)).toNat + 1) (cells x).toNat = true:=by rw [qan]; omega
      rw [if_pos c1, if_pos c2]
      rcases Bool.eq_false_or_eq_true (Bf.has E (mvd now p)) with hh | hh
      · simp only [hh, Bool.not_true, Bool.false_eq_true, if_false, if_true]
      · simp only [hh, Bool.not_false, Bool.false_eq_true, if_false, if_true, e6]
        rw [if_pos (by simp only [Bool.and_eq_true, qan]; omega), e5]
    · simp only [hp, Bool.false_eq_true, if_false]
  · simp only [s45_4, t45_4, Tr.val_test, Tr.val_fin, qau]
    rw [if_neg (by simp; omega)]
theorem l450 {x:Lim} {s:Mot} (hx:okL x = true) (hw:x.1.1 ≤ x.1.2.1) (hs:okM x s = true) (c:Nat) :
    l45_0 ((fnd (Qm x s 0), ((cells x).toNat, c), (0:Int), ()), (x.1.1, x.1.2.1, x.2.1, x.2.2.1, x.2.2.2.1, ()), sn x (Qm x s 0), ()) = match stp x s with
      | some k=>some (.inr ((Bf.tr (Qm x s k) k k, true, ()), (x.1.1, x.1.2.1, x.2.1, x.2.2.1, x.2.2.2.1, ()), sn x (Qm x s k), ()))
      | none=>some (.inl ((), (x.1.1, x.1.2.1, x.2.1, x.2.2.1, x.2.2.2.1, ()), sn x (Qm x s (endn x s)), ())):=by
  obtain ⟨n1, n2, n3⟩:=qeI hx hw hs
  have key:=qf9 (step:=s45_0) (fun i=>((fnd (Qm x s i), ((cells x).toNat, c), (i:Int), ()), (x.1.1, x.1.2.1, x.2.1, x.2.2.1, x.2.2.2.1, ()), sn x (Qm x s i), ())) (fun i=>rest (mAt (Qm x s i) i))
    (fun k=>((Bf.tr (Qm x s k) k k, true, ()), (x.1.1, x.1.2.1, x.2.1, x.2.2.1, x.2.2.2.1, ()), sn x (Qm x s k), ())) (n:=endn x s) (m:=rounds)
    (b:=((), (x.1.1, x.1.2.1, x.2.1, x.2.2.1, x.2.2.2.1, ()), sn x (Qm x s (endn x s)), ())) ?_ ?_ (qaN (by omega))
  · exact key
  · intro i hi hbad
    have hil:=n3 i hi
    have hjl:∀ j, j < i → j < (Qm x s j).length:=fun j hj=>n3 j (by omega)
    have hQl:(Qm x s i).length ≤ 14399:=qn5 hx hw hs i
    have hok:=qoY hs hil
    have e0:=qk8 hil
    have e1:=qp9 (mAt (Qm x s i) i)
    have hm:((mAt (Qm x s i) i).1, (mAt (Qm x s i) i).2.1, (mAt (Qm x s i) i).2.2.1, ()) = mAt (Qm x s i) i:=rfl
    have a:=okL_iff.1 hx
    have hng:IntKind.wrap .i64 (0 - x.2.2.1) = -x.2.2.1:=qgu (by omega) (by omega)
    simp only [s45_0, t45_0, Tr.val_test, Tr.val_fin, qau, Int.toNat_natCast, e0, hm, g49, e1, qgy, Option.isSome_some, Option.getD_some, if_true, hng]
    rw [if_pos (by simp; omega), if_pos (by simp; omega)]
    rcases Bool.eq_false_or_eq_true (rest (mAt (Qm x s i) i)) with hr | hr
    · have F:=Bf.Q_fin (nx x) s 0 i hjl (Nat.le_of_lt hil)
      have e2:=l452 F hil (show (Qm x s i).length ≤ 1000000 by omega)
      simp only [hr, if_true, e2, qbQ, b45_2, outB, Option.isSome_some]
    · have e2:=l454 hx hw hok hil rfl (qqp hs i) (by omega) c
      rw [← qnw hil] at e2
      simp only [hr, Bool.false_eq_true, if_false, e2, qbQ, b45_4, outB, Option.isSome_some, if_true, qb1 (show i ≤ 9223372036854775806 by omega)]
  · intro _
    simp only [s45_0, t45_0, Tr.val_test, Tr.val_fin, qau, qgy, n2]
    rw [if_neg (by simp)]
theorem qqj {x:Lim} {s:Mot} (hx:okL x = true) (hw:x.1.1 ≤ x.1.2.1) (hs:okM x s = true):f45 (x, s, ()) = some ((res x s).getD [], (res x s).isSome, ()):=by
  have a:=okL_iff.1 hx
  have hN:=qiz hx hw
  have hb:=qgK hx hs
  have e1:=qnq hx hs
  have h1:0 ≤ (x.1.2.1 - x.1.1 + 1) * (2 * x.2.1 + 1) ∧ (x.1.2.1 - x.1.1 + 1) * (2 * x.2.1 + 1) ≤ 121 * 17:=⟨Int.mul_nonneg (by omega) (by omega), Int.mul_le_mul (by omega) (by omega) (by omega) (by omega)⟩
  have w1:wrap64 (x.1.2.1 - x.1.1) = x.1.2.1 - x.1.1:=qad (by omega) (by omega)
  have w2:wrap64 (x.1.2.1 - x.1.1 + 1) = x.1.2.1 - x.1.1 + 1:=qad (by omega) (by omega)
  have w3:wrap64 (2 * x.2.1) = 2 * x.2.1:=qad (by omega) (by omega)
  have w4:wrap64 (2 * x.2.1 + 1) = 2 * x.2.1 + 1:=qad (by omega) (by omega)
  have w5:wrap64 (2 * x.2.2.1) = 2 * x.2.2.1:=qad (by omega) (by omega)
  have w6:wrap64 (2 * x.2.2.1 + 1) = 2 * x.2.2.1 + 1:=qad (by omega) (by omega)
  have w7:wrap64 ((x.1.2.1 - x.1.1 + 1) * (2 * x.2.1 + 1)) = (x.1.2.1 - x.1.1 + 1) * (2 * x.2.1 + 1):=qad (by omega) (by omega)
  have hc:(x.1.2.1 - x.1.1 + 1) * (2 * x.2.1 + 1) * (2 * x.2.2.1 + 1) = cells x:=rfl
  have w8:wrap64 (cells x) = cells x:=qad (by omega) (by omega)
  have e2:List.set (List.replicate (cells x).toNat false) (0 + (cel x s).toNat) true = sn x (Qm x s 0):=by
    rw [Nat.zero_add]
    have:=qoV hx [] (e:=(s, 0, (0:Int))) hs
    rw [qqn] at this
    exact this
  have e3:[((s.1, s.2.1, s.2.2.1, ()), (-1:Int), (0:Int), ())] = fnd (Qm x s 0):=rfl
  have e4:=l450 hx hw hs (cells x).toNat
  have hx2:((x.1.1, x.1.2.1, ()), x.2.1, x.2.2.1, x.2.2.2.1, ()) = x:=rfl
  have hm2:(s.1, s.2.1, s.2.2.1, ()) = s:=rfl
  simp only [f45, t45, Tr.val_test, Tr.val_fin, w1, w2, w3, w4, w5, w6, w7, hc, w8, hx2, hm2, g124, e1, Option.isSome_some, Option.getD_some, if_true, e2]
  have hn:((cells x).toNat:Int) = cells x:=by omega
  have c1:(decide (0 ≤ cells x) && decide (cells x ≤ cells x) && decide (1 * cells x ≤ 281474976710656) && decide (cells x ≤ 281474976710656)) = true:=by simp only [Bool.and_eq_true, decide_eq_true_eq]; omega
  have c2:(decide (0 ≤ cel x s) && decide (cel x s < ((cells x).toNat:Int))) = true:=by simp only [Bool.and_eq_true, decide_eq_true_eq]; omega
  have c3:Nat.ble (0 + (cel x s).toNat + 1) (List.replicate (cells x).toNat false).length = true:=by rw [qan, List.length_replicate]; omega
  rw [if_pos c1, if_pos c2, if_pos c3]
  have e3:[(s, (-1:Int), (0:Int), ())] = fnd (Qm x s 0):=rfl
  unfold res
  cases hk:stp x s with
  | none =>
    simp only [hk] at e4
    simp only [e3, e4, qeA, Option.isSome_some, if_true, Bool.false_eq_true, if_false]
    rfl
  | some k =>
    simp only [hk] at e4
    simp only [e3, e4, qeA, r45_0, outR, Option.isSome_some, if_true]
    rfl
end Go.Vm.Mo

namespace Go.Vm.Mo
open Go
set_option linter.unusedVariables false
set_option linter.unusedSimpArgs false
def wyU (x:Lim) (s:Mot):Nat → List Int
  | 0=>[]
  | k + 1=>wyU x s k++if (prm x s ((k:Int) - x.2.2.1) && (res x (mvd s ((k:Int) - x.2.2.1))).isSome) = true then [(k:Int) - x.2.2.1] else []
def wys (x:Lim) (s:Mot):List Int:=wyU x s (2 * x.2.2.1 + 1).toNat
theorem qij (x:Lim) (s:Mot):∀ k, (wyU x s k).length ≤ k
  | 0=>Nat.le_refl _
  | k + 1=>by
    have:=qij x s k
    unfold wyU
    rw [List.length_append]
    split <;> simp <;> omega
theorem qqK {x:Lim} (hx:okL x = true) (hw:x.1.1 ≤ x.1.2.1) {s:Mot} (hs:okM x s = true) :
    l162_0_1 ((-x.2.2.1, ()), (), (x.1.1, x.1.2.1, x.2.1, x.2.2.1, x.2.2.2.1, ()), s, (x.1.1, x.1.2.1, x.2.1, x.2.2.1, x.2.2.2.1, ()), ([], ()), ()) = some (.inl ((), (), (x.1.1, x.1.2.1, x.2.1, x.2.2.1, x.2.2.2.1, ()), s, (x.1.1, x.1.2.1, x.2.1, x.2.2.1, x.2.2.2.1, ()), (wys x s, ()), ())):=by
  have a:=okL_iff.1 hx
  have b:=qgM hx hs
  have key:=qcd (step:=s162_0_1) (fun k=>(((k:Int) - x.2.2.1, ()), (), (x.1.1, x.1.2.1, x.2.1, x.2.2.1, x.2.2.2.1, ()), s, (x.1.1, x.1.2.1, x.2.1, x.2.2.1, x.2.2.2.1, ()), (wyU x s k, ()), ()))
    (b:=((), (), (x.1.1, x.1.2.1, x.2.1, x.2.2.1, x.2.2.2.1, ()), s, (x.1.1, x.1.2.1, x.2.1, x.2.2.1, x.2.2.2.1, ()), (wyU x s (2 * x.2.2.1 + 1).toNat, ()), ())) (n:=(2 * x.2.2.1 + 1).toNat) (m:=rounds) ?_ ?_ (qaN (by omega))
  · have h0:(((0:Nat):Int) - x.2.2.1) = -x.2.2.1:=by omega
    have h1:wyU x s 0 = []:=rfl
    rw [h0, h1] at key
    exact key
  · intro k hk
    have hlen:=qij x s k
    have e1:=qnY hx hs ((k:Int) - x.2.2.1)
    have w:wrap64 ((k:Int) - x.2.2.1 + 1) = ((k + 1:Nat):Int) - x.2.2.1:=by
      rw [qad (by omega) (by omega)]; omega
    have hk2:(k:Int) - x.2.2.1 ≤ x.2.2.1:=by omega
    have hk3:k ≤ 7:=by omega
    have hk4:-1000 ≤ (k:Int) - x.2.2.1 ∧ (k:Int) - x.2.2.1 ≤ 1000:=by omega
    have hu:wyU x s (k + 1) = wyU x s k++if (prm x s ((k:Int) - x.2.2.1) && (res x (mvd s ((k:Int) - x.2.2.1))).isSome) = true then [(k:Int) - x.2.2.1] else []:=rfl
    rw [hu]
    generalize hp':(k:Int) - x.2.2.1 = p at *
    have hm:((mvd s p).1, (mvd s p).2.1, (mvd s p).2.2.1, ()) = mvd s p:=rfl
    have hm2:(s.1, s.2.1, s.2.2.1, ()) = s:=rfl
    have hx2:((x.1.1, x.1.2.1, ()), x.2.1, x.2.2.1, x.2.2.2.1, ()) = x:=rfl
    simp only [s162_0_1, t162_0_1, Tr.val_test, Tr.val_fin, qau, hm2, hx2, g120, e1, w, Option.isSome_some, Option.getD_some, if_true, dT hk2]
    rcases Bool.eq_false_or_eq_true (prm x s p) with hp | hp
    · have hmo:=(prm_iff.1 hp).2.2
      have e2:=qjZ s p ⟨by omega, by omega⟩ ⟨by omega, by omega⟩ hk4
      have e3:=qpK hx hw hmo
      simp only [hp, if_true, g121, e2, hm, g119, e3, Option.isSome_some, Option.getD_some, Bool.true_and]
      rcases Bool.eq_false_or_eq_true (res x (mvd s p)).isSome with hh | hh
      · simp only [hh, if_true]
        rw [if_pos (by simp only [Bool.and_eq_true, qan]; omega)]
      · simp only [hh, Bool.false_eq_true, if_false, List.append_nil]
    · simp only [hp, Bool.false_eq_true, if_false, Bool.false_and, List.append_nil]
  · simp only [s162_0_1, t162_0_1, Tr.val_test, Tr.val_fin, qau]
    rw [if_neg (by simp; omega)]
theorem qqx (x:Lim) (s:Mot):f47 (x, s, ()) = some (if mE x s = 0 then (wys x s, 0, ()) else ([], mE x s, ())):=by
  have e1:=qpR x s
  by_cases h:mE x s = 0
  · obtain ⟨hx, hw, hs⟩:=qnA h
    have a:=okL_iff.1 hx
    have hng:IntKind.wrap .i64 (0 - x.2.2.1) = -x.2.2.1:=qgu (by omega) (by omega)
    have e2:=qqK hx hw hs
    rw [if_pos h] at e1 ⊢
    simp only [f47, t47, Tr.val_test, Tr.val_fin, qch, g118, e1, Option.isSome_some, Option.getD_some, if_true, decide_true, Bool.not_true, Bool.false_eq_true, if_false, hng]
    have hm2:(s.1, s.2.1, s.2.2.1, ()) = s:=rfl
    simp only [hm2, e2, qbQ, b162_0_1, outB, Option.isSome_some, if_true]
  · rw [if_neg h] at e1 ⊢
    simp only [f47, t47, Tr.val_test, Tr.val_fin, qch, g118, e1, Option.isSome_some, Option.getD_some, if_true, nT h]
theorem l48 {x:Lim} (hx:okL x = true) (hw:x.1.1 ≤ x.1.2.1) {s:Mot} (hs:okM x s = true) :
    l48_0 (([], -x.2.2.1, ()), (x.1.1, x.1.2.1, x.2.1, x.2.2.1, x.2.2.2.1, ()), s, ()) = some (.inl ((wys x s, ()), (x.1.1, x.1.2.1, x.2.1, x.2.2.1, x.2.2.2.1, ()), s, ())):=by
  have a:=okL_iff.1 hx
  have b:=qgM hx hs
  have key:=qcd (step:=s48_0) (fun k=>((wyU x s k, (k:Int) - x.2.2.1, ()), (x.1.1, x.1.2.1, x.2.1, x.2.2.1, x.2.2.2.1, ()), s, ()))
    (b:=((wyU x s (2 * x.2.2.1 + 1).toNat, ()), (x.1.1, x.1.2.1, x.2.1, x.2.2.1, x.2.2.2.1, ()), s, ())) (n:=(2 * x.2.2.1 + 1).toNat) (m:=rounds) ?_ ?_ (qaN (by omega))
  · have h0:(((0:Nat):Int) - x.2.2.1) = -x.2.2.1:=by omega
    have h1:wyU x s 0 = []:=rfl
    rw [h0, h1] at key
    exact key
  · intro k hk
    have hlen:=qij x s k
    have e1:=qoU hx hs ((k:Int) - x.2.2.1)
    have w:wrap64 ((k:Int) - x.2.2.1 + 1) = ((k + 1:Nat):Int) - x.2.2.1:=by
      rw [qad (by omega) (by omega)]; omega
    have hk2:(k:Int) - x.2.2.1 ≤ x.2.2.1:=by omega
    have hk3:k ≤ 7:=by omega
    have hu:wyU x s (k + 1) = wyU x s k++if (prm x s ((k:Int) - x.2.2.1) && (res x (mvd s ((k:Int) - x.2.2.1))).isSome) = true then [(k:Int) - x.2.2.1] else []:=rfl
    rw [hu]
    generalize hp':(k:Int) - x.2.2.1 = p at *
    have hm:((mvd s p).1, (mvd s p).2.1, (mvd s p).2.2.1, ()) = mvd s p:=rfl
    have hm2:(s.1, s.2.1, s.2.2.1, ()) = s:=rfl
    have hx2:((x.1.1, x.1.2.1, ()), x.2.1, x.2.2.1, x.2.2.2.1, ()) = x:=rfl
    simp only [s48_0, t48_0, Tr.val_test, Tr.val_fin, qau, hm2, hx2, g50, e1, w, Option.isSome_some, Option.getD_some, if_true, dT hk2]
    rcases Bool.eq_false_or_eq_true (prm x s p) with hp | hp
    · have hmo:=(prm_iff.1 hp).2.2
      have e3:=qqj hx hw hmo
      simp only [hp, if_true, hm, g45, e3, Option.isSome_some, Option.getD_some, Bool.true_and]
      rcases Bool.eq_false_or_eq_true (res x (mvd s p)).isSome with hh | hh
      · simp only [hh, if_true]
        rw [if_pos (by simp only [Bool.and_eq_true, qan]; omega)]
      · simp only [hh, Bool.false_eq_true, if_false, List.append_nil]
    · simp only [hp, Bool.false_eq_true, if_false, Bool.false_and, List.append_nil]
  · simp only [s48_0, t48_0, Tr.val_test, Tr.val_fin, qau]
    rw [if_neg (by simp; omega)]
theorem qqe {x:Lim} (hx:okL x = true) (hw:x.1.1 ≤ x.1.2.1) {s:Mot} (hs:okM x s = true):f48 (x, s, ()) = some (wys x s, ()):=by
  have a:=okL_iff.1 hx
  have hng:IntKind.wrap .i64 (0 - x.2.2.1) = -x.2.2.1:=qgu (by omega) (by omega)
  have e2:=l48 hx hw hs
  have hm2:(s.1, s.2.1, s.2.2.1, ()) = s:=rfl
  simp only [f48, t48, Tr.val_test, Tr.val_fin, hng, hm2, e2, qbQ, b48_0, outB, Option.isSome_some, if_true]
theorem qqs (x:Lim) (s:Mot):f8 (x, s, ()) = some (true, ()):=by
  have e1:=qp7 x s
  have e2:=qqx x s
  have hm2:(s.1, s.2.1, s.2.2.1, ()) = s:=rfl
  have hx2:((x.1.1, x.1.2.1, ()), x.2.1, x.2.2.1, x.2.2.2.1, ()) = x:=rfl
  simp only [f8, t8, Tr.val_test, Tr.val_fin, hm2, hx2, qch, qau, g44, e1, Option.isSome_some, Option.getD_some, if_true]
  by_cases h:mE x s = 0
  · obtain ⟨hx, hw, hs⟩:=qnA h
    rw [if_pos h] at e2
    have e3:=qqe hx hw hs
    have a:=okL_iff.1 hx
    have e4:=qn8 (wys x s) (by have:=qij x s (2 * x.2.2.1 + 1).toNat; unfold wys; omega)
    rw [if_pos (dT h)]
    split
    · rfl
    · simp only [g47, e2, g48, e3, g23, e4, Option.isSome_some, Option.getD_some, if_true, decide_true]
  · rw [if_neg h] at e2
    rw [if_neg (by simp [h])]
    simp only [g47, e2, Option.isSome_some, Option.getD_some, if_true, decide_true]
    rfl
theorem law8 (d:Tys.data as8) (hw:Tys.Wf as8 d):ql9 Go.Proofs.Tryz.prog 8 as8 [.bool] d (true, ()):=by
  have h:=qqs d.1 d.2.1
  have hp:p8.pre d = true:=by
    show Option.isSome (f8 d) = true
    rw [show f8 d = some (true, ()) from h]; rfl
  have hg:p8.fn d = (true, ()):=by
    show (f8 d).getD _ = _
    rw [show f8 d = some (true, ()) from h]; rfl
  have:=ok8.runs d hp
  rw [hg] at this
  exact this
end Go.Vm.Mo
